import PyProof.Rows.All
import Wide.All
import OpenK.AllK
import Wide.FinOn
import Lean
import PyProof.EqAt
import PyProof.EqKinds
import PyProof.TupleCall
import PyProof.StrLawsRepr
import PyProof.NeKinds
import KE.KEqDict
import KE.KDictOf
import KE.KPairComp
import PySem.Challenge.RW_cardshop_k59_printer
set_option Elab.async false
set_option compiler.extract_closed false
set_option linter.all false
set_option maxRecDepth 100000
set_option maxHeartbeats 4000000
def PySem.W.Fast.tw6265984752729544111:Unit:=()
def PySem.W.Fast.tw4243246970513240066:Unit:=()
def PySem.W.Fast.tw11621957637457991349:Unit:=()
def PySem.W.Fast.tw3586289887031554559:Unit:=()
def PySem.W.Fast.tw12054151823910956780:Unit:=()
def PySem.W.Fast.tw14230093853090800581:Unit:=()
def PySem.W.Fast.tw6914360362393631215:Unit:=()
def PySem.W.Fast.tw11008145959007762264:Unit:=()
def PySem.W.Fast.tw4693559639299988658:Unit:=()
def PySem.W.Fast.tw11659321242516828150:Unit:=()
def PySem.W.Fast.tw1264559104200965768:Unit:=()
def PySem.W.Fast.tw9057541101885660988:Unit:=()
def PySem.W.Fast.tw14430377014219374481:Unit:=()
def PySem.W.Fast.tw8292604330929693658:Unit:=()
def PySem.W.Fast.tw5638587129312666137:Unit:=()
def PySem.W.Fast.tw5321381105316913264:Unit:=()
def PySem.W.Fast.tw13502136883157472493:Unit:=()
def PySem.W.Fast.tw16769609310246080878:Unit:=()
def PySem.W.Fast.tw1423193363738640363:Unit:=()
def PySem.W.Fast.tw10983740509806361549:Unit:=()
def PySem.W.Fast.tw13604150129682651884:Unit:=()
def PySem.W.Fast.tw17660358205223074485:Unit:=()
def PySem.W.Fast.tw427716495379872786:Unit:=()
def PySem.W.Fast.tw17591746057350656777:Unit:=()
def PySem.W.Fast.tw16938314417947951692:Unit:=()
def PySem.W.Fast.tw6869532121923684456:Unit:=()
def PySem.W.Fast.tw13442768080498192358:Unit:=()
def PySem.W.Fast.tw16211476897282609642:Unit:=()
def PySem.W.Fast.tw16058440367788265227:Unit:=()
def PySem.W.Fast.tw619775327348347687:Unit:=()
def PySem.W.Fast.tw4885548910497934923:Unit:=()
def PySem.W.Fast.tw5764199557823114597:Unit:=()
def PySem.W.Fast.tw8007925662543810503:Unit:=()
def PySem.W.Fast.tw16388741133310253737:Unit:=()
def PySem.W.Fast.tw5091795812101331091:Unit:=()
def PySem.W.Fast.tw9267730516023352662:Unit:=()
def PySem.W.Fast.tw1832353384457213566:Unit:=()
def PySem.W.Fast.tw14975947521191691035:Unit:=()
def PySem.W.Fast.tw1594305352525568913:Unit:=()
def PySem.W.Fast.tw16819192673697697795:Unit:=()
def PySem.W.Fast.tw8945702898322779333:Unit:=()
def PySem.W.Fast.tw17143086395280710735:Unit:=()
noncomputable section
namespace L2
open PySem PySem.Spec PyProof.Rows
abbrev Fgg:=PySem.W.Frag
abbrev Pnn:=List (Addr×Obj)
abbrev Key:=Sum Int Str
def keyIs:Key→Value→Bool
 | .inl k,v=>Value.isInt k v
 | .inr x,v=>Value.isStrOf x v
def keyH (w:World):Key→Int
 | .inl k=>hashInt k
 | .inr x=>hashStr w x
theorem zae_:∀ {k:Key}{v:Value},keyIs k v=true→(∃ i t,k=Sum.inl i∧v=Value.int i t)∨(∃ x t,k=Sum.inr x∧v=Value.str x t)
 | .inl i,v,h=>by
  obtain ⟨t,e⟩:=Value.isInt_shape (k:=i) (v:=v) h
  exact .inl ⟨i,t,rfl,e⟩
 | .inr x,v,h=>by
  obtain ⟨t,e⟩:=Value.isStrOf_shape (x:=x) (v:=v) h
  exact .inr ⟨x,t,rfl,e⟩
theorem zkv_ (i:Int) (t:Tok):keyIs (.inl i) (.int i t)=true:=by simp [keyIs,Value.isInt]
theorem zk7_ (x:Str) (t:Tok):keyIs (.inr x) (.str x t)=true:=by simp [keyIs,Value.isStrOf]
theorem zpc_ (a b:Int):decide ((Sum.inl a:Key)=Sum.inl b)=(a == b):=by
 by_cases e:a=b
 ·subst e; simp
 ·have h:¬ (Sum.inl a:Key)=Sum.inl b:=fun q=>e (Sum.inl.inj q)
  rw [decide_eq_false h]
  exact (beq_eq_false_iff_ne.mpr e).symm
theorem zpo_ (a b:Str):decide ((Sum.inr a:Key)=Sum.inr b)=decide (a=b):=by
 by_cases e:a=b
 ·subst e; simp
 ·have h:¬ (Sum.inr a:Key)=Sum.inr b:=fun q=>e (Sum.inr.inj q)
  rw [decide_eq_false h,decide_eq_false e]
theorem zpq_ (a:Int) (b:Str):decide ((Sum.inl a:Key)=Sum.inr b)=false:=decide_eq_false (fun q=>nomatch q)
theorem zqx_ (a:Str) (b:Int):decide ((Sum.inr a:Key)=Sum.inl b)=false:=decide_eq_false (fun q=>nomatch q)
def mixKind (prog:Program) (w:World):PySem.KeyKind prog w Key where
 is:=keyIs
 hash:=keyH w
 inj:=fun v a b ha hb=>by
  rcases zae_ ha with ⟨i,t,rfl,rfl⟩ | ⟨x,t,rfl,rfl⟩
  ·rcases zae_ hb with ⟨j,u,rfl,e⟩ | ⟨y,u,rfl,e⟩
   ·injection e with e1 _; rw [e1]
   ·exact nomatch e
  ·rcases zae_ hb with ⟨j,u,rfl,e⟩ | ⟨y,u,rfl,e⟩
   ·exact nomatch e
   ·injection e with e1 _; rw [e1]
 byValue:=fun k v h=>by
  rcases zae_ h with ⟨i,t,rfl,rfl⟩ | ⟨x,t,rfl,rfl⟩<;>rfl
 pyHash:=fun hv h=>by
  rcases zae_ hv with ⟨i,t,rfl,rfl⟩ | ⟨x,t,rfl,rfl⟩
  ·exact wpAny_pyHash_int h
  ·exact wpAny_pyHash_str h
 eqBool:=fun hu hv h=>by
  rcases zae_ hu with ⟨i,t,rfl,rfl⟩ | ⟨x,t,rfl,rfl⟩
  ·rcases zae_ hv with ⟨j,u,rfl,rfl⟩ | ⟨y,u,rfl,rfl⟩
   ·rw [zpc_] at h; exact wpAny_eqBool_int h
   ·rw [zpq_] at h; exact SeqAt.EqAt.int_str i t y u _ _ _ _ h
  ·rcases zae_ hv with ⟨j,u,rfl,rfl⟩ | ⟨y,u,rfl,rfl⟩
   ·rw [zqx_] at h; exact SeqAt.EqAt.str_int x t j u _ _ _ _ h
   ·rw [zpo_] at h; exact wpAny_eqBool_str h
 «strs»:=fun k x t v h=>by
  rcases zae_ h with ⟨i,u,rfl,e⟩ | ⟨y,u,rfl,e⟩
  ·exact nomatch e
  ·injection e with e1 _
   subst e1
   cases v<;>rfl
theorem zjF_ (prog:Program) (w:World) (k:Key) (v:Value):(mixKind prog w).is k v=keyIs k v:=rfl
theorem zig_ (prog:Program) (w:World) (i:Int) (t:Tok):(mixKind prog w).is (.inl i) (.int i t)=true:=zkv_ i t
theorem zio_ (prog:Program) (w:World) (x:Str) (t:Tok):(mixKind prog w).is (.inr x) (.str x t)=true:=zk7_ x t
end L2
namespace L2
open PySem PySem.Spec PyProof.Rows
inductive V where
 | non | bl (b:Bool) | int (i:Int) | str (x:Str) | byt (b:Array UInt8) | flt (b:UInt64) | ref (a:Addr) | ty (n:String)
 deriving DecidableEq
def RelV:V→Value→Prop
 | .non,u=>u=Value.none
 | .bl b,u=>u=Value.bool b
 | .int i,u=>∃ t,u=Value.int i t
 | .str x,u=>∃ t,u=Value.str x t
 | .byt b,u=>∃ t,u=Value.bytes b t
 | .flt b,u=>∃ t,u=Value.float b t
 | .ref a,u=>u=Value.ref a
 | .ty n,u=>u=Value.type n
abbrev Vals:List V→List Value→Prop:=Paired RelV
theorem Vals.length {xs:List V}{us:List Value}(r:Vals xs us):xs.length=us.length:=Paired.length r
theorem Vals.get:∀ {xs:List V}{us:List Value}{i:Nat}{x:V},Vals xs us→xs[i]?=some x→∃ u,us[i]?=some u∧RelV x u
 | _,_,_,_,.nil,e=>by simp at e
 | _,_,0,_,.cons r _,e=>by simp at e; subst e; exact ⟨_,rfl,r⟩
 | _,_,i+1,x,.cons _ t,e=>by
  obtain ⟨u,h1,h2⟩:=Vals.get (i:=i) (x:=x) t (by simpa using e)
  exact ⟨u,by simpa using h1,h2⟩
theorem Vals.set {x:V}{u:Value}(r:RelV x u):∀ {xs:List V}{us:List Value}(i:Nat),Vals xs us→Vals (xs.set i x) (us.set i u)
 | _,_,_,.nil=>.nil
 | _,_,0,.cons _ t=>.cons r t
 | _,_,i+1,.cons q t=>.cons q (Vals.set r i t)
theorem Vals.append:∀ {xs ys:List V}{us ws:List Value},Vals xs us→Vals ys ws→Vals (xs++ys) (us++ws)
 | _,_,_,_,.nil,s=>s
 | _,_,_,_,.cons r t,s=>.cons r (Vals.append t s)
theorem Vals.take:∀ {xs:List V}{us:List Value}(n:Nat),Vals xs us→Vals (xs.take n) (us.take n)
 | _,_,0,_=>.nil
 | _,_,_+1,.nil=>.nil
 | _,_,n+1,.cons r t=>.cons r (Vals.take n t)
theorem Vals.drop:∀ {xs:List V}{us:List Value}(n:Nat),Vals xs us→Vals (xs.drop n) (us.drop n)
 | _,_,0,r=>r
 | _,_,_+1,.nil=>.nil
 | _,_,n+1,.cons _ t=>Vals.drop n t
def RelO:Option V→Option Value→Prop
 | some v,some u=>RelV v u
 | none,none=>True
 | _,_=>False
def KV {κ:Type}:List (κ×V)→List (κ×Value)→Prop:=Paired fun (p:κ×V) (q:κ×Value)=>p.1=q.1∧RelV p.2 q.2
def kV:Key→V
 | .inl i=>.int i
 | .inr x=>.str x
inductive HO where
 | lst (xs:List V)
 | tup (xs:List V)
 | dK (kvs:List (Key×V)) | dT (kvs:List (List Key×V))
 | set (S:Int→Bool) (n:Nat)
 | ins (C dx:Addr) (fs:List (Str×V))
 | own (x:Addr)
 | xd (fs:List (Str×V))
 | met (f x:Addr)
 | rng (lo hi:Int)
 | frz (o:Obj) (u:HO)
 | tbl (ps:Array Value)
 | ext (φ:Heap→Prop)
abbrev Hp:=Addr→Option HO
def upd (H:Hp) (a:Addr) (o:HO):Hp:=fun b=>if b=a then some o else H b
theorem zaC_ {H:Hp}{a:Addr}{o:HO}:upd H a o a=some o:=by unfold upd; rw [if_pos rfl]
theorem z7_ {H:Hp}{a b:Addr}{o:HO}(h:b≠a):upd H a o b=H b:=by unfold upd; rw [if_neg h]
theorem ne_of {H:Hp}{a b:Addr}{o u:HO}(h:H a=some o) (h':H b=some u) (d:o≠u):a≠b:=by
 intro e; subst e; rw [h] at h'; exact d (Option.some.inj h')
theorem zbL_ {H:Hp}{a b:Addr}{o:HO}(h:H a=some o) (h':H b=none):a≠b:=by
 intro e; subst e; rw [h] at h'; cases h'
section
variable (P:Program) (w:World)
def ObjOk (H:Hp) (h:Heap) (a:Addr):HO→Prop
 | .lst xs=>xs.length≤sizeLine∧∃ (its:List Value) (n:Nat),Vals xs its∧h.get? a=some { cls:=.type "list",data:=.seq its.toArray n }
 | .tup xs=>xs.length≤sizeLine∧∃ its:List Value,Vals xs its∧IsTup h a its.toArray
 | .dK kvs=>kvs.length≤sizeLine∧(a == sysModules)=false∧∃ vs,KV kvs vs∧h.DictOf (mixKind P w) a vs
 | .dT kvs=>kvs.length≤sizeLine∧(a == sysModules)=false∧∃ xs:List (List Key×Addr×Value),
   Paired (fun (p:List Key×V) (q:List Key×Addr×Value)=>p.1=q.1∧H q.2.1=some (.tup (p.1.map kV))∧RelV p.2 q.2.2) kvs xs ∧
   ∃ o es ep,h.get? a=some o∧o.ExactDict∧o.data=.dict es ep∧es.toList=xs.map (entryOfKey (tupleKind (mixKind P w)))∧(xs.map (·.1)).Nodup
 | .set S n=>h.SetOf (intKind P w) a S n
 | .ins C dx fs=>H dx=some (.own a)∧fs.length≤1000∧dx≠a∧h.get? a=some (PySem.W.instObj C dx) ∧
   ∃ mA,h.Ns1 dx mA∧(∀ f,RelO (fs.lookup f) (mA f))∧PySem.Within mA (fs.map (·.1))
 | .own _=>∃ o,h.get? a=some o
 | .xd fs=>∃ mA,h.Ns1 a mA∧∀ f,RelO (fs.lookup f) (mA f)
 | .rng lo hi=>∃ t u v,h.get? a=some { cls:=.type "range",data:=.fields #[.int lo t,.int hi u,.int 1 v] }
 | .frz o u=>h.get? a=some o∧ObjOk H h a u
 | .tbl ps=>h.get? a=some { cls:=.none,data:=.fields ps }
 | .met f x=>h.get? a=some (PySem.W.methodObj (.ref f) (.ref x))
 | .ext φ=>φ h∧(∃ o,h.get? a=some o)∧∀ h1 h2:Heap,φ h1→(∀ o,h1.get? a=some o→h2.get? a=some o)→φ h2
def HOk (H:Hp) (h:Heap):Prop:=∀ a o,H a=some o→ObjOk P w H h a o
end
section
variable {P:Program}{w:World}{H H':Hp}{h h':Heap}{a:Addr}{o:HO}
theorem ObjOk.lt (x:ObjOk P w H h a o):a<h.objs.size:=by
 cases o with
 | lst xs=>obtain ⟨_,_,_,_,e⟩:=x; exact Heap.lt_size e
 | tup xs=>obtain ⟨_,_,_,p⟩:=x; exact p.lt
 | dK kvs=>obtain ⟨_,_,_,_,o,_,_,e,_⟩:=x; exact Heap.lt_size e
 | dT kvs=>obtain ⟨_,_,_,_,o,_,_,e,_⟩:=x; exact Heap.lt_size e
 | set S n=>obtain ⟨o,_,_,_,e,_⟩:=x; exact Heap.lt_size e
 | ins C dx fs=>obtain ⟨_,_,_,e,_⟩:=x; exact Heap.lt_size e
 | own y=>obtain ⟨_,e⟩:=x; exact Heap.lt_size e
 | xd fs=>obtain ⟨_,⟨_,_,_,e,_⟩,_⟩:=x; exact Heap.lt_size e
 | rng lo hi=>obtain ⟨_,_,_,e⟩:=x; exact Heap.lt_size e
 | frz ob u=>obtain ⟨e,_⟩:=x; exact Heap.lt_size e
 | tbl ps=>exact Heap.lt_size (show h.get? a=some _ from x)
 | met f y=>exact Heap.lt_size (show h.get? a=some _ from x)
 | ext φ=>obtain ⟨_,⟨_,e⟩,_⟩:=x; exact Heap.lt_size e
theorem Paired.mapP {α β:Type}{F G:α→β→Prop}:∀ {l₁:List α}{l₂:List β},Paired F l₁ l₂→(∀ a b,F a b→G a b)→Paired G l₁ l₂
 | _,_,.nil,_=>.nil
 | _,_,.cons r t,f=>.cons (f _ _ r) (Paired.mapP t f)
theorem ObjOk.stay (x:ObjOk P w H h a o) (k:∀ b u,(b=a∨H b=some (.own a))→h.get? b=some u→h'.get? b=some u)
  (ho:∀ b,H b=some (.own a)→H' b=some (.own a)) (ht:∀ b xs,H b=some (.tup xs)→H' b=some (.tup xs)):ObjOk P w H' h' a o:=by
 induction o with
 | lst xs=>obtain ⟨z,its,n,r,e⟩:=x; exact ⟨z,its,n,r,k _ _ (.inl rfl) e⟩
 | tup xs=>obtain ⟨z,its,r,ob,e,c⟩:=x; exact ⟨z,its,r,ob,k _ _ (.inl rfl) e,c⟩
 | dK kvs=>obtain ⟨z,y,vs,r,ob,es,ep,e,c⟩:=x; exact ⟨z,y,vs,r,ob,es,ep,k _ _ (.inl rfl) e,c⟩
 | dT kvs =>
  obtain ⟨z,y,xs,r,ob,es,ep,e,c⟩:=x
  exact ⟨z,y,xs,Paired.mapP r fun p q z=>⟨z.1,ht _ _ z.2.1,z.2.2⟩,ob,es,ep,k _ _ (.inl rfl) e,c⟩
 | set S n=>obtain ⟨ob,es,ep,t,e,c⟩:=x; exact ⟨ob,es,ep,t,k _ _ (.inl rfl) e,c⟩
 | ins C dx fs =>
  obtain ⟨d,z,ne,e,mA,⟨od,es,ep,e2,c⟩,r⟩:=x
  exact ⟨ho _ d,z,ne,k _ _ (.inl rfl) e,mA,⟨od,es,ep,k _ _ (.inr d) e2,c⟩,r⟩
 | own y=>obtain ⟨ob,e⟩:=x; exact ⟨ob,k _ _ (.inl rfl) e⟩
 | xd fs=>obtain ⟨mA,⟨od,es,ep,e,c⟩,r⟩:=x; exact ⟨mA,⟨od,es,ep,k _ _ (.inl rfl) e,c⟩,r⟩
 | rng lo hi=>obtain ⟨t,u,v,e⟩:=x; exact ⟨t,u,v,k _ _ (.inl rfl) e⟩
 | frz ob u ih=>obtain ⟨e,q⟩:=x; exact ⟨k _ _ (.inl rfl) e,ih q⟩
 | tbl ps =>
  have e:h.get? a=some { cls:=.none,data:=.fields ps }:=x
  show h'.get? a=some { cls:=.none,data:=.fields ps }
  exact k a _ (.inl rfl) e
 | met f y =>
  have e:h.get? a=some (PySem.W.methodObj (.ref f) (.ref y)):=x
  show h'.get? a=some (PySem.W.methodObj (.ref f) (.ref y))
  exact k a _ (.inl rfl) e
 | ext φ=>obtain ⟨p,⟨o,e⟩,st⟩:=x; exact ⟨st _ _ p fun o q=>k _ _ (.inl rfl) q,⟨o,k _ _ (.inl rfl) e⟩,st⟩
theorem HOk.lt (x:HOk P w H h) (e:H a=some o):a<h.objs.size:=(x a o e).lt
theorem HOk.fresh (x:HOk P w H h) (e:h.objs.size≤a):H a=none:=by
 cases q:H a with
 | none=>rfl
 | some u=>exact absurd (Nat.lt_of_lt_of_le (x.lt q) e) (Nat.lt_irrefl _)
theorem HOk.kept (x:HOk P w H h) (k:∀ b u,h.get? b=some u→h'.get? b=some u):HOk P w H h':=fun a o e =>
 (x a o e).stay (fun b u _ q=>k b u q) (fun _ q=>q) fun _ _ q=>q
theorem HOk.laid (x:HOk P w H h) (k:∀ b u,h.get? b=some u→h'.get? b=some u) (hp:h.objs.size≤a) (new:ObjOk P w (upd H a o) h' a o):HOk P w (upd H a o) h':=fun b u e=>by
 have hn:=x.fresh hp
 by_cases hb:b=a
 ·subst hb; rw [zaC_] at e; cases e; exact new
 ·rw [z7_ hb] at e
  exact (x b u e).stay (fun c v _ q=>k c v q) (fun c q=>by rw [z7_ (zbL_ q hn)]; exact q) fun c xs q=>by rw [z7_ (zbL_ q hn)]; exact q
end
def Rd (H:Hp) (a:Addr) (u:HO):Prop:=H a=some u∨∃ o,H a=some (.frz o u)
theorem Rd.ok {P:Program}{w:World}{H:Hp}{h:Heap}{a:Addr}{u:HO}(r:Rd H a u) (x:HOk P w H h):ObjOk P w H h a u:=by
 rcases r with r | ⟨o,r⟩
 ·exact x a u r
 ·obtain ⟨_,q⟩:=x a _ r
  exact q
def Mut:Option HO→Prop
 | some (.lst _)=>True
 | some (.dK _)=>True
 | some (.dT _)=>True
 | some (.set _ _)=>True
 | some (.ins _ _ _)=>True
 | some (.ext _)=>True
 | _=>False
section
variable {P:Program}{w:World}{H:Hp}{h h':Heap}{x e:Addr}{o':HO}
theorem HOk.write (ok:HOk P w H h) (mu:Mut (H x)) (he:e=x∨H e=some (.own x)) (k:∀ b u,b≠e→h.get? b=some u→h'.get? b=some u) (heo:∃ u,h'.get? e=some u)
  (new:ObjOk P w (upd H x o') h' x o'):HOk P w (upd H x o') h':=fun b u q=>by
 have nown:∀ c y,H c=some (.own y)→c≠x:=fun c y r z=>by subst z; rw [r] at mu; exact mu
 have ntup:∀ c xs,H c=some (.tup xs)→c≠x:=fun c xs r z=>by subst z; rw [r] at mu; exact mu
 by_cases hb:b=x
 ·subst hb; rw [zaC_] at q; cases q; exact new
 ·rw [z7_ hb] at q
  by_cases hbe:b=e
  ·have q':H b=some (.own x):=by
    rcases he with z | z
    ·exact absurd (hbe.trans z) hb
    ·rw [hbe]; exact z
   rw [q] at q'; cases q'
   obtain ⟨v,hv⟩:=heo
   exact ⟨v,by rw [hbe]; exact hv⟩
  ·refine (ok b u q).stay (fun c v hc r=>k c v ?_ r) (fun c r=>by rw [z7_ (nown c b r)]; exact r) fun c xs r=>by rw [z7_ (ntup c xs r)]; exact r
   rcases hc with rfl | hc
   ·exact hbe
   ·rintro rfl
    rcases he with z | z
    ·exact nown c b hc z
    ·rw [hc] at z; cases z; exact hb rfl
end
structure Un (fs ex:List Addr) (H H':Hp) (h h':Heap):Prop where
 keep:∀ b o,h.get? b=some o→H b=none→b∉fs→b∉ex→h'.get? b=some o
 slot:∀ b o,h.get? b=some o→H b=none→b∈fs→b∉ex→∃ sl,h'.get? b=some { o with slots:=sl }
 free:∀ b o,h.get? b=some o→H b=none→b∉ex→H' b=none
 there:∀ b o,h.get? b=some o→b∉ex→∃ o',h'.get? b=some o'
 tups:∀ b xs,H b=some (.tup xs)→H' b=some (.tup xs)
 frzs:∀ b o u,H b=some (.frz o u)→H' b=some (.frz o u)
 tbls:∀ b ps,H b=some (.tbl ps)→∃ more,H' b=some (.tbl (ps++more))
section
variable {fs fs' ex ex':List Addr}{H H1 H2:Hp}{h h1 h2 h':Heap}{a x e:Addr}{o:HO}
theorem Un.any (u:Un fs ex H H1 h h1) {b:Addr}{ob:Obj}(q:h.get? b=some ob) (n:H b=none) (hx:b∉ex):∃ sl,h1.get? b=some { ob with slots:=sl }:=by
 by_cases hb:b∈fs
 ·exact u.slot b ob q n hb hx
 ·exact ⟨ob.slots,u.keep b ob q n hb hx⟩
theorem Un.kept (k:∀ b u,h.get? b=some u→h'.get? b=some u):Un fs ex H H h h' :=
 ⟨fun b ob q _ _ _=>k b ob q,fun b ob q _ _ _=>⟨ob.slots,k b ob q⟩,fun _ _ _ n _=>n,fun b ob q _=>⟨ob,k b ob q⟩,fun _ _ q=>q,fun _ _ _ q=>q,fun _ ps q=>⟨#[],by rw [q]; simp⟩⟩
theorem Un.refl:Un fs ex H H h h:=Un.kept fun _ _ q=>q
theorem Un.laid (k:∀ b u,h.get? b=some u→h'.get? b=some u) (hp:h.objs.size≤a) (hn:H a=none):Un fs ex H (upd H a o) h h' where
 keep:=fun b u q _ _ _=>k b u q
 slot:=fun b u q _ _ _=>⟨u.slots,k b u q⟩
 free:=fun b u q n _=>by rw [z7_ (Nat.ne_of_lt (Nat.lt_of_lt_of_le (Heap.lt_size q) hp))]; exact n
 there:=fun b u q _=>⟨u,k b u q⟩
 tups:=fun b xs q=>by rw [z7_ (zbL_ q hn)]; exact q
 frzs:=fun b u xs q=>by rw [z7_ (zbL_ q hn)]; exact q
 tbls:=fun b ps q=>⟨#[],by rw [z7_ (zbL_ q hn),q]; simp⟩
theorem Un.write (mu:Mut (H x)) (he:e=x∨H e=some (.own x)) (k:∀ b u,b≠e→h.get? b=some u→h'.get? b=some u) (heo:∃ u,h'.get? e=some u):Un fs ex H (upd H x o) h h':=by
 have hx:∀ b,H b=none→b≠x:=fun b n z=>by subst z; rw [n] at mu; exact mu
 have hb:∀ b,H b=none→b≠e:=fun b n z=>by
  subst z
  rcases he with r | r
  ·exact hx b n r
  ·rw [n] at r; cases r
 have hm:∀ b u,H b=some u→¬ Mut (some u)→b≠x:=fun b u q nm z=>by subst z; rw [q] at mu; exact nm mu
 refine ⟨fun b u q n _ _=>k b u (hb b n) q,fun b u q n _ _=>⟨u.slots,k b u (hb b n) q⟩,fun b u q n _=>by rw [z7_ (hx b n)]; exact n,fun b u q _=>?_,
  fun b xs q=>by rw [z7_ (hm b _ q fun z=>z)]; exact q,fun b u xs q=>by rw [z7_ (hm b _ q fun z=>z)]; exact q,fun b ps q=>⟨#[],by rw [z7_ (hm b _ q fun z=>z),q]; simp⟩⟩
 by_cases hbe:b=e
 ·subst hbe; exact heo
 ·exact ⟨u,k b u hbe q⟩
end
def trk (h:Heap) (H:Hp):List Addr:=(List.range h.objs.size).filter fun a=>(H a).isSome
def hidT (h:Heap) (H:Hp):Heap:=PySem.W.hideAll h (trk h H)
theorem zk5_ (h:Heap) (H:Hp):(hidT h H).objs.size=h.objs.size:=PySem.W.hideAll_size _ _
theorem zm5_ {h:Heap}{H:Hp}{b:Addr}{o:Obj}(e:h.get? b=some o) (n:H b=none):(hidT h H).get? b=some o :=
 PySem.W.hideAll_get _ e fun hm=>by
  have q:(H b).isSome=true:=(List.mem_filter.mp hm).2
  rw [n] at q; simp at q
theorem zoL_ {h:Heap}{H:Hp}{b:Addr}{o:Obj}(e:(hidT h H).get? b=some o):h.get? b=some o∧H b=none:=by
 have e':h.get? b=some o:=PySem.W.of_hideAll (trk h H) e
 refine ⟨e',?_⟩
 cases q:H b with
 | none=>rfl
 | some x =>
  have hm:b∈trk h H:=List.mem_filter.mpr ⟨List.mem_range.mpr (Heap.lt_size e'),by simp [q]⟩
  have z:(hidT h H).get? b=none:=PySem.W.hideAll_none (trk h H) hm
  rw [z] at e; cases e
def allNews (g h:Heap) (L:Addr):Pnn:=(List.range h.objs.size).filterMap fun a=>if a=L∨(g.get? a).isSome=true then none else (h.get? a).map fun o=>(a,o)
def rest (g h:Heap) (L d:Addr):Pnn:=(allNews g h L).filter fun p=>decide (p.1≠d)
end L2
namespace L2
open PySem PySem.Spec PyProof.Rows
structure Mod (K:Fgg) (mg:Str→Option Value) (base:Heap):Prop where
 kin:K.In base
 glob:base.Ns mainGlobals mg
 blt:∃ mb,base.Ns builtinsNs mb∧∀ x:Str,x ≠ "__name__" → mb x=bootBuiltins x
 nolimit:base.NoLimit
structure Cx where
 prog:Program
 w:World
 K:Fgg
 mg:Str→Option Value
 base:Heap
 A:Around
 N:List Str
 s₀:Shared
 H₀:Hp
 env:Env
 outer:List Env
 stack:List Env
 ex:List Addr
 fn:Str→Bool
 calm:Bool
 pn:Pnn
 xe:Value→Shared→Prop
def frs (l:List Env):List Addr:=l.filterMap (·.frame)
abbrev Cx.fs (X:Cx):List Addr:=frs X.outer
def Vis (sc:Scope) (x:Str):Prop:=sc.names.lookup x=some .local∨sc.names.lookup x=some .cell∨sc.names.lookup x=some .free
def Loc (sc:Scope) (x:Str):Prop:=sc.names.lookup x=some .local∨sc.names.lookup x=some .cell
def Look (env:Env) (h:Heap) (m:Str→Option Value) (x:Str) (u:Value):Prop :=
 (env.kindOf x=some .local∧m x=some u)∨((env.kindOf x=some .cell∨env.kindOf x=some .free)∧∃ c,env.cells.lookup x=some c∧h.IsCell c (some u))
structure Cx.Ok (X:Cx):Prop where
 mod:Mod X.K X.mg X.base
 kind:X.env.scope.kind=.function
 glob:X.env.globals=mainGlobals
 blt:X.env.builtins=builtinsNs
 above:X.s₀.heap.objs.size≤X.env.locals
 inj:∀ x y c,X.env.cells.lookup x=some c→X.env.cells.lookup y=some c→x=y
 has:∀ x,(X.env.kindOf x=some .cell∨X.env.kindOf x=some .free)→∃ c,X.env.cells.lookup x=some c
 cab:∀ x c,X.fn x=true→X.env.cells.lookup x=some c→X.s₀.heap.objs.size≤c
 hd:X.calm=true→X.A.handled=none
 frames:X.A.frames=some X.stack
 stk:X.stack=X.outer∨(X.stack=X.env::X.outer∧X.env.frame=some X.env.locals)
 exf:∀ b∈X.ex,b≠X.env.locals∧∀ x c,X.env.cells.lookup x=some c→c≠b
 bs:∀ b o,X.base.get? b=some o→X.s₀.heap.get? b=some o∧X.H₀ b=none
 bsz:X.base.objs.size≤X.s₀.heap.objs.size
 noex:∀ b o,X.base.get? b=some o→b∉X.ex
 exfs:∀ b∈X.ex,b∉X.fs
 funs:X.s₀.heap.FunFrames X.base X.outer
 frf:∀ b∈X.fs,X.H₀ b=none
structure Inv (X:Cx) (pins:Pnn) (σ:List (Option V)) (H:Hp) (s:Shared):Prop where
 ok:X.Ok
 os:s.os=X.s₀.os
 bare:AllBare s.gens
 base:Un X.fs X.ex X.H₀ H X.s₀.heap s.heap
 loc:∃ m,s.heap.Ns X.env.locals m∧∀ (i:Nat) (x:Str) (v:V),X.N[i]?=some x→σ[i]?=some (some v)→Vis X.env.scope x→∃ u,RelV v u∧Look X.env s.heap m x u
 cell:∀ x c,X.env.cells.lookup x=some c→∃ v,s.heap.IsCell c v
 free:H X.env.locals=none
 freeC:∀ x c,X.env.cells.lookup x=some c→H c=none
 pin:∀ p∈X.pn++pins,s.heap.get? p.1=some p.2∧H p.1=none∧p.1≠X.env.locals∧p.1∉X.fs∧∀ v,p.2.data≠.cell v
 hok:HOk X.prog X.w H s.heap
 len:σ.length=X.N.length
section
variable {X:Cx}{pins:Pnn}{σ:List (Option V)}{H H':Hp}{s:Shared}{h':Heap}
theorem Cx.Ok.nofr (ok:X.Ok) {b:Addr}{o:Obj}(e:X.base.get? b=some o):b∉X.fs:=fun hb=>by
 have:=(ok.funs.mem hb).1
 rw [e] at this; cases this
theorem Inv.bs (I:Inv X pins σ H s):∀ b o,X.base.get? b=some o→s.heap.get? b=some o∧H b=none:=fun b o e =>
 ⟨I.base.keep b o (I.ok.bs b o e).1 (I.ok.bs b o e).2 (I.ok.nofr e) (I.ok.noex b o e),I.base.free b o (I.ok.bs b o e).1 (I.ok.bs b o e).2 (I.ok.noex b o e)⟩
theorem Inv.bk (I:Inv X pins σ H s):∀ b o,X.base.get? b=some o→s.heap.get? b=some o:=fun b o e=>(I.bs b o e).1
theorem Inv.mod (I:Inv X pins σ H s):Mod X.K X.mg X.base:=I.ok.mod
theorem Inv.kIn (I:Inv X pins σ H s):X.K.In s.heap:=I.ok.mod.kin.keeps I.bk
theorem Inv.lt (I:Inv X pins σ H s):X.env.locals<s.heap.objs.size:=let ⟨_,hn,_⟩:=I.loc; hn.lt
theorem Inv.sz (I:Inv X pins σ H s):X.s₀.heap.objs.size≤s.heap.objs.size:=Nat.le_trans I.ok.above (Nat.le_of_lt I.lt)
theorem Inv.nofs (I:Inv X pins σ H s) {a:Addr}(h:s.heap.objs.size≤a):a∉X.fs:=fun hb=>by
 obtain ⟨_,o,ho,_⟩:=I.ok.funs.mem hb
 exact absurd (Nat.lt_of_lt_of_le (Heap.lt_size ho) (Nat.le_trans I.sz h)) (Nat.lt_irrefl _)
theorem Inv.cne (I:Inv X pins σ H s):∀ x c,X.env.cells.lookup x=some c→c≠X.env.locals:=fun x c e z=>by
 obtain ⟨v,o,ho,hd⟩:=I.cell x c e
 obtain ⟨m,⟨o',es,ep,ho',hd',_⟩,_⟩:=I.loc
 rw [z,ho'] at ho; cases ho; rw [hd'] at hd; cases hd
theorem Inv.funs (I:Inv X pins σ H s):s.heap.FunFrames X.base X.outer:=by
 have all:∀ (l:List Env),(∀ b∈frs l,b∈X.fs)→X.s₀.heap.FunFrames X.base l→s.heap.FunFrames X.base l:=by
  intro l
  induction l with
  | nil=>intro _ _; trivial
  | cons env r ih =>
   intro hs hl
   obtain ⟨hk,⟨L,o,hf,hn,ho,hd⟩,hr⟩:=hl
   have hL:L∈X.fs:=hs L (by unfold frs; rw [List.filterMap_cons,hf]; exact List.mem_cons_self)
   obtain ⟨sl,e⟩:=I.base.slot L o ho (I.ok.frf L hL) hL fun z=>I.ok.exfs L z hL
   exact ⟨hk,⟨L,_,hf,hn,e,hd⟩,ih (fun b hb=>hs b (by unfold frs; rw [List.filterMap_cons,hf]; exact List.mem_cons_of_mem _ hb)) hr⟩
 exact all X.outer (fun _ hb=>hb) I.ok.funs
theorem Inv.stack (I:Inv X pins σ H s):s.heap.FunFrames X.base X.stack:=by
 rcases I.ok.stk with e | ⟨e,hf⟩
 ·rw [e]; exact I.funs
 ·rw [e]
  obtain ⟨m,hn,_⟩:=I.loc
  refine .cons (by rw [I.ok.kind]; decide) hf hn ?_ I.funs
  exact Heap.get?_none_of_le (Nat.le_trans I.ok.bsz I.ok.above)
theorem Inv.stkSub (I:Inv X pins σ H s):∀ b∈frs X.stack,b∈X.env.locals::X.fs:=fun b hb=>by
 rcases I.ok.stk with e | ⟨e,hf⟩
 ·rw [e] at hb; exact List.mem_cons_of_mem _ hb
 ·rw [e] at hb
  unfold frs at hb
  rw [List.filterMap_cons,hf] at hb
  exact hb
theorem Inv.stkFree (I:Inv X pins σ H s):∀ b∈frs X.stack,H b=none:=fun b hb=>by
 rcases List.mem_cons.mp (I.stkSub b hb) with e | hb
 ·rw [e]; exact I.free
 ·obtain ⟨_,o,ho,_⟩:=I.ok.funs.mem hb
  exact I.base.free b o ho (I.ok.frf b hb) fun z=>I.ok.exfs b z hb
theorem Inv.step {g':Array GenState}{t':Nat}{d':Drawn}{ch:List Addr}(I:Inv X pins σ H s)
  (hch:∀ b∈ch,(b∈X.ex∨X.s₀.heap.objs.size≤b)∧b≠X.env.locals∧(∀ x c,X.env.cells.lookup x=some c→c≠b)∧∀ p∈X.pn++pins,p.1≠b)
  (keep:∀ b o,b≠X.env.locals→b∉X.fs→b∉ch→s.heap.get? b=some o→H b=none→h'.get? b=some o)
  (slot:∀ b o,b≠X.env.locals→b∈X.fs→b∉ch→s.heap.get? b=some o→H b=none→∃ sl,h'.get? b=some { o with slots:=sl }) (free:∀ b o,b∉ch→s.heap.get? b=some o→H b=none→H' b=none)
  (there:∀ b o,b∉ch→s.heap.get? b=some o→∃ o',h'.get? b=some o')
  (tups:∀ b xs,H b=some (.tup xs)→H' b=some (.tup xs)) (frzs:∀ b o u,H b=some (.frz o u)→H' b=some (.frz o u)) (tbls:∀ b ps,H b=some (.tbl ps)→∃ more,H' b=some (.tbl (ps++more)))
  (ns:∀ m,s.heap.Ns X.env.locals m→h'.Ns X.env.locals m) (hok:HOk X.prog X.w H' h') (hg:AllBare g') :
  Inv X pins σ H' { s with heap:=h',gens:=g',drawn:=d',toks:=t' }:=by
 have neL:∀ b o,X.s₀.heap.get? b=some o→b≠X.env.locals:=fun b o e=>Nat.ne_of_lt (Nat.lt_of_lt_of_le (Heap.lt_size e) I.ok.above)
 have neC:∀ b o,X.s₀.heap.get? b=some o→b∉X.ex→b∉ch:=fun b o e hx hb=>by
  rcases (hch b hb).1 with z | z
  ·exact hx z
  ·exact absurd (Nat.lt_of_lt_of_le (Heap.lt_size e) z) (Nat.lt_irrefl _)
 have cellK:∀ x c,X.env.cells.lookup x=some c→∀ v,s.heap.IsCell c v→h'.IsCell c v:=fun x c e v ⟨o,ho,hd⟩=>by
  have nch:c∉ch:=fun z=>(hch c z).2.2.1 x c e rfl
  by_cases hc:c∈X.fs
  ·obtain ⟨sl,q⟩:=slot c o (I.cne x c e) hc nch ho (I.freeC x c e)
   exact ⟨_,q,hd⟩
  ·exact ⟨o,keep c o (I.cne x c e) hc nch ho (I.freeC x c e),hd⟩
 refine ⟨I.ok,I.os,hg,⟨fun b o e n hb hx=>?_,fun b o e n hb hx=>?_,fun b o e n hx=>?_,fun b o e hx=>?_,fun b xs e=>tups b xs (I.base.tups b xs e),fun b o xs e=>frzs b o xs (I.base.frzs b o xs e),fun b ps e=>?_⟩,?_,fun x c e=>?_,?_,fun x c e=>?_,fun p hp=>?_,hok,I.len⟩
 ·exact keep b o (neL b o e) hb (neC b o e hx) (I.base.keep b o e n hb hx) (I.base.free b o e n hx)
 ·obtain ⟨sl,e1⟩:=I.base.slot b o e n hb hx
  obtain ⟨sl',e2⟩:=slot b _ (neL b o e) hb (neC b o e hx) e1 (I.base.free b o e n hx)
  exact ⟨sl',e2⟩
 ·obtain ⟨o',e1⟩:=I.base.there b o e hx
  exact free b o' (neC b o e hx) e1 (I.base.free b o e n hx)
 ·obtain ⟨o',e1⟩:=I.base.there b o e hx
  exact there b o' (neC b o e hx) e1
 ·obtain ⟨m1,e1⟩:=I.base.tbls b ps e
  obtain ⟨m2,e2⟩:=tbls b _ e1
  exact ⟨m1++m2,by rw [e2,Array.append_assoc]⟩
 ·obtain ⟨m,hn,hl⟩:=I.loc
  refine ⟨m,ns m hn,fun i x v e1 e2 e3=>?_⟩
  obtain ⟨u,r,l⟩:=hl i x v e1 e2 e3
  refine ⟨u,r,?_⟩
  rcases l with l | ⟨k,c,e,z⟩
  ·exact .inl l
  ·exact .inr ⟨k,c,e,cellK x c e _ z⟩
 ·obtain ⟨v,z⟩:=I.cell x c e
  exact ⟨v,cellK x c e v z⟩
 ·obtain ⟨m,⟨o,_,_,ho,_⟩,_⟩:=I.loc
  exact free _ o (fun z=>(hch _ z).2.1 rfl) ho I.free
 ·obtain ⟨v,o,ho,hd⟩:=I.cell x c e
  exact free c o (fun z=>(hch c z).2.2.1 x c e rfl) ho (I.freeC x c e)
 ·obtain ⟨e,n,ne,nf,d⟩:=I.pin p hp
  have nch:p.1∉ch:=fun z=>(hch p.1 z).2.2.2 p hp rfl
  exact ⟨keep p.1 p.2 ne nf nch e n,free p.1 p.2 nch e n,ne,nf,d⟩
theorem Inv.un {t':Nat}(I:Inv X pins σ H s) (u:Un X.fs [] H H' s.heap h') (hok:HOk X.prog X.w H' h'):Inv X pins σ H' { s with heap:=h',toks:=t' }:=by
 obtain ⟨m,⟨o,es,ep,ho,r⟩,_⟩:=id I.loc
 obtain ⟨sl,hL⟩:=u.any ho I.free (by simp)
 exact I.step (g':=s.gens) (d':=s.drawn) (ch:=[]) (fun _ z=>nomatch z) (fun b o _ hb _ e n=>u.keep b o e n hb (by simp)) (fun b o _ hb _ e n=>u.slot b o e n hb (by simp)) (fun b o _ e n=>u.free b o e n (by simp)) (fun b o _ e=>u.there b o e (by simp)) u.tups u.frzs u.tbls (fun m' hm=>by
  obtain ⟨o',es',ep',ho',r'⟩:=hm
  rw [ho] at ho'; cases ho'
  exact ⟨_,es',ep',hL,r'⟩) hok I.bare
theorem Inv.call {g':Array GenState}{t':Nat}{d':Drawn}{ch:List Addr}(I:Inv X pins σ H s) (u:Un (frs X.stack) ch H H' s.heap h') (hok:HOk X.prog X.w H' h') (hg:AllBare g')
  (hch:∀ b∈ch,(b∈X.ex∨X.s₀.heap.objs.size≤b)∧b≠X.env.locals∧(∀ x c,X.env.cells.lookup x=some c→c≠b)∧∀ p∈X.pn++pins,p.1≠b) :
  Inv X pins σ H' { s with heap:=h',gens:=g',drawn:=d',toks:=t' }:=by
 obtain ⟨m,⟨o,es,ep,ho,r⟩,_⟩:=id I.loc
 obtain ⟨sl,hL⟩:=u.any ho I.free fun z=>(hch _ z).2.1 rfl
 exact I.step (ch:=ch) hch (fun b o hL hb hc e n=>u.keep b o e n (fun z=>(List.mem_cons.mp (I.stkSub b z)).elim hL hb) hc) (fun b o _ _ hc e n=>u.any e n hc) (fun b o hc e n=>u.free b o e n hc) (fun b o hc e=>u.there b o e hc) u.tups u.frzs u.tbls (fun m' hm=>by
  obtain ⟨o',es',ep',ho',r'⟩:=hm
  rw [ho] at ho'; cases ho'
  exact ⟨_,es',ep',hL,r'⟩) hok hg
theorem Inv.turned {t':Nat}{it:Addr}(I:Inv X pins σ H s) (k:∀ b o,b≠it→s.heap.get? b=some o→h'.get? b=some o) (hn:H it=none) (hL:it≠X.env.locals)
  (h1:it∈X.ex∨X.s₀.heap.objs.size≤it) (h2:∀ x c,X.env.cells.lookup x=some c→c≠it) (h3:∀ p∈X.pn++pins,p.1≠it):Inv X pins σ H { s with heap:=h',toks:=t' }:=by
 have nit:∀ b u,H b=some u→b≠it:=fun b u e z=>by rw [z,hn] at e; cases e
 refine I.step (g':=s.gens) (d':=s.drawn) (ch:=[it]) (fun b hb=>?_) (fun b o _ _ hc e _=>k b o (fun z=>hc (by simp [z])) e) (fun b o _ _ hc e _=>⟨o.slots,k b o (fun z=>hc (by simp [z])) e⟩) (fun _ _ _ _ n=>n)
  (fun b o hc e=>⟨o,k b o (fun z=>hc (by simp [z])) e⟩) (fun _ _ e=>e) (fun _ _ _ e=>e) (fun b ps e=>⟨#[],by rw [e]; simp⟩) (fun m hm=>?_) (fun b u e=>?_) I.bare
 ·have e:b=it:=by simpa using hb
  subst e
  exact ⟨h1,hL,h2,h3⟩
 ·obtain ⟨o,es,ep,ho,r⟩:=hm
  exact ⟨o,es,ep,k _ o (Ne.symm hL) ho,r⟩
 ·refine (I.hok b u e).stay (fun c v hc q=>k c v ?_ q) (fun _ q=>q) fun _ _ q=>q
  rcases hc with z | z
  ·rw [z]; exact nit b u e
  ·exact nit c _ z
theorem Inv.tok (I:Inv X pins σ H s) (t:Nat):Inv X pins σ H { s with toks:=t }:=I.un (h':=s.heap) (t':=t) Un.refl I.hok
theorem Inv.kept {t':Nat}(I:Inv X pins σ H s) (k:∀ b u,s.heap.get? b=some u→h'.get? b=some u):Inv X pins σ H { s with heap:=h',toks:=t' }:=I.un (Un.kept k) (I.hok.kept k)
theorem Inv.laid {a:Addr}{o:HO}{t':Nat}(I:Inv X pins σ H s) (k:∀ b u,s.heap.get? b=some u→h'.get? b=some u) (hp:s.heap.objs.size≤a) (new:ObjOk X.prog X.w (upd H a o) h' a o) :
  Inv X pins σ (upd H a o) { s with heap:=h',toks:=t' }:=I.un (Un.laid k hp (I.hok.fresh hp)) (I.hok.laid k hp new)
theorem Inv.write {x e:Addr}{o:HO}{t':Nat}(I:Inv X pins σ H s) (mu:Mut (H x)) (he:e=x∨H e=some (.own x)) (k:∀ b u,b≠e→s.heap.get? b=some u→h'.get? b=some u) (heo:∃ u,h'.get? e=some u)
  (new:ObjOk X.prog X.w (upd H x o) h' x o):Inv X pins σ (upd H x o) { s with heap:=h',toks:=t' }:=I.un (Un.write mu he k heo) (I.hok.write mu he k heo new)
theorem Inv.pins_of {pins':Pnn}(I:Inv X pins σ H s) (h:∀ p∈pins',s.heap.get? p.1=some p.2∧H p.1=none∧p.1≠X.env.locals∧p.1∉X.fs∧∀ v,p.2.data≠.cell v):Inv X pins' σ H s :=
 ⟨I.ok,I.os,I.bare,I.base,I.loc,I.cell,I.free,I.freeC,fun p hp=>(List.mem_append.mp hp).elim (fun z=>I.pin p (List.mem_append_left _ z)) (h p),I.hok,I.len⟩
theorem zj0_ {N:List Str}(hN:N.Nodup) {i j:Nat}{x:Str}(a:N[i]?=some x) (b:N[j]?=some x):i=j:=by
 obtain ⟨h1,e1⟩:=List.getElem?_eq_some_iff.mp a
 obtain ⟨h2,e2⟩:=List.getElem?_eq_some_iff.mp b
 exact (List.getElem_inj hN).mp (e1.trans e2.symm)
theorem zkB_ {M:Model}{A:Around}{E:Value→Shared→Prop}{i:Nat}{x:Str}{v:V}{u:Value}{Q:Unit→Shared→Prop}(I:Inv X pins σ H s) (hN:X.N.Nodup) (hi:X.N[i]?=some x) (hx:Loc X.env.scope x) (r:RelV v u)
  (h:∀ s',Inv X pins (σ.set i (some v)) H s'→(∃ a,Heap.SameBut a s.heap s'.heap∧(a=X.env.locals∨X.env.cells.lookup x=some a))→Q () s') (hf:X.fn x=true∨X.env.scope.names.lookup x=some .local:=by first | exact .inl rfl | exact .inr rfl | assumption):wpAny M A (storeName X.env x u) Q E s:=by
 obtain ⟨m,hn,hl⟩:=id I.loc
 have hcls:(X.env.scope.kind == .class || (X.env.scope.kind == .module && X.env.locals != X.env.globals))=false:=by rw [I.ok.kind]; rfl
 have hiσ:i<σ.length:=by rw [I.len]; exact (List.getElem?_eq_some_iff.mp hi).1
 have cne:=I.cne
 have tracked:∀ {a:Addr}{h':Heap},(∃ o,s.heap.get? a=some o∧H a=none)→Heap.SameBut a s.heap h'→HOk X.prog X.w H h':=fun {a h'} ha hs b ob e=>by
  obtain ⟨_,_,hfree⟩:=ha
  refine (I.hok b ob e).stay (fun c w' hc q=>(hs.2 c ?_).trans q) (fun _ q=>q) fun _ _ q=>q
  rintro rfl
  rcases hc with rfl | hc
  ·rw [hfree] at e; cases e
  ·rw [hfree] at hc; cases hc
 rcases hx with hk | hk
 ·refine wpAny_storeName_local hk hn (fun h' hn' hs=>?_) hcls
  obtain ⟨oL,_,_,hoL,_⟩:=id hn
  refine h _ ⟨I.ok,I.os,I.bare,⟨fun b o e n hb hx=>?_,fun b o e n hb hx=>?_,I.base.free,fun b o e hx=>?_,I.base.tups,I.base.frzs,I.base.tbls⟩,⟨_,hn',fun j y v' e1 e2 e3=>?_⟩,fun y c e=>?_,I.free,I.freeC,fun p hp=>?_,tracked ⟨oL,hoL,I.free⟩ hs,by simpa using I.len⟩ ⟨_,hs,.inl rfl⟩
  ·exact (hs.2 b (Nat.ne_of_lt (Nat.lt_of_lt_of_le (Heap.lt_size e) I.ok.above))).trans (I.base.keep b o e n hb hx)
  ·obtain ⟨sl,e1⟩:=I.base.slot b o e n hb hx
   exact ⟨sl,(hs.2 b (Nat.ne_of_lt (Nat.lt_of_lt_of_le (Heap.lt_size e) I.ok.above))).trans e1⟩
  ·obtain ⟨o',e1⟩:=I.base.there b o e hx
   exact ⟨o',(hs.2 b (Nat.ne_of_lt (Nat.lt_of_lt_of_le (Heap.lt_size e) I.ok.above))).trans e1⟩
  ·by_cases hj:j=i
   ·subst hj
    rw [hi] at e1; cases e1
    rw [List.getElem?_set_self hiσ] at e2
    cases e2
    exact ⟨u,r,.inl ⟨hk,by simp⟩⟩
   ·rw [List.getElem?_set_ne (Ne.symm hj)] at e2
    obtain ⟨u',r',q⟩:=hl j y v' e1 e2 e3
    refine ⟨u',r',?_⟩
    rcases q with ⟨k,e⟩ | ⟨k,c,e,z⟩
    ·refine .inl ⟨k,?_⟩
     have:y≠x:=fun e=>hj (zj0_ hN e1 (e ▸ hi))
     simp [this,e]
    ·exact .inr ⟨k,c,e,z.sameBut hs (cne y c e)⟩
  ·obtain ⟨w',z⟩:=I.cell y c e
   exact ⟨w',z.sameBut hs (cne y c e)⟩
  ·obtain ⟨e,n,ne,nf,d⟩:=I.pin p hp
   exact ⟨(hs.2 p.1 ne).trans e,n,ne,nf,d⟩
 ·have hfn:X.fn x=true:=by
   rcases hf with z | z
   ·exact z
   ·rw [z] at hk; cases hk
  obtain ⟨c,hc⟩:=I.ok.has x (.inl hk)
  obtain ⟨w',z⟩:=I.cell x c hc
  refine wpAny_storeName_cell I.ok.kind hk hc z (fun h' hc' hs=>?_)
  obtain ⟨oc,hoc,hocd⟩:=id z
  refine h { s with heap:=h' } ⟨I.ok,I.os,I.bare,⟨fun b o e n hb hx=>?_,fun b o e n hb hx=>?_,I.base.free,fun b o e hx=>?_,I.base.tups,I.base.frzs,I.base.tbls⟩,⟨m,hn.sameBut hs (Ne.symm (cne x c hc)),fun j y v' e1 e2 e3=>?_⟩,fun y c' e=>?_,I.free,I.freeC,fun p hp=>?_,tracked ⟨oc,hoc,I.freeC x c hc⟩ hs,by simpa using I.len⟩ ⟨c,hs,.inr hc⟩
  ·exact (hs.2 b (Nat.ne_of_lt (Nat.lt_of_lt_of_le (Heap.lt_size e) (I.ok.cab x c hfn hc)))).trans (I.base.keep b o e n hb hx)
  ·obtain ⟨sl,e1⟩:=I.base.slot b o e n hb hx
   exact ⟨sl,(hs.2 b (Nat.ne_of_lt (Nat.lt_of_lt_of_le (Heap.lt_size e) (I.ok.cab x c hfn hc)))).trans e1⟩
  ·obtain ⟨o',e1⟩:=I.base.there b o e hx
   exact ⟨o',(hs.2 b (Nat.ne_of_lt (Nat.lt_of_lt_of_le (Heap.lt_size e) (I.ok.cab x c hfn hc)))).trans e1⟩
  ·by_cases hj:j=i
   ·subst hj
    rw [hi] at e1; cases e1
    rw [List.getElem?_set_self hiσ] at e2
    cases e2
    exact ⟨u,r,.inr ⟨.inl hk,c,hc,hc'⟩⟩
   ·rw [List.getElem?_set_ne (Ne.symm hj)] at e2
    obtain ⟨u',r',q⟩:=hl j y v' e1 e2 e3
    refine ⟨u',r',?_⟩
    rcases q with q | ⟨k,c',e,z'⟩
    ·exact .inl q
    ·refine .inr ⟨k,c',e,z'.sameBut hs ?_⟩
     rintro rfl
     exact hj (zj0_ hN e1 (I.ok.inj _ _ _ e hc ▸ hi))
  ·by_cases hcc:c'=c
   ·subst hcc; exact ⟨_,hc'⟩
   ·obtain ⟨w2,z2⟩:=I.cell y c' e
    exact ⟨w2,z2.sameBut hs hcc⟩
  ·obtain ⟨e,n,ne,nf,d⟩:=I.pin p hp
   refine ⟨(hs.2 p.1 ?_).trans e,n,ne,nf,d⟩
   intro q
   rw [q,hoc] at e
   have q':oc=p.2:=Option.some.inj e
   exact d w' (by rw [← q']; exact hocd)
theorem ziT_ {M:Model}{A:Around}{E:Value→Shared→Prop}{i:Nat}{x:Str}{v:V}{u:Value}{Q:Unit→Shared→Prop}(I:Inv X pins σ H s) (hN:X.N.Nodup) (hi:X.N[i]?=some x) (hx:Loc X.env.scope x) (r:RelV v u)
  (h:∀ s',Inv X pins (σ.set i (some v)) H s'→Q () s') (hf:X.fn x=true∨X.env.scope.names.lookup x=some .local:=by first | exact .inl rfl | exact .inr rfl | assumption):wpAny M A (storeName X.env x u) Q E s :=
 zkB_ I hN hi hx r (fun s' I' _=>h s' I') hf
theorem Inv.call' {s':Shared}{ch:List Addr}(I:Inv X pins σ H s) (ho:s'.os=s.os) (u:Un (frs X.stack) ch H H' s.heap s'.heap) (hok:HOk X.prog X.w H' s'.heap) (hg:AllBare s'.gens)
  (hch:∀ b∈ch,(b∈X.ex∨X.s₀.heap.objs.size≤b)∧b≠X.env.locals∧(∀ x c,X.env.cells.lookup x=some c→c≠b)∧∀ p∈X.pn++pins,p.1≠b):Inv X pins σ H' s':=by
 obtain ⟨h',g',d',t',o'⟩:=s'
 have e:o'=s.os:=ho
 subst e
 exact I.call (g':=g') (t':=t') (d':=d') u hok hg hch
end
abbrev XK:=Value→Option Addr→Hp→Prop
abbrev St:=List (Option V)
abbrev VK:=V→Hp→Prop
abbrev TE:=St→Hp→VK→Prop
abbrev TT:=St→Hp→(Bool→Hp→Prop)→Prop
abbrev TA:=St→Hp→(List V→Hp→Prop)→Prop
structure Ends where
 nx:St→Hp→Prop
 rt:VK
 bk:St→Hp→Prop:=fun _ _=>False
 ct:St→Hp→Prop:=fun _ _=>False
abbrev TS:=Ends→St→Hp→Prop
def EP (X:Cx) (pins:Pnn) (σ:St) (Q:VK) (u:Value) (s':Shared):Prop:=∃ v H',Inv X pins σ H' s'∧RelV v u∧Q v H'
def TP (X:Cx) (pins:Pnn) (σ:St) (Q:Bool→Hp→Prop) (b:Bool) (s':Shared):Prop:=∃ H',Inv X pins σ H' s'∧Q b H'
def AP (X:Cx) (pins:Pnn) (σ:St) (Q:List V→Hp→Prop) (us:List Value) (s':Shared):Prop:=∃ vs H',Inv X pins σ H' s'∧Vals vs us∧Q vs H'
def SP (X:Cx) (pins:Pnn) (D:Ends) (f:Flow) (s':Shared):Prop :=
 match f with
 | .next=>∃ σ' H',Inv X pins σ' H' s'∧D.nx σ' H'
 | .brk=>∃ σ' H',Inv X pins σ' H' s'∧D.bk σ' H'
 | .cont=>∃ σ' H',Inv X pins σ' H' s'∧D.ct σ' H'
 | .ret u=>∃ v σ' H',Inv X pins σ' H' s'∧RelV v u∧D.rt v H'
def PE (X:Cx) (e:Expr) (t:TE):Prop :=
 ∀ (pins:Pnn) (s:Shared) (σ:St) (H:Hp) (Q:VK),Inv X pins σ H s→t σ H Q→wpAny (model X.prog X.w) X.A (eval e X.env) (EP X pins σ Q) X.xe s
def PT (X:Cx) (e:Expr) (t:TT):Prop :=
 ∀ (pins:Pnn) (s:Shared) (σ:St) (H:Hp) (Q:Bool→Hp→Prop),Inv X pins σ H s→t σ H Q→wpAny (model X.prog X.w) X.A (isTrue e X.env (eval e X.env)) (TP X pins σ Q) X.xe s
def PW (X:Cx) (e:Expr) (t:TT):Prop :=
 ∀ (whole:Sem Value) (pins:Pnn) (s:Shared) (σ:St) (H:Hp) (Q:Bool→Hp→Prop),Inv X pins σ H s→t σ H Q→wpAny (model X.prog X.w) X.A (isTrue e X.env whole) (TP X pins σ Q) X.xe s
theorem PW.pt {X:Cx}{e:Expr}{t:TT}(h:PW X e t):PT X e t:=h _
def PA (X:Cx) (es:List Expr) (t:TA):Prop :=
 ∀ (pos:Pos) (pins:Pnn) (s:Shared) (σ:St) (H:Hp) (Q:List V→Hp→Prop),Inv X pins σ H s→t σ H Q→wpAny (model X.prog X.w) X.A (spliced (backTo pos (starEach es X.env))) (AP X pins σ Q) X.xe s
def PS (X:Cx) (st:Stmt) (t:TS):Prop :=
 ∀ (pins:Pnn) (s:Shared) (σ:St) (H:Hp) (D:Ends),Inv X pins σ H s→t D σ H→wpAny (model X.prog X.w) X.A (exec st X.env) (SP X pins D) X.xe s
def PSs (X:Cx) (st:List Stmt) (t:TS):Prop :=
 ∀ (pins:Pnn) (s:Shared) (σ:St) (H:Hp) (D:Ends),Inv X pins σ H s→t D σ H→wpAny (model X.prog X.w) X.A (execs st X.env) (SP X pins D) X.xe s
theorem thn {α:Type}{t:Sem α}{Q Q':α→Shared→Prop}{M:Model}{A:Around}{E:Value→Shared→Prop}{s:Shared}(h:wpAny M A t Q E s) (hQ:∀ a s,Q a s→Q' a s):wpAny M A t Q' E s:=wpAny_mono h hQ fun _ _ x=>x
end L2
namespace L2
open PySem PySem.Spec PyProof.Rows
section
variable {X:Cx}
theorem bin {a b:Expr}{ta tb:TE}(ha:PE X a ta) (hb:PE X b tb) {pins:Pnn}{s:Shared}{σ:St}{H:Hp}{R:V→V→Hp→Prop}(I:Inv X pins σ H s) (h:ta σ H fun x H1=>tb σ H1 fun y H2=>R x y H2)
  {α:Type}{Q:α→Shared→Prop}{f:Value→Value→Sem α}
  (hf:∀ v u s2 x y H2,Inv X pins σ H2 s2→RelV x v→RelV y u→R x y H2→wpAny (model X.prog X.w) X.A (f v u) Q X.xe s2) :
  wpAny (model X.prog X.w) X.A (eval a X.env) (fun v s₁=>wpAny (model X.prog X.w) X.A (eval b X.env) (fun u s₂=>wpAny (model X.prog X.w) X.A (f v u) Q X.xe s₂) X.xe s₁) X.xe s:=by
 refine thn (ha pins s σ H _ I h) fun v s1 hq_=>?_
 obtain ⟨x,H1,I1,r1,q1⟩:=hq_
 refine thn (hb pins s1 σ H1 _ I1 q1) fun u s2 hq_=>?_
 obtain ⟨y,H2,I2,r2,q2⟩:=hq_
 exact hf v u s2 x y H2 I2 r1 r2 q2
def tVar (i:Nat):TE:=fun σ H Q=>∃ v,σ[i]?=some (some v)∧Q v H
def tC (v:V):TE:=fun _ H Q=>Q v H
theorem zpu_ {i:Nat}{x:Str}{pos:Pos}(hN:X.N[i]?=some x) (hv:Vis X.env.scope x) (hd:(x == ("__debug__" : Str))=false:=by decide) (hcd:(x == ("__classdict__" : Str))=false:=by decide):PE X (.Name x pos) (tVar i):=by
 intro pins s σ H Q I h
 obtain ⟨v,e,h⟩:=h
 obtain ⟨m,hn,hl⟩:=I.loc
 obtain ⟨u,r,l⟩:=hl i x v hN e hv
 have fin:EP X pins σ Q u s:=⟨v,H,I,r,h⟩
 rcases l with ⟨hk,hm⟩ | ⟨hk,c,hc,hcell⟩
 ·exact wpAny_Name (wpAny_loadName_local I.ok.kind hk hn hm fin) hd
 ·rcases hk with hk | hk
  ·exact wpAny_Name (wpAny_loadName_cell I.ok.kind hk hc hcell fin) hd
  ·exact wpAny_Name (wpAny_loadName_free I.ok.kind hk hc hcell fin hcd) hd
theorem zq_ {i j pos}:PE X (.Constant (.int i) j pos) (tC (.int i)):=fun _ _ _ H _ I h=>wpAny_Constant_int ⟨.int i,H,I.tok _,⟨_,rfl⟩,h⟩
theorem ziF_ {b j pos}:PE X (.Constant (.bool b) j pos) (tC (.bl b)):=fun _ _ _ H _ I h=>Constant_bool ⟨.bl b,H,I,rfl,h⟩
theorem zjL_ {j pos}:PE X (.Constant .none j pos) (tC .non):=fun _ _ _ H _ I h=>Constant_none ⟨.non,H,I,rfl,h⟩
theorem zqa_ {x j pos}:PE X (.Constant (.str x) j pos) (tC (.str x)):=fun _ _ _ H _ I h=>Calls.Constant_str ⟨.str x,H,I.tok _,⟨_,rfl⟩,h⟩
def Gl (X:Cx) (x:Str):Prop:=X.env.kindOf x=some .globalImplicit
theorem zhY_ {E:Value→Shared→Prop}{pins:Pnn}{s:Shared}{σ:St}{H:Hp}{x:Str}{u:Value}{pos:Pos}{Q:Value→Shared→Prop}(I:Inv X pins σ H s) (hg:Gl X x) (hm:X.mg x=some u) (h:Q u s)
  (hd:(x == ("__debug__" : Str))=false:=by decide):wpAny (model X.prog X.w) X.A (eval (.Name x pos) X.env) Q E s :=
 Calls.Name_function_global I.ok.kind hg (Calls.loadGlobal_global (by rw [I.ok.glob]; exact I.mod.glob.keeps I.bk) hm h) hd
theorem zhh_ {E:Value→Shared→Prop}{pins:Pnn}{s:Shared}{σ:St}{H:Hp}{x:Str}{u:Value}{pos:Pos}{Q:Value→Shared→Prop}(I:Inv X pins σ H s) (hg:Gl X x) (hm:X.mg x=none) (hv:bootBuiltins x=some u) (h:Q u s)
  (hn:x ≠ "__name__" := by decide) (hd:(x == ("__debug__" : Str))=false:=by decide):wpAny (model X.prog X.w) X.A (eval (.Name x pos) X.env) Q E s:=by
 obtain ⟨mb,h1,h2⟩:=I.mod.blt
 exact Calls.Name_function_global I.ok.kind hg (Calls.loadGlobal_builtin (by rw [I.ok.glob]; exact I.mod.glob.keeps I.bk) hm (by rw [I.ok.blt]; exact h1.keeps I.bk) ((h2 x hn).trans hv) h) hd
theorem zlq_ {x:Str}{v:V}{u:Value}{pos:Pos}(hg:Gl X x) (hm:X.mg x=some u) (r:RelV v u) (hd:(x == ("__debug__" : Str))=false:=by decide):PE X (.Name x pos) (tC v) :=
 fun _ _ _ H _ I h=>zhY_ I hg hm ⟨v,H,I,r,h⟩ hd
theorem zoP_ {x:Str}{v:V}{u:Value}{pos:Pos}(hg:Gl X x) (hm:X.mg x=none) (hv:bootBuiltins x=some u) (r:RelV v u) (hn:x ≠ "__name__" := by decide) (hd:(x == ("__debug__" : Str))=false:=by decide):PE X (.Name x pos) (tC v) :=
 fun _ _ _ H _ I h=>zhh_ I hg hm hv ⟨v,H,I,r,h⟩ hn hd
variable {a b:Expr}{ta tb:TE}{pos:Pos}
def PC (X:Cx) (op:CmpOp) (a b:Expr) (t:TE):Prop :=
 ∀ (pins:Pnn) (s:Shared) (σ:St) (H:Hp) (Q:VK),Inv X pins σ H s→t σ H Q →
  wpAny (model X.prog X.w) X.A (eval a X.env) (fun v s₁=>wpAny (model X.prog X.w) X.A (eval b X.env) (fun u s₂=>wpAny (model X.prog X.w) X.A (compareOp op v u) (EP X pins σ Q) X.xe s₂) X.xe s₁) X.xe s
theorem nobehind (b:Expr) {op:CmpOp}(h:op≠.In) (h2:op≠.NotIn):behindInMarks op b=false:=by
 have e1:(op == CmpOp.In)=false:=by cases op<;>first | rfl | exact absurd rfl h
 have e2:(op == CmpOp.NotIn)=false:=by cases op<;>first | rfl | exact absurd rfl h2
 cases b<;>simp [behindInMarks,e1,e2]
variable {tA tB':TT}{rest:List Expr}
def tNot (t:TT):TT:=fun σ H Q=>t σ H fun c H1=>Q (!c) H1
theorem zii_ (ha:PT X a tA):PW X (.BoolOp .Or [a] pos) tA:=by
 intro wh pins s σ H Q I h
 refine isTrue_or (thn (ha pins s σ H Q I h) fun c s1 e=>?_)
 cases c with
 | false=>exact isTrue_or_nil e
 | true=>exact e
theorem zgL_ (ha:PT X a tA):PT X (.UnaryOp .Not a pos) (tNot tA):=by
 intro pins s σ H Q I h
 exact isTrue_not (ha pins s σ H (fun c H1=>Q (!c) H1) I h)
theorem zqn_ {op} {t:TE}(h:PE X a t):PE X (.BoolOp op [a] pos) t:=fun pins s σ H Q I hw=>BoolOp_one (h pins s σ H Q I hw)
end
end L2
namespace L2
open PySem PySem.Spec PyProof.Rows
def SqL (K:Fgg) (H:Hp) (a:Addr) (xs:List V):Prop :=
 Rd H a (.lst xs) ∨
  ∃ (o:Obj) (its:Array Value) (n:Nat),K.lookup a=some o∧o.cls=.type "list" ∧ o.dict=none∧o.data=.seq its n∧its.size≤sizeLine∧Vals xs its.toList
def SqT (K:Fgg) (H:Hp) (a:Addr) (xs:List V):Prop :=
 Rd H a (.tup xs) ∨
  ∃ (o:Obj) (its:Array Value) (n:Nat),K.lookup a=some o∧o.cls=.type "tuple" ∧ o.data=.seq its n∧its.size≤sizeLine∧Vals xs its.toList
def absV:Value→Option V
 | .none=>some .non
 | .bool b=>some (.bl b)
 | .int i _=>some (.int i)
 | .str x _=>some (.str x)
 | .bytes b _=>some (.byt b)
 | .float b _=>some (.flt b)
 | .ref a=>some (.ref a)
 | .type n=>some (.ty n)
 | _=>none
theorem RelV.abs {x:V}{u:Value}(r:RelV x u):absV u=some x:=by
 cases x with
 | non=>cases r; rfl
 | bl _=>cases r; rfl
 | int _=>obtain ⟨t,rfl⟩:=r; rfl
 | str _=>obtain ⟨t,rfl⟩:=r; rfl
 | byt _=>obtain ⟨t,rfl⟩:=r; rfl
 | flt _=>obtain ⟨t,rfl⟩:=r; rfl
 | ref _=>cases r; rfl
 | ty _=>cases r; rfl
theorem RelV.inj {x y:V}{u:Value}(r:RelV x u) (q:RelV y u):x=y:=Option.some.inj (r.abs.symm.trans q.abs)
theorem Vals.inj:∀ {xs ys:List V}{us:List Value},Vals xs us→Vals ys us→xs=ys
 | _,_,_,.nil,.nil=>rfl
 | _,_,_,.cons r t,.cons r' t'=>by rw [r.inj r',Vals.inj t t']
section
variable {X:Cx}{pins:Pnn}{σ:St}{H:Hp}{s:Shared}{a:Addr}{xs ys:List V}
theorem SqL.of {K:Fgg}(h:H a=some (.lst xs)):SqL K H a xs:=.inl (.inl h)
theorem SqT.of {K:Fgg}(h:H a=some (.tup xs)):SqT K H a xs:=.inl (.inl h)
theorem Inv.list (I:Inv X pins σ H s) (h:SqL X.K H a xs):∃ its:List Value,Vals xs its∧PlainL s.heap a its.toArray∧xs.length≤sizeLine:=by
 rcases h with h | ⟨o,its,n,hk,hc,hd,hs,hz,r⟩
 ·obtain ⟨z,its,n,r,e⟩:=h.ok I.hok
  exact ⟨its,r,⟨_,n,e,rfl,rfl,rfl⟩,z⟩
 ·refine ⟨its.toList,r,⟨o,n,I.kIn a o hk,hc,hd,by simpa using hs⟩,?_⟩
  have e:=r.length
  simp only [Array.length_toList] at e
  lia
theorem Inv.tuple (I:Inv X pins σ H s) (h:SqT X.K H a xs):∃ its:List Value,Vals xs its∧IsTup s.heap a its.toArray∧xs.length≤sizeLine:=by
 rcases h with h | ⟨o,its,n,hk,hc,hs,hz,r⟩
 ·obtain ⟨z,its,r,p⟩:=h.ok I.hok
  exact ⟨its,r,p,z⟩
 ·refine ⟨its.toList,r,⟨o,I.kIn a o hk,hc,n,by simpa using hs⟩,?_⟩
  have e:=r.length
  simp only [Array.length_toList] at e
  lia
theorem Inv.list_inj (I:Inv X pins σ H s) (h:SqL X.K H a xs) (h':SqL X.K H a ys):xs=ys:=by
 obtain ⟨its,r,⟨o,n,e,_,_,d⟩,_⟩:=I.list h
 obtain ⟨its',r',⟨o',n',e',_,_,d'⟩,_⟩:=I.list h'
 rw [e] at e'; cases e'
 rw [d] at d'
 injection d' with d1 _
 have:its=its':=by simpa using congrArg Array.toList d1
 subst this
 exact r.inj r'
theorem Inv.tuple_inj (I:Inv X pins σ H s) (h:SqT X.K H a xs) (h':SqT X.K H a ys):xs=ys:=by
 obtain ⟨its,r,⟨o,e,_,n,d⟩,_⟩:=I.tuple h
 obtain ⟨its',r',⟨o',e',_,n',d'⟩,_⟩:=I.tuple h'
 rw [e] at e'; cases e'
 rw [d] at d'
 injection d' with d1 _
 have:its=its':=by simpa using congrArg Array.toList d1
 subst this
 exact r.inj r'
end
abbrev Cx.wish (X:Cx) (E:Value→Shared→Prop):Cx:={ X with xe:=E }
abbrev Cx.nox (X:Cx):Cx:=X.wish fun _ _=>False
theorem Cx.Ok.wish {X:Cx}(ok:X.Ok) (E:Value→Shared→Prop):(X.wish E).Ok :=
 ⟨ok.mod,ok.kind,ok.glob,ok.blt,ok.above,ok.inj,ok.has,ok.cab,ok.hd,ok.frames,ok.stk,ok.exf,ok.bs,ok.bsz,ok.noex,ok.exfs,ok.funs,ok.frf⟩
theorem Cx.Ok.unwish {X:Cx}{E:Value→Shared→Prop}(ok:(X.wish E).Ok):X.Ok :=
 ⟨ok.mod,ok.kind,ok.glob,ok.blt,ok.above,ok.inj,ok.has,ok.cab,ok.hd,ok.frames,ok.stk,ok.exf,ok.bs,ok.bsz,ok.noex,ok.exfs,ok.funs,ok.frf⟩
section
variable {X:Cx}{pins:Pnn}{σ:St}{H:Hp}{s:Shared}{E:Value→Shared→Prop}
theorem Inv.wish (I:Inv X pins σ H s) (E:Value→Shared→Prop):Inv (X.wish E) pins σ H s:=⟨I.ok.wish E,I.os,I.bare,I.base,I.loc,I.cell,I.free,I.freeC,I.pin,I.hok,I.len⟩
theorem Inv.unwish (I:Inv (X.wish E) pins σ H s):Inv X pins σ H s:=⟨I.ok.unwish,I.os,I.bare,I.base,I.loc,I.cell,I.free,I.freeC,I.pin,I.hok,I.len⟩
theorem SP.unwish {D:Ends}{f:Flow}{s':Shared}(h:SP (X.wish E) pins D f s'):SP X pins D f s':=by
 cases f with
 | next=>obtain ⟨σ',H',I,q⟩:=h; exact ⟨σ',H',I.unwish,q⟩
 | brk=>obtain ⟨σ',H',I,q⟩:=h; exact ⟨σ',H',I.unwish,q⟩
 | cont=>obtain ⟨σ',H',I,q⟩:=h; exact ⟨σ',H',I.unwish,q⟩
 | ret u=>obtain ⟨v,σ',H',I,r,q⟩:=h; exact ⟨v,σ',H',I.unwish,r,q⟩
theorem PSs.nox {st:List Stmt}{t:TS}(h:PSs X.nox st t):PSs X st t:=fun pins s σ H D I hw =>
 wpAny_mono (h pins s σ H D (I.wish _) hw) (fun _ _ q=>q.unwish) fun _ _ z=>False.elim z
end
section
variable {X:Cx}{st:Stmt}{rest:List Stmt}{t u:TS}{e:Expr}{te:TE}{pos:Pos}
def tNext:TS:=fun D σ H=>D.nx σ H
def tSeq (t u:TS):TS:=fun D σ H=>t { D with nx:=u D } σ H
theorem zaz_:PSs X [] tNext:=fun _ _ σ H _ I h=>wpAny_execs_nil ⟨σ,H,I,h⟩
theorem zf_ (h1:PS X st t) (h2:PSs X rest u):PSs X (st::rest) (tSeq t u):=by
 intro pins s σ H D I h
 refine wpAny_execs_cons (thn (h1 pins s σ H { D with nx:=u D } I h) fun f s1 q=>?_)
 cases f with
 | next =>
  obtain ⟨σ',H',I',q⟩:=q
  exact h2 pins s1 σ' H' D I' q
 | ret v=>exact q
 | brk=>exact q
 | cont=>exact q
theorem zm_ (h1:PS X st t):PSs X [st] t:=by
 intro pins s σ H D I h
 refine wpAny_execs_cons (thn (h1 pins s σ H D I h) fun f s1 q=>?_)
 cases f with
 | next=>exact wpAny_execs_nil q
 | ret v=>exact q
 | brk=>exact q
 | cont=>exact q
theorem Inv.quiet {pins:Pnn}{σ:St}{H:Hp}{s:Shared}(I:Inv X pins σ H s):interactive X.env=false:=by simp [interactive,I.ok.kind]
def tDrop (te:TE):TS:=fun D σ H=>te σ H fun _ H1=>D.nx σ H1
theorem zao_ (he:PE X e te) (hs:swapsWith e none pos.line X.env=pure false:=by rfl):PS X (.Expr e pos) (tDrop te):=by
 intro pins s σ H D I h
 exact wpAny_Expr_any (thn (he pins s σ H _ I h) fun v s1 ⟨x,H1,I1,r1,q1⟩=>⟨σ,H1,I1,q1⟩) I.quiet hs
def tRet (te:TE):TS:=fun D σ H=>te σ H D.rt
theorem zY_ (he:PE X e te):PS X (.Return (some e) pos) (tRet te):=by
 intro pins s σ H D I h
 exact wpAny_Return_some (thn (he pins s σ H _ I h) fun v s1 ⟨x,H1,I1,r1,q1⟩=>⟨x,σ,H1,I1,r1,q1⟩)
def tNever:TS:=fun _ _ _=>False
theorem zem_:PS X st tNever:=fun _ _ _ _ _ _ h=>h.elim
end
abbrev TG:=V→St→Hp→(St→Hp→Prop)→Prop
abbrev TGs:=List V→St→Hp→(St→Hp→Prop)→Prop
def PG (X:Cx) (target:Expr) (t:TG):Prop :=
 ∀ (pins:Pnn) (s:Shared) (σ:St) (H:Hp) (v:V) (u:Value) (Q:St→Hp→Prop),Inv X pins σ H s→RelV v u→t v σ H Q →
  wpAny (model X.prog X.w) X.A (assign target X.env u) (fun _ s'=>∃ σ' H',Inv X pins σ' H' s'∧Q σ' H') X.xe s
def PGs (X:Cx) (ts:List Expr) (t:TGs):Prop :=
 ∀ (pins:Pnn) (s:Shared) (σ:St) (H:Hp) (vs:List V) (us:List Value) (Q:St→Hp→Prop),Inv X pins σ H s→Vals vs us→t vs σ H Q →
  wpAny (model X.prog X.w) X.A (assignInOrder ((assignEach ts X.env).map (·.2)) us) (fun _ s'=>∃ σ' H',Inv X pins σ' H' s'∧Q σ' H') X.xe s
abbrev TSet:=V→V→V→Hp→(Hp→Prop)→Prop
def PSet (X:Cx) (t:TSet):Prop :=
 ∀ (pins:Pnn) (s:Shared) (σ:St) (H:Hp) (o i v:V) (ov iv u:Value) (Q:Hp→Prop),Inv X pins σ H s→RelV o ov→RelV i iv→RelV v u→t o i v H Q →
  wpAny (model X.prog X.w) X.A (setItem ov iv u) (fun _ s'=>∃ H',Inv X pins σ H' s'∧Q H') X.xe s
section
variable {X:Cx}{pos:Pos}
def gName (i:Nat):TG:=fun v σ H Q=>Q (σ.set i (some v)) H
theorem zlK_ {i:Nat}{x:Str}(hN:X.N.Nodup) (hi:X.N[i]?=some x) (hx:Loc X.env.scope x) (hf:X.fn x=true∨X.env.scope.names.lookup x=some .local:=by first | exact .inl rfl | exact .inr rfl | assumption):PG X (.Name x pos) (gName i):=by
 intro pins s σ H v u Q I r h
 exact wpAny_assign_Name (ziT_ I hN hi hx r (fun s' I'=>⟨_,H,I',h⟩) hf)
def gNil:TGs:=fun vs σ H Q=>vs=[]∧Q σ H
def gCons (t:TG) (u:TGs):TGs:=fun vs σ H Q=>∃ v r,vs=v::r∧t v σ H fun σ' H'=>u r σ' H' Q
theorem znK_:PGs X [] gNil:=by
 intro pins s σ H vs us Q I r h
 obtain ⟨e,h⟩:=h
 subst e
 cases r
 exact assignInOrder_nil ⟨σ,H,I,h⟩
theorem zmH_ {e:Expr}{es:List Expr}{t:TG}{u:TGs}(h1:PG X e t) (h2:PGs X es u)
  (hs:(assignEach (e::es) X.env).map (·.2)=assign e X.env::(assignEach es X.env).map (·.2):=by rfl):PGs X (e::es) (gCons t u):=by
 intro pins s σ H vs us Q I r h
 obtain ⟨v,vr,e1,h⟩:=h
 subst e1
 cases r with
 | cons r rr =>
  rw [hs]
  refine assignInOrder_cons (thn (h1 pins s σ H _ _ _ I r h) fun _ s1 hq_=>?_)
  obtain ⟨σ1,H1,I1,q1⟩:=hq_
  exact h2 pins s1 σ1 H1 _ _ Q I1 rr q1
def gTup (K:Fgg) (n:Nat) (t:TGs):TG:=fun v σ H Q=>∃ a xs,v=.ref a∧SqT K H a xs∧xs.length=n∧t xs σ H Q
theorem zpB_ {es:List Expr}{k:Nat}{t:TGs}{n:Nat}(hc:X.calm=true) (h:PGs X es t)
  (hn:(assignEach es X.env).length=n:=by rfl) (hst:(assignEach es X.env).findIdx? (·.1)=none:=by rfl):PG X (.Tuple es k pos) (gTup X.K n t):=by
 intro pins s σ H v u Q I r hw
 obtain ⟨a,xs,e1,hq,hl,hw⟩:=hw
 subst e1
 cases r
 obtain ⟨its,rv,ht,hz⟩:=I.tuple hq
 refine assign_Tuple_tuple (I.ok.hd hc) ht (by simp [hn,← hl,rv.length]) hst fun h' hx=>?_
 have I1:Inv X pins σ H { s with heap:=h' }:=I.kept (t':=s.toks) fun b o e=>hx b o (Nat.ne_of_lt (Heap.lt_size e)) e
 exact h pins _ σ H xs _ Q I1 (by simpa using rv) hw
def gSub (to ti:TE) (t:TSet):TG:=fun v σ H Q=>to σ H fun o H1=>ti σ H1 fun i H2=>t o i v H2 fun H3=>Q σ H3
theorem zoR_ {o i:Expr}{to ti:TE}{t:TSet}(ho:PE X o to) (hi:PE X i ti) (hs:PSet X t)
  (ha:∀ v,assign (.Subscript o i pos) X.env v=(do
   let ov ← holding [v] (eval o X.env)
   let iv ← holding [v,ov] (eval i X.env)
   standAt pos
   holding [v,ov,iv] (setItem ov iv v)
   release [v,ov,iv] []):=by intro _; rfl):PG X (.Subscript o i pos) (gSub to ti t):=by
 intro pins s σ H v u Q I r h
 rw [ha]
 refine wpAny_bind (wpAny_holding (thn (ho pins s σ H _ I h) fun ov s1 hq_=>?_))
 obtain ⟨x,H1,I1,r1,q1⟩:=hq_
 refine wpAny_bind (wpAny_holding (thn (hi pins s1 σ H1 _ I1 q1) fun iv s2 hq_=>?_))
 obtain ⟨y,H2,I2,r2,q2⟩:=hq_
 refine wpAny_bind (wpAny_standAt (wpAny_bind (wpAny_holding (thn (hs pins s2 σ H2 x y v ov iv u _ I2 r1 r2 r q2) fun _ s3 hq_=>?_))))
 obtain ⟨H3,I3,q3⟩:=hq_
 exact wpAny_release ⟨σ,H3,I3,q3⟩
def tAsg (te:TE) (g:TG):TS:=fun D σ H=>te σ H fun x H1=>g x σ H1 D.nx
theorem zmr_ {tg e:Expr}{te:TE}{g:TG}(he:PE X e te) (hg:PG X tg g) (hs:swapsWithSole [tg] e pos.line X.env=pure false:=by rfl) (hw:swappedStores [tg] e X.env=pure none:=by rfl)
  (h1:(assignEach [tg] X.env).map (·.2)=[assign tg X.env]:=by rfl):PS X (.Assign [tg] e pos) (tAsg te g):=by
 intro pins s σ H D I h
 refine wpAny_Assign_stores (thn (he pins s σ H _ I h) fun v s1 hq_=>?_) hs hw
 obtain ⟨x,H1,I1,r1,q1⟩:=hq_
 rw [h1]
 exact thn (hg pins s1 σ H1 x v _ I1 r1 q1) fun _ s2 q=>q
theorem zpi_ {i:Nat}{x:Str}{e:Expr}{te:TE}{pos':Pos}(hN:X.N.Nodup) (hi:X.N[i]?=some x) (hx:Loc X.env.scope x) (he:PE X e te) (hs:swapsWith e (some (.Name x pos')) pos.line X.env=pure false:=by rfl) (hf:X.fn x=true∨X.env.scope.names.lookup x=some .local:=by first | exact .inl rfl | exact .inr rfl | assumption) :
  PS X (.Assign [.Name x pos'] e pos) (tAsg te (gName i)):=by
 intro pins s σ H D I h
 refine wpAny_Assign_Name (thn (he pins s σ H _ I h) fun v s1 hq_=>?_) hs
 obtain ⟨y,H1,I1,r1,q1⟩:=hq_
 exact ziT_ I1 hN hi hx r1 (fun s2 I2=>⟨_,H1,I2,q1⟩) hf
end
section
variable {X:Cx}{pos:Pos}
end
structure It where
 go:Nat→Hp→Prop
 yld:Nat→Hp→V→Hp→Prop
 stop:Nat→Hp→Prop
def FpOk (X:Cx) (pins:Pnn) (H:Hp) (b:Addr):Prop :=
 H b=none∧b≠X.env.locals∧b∉X.fs∧(b∈X.ex∨X.s₀.heap.objs.size≤b)∧(∀ x c,X.env.cells.lookup x=some c→c≠b)∧∀ p∈X.pn++pins,p.1≠b
theorem Inv.fpOk {X:Cx}{pins:Pnn}{σ:St}{H H':Hp}{s:Shared}{b:Addr}(I:Inv X pins σ H s) (hb:s.heap.objs.size≤b) (hn:H' b=none):FpOk X pins H' b:=by
 refine ⟨hn,Nat.ne_of_gt (Nat.lt_of_lt_of_le I.lt hb),I.nofs hb,.inr (Nat.le_trans I.sz hb),fun x c e z=>?_,fun p hp z=>?_⟩
 ·obtain ⟨v,q⟩:=I.cell x c e
  exact absurd (Nat.lt_of_lt_of_le q.lt (by rw [z]; exact hb)) (Nat.lt_irrefl _)
 ·exact absurd (Nat.lt_of_lt_of_le (Heap.lt_size (I.pin p hp).1) (by rw [z]; exact hb)) (Nat.lt_irrefl _)
structure Turn (P:Program) (w:World) (K:Fgg) (tg:Expr) (J:It) (fp:List Addr) (it:Addr) (tn:Nat→Heap→Prop):Prop where
 mem:it∈fp
 obj:∀ i h,tn i h→∀ b∈fp,∃ o,h.get? b=some o∧∀ v,o.data≠.cell v
 keep:∀ i h h',tn i h→(∀ b∈fp,∀ o,h.get? b=some o→h'.get? b=some o)→tn i h'
 item:∀ (X:Cx),X.prog=P→X.w=w→X.K=K→X.calm=true→∀ (i:Nat) (pins:Pnn) (s:Shared) (σ:St) (H:Hp) (E:Value→Shared→Prop),Inv X pins σ H s→(∀ b∈fp,FpOk X pins H b)→tn i s.heap→J.go i H →
  wpAny (model P w) X.A (pyNext (.ref it)) (fun r s1=>∃ u,r=some u ∧
   wpAny (model P w) X.A (letOwnedTupleGo tg (.ref it) u) (fun _ s2=>∃ x H',Inv X pins σ H' s2∧RelV x u∧J.yld i H x H'∧tn (i+1) s2.heap∧∀ b∈fp,H' b=none) E s1) E s
 done:∀ (X:Cx),X.prog=P→X.w=w→X.K=K→X.calm=true→∀ (i:Nat) (pins:Pnn) (s:Shared) (σ:St) (H:Hp) (E:Value→Shared→Prop),Inv X pins σ H s→(∀ b∈fp,FpOk X pins H b)→tn i s.heap→J.stop i H →
  wpAny (model P w) X.A (pyNext (.ref it)) (fun r s1=>r=none∧Inv X pins σ H s1) E s
 self:∀ (A:Around) (i:Nat) (s:Shared) (Q:Value→Shared→Prop) (E:Value→Shared→Prop),tn i s.heap→Q (.ref it) s→wpAny (model P w) A (pyIter (.ref it)) Q E s
abbrev TI:=St→Hp→(It→Hp→Prop)→Prop
def PIE (X:Cx) (pins:Pnn) (σ:St) (tg:Expr) (R:It→Hp→Prop) (itv:Value) (s2:Shared):Prop :=
 ∃ (it:Addr) (fp:List Addr) (tn:Nat→Heap→Prop) (J:It) (H':Hp),itv=.ref it∧Inv X pins σ H' s2∧Turn X.prog X.w X.K tg J fp it tn∧tn 0 s2.heap∧(∀ b∈fp,FpOk X pins H' b)∧R J H'
def PI (X:Cx) (tg iter:Expr) (wi:TI):Prop :=
 ∀ (pins:Pnn) (s:Shared) (σ:St) (H:Hp) (R:It→Hp→Prop),Inv X pins σ H s→wi σ H R →
  wpAny (model X.prog X.w) X.A (eval iter X.env) (fun v s1=>wpAny (model X.prog X.w) X.A (pyIter v) (PIE X pins σ tg R) X.xe s1) X.xe s
theorem zo6_ {M:Model}{A:Around}{E:Value→Shared→Prop}{s:Shared}{tg:Expr}{it:Addr}{u:Value}{o:Obj}{n:String}{vs:Array Value}{Q:Unit→Shared→Prop}(ho:s.heap.get? it=some o) (hc:o.cls=.type n) (hd:o.data=.fields vs)
  (hn:["enumerate", "zip", "dict_itemiterator", "dict_reverseitemiterator", "odict_iterator", "itertools.zip_longest", "itertools.pairwise"].contains n=false) (hQ:Q () s):wpAny M A (letOwnedTupleGo tg (.ref it) u) Q E s:=by
 unfold letOwnedTupleGo
 cases tg<;>first
  | exact wpAny_pure hQ
  | (cases u<;>first
    | exact wpAny_pure hQ
    | (refine wpAny_bind (wpAny_load ho ?_)
       rw [hc,hd]
       show wpAny M A (if (["enumerate", "zip", "dict_itemiterator", "dict_reverseitemiterator", "odict_iterator", "itertools.zip_longest", "itertools.pairwise"].contains n && vs[0]? == some (rawInt _))=true then _ else _) Q E s
       rw [if_neg (by intro h; rw [hn,Bool.false_and] at h; cases h)]
       exact wpAny_pure hQ))
def Itl (K:Fgg) (a:Addr):It :=
 ⟨fun i H=>∃ xs x,SqL K H a xs∧xs[i]?=some x,fun i H x H'=>H'=H∧∀ xs,SqL K H a xs→xs[i]?=some x,fun i H=>∃ xs,SqL K H a xs∧xs.length≤i⟩
def Itt (K:Fgg) (a:Addr):It :=
 ⟨fun i H=>∃ xs x,SqT K H a xs∧xs[i]?=some x,fun i H x H'=>H'=H∧∀ xs,SqT K H a xs→xs[i]?=some x,fun i H=>∃ xs,SqT K H a xs∧xs.length≤i⟩
def Itr (lo:Int) (n:Nat):It:=⟨fun i _=>i<n,fun i H x H'=>H'=H∧x=.int (lo+i),fun i _=>n≤i⟩
theorem zkL_ {P:Program}{w:World}{K:Fgg}{tg:Expr}(a it:Addr):Turn P w K tg (Itl K a) [it] it (fun i h=>h.IsListIter it a i) where
 mem:=by simp
 obj:=fun i h st b hb=>by
  have e:b=it:=by simpa using hb
  subst e
  obtain ⟨o,e,c,d⟩:=st
  exact ⟨o,e,fun v z=>by rw [d] at z; cases z⟩
 keep:=fun i h h' st k=>st.at fun o e=>k it (by simp) o e
 item:=by
  intro X hP hw hK hc i pins s σ H E I hf st hg
  subst hP hw hK
  obtain ⟨xs,x,hq,hx⟩:=hg
  obtain ⟨its,rv,p,hz⟩:=I.list hq
  obtain ⟨u,hu,ru⟩:=rv.get hx
  obtain ⟨f0,f1,f2,f3,f4,f5⟩:=hf it (by simp)
  refine wpAny_pyNext_list_item st p.isList (x:=u) (by simpa using hu) fun h' st' sb=>?_
  have I1:Inv X pins σ H { s with heap:=h' }:=I.turned (t':=s.toks) (fun b o hb e=>(sb.2 b hb).trans e) f0 f1 f3 f4 f5
  obtain ⟨o,e,c,d⟩:=id st'
  exact ⟨u,rfl,zo6_ (s:={ s with heap:=h' }) e c d (by decide) ⟨x,H,I1,ru,⟨rfl,fun ys hy=>by rw [I.list_inj hy hq]; exact hx⟩,st',fun b hb=>(hf b hb).1⟩⟩
 done:=by
  intro X hP hw hK hc i pins s σ H E I hf st hg
  subst hP hw hK
  obtain ⟨xs,hq,hx⟩:=hg
  obtain ⟨its,rv,p,hz⟩:=I.list hq
  obtain ⟨f0,f1,f2,f3,f4,f5⟩:=hf it (by simp)
  have hl:=rv.length
  exact wpAny_pyNext_list_end (I.ok.hd hc) st p.isList (by simp; lia) fun h' eb=>⟨rfl,I.turned (t':=s.toks) (fun b o hb e=>eb b o hb e) f0 f1 f3 f4 f5⟩
 self:=fun _ _ _ _ _ st h=>wpAny_pyIter_listiter st h
theorem zi5_ {P:Program}{w:World}{K:Fgg}{tg:Expr}(a it:Addr):Turn P w K tg (Itt K a) [it] it (fun i h=>h.IsTupleIter it a i) where
 mem:=by simp
 obj:=fun i h st b hb=>by
  have e:b=it:=by simpa using hb
  subst e
  obtain ⟨o,e,c,d⟩:=st
  exact ⟨o,e,fun v z=>by rw [d] at z; cases z⟩
 keep:=fun i h h' st k=>st.at fun o e=>k it (by simp) o e
 item:=by
  intro X hP hw hK hc i pins s σ H E I hf st hg
  subst hP hw hK
  obtain ⟨xs,x,hq,hx⟩:=hg
  obtain ⟨its,rv,p,hz⟩:=I.tuple hq
  obtain ⟨u,hu,ru⟩:=rv.get hx
  obtain ⟨f0,f1,f2,f3,f4,f5⟩:=hf it (by simp)
  refine wpAny_pyNext_tuple_item st (show s.heap.IsTuple a its.toArray from p) (x:=u) (by simpa using hu) fun h' st' sb=>?_
  have I1:Inv X pins σ H { s with heap:=h' }:=I.turned (t':=s.toks) (fun b o hb e=>(sb.2 b hb).trans e) f0 f1 f3 f4 f5
  obtain ⟨o,e,c,d⟩:=id st'
  exact ⟨u,rfl,zo6_ (s:={ s with heap:=h' }) e c d (by decide) ⟨x,H,I1,ru,⟨rfl,fun ys hy=>by rw [I.tuple_inj hy hq]; exact hx⟩,st',fun b hb=>(hf b hb).1⟩⟩
 done:=by
  intro X hP hw hK hc i pins s σ H E I hf st hg
  subst hP hw hK
  obtain ⟨xs,hq,hx⟩:=hg
  obtain ⟨its,rv,p,hz⟩:=I.tuple hq
  obtain ⟨f0,f1,f2,f3,f4,f5⟩:=hf it (by simp)
  have hl:=rv.length
  exact wpAny_pyNext_tuple_end (I.ok.hd hc) st (show s.heap.IsTuple a its.toArray from p) (by simp; lia) fun h' eb=>⟨rfl,I.turned (t':=s.toks) (fun b o hb e=>eb b o hb e) f0 f1 f3 f4 f5⟩
 self:=fun _ _ _ _ _ st h=>wpAny_pyIter_tupleiter st h
theorem zjb_ {P:Program}{w:World}{K:Fgg}{tg:Expr}(it:Addr) (lo:Int) (n:Nat):Turn P w K tg (Itr lo n) [it] it (fun i h=>IsRangeIter h it (lo+(i:Nat)*1) ((n:Int)-(i:Nat)) 1) where
 mem:=by simp
 obj:=fun i h st b hb=>by
  have e:b=it:=by simpa using hb
  subst e
  exact ⟨_,st,fun v z=>by
   have z':Data.fields _=Data.cell v:=z
   cases z'⟩
 keep:=fun i h h' st k=>k it (by simp) _ st
 item:=by
  intro X hP hw hK hc i pins s σ H E I hf st hg
  subst hP hw hK
  obtain ⟨f0,f1,f2,f3,f4,f5⟩:=hf it (by simp)
  have W:=Walks.range (prog:=X.prog) (w:=X.w) (I.ok.hd hc) it lo 1 n
  refine W.item i s _ _ hg st fun v h' tk hv st' kk=>?_
  obtain ⟨t,rfl⟩:=hv
  have I1:Inv X pins σ H { s with heap:=h',toks:=tk }:=I.turned (fun b o hb e=>kk b o (by simpa using hb) e) f0 f1 f3 f4 f5
  refine ⟨_,rfl,zo6_ (s:={ s with heap:=h',toks:=tk }) (n := "range_iterator") st' rfl rfl (by decide) ⟨.int (lo+i),H,I1,⟨t,?_⟩,⟨rfl,rfl⟩,st',fun b hb=>(hf b hb).1⟩⟩
  rw [Int.mul_one]
 done:=by
  intro X hP hw hK hc i pins s σ H E I hf st hg
  subst hP hw hK
  obtain ⟨f0,f1,f2,f3,f4,f5⟩:=hf it (by simp)
  exact wpAny_pyNext_range_end (I.ok.hd hc) st (by have:n≤i:=hg; lia) fun h' eb=>⟨rfl,I.turned (t':=s.toks) (fun b o hb e=>eb b o hb e) f0 f1 f3 f4 f5⟩
 self:=fun _ _ _ _ _ st h=>wpAny_pyIter_rangeiter st h
end L2
namespace L2
open PySem PySem.Spec PyProof.Rows
section
variable {X:Cx}{tg:Expr}
theorem zl7_ {pins:Pnn}{σ:St}{H:Hp}{s:Shared}{R:It→Hp→Prop}{E:Value→Shared→Prop}{lo hi:Int}{t u v:Tok}{tk:Nat}(I:Inv X pins σ H s) (h1 : -(2 ^ 62)≤lo) (h2:lo<2 ^ 62) (h3 : -(2 ^ 62)≤hi) (h4:hi<2 ^ 62)
  (q:R (Itr lo (hi-lo).toNat) H):wpAny (model X.prog X.w) X.A (pyIter (.ref s.heap.objs.size)) (PIE X pins σ tg R) E { s with heap:=s.heap.push { cls:=.type "range",data:=.fields #[.int lo t,.int hi u,.int 1 v] },toks:=tk }:=by
 refine wpAny_pyIter_range (IsRange.new ..) (small_one h1 h2 h3 h4) ?_
 have I1:Inv X pins σ H { s with heap:=s.heap.push { cls:=.type "range",data:=.fields #[.int lo t,.int hi u,.int 1 v] },toks:=tk }:=I.kept fun b o e=>Heap.get?_push_of_some _ e
 refine ⟨(s.heap.push { cls:=.type "range",data:=.fields #[.int lo t,.int hi u,.int 1 v] }).objs.size,[(s.heap.push { cls:=.type "range",data:=.fields #[.int lo t,.int hi u,.int 1 v] }).objs.size],_,_,H,rfl,
  I1.kept (t':=tk) fun b o e=>Heap.get?_push_of_some _ e,zjb_ _ lo (hi-lo).toNat,?_,fun b hb=>?_,q⟩
 ·have e1:lo+((0:Nat):Int)*1=lo:=by simp
  have e2:(((hi-lo).toNat:Nat):Int)-((0:Nat):Int)=Builtin.Range.rangeSize lo hi 1:=by rw [rangeSize_one]; split<;>omega
  show IsRangeIter _ _ (lo+((0:Nat):Int)*1) ((((hi-lo).toNat:Nat):Int)-((0:Nat):Int)) 1
  rw [e1,e2]
  exact Heap.get?_push_size _ rfl
 ·have e:b=(s.heap.push { cls:=.type "range",data:=.fields #[.int lo t,.int hi u,.int 1 v] }).objs.size:=by simpa using hb
  subst e
  exact I1.fpOk (Nat.le_refl _) (I1.hok.fresh (Nat.le_refl _))
def tFor (wi:TI) (g:TG) (tb:TS):TS:=fun D σ H=>wi σ H fun J H1=>∃ W:Nat→Nat→St→Hp→Prop,(∃ m,W 0 m σ H1)∧∀ i m σ H,W i m σ H →
 (J.stop i H∧D.nx σ H)∨(J.go i H∧∃ N:St→Hp→Prop,(∀ σ' H',N σ' H'→∃ m',m'<m∧W (i+1) m' σ' H')∧∀ x H',J.yld i H x H'→g x σ H' fun σ2 H2=>tb { D with nx:=N,ct:=N,bk:=D.nx } σ2 H2)
def pinsAt (fp:List Addr) (h:Heap):Pnn:=fp.filterMap fun b=>(h.get? b).map fun o=>(b,o)
theorem zdf_ {fp:List Addr}{h:Heap}{b:Addr}{o:Obj}(hb:b∈fp) (e:h.get? b=some o):(b,o)∈pinsAt fp h:=List.mem_filterMap.mpr ⟨b,hb,by rw [e]; rfl⟩
theorem zkQ_ {fp:List Addr}{h:Heap}{p:Addr×Obj}(hp:p∈pinsAt fp h):p.1∈fp∧h.get? p.1=some p.2:=by
 obtain ⟨b,hb,e⟩:=List.mem_filterMap.mp hp
 cases q:h.get? b with
 | none=>rw [q] at e; cases e
 | some o =>
  rw [q] at e
  have e':(b,o)=p:=Option.some.inj e
  subst e'
  exact ⟨hb,q⟩
theorem Inv.pinned {pins:Pnn}{σ:St}{H:Hp}{s:Shared}{fp:List Addr}(I:Inv X pins σ H s) (hf:∀ b∈fp,FpOk X pins H b) (ho:∀ b∈fp,∃ o,s.heap.get? b=some o∧∀ v,o.data≠.cell v):Inv X (pins++pinsAt fp s.heap) σ H s :=
 I.pins_of fun p hp=>(List.mem_append.mp hp).elim (fun z=>I.pin p (List.mem_append_right _ z)) fun z=>by
  obtain ⟨hb,e⟩:=zkQ_ z
  obtain ⟨f0,f1,f2,_⟩:=hf p.1 hb
  obtain ⟨o,e',d⟩:=ho p.1 hb
  rw [e] at e'; cases e'
  exact ⟨e,f0,f1,f2,d⟩
theorem Inv.unpinned {pins pl:Pnn}{σ:St}{H:Hp}{s:Shared}(I:Inv X (pins++pl) σ H s):Inv X pins σ H s:=I.pins_of fun p hp=>I.pin p (List.mem_append_right _ (List.mem_append_left _ hp))
theorem zcI_ {iter:Expr}{body:List Stmt}{wi:TI}{g:TG}{tb:TS}{pos:Pos}(hp:PassesOwn (model X.prog X.w) X.A X.env X.xe) (hc:X.calm=true) (hi:PI X tg iter wi) (hg:PG X tg g) (hb:PSs X body tb)
  (hs:∀ x,foldedSetIterable iter X.env x=pure x:=by intro _; rfl):PS X (.For tg iter body [] pos) (tFor wi g tb):=by
 intro pins s σ H D I h
 refine wpAny_For (thn (hi pins s σ H _ I h) fun v s1 h1=>thn h1 fun itv s2 h2=>?_) hs
 obtain ⟨it,fp,tn,J,H2,e,I2,T,st2,f2,W,⟨m0,w0⟩,turn⟩:=h2
 subst e
 have stat:∀ {H':Hp},(∀ b∈fp,H' b=none)→∀ b∈fp,FpOk X pins H' b:=fun hn b hb=>⟨hn b hb,(f2 b hb).2⟩
 refine codeAny_forLoop_any (fun n s'=>∃ i σ' H',Inv X pins σ' H' s'∧tn i s'.heap∧(∀ b∈fp,H' b=none)∧W i n σ' H') ?_ m0 ⟨0,σ,H2,I2,st2,fun b hb=>(f2 b hb).1,w0⟩
 rintro n s3 ⟨i,σ3,H3,I3,st3,fr3,w3⟩
 rcases turn i n σ3 H3 w3 with ⟨stop,qn⟩ | ⟨go,N,hN,step⟩
 ·refine wpAny_passesOwn hp (thn (T.done X rfl rfl rfl hc i pins s3 σ3 H3 X.xe I3 (stat fr3) st3 stop) fun r s4 hq_=>?_)
  obtain ⟨hr,I4⟩:=hq_
  subst hr
  exact wpAny_execs_nil ⟨σ3,H3,I4,qn⟩
 ·refine wpAny_passesOwn hp (thn (T.item X rfl rfl rfl hc i pins s3 σ3 H3 X.xe I3 (stat fr3) st3 go) fun r s4 hq_=>?_)
  obtain ⟨u,hr,h4⟩:=hq_
  subst hr
  refine wpAny_passesOwn hp (thn h4 fun _ s5 hq_=>?_)
  obtain ⟨x,H5,I5,r5,y5,st5,fr5⟩:=hq_
  have I5':=I5.pinned (stat fr5) (T.obj _ _ st5)
  refine wpAny_passesOwn hp (thn (hg _ s5 σ3 H5 x u _ I5' r5 (step x H5 y5)) fun _ s6 hq_=>?_)
  obtain ⟨σ6,H6,I6,q6⟩:=hq_
  refine wpAny_passesOwn hp (thn (hb _ s6 σ6 H6 _ I6 q6) fun f s7 q7=>?_)
  have again:∀ {σ7:St}{H7:Hp},Inv X (pins++pinsAt fp s5.heap) σ7 H7 s7→N σ7 H7→∃ m,m<n∧∃ i σ' H',Inv X pins σ' H' s7∧tn i s7.heap∧(∀ b∈fp,H' b=none)∧W i m σ' H':=fun {σ7 H7} I7 n7=>by
   obtain ⟨m',hm,w7⟩:=hN σ7 H7 n7
   refine ⟨m',hm,i+1,σ7,H7,I7.unpinned,T.keep _ _ _ st5 fun b hb o e=>(I7.pin (b,o) (List.mem_append_right _ (List.mem_append_right _ (zdf_ hb e)))).1,fun b hb=>?_,w7⟩
   obtain ⟨o,e,d⟩:=T.obj _ _ st5 b hb
   exact (I7.pin (b,o) (List.mem_append_right _ (List.mem_append_right _ (zdf_ hb e)))).2.1
  cases f with
  | next=>obtain ⟨σ7,H7,I7,n7⟩:=q7; exact again I7 n7
  | cont=>obtain ⟨σ7,H7,I7,n7⟩:=q7; exact again I7 n7
  | brk=>obtain ⟨σ7,H7,I7,q7⟩:=q7; exact ⟨σ7,H7,I7.unpinned,q7⟩
  | ret v=>obtain ⟨x7,σ7,H7,I7,r7,q7⟩:=q7; exact ⟨x7,σ7,H7,I7.unpinned,r7,q7⟩
end
end L2
namespace L2
open PySem PySem.Spec PyProof.Rows
abbrev R2:=V→V→Hp→VK→Prop
def OpR (X:Cx) (f:Value→Value→Sem Value) (r:R2):Prop :=
 ∀ (pins:Pnn) (s:Shared) (σ:St) (H:Hp) (x y:V) (v u:Value) (Q:VK),Inv X pins σ H s→RelV x v→RelV y u→r x y H Q →
  wpAny (model X.prog X.w) X.A (f v u) (EP X pins σ Q) X.xe s
def UnR (X:Cx) (f:Value→Sem Value) (r:V→Hp→VK→Prop):Prop :=
 ∀ (pins:Pnn) (s:Shared) (σ:St) (H:Hp) (x:V) (v:Value) (Q:VK),Inv X pins σ H s→RelV x v→r x H Q →
  wpAny (model X.prog X.w) X.A (f v) (EP X pins σ Q) X.xe s
def CallR (X:Cx) (f:Value) (r:List V→Hp→VK→Prop):Prop :=
 ∀ (pins:Pnn) (s:Shared) (σ:St) (H:Hp) (xs:List V) (us:List Value) (Q:VK),Inv X pins σ H s→Vals xs us→r xs H Q →
  wpAny (model X.prog X.w) X.A (call f us) (EP X pins σ Q) X.xe s
def tOp (r:R2) (ta tb:TE):TE:=fun σ H Q=>ta σ H fun x H1=>tb σ H1 fun y H2=>r x y H2 Q
def tUn (r:V→Hp→VK→Prop) (ta:TE):TE:=fun σ H Q=>ta σ H fun x H1=>r x H1 Q
def rI (C:Int→Int→Prop) (g:Int→Int→V):R2:=fun x y H Q=>∃ i j,x=.int i∧y=.int j∧C i j∧Q (g i j) H
def rI0 (g:Int→Int→V):R2:=fun x y H Q=>∃ i j,x=.int i∧y=.int j∧Q (g i j) H
def rU (g:Int→V):V→Hp→VK→Prop:=fun x H Q=>∃ i,x=.int i∧Q (g i) H
section
variable {X:Cx}{a b c:Expr}{ta tb tc:TE}{pos:Pos}
theorem binT (ha:PE X a ta) (hb:PE X b tb) {pins:Pnn}{s:Shared}{σ:St}{H:Hp}{R:V→V→Hp→Prop}(I:Inv X pins σ H s)
  (h:ta σ H fun x H1=>tb σ H1 fun y H2=>R x y H2) {Q:Value→Shared→Prop}{f:Value→Value→Sem Value}
  (hf:∀ v u s2 x y H2,Inv X pins σ H2 s2→RelV x v→RelV y u→R x y H2→wpAny (model X.prog X.w) X.A (f v u) Q X.xe s2) :
  wpAny (model X.prog X.w) X.A (eval a X.env) (fun v s₁=>wpAny (model X.prog X.w) X.A (eval b X.env) (fun u s₂=>wpAny (model X.prog X.w) X.A (f v u) Q X.xe s₂) X.xe s₁) X.xe s:=by
 refine thn (ha pins s σ H _ I h) fun v s1 hq_=>?_
 obtain ⟨x,H1,I1,r1,q1⟩:=hq_
 refine thn (hb pins s1 σ H1 _ I1 q1) fun u s2 hq_=>?_
 obtain ⟨y,H2,I2,r2,q2⟩:=hq_
 exact hf v u s2 x y H2 I2 r1 r2 q2
theorem zak_ {op:Operator}{r:R2}(ho:OpR X (binaryOp op) r) (ha:PE X a ta) (hb:PE X b tb):PE X (.BinOp a op b pos) (tOp r ta tb):=by
 intro pins s σ H Q I h
 exact wpAny_BinOp (binT ha hb I h fun v u s2 x y H2 I2 rx ry q=>ho pins s2 σ H2 x y v u Q I2 rx ry q)
theorem opI {f:Value→Value→Sem Value}{C:Int→Int→Prop}{g:Int→Int→Int}
  (rule:∀ (i j:Int) (t u:Tok) (s:Shared) (Q:Value→Shared→Prop) (E:Value→Shared→Prop),C i j→Q (.int (g i j) s.toks) { s with toks:=s.toks+1 }→wpAny (model X.prog X.w) X.A (f (.int i t) (.int j u)) Q E s) :
  OpR X f (rI C fun i j=>.int (g i j)):=by
 intro pins s σ H x y v u Q I rx ry h
 obtain ⟨i,j,rfl,rfl,hc,q⟩:=h
 obtain ⟨t,rfl⟩:=rx
 obtain ⟨t',rfl⟩:=ry
 exact rule i j t t' s _ _ hc ⟨.int (g i j),H,I.tok _,⟨_,rfl⟩,q⟩
theorem opI0 {f:Value→Value→Sem Value}{g:Int→Int→Int}
  (rule:∀ (i j:Int) (t u:Tok) (s:Shared) (Q:Value→Shared→Prop) (E:Value→Shared→Prop),Q (.int (g i j) s.toks) { s with toks:=s.toks+1 }→wpAny (model X.prog X.w) X.A (f (.int i t) (.int j u)) Q E s) :
  OpR X f (rI0 fun i j=>.int (g i j)):=by
 intro pins s σ H x y v u Q I rx ry h
 obtain ⟨i,j,rfl,rfl,q⟩:=h
 obtain ⟨t,rfl⟩:=rx
 obtain ⟨t',rfl⟩:=ry
 exact rule i j t t' s _ _ ⟨.int (g i j),H,I.tok _,⟨_,rfl⟩,q⟩
theorem opB0 {f:Value→Value→Sem Value}{g:Int→Int→Bool}
  (rule:∀ (i j:Int) (t u:Tok) (s:Shared) (Q:Value→Shared→Prop) (E:Value→Shared→Prop),Q (.bool (g i j)) s→wpAny (model X.prog X.w) X.A (f (.int i t) (.int j u)) Q E s) :
  OpR X f (rI0 fun i j=>.bl (g i j)):=by
 intro pins s σ H x y v u Q I rx ry h
 obtain ⟨i,j,rfl,rfl,q⟩:=h
 obtain ⟨t,rfl⟩:=rx
 obtain ⟨t',rfl⟩:=ry
 exact rule i j t t' s _ _ ⟨.bl (g i j),H,I,rfl,q⟩
def CDiv (i j:Int):Prop:=0<j∧j<1073741824
def CPow (i j:Int):Prop:=0≤j∧j≤1000000∧i.natAbs<2 ^ 64
def CMul (i j:Int):Prop:=(-(2 ^ 64)<i∧i<2 ^ 64)∨(-(2 ^ 64)<j∧j<2 ^ 64)
theorem CMul.ok {i j:Int}(h:CMul i j):IntMulOk i j:=by
 rcases h with ⟨h1,h2⟩ | ⟨h1,h2⟩
 ·exact .of_left (intBits_le_64 h1 h2)
 ·exact .of_right (intBits_le_64 h1 h2)
theorem zqu_:OpR X (binaryOp .Add) (rI0 fun i j=>.int (i+j)):=opI0 fun _ _ _ _ _ _ _ q=>add_int q
theorem zpU_:OpR X (binaryOp .Sub) (rI0 fun i j=>.int (i-j)):=opI0 fun _ _ _ _ _ _ _ q=>sub_int q
theorem zpJ_:OpR X (binaryOp .Mod) (rI (fun _ j=>0<j) fun i j=>.int (i % j)):=opI fun i j _ _ _ _ _ hc q=>by
 have h1:(0:Int)<j:=hc
 exact mod_int' (by lia) (by rw [Int.fmod_eq_emod_of_nonneg i (by lia)]; exact q)
theorem unI {f:Value→Sem Value}{g:Int→Int}
  (rule:∀ (i:Int) (t:Tok) (s:Shared) (Q:Value→Shared→Prop) (E:Value→Shared→Prop),Q (.int (g i) s.toks) { s with toks:=s.toks+1 }→wpAny (model X.prog X.w) X.A (f (.int i t)) Q E s) :
  UnR X f (rU fun i=>.int (g i)):=by
 intro pins s σ H x v Q I rx h
 obtain ⟨i,rfl,q⟩:=h
 obtain ⟨t,rfl⟩:=rx
 exact rule i t s _ _ ⟨.int (g i),H,I.tok _,⟨_,rfl⟩,q⟩
theorem zpZ_:UnR X (unaryOp .USub) (rU fun i=>.int (-i)):=unI fun _ _ _ _ _ q=>neg_int q
end
def scal:V→V→Bool
 | .non,.non=>true | .non,.int _=>true | .int _,.non=>true | .non,.bl _=>true | .bl _,.non=>true | .non,.str _=>true | .str _,.non=>true
 | .int _,.int _=>true | .bl _,.bl _=>true | .str _,.str _=>true | .byt _,.byt _=>true
 | .int _,.str _=>true | .str _,.int _=>true | .bl _,.str _=>true | .str _,.bl _=>true
 | _,_=>false
def rEq:R2:=fun x y H Q=>scal x y=true∧Q (.bl (decide (x=y))) H
def rNe:R2:=fun x y H Q=>scal x y=true∧Q (.bl (!decide (x=y))) H
theorem zlM_ {i j:Int}:decide (V.int i=V.int j)=(i == j):=by
 rw [Bool.eq_iff_iff]
 simp
theorem zoi_ {i j:Bool}:decide (V.bl i=V.bl j)=(i == j):=by
 rw [Bool.eq_iff_iff]
 simp
theorem zlN_ {i j:Str}:decide (V.str i=V.str j)=(i == j):=by
 rw [Bool.eq_iff_iff]
 simp
theorem zlz_ {i j:Array UInt8}:decide (V.byt i=V.byt j)=(i.toList == j.toList):=by
 rw [Bool.eq_iff_iff]
 cases i
 cases j
 simp
section
variable {X:Cx}{a b c:Expr}{ta tb tc:TE}{pos:Pos}
theorem zaw_ {pins:Pnn}{σ:St}{H:Hp}{s:Shared}{Q:VK}{k k':Bool}(I:Inv X pins σ H s) (q:Q (.bl k) H) (e:k=k'):EP X pins σ Q (.bool k') s:=by
 subst e
 exact ⟨.bl k,H,I,rfl,q⟩
theorem op_eq:OpR X (compareOp .Eq) rEq:=by
 intro pins s σ H x y v u Q I rx ry h
 obtain ⟨hs,q⟩:=h
 cases x with
 | non =>
  cases rx
  cases y with
  | non=>cases ry; exact PySem.EqNone.eq_none_none (zaw_ I q (by simp))
  | bl j=>cases ry; exact PySem.EqNone.eq_none_bool (zaw_ I q (by simp))
  | int j=>obtain ⟨t',rfl⟩:=ry; exact PySem.EqNone.eq_none_int (zaw_ I q (by simp))
  | str j=>obtain ⟨t',rfl⟩:=ry; exact PySem.EqNone.eq_none_str (zaw_ I q (by simp))
  | _=>exact absurd (show false=true from hs) Bool.false_ne_true
 | bl i =>
  cases rx
  cases y with
  | non=>cases ry; exact PySem.EqNone.eq_bool_none (zaw_ I q (by simp))
  | bl j=>cases ry; exact eq_bool (zaw_ I q zoi_)
  | str j=>obtain ⟨t',rfl⟩:=ry; exact PySem.EqMixed.eq_bool_str (zaw_ I q (by simp))
  | _=>exact absurd (show false=true from hs) Bool.false_ne_true
 | int i =>
  obtain ⟨t,rfl⟩:=rx
  cases y with
  | non=>cases ry; exact PySem.EqNone.eq_int_none (zaw_ I q (by simp))
  | int j=>obtain ⟨t',rfl⟩:=ry; exact eq_int (zaw_ I q zlM_)
  | str j=>obtain ⟨t',rfl⟩:=ry; exact PySem.EqMixed.eq_int_str (zaw_ I q (by simp))
  | _=>exact absurd (show false=true from hs) Bool.false_ne_true
 | str i =>
  obtain ⟨t,rfl⟩:=rx
  cases y with
  | non=>cases ry; exact PySem.EqNone.eq_str_none (zaw_ I q (by simp))
  | bl j=>cases ry; exact PySem.EqMixed.eq_str_bool (zaw_ I q (by simp))
  | int j=>obtain ⟨t',rfl⟩:=ry; exact PySem.EqMixed.eq_str_int (zaw_ I q (by simp))
  | str j=>obtain ⟨t',rfl⟩:=ry; exact eq_str (zaw_ I q zlN_)
  | _=>exact absurd (show false=true from hs) Bool.false_ne_true
 | byt i =>
  obtain ⟨t,rfl⟩:=rx
  cases y with
  | byt j=>obtain ⟨t',rfl⟩:=ry; exact PySem.W.eq_bytes (zaw_ I q zlz_)
  | _=>exact absurd (show false=true from hs) Bool.false_ne_true
 | _=>cases y<;>exact absurd (show false=true from hs) Bool.false_ne_true
theorem op_ne:OpR X (compareOp .NotEq) rNe:=by
 intro pins s σ H x y v u Q I rx ry h
 obtain ⟨hs,q⟩:=h
 cases x with
 | non =>
  cases rx
  cases y with
  | non=>cases ry; exact PySem.EqNone.ne_none_none (zaw_ I q (by simp))
  | bl j=>cases ry; exact PySem.EqNone.ne_none_bool (zaw_ I q (by simp))
  | int j=>obtain ⟨t',rfl⟩:=ry; exact PySem.EqNone.ne_none_int (zaw_ I q (by simp))
  | str j=>obtain ⟨t',rfl⟩:=ry; exact PySem.EqNone.ne_none_str (zaw_ I q (by simp))
  | _=>exact absurd (show false=true from hs) Bool.false_ne_true
 | bl i =>
  cases rx
  cases y with
  | non=>cases ry; exact PySem.EqNone.ne_bool_none (zaw_ I q (by simp))
  | bl j=>cases ry; exact ne_bool (zaw_ I q (congrArg not zoi_))
  | str j=>obtain ⟨t',rfl⟩:=ry; exact PySem.EqMixed.ne_bool_str (zaw_ I q (by simp))
  | _=>exact absurd (show false=true from hs) Bool.false_ne_true
 | int i =>
  obtain ⟨t,rfl⟩:=rx
  cases y with
  | non=>cases ry; exact PySem.EqNone.ne_int_none (zaw_ I q (by simp))
  | int j=>obtain ⟨t',rfl⟩:=ry; exact ne_int (zaw_ I q (congrArg not zlM_))
  | str j=>obtain ⟨t',rfl⟩:=ry; exact PySem.EqMixed.ne_int_str (zaw_ I q (by simp))
  | _=>exact absurd (show false=true from hs) Bool.false_ne_true
 | str i =>
  obtain ⟨t,rfl⟩:=rx
  cases y with
  | non=>cases ry; exact PySem.EqNone.ne_str_none (zaw_ I q (by simp))
  | bl j=>cases ry; exact PySem.EqMixed.ne_str_bool (zaw_ I q (by simp))
  | int j=>obtain ⟨t',rfl⟩:=ry; exact PySem.EqMixed.ne_str_int (zaw_ I q (by simp))
  | str j=>obtain ⟨t',rfl⟩:=ry; exact ne_str (zaw_ I q (congrArg not zlN_))
  | _=>exact absurd (show false=true from hs) Bool.false_ne_true
 | byt i =>
  obtain ⟨t,rfl⟩:=rx
  cases y with
  | byt j=>obtain ⟨t',rfl⟩:=ry; exact PySem.W.ne_bytes (zaw_ I q (congrArg not zlz_))
  | _=>exact absurd (show false=true from hs) Bool.false_ne_true
 | _=>cases y<;>exact absurd (show false=true from hs) Bool.false_ne_true
theorem op_lt:OpR X (compareOp .Lt) (rI0 fun i j=>.bl (decide (i<j))):=opB0 fun _ _ _ _ _ _ _ q=>lt_int q
theorem op_gt:OpR X (compareOp .Gt) (rI0 fun i j=>.bl (decide (j<i))):=opB0 fun _ _ _ _ _ _ _ q=>gt_int q
theorem op_ge:OpR X (compareOp .GtE) (rI0 fun i j=>.bl (decide (j≤i))):=opB0 fun _ _ _ _ _ _ _ q=>ge_int q
theorem zkG_:OpR X (compareOp .In) (fun x y H Q=>∃ i j,x=.str i∧y=.str j∧Q (.bl (!(Builtin.Str.occurrences j i 0 j.length 1).isEmpty)) H):=by
 intro pins s σ H x y v u Q I rx ry h
 obtain ⟨i,j,rfl,rfl,q⟩:=h
 obtain ⟨t,rfl⟩:=rx
 obtain ⟨t',rfl⟩:=ry
 exact in_str (zaw_ I q rfl)
theorem zph_:OpR X (compareOp .Is) (fun x y H Q=>y=.non∧Q (.bl (decide (x=.non))) H):=by
 intro pins s σ H x y v u Q I rx ry h
 obtain ⟨rfl,q⟩:=h
 cases ry
 refine is_none_gen (zaw_ I q ?_)
 cases x<;>first
  | (cases rx; rfl)
  | (obtain ⟨t,rfl⟩:=rx; rfl)
theorem zol_:OpR X (compareOp .IsNot) (fun x y H Q=>y=.non∧Q (.bl (!decide (x=.non))) H):=by
 intro pins s σ H x y v u Q I rx ry h
 obtain ⟨rfl,q⟩:=h
 cases ry
 refine isnot_none_gen (zaw_ I q ?_)
 cases x<;>first
  | (cases rx; rfl)
  | (obtain ⟨t,rfl⟩:=rx; rfl)
theorem znR_ {op:CmpOp}{r:R2}(ho:OpR X (compareOp op) r) (ha:PE X a ta) (hb:PE X b tb) (hm:behindInMarks op b=false):PE X (.Compare a [op] [b] pos) (tOp r ta tb):=by
 intro pins s σ H Q I h
 exact wpAny_Compare1 (binT ha hb I h fun v u s2 x y H2 I2 rx ry q=>ho pins s2 σ H2 x y v u Q I2 rx ry q) hm
theorem line63:(sizeLine:Nat)<2 ^ 63:=by rw [sizeLine_eq]; decide
theorem zjk_:OpR X (binaryOp .Add) (fun x y H Q=>∃ i j,x=.str i∧y=.str j∧i.length+j.length≤sizeLine∧Q (.str (i++j)) H):=by
 intro pins s σ H x y v u Q I rx ry h
 obtain ⟨i,j,rfl,rfl,hz,q⟩:=h
 obtain ⟨t,rfl⟩:=rx
 obtain ⟨t',rfl⟩:=ry
 exact add_str (fun t' tk=>⟨.str (i++j),H,I.tok _,⟨_,rfl⟩,q⟩) hz
theorem vals1 {x:V}{us:List Value}(r:Vals [x] us):∃ u,us=[u]∧RelV x u:=by
 cases r with
 | cons r1 r2=>cases r2; exact ⟨_,rfl,r1⟩
theorem vals2 {x y:V}{us:List Value}(r:Vals [x,y] us):∃ u w',us=[u,w']∧RelV x u∧RelV y w':=by
 cases r with
 | cons r1 r2 =>
  cases r2 with
  | cons r3 r4=>cases r4; exact ⟨_,_,rfl,r1,r3⟩
theorem zha_:CallR X (.type "str") (fun xs H Q=>∃ i,xs=[.int i]∧i.natAbs.log2<1920∧Q (.str (toString i)) H):=by
 intro pins s σ H xs us Q I r h
 obtain ⟨i,rfl,hz,q⟩:=h
 obtain ⟨u,rfl,t,rfl⟩:=vals1 r
 exact PySem.P.str_of_int hz ⟨.str _,H,I.tok _,⟨_,rfl⟩,q⟩
end
end L2
namespace L2
open PySem PySem.Spec PyProof.Rows
structure ObjM (h:Heap) (x dx C:Addr) (mA:Str→Option Value):Prop where
 obj:h.get? x=some (PySem.W.instObj C dx)
 ns:h.Ns1 dx mA
 ne:dx≠x
theorem zkz_ {h:Heap}{dx:Addr}{mA:Str→Option Value}(n:h.Ns1 dx mA):∃ od,h.get? dx=some od∧∀ name,PySem.W.lookIn name od=some (mA name):=by
 obtain ⟨o,es,ep,ho,hd,hk,_,hm⟩:=n
 refine ⟨o,ho,fun name=>?_⟩
 have e:=hm name
 unfold nsFind findBy at e
 rw [← Array.find?_toList] at e
 unfold PySem.W.lookIn
 rw [hd]
 dsimp only
 split
 ·rename_i y q
  rw [q] at e
  exact congrArg some e
 ·rename_i q
  rw [q] at e
  have a:es.toList.any (·.refKey)=false:=by
   rw [List.any_eq_false]
   intro y hy
   obtain ⟨z,t,hkey⟩:=hk y (Array.mem_toList_iff.mp hy)
   simp [DictEntry.refKey,hkey]
  have a':¬ es.toList.any (·.refKey)=true:=by rw [a]; exact Bool.false_ne_true
  rw [if_neg a']
  exact congrArg some e
theorem ObjM.look {h:Heap}{x dx C:Addr}{mA:Str→Option Value}(I:ObjM h x dx C mA):∃ od,PySem.W.InstAt h x (PySem.W.instObj C dx) C (some od)∧∀ name,PySem.W.lookIn name od=some (mA name) :=
 let ⟨od,ho,hl⟩:=zkz_ I.ns
 ⟨od,⟨I.obj,rfl,rfl,ho⟩,hl⟩
section
variable {prog:Program}{w:World}{A:Around}{E:Value→Shared→Prop}{s:Shared}{K:Fgg}{x dx C f:Addr}{mA:Str→Option Value}{name:Str}{v:Value}
theorem znT_ {expr:Bool}{Q:Value→Shared→Prop}(X:K.In s.heap) (I:ObjM s.heap x dx C mA) (hg:PySem.W.plainGet K C name=true) (hh:PySem.W.hasDictIn K C=true)
  (ha:PySem.W.findIn K (.ref C) name=some none) (hv:mA name=some v) (hv':PySem.W.handedIn v=true) (h:Q v { s with toks:=s.toks+1 }) :
  wpAny (model prog w) A (getAttr (.ref x) name expr) Q E s:=by
 obtain ⟨od,J,hl⟩:=I.look
 exact PySem.W.get_value X J (PySem.W.plainGet_of hg).1 (PySem.W.findObj_own hh ha rfl (by rw [hl,hv])) hv' h
theorem zmo_ {pl:Sem Bool}{Q:Value×List Value→Shared→Prop}(X:K.In s.heap) (I:ObjM s.heap x dx C mA) (hg:PySem.W.plainGet K C name=true)
  (hf:PySem.W.findIn K (.ref C) name=some (some (.ref f))) (ht:PySem.W.isFn K (.ref f)=true) (hv:mA name=none) (h:Q (.ref f,[.ref x]) s) :
  wpAny (model prog w) A (getMethod (.ref x) name pl) Q E s:=by
 obtain ⟨od,J,hl⟩:=I.look
 exact PySem.W.method_fn X J (PySem.W.plainGet_of hg).1 (PySem.W.plainGet_of hg).2 hf (beq_iff_eq.mp ht) (by show (PySem.W.lookIn name od).map (·.isSome)=some false; rw [hl,hv]; rfl) h
theorem zoE_ {ns:List Str}{Q:Unit→Shared→Prop}(X:K.In s.heap) (I:ObjM s.heap x dx C mA)
  (hs:PySem.W.findIn K (.ref C) "__setattr__" = some (some (.builtin "object.__setattr__"))) (hp:PySem.W.plainOver K C=true) (ht:PySem.W.takerIn K C name=some none) (hh:PySem.W.hasDictIn K C=true)
  (hw:PySem.Within mA ns) (hsz:ns.length≤sizeLine)
  (h:∀ h',ObjM h' x dx C (fun y=>if y=name then some v else mA y)→Heap.SameBut dx s.heap h'→Q () { s with heap:=h',toks:=s.toks+2 }) :
  wpAny (model prog w) A (setAttr (.ref x) name v) Q E s:=by
 obtain ⟨od,J,hl⟩:=I.look
 refine PySem.W.set_plain X J hs (PySem.W.osa_open (s:={ s with toks:=s.toks+1 }) (r:=none) X J hp ht fun b=>?_)
 obtain ⟨cd,hc,hd'⟩:=PySem.W.any_some hh
 have hx:s.heap.get? x=some ⟨.ref C,some dx,.plain,#[]⟩:=I.obj
 refine wpAny_bind (wpAny_pure (wpAny_bind (wpAny_bind (wpAny_loadPart hx (wpAny_bind (PySem.W.Looks.here (s:={ s with toks:=s.toks+1 }) (PySem.W.looks_clsIn X hc) ?_))))))
 rw [hd']
 refine wpAny_pure (a:=some dx) (wpAny_bind (wpAny_pure (wpAny_bind ?_)))
 refine wpAny_nsSet1 (s:={ s with toks:=s.toks+1 }) I.ns fun h' hn2 hs2=>?_
 obtain ⟨oD,esD,epD,hoD,hdD,hcD⟩:=hn2.count (PySem.Within.cons name v hw)
 refine wpAny_bind (wpAny_lookBehind hoD (by rw [hdD]; exact pastItsLine_dict (Nat.le_trans hcD (by rw [List.length_cons]; lia))) ?_)
 exact wpAny_pure (h _ ⟨(hs2.2 _ (Ne.symm I.ne)).trans I.obj,hn2,I.ne⟩ hs2)
theorem zmU_ {R:Result→Shared→Prop}{vs:List Value}{kw:List (Str×Value)}(X:K.In s.heap) (hm:PySem.W.makesIn K C=true)
  (hi:PySem.W.findIn K (.ref C) "__init__" = some (some (.ref f))) (hf:PySem.W.typeIn K (.ref f)=some (.type "function"))
  (h:codeAny (model prog w) (A.under (.builtin "type.__call__" ⟨.ref C::vs,kw⟩)) (.call (.ref f) ⟨.ref (s.heap.objs.size+1)::vs,kw⟩) (PySem.W.InitBack (s.heap.objs.size+1) R)
   { s with heap:=(s.heap.push PySem.W.emptyDict).push (PySem.W.instObj C s.heap.objs.size) }) :
  codeAny (model prog w) A (.call (.ref C) ⟨vs,kw⟩) R s:=by
 obtain ⟨hh,g,d,t,os⟩:=s
 exact PySem.W.make_core (PySem.W.makes_of X hm) (PySem.W.looks_findIn X hi) (fun self=>PySem.W.bind_fn X self hf) (.inl rfl) h
end
def putF (f:Str) (v:V):List (Str×V)→List (Str×V)
 | []=>[(f,v)]
 | (g,x)::r=>if g=f then (g,v)::r else (g,x)::putF f v r
theorem zfe_ (f g:Str) (v:V):∀ fs:List (Str×V),(putF f v fs).lookup g=if g=f then some v else fs.lookup g
 | []=>by
  show List.lookup g [(f,v)]=_
  by_cases h:g=f
  ·have hb:(g == f)=true:=beq_iff_eq.mpr h
   simp only [List.lookup,hb,if_pos h]
  ·have hb:(g == f)=false:=beq_eq_false_iff_ne.mpr h
   simp only [List.lookup,hb,if_neg h]
 | (k,x)::r=>by
  have ih:=zfe_ f g v r
  rw [show putF f v ((k,x)::r)=(if k=f then (k,v)::r else (k,x)::putF f v r) from rfl]
  by_cases hk:k=f
  ·rw [if_pos hk]
   by_cases h:g=k
   ·have hb:(g == k)=true:=beq_iff_eq.mpr h
    simp only [List.lookup,hb,if_pos (h.trans hk)]
   ·have hb:(g == k)=false:=beq_eq_false_iff_ne.mpr h
    simp only [List.lookup,hb,if_neg (fun e:g=f=>h (e.trans hk.symm))]
  ·rw [if_neg hk]
   by_cases h:g=k
   ·have hb:(g == k)=true:=beq_iff_eq.mpr h
    simp only [List.lookup,hb,if_neg (fun e:g=f=>hk (h.symm.trans e))]
   ·have hb:(g == k)=false:=beq_eq_false_iff_ne.mpr h
    simp only [List.lookup,hb]
    exact ih
theorem zfO_ (f:Str) (v:V):∀ fs:List (Str×V),f∈(putF f v fs).map (·.1)∧∀ g,g∈fs.map (·.1)→g∈(putF f v fs).map (·.1)
 | []=>⟨by simp [putF],fun g h=>by simp at h⟩
 | (k,x)::r=>by
  obtain ⟨i1,i2⟩:=zfO_ f v r
  rw [show putF f v ((k,x)::r)=(if k=f then (k,v)::r else (k,x)::putF f v r) from rfl]
  by_cases hk:k=f
  ·rw [if_pos hk]
   subst hk
   exact ⟨by simp,fun g h=>by simpa using h⟩
  ·rw [if_neg hk]
   refine ⟨?_,fun g h=>?_⟩
   ·rw [List.map_cons]
    exact List.mem_cons_of_mem _ i1
   ·rw [List.map_cons] at h ⊢
    rcases List.mem_cons.mp h with e | e
    ·exact List.mem_cons.mpr (.inl e)
    ·exact List.mem_cons_of_mem _ (i2 g e)
theorem zfk_ (f:Str) (v:V):∀ fs:List (Str×V),(putF f v fs).length≤fs.length+1
 | []=>by simp [putF]
 | (k,x)::r=>by
  have ih:=zfk_ f v r
  rw [show putF f v ((k,x)::r)=(if k=f then (k,v)::r else (k,x)::putF f v r) from rfl]
  by_cases hk:k=f
  ·rw [if_pos hk,List.length_cons,List.length_cons]; lia
  ·rw [if_neg hk,List.length_cons,List.length_cons]; lia
theorem RelO.some_of {v:V}{o:Option Value}(r:RelO (some v) o):∃ u,o=some u∧RelV v u:=by
 cases o with
 | none=>exact (show False from r).elim
 | some u=>exact ⟨u,rfl,r⟩
theorem RelO.none_of {o:Option Value}(r:RelO none o):o=none:=by
 cases o with
 | none=>rfl
 | some u=>exact (show False from r).elim
theorem zkR_ {v:V}{u:Value}(r:RelV v u):PySem.W.handedIn u=true:=by
 cases v with
 | non=>cases (show u=Value.none from r); rfl
 | bl b=>cases (show u=Value.bool b from r); rfl
 | int i=>obtain ⟨t,e⟩:=(show ∃ t,u=Value.int i t from r); cases e; rfl
 | str x=>obtain ⟨t,e⟩:=(show ∃ t,u=Value.str x t from r); cases e; rfl
 | byt b=>obtain ⟨t,e⟩:=(show ∃ t,u=Value.bytes b t from r); cases e; rfl
 | flt b=>obtain ⟨t,e⟩:=(show ∃ t,u=Value.float b t from r); cases e; rfl
 | ref a=>cases (show u=Value.ref a from r); rfl
 | ty n=>cases (show u=Value.type n from r); rfl
section
variable {P:Program}{w:World}{H H':Hp}{h h':Heap}{a C dx:Addr}{fs fs':List (Str×V)}
theorem zhI_ (hok:HOk P w H h) (e:H a=some (.ins C dx fs)):∃ mA,ObjM h a dx C mA∧(∀ f,RelO (fs.lookup f) (mA f))∧PySem.Within mA (fs.map (·.1))∧fs.length≤1000∧H dx=some (.own a):=by
 obtain ⟨d,z,ne,ob,mA,n,r,q⟩:=(show ObjOk P w H h a (.ins C dx fs) from hok a _ e)
 exact ⟨mA,⟨ob,n,ne⟩,r,q,z,d⟩
end
structure Cls (K:Fgg) (C:Addr):Prop where
 pg:PySem.W.plainGet K C Str.empty=true
 hd:PySem.W.hasDictIn K C=true
 po:PySem.W.plainOver K C=true
 sa:PySem.W.findIn K (.ref C) "__setattr__" = some (some (.builtin "object.__setattr__"))
theorem Cls.get {K:Fgg}{C:Addr}(c:Cls K C) (f:Str):PySem.W.plainGet K C f=true:=c.pg
def NoAttr (K:Fgg) (C:Addr) (f:Str):Prop:=PySem.W.findIn K (.ref C) f=some none
theorem NoAttr.taker {K:Fgg}{C:Addr}{f:Str}(n:NoAttr K C f):PySem.W.takerIn K C f=some none:=by
 unfold PySem.W.takerIn
 rw [show PySem.W.findIn K (.ref C) f=some none from n]
 rfl
structure Meth (K:Fgg) (C:Addr) (m:Str) (f:Addr):Prop where
 at_:PySem.W.findIn K (.ref C) m=some (some (.ref f))
 fn:PySem.W.isFn K (.ref f)=true
 kp:PySem.W.keepIn K (.ref f)=true
section
variable {X:Cx}{pins:Pnn}{σ:St}{H:Hp}{s:Shared}{a C dx:Addr}{fs:List (Str×V)}{f:Str}{v:V}{A:Around}{E:Value→Shared→Prop}
theorem zj8_ {b:Bool}{Q:Value→Shared→Prop}(I:Inv X pins σ H s) (e:H a=some (.ins C dx fs)) (c:Cls X.K C) (n:NoAttr X.K C f) (l:fs.lookup f=some v)
  (h:∀ u s',Inv X pins σ H s'→RelV v u→Q u s'):wpAny (model X.prog X.w) A (getAttr (.ref a) f b) Q E s:=by
 obtain ⟨mA,O,r,_,_,_⟩:=zhI_ I.hok e
 obtain ⟨u,hu,ru⟩:=RelO.some_of (v:=v) (o:=mA f) (by rw [← l]; exact r f)
 exact znT_ I.kIn O (c.get f) c.hd n hu (zkR_ ru) (h u _ (I.tok _) ru)
theorem zer_ {m:Str}{g:Addr}{pl:Sem Bool}{Q:Value×List Value→Shared→Prop}(I:Inv X pins σ H s) (e:H a=some (.ins C dx fs)) (c:Cls X.K C) (k:Meth X.K C m g) (l:fs.lookup m=none)
  (h:Q (.ref g,[.ref a]) s):wpAny (model X.prog X.w) A (getMethod (.ref a) m pl) Q E s:=by
 obtain ⟨mA,O,r,_,_,_⟩:=zhI_ I.hok e
 have hn:mA m=none:=RelO.none_of (by rw [← l]; exact r m)
 exact zmo_ I.kIn O (c.get m) k.at_ k.fn hn h
theorem ziP_ {y:V}{u:Value}{Q:Unit→Shared→Prop}(I:Inv X pins σ H s) (e:H a=some (.ins C dx fs)) (c:Cls X.K C) (n:NoAttr X.K C f) (hl:fs.length<1000) (ry:RelV y u)
  (h:∀ s',Inv X pins σ (upd H a (.ins C dx (putF f y fs))) s'→Q () s'):wpAny (model X.prog X.w) A (setAttr (.ref a) f u) Q E s:=by
 obtain ⟨mA,O,r,wi,_,ho⟩:=zhI_ I.hok e
 have hz:(fs.map (·.1)).length≤sizeLine:=by rw [List.length_map,sizeLine_eq]; lia
 refine zoE_ I.kIn O c.sa c.po n.taker c.hd wi hz fun h' O' sb=>h _ ?_
 have hd:∃ o,h'.get? dx=some o:=let ⟨o,_,_,e',_⟩:=O'.ns; ⟨o,e'⟩
 refine I.write (x:=a) (e:=dx) (by rw [e]; exact True.intro) (.inr ho) (fun b q hb z=>(sb.2 b hb).trans z) hd ?_
 refine ⟨by rw [z7_ O.ne]; exact ho,?_,O.ne,O'.obj,_,O'.ns,fun g=>?_,fun g hg=>?_⟩
 ·have:=zfk_ f y fs; lia
 ·show RelO ((putF f y fs).lookup g) (if g=f then some u else mA g)
  rw [zfe_]
  by_cases q:g=f
  ·rw [if_pos q,if_pos q]; exact ry
  ·rw [if_neg q,if_neg q]; exact r g
 ·by_cases q:g=f
  ·rw [q]; exact (zfO_ f y fs).1
  ·refine (zfO_ f y fs).2 g (wi g fun z=>hg ?_)
   show (if g=f then some u else mA g)=none
   rw [if_neg q]; exact z
theorem Inv.made (I:Inv X pins σ H s):Inv X pins σ (upd (upd H s.heap.objs.size (.own (s.heap.objs.size+1))) (s.heap.objs.size+1) (.ins C s.heap.objs.size []))
  { s with heap:=(s.heap.push PySem.W.emptyDict).push (PySem.W.instObj C s.heap.objs.size) }:=by
 have e1:(s.heap.push PySem.W.emptyDict).get? s.heap.objs.size=some PySem.W.emptyDict:=Heap.get?_push_size s.heap rfl
 have e2:((s.heap.push PySem.W.emptyDict).push (PySem.W.instObj C s.heap.objs.size)).get? (s.heap.objs.size+1)=some (PySem.W.instObj C s.heap.objs.size):=by
  have:=Heap.get?_push_size (s.heap.push PySem.W.emptyDict) (o:=PySem.W.instObj C s.heap.objs.size) rfl
  rwa [Heap.size_push] at this
 have e3:(s.heap.push PySem.W.emptyDict).Ns s.heap.objs.size (fun _=>none):=⟨PySem.W.emptyDict,#[],_,e1,rfl,(fun e he=>absurd he (by simp)),fun _=>rfl⟩
 have I1:=I.laid (a:=s.heap.objs.size) (o:=.own (s.heap.objs.size+1)) (h':=s.heap.push PySem.W.emptyDict) (t':=s.toks) (fun b u q=>Heap.get?_push_of_some _ q) (Nat.le_refl _) ⟨_,e1⟩
 refine I1.laid (a:=s.heap.objs.size+1) (o:=.ins C s.heap.objs.size []) (t':=s.toks) (fun b u q=>Heap.get?_push_of_some _ q) (Nat.le_of_eq (Heap.size_push _ _)) ?_
 have ne:s.heap.objs.size≠s.heap.objs.size+1:=Nat.ne_of_lt (Nat.lt_succ_self _)
 refine ⟨by rw [z7_ ne,zaC_],Nat.zero_le _,ne,e2,fun _=>none,(Heap.Ns1.of_empty e3).at fun o q=>Heap.get?_push_of_some _ q,fun _=>True.intro,fun y hy=>absurd rfl hy⟩
theorem znX_ {prog:Program}{w:World}{env:Env}{e:Expr}{f:Str}{pos:Pos}{s:Shared}{Q:Value→Shared→Prop}(hb:attributeBase e f env (eval e env)=eval e env)
  (h:wpAny (model prog w) A (eval e env) (fun o s₁=>wpAny (model prog w) A (getAttr o f true) Q E s₁) E s):wpAny (model prog w) A (eval (.Attribute e f pos) env) Q E s :=
 Attribute_any_ h (by rw [arm_eval_Attribute,hb])
end
section
variable {X:Cx}{o e value:Expr}{f:Str}{pos pos' tpos:Pos}{ta tv:TE}
theorem zni_ {pl:Sem Bool}{m:Str}{apos:Pos}{args:List Expr}{pins:Pnn}{s:Shared}{σ:St}{H:Hp}{Q:Value→Shared→Prop}{te:TE}(he:PE X e te) (I:Inv X pins σ H s)
  (h:te σ H fun x H1=>∃ a C dx fs g,x=.ref a∧H1 a=some (.ins C dx fs)∧Cls X.K C∧Meth X.K C m g∧fs.lookup m=none ∧
   ∀ s1,Inv X pins σ H1 s1→wpAny (model X.prog X.w) X.A (callWith pos (.ref g) [.ref a] (backTo pos (starEach args X.env)) (backToKw pos (keywordEach [] X.env))) Q X.xe s1)
  (ht:eval (.Call (.Attribute e m apos) args [] pos) X.env=(do
   let ov ← eval e X.env
   standAt apos.atName
   let (f,first) ← holding [ov] (getMethod ov m pl)
   callWith pos f first (backTo pos (starEach args X.env)) (backToKw pos (keywordEach [] X.env)))) :
  wpAny (model X.prog X.w) X.A (eval (.Call (.Attribute e m apos) args [] pos) X.env) Q X.xe s:=by
 refine PySem.W.methodCall_KW (pl:=pl) (thn (he pins s σ H _ I h) fun u s1 hq_=>?_) ht
 obtain ⟨x,H1,I1,rx,a,C,dx,fs,g,ex,ea,c,k,l,q⟩:=hq_
 subst ex
 obtain rfl:u=Value.ref a:=rx
 exact zer_ I1 ea c k l (q s1 I1)
end
section
variable {X:Cx}{pins:Pnn}{σ:St}{H:Hp}{s:Shared}{A:Around}{E:Value→Shared→Prop}{Q:Value→Shared→Prop}{c:Value}{b:Bool}
inductive TyOf (K:Fgg) (H:Hp):V→Value→Prop where
 | non:TyOf K H .non (.type "NoneType")
 | bl (x:Bool):TyOf K H (.bl x) (.type "bool")
 | int (i:Int):TyOf K H (.int i) (.type "int")
 | str (x:Str):TyOf K H (.str x) (.type "str")
 | flt (x:UInt64):TyOf K H (.flt x) (.type "float")
 | lst {a:Addr}{xs:List V}(e:H a=some (.lst xs)):TyOf K H (.ref a) (.type "list")
 | frz {a:Addr}{o:Obj}{xs:List V}(e:H a=some (.frz o (.lst xs))):TyOf K H (.ref a) (.type "list")
 | tup {a:Addr}{xs:List V}(e:H a=some (.tup xs)):TyOf K H (.ref a) (.type "tuple")
 | dK {a:Addr}{kvs:List (Key×V)}(e:H a=some (.dK kvs)):TyOf K H (.ref a) (.type "dict")
 | dT {a:Addr}{kvs:List (List Key×V)}(e:H a=some (.dT kvs)):TyOf K H (.ref a) (.type "dict")
 | ins {a C dx:Addr}{fs:List (Str×V)}(e:H a=some (.ins C dx fs)) (cl:Cls K C) (ha:PySem.W.findIn K (.ref C) "__class__" = some (some (.builtin "object.__class__")))
   (hn:PySem.W.specialIn K (.builtin "object.__class__") "__get__" = some (some (.builtin "getset_descriptor.__get__"))) (htk:PySem.W.takesIn K (.builtin "object.__class__")=some true)
   (hm:PySem.W.mroIn K C (.type "object")=some true):TyOf K H (.ref a) (.ref C)
theorem zhQ_ {x:V}{u t:Value}(I:Inv X pins σ H s) (rx:RelV x u) (ty:TyOf X.K H x t) (e:PySem.W.kitOne X.K t c=some b) (h:∀ tk,Q (.bool b) { s with toks:=tk }) :
  wpAny (model X.prog X.w) A (call (.builtin "isinstance") [u,c]) Q E s:=by
 cases ty with
 | non=>cases (show u=Value.none from rx); exact PySem.W.kia_one PySem.W.kitx_none I.kIn True.intro e (fun z=>nomatch z) h
 | bl y=>cases (show u=Value.bool y from rx); exact PySem.W.kia_one PySem.W.kitx_bool I.kIn True.intro e (fun z=>nomatch z) h
 | int i=>obtain ⟨t,q⟩:=(show ∃ t,u=Value.int i t from rx); cases q; exact PySem.W.kia_one PySem.W.kitx_int I.kIn True.intro e (fun z=>nomatch z) h
 | str y=>obtain ⟨t,q⟩:=(show ∃ t,u=Value.str y t from rx); cases q; exact PySem.W.kia_one PySem.W.kitx_str I.kIn True.intro e (fun z=>nomatch z) h
 | flt y=>obtain ⟨t,q⟩:=(show ∃ t,u=Value.float y t from rx); cases q; exact PySem.W.kia_one PySem.W.kitx_float I.kIn True.intro e (fun z=>nomatch z) h
 | @lst a xs ea =>
  cases (show u=Value.ref a from rx)
  obtain ⟨_,_,n,_,h1⟩:=(show ObjOk X.prog X.w H s.heap a (.lst xs) from I.hok a _ ea)
  exact PySem.W.kia_one PySem.W.kitx_list I.kIn ⟨_,h1,rfl⟩ e (fun z=>nomatch z) h
 | @frz a ob xs ea =>
  cases (show u=Value.ref a from rx)
  obtain ⟨_,_,_,n,_,h1⟩:=(show ObjOk X.prog X.w H s.heap a (.frz ob (.lst xs)) from I.hok a _ ea)
  exact PySem.W.kia_one PySem.W.kitx_list I.kIn ⟨_,h1,rfl⟩ e (fun z=>nomatch z) h
 | @tup a xs ea =>
  cases (show u=Value.ref a from rx)
  obtain ⟨_,_,_,p⟩:=(show ObjOk X.prog X.w H s.heap a (.tup xs) from I.hok a _ ea)
  obtain ⟨o,h1,h2,_⟩:=p
  exact PySem.W.kia_one PySem.W.kitx_tuple I.kIn ⟨o,h1,h2⟩ e (fun z=>nomatch z) h
 | @dK a kvs ea =>
  cases (show u=Value.ref a from rx)
  obtain ⟨_,_,vs,_,p⟩:=(show ObjOk X.prog X.w H s.heap a (.dK kvs) from I.hok a _ ea)
  obtain ⟨o,es,ep,h1,h2,_⟩:=p
  exact PySem.W.kia_one PySem.W.kitx_dict I.kIn ⟨o,h1,h2.1⟩ e (fun z=>nomatch z) h
 | @dT a kvs ea =>
  cases (show u=Value.ref a from rx)
  obtain ⟨_,_,xs,_,o,es,ep,h1,h2,_⟩:=(show ObjOk X.prog X.w H s.heap a (.dT kvs) from I.hok a _ ea)
  exact PySem.W.kia_one PySem.W.kitx_dict I.kIn ⟨o,h1,h2.1⟩ e (fun z=>nomatch z) h
 | @ins a C dx fs ea cl ha hn htk hm =>
  cases (show u=Value.ref a from rx)
  obtain ⟨mA,O,_⟩:=zhI_ I.hok ea
  obtain ⟨od,J,_⟩:=O.look
  exact PySem.W.kia_one (PySem.W.kitx_own (cl.get _) cl.hd ha hn htk hm) I.kIn J e (fun z=>nomatch z) h
end
end L2
namespace L2
open PySem PySem.Spec PyProof.Rows
structure Room (k:Nat) (A:Around):Prop where
 hd:A.handled=none
 dp:A.depth+3*k+5<recursionLimit
 un:A.units+16*k+200<cLine
theorem Room.mono {j k:Nat}{A:Around}(r:Room k A) (h:j≤k):Room j A:=⟨r.hd,by have:=r.dp; lia,by have:=r.un; lia⟩
theorem Room.deeper {k:Nat}{A:Around}(r:Room (k+1) A) (env:Env):Room k (A.deeper env) :=
 ⟨r.hd,by have:=r.dp; show A.depth+1+3*k+5<_; lia,by have:=r.un; show A.units+3+16*k+200<_; lia⟩
theorem ziM_ {A:Around}{C:Addr}{us:List Value}{kw:List (Str×Value)}:(A.under (.builtin "type.__call__" ⟨.ref C::us,kw⟩)).depth=A.depth+1:=by
 first | rfl | simp [Around.under,Code.weight,Code.isCreation,Code.isGuard,Code.isCaller,Code.frames,Code.isFrame,guardIds]
theorem zj7_ {A:Around}{C:Addr}{us:List Value}{kw:List (Str×Value)}:(A.under (.builtin "type.__call__" ⟨.ref C::us,kw⟩)).units=A.units+1:=by
 first | rfl | simp [Around.under,Code.cUnits,Code.frames,Code.isFrame]
theorem Room.make {k:Nat}{A:Around}(r:Room (k+1) A) (C:Addr) (us:List Value) (kw:List (Str×Value)):Room k (A.under (.builtin "type.__call__" ⟨.ref C::us,kw⟩)) :=
 ⟨r.hd,by have:=r.dp; rw [ziM_]; lia,by have:=r.un; rw [zj7_]; lia⟩
theorem Room.depth {k:Nat}{A:Around}(r:Room k A):A.depth<recursionLimit:=by have:=r.dp; lia
theorem Room.units {k:Nat}{A:Around}(r:Room k A):A.units+64<cLine:=by have:=r.un; lia
def tNil:TA:=fun _ H Q=>Q [] H
def tCons (ta:TE) (tr:TA):TA:=fun σ H Q=>ta σ H fun x H1=>tr σ H1 fun xs H2=>Q (x::xs) H2
section
variable {X:Cx}{e:Expr}{es:List Expr}{te:TE}{t:TA}{pos:Pos}
theorem zl_:PA X [] tNil:=fun _ _ _ _ H Q I h=>Calls.spliced_nil ⟨[],H,I,.nil,h⟩
theorem zc_ (ha:PE X e te) (hr:PA X es t) (hs:starEach (e::es) X.env=(false,eval e X.env)::starEach es X.env:=by rfl):PA X (e::es) (tCons te t):=by
 intro pos pins s σ H Q I h
 rw [hs]
 show wpAny _ _ (spliced ((false,eval e X.env)::backTo pos (starEach es X.env))) _ _ s
 refine Calls.spliced_cons (thn (ha pins s σ H _ I h) fun u s1 hq_=>?_)
 obtain ⟨x,H1,I1,r1,q1⟩:=hq_
 exact thn (hr pos pins s1 σ H1 _ I1 q1) fun us s2 ⟨xs,H2,I2,r2,q2⟩=>⟨x::xs,H2,I2,.cons r1 r2,q2⟩
def tTup (t:TA):TE:=fun σ H Q=>t σ H fun xs H1=>xs.length≤sizeLine∧∀ p,H1 p=none→Q (.ref p) (upd H1 p (.tup xs))
def tLst (t:TA):TE:=fun σ H Q=>t σ H fun xs H1=>xs.length≤sizeLine∧∀ p,H1 p=none→Q (.ref p) (upd H1 p (.lst xs))
theorem zmY_ {x1} (h:PA X es t):PE X (.Tuple es x1 pos) (tTup t):=by
 intro pins s σ H Q I hq
 refine wpAny_Tuple_spliced (thn (h pos pins s σ H _ I hq) fun us s1 ⟨xs,H1,I1,r,z,q⟩=>⟨by rw [← r.length]; exact z,?_⟩)
 have hf:H1 s1.heap.objs.size=none:=I1.hok.fresh (Nat.le_refl _)
 refine ⟨.ref s1.heap.objs.size,upd H1 s1.heap.objs.size (.tup xs),I1.laid (t':=s1.toks) (fun b u e=>Heap.get?_push_of_some _ e) (Nat.le_refl _) ?_,rfl,q _ hf⟩
 exact ⟨z,us,r,⟨_,Heap.get?_push_size _ rfl,rfl,_,rfl⟩⟩
theorem zb4_ (h:PA X es t):PE X (.List es pos) (tLst t):=by
 intro pins s σ H Q I hq
 refine wpAny_List_spliced (thn (h pos pins s σ H _ I hq) fun us s1 ⟨xs,H1,I1,r,z,q⟩=>⟨by rw [← r.length]; exact z,?_⟩)
 have hf:H1 s1.heap.objs.size=none:=I1.hok.fresh (Nat.le_refl _)
 refine ⟨.ref s1.heap.objs.size,upd H1 s1.heap.objs.size (.lst xs),I1.laid (t':=s1.toks) (fun b u e=>Heap.get?_push_of_some _ e) (Nat.le_refl _) ?_,rfl,q _ hf⟩
 exact ⟨z,us,0,r,Heap.get?_push_size _ rfl⟩
end
abbrev Sp:=List V→Hp→VK→XK→Prop
abbrev CXT:=List Env→Hp→Shared→XK→Value→Shared→Prop
structure Env0 (P:Program) (w:World) (K:Fgg) (mg:Str→Option Value) (base:Heap) (A:Around) (outer:List Env) (s:Shared) (H:Hp):Prop where
 frames:A.frames=some outer
 mod:Mod K mg base
 bs:∀ b o,base.get? b=some o→s.heap.get? b=some o∧H b=none
 bsz:base.objs.size≤s.heap.objs.size
 funs:s.heap.FunFrames base outer
 frf:∀ b∈frs outer,H b=none
 hok:HOk P w H s.heap
 bare:AllBare s.gens
def CE (outer:List Env) (P:Program) (w:World) (H:Hp) (s:Shared) (Q:VK) (u:Value) (s':Shared):Prop :=
 ∃ v H',s'.os=s.os∧AllBare s'.gens∧Un (frs outer) [] H H' s.heap s'.heap∧HOk P w H' s'.heap∧RelV v u∧Q v H'
def CR (CX:CXT) (outer:List Env) (P:Program) (w:World) (H:Hp) (s:Shared) (Q:VK) (E:XK) (r:Result) (s':Shared):Prop :=
 match r with
 | .ok (.ret u)=>CE outer P w H s Q u s'
 | .ok _=>False
 | .error e=>CX outer H s E e s'
structure FnOk (P:Program) (w:World) (K:Fgg) (mg:Str→Option Value) (base:Heap) (CX:CXT) (k:Nat) (f:Addr) (fd:FuncData) (ps:List Str) (sp:Sp):Prop where
 len:∀ vs H Q E,sp vs H Q E→vs.length=ps.length
 run:∀ (A:Around) (outer:List Env) (s:Shared) (H:Hp) (args:Args) (us:List Value) (vs:List V) (Q:VK) (E:XK),Room k A→Env0 P w K mg base A outer s H→BindsTo s fd args (ps.zip us)→Vals vs us→sp vs H Q E →
  codeAny (model P w) A (.call (.ref f) args) (CR CX outer P w H s Q E) s
theorem Env0.make {P:Program}{w:World}{K:Fgg}{mg:Str→Option Value}{base:Heap}{A:Around}{outer:List Env}{s:Shared}{H:Hp}(e:Env0 P w K mg base A outer s H) (C:Addr) (us:List Value) (kw:List (Str×Value)) :
  Env0 P w K mg base (A.under (.builtin "type.__call__" ⟨.ref C::us,kw⟩)) outer s H:=⟨by first | exact e.frames | (simpa [Around.under,Code.envs,Code.isFrame,pushEnvs] using e.frames),e.mod,e.bs,e.bsz,e.funs,e.frf,e.hok,e.bare⟩
section
variable {X:Cx}{pins:Pnn}{σ:St}{H:Hp}{s s':Shared}
theorem Inv.env0 (I:Inv X pins σ H s):Env0 X.prog X.w X.K X.mg X.base X.A X.stack s H :=
 ⟨I.ok.frames,I.ok.mod,I.bs,Nat.le_trans I.ok.bsz I.sz,I.stack,I.stkFree,I.hok,I.bare⟩
theorem Inv.after {Q:VK}{u:Value}(I:Inv X pins σ H s) (h:CE X.stack X.prog X.w H s Q u s'):EP X pins σ Q u s':=by
 obtain ⟨v,H',os,bare,un,hok,r,q⟩:=h
 obtain ⟨hh,g,d,t,os'⟩:=s'
 obtain rfl:os'=s.os:=os
 exact ⟨v,H',I.call (h':=hh) (g':=g) (d':=d) (t':=t) (ch:=[]) un hok bare (fun b z=>absurd z (by simp)),r,q⟩
end
def tCall (sp:Sp) (dvs:List V) (E:XK) (t:TA):TE:=fun σ H Q=>t σ H fun vs H1=>sp (vs++dvs) H1 Q E
def tMeth (C:Addr) (m:Str) (sp:Sp) (dvs:List V) (E:XK) (ta:TE) (t:TA):TE:=fun σ H Q=>ta σ H fun x H1=>∃ a dx fs,x=.ref a∧H1 a=some (.ins C dx fs)∧fs.lookup m=none ∧
 t σ H1 fun vs H2=>sp (x::(vs++dvs)) H2 Q E
def tMake (C:Addr) (sp:Sp) (dvs:List V) (E:XK) (t:TA):TE:=fun σ H Q=>t σ H fun vs H1=>∀ x dx,H1 x=none→H1 dx=none→dx≠x →
 sp (.ref x::(vs++dvs)) (upd (upd H1 dx (.own x)) x (.ins C dx [])) (fun v H2=>v=.non∧Q (.ref x) H2) E
def Binds (K:Fgg) (fd:FuncData) (ps:List Str) (ds:List Value):Prop :=
 ∀ (s:Shared) (us:List Value),K.In s.heap→(us++ds).length=ps.length→BindsTo s fd ⟨us,[]⟩ (ps.zip (us++ds))
theorem Binds.all {K:Fgg}{fd:FuncData}{ps:List Str}(h:∀ us:List Value,us.length=ps.length→bindArgs fd ⟨us,[]⟩=pure (ps.zip us)):Binds K fd ps []:=fun s us _ hl=>by
 rw [List.append_nil] at hl ⊢
 exact .of_eq (h us hl)
def Passes (CX:CXT) (X:Cx) (E:XK):Prop:=∀ (pins:Pnn) (σ:St) (H:Hp) (s:Shared) (e:Value) (s':Shared),Inv X pins σ H s→CX X.stack H s E e s'→X.xe e s'
section
variable {X:Cx}{CX:CXT}{k:Nat}{f C:Addr}{fd:FuncData}{ps:List Str}{sp:Sp}{dvs:List V}{ds:List Value}{E:XK}{x m:Str}{p pos apos:Pos}{e o:Expr}{es:List Expr}{ta:TE}{t:TA}
theorem zi2_ {pins:Pnn}{σ:St}{H:Hp}{s:Shared}{Q:VK}{us:List Value}{vs:List V}(F:FnOk X.prog X.w X.K X.mg X.base CX k f fd ps sp) (hr:Room k X.A) (hb:Binds X.K fd ps ds) (hd:Vals dvs ds) (hx:Passes CX X E)
  (I:Inv X pins σ H s) (r:Vals vs us) (h:sp (vs++dvs) H Q E):wpAny (model X.prog X.w) X.A (call (.ref f) us) (EP X pins σ Q) X.xe s:=by
 have r2:Vals (vs++dvs) (us++ds):=r.append hd
 have hl:(us++ds).length=ps.length:=by rw [← r2.length]; exact F.len _ _ _ _ h
 refine wpAny_call (codeAny_mono (F.run X.A X.stack s H ⟨us,[]⟩ (us++ds) (vs++dvs) Q E hr I.env0 (hb s us I.kIn hl) r2 h) fun r s' hq=>?_)
 cases r with
 | error e=>exact hx pins σ H s e s' I hq
 | ok fl =>
  cases fl with
  | ret u=>exact I.after hq
  | next=>exact False.elim hq
  | brk=>exact False.elim hq
  | cont=>exact False.elim hq
theorem znH_ (F:FnOk X.prog X.w X.K X.mg X.base CX k f fd ps sp) (hr:Room k X.A) (hg:Gl X x) (hm:X.mg x=some (.ref f)) (hk:PySem.W.keepIn X.K (.ref f)=true) (hb:Binds X.K fd ps ds) (hd:Vals dvs ds) (hx:Passes CX X E)
  (ha:PA X (e::es) t) (hdb:(x == ("__debug__" : Str))=false:=by decide) (he:starEach (e::es) X.env=(false,eval e X.env)::starEach es X.env:=by rfl) (hpl:(backTo pos (starEach es X.env)).any (·.1)=false:=by rfl) :
  PE X (.Call (.Name x p) (e::es) [] pos) (tCall sp dvs E t):=by
 intro pins s σ H Q I h
 refine wpAny_Call_Name_kw (zhY_ I hg hm ?_ hdb)
 refine PySem.W.callWith_K (h₀:=X.base) I.ok.mod.kin hk (thn (ha pos pins s σ H _ I h) fun us s1 ⟨vs,H1,I1,r,q⟩=>⟨I1.kIn,?_⟩) he hpl
 exact zi2_ F hr hb hd hx I1 r q
theorem zmn_ (F:FnOk X.prog X.w X.K X.mg X.base CX k f fd ps sp) (hr:Room k X.A) (hg:Gl X x) (hm:X.mg x=some (.ref f)) (hk:PySem.W.keepIn X.K (.ref f)=true) (hb:Binds X.K fd ps ds) (hd:Vals dvs ds) (hx:Passes CX X E)
  (hdb:(x == ("__debug__" : Str))=false:=by decide):PE X (.Call (.Name x p) [] [] pos) (tCall sp dvs E tNil):=by
 intro pins s σ H Q I h
 refine wpAny_Call_Name_kw (zhY_ I hg hm ?_ hdb)
 exact PySem.W.callWith_K0 I.kIn hk (zi2_ (us:=[]) F hr hb hd hx I .nil h)
theorem zoz_ {pl:Sem Bool}(he:PE X o ta) (c:Cls X.K C) (hm:Meth X.K C m f) (F:FnOk X.prog X.w X.K X.mg X.base CX k f fd ps sp) (hr:Room k X.A) (hb:Binds X.K fd ps ds) (hd:Vals dvs ds) (hx:Passes CX X E) (ha:PA X (e::es) t)
  (hst:starEach (e::es) X.env=(false,eval e X.env)::starEach es X.env:=by rfl) (hpl:(backTo pos (starEach es X.env)).any (·.1)=false:=by rfl)
  (ht:eval (.Call (.Attribute o m apos) (e::es) [] pos) X.env=(do
   let ov ← eval o X.env
   standAt apos.atName
   let (f,first) ← holding [ov] (getMethod ov m pl)
   callWith pos f first (backTo pos (starEach (e::es) X.env)) (backToKw pos (keywordEach [] X.env))):=by rfl) :
  PE X (.Call (.Attribute o m apos) (e::es) [] pos) (tMeth C m sp dvs E ta t):=by
 intro pins s σ H Q I h
 refine PySem.W.methodCall_KW (pl:=pl) (thn (he pins s σ H _ I h) fun u s1 hq_=>?_) ht
 obtain ⟨x,H1,I1,rx,a,dx,fs,ex,ea,l,q⟩:=hq_
 subst ex
 obtain rfl:u=Value.ref a:=rx
 refine zer_ I1 ea c hm l ?_
 refine PySem.W.callWith_K (first:=[.ref a]) (h₀:=X.base) I.ok.mod.kin hm.kp (thn (ha pos pins s1 σ H1 _ I1 q) fun us s2 ⟨vs,H2,I2,r,q2⟩=>⟨I2.kIn,?_⟩) hst hpl
 exact zi2_ (us:=.ref a::us) (vs:=.ref a::vs) F hr hb hd hx I2 (.cons rfl r) q2
theorem zne_ {pl:Sem Bool}(he:PE X o ta) (c:Cls X.K C) (hm:Meth X.K C m f) (F:FnOk X.prog X.w X.K X.mg X.base CX k f fd ps sp) (hr:Room k X.A) (hb:Binds X.K fd ps ds) (hd:Vals dvs ds) (hx:Passes CX X E)
  (ht:eval (.Call (.Attribute o m apos) [] [] pos) X.env=(do
   let ov ← eval o X.env
   standAt apos.atName
   let (f,first) ← holding [ov] (getMethod ov m pl)
   callWith pos f first (backTo pos (starEach [] X.env)) (backToKw pos (keywordEach [] X.env))):=by rfl) :
  PE X (.Call (.Attribute o m apos) [] [] pos) (tMeth C m sp dvs E ta tNil):=by
 intro pins s σ H Q I h
 refine PySem.W.methodCall_KW (pl:=pl) (thn (he pins s σ H _ I h) fun u s1 hq_=>?_) ht
 obtain ⟨x,H1,I1,rx,a,dx,fs,ex,ea,l,q⟩:=hq_
 subst ex
 obtain rfl:u=Value.ref a:=rx
 refine zer_ I1 ea c hm l ?_
 exact PySem.W.callWith_K0 (first:=[.ref a]) I1.kIn hm.kp (zi2_ (us:=[.ref a]) (vs:=[.ref a]) F hr hb hd hx I1 (.cons rfl .nil) q)
structure Mk (K:Fgg) (C f:Addr):Prop where
 makes:PySem.W.makesIn K C=true
 init:PySem.W.findIn K (.ref C) "__init__" = some (some (.ref f))
 fn:PySem.W.isFn K (.ref f)=true
 kp:PySem.W.keepIn K (.ref C)=true
theorem zmD_ {pins:Pnn}{σ:St}{H:Hp}{s:Shared}{Q:VK}{us:List Value}{vs:List V}(M:Mk X.K C f) (F:FnOk X.prog X.w X.K X.mg X.base CX k f fd ps sp) (hr:Room (k+1) X.A) (hb:Binds X.K fd ps ds) (hd:Vals dvs ds)
  (hx:Passes CX X E) (I:Inv X pins σ H s) (r:Vals vs us)
  (h:∀ x dx,H x=none→H dx=none→dx≠x→sp (.ref x::(vs++dvs)) (upd (upd H dx (.own x)) x (.ins C dx [])) (fun v H2=>v=.non∧Q (.ref x) H2) E) :
  wpAny (model X.prog X.w) X.A (call (.ref C) us) (EP X pins σ Q) X.xe s:=by
 have hq:=h (s.heap.objs.size+1) s.heap.objs.size (I.hok.fresh (Nat.le_succ _)) (I.hok.fresh (Nat.le_refl _)) (Nat.ne_of_lt (Nat.lt_succ_self _))
 have I2:=Inv.made (C:=C) I
 have r2:Vals (V.ref (s.heap.objs.size+1)::(vs++dvs)) (Value.ref (s.heap.objs.size+1)::(us++ds)):=.cons rfl (r.append hd)
 have hl:(Value.ref (s.heap.objs.size+1)::us++ds).length=ps.length:=by
  have e:=r2.length
  rw [F.len _ _ _ _ hq] at e
  exact e.symm
 refine wpAny_call (zmU_ (f:=f) I.kIn M.makes M.init (beq_iff_eq.mp M.fn) (codeAny_mono (F.run _ X.stack _ _ ⟨Value.ref (s.heap.objs.size+1)::us,[]⟩ (Value.ref (s.heap.objs.size+1)::(us++ds)) _ _ E (hr.make C us [])
  (I2.env0.make C us []) (hb _ (Value.ref (s.heap.objs.size+1)::us) I2.kIn hl) r2 hq) fun r s' hq'=>?_))
 cases r with
 | error e=>exact hx pins σ _ _ e s' I2 hq'
 | ok fl =>
  cases fl with
  | ret u =>
   obtain ⟨v,H',I3,rv,ev,q3⟩:=I2.after hq'
   subst ev
   exact ⟨rv,⟨V.ref (s.heap.objs.size+1),H',I3,rfl,q3⟩⟩
  | next=>exact False.elim hq'
  | brk=>exact False.elim hq'
  | cont=>exact False.elim hq'
theorem zoH_ (M:Mk X.K C f) (F:FnOk X.prog X.w X.K X.mg X.base CX k f fd ps sp) (hr:Room (k+1) X.A) (hg:Gl X x) (hm:X.mg x=some (.ref C)) (hb:Binds X.K fd ps ds) (hd:Vals dvs ds) (hx:Passes CX X E)
  (ha:PA X (e::es) t) (hdb:(x == ("__debug__" : Str))=false:=by decide) (he:starEach (e::es) X.env=(false,eval e X.env)::starEach es X.env:=by rfl) (hpl:(backTo pos (starEach es X.env)).any (·.1)=false:=by rfl) :
  PE X (.Call (.Name x p) (e::es) [] pos) (tMake C sp dvs E t):=by
 intro pins s σ H Q I h
 refine wpAny_Call_Name_kw (zhY_ I hg hm ?_ hdb)
 refine PySem.W.callWith_K (h₀:=X.base) I.ok.mod.kin M.kp (thn (ha pos pins s σ H _ I h) fun us s1 ⟨vs,H1,I1,r,q⟩=>⟨I1.kIn,?_⟩) he hpl
 exact zmD_ M F hr hb hd hx I1 r q
end
section
variable {X:Cx}{CX:CXT}{k:Nat}{f C:Addr}{fd:FuncData}{ps ks:List Str}{sp:Sp}{E:XK}{x m:Str}{p pos apos kpos:Pos}{e o:Expr}{es:List Expr}{kws:List Keyword}{te ta:TE}{t tk:TA}{nm:Option Str}
variable {g:List Value→List Value→List Value}{gV:List V→List V→List V}
end
structure FnScope (N P:List Str) (sc:Scope):Prop where
 kind:sc.kind=.function
 co:sc.isCoroutine=false
 gen:sc.isGenerator=false
 nd:N.Nodup
 pre:N.take P.length=P
 par:∀ x∈P,sc.names.lookup x=some .local∨sc.names.lookup x=some .cell
 nofree:∀ y∈sc.names,y.2≠.free
theorem zhF_ {kindOf:Str→Option NameKind}{x:Str}:∀ {binds:List (Str×Value)}{m:Str→Option Value},(∀ v,(x,v)∉binds)→bindL kindOf binds m x=m x
 | [],_,_=>rfl
 | (n,v)::r,m,h=>by
  unfold bindL
  rw [zhF_ fun w hw=>h w (List.mem_cons_of_mem _ hw)]
  split
  ·have:x≠n:=by rintro rfl; exact h v List.mem_cons_self
   simp [this]
  ·rfl
theorem zhR_ {kindOf:Str→Option NameKind}{x:Str}:∀ {binds:List (Str×Value)}{m:Str→Option Value},(∀ v,(x,v)∉binds)→bindC kindOf binds m x=m x
 | [],_,_=>rfl
 | (n,v)::r,m,h=>by
  unfold bindC
  rw [zhR_ fun w hw=>h w (List.mem_cons_of_mem _ hw)]
  split
  ·rfl
  ·have:x≠n:=by rintro rfl; exact h v List.mem_cons_self
   simp [this]
theorem zhG_ {kindOf:Str→Option NameKind}{x:Str}{v:Value}:∀ {P:List Str}{vs:List Value}{i:Nat}{m:Str→Option Value},P.Nodup→P[i]?=some x→vs[i]?=some v→kindOf x=some .local →
  bindL kindOf (P.zip vs) m x=some v
 | [],_,_,_,_,h,_,_=>by simp at h
 | _::_,[],_,_,_,_,h,_=>by simp at h
 | p::P,w::vs,0,m,nd,h1,h2,hk=>by
  simp at h1 h2; subst h1; subst h2
  show bindL kindOf ((p,w)::P.zip vs) m p=_
  unfold bindL
  rw [zhF_ fun v hv=>(List.nodup_cons.mp nd).1 (List.of_mem_zip hv).1,if_pos hk]
  simp
 | p::P,w::vs,i+1,m,nd,h1,h2,hk=>by
  show bindL kindOf ((p,w)::P.zip vs) m x=_
  unfold bindL
  exact zhG_ (i:=i) (List.nodup_cons.mp nd).2 (by simpa using h1) (by simpa using h2) hk
theorem zhW_ {kindOf:Str→Option NameKind}{x:Str}{v:Value}:∀ {P:List Str}{vs:List Value}{i:Nat}{m:Str→Option Value},P.Nodup→P[i]?=some x→vs[i]?=some v→kindOf x≠some .local →
  bindC kindOf (P.zip vs) m x=some v
 | [],_,_,_,_,h,_,_=>by simp at h
 | _::_,[],_,_,_,_,h,_=>by simp at h
 | p::P,w::vs,0,m,nd,h1,h2,hk=>by
  simp at h1 h2; subst h1; subst h2
  show bindC kindOf ((p,w)::P.zip vs) m p=_
  unfold bindC
  rw [zhR_ fun v hv=>(List.nodup_cons.mp nd).1 (List.of_mem_zip hv).1,if_neg hk]
  simp
 | p::P,w::vs,i+1,m,nd,h1,h2,hk=>by
  show bindC kindOf ((p,w)::P.zip vs) m x=_
  unfold bindC
  exact zhW_ (i:=i) (List.nodup_cons.mp nd).2 (by simpa using h1) (by simpa using h2) hk
def start (N:List Str) (vs:List V):St:=vs.map some++List.replicate (N.length-vs.length) none
def cxOf (CX:CXT) (P:Program) (w:World) (K:Fgg) (mg:Str→Option Value) (base:Heap) (N:List Str) (qual:Str) (scope:Scope) (f:Addr) (cd:Value) (A:Around) (outer:List Env) (s:Shared) (H:Hp) (E:XK):Cx where
 prog:=P
 w:=w
 K:=K
 mg:=mg
 base:=base
 A:=A.deeper (envOfC qual scope s.heap.objs.size f cd)
 N:=N
 s₀:=s
 H₀:=H
 env:=envOfC qual scope s.heap.objs.size f cd
 outer:=outer
 stack:=envOfC qual scope s.heap.objs.size f cd::outer
 ex:=[]
 calm:=true
 fn:=fun _=>true
 pn:=[]
 xe:=fun e s'=>wpAny (model P w) (A.deeper (envOfC qual scope s.heap.objs.size f cd)) (leaving (envOfC qual scope s.heap.objs.size f cd) e) (fun _ s''=>CX outer H s E e s'') (fun e' s''=>CX outer H s E e' s'') s'
theorem zjl_ {sc:Scope}{n:Nat}{x:Str}(h:sc.names.lookup x=some .cell):∃ c,(cellsFrom n sc.names []).lookup x=some c:=by
 have q:=PySem.W.cellsFrom_some sc.names n [] (.inl h)
 exact Option.isSome_iff_exists.mp q
theorem zkS_ {CX:CXT}{P:Program}{w:World}{K:Fgg}{mg:Str→Option Value}{base:Heap}{N ps:List Str}{qual:Str}{scope:Scope}{f:Addr}{cd:Value}{A:Around}{outer:List Env}{s s1:Shared}{H:Hp}{E:XK}{us:List Value}{vs:List V}
  (S:FnScope N ps scope) (hd:A.handled=none) (e0:Env0 P w K mg base A outer s H) (hl:vs.length=ps.length) (r:Vals vs us)
  (x:InCallC s s.heap.objs.size (bindL (envOfC qual scope s.heap.objs.size f cd).kindOf (ps.zip us) fun _=>none) (cellsFrom (s.heap.objs.size+1) scope.names []) (bindC (envOfC qual scope s.heap.objs.size f cd).kindOf (ps.zip us) fun _=>none) s1) :
  Inv (cxOf CX P w K mg base N qual scope f cd A outer s H E) [] (start N vs) H s1:=by
 have hpl:ps.length≤N.length:=by have:=congrArg List.length S.pre; rw [List.length_take] at this; lia
 obtain ⟨h1,tk,rfl,hk⟩:=x.done
 have noA:∀ b:Addr,b∉(cxOf CX P w K mg base N qual scope f cd A outer s H E).ex:=fun b z=>absurd (show b∈([]:List Addr) from z) (by simp)
 refine ⟨⟨e0.mod,S.kind,rfl,rfl,Nat.le_refl _,fun y z c h1 h2=>?_,fun y hy=>?_,fun y c _ h=>?_,fun _=>hd,Around.frames_deeper e0.frames,.inr ⟨rfl,rfl⟩,fun b z=>absurd z (noA b),e0.bs,e0.bsz,fun b _ _=>noA b,fun b z=>absurd z (noA b),e0.funs,e0.frf⟩,
  rfl,e0.bare,Un.kept hk,⟨_,x.toInCall.ns,fun i y v h1 h2 h3=>?_⟩,fun y c h=>⟨_,x.cell y c h⟩,e0.hok.fresh (Nat.le_refl _),fun y c h=>?_,fun p hp=>absurd (show p∈([]:Pnn) from hp) (by simp),e0.hok.kept hk,?_⟩
 ·exact name_of_addr x.apart (PySem.mem_of_lookup h1) (PySem.mem_of_lookup h2)
 ·have hy:scope.names.lookup y=some .cell∨scope.names.lookup y=some .free:=hy
  rcases hy with hy | hy
  ·exact zjl_ hy
  ·exact absurd rfl (S.nofree _ (PySem.mem_of_lookup hy))
 ·exact Nat.le_of_lt (x.above y c (PySem.mem_of_lookup h))
 ·have hi:i<vs.length:=by
   unfold start at h2
   by_cases hi:i<vs.length
   ·exact hi
   ·rw [List.getElem?_append_right (by simpa using hi)] at h2
    rw [List.getElem?_replicate] at h2
    split at h2<;>cases h2
  have ha:vs[i]?=some v:=by
   unfold start at h2
   rw [List.getElem?_append_left (by simpa using hi),List.getElem?_map] at h2
   cases e:vs[i]? with
   | none=>rw [e] at h2; cases h2
   | some a=>rw [e] at h2; cases h2; rfl
  obtain ⟨u,hu,rv⟩:=r.get ha
  have hp:ps[i]?=some y:=by
   rw [← S.pre,List.getElem?_take_of_lt (by lia)]; exact h1
  have ndP:ps.Nodup:=by rw [← S.pre]; exact S.nd.sublist (List.take_sublist _ _)
  refine ⟨u,rv,?_⟩
  rcases S.par y (List.mem_of_getElem? hp) with k | k
  ·exact .inl ⟨k,zhG_ ndP hp hu k⟩
  ·obtain ⟨c,e⟩:=zjl_ (n:=s.heap.objs.size+1) k
   refine .inr ⟨.inl k,c,e,?_⟩
   have q:=x.cell y c e
   rw [zhW_ ndP hp hu (by show scope.names.lookup y≠_; rw [k]; decide)] at q
   exact q
 ·exact e0.hok.fresh (Nat.le_of_lt (x.above y c (PySem.mem_of_lookup h)))
 ·unfold start
  show _=N.length
  rw [List.length_append,List.length_map,List.length_replicate]
  lia
theorem fn_of {CX:CXT}{P:Program}{w:World}{K:Fgg}{mg:Str→Option Value}{base:Heap}{k:Nat}{f:Addr}{name qual:Str}{params:Arguments}{body:List Stmt}{scope:Scope}{dV kV doc pm cdv ct oc:Value}{an od:Option Addr}
  {osl:Array (Option Value)}{N ps:List Str}{sp:Sp}(lk:K.lookup f=some ⟨oc,od,.func (PySem.W.fnOf name qual params body scope dV kV doc pm an cdv ct),osl⟩) (hcd:PySem.W.codeIn K cdv qual=true) (S:FnScope N ps scope)
  (len:∀ vs H Q E,sp vs H Q E→vs.length=ps.length)
  (hbody:∀ (A:Around) (outer:List Env) (s:Shared) (H:Hp) (vs:List V) (Q:VK) (E:XK),Room k (A.deeper (envOfC qual scope s.heap.objs.size f cdv))→sp vs H Q E →
   ∃ t,PSs (cxOf CX P w K mg base N qual scope f cdv A outer s H E) body t∧t { nx:=fun _ H'=>Q .non H',rt:=Q } (start N vs) H) :
  FnOk P w K mg base CX (k+1) f (PySem.W.fnOf name qual params body scope dV kV doc pm an cdv ct) ps sp:=by
 refine ⟨len,fun A outer s H args us vs Q E hr e0 hb r hsp=>?_⟩
 have hl:=len _ _ _ _ hsp
 have KX:K.In s.heap:=e0.mod.kin.keeps fun b o e=>(e0.bs b o e).1
 have lim:s.heap.NoLimit:=e0.mod.nolimit.keeps fun b o e=>(e0.bs b o e).1
 have hkind:∀ y∈ps.zip us,scope.names.lookup y.1=some .local∨(scope.names.lookup y.1=some .cell∧((cellsFrom (s.heap.objs.size+1) scope.names []).lookup y.1).isSome=true):=fun ⟨n,v⟩ hy=>by
  rcases S.par n (List.of_mem_zip hy).1 with q | q
  ·exact .inl q
  ·exact .inr ⟨q,PySem.W.cellsFrom_some _ _ _ (.inl q)⟩
 refine codeAny_call_function hr.depth (KX _ _ lk) rfl S.co S.gen rfl (PySem.W.codeRec_of KX hcd) (hb _ _ _ _ ?_)
 refine wpAny_newFunctionEnv_cells S.kind hkind fun env he s1 x=>?_
 subst he
 refine ⟨lim.keeps x.toInCall.keep,codeAny_func ?_⟩
 obtain ⟨t,ht,hq⟩:=hbody A outer s H vs Q E (hr.deeper _) hsp
 have I:Inv (cxOf CX P w K mg base N qual scope f cdv A outer s H E) [] (start N vs) H s1:=zkS_ S hr.hd e0 hl r x
 refine wpAny_mono (ht [] s1 (start N vs) H _ I hq) (fun fl s' hs=>?_) fun e s' hs=>hs
 have fin:∀ {σ':St}{H':Hp}{v:V}{u:Value},Inv (cxOf CX P w K mg base N qual scope f cdv A outer s H E) [] σ' H' s'→RelV v u→Q v H'→CE outer P w H s Q u s' :=
  fun {σ' H' v u} J rv q=>⟨v,H',J.os,J.bare,J.base,J.hok,rv,q⟩
 cases fl with
 | ret u =>
  obtain ⟨v,σ',H',J,rv,q⟩:=hs
  exact fin J rv q
 | next =>
  obtain ⟨σ',H',J,q⟩:=hs
  exact fin (v:=V.non) (u:=Value.none) J rfl q
 | brk =>
  obtain ⟨_,_,_,q⟩:=hs
  exact False.elim q
 | cont =>
  obtain ⟨_,_,_,q⟩:=hs
  exact False.elim q
end L2
namespace L2
open PySem PySem.Spec PyProof.Rows
section
variable {X:Cx}{x:Str}{p pos:Pos}{e:Expr}{es:List Expr}{t:TA}{id T:String}{r:List V→Hp→VK→Prop}
def tCB (r:List V→Hp→VK→Prop) (t:TA):TE:=fun σ H Q=>t σ H fun vs H1=>r vs H1 Q
theorem zm3_ (hc:CallR X (.builtin id) r) (hg:Gl X x) (hm:X.mg x=none) (hv:bootBuiltins x=some (.builtin id)) (ha:PA X (e::es) t) (hn:x ≠ "__name__" := by decide) (hdb:(x == ("__debug__" : Str))=false:=by decide)
  (he:starEach (e::es) X.env=(false,eval e X.env)::starEach es X.env:=by rfl) (hpl:(backTo pos (starEach es X.env)).any (·.1)=false:=by rfl):PE X (.Call (.Name x p) (e::es) [] pos) (tCB r t):=by
 intro pins s σ H Q I h
 refine wpAny_Call_Name_kw (zhh_ I hg hm hv ?_ hn hdb)
 exact PyProof.Rows.callWith_builtin1 (thn (ha pos pins s σ H _ I h) fun us s1 ⟨vs,H1,I1,r1,q1⟩=>hc pins s1 σ H1 vs us Q I1 r1 q1) he hpl
theorem zkO_ (hc:CallR X (.type T) r) (hg:Gl X x) (hm:X.mg x=none) (hv:bootBuiltins x=some (.type T)) (ha:PA X (e::es) t) (hn:x ≠ "__name__" := by decide) (hdb:(x == ("__debug__" : Str))=false:=by decide)
  (he:starEach (e::es) X.env=(false,eval e X.env)::starEach es X.env:=by rfl) (hpl:(backTo pos (starEach es X.env)).any (·.1)=false:=by rfl):PE X (.Call (.Name x p) (e::es) [] pos) (tCB r t):=by
 intro pins s σ H Q I h
 refine wpAny_Call_Name_kw (zhh_ I hg hm hv ?_ hn hdb)
 exact PyProof.Rows.callWith_type1 (thn (ha pos pins s σ H _ I h) fun us s1 ⟨vs,H1,I1,r1,q1⟩=>hc pins s1 σ H1 vs us Q I1 r1 q1) he hpl
end
end L2
namespace HT
open PySem PyProof.Rows
section
open PySem.SeqAt
open PySem.AutoSeq1 (wpAny_loadPart')
open PySem.MeetsSeq PySem.MeetsSeq2 PySem.MeetsSeq3
end
section
variable {prog:Program}{w:World}{A:Around}{E:Value→Shared→Prop}{s:Shared}
def sIx (n d:Nat):Option Int→Nat
 | none=>d
 | some v=>if v<0 then (v+(n:Int)).toNat else min v.toNat n
theorem sIx_le (n d:Nat) (hd:d≤n) (o:Option Int):sIx n d o≤n:=by
 cases o with
 | none=>exact hd
 | some v =>
  show (if v<0 then (v+(n:Int)).toNat else min v.toNat n)≤n
  by_cases hv:v<0
  ·rw [if_pos hv]; lia
  ·rw [if_neg hv]; exact Nat.min_le_right _ _
end
end HT
namespace L2
open PySem PySem.Spec PyProof.Rows
abbrev TO:=St→Hp→(Option Int→Hp→Prop)→Prop
def PO (X:Cx) (e:Option Expr) (t:TO):Prop :=
 ∀ (pins:Pnn) (s:Shared) (σ:St) (H:Hp) (Q:Option Int→Hp→Prop),Inv X pins σ H s→t σ H Q →
  wpAny (model X.prog X.w) X.A (evalPart e X.env) (fun u s'=>∃ o H',Inv X pins σ H' s'∧IsPart u o∧Q o H') X.xe s
def tNoPart:TO:=fun _ H Q=>Q none H
section
variable {X:Cx}{e:Expr}{te:TE}{lo hi:Option Expr}{tl th:TO}{pos p2:Pos}
theorem zhZ_:PO X none tNoPart:=by
 intro pins s σ H Q I h
 rw [evalPart_none]
 exact wpAny_pure ⟨none,H,I,.none,h⟩
def SlR (X:Cx) (r:V→Option Int→Option Int→Hp→VK→Prop):Prop :=
 ∀ (pins:Pnn) (s:Shared) (σ:St) (H:Hp) (x:V) (v vl vu:Value) (lo hi:Option Int) (sl:Addr) (Q:VK),Inv X pins σ H s→RelV x v→s.heap.IsSliceOf sl vl vu .none→IsPart vl lo→IsPart vu hi→r x lo hi H Q →
  ∃ T id,typeLookup (.type T) "__getitem__" = pure (some (.builtin id))∧s.TypeIs v T∧wpAny (model X.prog X.w) X.A (getItem v (.ref sl)) (EP X pins σ Q) X.xe s
def tSl (r:V→Option Int→Option Int→Hp→VK→Prop) (te:TE) (tl th:TO):TE:=fun σ H Q=>te σ H fun x H1=>tl σ H1 fun l H2=>th σ H2 fun u H3=>r x l u H3 Q
theorem zdC_ {r:V→Option Int→Option Int→Hp→VK→Prop}(hr:SlR X r) (he:PE X e te) (hl:PO X lo tl) (hu:PO X hi th):PE X (.Subscript e (.Slice lo hi none p2) pos) (tSl r te tl th):=by
 intro pins s σ H Q I h
 refine Subscript_ (thn (he pins s σ H _ I h) fun v s1 hq_=>?_)
 obtain ⟨x,H1,I1,r1,q1⟩:=hq_
 refine wpAny_Slice (thn (hl pins s1 σ H1 _ I1 q1) fun vl s2 ⟨l,H2,I2,pl,q2⟩=>thn (hu pins s2 σ H2 _ I2 q2) fun vu s3 hq_=>?_)
 obtain ⟨u,H3,I3,pu,q3⟩:=hq_
 rw [evalPart_none]
 refine wpAny_pure ?_
 have I4:Inv X pins σ H3 { s3 with heap:=s3.heap.push { cls:=.type "slice",data:=.fields #[vl,vu,.none] } }:=I3.kept (t':=s3.toks) fun b ob q=>Heap.get?_push_of_some _ q
 obtain ⟨T,id,hT,ht,hg⟩:=hr pins { s3 with heap:=s3.heap.push { cls:=.type "slice",data:=.fields #[vl,vu,.none] } } σ H3 x v vl vu l u s3.heap.objs.size Q I4 r1 (Heap.IsSliceOf.new ..) pl pu q3
 show wpAny (model X.prog X.w) X.A (subscriptTail e (.Slice lo hi none p2) v (.ref s3.heap.objs.size)) (EP X pins σ Q) X.xe { s3 with heap:=s3.heap.push { cls:=.type "slice",data:=.fields #[vl,vu,.none] } }
 exact tail_any (ops:=[.ref s3.heap.objs.size,v]) ht hT hg (by with_unfolding_all rfl)
def cutV (xs:List V) (lo hi:Option Int):List V:=(xs.drop (HT.sIx xs.length 0 lo)).take (HT.sIx xs.length xs.length hi-HT.sIx xs.length 0 lo)
theorem zip_ (xs:List V) (lo hi:Option Int):(cutV xs lo hi).length≤xs.length:=by
 unfold cutV
 rw [List.length_take,List.length_drop]
 lia
end
end L2
namespace L2
open PySem PySem.Spec PyProof.Rows
def ixN (n:Nat) (i:Int):Option Nat:=if 0≤i then (if i<n then some i.toNat else none) else if -(n:Int)≤i then some (i+n).toNat else none
def atI {α:Type}(xs:List α) (i:Int):Option α:=(ixN xs.length i).bind fun j=>xs[j]?
theorem zlI_ {n:Nat}{i:Int}{j:Nat}(h:ixN n i=some j):seqIndex? i n=some j∧j<n ∧ -(n:Int)≤i∧i<n:=by
 unfold ixN at h
 by_cases h0:0≤i
 ·rw [if_pos h0] at h
  by_cases h1:i<n
  ·rw [if_pos h1] at h
   have e:i.toNat=j:=Option.some.inj h
   exact ⟨by rw [seqIndex_of h0 h1,e],by lia,by lia,h1⟩
  ·rw [if_neg h1] at h; cases h
 ·rw [if_neg h0] at h
  by_cases h1 : -(n:Int)≤i
  ·rw [if_pos h1] at h
   have e:(i+n).toNat=j:=Option.some.inj h
   exact ⟨by rw [seqIndex_neg (by lia) h1,e],by lia,h1,by lia⟩
  ·rw [if_neg h1] at h; cases h
theorem zjp_ {α:Type}{xs:List α}{i:Int}{v:α}(h:atI xs i=some v):∃ j,seqIndex? i xs.length=some j∧xs[j]?=some v∧j<xs.length ∧ -(xs.length:Int)≤i∧i<xs.length:=by
 unfold atI at h
 cases e:ixN xs.length i with
 | none=>rw [e] at h; cases h
 | some j =>
  rw [e] at h
  obtain ⟨h1,h2,h3,h4⟩:=zlI_ e
  exact ⟨j,h1,h,h2,h3,h4⟩
def PlainIx (b:Expr):Prop:=∀ o i,subscripted b false o i=operate [o,i] (getItem o i)
def IxR (X:Cx) (r:R2):Prop :=
 ∀ (value slice:Expr) (pins:Pnn) (s:Shared) (σ:St) (H:Hp) (x y:V) (v u:Value) (Q:VK),Inv X pins σ H s→RelV x v→RelV y u→r x y H Q →
  subscripted slice false v u=operate [v,u] (getItem v u)→wpAny (model X.prog X.w) X.A (subscriptTail value slice v u) (EP X pins σ Q) X.xe s
def MtR (X:Cx) (id:String) (r:V→List V→Hp→VK→Prop):Prop :=
 ∀ (pins:Pnn) (s:Shared) (σ:St) (H:Hp) (x:V) (xs:List V) (v:Value) (us:List Value) (Q:VK),Inv X pins σ H s→RelV x v→Vals xs us→r x xs H Q →
  wpAny (model X.prog X.w) X.A (call (.builtin id) (v::us)) (EP X pins σ Q) X.xe s
section
variable {X:Cx}{a b:Expr}{ta tb:TE}{pos:Pos}
theorem zd3_ {r:R2}(hr:IxR X r) (ha:PE X a ta) (hb:PE X b tb) (hs:PlainIx b):PE X (.Subscript a b pos) (tOp r ta tb):=by
 intro pins s σ H Q I h
 exact Subscript_ (binT ha hb I h fun v u s2 x y H2 I2 rx ry q=>hr a b pins s2 σ H2 x y v u Q I2 rx ry q (hs _ _))
def rIxL (K:Fgg):R2:=fun x y H Q=>∃ p xs i v,x=.ref p∧y=.int i∧SqL K H p xs∧atI xs i=some v∧Q v H
def rIxT (K:Fgg):R2:=fun x y H Q=>∃ p xs i v,x=.ref p∧y=.int i∧SqT K H p xs∧atI xs i=some v∧Q v H
def rIxS:R2:=fun x y H Q=>∃ z i c,x=.str z∧y=.int i∧z.length≤sizeLine∧atI z.cps.toList i=some c∧Q (.str ⟨#[c]⟩) H
theorem zoB_:IxR X (rIxL X.K):=by
 intro value slice pins s σ H x y v u Q I rx ry h hs
 obtain ⟨p,xs,i,z,rfl,rfl,hq,he,q⟩:=h
 cases rx
 obtain ⟨t,rfl⟩:=ry
 obtain ⟨its,r,pl,hz⟩:=I.list hq
 obtain ⟨j,h1,h2,h3,h4,h5⟩:=zjp_ he
 obtain ⟨w,ew,rw'⟩:=r.get h2
 have hl:=r.length
 have hn:=line63
 have fin:EP X pins σ Q w s:=⟨z,H,I,rw',q⟩
 by_cases h0:0≤i
 ·have hj:i.toNat=j:=by
   rw [seqIndex_of h0 h5] at h1
   exact Option.some.inj h1
  exact item_listR pl.isList h0 (by lia) (by rw [hj]; simpa using ew) fin hs
 ·have hj:(i+(its.toArray.size:Int)).toNat=j:=by
   rw [seqIndex_neg (by lia) h4] at h1
   rw [List.size_toArray,← hl]
   exact Option.some.inj h1
  exact subscriptTail_builtinR (x:=w) pl.isList.typeIs slot_list_getitem.lookup
   (wpAny_getItem_list_neg (Q:=fun r s'=>r=w∧EP X pins σ Q r s') pl.isList (by lia) (by rw [List.size_toArray]<;>lia) (by lia) (by rw [hj]; simpa using ew) ⟨rfl,fin⟩) hs
theorem zpX_:IxR X (rIxT X.K):=by
 intro value slice pins s σ H x y v u Q I rx ry h hs
 obtain ⟨p,xs,i,z,rfl,rfl,hq,he,q⟩:=h
 cases rx
 obtain ⟨t,rfl⟩:=ry
 obtain ⟨its,r,pl,hz⟩:=I.tuple hq
 obtain ⟨j,h1,h2,h3,h4,h5⟩:=zjp_ he
 obtain ⟨w,ew,rw'⟩:=r.get h2
 have hl:=r.length
 have hn:=line63
 have fin:EP X pins σ Q w s:=⟨z,H,I,rw',q⟩
 exact subscriptTail_builtinR (x:=w) pl.typeIs slot_tuple_getitem.lookup
  (getItem_tuple (j:=j) (Q:=fun r s'=>r=w∧EP X pins σ Q r s') pl (by lia) (by lia) (by rw [List.size_toArray,← hl]; exact h1) (by simpa using ew) ⟨rfl,fin⟩) hs
theorem zpm_:IxR X rIxS:=by
 intro value slice pins s σ H x y v u Q I rx ry h hs
 obtain ⟨z,i,c,rfl,rfl,hz,he,q⟩:=h
 obtain ⟨t,rfl⟩:=rx
 obtain ⟨t',rfl⟩:=ry
 obtain ⟨j,h1,h2,h3,h4,h5⟩:=zjp_ he
 have hl:z.cps.toList.length=z.length:=by simp [Str.length]
 rw [hl] at h1 h4 h5
 have hn:=line63
 exact tail_any (typeIs_str s z t) slot_str_getitem.lookup (getItem_str (c:=c) (by
  have e1:decide (i < -(2 ^ 63:Int))=false:=decide_eq_false (by lia)
  have e2:decide (i ≥ 2 ^ 63)=false:=decide_eq_false (by lia)
  rw [e1,e2,Bool.or_false]) (by rw [h1]; simpa using h2) ⟨.str ⟨#[c]⟩,H,I.tok _,⟨_,rfl⟩,q⟩) hs
theorem zjS_ (its:List Value) (n j:Nat) (u:Value):Obj.mapSeq (·.setIfInBounds j u) { cls:=.type "list",data:=.seq its.toArray n }={ cls:=.type "list",data:=.seq (its.set j u).toArray n }:=by
 simp [Obj.mapSeq]
theorem Inv.lst {pins:Pnn}{σ:St}{H:Hp}{s:Shared}{p:Addr}{xs:List V}(I:Inv X pins σ H s) (h:H p=some (.lst xs)) :
  ∃ (its:List Value) (n:Nat),Vals xs its∧s.heap.get? p=some { cls:=.type "list",data:=.seq its.toArray n }∧xs.length≤sizeLine:=by
 obtain ⟨z,its,n,r,e⟩:=I.hok p _ h
 exact ⟨its,n,r,e,z⟩
theorem Inv.lstUpd {pins:Pnn}{σ:St}{H:Hp}{s:Shared}{p:Addr}{xs ys:List V}{its its':List Value}{n n':Nat}{f:Obj→Obj}(I:Inv X pins σ H s) (h:H p=some (.lst xs))
  (ho:s.heap.get? p=some { cls:=.type "list",data:=.seq its.toArray n }) (hf:f { cls:=.type "list",data:=.seq its.toArray n }={ cls:=.type "list",data:=.seq its'.toArray n' }) (r:Vals ys its') (hz:ys.length≤sizeLine) (t:Nat) :
  Inv X pins σ (upd H p (.lst ys)) { s with heap:=s.heap.update p f,toks:=t }:=by
 have e:(s.heap.update p f).get? p=some { cls:=.type "list",data:=.seq its'.toArray n' }:=by
  rw [Heap.get?_update_self f ho (by rw [hf]<;>rfl),hf]
 refine I.write (x:=p) (e:=p) (by rw [h]; trivial) (.inl rfl) (fun b u hb q=>(Heap.get?_update_other _ _ (Ne.symm hb)).trans q) ⟨_,e⟩ ?_
 exact ⟨hz,its',n',r,e⟩
def rSetL:V→V→V→Hp→(Hp→Prop)→Prop:=fun o i v H Q=>∃ p xs k j,o=.ref p∧i=.int k∧H p=some (.lst xs)∧ixN xs.length k=some j∧Q (upd H p (.lst (xs.set j v)))
theorem zmw_:PSet X rSetL:=by
 intro pins s σ H o i v ov iv u Q I ro ri rv h
 obtain ⟨p,xs,k,j,rfl,rfl,hp,hj,q⟩:=h
 cases ro
 obtain ⟨t,rfl⟩:=ri
 obtain ⟨its,n,r,ho,hz⟩:=I.lst hp
 obtain ⟨h1,h2,h3,h4⟩:=zlI_ hj
 have hl:=r.length
 have hn:=line63
 have I':Inv X pins σ (upd H p (.lst (xs.set j v))) { s with heap:=s.heap.update p (Obj.mapSeq (·.setIfInBounds j u)) } :=
  I.lstUpd hp ho (zjS_ its n j u) (r.set rv j) (by rw [List.length_set]; exact hz) s.toks
 by_cases h0:0≤k
 ·have hk:k.toNat=j:=by
   rw [seqIndex_of h0 h4] at h1
   exact Option.some.inj h1
  exact PySem.W.ki_setAt ho h0 (by lia) (by rw [List.size_toArray,← hl]; exact h4) (by rw [hk]; exact ⟨_,I',q⟩)
 ·have hk:(k+(its.toArray.size:Int)).toNat=j:=by
   rw [seqIndex_neg (by lia) h3] at h1
   rw [List.size_toArray,← hl]
   exact Option.some.inj h1
  exact PySem.W.ki_setBack ho (by lia) (by rw [List.size_toArray,← hl]; exact h3) (by lia) (by rw [hk]; exact ⟨_,I',q⟩)
theorem zgW_ (lo hi:Option Int) (n:Nat):(sliceBounds lo hi none n).1=((HT.sIx n 0 lo:Nat):Int)∧(sliceBounds lo hi none n).2.1=((HT.sIx n n hi:Nat):Int)∧(sliceBounds lo hi none n).2.2=1:=by
 refine ⟨?_,?_,rfl⟩
 ·cases lo with
  | none=>simp [sliceBounds,HT.sIx]
  | some i =>
   simp only [sliceBounds,HT.sIx,Option.getD_none,show (1:Int) > 0 by decide,if_true]
   by_cases h:i<0
   ·simp only [h,if_true]<;>lia
   ·simp only [h,if_false]<;>lia
 ·cases hi with
  | none=>simp [sliceBounds,HT.sIx]
  | some i =>
   simp only [sliceBounds,HT.sIx,Option.getD_none,show (1:Int) > 0 by decide,if_true]
   by_cases h:i<0
   ·simp only [h,if_true]<;>lia
   ·simp only [h,if_false]<;>lia
theorem zgj_ (its:List Value) (lo hi:Option Int):slicePick its.toArray lo hi none=((its.drop (HT.sIx its.length 0 lo)).take (HT.sIx its.length its.length hi-HT.sIx its.length 0 lo)).toArray:=by
 obtain ⟨h1,h2,h3⟩:=zgW_ lo hi its.toArray.size
 unfold slicePick
 rw [h1,h2,h3]
 simp only [sliceRange_one,pick_run,List.size_toArray]<;>rfl
def rSlL (K:Fgg):V→Option Int→Option Int→Hp→VK→Prop:=fun x lo hi H Q=>∃ a xs,x=.ref a∧SqL K H a xs∧∀ p,H p=none→Q (.ref p) (upd H p (.lst (cutV xs lo hi)))
theorem zok_:SlR X (rSlL X.K):=by
 intro pins s σ H x v vl vu lo hi sl Q I rx hs pl pu h
 obtain ⟨a,xs,rfl,hx,q⟩:=h
 cases rx
 obtain ⟨its,r,ht,hz⟩:=I.list hx
 have hlen:=r.length
 refine ⟨"list",_,slot_list_getitem.lookup,ht.isList.typeIs,?_⟩
 refine wpAny_getItem_list_slice ht.isList hs pl pu .none (by simp) ?_ (by rw [List.size_toArray]<;>lia)
 rw [zgj_,← hlen]
 refine ⟨.ref s.heap.objs.size,_,I.laid (t':=s.toks) (o:=.lst (cutV xs lo hi)) (fun b ob q=>Heap.get?_push_of_some _ q) (Nat.le_refl _) ?_,rfl,q _ (I.hok.fresh (Nat.le_refl _))⟩
 exact ⟨Nat.le_trans (zip_ xs lo hi) hz,_,0,(r.drop (HT.sIx xs.length 0 lo)).take (HT.sIx xs.length xs.length hi-HT.sIx xs.length 0 lo),Heap.get?_push_size _ rfl⟩
def flatV:V→Bool
 | .non=>true
 | .bl _=>true
 | .int _=>true
 | .str _=>true
 | _=>false
def eqV:V→V→Bool
 | .non,.non=>true
 | .bl a,.bl b=>a == b
 | .bl a,.int b=>(if a then 1 else 0) == b
 | .int a,.bl b=>a == (if b then 1 else 0)
 | .int a,.int b=>a == b
 | .str a,.str b=>a == b
 | _,_=>false
theorem zn1_ {A:Around}{s:Shared}{y x:V}{u v:Value}(ry:RelV y u) (rx:RelV x v) (fy:flatV y=true) (fx:flatV x=true):SeqAt.EqAt A s u v (eqV y x):=by
 cases y with
 | non =>
  cases ry
  cases x with
  | non=>cases rx; exact SeqAt.EqAt.same _
  | bl b=>cases rx; exact SeqAt.EqAt.none_bool b
  | int b=>obtain ⟨t,rfl⟩:=rx; exact SeqAt.EqAt.none_int b t
  | str b=>obtain ⟨t,rfl⟩:=rx; exact SeqAt.EqAt.none_str b t
  | _=>exact absurd (show false=true from fx) Bool.false_ne_true
 | bl a =>
  cases ry
  cases x with
  | non=>cases rx; exact SeqAt.EqAt.bool_none a
  | bl b=>cases rx; exact SeqAt.EqAt.bool_bool a b
  | int b=>obtain ⟨t,rfl⟩:=rx; exact SeqAt.EqAt.bool_int a b t
  | str b=>obtain ⟨t,rfl⟩:=rx; exact SeqAt.EqAt.bool_str a b t
  | _=>exact absurd (show false=true from fx) Bool.false_ne_true
 | int a =>
  obtain ⟨t',rfl⟩:=ry
  cases x with
  | non=>cases rx; exact SeqAt.EqAt.int_none a t'
  | bl b=>cases rx; exact SeqAt.EqAt.int_bool a t' b
  | int b=>obtain ⟨t,rfl⟩:=rx; exact SeqAt.EqAt.int_int a t' b t
  | str b=>obtain ⟨t,rfl⟩:=rx; exact SeqAt.EqAt.int_str a t' b t
  | _=>exact absurd (show false=true from fx) Bool.false_ne_true
 | str a =>
  obtain ⟨t',rfl⟩:=ry
  cases x with
  | non=>cases rx; exact SeqAt.EqAt.str_none a t'
  | bl b=>cases rx; exact SeqAt.EqAt.str_bool a t' b
  | int b=>obtain ⟨t,rfl⟩:=rx; exact SeqAt.EqAt.str_int a t' b t
  | str b=>obtain ⟨t,rfl⟩:=rx; exact SeqAt.EqAt.str_str a t' b t
  | _=>exact absurd (show false=true from fx) Bool.false_ne_true
 | _=>exact absurd (show false=true from fy) Bool.false_ne_true
def eqU (x:V) (u:Value):Bool:=match u with
 | .none=>eqV .non x
 | .bool b=>eqV (.bl b) x
 | .int i _=>eqV (.int i) x
 | .str z _=>eqV (.str z) x
 | _=>false
theorem zob_ {x y:V}{u:Value}(r:RelV y u) (f:flatV y=true):eqU x u=eqV y x:=by
 cases y with
 | non=>cases r; rfl
 | bl b=>cases r; rfl
 | int i=>obtain ⟨t,rfl⟩:=r; rfl
 | str z=>obtain ⟨t,rfl⟩:=r; rfl
 | _=>exact absurd (show false=true from f) Bool.false_ne_true
theorem zki_ {x:V}:∀ {xs:List V}{us:List Value},Vals xs us→xs.all flatV=true→us.any (eqU x)=xs.any fun y=>eqV y x
 | _,_,.nil,_=>rfl
 | y::xs,u::us,.cons r t,f=>by
  rw [List.all_cons,Bool.and_eq_true] at f
  rw [List.any_cons,List.any_cons,zob_ r f.1,zki_ t f.2]
theorem zhe_ {A:Around}{s:Shared}{x:V}{v:Value}(rx:RelV x v) (fx:flatV x=true):∀ {xs:List V}{us:List Value},Vals xs us→xs.all flatV=true→∀ u∈us,SeqAt.EqAt A s u v (eqU x u)
 | _,_,.nil,_=>fun u hu=>by cases hu
 | y::xs,u::us,.cons r t,f=>fun u' hu=>by
  rw [List.all_cons,Bool.and_eq_true] at f
  rcases List.mem_cons.mp hu with rfl | hu
  ·rw [zob_ r f.1]; exact zn1_ r rx f.1 fx
  ·exact zhe_ rx fx t f.2 u' hu
def inV (x:V) (xs:List V):Bool:=xs.any fun y=>eqV y x
def rIn (K:Fgg) (neg:Bool):R2:=fun x y H Q=>∃ p xs,y=.ref p∧(SqL K H p xs∨SqT K H p xs)∧flatV x=true∧xs.all flatV=true∧Q (.bl (if neg then !inV x xs else inV x xs)) H
theorem zlp_:OpR X (compareOp .In) (rIn X.K false):=by
 intro pins s σ H x y v u Q I rx ry h
 obtain ⟨p,xs,rfl,hq,fx,fs,q⟩:=h
 cases ry
 rcases hq with hq | hq
 ·obtain ⟨its,r,pl,hz⟩:=I.list hq
  refine SeqAt.in_listAt (eqU x) pl.isList (fun w hw=>zhe_ rx fx r fs w (by simpa using hw)) ⟨.bl _,H,I,rfl,?_⟩
  rw [show its.toArray.any (eqU x)=its.any (eqU x) by simp,zki_ r fs]
  exact q
 ·obtain ⟨its,r,pl,hz⟩:=I.tuple hq
  refine SeqAt.in_tupleAt (eqU x) pl (fun w hw=>zhe_ rx fx r fs w (by simpa using hw)) ⟨.bl _,H,I,rfl,?_⟩
  rw [show its.toArray.any (eqU x)=its.any (eqU x) by simp,zki_ r fs]
  exact q
theorem zgR_:CallR X (.builtin "len") (fun xs H Q=>∃ p ys,xs=[.ref p]∧(SqL X.K H p ys∨SqT X.K H p ys)∧Q (.int ys.length) H):=by
 intro pins s σ H xs us Q I r h
 obtain ⟨p,ys,rfl,hq,q⟩:=h
 obtain ⟨u,rfl,rx⟩:=vals1 r
 cases rx
 have hn:=line63
 rcases hq with hq | hq
 ·obtain ⟨its,r',pl,hz⟩:=I.list hq
  have hlen:=r'.length
  exact Calls.call_len_list pl.isList (by simp only [List.size_toArray]<;>lia) ⟨.int ys.length,H,I.tok _,⟨s.toks+1,by rw [List.size_toArray,hlen]⟩,q⟩
 ·obtain ⟨its,r',pl,hz⟩:=I.tuple hq
  have hlen:=r'.length
  exact len_tuple pl (by simp only [List.size_toArray]<;>lia) ⟨.int ys.length,H,I.tok _,⟨s.toks+1,by rw [List.size_toArray,hlen]⟩,q⟩
theorem zhj_:CallR X (.builtin "len") (fun xs H Q=>∃ z,xs=[.str z]∧z.length≤sizeLine∧Q (.int z.length) H):=by
 intro pins s σ H xs us Q I r h
 obtain ⟨z,rfl,hz,q⟩:=h
 obtain ⟨u,rfl,t,rfl⟩:=vals1 r
 have hn:=line63
 exact len_str (by lia) ⟨.int z.length,H,I.tok _,⟨_,rfl⟩,q⟩
theorem zg3_:CallR X (.type "list") (fun xs H Q=>∃ p ys,xs=[.ref p]∧(SqL X.K H p ys∨SqT X.K H p ys)∧∀ l,H l=none→Q (.ref l) (upd H l (.lst ys))):=by
 intro pins s σ H xs us Q I r h
 obtain ⟨p,ys,rfl,hq,q⟩:=h
 obtain ⟨u,rfl,rx⟩:=vals1 r
 cases rx
 have fin:∀ (its:List Value),Vals ys its→ys.length≤sizeLine→∀ (h':Heap) (c':Nat),(∀ b o',s.heap.get? b=some o'→h'.get? b=some o') →
   h'.get? s.heap.objs.size=some { cls:=.type "list",dict:=none,data:=.seq its.toArray c',slots:=#[] }→EP X pins σ Q (.ref s.heap.objs.size) { s with heap:=h' }:=fun its r' hz h' c' kp e =>
  ⟨.ref s.heap.objs.size,_,I.laid (t':=s.toks) kp (Nat.le_refl _) (show ObjOk X.prog X.w _ h' _ (.lst ys) from ⟨hz,its,c',r',e⟩),rfl,q _ (I.hok.fresh (Nat.le_refl _))⟩
 rcases hq with hq | hq
 ·obtain ⟨its,r',pl,hz⟩:=I.list hq
  have hlen:=r'.length
  obtain ⟨o,ho,hc,n,hd⟩:=pl.isList
  exact call_list_seq p (.inl rfl) ho hc hd (fun h' c' kp e=>fin its r' hz h' c' kp e) (by simp only [List.size_toArray]<;>lia)
 ·obtain ⟨its,r',pl,hz⟩:=I.tuple hq
  have hlen:=r'.length
  obtain ⟨o,ho,hc,n,hd⟩:=pl
  exact call_list_seq p (.inr rfl) ho hc hd (fun h' c' kp e=>fin its r' hz h' c' kp e) (by simp only [List.size_toArray]<;>lia)
def tyV (K:Fgg) (T:String) (x:V) (H:Hp):Prop:=match x with
 | .str _=>T = "str"
 | .int _=>T = "int"
 | .ref p=>(T = "list" ∧ ∃ xs,SqL K H p xs)∨(T = "tuple" ∧ ∃ o,K.lookup p=some o∧o.cls=.type "tuple" ∧ o.dict=none) ∨
   (T = "dict" ∧ ((∃ kvs,H p=some (.dK kvs))∨∃ kvs,H p=some (.dT kvs)))∨(T = "set" ∧ ∃ S n,H p=some (.set S n))
 | _=>False
theorem znt_ {pins:Pnn}{σ:St}{H:Hp}{s:Shared}{T:String}{x:V}{v:Value}(I:Inv X pins σ H s) (r:RelV x v) (ty:tyV X.K T x H) :
  s.TypeIs v T∧∀ a,v=.ref a→∃ ob,s.heap.get? a=some ob∧ob.dict=none:=by
 cases x with
 | str z =>
  obtain ⟨t,rfl⟩:=r
  cases (show T = "str" from ty)
  exact ⟨typeIs_str s z t,fun _ e=>nomatch e⟩
 | int i =>
  obtain ⟨t,rfl⟩:=r
  cases (show T = "int" from ty)
  exact ⟨typeIs_int s i t,fun _ e=>nomatch e⟩
 | ref p =>
  cases r
  rcases ty with ⟨rfl,xs,hq⟩ | ⟨rfl,o,hk,hc,hd⟩ | ⟨rfl,hk⟩ | ⟨rfl,S,n,hk⟩
  ·obtain ⟨its,_,pl,_⟩:=I.list hq
   refine ⟨pl.isList.typeIs,fun a e=>?_⟩
   cases e
   obtain ⟨o,n,e,c,hd,_⟩:=pl
   exact ⟨o,e,hd⟩
  ·refine ⟨⟨o,I.kIn p o hk,hc⟩,fun a e=>?_⟩
   cases e
   exact ⟨o,I.kIn _ o hk,hd⟩
  ·have z:∃ o,s.heap.get? p=some o∧o.ExactDict:=by
    rcases hk with ⟨kvs,hk⟩ | ⟨kvs,hk⟩
    ·obtain ⟨_,_,_,_,o,_,_,e,ex,_⟩:=I.hok p _ hk
     exact ⟨o,e,ex⟩
    ·obtain ⟨_,_,_,_,o,_,_,e,ex,_⟩:=I.hok p _ hk
     exact ⟨o,e,ex⟩
   obtain ⟨o,e,ex⟩:=z
   refine ⟨⟨o,e,ex.1⟩,fun a e2=>?_⟩
   cases e2
   exact ⟨o,e,ex.2.1⟩
  ·obtain ⟨o,_,_,_,e,ex,_⟩:=I.hok p _ hk
   refine ⟨⟨o,e,ex.1⟩,fun a e2=>?_⟩
   cases e2
   exact ⟨o,e,ex.2.1⟩
 | _=>exact False.elim ty
def tBM0 (K:Fgg) (T:String) (r:V→List V→Hp→VK→Prop) (to:TE):TE:=fun σ H Q=>to σ H fun x H1=>tyV K T x H1∧r x [] H1 Q
def tBM (K:Fgg) (T:String) (r:V→List V→Hp→VK→Prop) (to:TE) (t:TA):TE:=fun σ H Q=>to σ H fun x H1=>tyV K T x H1∧t σ H1 fun xs H2=>r x xs H2 Q
variable {o e:Expr}{es:List Expr}{to:TE}{t:TA}{name:Str}{apos cpos:Pos}{T id:String}{r:V→List V→Hp→VK→Prop}
theorem zpd_ (pa:PlainAttrs T) (slot:Slot T name id) (hty:typeOf (.builtin id)=pure (.type "method_descriptor")) (hm:MtR X id r) (ho:PE X o to)
  (hbase:attributeBase o name X.env (eval o X.env)=eval o X.env:=by rfl) (hline:(apos.endLine == cpos.line)=true:=by rfl):PE X (.Call (.Attribute o name apos) [] [] cpos) (tBM0 X.K T r to):=by
 intro pins s σ H Q I h
 refine wpAny_Call_method0_late hbase hline (thn (ho pins s σ H _ I h) fun v s1 hq_=>?_)
 obtain ⟨x,H1,I1,r1,ty,q1⟩:=hq_
 obtain ⟨h1,h2⟩:=znt_ I1 r1 ty
 exact ⟨T,id,pa,slot,hty,h1,h2,Calls.callWith_builtin rfl (PySem.evalArgs_none (hm pins s1 σ H1 x [] v [] Q I1 r1 .nil q1))⟩
theorem zg6_ (pa:PlainAttrs T) (slot:Slot T name id) (hty:typeOf (.builtin id)=pure (.type "method_descriptor")) (hm:MtR X id r) (ho:PE X o to) (ha:PA X (e::es) t)
  (hbase:attributeBase o name X.env (eval o X.env)=eval o X.env:=by rfl)
  (hfew:((backTo cpos (starEach (e::es) X.env)).all (fun x=>!x.1) && (backToKw cpos (keywordEach [] X.env)).all (fun x=>x.1.isSome)
   && decide ((e::es).length+([]:List Keyword).length+(if ([]:List Keyword).isEmpty then 0 else 1)<30))=true:=by rfl)
  (hline:(apos.endLine == cpos.line)=true:=by rfl) (hs:starEach (e::es) X.env=(false,eval e X.env)::starEach es X.env:=by rfl) (hplain:(backTo cpos (starEach es X.env)).any (·.1)=false:=by rfl) :
  PE X (.Call (.Attribute o name apos) (e::es) [] cpos) (tBM X.K T r to t):=by
 intro pins s σ H Q I h
 refine wpAny_Call_method_late hbase hfew hline rfl (thn (ho pins s σ H _ I h) fun v s1 hq_=>?_)
 obtain ⟨x,H1,I1,r1,ty,q1⟩:=hq_
 obtain ⟨h1,h2⟩:=znt_ I1 r1 ty
 refine ⟨T,id,pa,slot,hty,h1,h2,?_⟩
 have hA:=ha cpos pins s1 σ H1 _ I1 q1
 rw [hs] at hA ⊢
 refine Calls.callWith_builtin (by show (false || (backTo cpos (starEach es X.env)).any (·.1))=false; rw [hplain]<;>rfl) (Calls.evalArgs_plain ?_)
 exact thn hA fun us s2 ⟨vs,H2,I2,r2,q2⟩=>hm pins s2 σ H2 x vs v us Q I2 r1 r2 q2
end
end L2
namespace L2
open PySem PySem.Spec PyProof.Rows
def MtM (X:Cx) (id:String) (r:V→List V→Hp→VK→Prop):Prop :=
 ∀ (pins:Pnn) (s:Shared) (σ:St) (H:Hp) (x:V) (xs:List V) (v:Value) (us:List Value) (Q:VK),Inv X pins σ H s→RelV x v→Vals xs us→r x xs H Q →
  wpAny (model X.prog X.w) X.A (call (.builtin id) (v::us)) (EP X pins σ Q) X.xe s
theorem Vals.one:∀ {x:V}{us:List Value},Vals [x] us→∃ u,us=[u]∧RelV x u
 | _,_,.cons r .nil=>⟨_,rfl,r⟩
theorem Vals.zero:∀ {us:List Value},Vals [] us→us=[]
 | _,.nil=>rfl
theorem Vals.dropLast {xs:List V}{us:List Value}(h:Vals xs us):Vals xs.dropLast us.dropLast:=by
 induction h with
 | nil=>exact .nil
 | cons r t ih =>
  cases t with
  | nil=>exact .nil
  | cons q t'=>exact .cons r ih
theorem Vals.rep {xs:List V}{us:List Value}(h:Vals xs us):∀ k:Nat,Vals (List.replicate k xs).flatten (List.replicate k us).flatten
 | 0=>.nil
 | k+1=>by
  rw [List.replicate_succ,List.replicate_succ,List.flatten_cons,List.flatten_cons]
  exact Vals.append h (Vals.rep h k)
theorem zjo_ {α:Type}(l:List α):l.eraseIdx (l.length-1)=l.dropLast:=by
 induction l with
 | nil=>rfl
 | cons a r ih =>
  cases r with
  | nil=>rfl
  | cons b r =>
   have e:(a::b::r).length-1=((b::r).length-1)+1:=by
    have h1:(a::b::r).length=r.length+2:=rfl
    have h2:(b::r).length=r.length+1:=rfl
    lia
   rw [e,List.eraseIdx_cons_succ,ih]
   all_goals rfl
theorem zhN_ (its:List Value):∀ (k:Nat) (acc:List Value),
  List.foldl (fun x1 x2=>x1++x2) acc.toArray (List.replicate k its.toArray)=(acc++(List.replicate k its).flatten).toArray
 | 0,acc=>by simp
 | k+1,acc=>by
  have e:acc.toArray++its.toArray=(acc++its).toArray:=by simp
  have e2:(acc++its)++(List.replicate k its).flatten=acc++(List.replicate (k+1) its).flatten:=by
   rw [List.replicate_succ,List.flatten_cons,List.append_assoc]
  rw [← e2,← zhN_ its k (acc++its),← e,List.replicate_succ,List.foldl_cons]
section
variable {X:Cx}{pins:Pnn}{σ:St}{H:Hp}{s:Shared}{l b:Addr}{xs ys zs:List V}
theorem Inv.lset {its its':List Value}{n:Nat}{f:Array Value→Array Value}{t':Nat}(I:Inv X pins σ H s) (hH:H l=some (.lst xs))
  (e:s.heap.get? l=some { cls:=.type "list",data:=.seq its.toArray n }) (hf:f its.toArray=its'.toArray) (hv:Vals ys its') (hz:ys.length≤sizeLine) :
  Inv X pins σ (upd H l (.lst ys)) { s with heap:=s.heap.update l (Obj.mapSeq f),toks:=t' }:=by
 have q:=PySem.IsL.update e f
 rw [hf] at q
 refine I.write (x:=l) (e:=l) (by rw [hH]; exact trivial) (.inl rfl) (fun b' u hb hu=>(Heap.get?_update_other s.heap (Obj.mapSeq f) (Ne.symm hb)).trans hu) ⟨_,q⟩ ?_
 exact ⟨hz,its',_,hv,q⟩
theorem Inv.lnew {its:List Value}{t':Nat}(I:Inv X pins σ H s) (hv:Vals ys its) (hz:ys.length≤sizeLine) :
  Inv X pins σ (upd H s.heap.objs.size (.lst ys)) { s with heap:=s.heap.push { cls:=.type "list",data:=.seq its.toArray },toks:=t' } :=
 I.laid (fun _ _ q=>Heap.get?_push_of_some _ q) (Nat.le_refl _) ⟨hz,its,0,hv,Heap.get?_push_size _ rfl⟩
theorem Inv.fresh (I:Inv X pins σ H s):H s.heap.objs.size=none:=I.hok.fresh (Nat.le_refl _)
theorem Inv.lstM (I:Inv X pins σ H s) (hH:H l=some (.lst xs)):xs.length≤sizeLine∧∃ (its:List Value) (n:Nat),Vals xs its∧xs.length=its.length∧s.heap.get? l=some { cls:=.type "list",data:=.seq its.toArray n }:=by
 obtain ⟨z,its,n,r,e⟩:=I.hok l _ hH
 exact ⟨z,its,n,r,r.length,e⟩
theorem notLongL {n:Nat}(h:n≤sizeLine):Builtin.List.listTooLong n=false:=by
 unfold Builtin.List.listTooLong
 exact decide_eq_false (by lia)
end
section
variable {X:Cx}
def rAppend:V→List V→Hp→VK→Prop:=fun x vs H Q=>∃ l xs y,x=.ref l∧vs=[y]∧H l=some (.lst xs)∧xs.length<sizeLine∧Q .non (upd H l (.lst (xs++[y])))
theorem za6_:MtM X "list.append" rAppend:=by
 intro pins s σ H x vs v us Q I rx rv h
 obtain ⟨l,xs,y,rfl,rfl,hH,hz,q⟩:=h
 cases rx
 obtain ⟨u,rfl,ru⟩:=rv.one
 obtain ⟨z,its,n,r,hl,e⟩:=I.lstM hH
 refine call_meets F.slot_list_append ⟨_,e,rfl⟩ F.entry_list_append (F.args_list_append_2 _ _) (PySem.list_append l its.toArray n u (by rw [List.size_toArray]; lia)) ⟨e,?_⟩
 refine ⟨.non,_,I.lset (its':=its++[u]) hH e (by simp) (r.append (.cons ru .nil)) ?_,rfl,q⟩
 rw [List.length_append,List.length_singleton]
 lia
def rExtend:V→List V→Hp→VK→Prop:=fun x vs H Q=>∃ l b xs zs,x=.ref l∧vs=[.ref b]∧H l=some (.lst xs)∧H b=some (.lst zs)∧xs.length+zs.length≤sizeLine∧Q .non (upd H l (.lst (xs++zs)))
theorem zdi_:MtM X "list.extend" rExtend:=by
 intro pins s σ H x vs v us Q I rx rv h
 obtain ⟨l,b,xs,zs,rfl,rfl,hH,hB,hz,q⟩:=h
 cases rx
 obtain ⟨u,rfl,ru⟩:=rv.one
 cases ru
 obtain ⟨z,its,n,r,hl,e⟩:=I.lstM hH
 obtain ⟨z2,its2,n2,r2,hl2,e2⟩:=I.lstM hB
 have hsz:its.toArray.size+its2.toArray.size≤sizeLine:=by rw [List.size_toArray,List.size_toArray]; lia
 have hlong:¬ (!its.toArray.isEmpty && Builtin.List.listTooLong (its.toArray.size+its2.toArray.size))=true:=by
  rw [notLongL hsz,Bool.and_false]
  exact Bool.false_ne_true
 refine call_meets F.slot_list_extend ⟨_,e,rfl⟩ F.entry_list_extend (F.args_list_extend_2 _ _)
  (AutoSeq1.list_extend_list_list_0 l its.toArray n b its2.toArray n2 hlong (by rw [List.size_toArray]; lia) (by lia)) ⟨e,e2,?_⟩
 refine ⟨.non,_,I.lset (its':=its++its2) hH e (by simp) (r.append r2) ?_,rfl,q⟩
 rw [List.length_append]
 lia
def rPop:V→List V→Hp→VK→Prop:=fun x vs H Q=>∃ l xs y,x=.ref l∧vs=[]∧H l=some (.lst xs)∧xs[xs.length-1]?=some y∧Q y (upd H l (.lst xs.dropLast))
theorem mt_pop:MtM X "list.pop" rPop:=by
 intro pins s σ H x vs v us Q I rx rv h
 obtain ⟨l,xs,y,rfl,rfl,hH,hy,q⟩:=h
 cases rx
 have hus:=rv.zero
 subst hus
 obtain ⟨z,its,n,r,hl,e⟩:=I.lstM hH
 obtain ⟨u,hu,ru⟩:=r.get hy
 have hy':its.toArray[its.toArray.size-1]?=some u:=by
  show its.toArray[its.length-1]?=some u
  rw [← Array.getElem?_toList,← hl]
  exact hu
 refine call_meets F.slot_list_pop ⟨_,e,rfl⟩ F.entry_list_pop (F.args_list_pop_1 _) (MeetsSeq.list_pop_last l its.toArray n u hy' (by rw [List.size_toArray]; lia)) ⟨e,?_⟩
 refine ⟨y,_,I.lset (its':=its.dropLast) hH e ?_ r.dropLast ?_,ru,q⟩
 ·show its.toArray.eraseIdxIfInBounds (its.toArray.size-1)=its.dropLast.toArray
  rw [List.size_toArray,List.eraseIdxIfInBounds_toArray,zjo_]
 ·rw [List.length_dropLast]
  lia
def rClear:V→List V→Hp→VK→Prop:=fun x vs H Q=>∃ l xs,x=.ref l∧vs=[]∧H l=some (.lst xs)∧Q .non (upd H l (.lst []))
theorem zms_:MtM X "list.clear" rClear:=by
 intro pins s σ H x vs v us Q I rx rv h
 obtain ⟨l,xs,rfl,rfl,hH,q⟩:=h
 cases rx
 have hus:=rv.zero
 subst hus
 obtain ⟨z,its,n,r,hl,e⟩:=I.lstM hH
 refine call_meets F.slot_list_clear ⟨_,e,rfl⟩ F.entry_list_clear (F.args_list_clear_1 _) (AutoSeq1.list_clear_list_0 l its.toArray n (by rw [List.size_toArray]; lia)) ⟨e,?_⟩
 exact ⟨.non,_,I.lset (its':=[]) (ys:=[]) hH e rfl .nil (Nat.zero_le _),rfl,q⟩
def rCat:R2:=fun x y H Q=>∃ l b xs zs,x=.ref l∧y=.ref b∧H l=some (.lst xs)∧H b=some (.lst zs)∧xs.length+zs.length≤sizeLine∧∀ p,H p=none→Q (.ref p) (upd H p (.lst (xs++zs)))
theorem zpg_:OpR X (binaryOp .Add) rCat:=by
 intro pins s σ H x y v u Q I rx ry h
 obtain ⟨l,b,xs,zs,rfl,rfl,hH,hB,hz,q⟩:=h
 cases rx
 cases ry
 obtain ⟨z,its,n,r,hl,e⟩:=I.lstM hH
 obtain ⟨z2,its2,n2,r2,hl2,e2⟩:=I.lstM hB
 refine PySem.P.add_list e e2 ?_ (by rw [List.size_toArray,List.size_toArray]; lia)
 have ea:its.toArray++its2.toArray=(its++its2).toArray:=by simp
 rw [ea]
 exact ⟨.ref _,_,I.lnew (t':=s.toks) (r.append r2) (by rw [List.length_append]; lia),rfl,q _ I.fresh⟩
def rRep:R2:=fun x y H Q=>∃ l k xs,x=.ref l∧y=.int k∧H l=some (.lst xs) ∧ -(2 ^ 63)≤k∧k<2 ^ 63∧xs.length*k.toNat≤sizeLine ∧
 ∀ p,H p=none→Q (.ref p) (upd H p (.lst (List.replicate k.toNat xs).flatten))
theorem zlB_ {α:Type}(xs:List α) (k:Nat):(List.replicate k xs).flatten.length=k*xs.length:=by
 induction k with
 | zero=>simp
 | succ k ih=>rw [List.replicate_succ,List.flatten_cons,List.length_append,ih,Nat.succ_mul,Nat.add_comm]
theorem zpC_:OpR X (binaryOp .Mult) rRep:=by
 intro pins s σ H x y v u Q I rx ry h
 obtain ⟨l,k,xs,rfl,rfl,hH,h1,h2,hz,q⟩:=h
 cases rx
 obtain ⟨t,rfl⟩:=ry
 obtain ⟨z,its,n,r,hl,e⟩:=I.lstM hH
 have hlen:its.toArray.size*k.toNat≤sizeLine:=by rw [List.size_toArray,← hl]; exact hz
 have hcap:¬ its.toArray.size*k.toNat > (2 ^ 63-1) / 8:=by
  have:(sizeLine:Nat)≤(2 ^ 63-1) / 8:=by decide
  lia
 have hfit:¬ (!Builtin.List.listFitsIndex k)=true:=by
  rw [fitsIndex_both h1 h2]
  exact Bool.false_ne_true
 have hlong:¬ Builtin.List.listTooLong (its.toArray.size*k.toNat)=true:=by
  rw [notLongL hlen]
  exact Bool.false_ne_true
 have hnew:List.foldl (fun x1 x2=>x1++x2) #[] (List.replicate (if its.toArray.isEmpty=true then 0 else k.toNat) its.toArray)=(List.replicate k.toNat its).flatten.toArray:=by
  have f0:∀ m:Nat,List.foldl (fun x1 x2=>x1++x2) #[] (List.replicate m its.toArray)=(List.replicate m its).flatten.toArray:=fun m=>by
   have:=zhN_ its m []
   rw [List.nil_append] at this
   exact this
  rw [f0]
  cases its with
  | nil=>simp
  | cons a r'=>rw [if_neg (by simp)]
 refine wpAny_binaryOp_repeat_ref (T := "list") (U := "int") (by decide) ⟨_,e,rfl⟩ (fun s'=>typeIs_int s' k t) noFill_list_mul F.fills_int_mul F.slot_int_rmul repeat_list F.slot_int_index.lookup
  (call_meets F.slot_int_rmul (typeIs_int s k t) F.entry_int_rmul (F.args_int_rmul_2 _ _) (int___rmul___int_list k t l its.toArray n)
   ⟨e,rfl,⟨_,e,rfl⟩,call_meets F.slot_list_mul ⟨_,e,rfl⟩ F.entry_list_mul (F.args_list_mul_2 _ _) (AutoListH.list___mul___list_int_3 l its.toArray n k t hfit hcap hlong) ⟨e,?_⟩⟩)
 rw [hnew]
 exact ⟨.ref _,_,I.lnew (t':=s.toks) (r.rep k.toNat) (by rw [zlB_,Nat.mul_comm]; exact hz),rfl,q _ I.fresh⟩
end
section
variable {prog:Program}{w:World}{A:Around}{E:Value→Shared→Prop}{s:Shared}
end
section
variable {X:Cx}
end
end L2
namespace Att
open PySem PySem.W PySem.Calls PyProof.Rows
theorem ze7_ {P:Params}{h:Heap}:∀ (ns:List Int) (vs:List Value),WellAll P h vs (ns.map WData.int)→IntsAre vs ns:=by
 intro ns
 induction ns with
 | nil =>
  intro vs w
  rw [List.map_nil] at w
  cases w
  exact .nil
 | cons n ns ih =>
  intro vs w
  rw [List.map_cons] at w
  cases w with
  | cons a b =>
   cases a
   exact .cons _ _ (ih _ b)
theorem zkV_ {l:OpenLaw}{n:Nat}(hn:l.most=some n) {P:Params}{h:Heap}{args:List WData}{vals:List Value}
  (hpre:l.row.toRowW.claim.pre args=true) (hwl:WellAll P h vals args) :
  ∃ a vs ns,vals=[Value.ref a]∧args=[WData.list (ns.map WData.int)]∧h.get? a=some { cls:=.type "list",data:=.seq vs.toArray }∧IntsAre vs ns∧ns.length≤n:=by
 have hsh:WShape.hasAll [] args [.list .int]=true:=(pre_splitW hpre).1
 have hc:l.pre.holds [] { args:=args }=true:=(pre_splitW hpre).2
 obtain ⟨d,r,rfl,h1,h2⟩:=hasAllW_cons hsh
 obtain rfl:=hasAllW_nil h2
 obtain ⟨xs,rfl,h3⟩:=hasW_list h1
 obtain ⟨ns,rfl⟩:=items_int h3
 have hlen:ns.length≤n:=by
  unfold OpenLaw.pre at hc
  have h4:(WTm.not (.lt (.lit (.int (n:Int))) (.len (.arg 0)))).holds [] { args:=[.list (ns.map .int)] }=true:=by
   have h4:=(holds_andW hc).1
   rw [hn] at h4
   exact h4
  have h5:=condW_of h4 (w_not (w_lt w_lit (w_len_list (w_arg rfl))))
  rw [List.length_map] at h5
  refine Nat.le_of_not_lt fun q=>?_
  have q':(n:Int)<((ns.length:Nat):Int):=by lia
  first
   | (rw [decide_eq_true q'] at h5; exact absurd h5 (by decide))
   | (simp at h5; lia)
 cases hwl with
 | cons w1 w2 =>
  cases w2
  cases w1 with
  | list ho hall=>exact ⟨_,_,ns,rfl,rfl,ho,ze7_ ns _ hall,hlen⟩
theorem zkN_ (l:OpenLaw) (args:List WData):l.row.toRowW.claim.post args (.bool true) args=true :=
 postW_of (r:=l.row.toRowW) (X:=(true == true))
  (show WShape.has [] (.bool true) .bool=true by first | rfl | decide | simp [WShape.has,WShape.arms,WShape.armsAll])
  (show (WTm.eq .res (.lit (.bool true))).value [] { args:=args,res:=some (.bool true),after:=args }=some (.bool (true == true)) from w_eq_bool (w_res rfl) w_lit) rfl
section
variable {prog:Program}{w:World}{A:Around}{E:Value→Shared→Prop}{s:Shared}{K:Frag}
end
end Att
namespace L2
open PySem PySem.Spec PyProof.Rows
theorem zhL_:∀ {vs:List Value}{ns:List Int},IntsAre vs ns→Vals (ns.map V.int) vs
 | _,_,.nil=>.nil
 | _,_,.cons n t h=>.cons ⟨t,rfl⟩ (zhL_ h)
def Only (H:Hp):Prop:=∀ b,H b=none∨∃ o xs,H b=some (.frz o (.lst xs))
theorem zl5_ {P:Program}{w:World}{K:Fgg}{mg mb:Str→Option Value}{CX:CXT}{k:Nat}{fa a:Addr}{fd:FuncData}{x:Str}{sp:Sp}{s₁:Shared}{vs:List Value}{ns:List Int}
  (KX:K.In s₁.heap) (hns:s₁.heap.Ns mainGlobals mg) (hb:s₁.heap.Ns builtinsNs mb) (hbb:∀ x:Str,x ≠ "__name__" → mb x=bootBuiltins x) (hlim:s₁.heap.NoLimit) (hg:s₁.gens=#[])
  (ha:s₁.heap.get? a=some { cls:=.type "list",data:=.seq vs.toArray }) (hi:IntsAre vs ns) (hl:ns.length≤sizeLine) (hr:Room k callerA)
  (F:∀ base:Heap,K.In base→base.Ns mainGlobals mg→FnOk P w K mg base CX k fa fd [x] sp) (hbind:∀ (s:Shared) (u:Value),BindsTo s fd ⟨[u],[]⟩ [(x,u)])
  (hsp:∀ H:Hp,Only H→SqL K H a (ns.map V.int)→sp [.ref a] H (fun v _=>v=.bl true) fun _ _ _=>False)
  (hCX:∀ H e s',CX [] H s₁ (fun _ _ _=>False) e s'→False) :
  codeAny (model P w) callerA (.call (.ref fa) ⟨[.ref a],[]⟩) (fun r s'=>r=.ok (.ret (.bool true))∧OldK s₁.heap s'.heap∧s'.os=s₁.os∧AllBare s'.gens) s₁:=by
 have rv:=zhL_ hi
 have lenV:=hi.length
 have core:∀ H:Hp,Only H→SqL K H a (ns.map V.int)→HOk P w H s₁.heap→(∀ b,H b≠none→b=a)→(H a≠none→K.lookup a=none) →
   codeAny (model P w) callerA (.call (.ref fa) ⟨[.ref a],[]⟩) (fun r s'=>r=.ok (.ret (.bool true))∧OldK s₁.heap s'.heap∧s'.os=s₁.os∧AllBare s'.gens) s₁:=by
  intro H hO hS hok hA hK
  have base_of:∀ {b:Addr}{o:Obj},s₁.heap.get? b=some o→H b=none→(hidT s₁.heap H).get? b=some o:=fun e n=>zm5_ e n
  have noA:∀ {b:Addr}{o:Obj}{es:Array DictEntry}{ep:Nat},s₁.heap.get? b=some o→o.data=.dict es ep→H b=none:=fun {b o es ep} e d=>by
   cases q:H b with
   | none=>rfl
   | some u =>
    have e':b=a:=hA b (by rw [q]; simp)
    subst e'
    rw [ha] at e; cases e
    have d':Data.seq vs.toArray _=Data.dict es ep:=d
    cases d'
  have nsK:∀ {b:Addr}{m:Str→Option Value},s₁.heap.Ns b m→(hidT s₁.heap H).Ns b m:=fun {b m} ⟨o,es,ep,e,d,r⟩=>⟨o,es,ep,base_of e (noA e d),d,r⟩
  have hKb:K.In (hidT s₁.heap H):=fun b o e=>base_of (KX b o e) (by
   cases q:H b with
   | none=>rfl
   | some u =>
    have e':b=a:=hA b (by rw [q]; simp)
    subst e'
    rw [hK (by rw [q]; simp)] at e; cases e)
  have hM:Mod K mg (hidT s₁.heap H):=⟨hKb,nsK hns,⟨mb,nsK hb,hbb⟩,let ⟨mc,h1,h2⟩:=hlim; ⟨mc,nsK h1,h2⟩⟩
  have e0:Env0 P w K mg (hidT s₁.heap H) callerA [] s₁ H:=⟨rfl,hM,fun b o e=>zoL_ e,Nat.le_of_eq (zk5_ _ _),trivial,fun b hb=>absurd (show b∈([]:List Addr) from hb) (by simp),hok,.of_eq hg⟩
  refine codeAny_mono ((F _ hKb (nsK hns)).run callerA [] s₁ H ⟨[.ref a],[]⟩ [.ref a] [.ref a] _ _ hr e0 (hbind s₁ (.ref a)) (.cons rfl .nil) (hsp H hO hS)) fun r s' h=>?_
  cases r with
  | error e=>exact (hCX H e s' h).elim
  | ok fl =>
   cases fl with
   | next=>exact False.elim h
   | brk=>exact False.elim h
   | cont=>exact False.elim h
   | ret u =>
    obtain ⟨v,H',os,bare,un,hok',r',q⟩:=h
    have q':v=.bl true:=q
    subst q'
    obtain rfl:u=Value.bool true:=r'
    refine ⟨rfl,OldK.of_keep fun b o e=>?_,os,bare⟩
    cases q:H b with
    | none=>exact un.keep b o e q (by intro z; exact absurd (show b∈([]:List Addr) from z) (by simp)) (by simp)
    | some u =>
     rcases hO b with z | ⟨ob,xs,z⟩
     ·rw [q] at z; cases z
     ·have z2:=un.frzs b ob _ z
      obtain ⟨e1,_⟩:=hok b _ z
      obtain ⟨e2,_⟩:=hok' b _ z2
      rw [e] at e1; cases e1
      exact e2
 cases hk:K.lookup a with
 | some o =>
  have e:=KX a o hk
  rw [ha] at e
  cases e
  refine core (fun _=>none) (fun _=>.inl rfl) (.inr ⟨_,vs.toArray,_,hk,rfl,rfl,rfl,by rw [List.size_toArray,lenV]; exact hl,by simpa using rv⟩) (fun b u z=>by have z':(none:Option HO)=some u:=z; cases z') (fun b z=>absurd rfl z) fun z=>absurd rfl z
 | none =>
  refine core (fun b=>if b=a then some (.frz { cls:=.type "list",data:=.seq vs.toArray } (.lst (ns.map V.int))) else none) (fun b=>?_) (.inl (.inr ⟨{ cls:=.type "list",data:=.seq vs.toArray },if_pos rfl⟩)) (fun b u z=>?_) (fun b z=>?_) fun _=>hk
  ·by_cases hb:b=a
   ·exact .inr ⟨_,_,if_pos hb⟩
   ·exact .inl (if_neg hb)
  ·by_cases hb:b=a
   ·have z':=(if_pos hb).symm.trans z
    cases z'
    subst hb
    exact ⟨ha,by rw [List.length_map]; exact hl,vs,_,rv,ha⟩
   ·have z':=(if_neg hb).symm.trans z
    cases z'
  ·by_cases hb:b=a
   ·exact hb
   ·exact absurd (if_neg hb) z
end L2
namespace L2
open PySem PySem.Spec PyProof.Rows
end L2
namespace L2
open PySem PySem.Spec PyProof.Rows
def inClass (s:Stmt) (j:Nat):Stmt:=match s with
 | .ClassDef _ _ _ body _ _ _ _ _ _ _=>body.getD j (.Pass ⟨0,0,0,0⟩)
 | _=>.Pass ⟨0,0,0,0⟩
def defArgs (s:Stmt):Arguments:=match s with
 | .FunctionDef _ a _ _ _ _ _ _ _ _=>a
 | _=>{ posonlyargs:=[],args:=[],vararg:=none,kwonlyargs:=[],kw_defaults:=[],kwarg:=none,defaults:=[] }
def defBody (s:Stmt):List Stmt:=match s with
 | .FunctionDef _ _ b _ _ _ _ _ _ _=>b
 | _=>[]
def defScope (s:Stmt):Scope:=match s with
 | .FunctionDef _ _ _ _ _ _ sc _ _ _=>sc
 | _=>{ kind:=.function,names:=[],isGenerator:=false,isCoroutine:=false }
abbrev CX0:CXT:=fun _ _ _ _ _ _=>False
abbrev E0:XK:=fun _ _ _=>False
theorem pass0 {X:Cx}:Passes CX0 X E0:=fun _ _ _ _ _ _ _ h=>h.elim
structure Fun (K:Fgg) (x qual:Str) (st:Stmt) (f:Addr) (fd:FuncData):Prop where
 ex:∃ (oc:Value) (od:Option Addr) (kV doc pm:Value) (an:Option Addr) (cdv ct:Value) (osl:Array (Option Value)),
  fd=PySem.W.fnOf x qual (defArgs st) (defBody st) (defScope st) .none kV doc pm an cdv ct∧K.lookup f=some ⟨oc,od,.func fd,osl⟩∧PySem.W.codeIn K cdv qual=true
 kp:PySem.W.keepIn K (.ref f)=true
section
variable {P:Program}{w:World}{K:Fgg}{mg:Str→Option Value}{base:Heap}
theorem Fun.ok {x qual:Str}{st:Stmt}{f:Addr}{fd:FuncData}{N ps:List Str}{k:Nat}{sp:Sp}(F:Fun K x qual st f fd) (S:FnScope N ps (defScope st)) (len:∀ vs H Q E,sp vs H Q E→vs.length=ps.length)
  (hbody:∀ (cdv:Value) (A:Around) (outer:List Env) (s:Shared) (H:Hp) (vs:List V) (Q:VK) (E:XK),Room k (A.deeper (envOfC qual (defScope st) s.heap.objs.size f cdv))→sp vs H Q E →
   ∃ t,PSs (cxOf CX0 P w K mg base N qual (defScope st) f cdv A outer s H E).nox (defBody st) t∧t { nx:=fun _ H'=>Q .non H',rt:=Q } (start N vs) H):FnOk P w K mg base CX0 (k+1) f fd ps sp:=by
 obtain ⟨oc,od,kV,doc,pm,an,cdv,ct,osl,rfl,lk,hcd⟩:=F.ex
 refine fn_of lk hcd S len fun A outer s H vs Q E hr hsp=>?_
 obtain ⟨t,h,q⟩:=hbody cdv A outer s H vs Q E hr hsp
 exact ⟨t,h.nox,q⟩
theorem Fun.binds {x qual:Str}{st:Stmt}{f:Addr}{fd:FuncData}{ps:List Str}(F:Fun K x qual st f fd)
  (h:∀ (kV doc pm:Value) (an:Option Addr) (cdv ct:Value) (us:List Value),us.length=ps.length→bindArgs (PySem.W.fnOf x qual (defArgs st) (defBody st) (defScope st) .none kV doc pm an cdv ct) ⟨us,[]⟩=pure (ps.zip us)):Binds K fd ps []:=by
 obtain ⟨oc,od,kV,doc,pm,an,cdv,ct,osl,rfl,lk,hcd⟩:=F.ex
 exact .all (h kV doc pm an cdv ct)
theorem zn9_ {x qual:Str}{st:Stmt}{f:Addr}{oc:Value}{od an:Option Addr}{osl:Array (Option Value)}{kV doc pm cdv ct:Value}(l:K.lookup f=some ⟨oc,od,.func (PySem.W.fnOf x qual (defArgs st) (defBody st) (defScope st) .none kV doc pm an cdv ct),osl⟩)
  (c:PySem.W.codeIn K cdv qual=true) (k:PySem.W.keepIn K (.ref f)=true):Fun K x qual st f (PySem.W.fnOf x qual (defArgs st) (defBody st) (defScope st) .none kV doc pm an cdv ct):=⟨⟨oc,od,kV,doc,pm,an,cdv,ct,osl,rfl,l,c⟩,k⟩
end
section
variable {X:Cx}
end
def Same (H H':Hp):Prop:=∀ b o,H b=some o→H' b=some o
theorem Same.refl (H:Hp):Same H H:=fun _ _ h=>h
theorem Same.trans {H H1 H2:Hp}(a:Same H H1) (b:Same H1 H2):Same H H2:=fun c o h=>b c o (a c o h)
theorem Same.free {H H':Hp}(e:Same H H') {l:Addr}(h:H' l=Option.none):H l=Option.none:=by
 cases q:H l with
 | none=>rfl
 | some o =>
  rw [e l o q] at h
  cases h
theorem Same.seq {K:Fgg}{H H':Hp}{a:Addr}{xs:List V}(e:Same H H') (h:SqL K H a xs):SqL K H' a xs:=by
 rcases h with (h | ⟨o,h⟩) | h
 ·exact .inl (.inl (e _ _ h))
 ·exact .inl (.inr ⟨o,e _ _ h⟩)
 ·exact .inr h
end L2
namespace L2
open PySem PySem.Spec PyProof.Rows
def Itp (n:Nat) (f:Nat→V):It:=⟨fun i _=>i<n,fun i H x H'=>H'=H∧x=f i,fun i _=>n≤i⟩
def ownTups:List String:=["enumerate", "zip", "dict_itemiterator", "dict_reverseitemiterator", "odict_iterator", "itertools.zip_longest", "itertools.pairwise"]
theorem zh6_ {P:Program}{w:World}{K:Fgg}{tg:Expr}{it:Addr}{n:Nat}{f:Nat→V}{Pw:Nat→Value→Prop}{St:Nat→Heap→Prop}
  (W:∀ A:Around,A.handled=none→Walks P w A it [it] [it] n Pw St) (hv:∀ i v,i<n→Pw i v→RelV (f i) v)
  (ho:∀ i h,St i h→∃ o nm vs,h.get? it=some o∧o.cls=.type nm∧o.data=.fields vs∧ownTups.contains nm=false)
  (hself:∀ (A:Around) (i:Nat) (s:Shared) (Q:Value→Shared→Prop) (E:Value→Shared→Prop),St i s.heap→Q (.ref it) s→wpAny (model P w) A (pyIter (.ref it)) Q E s)
  (hkeep:∀ i h h',St i h→(∀ b∈[it],∀ o,h.get? b=some o→h'.get? b=some o)→St i h') :
  Turn P w K tg (Itp n f) [it] it (fun i h=>i≤n∧St i h) where
 mem:=by simp
 obj:=fun i h st b hb=>by
  have e:b=it:=by simpa using hb
  subst e
  obtain ⟨o,nm,vs,e,c,d,_⟩:=ho i h st.2
  exact ⟨o,e,fun v z=>by rw [d] at z; cases z⟩
 keep:=fun i h h' st k=>⟨st.1,hkeep i h h' st.2 k⟩
 item:=by
  intro X hP hw hK hc i pins s σ H E I hf st hg
  subst hP hw hK
  obtain ⟨f0,f1,f2,f3,f4,f5⟩:=hf it (by simp)
  have hi:i<n:=hg
  refine (W X.A (I.ok.hd hc)).item i s _ _ hi st.2 fun v h' tk hv' st' kk=>?_
  have I1:Inv X pins σ H { s with heap:=h',toks:=tk }:=I.turned (fun b o hb e=>kk b o (by simpa using hb) e) f0 f1 f3 f4 f5
  obtain ⟨o,nm,vs,e,c,d,hn⟩:=ho _ _ st'
  exact ⟨_,rfl,zo6_ (s:={ s with heap:=h',toks:=tk }) (n:=nm) e c d hn ⟨f i,H,I1,hv i v hi hv',⟨rfl,rfl⟩,⟨hi,st'⟩,fun b hb=>(hf b hb).1⟩⟩
 done:=by
  intro X hP hw hK hc i pins s σ H E I hf st hg
  subst hP hw hK
  obtain ⟨f0,f1,f2,f3,f4,f5⟩:=hf it (by simp)
  have hi:n≤i:=hg
  have e:i=n:=Nat.le_antisymm st.1 hi
  subst e
  exact (W X.A (I.ok.hd hc)).done s _ _ st.2 fun h' tk kk=>⟨rfl,I.turned (fun b o hb e=>kk b o (by simpa using hb) e) f0 f1 f3 f4 f5⟩
 self:=fun A i s Q E st h=>hself A i s Q E st.2 h
def sgn (x:Str) (i:Nat):V:=.str ⟨#[x.cps.getD i 0]⟩
theorem zkr_ {P:Program}{w:World}{it:Addr}{x:Str}{t:Tok}(A:Around) (hA:A.handled=none):Walks P w A it [it] [it] x.cps.size (SignAt x) (fun i h=>h.IsStrIter it (strIterType x) x t i):=by
 cases ha:x.cps.all (·<128)
 ·have e:strIterType x = "str_iterator" := by simp [strIterType,ha]
  rw [e]; exact Walks.strWide hA it x t
 ·have e:strIterType x = "str_ascii_iterator" := by simp [strIterType,ha]
  rw [e]; exact Walks.strAscii hA it x t
theorem zj3_ {x:Str}{i:Nat}{v:Value}(h:SignAt x i v):RelV (sgn x i) v:=by
 obtain ⟨c,u,e,rfl⟩:=h
 refine ⟨u,?_⟩
 have:x.cps.getD i 0=c:=by simp [Array.getD_eq_getD_getElem?,e]
 rw [this]
theorem zfu_ (x:Str):ownTups.contains (strIterType x)=false:=by
 unfold strIterType; split<;>decide
theorem zl8_ {P:Program}{w:World}{K:Fgg}{tg:Expr}(it:Addr) (x:Str) (t:Tok):Turn P w K tg (Itp x.cps.size (sgn x)) [it] it (fun i h=>i≤x.cps.size∧h.IsStrIter it (strIterType x) x t i):=by
 refine zh6_ (Pw:=SignAt x) (fun A hA=>zkr_ A hA) (fun i v _ h=>zj3_ h) (fun i h st=>?_) (fun A i s Q E st h=>?_) (fun i h h' st k=>?_)
 ·obtain ⟨o,e,c,d⟩:=st
  exact ⟨o,_,_,e,c,d,zfu_ x⟩
 ·cases ha:x.cps.all (·<128)
  ·have e:strIterType x = "str_iterator" := by simp [strIterType,ha]
   rw [e] at st; exact wpAny_pyIter_striter_wide st h
  ·have e:strIterType x = "str_ascii_iterator" := by simp [strIterType,ha]
   rw [e] at st; exact wpAny_pyIter_striter_ascii st h
 ·obtain ⟨o,e,r⟩:=st
  exact ⟨o,k it (by simp) o e,r⟩
section
variable {X:Cx}{tg:Expr}
end
end L2
namespace L2
open PySem PySem.Spec PyProof.Rows
theorem Inv.turnedL {X:Cx}{pins:Pnn}{σ:St}{H:Hp}{s:Shared}{h':Heap}{t':Nat}{ch:List Addr}(I:Inv X pins σ H s) (k:∀ b o,b∉ch→s.heap.get? b=some o→h'.get? b=some o)
  (hf:∀ b∈ch,FpOk X pins H b):Inv X pins σ H { s with heap:=h',toks:=t' }:=by
 have nit:∀ b u,H b=some u→b∉ch:=fun b u e z=>by rw [(hf b z).1] at e; cases e
 refine I.step (g':=s.gens) (d':=s.drawn) (ch:=ch) (fun b hb=>?_) (fun b o _ _ hc e _=>k b o hc e) (fun b o _ _ hc e _=>⟨o.slots,k b o hc e⟩) (fun _ _ _ _ n=>n)
  (fun b o hc e=>⟨o,k b o hc e⟩) (fun _ _ e=>e) (fun _ _ _ e=>e) (fun b ps e=>⟨#[],by rw [e]; simp⟩) (fun m hm=>?_) (fun b u e=>?_) I.bare
 ·obtain ⟨f0,f1,f2,f3,f4,f5⟩:=hf b hb
  exact ⟨f3,f1,f4,f5⟩
 ·obtain ⟨o,es,ep,ho,r⟩:=hm
  exact ⟨o,es,ep,k _ o (fun z=>(hf _ z).2.1 rfl) ho,r⟩
 ·refine (I.hok b u e).stay (fun c v hc q=>k c v ?_ q) (fun _ q=>q) fun _ _ q=>q
  rcases hc with z | z
  ·rw [z]; exact nit b u e
  ·exact nit c _ z
theorem zkP_ {X:Cx}{pins:Pnn}{σ:St}{H:Hp}{s:Shared}{h1:Heap}{tk:Nat}{tk':Tok}{e it:Addr}{i:Nat}{x:Value}{y:V}{St:Heap→Prop}{elts:List Expr}{kk:Nat}{pos:Pos}{E:Value→Shared→Prop}
  (I:Inv X pins σ H s) (hf:∀ b∈[e,it],FpOk X pins H b) (he:e<s.heap.objs.size) (hit:it<s.heap.objs.size) (hei:e≠it) (heo:IsEnumOut h1 e it ((i:Int)+1) x s.heap.objs.size) (ry:RelV y x)
  (ht:h1.get? s.heap.objs.size=some { cls:=.type "tuple",data:=.seq #[.int i tk',x] }) (hz:h1.objs.size=s.heap.objs.size+1) (hk:∀ b o,b≠e→b≠it→s.heap.get? b=some o→h1.get? b=some o)
  (hSt:∀ h2,Heap.SameBut e h1 h2→St h2) :
  wpAny (model X.prog X.w) X.A (letOwnedTupleGo (.Tuple elts kk pos) (.ref e) (.ref s.heap.objs.size)) (fun _ s2=>∃ z H',Inv X pins σ H' s2∧RelV z (.ref s.heap.objs.size) ∧
   (∃ p,H p=none∧z=.ref p∧H'=upd H p (.tup [.int i,y]))∧(IsEnum s2.heap e it ((i+1:Nat):Int) x∧St s2.heap)∧∀ b∈[e,it],H' b=none) E { s with heap:=h1,toks:=tk }:=by
 refine wpAny_letOwnedTupleGo_enum heo fun h2 he2 hs2=>?_
 replace hs2:Heap.SameBut e h1 h2:=hs2
 have hp:H s.heap.objs.size=none:=I.hok.fresh (Nat.le_refl _)
 have hne:s.heap.objs.size≠e:=Nat.ne_of_gt he
 have hni:s.heap.objs.size≠it:=Nat.ne_of_gt hit
 have I1:Inv X pins σ (upd H s.heap.objs.size (.tup [.int i,y])) { s with heap:=s.heap.push { cls:=.type "tuple",data:=.seq #[.int i tk',x] },toks:=tk }:=by
  refine I.laid (fun b u q=>Heap.get?_push_of_some _ q) (Nat.le_refl _) ⟨?_,[.int i tk',x],.cons ⟨_,rfl⟩ (.cons ry .nil),⟨_,Heap.get?_push_size _ rfl,rfl,_,rfl⟩⟩
  show 2≤sizeLine
  decide
 have hf1:∀ b∈[e,it],FpOk X pins (upd H s.heap.objs.size (.tup [.int i,y])) b:=fun b hb=>by
  obtain ⟨f0,r⟩:=hf b hb
  refine ⟨?_,r⟩
  rw [z7_ (by rcases List.mem_cons.mp hb with rfl | hb; exact hne.symm; rcases List.mem_cons.mp hb with rfl | hb; exact hni.symm; cases hb)]
  exact f0
 have I2:Inv X pins σ (upd H s.heap.objs.size (.tup [.int i,y])) { s with heap:=h2,toks:=tk }:=by
  refine Inv.turnedL (s:={ s with heap:=s.heap.push { cls:=.type "tuple",data:=.seq #[.int i tk',x] },toks:=tk }) (ch:=[e,it]) I1 (fun b o hb q=>?_) hf1
  have nbe:b≠e:=fun z=>hb (by simp [z])
  have nbi:b≠it:=fun z=>hb (by simp [z])
  refine (hs2.2 b nbe).trans ?_
  rcases Heap.get?_push_cases q with ⟨rfl,rfl⟩ | q'
  ·exact ht
  ·exact hk b o nbe nbi q'
 refine ⟨.ref s.heap.objs.size,_,I2,rfl,⟨s.heap.objs.size,hp,rfl,rfl⟩,⟨?_,hSt h2 hs2⟩,fun b hb=>(hf1 b hb).1⟩
 have:((i+1:Nat):Int)=(i:Int)+1:=by push_cast; rfl
 rw [this]; exact he2
def Ite (K:Fgg) (l:Addr):It :=
 ⟨fun i H=>∃ xs x,SqL K H l xs∧xs[i]?=some x,fun i H y H'=>∃ p x,(∀ xs,SqL K H l xs→xs[i]?=some x)∧H p=none∧y=.ref p∧H'=upd H p (.tup [.int i,x]),fun i H=>∃ xs,SqL K H l xs∧xs.length≤i⟩
theorem zjh_ {P:Program}{w:World}{K:Fgg}{elts:List Expr}{kk:Nat}{pos:Pos}(e it l:Addr) (hei:e≠it) :
  Turn P w K (.Tuple elts kk pos) (Ite K l) [e,it] e (fun i h=>(∃ old,IsEnum h e it (i:Nat) old)∧h.IsListIter it l i) where
 mem:=by simp
 obj:=fun i h st b hb=>by
  obtain ⟨⟨old,he⟩,o,ho,c,d⟩:=st
  rcases List.mem_cons.mp hb with rfl | hb
  ·exact ⟨_,he,fun v z=>by cases z⟩
  ·have e:b=it:=by simpa using hb
   subst e
   exact ⟨o,ho,fun v z=>by rw [d] at z; cases z⟩
 keep:=fun i h h' st k=>by
  obtain ⟨⟨old,he⟩,hit⟩:=st
  exact ⟨⟨old,k e (by simp) _ he⟩,hit.at fun o q=>k it (by simp) o q⟩
 item:=by
  intro X hP hw hK hc i pins s σ H E I hf st hg
  subst hP hw hK
  obtain ⟨xs,x,hq,hx⟩:=hg
  obtain ⟨its,rv,p,hz⟩:=I.list hq
  obtain ⟨u,hu,ru⟩:=rv.get hx
  obtain ⟨⟨old,he⟩,hit⟩:=st
  refine wpAny_pyNext_enum_item he hit p.isList (x:=u) (by simpa using hu) hei fun h1 heo hit1 ht1 hz1 hk1=>?_
  refine ⟨_,rfl,?_⟩
  have hel:e<s.heap.objs.size:=Heap.lt_size he
  have hil:it<s.heap.objs.size:=by obtain ⟨o,ho,_⟩:=id hit; exact Heap.lt_size ho
  refine thn (zkP_ (St:=fun h2=>h2.IsListIter it l (i+1)) I hf hel hil hei heo ru ht1 hz1 hk1 fun h2 hs=>hit1.extBut hs.extBut hei.symm) fun _ s2 q=>?_
  obtain ⟨z,H',I2,rz,⟨p,hp,rfl,rfl⟩,⟨he2,hit2⟩,fr⟩:=q
  exact ⟨.ref p,_,I2,rz,⟨p,x,fun ys hy=>by rw [I.list_inj hy hq]; exact hx,hp,rfl,rfl⟩,⟨⟨u,he2⟩,hit2⟩,fr⟩
 done:=by
  intro X hP hw hK hc i pins s σ H E I hf st hg
  subst hP hw hK
  obtain ⟨xs,hq,hx⟩:=hg
  obtain ⟨its,rv,p,hz⟩:=I.list hq
  obtain ⟨⟨old,he⟩,hit⟩:=st
  have hl:=rv.length
  obtain ⟨f0,f1,f2,f3,f4,f5⟩:=hf it (by simp)
  exact wpAny_pyNext_enum_end (I.ok.hd hc) he hit p.isList (by simp; lia) fun h' eb=>⟨rfl,I.turned (t':=s.toks) (fun b o hb e=>eb b o hb e) f0 f1 f3 f4 f5⟩
 self:=fun _ _ _ _ _ st h=>by
  obtain ⟨⟨old,he⟩,_⟩:=st
  exact wpAny_pyIter_enum he h
section
variable {X:Cx}{elts:List Expr}{kk:Nat}{tpos:Pos}
def iEnumL (K:Fgg) (ta:TA):TI:=fun σ H R=>ta σ H fun vs H1=>∃ a,vs=[.ref a]∧(∃ xs,SqL K H1 a xs)∧R (Ite K a) H1
theorem zfN_ {a:Expr}{ta:TA}{p pos:Pos}(hg:Gl X "enumerate") (hm:X.mg "enumerate" = none) (ha:PA X [a] ta) (hs:starEach [a] X.env=[(false,eval a X.env)]:=by rfl) :
  PI X (.Tuple elts kk tpos) (.Call (.Name "enumerate" p) [a] [] pos) (iEnumL X.K ta):=by
 intro pins s σ H R I h
 refine Call_ (zhh_ I hg hm (u:=.type "enumerate") (by rfl) (PyProof.Rows.callWith_type1 (thn (ha pos pins s σ H _ I h) fun us s1 hq_=>?_) hs rfl))
 obtain ⟨vs,H1,I1,r1,q1⟩:=hq_
 obtain ⟨l,e,⟨xs,hq⟩,q⟩:=q1
 subst e
 cases r1 with
 | cons r rr =>
  cases rr
  cases r
  obtain ⟨its,rv,p,hz⟩:=I1.list hq
  refine call_enumerate_list p.isList fun h' he hit hsz hk=>?_
  refine wpAny_pyIter_enum (s:={ s1 with heap:=h' }) he ?_
  have I2:Inv X pins σ H1 { s1 with heap:=h' }:=I1.kept (t':=s1.toks) hk
  refine ⟨s1.heap.objs.size+1,[s1.heap.objs.size+1,s1.heap.objs.size],_,_,H1,rfl,I2,zjh_ _ _ l (by simp),⟨⟨_,he⟩,hit⟩,fun b hb=>?_,q⟩
  have hb':s1.heap.objs.size≤b:=by
   rcases List.mem_cons.mp hb with rfl | hb
   ·exact Nat.le_succ _
   ·have e:b=s1.heap.objs.size:=by simpa using hb
    subst e; exact Nat.le_refl _
  exact I1.fpOk hb' (I1.hok.fresh hb')
end
end L2
namespace L2
open PySem PySem.Spec PyProof.Rows
section
variable {prog:Program}{w:World}{A:Around}{R:Result→Shared→Prop}{s:Shared}
theorem zic_ {elt target iter:Expr}{ifs:List Expr}{scope:Scope}{pos:Pos}{it acc:Value}{env:Env}(I:Nat→Shared→Prop)
  (turn:∀ n s,I n s→wpAny (model prog w) A (pyNext it) (fun r s₁=>match r with
   | none=>R (.ok .next) s₁
   | some v=>wpAny (model prog w) A (letOwnedTupleGo target it v) (fun _ s₂=>wpAny (model prog w) A (assign target env v) (fun _ s₃ =>
     wpAny (model prog w) A (forIn ifs true fun c r=>if r=true then do let ok ← isTrue c env (eval c env); pure (ForInStep.yield ok) else pure (ForInStep.yield r)) (fun ok s₄ =>
      if ok=true then wpAny (model prog w) A (eval elt env) (fun x s₅ =>
       wpAny (model prog w) A (call (.builtin "list.append") [acc,x]) (fun _ s₆=>∃ m,m<n∧I m s₆) (fun _ _=>False) s₅) (fun _ _=>False) s₄
      else ∃ m,m<n∧I m s₄) (fun _ _=>False) s₃) (fun _ _=>False) s₂) (fun _ _=>False) s₁) (fun _ _=>False) s)
  (n:Nat) (h:I n s) :
  codeAny (model prog w) A (.compLoop (.ListComp elt [⟨target,iter,ifs,0⟩] scope pos) 0 it acc env) R s:=by
 refine codeAny_loop rfl I (fun n s hI=>?_) n h
 show wpAny _ A ((compTurn (.ListComp elt [⟨target,iter,ifs,0⟩] scope pos) 0 it acc env).onRaise (fun x=>do noteFrame x env; theTreesLotGoes x)) _ _ s
 refine wpAny_noted ?_
 rw [compTurn_list]
 refine wpAny_bind (wpAny_standAt (wpAny_bind (wpAny_mono (turn n s hI) (fun r s₁ h₁=>?_) fun _ _ h'=>h'.elim)))
 cases r with
 | none=>exact wpAny_pure h₁
 | some v =>
  refine wpAny_bind (wpAny_mono h₁ (fun _ s₂ h₂=>?_) fun _ _ h'=>h'.elim)
  refine wpAny_bind (wpAny_mono h₂ (fun _ s₃ h₃=>wpAny_bind (wpAny_mono h₃ (fun ok s₄ h₄=>?_) fun _ _ h'=>h'.elim)) fun _ _ h'=>h'.elim)
  cases ok with
  | false=>exact wpAny_pure ⟨rfl,h₄⟩
  | true =>
   exact wpAny_bind (wpAny_bind (wpAny_mono h₄ (fun x s₅ h₅=>wpAny_bind (wpAny_mono h₅ (fun _ s₆ h₆=>wpAny_pure (wpAny_pure ⟨rfl,h₆⟩)) fun _ _ h'=>h'.elim)) fun _ _ h'=>h'.elim))
end
def closeL (cells:List (Str×Addr)):List (Str×NameKind)→List (Str×Addr)→Option (List (Str×Addr))
 | [],acc=>some acc
 | (n,k)::r,acc=>if (k == .free)=true then (match cells.lookup n with | some c=>closeL cells r ((n,c)::acc) | none=>none) else closeL cells r acc
theorem zeR_ {env:Env}{f:Str×NameKind→List (Str×Addr)→Sem (ForInStep (List (Str×Addr)))}
  (hf:∀ n k cs,f (n,k) cs=if (k == NameKind.free)=true then (do let c ← cellOf env n; pure (ForInStep.yield ((n,c)::cs))) else pure (ForInStep.yield cs)) :
  ∀ (names:List (Str×NameKind)) (acc cl:List (Str×Addr)),closeL env.cells names acc=some cl→(forIn names acc f:Sem (List (Str×Addr)))=pure cl
 | [],acc,cl,h=>by cases h; rfl
 | (n,k)::r,acc,cl,h=>by
  rw [List.forIn_cons,hf]
  unfold closeL at h
  by_cases hk:(k == NameKind.free)=true
  ·rw [if_pos hk] at h
   rw [if_pos hk]
   cases hc:env.cells.lookup n with
   | none=>rw [hc] at h; cases h
   | some c =>
    rw [hc] at h
    have e:cellOf env n=pure c:=by unfold cellOf; rw [hc]
    rw [e]
    simp only [pure_bind]
    exact zeR_ hf r _ cl h
  ·rw [if_neg hk] at h
   rw [if_neg hk]
   simp only [pure_bind]
   exact zeR_ hf r _ cl h
theorem zhV_ {env:Env}{scope:Scope}{cl:List (Str×Addr)}(h:closeL env.cells scope.names []=some cl):closureFor scope env=pure cl:=by
 unfold closureFor
 dsimp only
 rw [zeR_ (env:=env) (fun n k cs=>rfl) scope.names [] cl h]
 rfl
theorem zdq_ {cells:List (Str×Addr)}:∀ (names:List (Str×NameKind)) (acc cl:List (Str×Addr)),closeL cells names acc=some cl→(∀ x c,acc.lookup x=some c→cells.lookup x=some c) →
  (∀ x c,cl.lookup x=some c→cells.lookup x=some c)
 | [],acc,cl,h,ha=>by cases h; exact ha
 | (n,k)::r,acc,cl,h,ha=>by
  unfold closeL at h
  by_cases hk:(k == NameKind.free)=true
  ·rw [if_pos hk] at h
   cases hc:cells.lookup n with
   | none=>rw [hc] at h; cases h
   | some c =>
    rw [hc] at h
    refine zdq_ r _ cl h fun x c' e=>?_
    rw [List.lookup_cons] at e
    cases hx:x == n with
    | true=>rw [hx] at e; cases e; rw [eq_of_beq hx]; exact hc
    | false=>rw [hx] at e; exact ha x c' e
  ·rw [if_neg hk] at h
   exact zdq_ r _ cl h ha
theorem ze0_ {cells:List (Str×Addr)}:∀ (names:List (Str×NameKind)) (acc cl:List (Str×Addr)),closeL cells names acc=some cl→∀ x,((x,NameKind.free)∈names∨∃ c,acc.lookup x=some c)→∃ c,cl.lookup x=some c
 | [],acc,cl,h,x,hx=>by
  cases h
  rcases hx with hx | hx
  ·cases hx
  ·exact hx
 | (n,k)::r,acc,cl,h,x,hx=>by
  unfold closeL at h
  by_cases hk:(k == NameKind.free)=true
  ·rw [if_pos hk] at h
   cases hc:cells.lookup n with
   | none=>rw [hc] at h; cases h
   | some c =>
    rw [hc] at h
    refine ze0_ r _ cl h x ?_
    rcases hx with hx | ⟨c',e⟩
    ·rcases List.mem_cons.mp hx with e | hx
     ·cases e; exact .inr ⟨c,by rw [List.lookup_cons,beq_self_eq_true]⟩
     ·exact .inl hx
    ·refine .inr ?_
     rw [List.lookup_cons]
     cases hxn:x == n with
     | true=>exact ⟨c,rfl⟩
     | false=>exact ⟨c',e⟩
  ·rw [if_neg hk] at h
   refine ze0_ r _ cl h x ?_
   rcases hx with hx | hx
   ·rcases List.mem_cons.mp hx with e | hx
    ·cases e; exact absurd rfl hk
    ·exact .inl hx
   ·exact .inr hx
theorem zfa_ {scope:Scope}{env:Env}{x:Str}{k:NameKind}(h:(relabel scope env).names.lookup x=some k) (hk:k=.cell∨k=.free) (hcell:∀ y∈scope.names,y.2≠.cell):(x,NameKind.free)∈scope.names:=by
 have m:=PySem.mem_of_lookup h
 obtain ⟨⟨n,k0⟩,hm,e⟩:=List.mem_map.mp m
 dsimp only at e
 split at e
 ·rename_i hc
  cases e
  have:k0=.free:=by
   simp only [Bool.and_eq_true,beq_iff_eq] at hc
   exact hc.1.1
  subst this; exact hm
 ·cases e
  rcases hk with rfl | rfl
  ·exact absurd rfl (hcell _ hm)
  ·exact hm
def cxComp (X:Cx) (scope:Scope) (cl:List (Str×Addr)) (C:Addr) (N:List Str) (fp:List Addr) (s2:Shared) (H2:Hp):Cx where
 prog:=X.prog
 w:=X.w
 K:=X.K
 mg:=X.mg
 base:=X.base
 A:=X.A
 N:=N
 s₀:=s2
 H₀:=H2
 env:=compEnvC scope cl C X.env
 outer:=X.stack
 stack:=X.stack
 ex:=fp
 fn:=fun _=>false
 calm:=X.calm
 pn:=[]
 xe:=fun _ _=>False
structure CScope (X:Cx) (scope:Scope) (cl:List (Str×Addr)) (lv:List Str) (fr:List (Str×Nat)):Prop where
 clos:closeL X.env.cells scope.names []=some cl
 cell:∀ y∈scope.names,y.2≠.cell
 kind:scope.kind=.function
 names:∀ z∈scope.names,z.2=.local→scope.names.lookup z.1=some .local
 fr:∀ q∈fr,X.N[q.2]?=some q.1∧(q.1,NameKind.free)∈scope.names∧(X.env.kindOf q.1=some .cell∨X.env.kindOf q.1=some .free) ∧
  ((relabel scope X.env).names.lookup q.1=some .cell∨(relabel scope X.env).names.lookup q.1=some .free)
def cN (lv:List Str) (fr:List (Str×Nat)):List Str:=lv++fr.map (·.1)
def cS (lv:List Str) (fr:List (Str×Nat)) (σ:St):St:=lv.map (fun _=>none)++fr.map fun q=>(σ[q.2]?).join
theorem znd_ {X:Cx}{pins:Pnn}{σ:St}{H2:Hp}{s2:Shared}{scope:Scope}{cl:List (Str×Addr)}{lv:List Str}{fr:List (Str×Nat)}{fp:List Addr}{h4:Heap}{tk:Nat}{m:Str→Option Value}{n:Nat}
  (I:Inv X pins σ H2 s2) (S:CScope X scope cl lv fr) (hf:∀ b∈fp,FpOk X pins H2 b) (hlt:∀ b∈fp,b<s2.heap.objs.size) (hC:h4.Ns (s2.heap.objs.size+1) m) (hD:h4.get? s2.heap.objs.size=some { cls:=.type "list",data:=.seq #[] n })
  (hk:∀ b o,s2.heap.get? b=some o→h4.get? b=some o) :
  Inv (cxComp X scope cl (s2.heap.objs.size+1) (cN lv fr) fp s2 H2) [] (cS lv fr σ) (upd H2 s2.heap.objs.size (.lst [])) { s2 with heap:=h4,toks:=tk }:=by
 have hcl:=zdq_ scope.names [] cl S.clos (fun x c e=>by cases e)
 have hhas:=ze0_ scope.names [] cl S.clos
 have hDn:H2 s2.heap.objs.size=none:=I.hok.fresh (Nat.le_refl _)
 have hCn:H2 (s2.heap.objs.size+1)=none:=I.hok.fresh (Nat.le_succ _)
 have hCD:s2.heap.objs.size+1≠s2.heap.objs.size:=Nat.ne_of_gt (Nat.lt_succ_self _)
 have fpC:∀ b∈fp,(b∈X.ex∨X.s₀.heap.objs.size≤b):=fun b hb=>(hf b hb).2.2.2.1
 have cellLt:∀ x c,cl.lookup x=some c→c<s2.heap.objs.size:=fun x c e=>by
  obtain ⟨v,o,ho,_⟩:=I.cell x c (hcl x c e)
  exact Heap.lt_size ho
 refine ⟨⟨I.ok.mod,S.kind,I.ok.glob,I.ok.blt,Nat.le_succ _,fun x y c h1 h2=>I.ok.inj x y c (hcl x c h1) (hcl y c h2),fun x hx=>?_,fun x c hfn=>(by cases hfn),I.ok.hd,I.ok.frames,.inl rfl,fun b hb=>?_,I.bs,Nat.le_trans I.ok.bsz I.sz,fun b o e hb=>?_,fun b hb z=>?_,I.stack,I.stkFree⟩,
  rfl,I.bare,?_,⟨m,hC,fun i x v h1 h2 h3=>?_⟩,fun x c e=>?_,?_,fun x c e=>?_,fun p hp=>absurd (show p∈([]:Pnn) from hp) (by simp),?_,?_⟩
 ·-- has
  have hx':(relabel scope X.env).names.lookup x=some .cell∨(relabel scope X.env).names.lookup x=some .free:=hx
  have hm:(x,NameKind.free)∈scope.names:=hx'.elim (fun z=>zfa_ z (.inl rfl) S.cell) fun z=>zfa_ z (.inr rfl) S.cell
  exact hhas x (.inl hm)
 ·-- exf
  obtain ⟨f0,f1,f2,f3,f4,f5⟩:=hf b hb
  refine ⟨fun z=>?_,fun x c e=>f4 x c (hcl x c e)⟩
  have z':b=s2.heap.objs.size+1:=z
  have:=hlt b hb
  rw [z'] at this
  exact absurd this (Nat.not_lt.mpr (Nat.le_succ _))
 ·rcases fpC b hb with z | z
  ·exact I.ok.noex b o e z
  ·exact absurd (Nat.lt_of_lt_of_le (Nat.lt_of_lt_of_le (Heap.lt_size e) I.ok.bsz) z) (Nat.lt_irrefl _)
 ·obtain ⟨f0,f1,f2,_⟩:=hf b hb
  rcases List.mem_cons.mp (I.stkSub b z) with q | q
  ·exact f1 q
  ·exact f2 q
 ·exact Un.laid hk (Nat.le_refl _) hDn
 ·-- loc
  have h1':(lv++fr.map (·.1))[i]?=some x:=h1
  have h2':(lv.map (fun _=>none)++fr.map fun q=>(σ[q.2]?).join:St)[i]?=some (some v):=h2
  by_cases hi:i<lv.length
  ·rw [List.getElem?_append_left (by simpa using hi),List.getElem?_map] at h2'
   cases hq:lv[i]? with
   | none=>rw [hq] at h2'; cases h2'
   | some z=>rw [hq] at h2'; cases h2'
  ·rw [List.getElem?_append_right (by simpa using hi),List.getElem?_map] at h2'
   rw [List.getElem?_append_right (by lia),List.getElem?_map] at h1'
   simp only [List.length_map] at h2'
   cases hq:fr[i-lv.length]? with
   | none=>rw [hq] at h1'; cases h1'
   | some q =>
    rw [hq] at h1' h2'
    have e1:q.1=x:=Option.some.inj h1'
    have e2:(σ[q.2]?).join=some v:=Option.some.inj h2'
    have e3:σ[q.2]?=some (some v):=by
     cases hz:σ[q.2]? with
     | none=>rw [hz] at e2; cases e2
     | some z=>rw [hz] at e2; exact congrArg some e2
    obtain ⟨g1,g2,g3,g4⟩:=S.fr q (List.mem_of_getElem? hq)
    obtain ⟨m0,hn0,hl0⟩:=I.loc
    have vis:Vis X.env.scope q.1:=by
     rcases g3 with g3 | g3
     ·exact .inr (.inl g3)
     ·exact .inr (.inr g3)
    obtain ⟨u,r,l⟩:=hl0 q.2 q.1 v g1 e3 vis
    refine ⟨u,r,.inr ⟨?_,?_⟩⟩
    ·rw [← e1]; exact g4
    ·rcases l with ⟨lk,_⟩ | ⟨_,c,ec,ic⟩
     ·rcases g3 with g3 | g3<;>(rw [lk] at g3; cases g3)
     ·obtain ⟨c',ec'⟩:=hhas q.1 (.inl g2)
      have:c'=c:=by
       have:=hcl q.1 c' ec'
       rw [ec] at this; exact (Option.some.inj this).symm
      subst this
      obtain ⟨o,ho,hd⟩:=ic
      exact ⟨c',by rw [← e1]; exact ec',o,hk _ _ ho,hd⟩
 ·obtain ⟨v,o,ho,hd⟩:=I.cell x c (hcl x c e)
  exact ⟨v,o,hk _ _ ho,hd⟩
 ·show upd H2 _ _ (s2.heap.objs.size+1)=none
  rw [z7_ hCD]; exact hCn
 ·have:=cellLt x c e
  rw [z7_ (Nat.ne_of_lt this)]
  exact I.freeC x c (hcl x c e)
 ·exact I.hok.laid hk (Nat.le_refl _) ⟨Nat.zero_le _,[],n,.nil,hD⟩
 ·show (cS lv fr σ).length=(cN lv fr).length
  simp [cS,cN]
end L2
namespace L2
open PySem PySem.Spec PyProof.Rows
def PIf (X:Cx) (ifs:List Expr) (t:TT):Prop :=
 ∀ (pins:Pnn) (s:Shared) (σ:St) (H:Hp) (Q:Bool→Hp→Prop),Inv X pins σ H s→t σ H Q →
  wpAny (model X.prog X.w) X.A (forIn ifs true fun c r=>if r=true then do let ok ← isTrue c X.env (eval c X.env); pure (ForInStep.yield ok) else pure (ForInStep.yield r)) (TP X pins σ Q) X.xe s
def tTrue:TT:=fun _ H Q=>Q true H
theorem zcu_ {X:Cx}:PIf X [] tTrue:=fun pins s σ H Q I h=>wpAny_tests_nil ⟨H,I,h⟩
def tCompR (J:It) (g:TG) (tt:TT) (te:TE) (σ0:St) (H1:Hp) (Q:VK):Prop :=
 ∀ D,H1 D=none→∃ W:Nat→Nat→List V→St→Hp→Prop,(∃ m,W 0 m [] σ0 (upd H1 D (.lst [])))∧∀ i m ys σ H,W i m ys σ H →
  (J.stop i H∧Q (.ref D) H)∨(J.go i H∧∃ N:List V→St→Hp→Prop,(∀ ys' σ' H',N ys' σ' H'→∃ m',m'<m∧W (i+1) m' ys' σ' H') ∧
   ∀ x H',J.yld i H x H'→g x σ H' fun σ2 H2=>tt σ2 H2 fun b H3=>if b=true then te σ2 H3 fun v H4=>H4 D=some (.lst ys)∧ys.length<sizeLine∧N (ys++[v]) σ2 (upd H4 D (.lst (ys++[v]))) else N ys σ2 H3)
section
variable {X:Cx}{scope:Scope}{cl:List (Str×Addr)}{lv:List Str}{fr:List (Str×Nat)}{elt tg iter:Expr}{ifs:List Expr}{pos:Pos}{g:TG}{tt:TT}{te:TE}
theorem zgF_ {pins:Pnn}{σ:St}{H2:Hp}{s2:Shared}{it:Addr}{fp:List Addr}{tn:Nat→Heap→Prop}{J:It}{Q:VK}{E:Value→Shared→Prop}{use:Option (Value→Sem Unit)}{Q':Value→Shared→Prop}
  (I:Inv X pins σ H2 s2) (S:CScope X scope cl lv fr) (T:Turn X.prog X.w X.K tg J fp it tn) (st:tn 0 s2.heap) (hf:∀ b∈fp,FpOk X pins H2 b) (hc:X.calm=true)
  (hg:∀ C fp s2 H2,PG (cxComp X scope cl C (cN lv fr) fp s2 H2) tg g) (ht:∀ C fp s2 H2,PIf (cxComp X scope cl C (cN lv fr) fp s2 H2) ifs tt) (he:∀ C fp s2 H2,PE (cxComp X scope cl C (cN lv fr) fp s2 H2) elt te)
  (hq:tCompR J g tt te (cS lv fr σ) H2 Q)
  (fin:∀ D C oC H' s',Inv X (pins++[(C,oC)]) σ H' s'→(∀ h:Heap,h.get? C=some oC→∃ m,h.Ns C m)→FpOk X pins H' C→Q (.ref D) H'→compPost (model X.prog X.w) X.A E use Q' (.ref D) C (.ok .next) s') :
  wpAny (model X.prog X.w) X.A (newList []) (fun acc s₃=>wpAny (model X.prog X.w) X.A (newFunctionEnv scope X.env.globals cl [] X.env.qual none .none (some X.env)) (fun cenv s₄ =>
   codeAny (model X.prog X.w) X.A (.compStart (.ListComp elt [⟨tg,iter,ifs,0⟩] scope pos) 0 (.ref it) acc { cenv with scope:=relabel scope X.env }) (compPost (model X.prog X.w) X.A E use Q' acc cenv.locals) s₄) E s₃) E s2:=by
 have hlt:∀ b∈fp,b<s2.heap.objs.size:=fun b hb=>by
  obtain ⟨o,ho,_⟩:=T.obj 0 _ st b hb
  exact Heap.lt_size ho
 refine wpAny_newList (wpAny_newFunctionEnv S.cell (by intro y hy; simp at hy) (fun h₁ hns₁ hsb₁=>?_) S.kind)
 dsimp only at hns₁ hsb₁ ⊢
 have hsz:(s2.heap.push { cls:=.type "list",data:=.seq ([]:List Value).toArray }).objs.size=s2.heap.objs.size+1:=Heap.size_push ..
 rw [hsz] at hns₁ hsb₁ ⊢
 have old:∀ b o,s2.heap.get? b=some o→h₁.get? b=some o:=fun b o e=>hsb₁.extBut b o (Nat.ne_of_lt (Nat.lt_succ_of_lt (Heap.lt_size e))) (Heap.get?_push_of_some _ (Heap.get?_push_of_some _ e))
 have hacc:h₁.get? s2.heap.objs.size=some { cls:=.type "list",data:=.seq #[] }:=hsb₁.extBut _ _ (Nat.ne_of_lt (Nat.lt_succ_self _)) (Heap.get?_push_of_some _ (Heap.get?_push_size _ rfl))
 have I4:Inv (cxComp X scope cl (s2.heap.objs.size+1) (cN lv fr) fp s2 H2) [] (cS lv fr σ) (upd H2 s2.heap.objs.size (.lst [])) { s2 with heap:=h₁,toks:=s2.toks+([]:List (Str×Value)).length } :=
  znd_ I S hf hlt hns₁ hacc old
 generalize hX':cxComp X scope cl (s2.heap.objs.size+1) (cN lv fr) fp s2 H2=X' at I4
 have eP:X'.prog=X.prog:=by rw [← hX']; rfl
 have ew:X'.w=X.w:=by rw [← hX']; rfl
 have eK:X'.K=X.K:=by rw [← hX']; rfl
 have eA:X'.A=X.A:=by rw [← hX']; rfl
 have ec:X'.calm=true:=by rw [← hX']; exact hc
 have ex:X'.xe=fun _ _=>False:=by rw [← hX']; rfl
 have een:X'.env=compEnvC scope cl (s2.heap.objs.size+1) X.env:=by rw [← hX']; rfl
 have hg':PG X' tg g:=hX' ▸ hg _ _ _ _
 have ht':PIf X' ifs tt:=hX' ▸ ht _ _ _ _
 have he':PE X' elt te:=hX' ▸ he _ _ _ _
 obtain ⟨W,⟨m0,w0⟩,turn⟩:=hq s2.heap.objs.size (I.hok.fresh (Nat.le_refl _))
 have st1:tn 0 h₁:=T.keep _ _ _ st fun b _ o e=>old b o e
 have f4:∀ b∈fp,FpOk X' [] (upd H2 s2.heap.objs.size (.lst [])) b:=fun b hb=>by
  obtain ⟨f0,f1,f2,f3,f4,f5⟩:=hf b hb
  have:=hlt b hb
  refine ⟨?_,?_,?_,.inl ?_,?_,?_⟩
  ·rw [z7_ (Nat.ne_of_lt this)]; exact f0
  ·rw [een]; exact Nat.ne_of_lt (Nat.lt_succ_of_lt this)
  ·intro z
   have z':b∈frs X.stack:=by rw [← hX'] at z; exact z
   rcases List.mem_cons.mp (I.stkSub b z') with q | q
   ·exact f1 q
   ·exact f2 q
  ·rw [← hX']; exact hb
  ·intro x c e
   rw [een] at e
   exact f4 x c (zdq_ scope.names [] cl S.clos (fun x c e=>by cases e) x c e)
  ·intro p hp
   rw [← hX'] at hp
   exact absurd (show p∈([]:Pnn) from hp) (by simp)
 have stat:∀ {H':Hp},(∀ b∈fp,H' b=none)→∀ b∈fp,FpOk X' [] H' b:=fun hn b hb=>⟨hn b hb,(f4 b hb).2⟩
 have loop:∀ s₃:Shared,s₃={ s2 with heap:=h₁,toks:=s2.toks+([]:List (Str×Value)).length } →
   codeAny (model X.prog X.w) X.A (.compLoop (.ListComp elt [⟨tg,iter,ifs,0⟩] scope pos) 0 (.ref it) (.ref s2.heap.objs.size) (compEnvC scope cl (s2.heap.objs.size+1) X.env))
    (compPost (model X.prog X.w) X.A E use Q' (.ref s2.heap.objs.size) (s2.heap.objs.size+1)) s₃:=by
  rintro s₃ rfl
  refine zic_ (fun n s'=>∃ i ys σ' H',Inv X' [] σ' H' s'∧tn i s'.heap∧(∀ b∈fp,H' b=none)∧W i n ys σ' H') ?_ m0 ⟨0,[],_,_,I4,st1,fun b hb=>(f4 b hb).1,w0⟩
  rintro n s3 ⟨i,ys,σ3,H3,I3,st3,fr3,w3⟩
  rcases turn i n ys σ3 H3 w3 with ⟨stop,qn⟩ | ⟨go,N,hN,step⟩
  ·have a0:=T.done X' eP ew eK ec i [] s3 σ3 H3 (fun _ _=>False) I3 (stat fr3) st3 stop
   rw [eA] at a0
   refine thn a0 fun r s4 hq_=>?_
   obtain ⟨hr,I4'⟩:=hq_
   subst hr
   have un:Un (frs X.stack) fp H2 H3 s2.heap s4.heap:=by
    have:=I4'.base
    rw [← hX'] at this
    exact this
   have os:s4.os=s2.os:=by
    have:=I4'.os
    rw [← hX'] at this
    exact this
   have hok:HOk X.prog X.w H3 s4.heap:=by
    have:=I4'.hok
    rw [← hX'] at this
    exact this
   have J1:Inv X pins σ H3 s4:=I.call' os un hok I4'.bare fun b hb=>by
    obtain ⟨f0,f1,f2,f3,f4,f5⟩:=hf b hb
    exact ⟨f3,f1,f4,f5⟩
   obtain ⟨m,hn,_⟩:=I4'.loc
   have hn':s4.heap.Ns (s2.heap.objs.size+1) m:=by rw [een] at hn; exact hn
   have hCn:H3 (s2.heap.objs.size+1)=none:=by
    have:=I4'.free
    rw [een] at this; exact this
   have fC:FpOk X pins H3 (s2.heap.objs.size+1):=I.fpOk (Nat.le_succ _) hCn
   obtain ⟨oC,es,ep,hoC,hdC,rC⟩:=id hn'
   have J2:Inv X (pins++[(s2.heap.objs.size+1,oC)]) σ H3 s4:=J1.pins_of fun p hp=>by
    rcases List.mem_append.mp hp with hp | hp
    ·exact J1.pin p (List.mem_append_right _ hp)
    ·have e:p=(s2.heap.objs.size+1,oC):=by simpa using hp
     subst e
     exact ⟨hoC,hCn,fC.2.1,fC.2.2.1,fun v z=>by rw [hdC] at z; cases z⟩
   exact fin _ _ oC H3 s4 J2 (fun h e=>⟨m,oC,es,ep,e,hdC,rC⟩) fC qn
  ·have a0:=T.item X' eP ew eK ec i [] s3 σ3 H3 (fun _ _=>False) I3 (stat fr3) st3 go
   rw [eA] at a0
   refine thn a0 fun r s4 hq_=>?_
   obtain ⟨u,hr,h4⟩:=hq_
   subst hr
   refine thn h4 fun _ s5 hq_=>?_
   obtain ⟨x,H5,I5,r5,y5,st5,fr5⟩:=hq_
   have I5':=I5.pinned (stat fr5) (T.obj _ _ st5)
   have a1:=hg' _ s5 σ3 H5 x u _ I5' r5 (step x H5 y5)
   rw [eP,ew,eA,een,ex] at a1
   refine thn a1 fun _ s6 hq_=>?_
   obtain ⟨σ6,H6,I6,q6⟩:=hq_
   have a2:=ht' _ s6 σ6 H6 _ I6 q6
   rw [eP,ew,eA,een,ex] at a2
   refine thn a2 fun ok s7 hq_=>?_
   obtain ⟨H7,I7,q7⟩:=hq_
   have again:∀ {ys7:List V}{H7:Hp}{s7:Shared},Inv X' ([]++pinsAt fp s5.heap) σ6 H7 s7→N ys7 σ6 H7→∃ m,m<n∧∃ i ys σ' H',Inv X' [] σ' H' s7∧tn i s7.heap∧(∀ b∈fp,H' b=none)∧W i m ys σ' H':=fun {ys7 H7 s7} I7 n7=>by
    obtain ⟨m',hm,w7⟩:=hN ys7 σ6 H7 n7
    refine ⟨m',hm,i+1,ys7,σ6,H7,I7.unpinned,T.keep _ _ _ st5 fun b hb o e=>(I7.pin (b,o) (List.mem_append_right _ (List.mem_append_right _ (zdf_ hb e)))).1,fun b hb=>?_,w7⟩
    obtain ⟨o,e,d⟩:=T.obj _ _ st5 b hb
    exact (I7.pin (b,o) (List.mem_append_right _ (List.mem_append_right _ (zdf_ hb e)))).2.1
   cases ok with
   | false=>exact again I7 q7
   | true =>
    have a3:=he' _ s7 σ6 H7 _ I7 q7
    rw [eP,ew,eA,een,ex] at a3
    refine thn a3 fun y s8 hq_=>?_
    obtain ⟨v,H8,I8,r8,hD8,hl8,n8⟩:=hq_
    have a4:=za6_ (X:=X') _ s8 σ6 H8 (.ref s2.heap.objs.size) [v] (.ref s2.heap.objs.size) [y] (fun _ H9=>N (ys++[v]) σ6 H9) I8 rfl (.cons r8 .nil) ⟨_,_,_,rfl,rfl,hD8,hl8,n8⟩
    rw [eP,ew,eA,ex] at a4
    refine thn a4 fun _ s9 hq_=>?_
    obtain ⟨v9,H9,I9,_,n9⟩:=hq_
    exact again I9 n9
 exact codeAny_compStart_list (loop _ rfl) (T.self _ 0 _ _ _ st1 (loop _ rfl))
def tComp (lv:List Str) (fr:List (Str×Nat)) (wi:TI) (g:TG) (tt:TT) (te:TE):TE:=fun σ H Q=>wi σ H fun J H1=>tCompR J g tt te (cS lv fr σ) H1 Q
theorem zdK_ {wi:TI}(hc:X.calm=true) (S:CScope X scope cl lv fr) (hi:PI X tg iter wi)
  (hg:∀ C fp s2 H2,PG (cxComp X scope cl C (cN lv fr) fp s2 H2) tg g) (ht:∀ C fp s2 H2,PIf (cxComp X scope cl C (cN lv fr) fp s2 H2) ifs tt) (he:∀ C fp s2 H2,PE (cxComp X scope cl C (cN lv fr) fp s2 H2) elt te)
  (hs:∀ x,foldedSetIterable iter X.env x=pure x:=by intro _; rfl):PE X (.ListComp elt [⟨tg,iter,ifs,0⟩] scope pos) (tComp lv fr wi g tt te):=by
 intro pins s σ H Q I h
 rw [eval_ListComp]
 refine wpAny_comprehension_free (use:=none) rfl hs (zhV_ S.clos) S.kind S.names ?_
 refine thn (hi pins s σ H _ I h) fun v s1 h1=>thn h1 fun itv s2 h2=>?_
 obtain ⟨it,fp,tn,J,H2,e,I2,T,st2,f2,q⟩:=h2
 subst e
 refine zgF_ I2 S T st2 f2 hc hg ht he q fun D C oC H' s' J1 hNs fC qD=>?_
 have hp:=J1.pin (C,oC) (List.mem_append_right _ (List.mem_append_right _ (List.mem_singleton.mpr rfl)))
 obtain ⟨m,hm⟩:=hNs s'.heap hp.1
 refine ⟨m,hm,fun h' hs'=>?_⟩
 exact ⟨.ref D,H',J1.unpinned.turned (t':=s'.toks) (fun b o hb e=>(hs'.2 b hb).trans e) fC.1 fC.2.1 fC.2.2.2.1 fC.2.2.2.2.1 fC.2.2.2.2.2,rfl,qD⟩
theorem zeO_ {wi:TI}{j:Nat}{y:Str}{py spos:Pos}(hc:X.calm=true) (S:CScope X scope cl lv fr) (hi:PI X tg iter wi)
  (hg:∀ C fp s2 H2,PG (cxComp X scope cl C (cN lv fr) fp s2 H2) tg g) (ht:∀ C fp s2 H2,PIf (cxComp X scope cl C (cN lv fr) fp s2 H2) ifs tt) (he:∀ C fp s2 H2,PE (cxComp X scope cl C (cN lv fr) fp s2 H2) elt te)
  (hy:PG X (.Name y py) (gName j))
  (hsw:swapsWith (.ListComp elt [⟨tg,iter,ifs,0⟩] scope pos) (some (.Name y py)) spos.line X.env=pure true:=by rfl)
  (hs:∀ x,foldedSetIterable iter X.env x=pure x:=by intro _; rfl):PS X (.Assign [.Name y py] (.ListComp elt [⟨tg,iter,ifs,0⟩] scope pos) spos) (tAsg (tComp lv fr wi g tt te) (gName j)):=by
 intro pins s σ H D I h
 rw [exec_Assign_Name_used _ _ _ _ hsw]
 refine wpAny_bind (wpAny_standAt (wpAny_bind ?_))
 show wpAny _ X.A (do let _ ← comprehension (.ListComp elt [⟨tg,iter,ifs,0⟩] scope pos) scope X.env _ (newList []) false (eval iter X.env) (some (assign (.Name y py) X.env))) _ _ s
 refine wpAny_bind (wpAny_mono (wpAny_comprehension_free (use:=some (assign (.Name y py) X.env)) (Q:=fun _ s'=>SP X pins D .next s') rfl hs (zhV_ S.clos) S.kind S.names ?_) (fun _ s' hq=>wpAny_pure (wpAny_pure hq)) fun _ _ e=>e)
 refine thn (hi pins s σ H _ I h) fun v s1 h1=>thn h1 fun itv s2 h2=>?_
 obtain ⟨it,fp,tn,J,H2,e,I2,T,st2,f2,q⟩:=h2
 subst e
 refine zgF_ I2 S T st2 f2 hc hg ht he q fun D' C oC H' s' J1 hNs fC qD=>?_
 show wpAny _ X.A (assign (.Name y py) X.env (.ref D')) _ _ _
 refine thn (hy _ s' σ H' (.ref D') (.ref D') _ J1 rfl qD) fun _ s3 hq_=>?_
 obtain ⟨σ3,H3,I3,q3⟩:=hq_
 have hp:=I3.pin (C,oC) (List.mem_append_right _ (List.mem_append_right _ (List.mem_singleton.mpr rfl)))
 obtain ⟨m,hm⟩:=hNs s3.heap hp.1
 refine ⟨m,hm,fun h' hs'=>?_⟩
 have fC':FpOk X pins H3 C:=⟨hp.2.1,fC.2⟩
 exact ⟨σ3,H3,I3.unpinned.turned (t':=s3.toks) (fun b o hb e=>(hs'.2 b hb).trans e) fC'.1 fC'.2.1 fC'.2.2.2.1 fC'.2.2.2.2.1 fC'.2.2.2.2.2,q3⟩
end
end L2
namespace L2
open PySem PySem.Spec PyProof.Rows
abbrev tx (l:List Nat):V:=.str ⟨l.toArray⟩
def br (b:Bool) (A B:Prop):Prop:=(b=true→A)∧(b=false→B)
theorem zjO_ (a b:Str):a++b=⟨(a.cps.toList++b.cps.toList).toArray⟩:=by
 cases a; cases b
 show Str.mk (_++_)=_
 simp
theorem zbD_ (a:Str):a=⟨a.cps.toList.toArray⟩:=by cases a; simp
def cutL (l:List Nat) (lo hi:Option Int):List Nat:=(l.drop (HT.sIx l.length 0 lo)).take (HT.sIx l.length l.length hi-HT.sIx l.length 0 lo)
theorem ze1_ (lo hi:Option Int) (n:Nat):Builtin.Str.strSliceIndices lo hi 1 n=sliceRange ((HT.sIx n 0 lo:Nat):Int) ((HT.sIx n n hi:Nat):Int) 1:=by
 unfold Builtin.Str.strSliceIndices
 simp only [show (1:Int) > 0 by decide,if_true]
 congr 1
 ·cases lo with
  | none=>simp [HT.sIx]
  | some i =>
   simp only [HT.sIx]
   by_cases h:i<0
   ·simp only [h,if_true]<;>lia
   ·simp only [h,if_false]<;>lia
 ·cases hi with
  | none=>simp [HT.sIx]
  | some i =>
   simp only [HT.sIx]
   by_cases h:i<0
   ·simp only [h,if_true]<;>lia
   ·simp only [h,if_false]<;>lia
theorem zjR_ (x:Str) (lo hi:Option Int):(Builtin.Str.strSliceIndices lo hi 1 x.length).filterMap (x.cps[·]?)=cutL x.cps.toList lo hi:=by
 rw [ze1_,sliceRange_one,pick_run]
 unfold cutL Str.length
 simp only [Array.length_toList]
theorem zfv_ (l:List Nat) (lo hi:Option Int):(cutL l lo hi).length≤l.length:=by
 unfold cutL
 rw [List.length_take,List.length_drop]
 lia
theorem zk6_ {l:List Nat}{lo hi:Option Int}(h:(cutL l lo hi).length=l.length):cutL l lo hi=l:=by
 unfold cutL at h ⊢
 rw [List.length_take,List.length_drop] at h
 have h1:HT.sIx l.length l.length hi≤l.length:=HT.sIx_le _ _ (Nat.le_refl _) _
 by_cases hl:l.length=0
 ·have:l=[]:=List.length_eq_zero_iff.mp hl
  subst this
  simp
 ·have h2:HT.sIx l.length 0 lo=0:=by lia
  rw [h2,List.drop_zero,List.take_of_length_le]
  lia
section
variable {X:Cx}
def rSlS:V→Option Int→Option Int→Hp→VK→Prop:=fun x lo hi H Q=>match x with | .str z=>z.length≤sizeLine∧Q (tx (cutL z.cps.toList lo hi)) H | _=>False
theorem zek_ {v:Value}{o:Option Int}(p:IsPart v o):∃ l:Option (Int×Tok),v=partValue l∧l.map (·.1)=o:=by
 cases p with
 | none=>exact ⟨none,rfl,rfl⟩
 | int i t=>exact ⟨some (i,t),rfl,rfl⟩
theorem zpj_:SlR X rSlS:=by
 intro pins s σ H x v vl vu lo hi sl Q I rx hs pl pu h
 cases x with
 | str z =>
  obtain ⟨hz,q⟩:=h
  obtain ⟨t,rfl⟩:=rx
  obtain ⟨l,rfl,rfl⟩:=zek_ pl
  obtain ⟨u,rfl,rfl⟩:=zek_ pu
  refine ⟨"str",_,F.slot_str_getitem.lookup,typeIs_str _ _ _,?_⟩
  refine wpAny_getItem_str_slice (l:=l) (u:=u) (st:=none) hs rfl ?_
  unfold sliceMade
  have e:slicePicked z l u none=Builtin.Str.strSliceIndices (l.map (·.1)) (u.map (·.1)) 1 z.length:=rfl
  rw [e]
  have hlen:(Builtin.Str.strSliceIndices (l.map (·.1)) (u.map (·.1)) 1 z.length).length=(cutL z.cps.toList (l.map (·.1)) (u.map (·.1))).length:=by
   rw [ze1_,sliceRange_one,List.length_map,List.length_range]
   unfold cutL
   rw [List.length_take,List.length_drop]
   have h1:HT.sIx z.length z.length (u.map (·.1))≤z.length:=HT.sIx_le _ _ (Nat.le_refl _) _
   have h2:z.cps.toList.length=z.length:=by simp [Str.length]
   rw [h2]
   lia
  split
  ·rename_i hc
   have hc':(cutL z.cps.toList (l.map (·.1)) (u.map (·.1))).length=z.cps.toList.length:=by
    rw [← hlen]
    simpa [Str.length] using hc
   rw [zk6_ hc'] at q
   have q':Q (.str z) H:=by rw [zbD_ z]; exact q
   exact ⟨.str z,H,I,⟨_,rfl⟩,q'⟩
  ·rw [zjR_]
   have h3:=zfv_ z.cps.toList (l.map (·.1)) (u.map (·.1))
   have h2:z.cps.toList.length=z.length:=by simp [Str.length]
   refine ⟨?_,tx (cutL z.cps.toList (l.map (·.1)) (u.map (·.1))),H,I.tok _,⟨_,rfl⟩,q⟩
   show (cutL z.cps.toList (l.map (·.1)) (u.map (·.1))).toArray.size≤sizeLine
   rw [List.size_toArray]
   exact Nat.le_trans h3 (by rw [h2]; exact hz)
 | _=>exact h.elim
end
end L2
namespace L2
open PySem PySem.Spec PyProof.Rows
def mVar (i:Nat):TE:=fun σ H Q=>match σ[i]? with | some (some v)=>Q v H | _=>False
section
variable {X:Cx}{a b c:Expr}{ta tb tc:TE}{pos:Pos}
theorem za_ (i:Nat) {x:Str}{pos:Pos}(hN:X.N[i]?=some x:=by rfl) (hv:Vis X.env.scope x:=by first | exact Or.inl rfl | exact Or.inr (Or.inl rfl) | exact Or.inr (Or.inr rfl)) (hd:(x == ("__debug__" : Str))=false:=by decide)
  (hcd:(x == ("__classdict__" : Str))=false:=by decide):PE X (.Name x pos) (mVar i):=by
 intro pins s σ H Q I h
 unfold mVar at h
 cases e:σ[i]? with
 | none=>rw [e] at h; exact h.elim
 | some o =>
  rw [e] at h
  cases o with
  | none=>exact h.elim
  | some v=>exact zpu_ hN hv hd hcd pins s σ H Q I ⟨v,e,h⟩
theorem zba_ {x:Str}{l:List Nat}{j pos} (h:x=⟨l.toArray⟩:=by rfl):PE X (.Constant (.str x) j pos) (tC (tx l)):=h ▸ zqa_
def mAdd:R2:=fun x y H Q=>match x,y with
 | .int i,.int j=>Q (.int (i+j)) H
 | .str a,.str b=>a.cps.toList.length+b.cps.toList.length≤sizeLine∧Q (tx (a.cps.toList++b.cps.toList)) H
 | .ref a,.ref b=>∃ xs zs,H a=some (.lst xs)∧H b=some (.lst zs)∧xs.length+zs.length≤sizeLine∧∀ p,H p=none→Q (.ref p) (upd H p (.lst (xs++zs)))
 | _,_=>False
theorem z0_:OpR X (binaryOp .Add) mAdd:=by
 intro pins s σ H x y v u Q I rx ry h
 cases x<;>cases y<;>first
  | exact h.elim
  | exact zqu_ pins s σ H _ _ v u Q I rx ry ⟨_,_,rfl,rfl,h⟩
  | exact zjk_ pins s σ H _ _ v u Q I rx ry ⟨_,_,rfl,rfl,by simpa [Str.length] using h.1,by rw [zjO_]; exact h.2⟩
  | (obtain ⟨xs,zs,h1,h2,h3,h4⟩:=h; exact zpg_ pins s σ H _ _ v u Q I rx ry ⟨_,_,xs,zs,rfl,rfl,h1,h2,h3,h4⟩)
def mI (C:Int→Int→Prop) (g:Int→Int→V):R2:=fun x y H Q=>match x,y with | .int i,.int j=>C i j∧Q (g i j) H | _,_=>False
def mI0 (g:Int→Int→V):R2:=fun x y H Q=>match x,y with | .int i,.int j=>Q (g i j) H | _,_=>False
theorem opM {f:Value→Value→Sem Value}{C:Int→Int→Prop}{g:Int→Int→V}(h:OpR X f (rI C g)):OpR X f (mI C g):=by
 intro pins s σ H x y v u Q I rx ry q
 cases x<;>cases y<;>first | exact q.elim | exact h pins s σ H _ _ v u Q I rx ry ⟨_,_,rfl,rfl,q.1,q.2⟩
theorem opM0 {f:Value→Value→Sem Value}{g:Int→Int→V}(h:OpR X f (rI0 g)):OpR X f (mI0 g):=by
 intro pins s σ H x y v u Q I rx ry q
 cases x<;>cases y<;>first | exact q.elim | exact h pins s σ H _ _ v u Q I rx ry ⟨_,_,rfl,rfl,q⟩
abbrev mSub:R2:=mI0 fun i j=>.int (i-j)
abbrev mMod:R2:=mI (fun _ j=>0<j) fun i j=>.int (i % j)
theorem zd0_:OpR X (binaryOp .Sub) mSub:=opM0 zpU_
theorem zaI_:OpR X (binaryOp .Mod) mMod:=opM zpJ_
def mEqB (x y:V):Option Bool:=match x,y with
 | .int i,.int j=>some (decide (i=j))
 | .str a,.str b=>some (decide (a.cps.toList=b.cps.toList))
 | .bl a,.bl b=>some (decide (a=b))
 | .non,.non=>some true
 | .non,.int _=>some false | .int _,.non=>some false | .non,.bl _=>some false | .bl _,.non=>some false | .non,.str _=>some false | .str _,.non=>some false
 | .int _,.str _=>some false | .str _,.int _=>some false | .bl _,.str _=>some false | .str _,.bl _=>some false
 | _,_=>none
theorem zjj_ {x y:V}{b:Bool}(h:mEqB x y=some b):scal x y=true∧decide (x=y)=b:=by
 cases x<;>cases y<;>first
  | (cases (show (none:Option Bool)=some b from h); done)
  | (refine ⟨rfl,?_⟩; have h':=Option.some.inj h; rw [← h']; first | rfl | (simp; done))
  | (rename_i a b'
     refine ⟨rfl,?_⟩
     have h':=Option.some.inj h
     rw [← h',decide_eq_decide]
     constructor
     ·intro e; cases e; rfl
     ·intro e; rw [zbD_ a,zbD_ b',e])
def mEq:R2:=fun x y H Q=>match mEqB x y with | some b=>Q (.bl b) H | none=>False
def mNe:R2:=fun x y H Q=>match mEqB x y with | some b=>Q (.bl (!b)) H | none=>False
theorem zqo_:OpR X (compareOp .Eq) mEq:=by
 intro pins s σ H x y v u Q I rx ry h
 unfold mEq at h
 cases e:mEqB x y with
 | none=>rw [e] at h; exact h.elim
 | some b =>
  rw [e] at h
  obtain ⟨h1,h2⟩:=zjj_ e
  exact op_eq pins s σ H x y v u Q I rx ry ⟨h1,by rw [h2]; exact h⟩
theorem zpW_:OpR X (compareOp .NotEq) mNe:=by
 intro pins s σ H x y v u Q I rx ry h
 unfold mNe at h
 cases e:mEqB x y with
 | none=>rw [e] at h; exact h.elim
 | some b =>
  rw [e] at h
  obtain ⟨h1,h2⟩:=zjj_ e
  exact op_ne pins s σ H x y v u Q I rx ry ⟨h1,by rw [h2]; exact h⟩
abbrev mLt:R2:=mI0 fun i j=>.bl (decide (i<j))
abbrev mGt:R2:=mI0 fun i j=>.bl (decide (j<i))
abbrev mGe:R2:=mI0 fun i j=>.bl (decide (j≤i))
theorem zpA_:OpR X (compareOp .Lt) mLt:=opM0 op_lt
theorem zqc_:OpR X (compareOp .Gt) mGt:=opM0 op_gt
theorem zpD_:OpR X (compareOp .GtE) mGe:=opM0 op_ge
def mIsB (x y:V):Option Bool:=match y with
 | .non=>some (decide (x=.non))
 | .bl b=>(match x with | .bl a=>some (decide (a=b)) | _=>none)
 | _=>none
def mIs:R2:=fun x y H Q=>match mIsB x y with | some b=>Q (.bl b) H | none=>False
def mIsNot:R2:=fun x y H Q=>match mIsB x y with | some b=>Q (.bl (!b)) H | none=>False
theorem zmP_ {M:Model}{A:Around}{E:Value→Shared→Prop}{s:Shared}{a b:Bool}{Q:Value→Shared→Prop}(h:Q (.bool (decide (a=b))) s):wpAny M A (compareOp .Is (.bool a) (.bool b)) Q E s:=by
 cases a<;>cases b<;>exact wpAny_pure h
theorem zif_ {M:Model}{A:Around}{E:Value→Shared→Prop}{s:Shared}{a b:Bool}{Q:Value→Shared→Prop}(h:Q (.bool (!decide (a=b))) s):wpAny M A (compareOp .IsNot (.bool a) (.bool b)) Q E s:=by
 cases a<;>cases b<;>exact wpAny_pure h
theorem zp6_:OpR X (compareOp .Is) mIs:=by
 intro pins s σ H x y v u Q I rx ry h
 unfold mIs mIsB at h
 cases y with
 | non=>exact zph_ pins s σ H x _ v u Q I rx ry ⟨rfl,h⟩
 | bl b =>
  cases x with
  | bl a=>cases rx; cases ry; exact zmP_ ⟨.bl _,H,I,rfl,h⟩
  | _=>exact h.elim
 | _=>exact h.elim
theorem zfs_:OpR X (compareOp .IsNot) mIsNot:=by
 intro pins s σ H x y v u Q I rx ry h
 unfold mIsNot mIsB at h
 cases y with
 | non=>exact zol_ pins s σ H x _ v u Q I rx ry ⟨rfl,h⟩
 | bl b =>
  cases x with
  | bl a=>cases rx; cases ry; exact zif_ ⟨.bl _,H,I,rfl,h⟩
  | _=>exact h.elim
 | _=>exact h.elim
def inS (l:List Nat) (t:List Nat):Bool:=match l with | [c]=>decide (c∈t) | _=>!(Builtin.Str.occurrences ⟨t.toArray⟩ ⟨l.toArray⟩ 0 t.length 1).isEmpty
theorem znG_ (a b:Str):(!(Builtin.Str.occurrences b a 0 b.length 1).isEmpty)=inS a.cps.toList b.cps.toList:=by
 have e:b.length=b.cps.toList.length:=by simp [Str.length]
 unfold inS
 split
 ·rename_i c hc
  have ea:a=⟨#[c]⟩:=by rw [zbD_ a,hc]
  rw [ea]
  exact StrLaws.found_one b c
 ·rw [← zbD_,← zbD_,e]
def mIn (K:Fgg) (neg:Bool):R2:=fun x y H Q=>match y with
 | .str b=>(match x with | .str a=>Q (.bl (if neg then !inS a.cps.toList b.cps.toList else inS a.cps.toList b.cps.toList)) H | _=>False)
 | .ref p=>∃ xs,(SqL K H p xs∨SqT K H p xs)∧flatV x=true∧xs.all flatV=true∧Q (.bl (if neg then !inV x xs else inV x xs)) H
 | _=>False
theorem zpL_:OpR X (compareOp .In) (mIn X.K false):=by
 intro pins s σ H x y v u Q I rx ry h
 unfold mIn at h
 cases y with
 | str b =>
  cases x with
  | str a=>exact zkG_ pins s σ H _ _ v u Q I rx ry ⟨_,_,rfl,rfl,by rw [znG_]; exact h⟩
  | _=>exact h.elim
 | ref p =>
  obtain ⟨xs,h1,h2,h3,h4⟩:=h
  exact zlp_ pins s σ H _ _ v u Q I rx ry ⟨_,xs,rfl,h1,h2,h3,h4⟩
 | _=>exact h.elim
def mTest (t:TE):TT:=fun σ H Q=>t σ H fun x H'=>match x with | .bl k=>Q k H' | _=>False
def mAndV (ta tb:TE):TE:=fun σ H Q=>ta σ H fun x H1=>match x with | .bl c=>br c (tb σ H1 Q) (Q (.bl false) H1) | _=>False
def mOr (t u:TT):TT:=fun σ H Q=>t σ H fun c H1=>br c (Q true H1) (u σ H1 Q)
variable {rest:List Expr}{tA tB':TT}
theorem zov_ (ha:PE X a ta) (hb:PE X (.BoolOp .And (b::rest) pos) tb):PE X (.BoolOp .And (a::b::rest) pos) (mAndV ta tb):=by
 intro pins s σ H Q I h
 refine BoolOp_and (thn (ha pins s σ H _ I h) fun v s1 hq_=>?_)
 obtain ⟨x,H1,I1,r1,q1⟩:=hq_
 cases x with
 | bl c =>
  cases r1
  refine wpAny_truthy_bool ?_
  cases c with
  | true=>exact hb pins s1 σ H1 Q I1 (q1.1 rfl)
  | false=>exact ⟨.bl false,H1,I1,rfl,q1.2 rfl⟩
 | _=>exact q1.elim
theorem ziz_ (ha:PT X a tA) (hb:PW X (.BoolOp .Or (b::rest) pos) tB'):PW X (.BoolOp .Or (a::b::rest) pos) (mOr tA tB'):=by
 intro wh pins s σ H Q I h
 refine isTrue_or (thn (ha pins s σ H _ I h) fun c s1 hq_=>?_)
 obtain ⟨H1,I1,q1⟩:=hq_
 cases c with
 | true=>exact ⟨H1,I1,q1.1 rfl⟩
 | false=>exact hb wh pins s1 σ H1 Q I1 (q1.2 rfl)
theorem zdb_ {e:Expr}{t:TE}(h:PE X e t) (he:∀ whole,isTrue e X.env whole=(do let v ← whole; standAt e.pos; holding [v] (truthy v)):=by intro _; rfl):PT X e (mTest t):=by
 intro pins s σ H Q I hw
 refine isTrue_plain (thn (h pins s σ H _ I hw) fun v s1 hq_=>?_) (he _)
 obtain ⟨x,H1,I1,r1,q1⟩:=hq_
 cases x with
 | bl c=>cases r1; exact wpAny_truthy_bool ⟨H1,I1,q1⟩
 | _=>exact q1.elim
theorem zaJ_ {op:CmpOp}{r:R2}(ho:OpR X (compareOp op) r) (ha:PE X a ta) (hb:PE X b tb) (hm:behindInMarks op b=false:=by first | exact nobehind _ (by decide) (by decide) | rfl):PT X (.Compare a [op] [b] pos) (mTest (tOp r ta tb)):=by
 intro pins s σ H Q I hw
 refine wpAny_isTrue_Compare1 (binT ha hb I hw fun v u s2 x y H2 I2 rx ry q=>?_) hm
 refine thn (ho pins s2 σ H2 x y v u _ I2 rx ry q) fun c s3 hq_=>?_
 obtain ⟨z,H3,I3,r3,q3⟩:=hq_
 cases z with
 | bl k=>cases r3; exact wpAny_truthy_bool ⟨H3,I3,q3⟩
 | _=>exact q3.elim
theorem znE_ {op:CmpOp}{r:R2}(ho:OpR X (compareOp op) r) (ha:PE X a ta) (hb:PE X b tb) (hm:behindInMarks op b=false:=by first | exact nobehind _ (by decide) (by decide) | rfl):PE X (.Compare a [op] [b] pos) (tOp r ta tb):=znR_ ho ha hb hm
def mIf (t:TT) (ta tb:TE):TE:=fun σ H Q=>t σ H fun c H1=>br c (ta σ H1 Q) (tb σ H1 Q)
theorem zpI_ {c:Expr}(hc:PT X c tA) (ha:PE X a ta) (hb:PE X b tb):PE X (.IfExp c a b pos) (mIf tA ta tb):=by
 intro pins s σ H Q I h
 refine wpAny_IfExp (thn (hc pins s σ H _ I h) fun d s1 hq_=>?_)
 obtain ⟨H1,I1,q1⟩:=hq_
 cases d with
 | true=>exact ha pins s1 σ H1 Q I1 (q1.1 rfl)
 | false=>exact hb pins s1 σ H1 Q I1 (q1.2 rfl)
def mIfS (c:TT) (t u:TS):TS:=fun D σ H=>c σ H fun b H1=>br b (t D σ H1) (u D σ H1)
theorem zbG_ {c:Expr}{a b:List Stmt}{tc:TT}{t u:TS}(hc:PT X c tc) (ha:PSs X a t) (hb:PSs X b u):PS X (.If c a b pos) (mIfS tc t u):=by
 intro pins s σ H D I h
 refine wpAny_If (thn (hc pins s σ H _ I h) fun d s1 hq_=>?_)
 obtain ⟨H1,I1,q1⟩:=hq_
 cases d with
 | true=>exact ha pins s1 σ H1 D I1 (q1.1 rfl)
 | false=>exact hb pins s1 σ H1 D I1 (q1.2 rfl)
end
end L2
namespace L2
open PySem PySem.Spec PyProof.Rows
section
variable {X:Cx}{a b c e o:Expr}{es:List Expr}{ta tb tc:TE}{t:TA}{pos:Pos}
def mIx (K:Fgg):R2:=fun x y H Q=>match y with
 | .int i=>(match x with
  | .ref p=>∃ xs,(SqL K H p xs∨SqT K H p xs)∧(match atI xs i with | some v=>Q v H | none=>False)
  | .str z=>z.cps.toList.length≤sizeLine∧(match atI z.cps.toList i with | some c=>Q (tx [c]) H | none=>False)
  | _=>False)
 | _=>False
theorem ix_M:IxR X (mIx X.K):=by
 intro value slice pins s σ H x y v u Q I rx ry h hs0
 unfold mIx at h
 cases y with
 | int i =>
  cases x with
  | ref p =>
   obtain ⟨xs,hs,h⟩:=h
   cases ev:atI xs i with
   | none=>rw [ev] at h; exact h.elim
   | some w' =>
    rw [ev] at h
    rcases hs with hs | hs
    ·exact zoB_ value slice pins s σ H _ _ v u Q I rx ry ⟨p,xs,i,w',rfl,rfl,hs,ev,h⟩ hs0
    ·exact zpX_ value slice pins s σ H _ _ v u Q I rx ry ⟨p,xs,i,w',rfl,rfl,hs,ev,h⟩ hs0
  | str z =>
   obtain ⟨hz,h⟩:=h
   cases ev:atI z.cps.toList i with
   | none=>rw [ev] at h; exact h.elim
   | some w' =>
    rw [ev] at h
    exact zpm_ value slice pins s σ H _ _ v u Q I rx ry ⟨z,i,w',rfl,rfl,by simpa [Str.length] using hz,ev,h⟩ hs0
  | _=>exact h.elim
 | _=>exact h.elim
def mSl (K:Fgg):V→Option Int→Option Int→Hp→VK→Prop:=fun x lo hi H Q=>match x with
 | .str z=>z.cps.toList.length≤sizeLine∧Q (tx (cutL z.cps.toList lo hi)) H
 | .ref a=>∃ xs,SqL K H a xs∧∀ p,H p=none→Q (.ref p) (upd H p (.lst (cutV xs lo hi)))
 | _=>False
theorem sl_M:SlR X (mSl X.K):=by
 intro pins s σ H x v vl vu lo hi sl Q I rx hs pl pu h
 unfold mSl at h
 cases x with
 | str z=>exact zpj_ pins s σ H _ v vl vu lo hi sl Q I rx hs pl pu ⟨by simpa [Str.length] using h.1,h.2⟩
 | ref p =>
  obtain ⟨xs,h1,h2⟩:=h
  exact zok_ pins s σ H _ v vl vu lo hi sl Q I rx hs pl pu ⟨p,xs,rfl,h1,h2⟩
 | _=>exact h.elim
def mPart (t:TE):TO:=fun σ H Q=>t σ H fun x H1=>match x with | .int i=>Q (some i) H1 | _=>False
theorem po_M (h:PE X e ta):PO X (some e) (mPart ta):=by
 intro pins s σ H Q I hw
 rw [evalPart_some]
 refine thn (h pins s σ H _ I hw) fun u s1 hq_=>?_
 obtain ⟨x,H1,I1,r1,q1⟩:=hq_
 cases x with
 | int i=>obtain ⟨t,rfl⟩:=r1; exact ⟨some i,H1,I1,.int i t,q1⟩
 | _=>exact q1.elim
def mLen (K:Fgg):List V→Hp→VK→Prop:=fun xs H Q=>match xs with
 | [.str z]=>z.cps.toList.length≤sizeLine∧Q (.int z.cps.toList.length) H
 | [.ref p]=>∃ ys,(SqL K H p ys∨SqT K H p ys)∧Q (.int ys.length) H
 | _=>False
theorem zm9_ {K:Fgg}{xs:List V}{H:Hp}{Q:VK}(h:mLen K xs H Q):(∃ z,xs=[.str z]∧z.cps.toList.length≤sizeLine∧Q (.int z.cps.toList.length) H)∨∃ p ys,xs=[.ref p]∧(SqL K H p ys∨SqT K H p ys)∧Q (.int ys.length) H:=by
 rcases xs with _ | ⟨x,_ | ⟨y,t⟩⟩
 ·exact False.elim h
 ·cases x with
  | str z=>exact .inl ⟨z,rfl,h⟩
  | ref p=>obtain ⟨ys,h⟩:=h; exact .inr ⟨p,ys,rfl,h⟩
  | _=>exact False.elim h
 ·cases x<;>exact False.elim h
theorem zbl_:CallR X (.builtin "len") (mLen X.K):=by
 intro pins s σ H xs us Q I r h
 rcases zm9_ h with ⟨z,rfl,h⟩ | ⟨p,ys,rfl,h1,h2⟩
 ·exact zhj_ pins s σ H _ us Q I r ⟨_,rfl,by simpa [Str.length] using h.1,by simpa [Str.length] using h.2⟩
 ·exact zgR_ pins s σ H _ us Q I r ⟨_,ys,rfl,h1,h2⟩
def tyS (K:Fgg) (H:Hp):V→String→Prop:=fun x T=>match x with
 | .non=>T = "NoneType" | .bl _=>T = "bool" | .int _=>T = "int" | .str _=>T = "str"
 | .ref p=>(T = "list" ∧ ∃ xs,H p=some (.lst xs))∨(T = "tuple" ∧ ∃ xs,H p=some (.tup xs))
 | _=>False
theorem zpM_ {K:Fgg}{H:Hp}{x:V}{T:String}(h:tyS K H x T):TyOf K H x (.type T):=by
 unfold tyS at h
 cases x with
 | non=>subst h; exact .non
 | bl b=>subst h; exact .bl b
 | int i=>subst h; exact .int i
 | str z=>subst h; exact .str z
 | ref p =>
  rcases h with ⟨rfl,xs,h⟩ | ⟨rfl,xs,h⟩
  ·exact .lst h
  ·exact .tup h
 | _=>exact h.elim
def isaB (T c:String):Option Bool :=
 if T=c then some true else if T = "bool" ∧ c = "int" then some true
 else if (T = "bool" ∨ T = "int" ∨ T = "str" ∨ T = "list" ∨ T = "tuple" ∨ T = "NoneType")∧(c = "bool" ∨ c = "int" ∨ c = "str" ∨ c = "list" ∨ c = "tuple" ∨ c = "dict") then some false else none
theorem znz_ {K:Fgg}{T c:String}{b:Bool}(h:isaB T c=some b):PySem.W.kitOne K (.type T) (.type c)=some b:=by
 unfold isaB at h
 split at h
 ·rename_i e; subst e; cases h
  unfold PySem.W.kitOne
  rw [if_pos (by simp)]
 ·split at h
  ·rename_i e; obtain ⟨rfl,rfl⟩:=e; cases h; rfl
  ·split at h
   ·rename_i h1 h2 e
    cases h
    obtain ⟨e1,e2⟩:=e
    rcases e1 with rfl | rfl | rfl | rfl | rfl | rfl<;>rcases e2 with rfl | rfl | rfl | rfl | rfl | rfl<;>first | rfl | exact absurd rfl h1 | exact absurd ⟨rfl,rfl⟩ h2
   ·cases h
def mIsa (K:Fgg):List V→Hp→VK→Prop:=fun xs H Q=>match xs with
 | [.int _,.ty c]=>(match isaB "int" c with | some b=>Q (.bl b) H | none=>False)
 | [.bl _,.ty c]=>(match isaB "bool" c with | some b=>Q (.bl b) H | none=>False)
 | [.str _,.ty c]=>(match isaB "str" c with | some b=>Q (.bl b) H | none=>False)
 | [.non,.ty c]=>(match isaB "NoneType" c with | some b=>Q (.bl b) H | none=>False)
 | [.ref p,.ty c]=>∃ T,tyS K H (.ref p) T∧(match isaB T c with | some b=>Q (.bl b) H | none=>False)
 | _=>False
theorem zjm_:CallR X (.builtin "isinstance") (mIsa X.K):=by
 intro pins s σ H xs us Q I r h
 have key:∀ (x:V) (T c:String),xs=[x,.ty c]→tyS X.K H x T→(match isaB T c with | some b=>Q (.bl b) H | none=>False)→wpAny (model X.prog X.w) X.A (call (.builtin "isinstance") us) (EP X pins σ Q) X.xe s:=by
  intro x T c e ht hq
  subst e
  obtain ⟨u,w',rfl,r1,r2⟩:=vals2 r
  cases r2
  cases eb:isaB T c with
  | none=>rw [eb] at hq; exact hq.elim
  | some b =>
   rw [eb] at hq
   exact zhQ_ I r1 (zpM_ ht) (znz_ eb) fun tk=>⟨.bl b,H,I.tok tk,rfl,hq⟩
 unfold mIsa at h
 split at h
 ·exact key _ "int" _ rfl rfl h
 ·exact key _ "bool" _ rfl rfl h
 ·exact key _ "str" _ rfl rfl h
 ·exact key _ "NoneType" _ rfl rfl h
 ·obtain ⟨T,h1,h2⟩:=h
  exact key _ T _ rfl h1 h2
 ·exact h.elim
def findS (l:List Nat) (t:List Nat):Int:=Txt.find ⟨l.toArray⟩ ⟨t.toArray⟩
theorem zmh_ (l:List Nat) (c:Nat):findS l [c]=(match l.findIdx? (· == c) with | some i=>(i:Int) | none => -1):=by
 unfold findS
 rcases find_whole ⟨l.toArray⟩ ⟨[c].toArray⟩ with ⟨h1,h2⟩ | ⟨i,h1,h2,h3⟩
 ·rw [h1]
  have:l.findIdx? (· == c)=none:=by
   rw [List.findIdx?_eq_none_iff]
   intro x hx
   obtain ⟨j,hj⟩:=List.mem_iff_getElem?.mp hx
   by_cases hxc:x=c
   ·subst hxc
    exact absurd ((StrLaws.subAt_one ⟨l.toArray⟩ x j).mpr (by simpa using hj)) (h2 j)
   ·simpa using hxc
  rw [this]
 ·rw [h1]
  have hi:l[i]?=some c:=by simpa using (StrLaws.subAt_one ⟨l.toArray⟩ c i).mp h2
  have:l.findIdx? (· == c)=some i:=by
   obtain ⟨hlt,hget⟩:=List.getElem?_eq_some_iff.mp hi
   rw [List.findIdx?_eq_some_iff_getElem]
   refine ⟨hlt,by simp [hget],fun j hj=>?_⟩
   have hjl:j<l.length:=Nat.lt_trans hj hlt
   have hn:=h3 j hj
   intro hc
   have hc':l[j]=c:=by simpa using hc
   exact hn ((StrLaws.subAt_one ⟨l.toArray⟩ c j).mpr (by simp [hjl,hc']))
  rw [this]
def mIndex:V→List V→Hp→VK→Prop:=fun x xs H Q=>match x,xs with | .str l,[.str t]=>findS l.cps.toList t.cps.toList ≠ -1∧Q (.int (findS l.cps.toList t.cps.toList)) H | _,_=>False
theorem zmA_:MtR X "str.index" mIndex:=by
 intro pins s σ H x xs v us Q I rx rv h
 unfold mIndex at h
 split at h
 ·rename_i l t
  obtain ⟨k,rfl⟩:=rx
  obtain ⟨u,rfl,ru⟩:=rv.one
  obtain ⟨k',rfl⟩:=ru
  have e:Txt.find l t=findS l.cps.toList t.cps.toList:=by unfold findS; rw [← zbD_,← zbD_]
  rw [← e] at h
  unfold Txt.find at h
  cases ho:Builtin.Str.occurrences l t 0 l.length 1 with
  | nil=>rw [ho] at h; exact absurd rfl h.1
  | cons i rest =>
   rw [ho] at h
   exact SC.index ho ⟨.int _,H,I.tok _,⟨_,rfl⟩,h.2⟩
 ·exact h.elim
def strsOf:List V→Option (List Str)
 | []=>some []
 | .str z::r=>(strsOf r).map (z::·)
 | _::_=>none
theorem zji_ {vs:List V}{zs:List Str}:strsOf vs=some zs→vs=zs.map V.str:=by
 induction vs generalizing zs with
 | nil=>intro h; cases h; rfl
 | cons v r ih =>
  intro h
  cases v with
  | str z =>
   unfold strsOf at h
   cases e:strsOf r with
   | none=>rw [e] at h; cases h
   | some y=>rw [e] at h; cases h; rw [ih e]; rfl
  | _=>cases h
def joinS (sep:List Nat) (zs:List Str):List Nat:=(Txt.join ⟨sep.toArray⟩ zs).cps.toList
def mJoin (K:Fgg):V→List V→Hp→VK→Prop:=fun x xs H Q=>match x,xs with
 | .str l,[.ref D]=>∃ vs,(SqL K H D vs)∧(match strsOf vs with | some zs=>JoinOk l zs=true∧Q (tx (joinS l.cps.toList zs)) H | none=>False)
 | _,_=>False
theorem zh0_:∀ {zs:List Str}{us:List Value},Vals (zs.map V.str) us→∃ l:List (Str×Tok),us=strValues l∧l.map (·.1)=zs
 | [],us,r=>by cases r; exact ⟨[],rfl,rfl⟩
 | z::zs,us,r=>by
  cases r with
  | cons r rr =>
   obtain ⟨t,rfl⟩:=r
   obtain ⟨l,rfl,hl⟩:=zh0_ rr
   exact ⟨(z,t)::l,rfl,by rw [List.map_cons,hl]⟩
theorem zkY_ {K:Fgg}{x:V}{xs:List V}{H:Hp}{Q:VK}(h:mJoin K x xs H Q):∃ l D,x=.str l∧xs=[.ref D]∧∃ vs,(SqL K H D vs)∧(match strsOf vs with | some zs=>JoinOk l zs=true∧Q (tx (joinS l.cps.toList zs)) H | none=>False):=by
 cases x with
 | str l =>
  rcases xs with _ | ⟨y,_ | ⟨z,t⟩⟩
  ·exact False.elim h
  ·cases y with
   | ref t=>exact ⟨l,t,rfl,rfl,h⟩
   | _=>exact False.elim h
  ·cases y<;>exact False.elim h
 | _=>exact False.elim h
theorem zkf_:MtR X "str.join" (mJoin X.K):=by
 intro pins s σ H x xs v us Q I rx rv h
 obtain ⟨l,D,rfl,rfl,h⟩:=zkY_ h
 ·obtain ⟨k,rfl⟩:=rx
  obtain ⟨u,rfl,ru⟩:=rv.one
  cases ru
  obtain ⟨vs,hs,h⟩:=h
  cases ez:strsOf vs with
  | none=>rw [ez] at h; exact h.elim
  | some zs =>
   rw [ez] at h
   have ev:=zji_ ez
   subst ev
   obtain ⟨its,r,p,hz⟩:=I.list hs
   obtain ⟨lz,e1,e2⟩:=zh0_ r
   subst e1
   refine SC.join p.isList e2 h.1 fun t' k'=>⟨tx (joinS l.cps.toList zs),H,I.tok _,⟨t',?_⟩,h.2⟩
   unfold joinS
   rw [← zbD_,← zbD_]
end
theorem zmS_ (zs:List Str):joinS [] zs=(zs.map fun z=>z.cps.toList).flatten:=by
 unfold joinS Txt.join Builtin.Str.glued
 cases zs with
 | nil=>rfl
 | cons z r =>
  show ((r.foldl (fun acc p=>acc++#[]++p.cps) z.cps)).toList=_
  have:∀ (acc:Array Nat),(r.foldl (fun acc p=>acc++#[]++p.cps) acc).toList=acc.toList++(r.map fun z=>z.cps.toList).flatten:=by
   induction r with
   | nil=>intro acc; simp
   | cons y r ih=>intro acc; rw [List.foldl_cons,ih]; simp
  rw [this]
  simp
end L2
namespace L2
open PySem PySem.Spec PyProof.Rows
def Gd (P:Program) (w:World) (K:Fgg) (mg:Str→Option Value) (base:Heap) (CX:CXT) (k:Nat) (x:Str) (ps:List Str) (sp:Sp):Prop :=
 ∃ f fd,FnOk P w K mg base CX k f fd ps sp∧mg x=some (.ref f)∧PySem.W.keepIn K (.ref f)=true∧Binds K fd ps []
def Gc (mg:Str→Option Value) (x:Str) (v:V):Prop:=∃ u,mg x=some u∧RelV v u
abbrev Gb (mg:Str→Option Value) (x:Str):Prop:=mg x=none
section
variable {X:Cx}{CX:CXT}{k:Nat}{x:Str}{ps:List Str}{sp:Sp}{p pos:Pos}{e:Expr}{es:List Expr}{t:TA}{tg:Expr}
theorem zC_ (G:Gd X.prog X.w X.K X.mg X.base CX0 k x ps sp) (hr:Room k X.A) (ha:PA X (e::es) t) (hg:Gl X x:=by rfl) (hdb:(x == ("__debug__" : Str))=false:=by decide)
  (he:starEach (e::es) X.env=(false,eval e X.env)::starEach es X.env:=by rfl) (hpl:(backTo pos (starEach es X.env)).any (·.1)=false:=by rfl) :
  PE X (.Call (.Name x p) (e::es) [] pos) (tCall sp [] E0 t):=by
 obtain ⟨f,fd,F,hm,hk,hb⟩:=G
 exact znH_ F hr hg hm hk hb .nil pass0 ha hdb he hpl
theorem zk3_ (G:Gd X.prog X.w X.K X.mg X.base CX0 k x ps sp) (hr:Room k X.A) (hg:Gl X x:=by rfl) (hdb:(x == ("__debug__" : Str))=false:=by decide) :
  PE X (.Call (.Name x p) [] [] pos) (tCall sp [] E0 tNil):=by
 obtain ⟨f,fd,F,hm,hk,hb⟩:=G
 exact zmn_ F hr hg hm hk hb .nil pass0 hdb
theorem znq_ {v:V}(h:Gc X.mg x v) (hg:Gl X x:=by rfl) (hd:(x == ("__debug__" : Str))=false:=by decide):PE X (.Name x pos) (tC v):=by
 obtain ⟨u,hm,r⟩:=h
 exact zlq_ hg hm r hd
theorem pe_ty (T:String) (hm:Gb X.mg x) (hg:Gl X x:=by rfl) (hv:bootBuiltins x=some (.type T):=by rfl) (hn:x ≠ "__name__" := by decide) (hd:(x == ("__debug__" : Str))=false:=by decide):PE X (.Name x pos) (tC (.ty T)) :=
 zoP_ hg hm hv rfl hn hd
theorem zix_ {id:String}{r:List V→Hp→VK→Prop}(hc:CallR X (.builtin id) r) (hm:Gb X.mg x) (ha:PA X (e::es) t) (hg:Gl X x:=by rfl) (hv:bootBuiltins x=some (.builtin id):=by rfl) (hn:x ≠ "__name__" := by decide) (hdb:(x == ("__debug__" : Str))=false:=by decide)
  (hs:starEach (e::es) X.env=(false,eval e X.env)::starEach es X.env:=by rfl) (hpl:(backTo pos (starEach es X.env)).any (·.1)=false:=by rfl):PE X (.Call (.Name x p) (e::es) [] pos) (tCB r t) :=
 zm3_ hc hg hm hv ha hn hdb hs hpl
theorem znl_ {o:Expr}{to:TE}{name:Str}{id:String}{r:V→List V→Hp→VK→Prop}{apos cpos:Pos}(slot:Slot "str" name id) (hty:typeOf (.builtin id)=pure (.type "method_descriptor")) (hm:MtR X id r) (ho:PE X o to) (ha:PA X (e::es) t)
  (h1:attributeBase o name X.env (eval o X.env)=eval o X.env:=by rfl) (h2:((((backTo cpos (starEach (e::es) X.env)).all fun x=>!x.fst) && (backToKw cpos (keywordEach [] X.env)).all fun x=>x.fst.isSome) && decide (((e::es).length+([]:List Keyword).length+if ([]:List Keyword).isEmpty=true then 0 else 1)<30))=true:=by rfl)
  (h3:(apos.endLine == cpos.line)=true:=by rfl) (h4:starEach (e::es) X.env=(false,eval e X.env)::starEach es X.env:=by rfl) (h5:((backTo cpos (starEach es X.env)).any fun x=>x.fst)=false:=by rfl) :
  PE X (.Call (.Attribute o name apos) (e::es) [] cpos) (tBM X.K "str" r to t):=zg6_ PySem.F.plainAttrs_str slot hty hm ho ha h1 h2 h3 h4 h5
def iAny (K:Fgg) (tl:TE):TI:=fun σ H R=>tl σ H fun x H1=>match x with
 | .str z=>R (Itp z.cps.toList.length (fun i=>tx [z.cps.toList.getD i 0])) H1
 | .ref a=>((∃ xs,SqL K H1 a xs)∧R (Itl K a) H1)∨((∃ xs,SqT K H1 a xs)∧R (Itt K a) H1)
 | _=>False
theorem zpG_ (z:Str):sgn z=fun i=>tx [z.cps.toList.getD i 0]:=by
 funext i
 unfold sgn
 simp [Array.getD_eq_getD_getElem?,List.getD_eq_getElem?_getD]
theorem zdv_ {l:Expr}{tl:TE}(hl:PE X l tl):PI X tg l (iAny X.K tl):=by
 intro pins s σ H R I h
 refine thn (hl pins s σ H _ I h) fun v s1 hq_=>?_
 obtain ⟨x,H1,I1,r1,q1⟩:=hq_
 have pt:∀ (v:V),PE X l (tC v)→PE X l (tC v):=fun _ h=>h
 cases x with
 | str z =>
  obtain ⟨t,rfl⟩:=r1
  refine wpAny_pyIter_strU ?_
  have q:R (Itp z.cps.size (sgn z)) H1:=by
   have e:z.cps.toList.length=z.cps.size:=by simp
   rw [zpG_,← e]
   exact q1
  refine ⟨s1.heap.objs.size,[s1.heap.objs.size],_,_,H1,rfl,I1.kept (t':=s1.toks) fun b o e=>Heap.get?_push_of_some _ e,zl8_ _ z t,⟨Nat.zero_le _,⟨_,Heap.get?_push_size _ rfl,rfl,rfl⟩⟩,fun b hb=>?_,q⟩
  have e:b=s1.heap.objs.size:=by simpa using hb
  subst e
  exact I1.fpOk (Nat.le_refl _) (I1.hok.fresh (Nat.le_refl _))
 | ref a =>
  cases r1
  rcases q1 with ⟨⟨xs,hq⟩,q⟩ | ⟨⟨xs,hq⟩,q⟩
  ·obtain ⟨its,rv,p,hz⟩:=I1.list hq
   refine wpAny_pyIter_list p.isList ?_
   refine ⟨s1.heap.objs.size,[s1.heap.objs.size],_,_,H1,rfl,I1.kept (t':=s1.toks) fun b o e=>Heap.get?_push_of_some _ e,zkL_ a _,⟨_,Heap.get?_push_size _ rfl,rfl,rfl⟩,fun b hb=>?_,q⟩
   have e:b=s1.heap.objs.size:=by simpa using hb
   subst e
   exact I1.fpOk (Nat.le_refl _) (I1.hok.fresh (Nat.le_refl _))
  ·obtain ⟨its,rv,p,hz⟩:=I1.tuple hq
   refine wpAny_pyIter_tuple (show s1.heap.IsTuple a its.toArray from p) ?_
   refine ⟨s1.heap.objs.size,[s1.heap.objs.size],_,_,H1,rfl,I1.kept (t':=s1.toks) fun b o e=>Heap.get?_push_of_some _ e,zi5_ a _,⟨_,Heap.get?_push_size _ rfl,rfl,rfl⟩,fun b hb=>?_,q⟩
   have e:b=s1.heap.objs.size:=by simpa using hb
   subst e
   exact I1.fpOk (Nat.le_refl _) (I1.hok.fresh (Nat.le_refl _))
 | _=>exact q1.elim
def mRng1 (ta:TA):TI:=fun σ H R=>ta σ H fun vs H1=>match vs with | [.int j] => -(2 ^ 62)≤j∧j<2 ^ 62∧R (Itr 0 j.toNat) H1 | _=>False
end
section
variable {X:Cx}{tg:Expr}
theorem zcS_ {a:Expr}{ta:TA}{p pos:Pos}(hm:Gb X.mg "range") (ha:PA X [a] ta) (hg:Gl X "range" := by rfl) (hs:starEach [a] X.env=[(false,eval a X.env)]:=by rfl):PI X tg (.Call (.Name "range" p) [a] [] pos) (mRng1 ta):=by
 intro pins s σ H R I h
 refine Call_ (zhh_ I hg hm boot_range (PyProof.Rows.callWith_type1 (thn (ha pos pins s σ H _ I h) fun us s1 hq_=>?_) hs rfl))
 obtain ⟨vs,H1,I1,r1,q1⟩:=hq_
 try dsimp only at q1
 split at q1
 ·obtain ⟨q2,q3,q⟩:=q1
  cases r1 with
  | cons r rr =>
   cases rr
   obtain ⟨t,rfl⟩:=r
   exact call_range_1 (zl7_ I1 (by lia) (by lia) q2 q3 (by simpa using q))
 ·exact q1.elim
variable {elts:List Expr}{kk:Nat}{tpos:Pos}
def gNilM:TGs:=fun vs σ H Q=>match vs with | []=>Q σ H | _=>False
def gConsM (t:TG) (u:TGs):TGs:=fun vs σ H Q=>match vs with | v::r=>t v σ H fun σ' H'=>u r σ' H' Q | []=>False
theorem zdI_:PGs X [] gNilM:=by
 intro pins s σ H vs us Q I r h
 cases vs with
 | nil=>exact znK_ pins s σ H [] us Q I r ⟨rfl,h⟩
 | cons _ _=>exact h.elim
theorem zas_ {e:Expr}{es:List Expr}{t:TG}{u:TGs}(h1:PG X e t) (h2:PGs X es u)
  (hs:(assignEach (e::es) X.env).map (·.2)=assign e X.env::(assignEach es X.env).map (·.2):=by rfl):PGs X (e::es) (gConsM t u):=by
 intro pins s σ H vs us Q I r h
 cases vs with
 | nil=>exact h.elim
 | cons v vr=>exact zmH_ h1 h2 hs pins s σ H _ us Q I r ⟨v,vr,rfl,h⟩
def gTupM (K:Fgg) (n:Nat) (t:TGs):TG:=fun v σ H Q=>match v with | .ref a=>∃ xs,SqT K H a xs∧xs.length=n∧t xs σ H Q | _=>False
theorem zga_ {es:List Expr}{k:Nat}{t:TGs}{n:Nat}{pos:Pos}(hc:X.calm=true) (h:PGs X es t)
  (hn:(assignEach es X.env).length=n:=by rfl) (hst:(assignEach es X.env).findIdx? (·.1)=none:=by rfl):PG X (.Tuple es k pos) (gTupM X.K n t):=by
 intro pins s σ H v u Q I r hw
 cases v with
 | ref a =>
  obtain ⟨xs,h1,h2,h3⟩:=hw
  exact zpB_ hc h hn hst pins s σ H _ u Q I r ⟨a,xs,rfl,h1,h2,h3⟩
 | _=>exact hw.elim
def mNeg (ta:TE):TE:=fun σ H Q=>ta σ H fun x H1=>match x with | .int i=>Q (.int (-i)) H1 | _=>False
theorem zpn_ {a:Expr}{ta:TE}{pos:Pos}(ha:PE X a ta):PE X (.UnaryOp .USub a pos) (mNeg ta):=by
 intro pins s σ H Q I h
 refine UnaryOp_ (thn (ha pins s σ H _ I h) fun v s1 hq_=>?_)
 obtain ⟨x,H1,I1,r1,q1⟩:=hq_
 cases x with
 | int i=>exact zpZ_ pins s1 σ H1 _ v Q I1 r1 ⟨i,rfl,q1⟩
 | _=>exact q1.elim
end
theorem zeE_ {H:Hp}{p:Addr}(h:H p=none) (o:HO):Same H (upd H p o):=fun b u q=>by rw [z7_ (zbL_ q h)]; exact q
end L2
namespace L2
open PySem PySem.Spec PyProof.Rows
theorem zdL_ {n:Nat}(h:n≤100000):n≤sizeLine:=by rw [sizeLine_eq]; lia
theorem zeY_ {zs:List Str}{sep:Str}(h:zs.length*(sep.length+1)≤100000) (h1:∀ z∈zs,z.length≤1):JoinOk sep zs=true:=by
 unfold JoinOk
 have key:∀ (l:List Str) (acc:Nat),(∀ z∈l,z.length≤1)→l.foldl (fun x1 x2=>x1+x2.length+sep.length) acc≤acc+l.length*(sep.length+1):=by
  intro l
  induction l with
  | nil=>intro acc _; simp
  | cons z r ih =>
   intro acc hz
   rw [List.foldl_cons]
   have h2:=ih (acc+z.length+sep.length) fun y hy=>hz y (List.mem_cons_of_mem _ hy)
   have h3:=hz z List.mem_cons_self
   rw [List.length_cons,Nat.add_mul]
   omega
 have q:=key zs 0 h1
 rw [List.foldl_toArray]
 unfold Builtin.Str.tooLong
 simp only [Bool.not_eq_true',decide_eq_false_iff_not]
 have:zs.foldl (fun x1 x2=>x1+x2.length+sep.length) 0≤100000:=by omega
 have hl:(100000:Nat)≤sizeLine:=by rw [sizeLine_eq]; omega
 omega
end L2
namespace L2
open PySem PySem.Spec PyProof.Rows
section
variable {X:Cx}{tg:Expr}
theorem ziD_ {P:Program}{w:World}{K:Fgg}{tg:Expr}(it:Addr) (lo c:Int) (n:Nat) :
  Turn P w K tg (Itp n fun i=>.int (lo+i*c)) [it] it (fun i h=>i≤n∧IsRangeIter h it (lo+(i:Nat)*c) ((n:Int)-(i:Nat)) c):=by
 refine zh6_ (Pw:=fun i v=>∃ t,v=.int (lo+i*c) t) (fun A hA=>Walks.range hA it lo c n) (fun i v _ h=>h) (fun i h st=>⟨_,_,_,st,rfl,rfl,by decide⟩) (fun A i s Q E st h=>wpAny_pyIter_rangeiter st h) (fun i h h' st k=>k it (by simp) _ st)
theorem zc4_ (a b:Int):Builtin.Range.rangeSize a b (-1)=(((a-b).toNat:Nat):Int):=by
 unfold Builtin.Range.rangeSize
 rw [if_neg (by decide)]
 split
 ·have e:(a-b-1) / (- -1)=a-b-1:=by
   have:(- -1:Int)=1:=by decide
   rw [this,Int.ediv_one]
  rw [e]; lia
 ·lia
theorem zjW_ {a b:Int}(ha : -(2 ^ 61)≤a) (ha':a<2 ^ 61) (hb : -(2 ^ 61)≤b) (hb':b<2 ^ 61):Builtin.Range.small a b (-1)=true:=by
 unfold Builtin.Range.small
 rw [zc4_]
 simp only [Builtin.Range.rangeFitsLong,Bool.and_eq_true,Bool.or_eq_true,decide_eq_true_eq,beq_iff_eq,show ¬ ((-1:Int) > 0) by decide,if_false]
 omega
def mRng3 (ta:TA):TI:=fun σ H R=>ta σ H fun vs H1=>match vs with
 | [.int i,.int j,.int c]=>c = -1∧(-(2 ^ 61)≤i∧i<2 ^ 61 ∧ -(2 ^ 61)≤j∧j<2 ^ 61)∧R (Itp (i-j).toNat fun k=>.int (i+k*(-1))) H1
 | _=>False
theorem zmI_ {a b c:Expr}{ta:TA}{p pos:Pos}(hm:Gb X.mg "range") (ha:PA X [a,b,c] ta) (hg:Gl X "range" := by rfl)
  (hs:starEach [a,b,c] X.env=(false,eval a X.env)::starEach [b,c] X.env:=by rfl) (hpl:(backTo pos (starEach [b,c] X.env)).any (·.1)=false:=by rfl) :
  PI X tg (.Call (.Name "range" p) [a,b,c] [] pos) (mRng3 ta):=by
 intro pins s σ H R I h
 refine Call_ (zhh_ I hg hm boot_range (PyProof.Rows.callWith_type1 (thn (ha pos pins s σ H _ I h) fun us s1 hq_=>?_) hs hpl))
 obtain ⟨vs,H1,I1,r1,q1⟩:=hq_
 try dsimp only at q1
 split at q1
 ·rename_i i j c
  obtain ⟨rfl,⟨q1,q2,q3,q4⟩,q⟩:=q1
  cases r1 with
  | cons r rr =>
   cases rr with
   | cons r' rr =>
    cases rr with
    | cons r'' rr =>
     cases rr
     obtain ⟨t,rfl⟩:=r
     obtain ⟨t',rfl⟩:=r'
     obtain ⟨t'',rfl⟩:=r''
     refine call_range_3 (by decide) ?_ (.inl (PyProof.noPylong_small (by decide)))
     refine wpAny_pyIter_range (IsRange.new ..) (zjW_ q1 q2 q3 q4) ?_
     have I2:Inv X pins σ H1 { s1 with heap:=s1.heap.push { cls:=.type "range",data:=.fields #[.int i t,.int j t',.int (-1) t''] },toks:=s1.toks }:=I1.kept fun b o e=>Heap.get?_push_of_some _ e
     refine ⟨(s1.heap.push { cls:=.type "range",data:=.fields #[.int i t,.int j t',.int (-1) t''] }).objs.size,[(s1.heap.push { cls:=.type "range",data:=.fields #[.int i t,.int j t',.int (-1) t''] }).objs.size],_,_,H1,rfl,
      I2.kept (t':=s1.toks) fun b o e=>Heap.get?_push_of_some _ e,ziD_ _ i (-1) (i-j).toNat,⟨Nat.zero_le _,?_⟩,fun b hb=>?_,q⟩
     ·have e1:i+((0:Nat):Int)*(-1)=i:=by simp
      have e2:(((i-j).toNat:Nat):Int)-((0:Nat):Int)=Builtin.Range.rangeSize i j (-1):=by rw [zc4_]; simp
      rw [e1,e2]
      exact Heap.get?_push_size _ rfl
     ·have e:b=(s1.heap.push { cls:=.type "range",data:=.fields #[.int i t,.int j t',.int (-1) t''] }).objs.size:=by simpa using hb
      subst e
      exact I2.fpOk (Nat.le_refl _) (I2.hok.fresh (Nat.le_refl _))
 ·exact q1.elim
def mSet:TSet:=fun o i v H Q=>match i with
 | .int k=>(match o with
  | .ref p=>∃ xs,H p=some (.lst xs)∧(match ixN xs.length k with | some j=>Q (upd H p (.lst (xs.set j v))) | none=>False)
  | _=>False)
 | _=>False
theorem set_M:PSet X mSet:=by
 intro pins s σ H o i v ov iv u Q I ro ri rv h
 unfold mSet at h
 cases i with
 | int k =>
  cases o with
  | ref p =>
   obtain ⟨xs,h1,h⟩:=h
   cases e:ixN xs.length k with
   | none=>rw [e] at h; exact h.elim
   | some j =>
    rw [e] at h
    exact zmw_ pins s σ H _ _ v ov iv u Q I ro ri rv ⟨p,xs,k,j,rfl,rfl,h1,e,h⟩
  | _=>exact h.elim
 | _=>exact h.elim
theorem zg7_ {n:Nat}{k:Int}(h0:0≤k) (h1:k<n):ixN n k=some k.toNat:=by unfold ixN; rw [if_pos h0,if_pos h1]
def strI (i:Int):List Nat:=(Str.ofString (toString i)).cps.toList
def mStr:List V→Hp→VK→Prop:=fun xs H Q=>match xs with | [.int i]=>i.natAbs.log2<1920∧Q (tx (strI i)) H | _=>False
theorem zh4_:CallR X (.type "str") mStr:=by
 intro pins s σ H xs us Q I r h
 unfold mStr at h
 split at h
 ·rename_i i
  refine zha_ pins s σ H _ us Q I r ⟨i,rfl,h.1,?_⟩
  have e:tx (strI i)=V.str (Str.ofString (toString i)):=by unfold strI tx; rw [← zbD_]
  rw [← e]
  exact h.2
 ·exact h.elim
def mZfill:V→List V→Hp→VK→Prop:=fun x xs H Q=>match x,xs with | .str l,[.int i]=>PadOk i=true∧Q (tx (Txt.zfill l i).cps.toList) H | _,_=>False
theorem zju_:MtR X "str.zfill" mZfill:=by
 intro pins s σ H x xs v us Q I rx rv h
 have hi:∃ l i,x=.str l∧xs=[.int i]∧PadOk i=true∧Q (tx (Txt.zfill l i).cps.toList) H:=by
  cases x with
  | str l =>
   rcases xs with _ | ⟨y,_ | ⟨z,t⟩⟩
   ·exact False.elim h
   ·cases y with
    | int t=>exact ⟨l,t,rfl,rfl,h⟩
    | _=>exact False.elim h
   ·cases y<;>exact False.elim h
  | _=>exact False.elim h
 obtain ⟨l,i,rfl,rfl,h⟩:=hi
 obtain ⟨k,rfl⟩:=rx
 obtain ⟨u,rfl,ru⟩:=rv.one
 obtain ⟨k',rfl⟩:=ru
 exact SC.zfill h.1 fun t' k=>⟨tx (Txt.zfill l i).cps.toList,H,I.tok _,⟨t',by rw [← zbD_]⟩,h.2⟩
end
section
variable {X:Cx}{x:Str}{p pos:Pos}{e:Expr}{es:List Expr}{t:TA}
theorem zkq_ (T:String) {r:List V→Hp→VK→Prop}(hc:CallR X (.type T) r) (hm:Gb X.mg x) (ha:PA X (e::es) t) (hg:Gl X x:=by rfl) (hv:bootBuiltins x=some (.type T):=by rfl) (hn:x ≠ "__name__" := by decide) (hdb:(x == ("__debug__" : Str))=false:=by decide)
  (hs:starEach (e::es) X.env=(false,eval e X.env)::starEach es X.env:=by rfl) (hpl:(backTo pos (starEach es X.env)).any (·.1)=false:=by rfl):PE X (.Call (.Name x p) (e::es) [] pos) (tCB r t) :=
 zkO_ hc hg hm hv ha hn hdb hs hpl
end
theorem zim_ {i:Int}(h0 : -1000≤i) (h1:i≤1000):PadOk i=true:=by
 unfold PadOk fitsSsize Builtin.Str.tooLong
 have h3:(100000:Nat)≤sizeLine:=by rw [sizeLine_eq]; lia
 simp only [Bool.and_eq_true,Bool.not_eq_true',decide_eq_true_eq,decide_eq_false_iff_not,Bool.or_eq_false_iff]
 lia
def digs:Nat→Nat→List Nat
 | 0,_=>[]
 | w+1,n=>digs w (n / 10)++[48+n % 10]
theorem zcG_:∀ (w n:Nat),(digs w n).length=w
 | 0,_=>rfl
 | w+1,n=>by rw [digs,List.length_append,zcG_ w]; rfl
theorem zhB_:∀ (w:Nat),digs w 0=List.replicate w 48
 | 0=>rfl
 | w+1=>by rw [digs,zhB_ w,List.replicate_succ']
end L2
namespace L2
open PySem PySem.Spec PyProof.Rows
def dg (m:Nat):List Nat:=(Nat.toDigits 10 m).map Char.toNat
theorem ziU_ (m:Nat):strI (m:Int)=dg m:=PySem.W.KIN.signs_num m
theorem zgk_:∀ d:Nat,d<10→(Nat.digitChar d).toNat=48+d:=by decide
theorem zp3_ {m:Nat}(h:m<10):dg m=[48+m]:=by
 unfold dg
 rw [Nat.toDigits_of_lt_base h]
 show [(Nat.digitChar m).toNat]=_
 rw [zgk_ m h]
theorem dg_ge {m:Nat}(h:¬ m<10):dg m=dg (m / 10)++[48+m % 10]:=by
 unfold dg
 have hm:m % 10<10:=Nat.mod_lt m (by decide)
 have t:Nat.toDigits 10 (m / 10)++Nat.toDigits 10 (m % 10)=Nat.toDigits 10 (10*(m / 10)+m % 10):=Nat.toDigits_append_toDigits (by decide) (by lia) hm
 rw [Nat.div_add_mod] at t
 rw [← t,List.map_append,Nat.toDigits_of_lt_base hm]
 show _++[(Nat.digitChar (m % 10)).toNat]=_
 rw [zgk_ _ hm]
theorem zot_:∀ (w m:Nat),m<10 ^ (w+1)→(dg m).length≤w+1∧List.replicate (w+1-(dg m).length) 48++dg m=digs (w+1) m
 | w,m,h=>by
  by_cases hm:m<10
  ·rw [zp3_ hm]
   refine ⟨by show 1≤w+1; lia,?_⟩
   rw [digs,show m / 10=0 by lia,zhB_,show m % 10=m by lia]
   rfl
  ·cases w with
   | zero=>exact absurd h (by simpa using hm)
   | succ w =>
    have hd:m / 10<10 ^ (w+1):=by
     rw [Nat.div_lt_iff_lt_mul (by decide)]
     rw [Nat.pow_succ] at h
     exact h
    obtain ⟨h1,h2⟩:=zot_ w (m / 10) hd
    rw [dg_ge hm]
    refine ⟨by rw [List.length_append]; show _+1≤_; lia,?_⟩
    have e:digs (w+1+1) m=digs (w+1) (m / 10)++[48+m % 10]:=rfl
    rw [e,← h2,List.append_assoc,List.length_append]
    have e2:w+1+1-((dg (m / 10)).length+[48+m % 10].length)=w+1-(dg (m / 10)).length:=by
     show w+1+1-((dg (m / 10)).length+1)=_
     lia
    rw [e2]
theorem znr_ (m:Nat):∃ c r,dg m=c::r∧48≤c:=by
 induction m using Nat.strongRecOn with
 | _ m ih =>
  by_cases h:m<10
  ·exact ⟨48+m,[],zp3_ h,by lia⟩
  ·obtain ⟨c,r,e,hc⟩:=ih (m / 10) (by lia)
   exact ⟨c,r++[48+m % 10],by rw [dg_ge h,e]; rfl,hc⟩
theorem zjv_ {w m:Nat}(hw:1≤w) (h:m<10 ^ w):(Txt.zfill ⟨(dg m).toArray⟩ (w:Int)).cps.toList=digs w m:=by
 obtain ⟨w',rfl⟩:∃ w',w=w'+1:=⟨w-1,by lia⟩
 obtain ⟨h1,h2⟩:=zot_ w' m h
 have hl:(⟨(dg m).toArray⟩:Str).length=(dg m).length:=by simp [Str.length]
 unfold Txt.zfill
 rw [hl]
 by_cases he:((w'+1:Nat):Int)≤((dg m).length:Int)
 ·rw [if_pos he]
  have e:(dg m).length=w'+1:=by lia
  rw [← h2,e,Nat.sub_self]
  simp
 ·rw [if_neg he]
  obtain ⟨c,r,ec,hc⟩:=znr_ m
  have e:zfilled ⟨(dg m).toArray⟩ ((((w'+1:Nat):Int)).toNat-(dg m).length)=Builtin.Str.padded ⟨(dg m).toArray⟩ ((((w'+1:Nat):Int)).toNat-(dg m).length) 0 48:=by
   unfold zfilled
   have e0:((⟨(dg m).toArray⟩:Str).cps)[0]?=some c:=by rw [ec]; simp
   rw [e0]
   split
   ·rename_i h'; cases h'; lia
   ·rename_i h'; cases h'; lia
   ·rfl
  rw [e]
  unfold Builtin.Str.padded
  rw [← h2]
  simp
theorem zkU_ (l:List Nat):joinS [] (l.map fun c=>(⟨#[c]⟩:Str))=l:=by
 rw [L2.zmS_,List.map_map]
 induction l with
 | nil=>rfl
 | cons c r ih=>rw [List.map_cons,List.flatten_cons,ih]; rfl
end L2
namespace L2
open PySem PySem.Spec PyProof.Rows
def fig (c:Nat):Nat:=if 48≤c∧c≤57 then c else 48
def numL (l:List Nat):Int:=l.foldl (fun (v:Int) (c:Nat)=>v*10+((c:Int)-48)) 0
theorem ziK_ {c:Nat}(h:48≤c∧c≤57):findS [48,49,50,51,52,53,54,55,56,57] [c]=(c:Int)-48:=by
 rw [zmh_]
 obtain ⟨h1,h2⟩:=h
 have:c=48∨c=49∨c=50∨c=51∨c=52∨c=53∨c=54∨c=55∨c=56∨c=57:=by lia
 rcases this with rfl | rfl | rfl | rfl | rfl | rfl | rfl | rfl | rfl | rfl<;>rfl
theorem zkT_ (c:Nat):inS [c] [48,49,50,51,52,53,54,55,56,57]=decide (48≤c∧c≤57):=by
 show decide (c∈[48,49,50,51,52,53,54,55,56,57])=_
 have h1:∀ x∈[48,49,50,51,52,53,54,55,56,57],48≤x∧x≤57:=by decide
 have h2:∀ k,k<10→48+k∈[48,49,50,51,52,53,54,55,56,57]:=by decide
 rw [decide_eq_decide]
 refine ⟨h1 c,fun h=>?_⟩
 have e:48+(c-48)=c:=Nat.add_sub_cancel' h.1
 rw [← e]
 exact h2 _ (Nat.lt_succ_of_le (Nat.sub_le_of_le_add h.2))
theorem zhC_ (c:Nat):48≤fig c∧fig c≤57:=by unfold fig; split<;>omega
end L2
namespace L2
open PySem PySem.Spec PyProof.Rows
structure FlyX (x T C:Addr) (H:Hp) (hb h:Heap):Prop where
 obj:∃ oe vs a0 oT ts,h.get? x=some oe∧(oe.cls=.ref C∧vs[0]?=some a0)∧oe.data=.fields vs∧vs[1]?=some (.ref T)∧T≠x∧h.get? T=some oT∧oT.data=.fields ts∧ts[3]?=some .none
 hx:H x=none
 hT:H T=none
 nx:hb.get? x=none
 nT:hb.get? T=none
def CXx (P:Program) (w:World):CXT:=fun outer H s E e s'=>∃ x T C H',e=.ref x∧s'.os=s.os∧AllBare s'.gens∧Un (frs outer) [] H H' s.heap s'.heap∧HOk P w H' s'.heap ∧
 FlyX x T C H' s.heap s'.heap∧E (.ref C) none H'
section
variable {X:Cx}{pins:Pnn}{σ:St}{H:Hp}{s:Shared}
end
section
variable {P:Program}{w:World}{K:Fgg}{mg:Str→Option Value}{base:Heap}{N:List Str}{qual:Str}{scope:Scope}{f:Addr}{cd:Value}{A:Around}{outer:List Env}{s0:Shared}{H0:Hp}{E:XK}
end
end L2
namespace L2
open PySem PySem.Spec PyProof.Rows
def gA (K:Fgg) (x:Str):Addr:=match PySem.W.nsIn K mainGlobals x with | some (some (.ref c))=>c | _=>0
theorem zmK_ {K:Fgg}{x:Str}{c:Addr}(h:PySem.W.nsIn K mainGlobals x=some (some (.ref c))):gA K x=c:=by unfold gA; rw [h]
section
variable {X:Cx}{E:XK}{C:Addr}{x:Str}{e:Expr}{es:List Expr}{t:TA}{np cpos pos:Pos}
end
section
variable {X:Cx}{a:Expr}{ta:TE}{pos:Pos}
def mFmt:V→Hp→VK→Prop:=fun x H Q=>match x with | .str z=>z.length≤sizeLine∧Q (.str z) H | .int i=>i.natAbs.log2<1920∧Q (tx (strI i)) H | _=>False
theorem znY_ (ha:PE X a ta):PE X (.FormattedValue a (-1) none pos) (tUn mFmt ta):=by
 intro pins s σ H Q I h
 refine wpAny_FormattedValue_plain (thn (ha pins s σ H _ I h) fun v s1 hq_=>?_)
 obtain ⟨x,H1,I1,r1,q1⟩:=hq_
 cases x with
 | str z =>
  obtain ⟨k,rfl⟩:=r1
  exact wpAny_formatField_str ⟨.str z,H1,I1,⟨_,rfl⟩,q1.2⟩ ⟨.str z,H1,I1.tok _,⟨_,rfl⟩,q1.2⟩ q1.1
 | int i =>
  obtain ⟨k,rfl⟩:=r1
  refine wpAny_formatField_int q1.1 ⟨tx (strI i),H1,I1.tok _,⟨s1.toks+1,?_⟩,q1.2⟩
  unfold strI
  rw [← zbD_]
 | _=>exact q1.elim
abbrev TJ:=Str→St→Hp→(Str→Hp→Prop)→Prop
def PJ (X:Cx) (vs:List Expr) (t:TJ):Prop:=∀ (acc:Str) (pins:Pnn) (s:Shared) (σ:St) (H:Hp) (Q:Str→Shared→Prop) (R:Str→Hp→Prop),Inv X pins σ H s→t acc σ H R→(∀ out s1 H1,Inv X pins σ H1 s1→R out H1→Q out s1) →
 Joins (model X.prog X.w) X.A X.xe (evalEach vs X.env) acc Q s
def tJ0:TJ:=fun acc _ H R=>R acc H
def tJ1 (ta:TE) (tr:TJ):TJ:=fun acc σ H R=>ta σ H fun x H1=>match x with | .str z=>(acc++z).length≤sizeLine∧tr (acc++z) σ H1 R | _=>False
theorem zpO_:PJ X [] tJ0:=fun acc pins s σ H Q R I h hq=>hq acc s H I h
theorem zkn_ {vs:List Expr}{tr:TJ}(ha:PE X a ta) (hr:PJ X vs tr) (he:evalEach (a::vs) X.env=eval a X.env::evalEach vs X.env:=by rfl):PJ X (a::vs) (tJ1 ta tr):=by
 intro acc pins s σ H Q R I h hq
 rw [he]
 refine wpAny_mono (ha pins s σ H _ I h) (fun v s1 q=>?_) fun _ _ y=>y
 obtain ⟨x,H1,I1,r1,q1⟩:=q
 cases x with
 | str z =>
  obtain ⟨k,rfl⟩:=r1
  exact ⟨z,k,rfl,q1.1,hr (acc++z) pins s1 σ H1 Q R I1 q1.2 hq⟩
 | _=>exact q1.elim
def tJoin (tj:TJ):TE:=fun σ H Q=>tj Str.empty σ H fun out H1=>out.length≤sizeLine∧Q (.str out) H1
theorem zld_ {b:Expr}{vs:List Expr}{tj:TJ}(h:PJ X (a::b::vs) tj):PE X (.JoinedStr (a::b::vs) pos) (tJoin tj):=by
 intro pins s σ H Q I q
 refine wpAny_JoinedStr (h Str.empty pins s σ H _ _ I q fun out s1 H1 I1 q1=>⟨q1.1,.str out,H1,I1.tok _,⟨_,rfl⟩,q1.2⟩)
end
end L2
namespace LX
open PySem PySem.W PySem.Calls PyProof.Rows Builtin Builtin.ObjectAttr Builtin.Getset_descriptor
section
variable {prog:Program}{w:World}{A:Around}{K:Frag}{x D:Addr}
end
end LX
namespace L2
open PySem PySem.Spec PyProof.Rows
end L2
namespace L2
open PySem PySem.Spec PyProof.Rows
section
variable {X:Cx}{k:Nat}{x:Str}{ps:List Str}{sp:Sp}{E:XK}{p pos:Pos}{e:Expr}{es:List Expr}{t:TA}
end
def XP (X:Cx) (pins:Pnn) (W:St→XK) (e:Value) (s':Shared):Prop:=∃ σ' Hb sb,Inv X pins σ' Hb sb∧CXx X.prog X.w X.stack Hb sb (W σ') e s'
abbrev TX:=Ends→(St→XK)→St→Hp→Prop
section
variable {X:Cx}{st:Stmt}{rest:List Stmt}{t u:TX}{k:Nat}{x:Str}{ps:List Str}{sp:Sp}{p pos pos':Pos}{e:Expr}{es:List Expr}{ta:TA}
end
section
variable {X:Cx}{pins:Pnn}{σ:St}{Hb H':Hp}{sb s1:Shared}{x T C:Addr}
end
end L2
namespace L2
open PySem PySem.Spec PyProof.Rows
section
variable {X:Cx}{body:List Stmt}{tb:TX}{ts:TS}{S:Addr}{sx n:Str}{i:Nat}{b₀:Stmt}{suite:List Stmt}{np hpos pos:Pos}
end
end L2
namespace L2
open PySem PySem.Spec PyProof.Rows
section
variable {P:Program}{w:World}{K:Fgg}{mg:Str→Option Value}{base:Heap}
end
section
variable {X:Cx}{k:Nat}{x:Str}{ps:List Str}{sp:Sp}{p pos:Pos}{e:Expr}{es:List Expr}{t:TA}
end
end L2
namespace L2
open PySem PySem.Spec PyProof.Rows
section
variable {X:Cx}{k:Nat}{x:Str}{ps:List Str}{sp:Sp}{p pos pos':Pos}{e:Expr}{es:List Expr}{ta:TA}{i:Nat}{y:Str}{py:Pos}
end
def SG:List Nat:=[32,48,49,50,51,52,53,54,55,56,57,65,66,67,68,69,70,71,72,73,74,75,76,77,78,79,80,81,82,83,84,85,86,87,88,89,90]
def rk (l:List Nat):Option Nat:=match l with | [c]=>SG.findIdx? (· == c) | _=>none
end L2
namespace L2
open PySem PySem.Spec PyProof.Rows
section
variable {X:Cx}
end
section
variable {X:Cx}
def intsV (lo hi:Int):List V:=(List.range (hi-lo).toNat).map fun (i:Nat)=>V.int (lo+i)
def mList (K:Fgg):List V→Hp→VK→Prop:=fun xs H Q=>match xs with
 | [.ref p]=>(∃ ys,(SqL K H p ys∨SqT K H p ys)∧∀ l,H l=none→Q (.ref l) (upd H l (.lst ys))) ∨
   (∃ lo hi,H p=some (.rng lo hi)∧(-50000≤lo∧lo≤50000 ∧ -50000≤hi∧hi≤50000)∧∀ l,H l=none→Q (.ref l) (upd H l (.lst (intsV lo hi))))
 | _=>False
theorem zmG_ {lo:Int}:∀ {n:Nat}{us:List Value},us.length=n→(∀ (j:Nat) (v:Value),us[j]?=some v→∃ t,v=Value.int (lo+j) t)→Vals ((List.range n).map fun (i:Nat)=>V.int (lo+i)) us
 | n,us,hl,h=>by
  refine paired_of (by rw [List.length_map,List.length_range,hl]) fun j x u hx hu=>?_
  rw [List.getElem?_map] at hx
  cases e:(List.range n)[j]? with
  | none=>rw [e] at hx; cases hx
  | some i =>
   rw [e] at hx; cases hx
   have:=List.getElem?_eq_some_iff.mp e
   obtain ⟨hj,ej⟩:=this
   rw [List.getElem_range] at ej
   subst ej
   exact h j u hu
 where paired_of:∀ {xs:List V}{us:List Value},xs.length=us.length→(∀ (j:Nat) x u,xs[j]?=some x→us[j]?=some u→RelV x u)→Vals xs us
 | [],[],_,_=>.nil
 | x::xs,u::us,hl,h=>.cons (h 0 x u rfl rfl) (paired_of (Nat.succ.inj hl) fun j x u a b=>h (j+1) x u a b)
theorem za9_ (hc:X.calm=true):CallR X (.type "list") (mList X.K):=by
 intro pins s σ H xs us Q I r h
 have hv:∃ p,xs=[.ref p]:=by
  rcases xs with _ | ⟨y,_ | ⟨z,t⟩⟩
  ·exact False.elim h
  ·cases y with
   | ref p=>exact ⟨p,rfl⟩
   | _=>exact False.elim h
  ·cases y<;>exact False.elim h
 obtain ⟨p,rfl⟩:=hv
 ·rcases h with ⟨ys,hq,q⟩ | ⟨lo,hi,hp,⟨h1,h2,h3,h4⟩,q⟩
  ·exact zg3_ pins s σ H _ us Q I r ⟨p,ys,rfl,hq,q⟩
  ·obtain ⟨u,rfl,rx⟩:=vals1 r
   cases rx
   obtain ⟨t,u,v,e⟩:=I.hok p _ hp
   have hn:Builtin.Range.rangeSize lo hi 1=(((hi-lo).toNat:Nat):Int):=by rw [rangeSize_one]; split<;>lia
   refine call_list_range (I.ok.hd hc) e (small_one (by lia) (by lia) (by lia) (by lia)) hn (by lia) fun h' tk acc c' kp e' hq_=>?_
   obtain ⟨hs,hi'⟩:=hq_
   refine ⟨.ref s.heap.objs.size,_,I.laid (o:=.lst (intsV lo hi)) (t':=tk) kp (Nat.le_refl _) ?_,rfl,q _ (I.hok.fresh (Nat.le_refl _))⟩
   refine ⟨?_,acc.toList,c',zmG_ (by simpa using hs) (fun j v hv=>?_),by simpa using e'⟩
   ·unfold intsV; rw [List.length_map,List.length_range]; exact zdL_ (by lia)
   ·obtain ⟨t,ht⟩:=hi' j v (by simpa using hv)
    exact ⟨t,by rw [ht]; simp⟩
end
inductive EqD (K:Fgg) (H:Hp):Nat→V→V→Bool→Prop
 | flat {x y:V}(hx:flatV x=true) (hy:flatV y=true):EqD K H 0 x y (eqV x y)
 | lst {n:Nat}{p q:Addr}{xs ys:List V}(e:Nat→Bool) (hp:SqL K H p xs) (hq:SqL K H q ys) (hl:xs.length=ys.length) (h:∀ (i:Nat) x y,xs[i]?=some x→ys[i]?=some y→EqD K H n x y (e i)):EqD K H (n+1) (.ref p) (.ref q) ((List.range xs.length).all e)
 | lstN {n:Nat}{p q:Addr}{xs ys:List V}(hp:SqL K H p xs) (hq:SqL K H q ys) (hl:xs.length≠ys.length):EqD K H n (.ref p) (.ref q) false
 | tup {n:Nat}{p q:Addr}{xs ys:List V}(e:Nat→Bool) (hp:SqT K H p xs) (hq:SqT K H q ys) (h:∀ (i:Nat) x y,xs[i]?=some x→ys[i]?=some y→EqD K H n x y (e i)):EqD K H (n+1) (.ref p) (.ref q) ((List.range (min xs.length ys.length)).all e && xs.length == ys.length)
 | lt {n:Nat}{p q:Addr}{xs ys:List V}(hp:SqL K H p xs) (hq:SqT K H q ys):EqD K H n (.ref p) (.ref q) false
 | tl {n:Nat}{p q:Addr}{xs ys:List V}(hp:SqT K H p xs) (hq:SqL K H q ys):EqD K H n (.ref p) (.ref q) false
 | lf {n:Nat}{p:Addr}{xs:List V}{y:V}(hp:SqL K H p xs) (hy:flatV y=true):EqD K H n (.ref p) y false
 | fl {n:Nat}{p:Addr}{xs:List V}{y:V}(hp:SqL K H p xs) (hy:flatV y=true):EqD K H n y (.ref p) false
 | tf {n:Nat}{p:Addr}{xs:List V}{y:V}(hp:SqT K H p xs) (hy:flatV y=true):EqD K H n (.ref p) y false
 | ft {n:Nat}{p:Addr}{xs:List V}{y:V}(hp:SqT K H p xs) (hy:flatV y=true):EqD K H n y (.ref p) false
 | up {n:Nat}{x y:V}{b:Bool}(h:EqD K H n x y b):EqD K H (n+1) x y b
section
variable {X:Cx}{pins:Pnn}{σ:St}{H:Hp}{s:Shared}
theorem zdY_ {xs:List V}{us:List Value}(r:Vals xs us) {i:Nat}(h:i<us.toArray.size):∃ x,xs[i]?=some x∧RelV x us.toArray[i]:=by
 have hi:i<us.length:=by simpa using h
 have hl:=r.length
 obtain ⟨u,hu,ru⟩:=r.get (List.getElem?_eq_getElem (show i<xs.length by lia))
 refine ⟨_,List.getElem?_eq_getElem (by lia),?_⟩
 rw [List.getElem?_eq_getElem hi] at hu
 cases hu
 simpa using ru
theorem zkm_ (I:Inv X pins σ H s) {n:Nat}{x y:V}{b:Bool}(h:EqD X.K H n x y b):x=y→b=true:=by
 induction h with
 | flat hx hy =>
  rename_i x y
  rintro rfl
  cases x<;>first | (cases hx; done) | (simp [eqV]; done) | rfl
 | lst e hp hq hl h ih =>
  rename_i n p q xs ys
  intro e0
  cases e0
  have exy:=I.list_inj hp hq
  subst exy
  rw [List.all_eq_true]
  intro i hi
  have hi:=List.mem_range.mp hi
  exact ih i _ _ (List.getElem?_eq_getElem hi) (List.getElem?_eq_getElem hi) rfl
 | lstN hp hq hl =>
  intro e0
  cases e0
  exact absurd (by rw [I.list_inj hp hq]) hl
 | tup e hp hq h ih =>
  rename_i n p q xs ys
  intro e0
  cases e0
  have exy:=I.tuple_inj hp hq
  subst exy
  rw [Bool.and_eq_true,List.all_eq_true]
  refine ⟨?_,by simp⟩
  intro i hi
  have hi:=List.mem_range.mp hi
  have hi:i<xs.length:=by lia
  exact ih i _ _ (List.getElem?_eq_getElem hi) (List.getElem?_eq_getElem hi) rfl
 | lt hp hq =>
  intro e0
  cases e0
  obtain ⟨its,r1,p1,z1⟩:=I.list hp
  obtain ⟨its2,r2,p2,z2⟩:=I.tuple hq
  exact absurd rfl (SeqAt.ne_of_list_tuple p1.isList p2)
 | tl hp hq =>
  intro e0
  cases e0
  obtain ⟨its,r1,p1,z1⟩:=I.tuple hp
  obtain ⟨its2,r2,p2,z2⟩:=I.list hq
  exact absurd rfl (SeqAt.ne_of_list_tuple p2.isList p1)
 | lf hp hy=>rintro rfl; cases hy
 | fl hp hy=>rintro rfl; cases hy
 | tf hp hy=>rintro rfl; cases hy
 | ft hp hy=>rintro rfl; cases hy
 | up h ih=>exact ih
theorem zmm_ (I:Inv X pins σ H s) {n:Nat}{x y:V}{b:Bool}(h:EqD X.K H n x y b):∀ (A:Around) (v u:Value),A.units+n<cLine→RelV x v→RelV y u →
  SeqAt.EqAt A s v u b∧(∀ p q,x=.ref p→y=.ref q→SeqAt.RcAt A s v u b):=by
 induction h with
 | flat hx hy =>
  intro A v u _ rx ry
  refine ⟨zn1_ rx ry hx hy,fun p q e _=>?_⟩
  subst e; cases hx
 | lst e hp hq hl h ih =>
  rename_i n p q xs ys
  intro A v u hu rx ry
  cases rx; cases ry
  obtain ⟨its,r1,p1,z1⟩:=I.list hp
  obtain ⟨its2,r2,p2,z2⟩:=I.list hq
  have l1:=r1.length
  have l2:=r2.length
  have rc:SeqAt.RcAt A s (.ref p) (.ref q) ((List.range xs.length).all e):=by
   have:=SeqAt.RcAt.lists (A:=A) (e:=e) p1.isList p2.isList (by simp only [List.size_toArray]; lia) (by lia) (fun j h1 h2=>by
    obtain ⟨x,ex,rx⟩:=zdY_ r1 h1
    obtain ⟨y,ey,ry⟩:=zdY_ r2 h2
    exact (ih j x y ex ey A.in1 _ _ (by show A.units+1+n<_; lia) rx ry).1)
   rw [List.size_toArray,← l1] at this
   exact this
  refine ⟨?_,fun _ _ _ _=>rc⟩
  by_cases hpq:p=q
  ·subst hpq
   have exy:=I.list_inj hp hq
   subst exy
   have:(List.range xs.length).all e=true:=by
    rw [List.all_eq_true]
    intro i hi
    have hi:=List.mem_range.mp hi
    exact zkm_ I (h i _ _ (List.getElem?_eq_getElem hi) (List.getElem?_eq_getElem hi)) rfl
   rw [this]
   exact SeqAt.EqAt.same _
  ·exact .of_refs hpq rc
 | lstN hp hq hl =>
  rename_i n p q xs ys
  intro A v u hu rx ry
  cases rx; cases ry
  obtain ⟨its,r1,p1,z1⟩:=I.list hp
  obtain ⟨its2,r2,p2,z2⟩:=I.list hq
  have l1:=r1.length
  have l2:=r2.length
  have rc:SeqAt.RcAt A s (.ref p) (.ref q) false:=SeqAt.RcAt.lists_lengths p1.isList p2.isList (by simp only [List.size_toArray,bne_iff_ne,ne_eq]; lia) (by lia)
  refine ⟨.of_refs (fun e=>?_) rc,fun _ _ _ _=>rc⟩
  subst e
  exact hl (by rw [I.list_inj hp hq])
 | tup e hp hq h ih =>
  rename_i n p q xs ys
  intro A v u hu rx ry
  cases rx; cases ry
  obtain ⟨its,r1,p1,z1⟩:=I.tuple hp
  obtain ⟨its2,r2,p2,z2⟩:=I.tuple hq
  have l1:=r1.length
  have l2:=r2.length
  have rc:SeqAt.RcAt A s (.ref p) (.ref q) ((List.range (min xs.length ys.length)).all e && xs.length == ys.length):=by
   have:=SeqAt.RcAt.tuples (A:=A) (e:=e) (show s.heap.IsTuple p its.toArray from p1) (show s.heap.IsTuple q its2.toArray from p2) (by lia) (fun j h1 h2=>by
    obtain ⟨x,ex,rx⟩:=zdY_ r1 h1
    obtain ⟨y,ey,ry⟩:=zdY_ r2 h2
    exact (ih j x y ex ey A.in1 _ _ (by show A.units+1+n<_; lia) rx ry).1)
   rw [List.size_toArray,List.size_toArray,← l1,← l2] at this
   exact this
  refine ⟨?_,fun _ _ _ _=>rc⟩
  by_cases hpq:p=q
  ·subst hpq
   have exy:=I.tuple_inj hp hq
   subst exy
   have:((List.range (min xs.length xs.length)).all e && xs.length == xs.length)=true:=by
    rw [Bool.and_eq_true,List.all_eq_true]
    refine ⟨?_,by simp⟩
    intro i hi
    have hi:=List.mem_range.mp hi
    have hi:i<xs.length:=by lia
    exact zkm_ I (h i _ _ (List.getElem?_eq_getElem hi) (List.getElem?_eq_getElem hi)) rfl
   rw [this]
   exact SeqAt.EqAt.same _
  ·exact .of_refs hpq rc
 | lt hp hq =>
  intro A v u hu rx ry
  cases rx; cases ry
  obtain ⟨its,r1,p1,z1⟩:=I.list hp
  obtain ⟨its2,r2,p2,z2⟩:=I.tuple hq
  exact ⟨.list_tuple p1.isList p2 (by lia),fun _ _ _ _=>.list_tuple p1.isList p2 (by lia)⟩
 | tl hp hq =>
  intro A v u hu rx ry
  cases rx; cases ry
  obtain ⟨its,r1,p1,z1⟩:=I.tuple hp
  obtain ⟨its2,r2,p2,z2⟩:=I.list hq
  exact ⟨.tuple_list p1 p2.isList (by lia),fun _ _ _ _=>.tuple_list p1 p2.isList (by lia)⟩
 | lf hp hy =>
  rename_i n p xs y
  intro A v u hu rx ry
  cases rx
  obtain ⟨its,r1,p1,z1⟩:=I.list hp
  refine ⟨?_,fun _ _ _ e=>by subst e; cases hy⟩
  cases y with
  | non=>cases ry; exact .list_none p1.isList (by lia)
  | bl b=>cases ry; exact .list_bool b p1.isList (by lia)
  | int b=>obtain ⟨t,rfl⟩:=ry; exact .list_int b t p1.isList (by lia)
  | str b=>obtain ⟨t,rfl⟩:=ry; exact .list_str b t p1.isList (by lia)
  | _=>cases hy
 | fl hp hy =>
  rename_i n p xs y
  intro A v u hu rx ry
  cases ry
  obtain ⟨its,r1,p1,z1⟩:=I.list hp
  refine ⟨?_,fun _ _ e _=>by subst e; cases hy⟩
  cases y with
  | non=>cases rx; exact .none_list p1.isList (by lia)
  | bl b=>cases rx; exact .bool_list b p1.isList (by lia)
  | int b=>obtain ⟨t,rfl⟩:=rx; exact .int_list b t p1.isList (by lia)
  | str b=>obtain ⟨t,rfl⟩:=rx; exact .str_list b t p1.isList (by lia)
  | _=>cases hy
 | tf hp hy =>
  rename_i n p xs y
  intro A v u hu rx ry
  cases rx
  obtain ⟨its,r1,p1,z1⟩:=I.tuple hp
  refine ⟨?_,fun _ _ _ e=>by subst e; cases hy⟩
  cases y with
  | non=>cases ry; exact .tuple_none p1 (by lia)
  | bl b=>cases ry; exact .tuple_bool b p1 (by lia)
  | int b=>obtain ⟨t,rfl⟩:=ry; exact .tuple_int b t p1 (by lia)
  | str b=>obtain ⟨t,rfl⟩:=ry; exact .tuple_str b t p1 (by lia)
  | _=>cases hy
 | ft hp hy =>
  rename_i n p xs y
  intro A v u hu rx ry
  cases ry
  obtain ⟨its,r1,p1,z1⟩:=I.tuple hp
  refine ⟨?_,fun _ _ e _=>by subst e; cases hy⟩
  cases y with
  | non=>cases rx; exact .none_tuple p1 (by lia)
  | bl b=>cases rx; exact .bool_tuple b p1 (by lia)
  | int b=>obtain ⟨t,rfl⟩:=rx; exact .int_tuple b t p1 (by lia)
  | str b=>obtain ⟨t,rfl⟩:=rx; exact .str_tuple b t p1 (by lia)
  | _=>cases hy
 | up h ih =>
  intro A v u hu rx ry
  exact ih A v u (by lia) rx ry
end
section
variable {X:Cx}
def mEqK (K:Fgg):R2:=fun x y H Q=>match x,y with
 | .ref p,.ref q=>∃ n b,n≤50∧EqD K H n (.ref p) (.ref q) b∧Q (.bl b) H
 | _,_=>mEq x y H Q
def mNeK (K:Fgg):R2:=fun x y H Q=>match x,y with
 | .ref p,.ref q=>∃ n b,n≤50∧EqD K H n (.ref p) (.ref q) b∧Q (.bl (!b)) H
 | _,_=>mNe x y H Q
theorem zgp_ (hu:X.A.units+60<cLine):OpR X (compareOp .Eq) (mEqK X.K):=by
 intro pins s σ H x y v u Q I rx ry h
 unfold mEqK at h
 split at h
 ·rename_i p q
  obtain ⟨n,b,hn,h,q⟩:=h
  have:=(zmm_ I h X.A v u (by lia) rx ry).2 _ _ rfl rfl
  exact this X.prog X.w X.xe _ ⟨.bl b,H,I,rfl,q⟩
 ·exact zqo_ pins s σ H x y v u Q I rx ry h
end
section
variable {X:Cx}{pins:Pnn}{σ:St}{H:Hp}{s:Shared}
theorem zpR_ (I:Inv X pins σ H s) {n:Nat}{x y:V}{b:Bool}(h:EqD X.K H n x y b):∀ (A:Around) (v u:Value),A.units+n<cLine→RelV x v→RelV y u→∀ p q,x=.ref p→y=.ref q→SeqAt.RcNeAt A s v u (!b):=by
 induction h with
 | flat hx hy=>intro A v u _ rx ry p q e _; subst e; cases hx
 | lst e hp hq hl h ih =>
  rename_i n p q xs ys
  intro A v u hu rx ry _ _ _ _
  cases rx; cases ry
  obtain ⟨its,r1,p1,z1⟩:=I.list hp
  obtain ⟨its2,r2,p2,z2⟩:=I.list hq
  have l1:=r1.length
  have l2:=r2.length
  have:=SeqAt.RcNeAt.lists (A:=A) (e:=e) p1.isList p2.isList (by simp only [List.size_toArray]; lia) (by lia) (fun j h1 h2=>by
   obtain ⟨x,ex,rx⟩:=zdY_ r1 h1
   obtain ⟨y,ey,ry⟩:=zdY_ r2 h2
   exact (zmm_ I (h j x y ex ey) A.in1 _ _ (by show A.units+1+n<_; lia) rx ry).1)
  rw [List.size_toArray,← l1] at this
  exact this
 | lstN hp hq hl =>
  intro A v u hu rx ry _ _ _ _
  cases rx; cases ry
  obtain ⟨its,r1,p1,z1⟩:=I.list hp
  obtain ⟨its2,r2,p2,z2⟩:=I.list hq
  have l1:=r1.length
  have l2:=r2.length
  exact SeqAt.RcNeAt.lists_lengths p1.isList p2.isList (by simp only [List.size_toArray,bne_iff_ne,ne_eq]; lia) (by lia)
 | tup e hp hq h ih =>
  rename_i n p q xs ys
  intro A v u hu rx ry _ _ _ _
  cases rx; cases ry
  obtain ⟨its,r1,p1,z1⟩:=I.tuple hp
  obtain ⟨its2,r2,p2,z2⟩:=I.tuple hq
  have l1:=r1.length
  have l2:=r2.length
  have:=SeqAt.RcNeAt.tuples (A:=A) (e:=e) (show s.heap.IsTuple p its.toArray from p1) (show s.heap.IsTuple q its2.toArray from p2) (by lia) (fun j h1 h2=>by
   obtain ⟨x,ex,rx⟩:=zdY_ r1 h1
   obtain ⟨y,ey,ry⟩:=zdY_ r2 h2
   exact (zmm_ I (h j x y ex ey) A.in1 _ _ (by show A.units+1+n<_; lia) rx ry).1)
  rw [List.size_toArray,List.size_toArray,← l1,← l2] at this
  exact this
 | lt hp hq =>
  intro A v u hu rx ry _ _ _ _
  cases rx; cases ry
  obtain ⟨its,r1,p1,z1⟩:=I.list hp
  obtain ⟨its2,r2,p2,z2⟩:=I.tuple hq
  exact .list_tuple p1.isList p2 (by lia)
 | tl hp hq =>
  intro A v u hu rx ry _ _ _ _
  cases rx; cases ry
  obtain ⟨its,r1,p1,z1⟩:=I.tuple hp
  obtain ⟨its2,r2,p2,z2⟩:=I.list hq
  exact .tuple_list p1 p2.isList (by lia)
 | lf hp hy=>intro A v u hu rx ry _ _ _ e; subst e; cases hy
 | fl hp hy=>intro A v u hu rx ry _ _ e _; subst e; cases hy
 | tf hp hy=>intro A v u hu rx ry _ _ _ e; subst e; cases hy
 | ft hp hy=>intro A v u hu rx ry _ _ e _; subst e; cases hy
 | up h ih=>intro A v u hu rx ry; exact ih A v u (by lia) rx ry
theorem zlj_ (hu:X.A.units+60<cLine):OpR X (compareOp .NotEq) (mNeK X.K):=by
 intro pins s σ H x y v u Q I rx ry h
 unfold mNeK at h
 split at h
 ·rename_i p q
  obtain ⟨n,b,hn,h,q⟩:=h
  have:=zpR_ I h X.A v u (by lia) rx ry _ _ rfl rfl
  exact this X.prog X.w X.xe _ ⟨.bl (!b),H,I,rfl,q⟩
 ·exact zpW_ pins s σ H x y v u Q I rx ry h
end
theorem Room.u60 {k:Nat}{A:Around}(r:Room k A):A.units+60<cLine:=by have:=r.units; lia
end L2
namespace LX
open PySem Builtin Builtin.Str
section
variable {prog:Program}{w:World}{A:Around}{E:Value→Shared→Prop}{s:Shared}{x:Str}{t:Tok}{Q:Value→Shared→Prop}
end
end LX
namespace L2
open PySem PySem.Spec PyProof.Rows
section
variable {X:Cx}
end
section
variable {X:Cx}{a b c d:Expr}{ta tb tc td:TE}{pos:Pos}
end
end L2
namespace L2
open PySem PySem.Spec PyProof.Rows
section
variable {κ:Type} [DecidableEq κ]
def valV (kvs:List (κ×V)) (k:κ):Option V:=(kvs.find? fun kv=>decide (kv.1=k)).map (·.2)
def putK (kvs:List (κ×V)) (k:κ) (v:V):List (κ×V) :=
 if (kvs.any fun kv=>decide (kv.1=k))=true then kvs.map (fun kv=>if kv.1=k then (kv.1,v) else kv) else kvs++[(k,v)]
theorem zgT_ {p:κ×V}{r:List (κ×V)}{k:κ}(e:p.1=k):valV (p::r) k=some p.2:=by simp [valV,List.find?_cons,e]
theorem zhm_ {p:κ×V}{r:List (κ×V)}{k:κ}(e:¬ p.1=k):valV (p::r) k=valV r k:=by simp [valV,List.find?_cons,e]
theorem zka_ (k:κ):∀ kvs:List (κ×V),(kvs.any fun kv=>decide (kv.1=k))=(valV kvs k).isSome
 | []=>rfl
 | p::r=>by
  rw [List.any_cons]
  by_cases e:p.1=k
  ·simp only [zgT_ e,decide_eq_true e,Bool.true_or,Option.isSome_some]
  ·rw [zhm_ e,decide_eq_false e,Bool.false_or]; exact zka_ k r
theorem zfm_ (kvs:List (κ×V)) (k:κ) (v:V):(putK kvs k v).length≤kvs.length+1:=by
 unfold putK
 split
 ·rw [List.length_map]; lia
 ·rw [List.length_append,List.length_cons,List.length_nil]; lia
theorem RelO.isSome_eq {o:Option V}{u:Option Value}(r:RelO o u):o.isSome=u.isSome:=by
 cases o with
 | none=>cases u with
  | none=>rfl
  | some _=>exact (show False from r).elim
 | some _=>cases u with
  | none=>exact (show False from r).elim
  | some _=>rfl
theorem KV.val {kvs:List (κ×V)}{vs:List (κ×Value)}(r:KV kvs vs) (k:κ):RelO (valV kvs k) (valueAt vs k):=by
 unfold KV at r
 induction r with
 | nil=>exact True.intro
 | @cons p q ps qs h t ih =>
  obtain ⟨h1,h2⟩:=h
  by_cases e:p.1=k
  ·have e':q.1=k:=h1.symm.trans e
   have b:valueAt (q::qs) k=some q.2:=by simp [valueAt,List.find?_cons,e']
   rw [zgT_ e,b]; exact h2
  ·have e':¬ q.1=k:=fun z=>e (h1.trans z)
   have b:valueAt (q::qs) k=valueAt qs k:=by simp [valueAt,List.find?_cons,e']
   rw [zhm_ e,b]; exact ih
theorem KV.any {kvs:List (κ×V)}{vs:List (κ×Value)}(r:KV kvs vs) (k:κ):(kvs.any fun kv=>decide (kv.1=k))=vs.any fun kv=>decide (kv.1=k):=by
 unfold KV at r
 induction r with
 | nil=>rfl
 | cons h t ih=>rw [List.any_cons,List.any_cons,ih,h.1]
theorem KV.repl {kvs:List (κ×V)}{vs:List (κ×Value)}(r:KV kvs vs) (k:κ) {y:V}{u:Value}(ry:RelV y u) :
  KV (kvs.map fun kv=>if kv.1=k then (kv.1,y) else kv) (vs.map fun kv=>if kv.1=k then (kv.1,u) else kv):=by
 unfold KV at r ⊢
 induction r with
 | nil=>exact .nil
 | @cons p q ps qs h t ih =>
  rw [List.map_cons,List.map_cons]
  refine .cons ?_ ih
  obtain ⟨h1,h2⟩:=h
  by_cases e:p.1=k
  ·rw [if_pos e,if_pos (h1.symm.trans e)]; exact ⟨h1,ry⟩
  ·rw [if_neg e,if_neg (fun z=>e (h1.trans z))]; exact ⟨h1,h2⟩
theorem KV.put {kvs:List (κ×V)}{vs:List (κ×Value)}(r:KV kvs vs) (k:κ) {y:V}{u:Value}(ry:RelV y u):KV (putK kvs k y) (stored vs k u):=by
 unfold putK stored
 rw [r.any k]
 by_cases e:(vs.any fun kv=>decide (kv.1=k))=true
 ·rw [if_pos e,if_pos e]; exact r.repl k ry
 ·rw [if_neg e,if_neg e]; exact Paired.snoc r ⟨rfl,ry⟩
theorem KV.length {kvs:List (κ×V)}{vs:List (κ×Value)}(r:KV kvs vs):kvs.length=vs.length:=Paired.length r
end
theorem zqb_ {P:Program}{w:World}{k:Key}{u:Value}(r:RelV (kV k) u):(mixKind P w).is k u=true:=by
 cases k with
 | inl i=>obtain ⟨t,e⟩:=(show ∃ t,u=Value.int i t from r); subst e; exact zig_ P w i t
 | inr x=>obtain ⟨t,e⟩:=(show ∃ t,u=Value.str x t from r); subst e; exact zio_ P w x t
theorem zhu_ {P:Program}{w:World}:∀ {ks:List Key}{us:List Value},Vals (ks.map kV) us→ItemsAre (mixKind P w) ks us
 | [],_,r=>by rw [List.map_nil] at r; cases r; exact .nil
 | k::ks,_,r=>by
  rw [List.map_cons] at r
  cases r with
  | cons h t=>exact .cons (zqb_ h) (zhu_ t)
abbrev KT (H:Hp):List (List Key×V)→List (List Key×Addr×Value)→Prop:=Paired fun p q=>p.1=q.1∧H q.2.1=some (.tup (p.1.map kV))∧RelV p.2 q.2.2
theorem KT.val {H:Hp}{kvs:List (List Key×V)}{xs:List (List Key×Addr×Value)}(r:KT H kvs xs) (k:List Key):RelO (valV kvs k) ((atKey xs k).map (·.2)):=by
 induction r with
 | nil=>exact True.intro
 | @cons p q ps qs h t ih =>
  obtain ⟨h1,_,h2⟩:=h
  by_cases e:p.1=k
  ·have e':q.1=k:=h1.symm.trans e
   have b:atKey (q::qs) k=some q.2:=by simp [atKey,List.find?_cons,e']
   rw [zgT_ e,b]; exact h2
  ·have e':¬ q.1=k:=fun z=>e (h1.trans z)
   have b:atKey (q::qs) k=atKey qs k:=by simp [atKey,List.find?_cons,e']
   rw [zhm_ e,b]; exact ih
theorem KT.repl {H:Hp}{kvs:List (List Key×V)}{xs:List (List Key×Addr×Value)}(r:KT H kvs xs) (k:List Key) {y:V}{u:Value}(ry:RelV y u) :
  KT H (kvs.map fun kv=>if kv.1=k then (kv.1,y) else kv) (xs.map (putAt k u)):=by
 induction r with
 | nil=>exact .nil
 | @cons p q ps qs h t ih =>
  rw [List.map_cons,List.map_cons]
  refine .cons ?_ ih
  obtain ⟨h1,h2,h3⟩:=h
  unfold putAt
  by_cases e:p.1=k
  ·rw [if_pos e,if_pos (h1.symm.trans e)]; exact ⟨h1,h2,ry⟩
  ·rw [if_neg e,if_neg (fun z=>e (h1.trans z))]; exact ⟨h1,h2,h3⟩
theorem KT.put {H:Hp}{kvs:List (List Key×V)}{xs:List (List Key×Addr×Value)}(r:KT H kvs xs) (k:List Key) {b:Addr}{y:V}{u:Value}(hb:H b=some (.tup (k.map kV))) (ry:RelV y u) :
  KT H (putK kvs k y) (storedH xs k b u):=by
 have e:(kvs.any fun kv=>decide (kv.1=k))=(atKey xs k).isSome:=by
  rw [zka_,(r.val k).isSome_eq,Option.isSome_map]
 unfold putK storedH
 rw [e]
 by_cases q:(atKey xs k).isSome=true
 ·rw [if_pos q,if_pos q]; exact r.repl k ry
 ·rw [if_neg q,if_neg q]; exact Paired.snoc r ⟨rfl,hb,ry⟩
theorem KT.keeps {H H':Hp}{kvs:List (List Key×V)}{xs:List (List Key×Addr×Value)}(r:KT H kvs xs) (ht:∀ b ys,H b=some (.tup ys)→H' b=some (.tup ys)):KT H' kvs xs :=
 Paired.mapP r fun _ _ z=>⟨z.1,ht _ _ z.2.1,z.2.2⟩
section
variable {P:Program}{w:World}{H:Hp}{h:Heap}{a:Addr}
theorem rd_of {u:HO}(ok:HOk P w H h) (e:Rd H a u):ObjOk P w H h a u:=e.ok ok
theorem zo7_ {kvs:List (Key×V)}(ok:HOk P w H h) (e:Rd H a (.dK kvs)):kvs.length≤sizeLine∧(a == sysModules)=false∧∃ vs,KV kvs vs∧h.DictOf (mixKind P w) a vs :=
 show ObjOk P w H h a (.dK kvs) from rd_of ok e
theorem dk_of {kvs:List (Key×V)}(ok:HOk P w H h) (e:H a=some (.dK kvs)):kvs.length≤sizeLine∧(a == sysModules)=false∧∃ vs,KV kvs vs∧h.DictOf (mixKind P w) a vs:=zo7_ ok (.inl e)
theorem zm1_ {ks:List Key}(ok:HOk P w H h) (e:H a=some (.tup (ks.map kV))):(tupleKind (mixKind P w)).is h ks a:=by
 obtain ⟨_,its,r,o,h1,h2,n,h3⟩:=(show ObjOk P w H h a (.tup (ks.map kV)) from ok a _ e)
 exact ⟨o,its.toArray,n,h1,h2,h3,by simpa using zhu_ r⟩
theorem zpp_ {kvs:List (List Key×V)}(ok:HOk P w H h) (e:Rd H a (.dT kvs)):kvs.length≤sizeLine∧(a == sysModules)=false ∧
  ∃ xs,KT H kvs xs∧h.DictOfH (tupleKind (mixKind P w)) a xs:=by
 obtain ⟨z,y,xs,r,o,es,ep,h1,h2,h3,h4,h5⟩:=(show ObjOk P w H h a (.dT kvs) from rd_of ok e)
 refine ⟨z,y,xs,r,o,es,ep,h1,h2,h3,h4,fun x hx=>?_,h5⟩
 have all:∀ {l:List (List Key×V)}{m:List (List Key×Addr×Value)},KT H l m→∀ x∈m,(tupleKind (mixKind P w)).is h x.1 x.2.1:=by
  intro l m q
  induction q with
  | nil=>intro x hx; exact nomatch hx
  | @cons p q ps qs hq t ih =>
   intro x hx
   rcases List.mem_cons.mp hx with e | hx
   ·subst e
    exact zm1_ ok (by rw [← hq.1]; exact hq.2.1)
   ·exact ih x hx
 exact all r x hx
theorem dt_of {kvs:List (List Key×V)}(ok:HOk P w H h) (e:H a=some (.dT kvs)):kvs.length≤sizeLine∧(a == sysModules)=false ∧
  ∃ xs,KT H kvs xs∧h.DictOfH (tupleKind (mixKind P w)) a xs:=zpp_ ok (.inl e)
end
def DGet (H:Hp) (a:Addr) (y:V) (r:Option V):Prop :=
 (∃ kvs k,Rd H a (.dK kvs)∧y=kV k∧r=valV kvs k)∨∃ kvs k b,Rd H a (.dT kvs)∧y=.ref b∧H b=some (.tup (k.map kV))∧r=valV kvs k
def DPut (H:Hp) (a:Addr) (y v:V) (H':Hp):Prop :=
 (∃ kvs k,H a=some (.dK kvs)∧y=kV k∧kvs.length<sizeLine∧H'=upd H a (.dK (putK kvs k v))) ∨
 ∃ kvs k b,H a=some (.dT kvs)∧y=.ref b∧H b=some (.tup (k.map kV))∧kvs.length<sizeLine∧H'=upd H a (.dT (putK kvs k v))
theorem DGet.k {H:Hp}{a:Addr}{kvs:List (Key×V)}{k:Key}(e:H a=some (.dK kvs)):DGet H a (kV k) (valV kvs k):=.inl ⟨kvs,k,.inl e,rfl,rfl⟩
theorem DPut.k {H:Hp}{a:Addr}{kvs:List (Key×V)}{k:Key}{v:V}(e:H a=some (.dK kvs)) (hl:kvs.length<sizeLine):DPut H a (kV k) v (upd H a (.dK (putK kvs k v))):=.inl ⟨kvs,k,e,rfl,hl,rfl⟩
section
variable {X:Cx}{pins:Pnn}{σ:St}{H:Hp}{s:Shared}{a:Addr}{y v:V}{u r:Value}{o:Option V}{A:Around}{E:Value→Shared→Prop}
theorem Inv.big (I:Inv X pins σ H s):sysModules<s.heap.objs.size:=by
 have h:mainGlobals<s.heap.objs.size:=(I.mod.glob.keeps I.bk).lt
 exact Nat.lt_trans (by decide) h
theorem zlc_ {Q:Value→Shared→Prop}(hu:A.units+1<cLine) (I:Inv X pins σ H s) (g:DGet H a y (some v)) (ry:RelV y u) (h:∀ w' s',Inv X pins σ H s'→RelV v w'→Q w' s') :
  wpAny (model X.prog X.w) A (getItem (.ref a) u) Q E s:=by
 rcases g with ⟨kvs,k,e,ey,l⟩ | ⟨kvs,k,b,e,ey,eb,l⟩
 ·subst ey
  obtain ⟨z,hd,vs,rel,dd⟩:=zo7_ I.hok e
  obtain ⟨w',hw,rw'⟩:=RelO.some_of (v:=v) (o:=valueAt vs k) (by rw [l]; exact rel.val k)
  exact wpAny_getItem_of (zqb_ ry) dd.mapOf hw (h w' _ (I.tok _) rw')
 ·subst ey
  cases (show u=Value.ref b from ry)
  obtain ⟨z,hd,xs,rel,dd⟩:=zpp_ I.hok e
  obtain ⟨w',hw,rw'⟩:=RelO.some_of (v:=v) (o:=(atKey xs k).map (·.2)) (by rw [l]; exact rel.val k)
  obtain ⟨p,hp,hp2⟩:=Option.map_eq_some_iff.mp hw
  refine wpAny_getItem_heap (tupleKind_room_in1 hu) (zm1_ I.hok eb) dd hp ?_
  rw [hp2]
  exact h w' _ (I.tok _) rw'
theorem zlY_ {h':Heap}{t':Nat}{ob:HO}(I:Inv X pins σ H s) (mu:Mut (H a)) (hs:Heap.SameBut a s.heap h') (he:∃ q,h'.get? a=some q) (new:ObjOk X.prog X.w (upd H a ob) h' a ob) :
  Inv X pins σ (upd H a ob) { s with heap:=h',toks:=t' } :=
 I.write (x:=a) (e:=a) mu (.inl rfl) (fun b q hb z=>(hs.2 b hb).trans z) he new
theorem zpk_ {P:Program}{w:World}{H':Hp}{h':Heap}{kvs:List (Key×V)}{vs:List (Key×Value)}(z:kvs.length≤sizeLine) (hd:(a == sysModules)=false) (rel:KV kvs vs) (dd:h'.DictOf (mixKind P w) a vs) :
  ObjOk P w H' h' a (.dK kvs):=⟨z,hd,vs,rel,dd⟩
theorem zlo_ {H':Hp}{Q:Unit→Shared→Prop}(hu:A.units+1<cLine) (I:Inv X pins σ H s) (g:DPut H a y v H') (ry:RelV y u) (rv:RelV v r) (h:∀ s',Inv X pins σ H' s'→Q () s') :
  wpAny (model X.prog X.w) A (setItem (.ref a) u r) Q E s:=by
 rcases g with ⟨kvs,k,e,ey,l,eH⟩ | ⟨kvs,k,b,e,ey,eb,l,eH⟩
 ·subst ey eH
  obtain ⟨z,hd,vs,rel,dd⟩:=dk_of I.hok e
  have hz:vs.length≤sizeLine:=by rw [← rel.length]; exact z
  have hl:(putK kvs k v).length≤sizeLine:=by have:=zfm_ kvs k v; lia
  refine wpAny_setItem_pairs (hsz:=hz) (zqb_ ry) dd fun h' dd' hs=>h _ ?_
  have he:∃ q,h'.get? a=some q:=let ⟨q,_,_,hq,_⟩:=dd'; ⟨q,hq⟩
  exact zlY_ I (by rw [e]; exact True.intro) hs he (zpk_ hl hd (rel.put k rv) dd')
 ·subst ey eH
  cases (show u=Value.ref b from ry)
  obtain ⟨z,hd,xs,rel,dd⟩:=dt_of I.hok e
  have hz:xs.length≤sizeLine:=by rw [← Paired.length rel]; exact z
  have hl:(putK kvs k v).length≤sizeLine:=by have:=zfm_ kvs k v; lia
  refine wpAny_setItem_heap (hsz:=hz) (tupleKind_room_in1 hu) (zm1_ I.hok eb) dd fun h' dd' hs=>h _ ?_
  obtain ⟨q,es,ep,hq,h2,h3,h4,_,h5⟩:=dd'
  refine zlY_ I (by rw [e]; exact True.intro) hs ⟨q,hq⟩ ⟨hl,hd,_,(rel.put k eb rv).keeps fun c ys ec=>?_,q,es,ep,hq,h2,h3,h4,h5⟩
  rw [z7_ (ne_of ec e (fun z=>nomatch z))]
  exact ec
end
section
variable {X:Cx}{pins:Pnn}{σ:St}{H:Hp}{s:Shared}{a:Addr}{kvs:List (Key×V)}{k:Key}{u:Value}{A:Around}{E:Value→Shared→Prop}
end
def NoSl (i:Expr):Prop:=∀ ov iv,subscripted i false ov iv=operate [ov,iv] (getItem ov iv)
theorem znw_ {prog:Program}{w:World}{A:Around}{E:Value→Shared→Prop}{s:Shared}{env:Env}{value slice:Expr}{pos:Pos}{T id:String}{Q:Value→Shared→Prop}
  (hl:typeLookup (.type T) "__getitem__" = pure (some (.builtin id))) (hs:NoSl slice)
  (h:wpAny (model prog w) A (eval value env) (fun o s₁=>wpAny (model prog w) A (eval slice env) (fun i s₂=>s₂.TypeIs o T∧wpAny (model prog w) A (getItem o i) Q E s₂) E s₁) E s) :
  wpAny (model prog w) A (eval (.Subscript value slice pos) env) Q E s:=by
 refine Subscript_ (wpAny_mono h (fun o s₁ h₁=>wpAny_mono h₁ (fun i s₂ h₂=>?_) fun _ _ x=>x) fun _ _ x=>x)
 obtain ⟨hT,h₂⟩:=h₂
 unfold subscriptTail
 refine wpAny_bind ?_
 rw [getitemInPython_of_ne hT.not_modules]
 refine wpAny_bind (wpAny_specialOf hT hl ?_)
 have fin:wpAny (model prog w) A (subscripted slice false o i) (fun r s₃=>wpAny (model prog w) A (letTemporaryGo value o r>>=fun _=>pure r) Q E s₃) E s₂:=by
  rw [hs o i]
  exact wpAny_operating (wpAny_mono h₂ (fun r s₃ h₃=>wpAny_bind (wpAny_letTemporaryGo (wpAny_pure h₃))) fun _ _ x=>x)
 first
  | exact wpAny_pure (wpAny_bind fin)
  | exact wpAny_bind (wpAny_pure (wpAny_bind fin))
  | exact wpAny_bind fin
theorem zit_ {X:Cx}{pins:Pnn}{σ:St}{H:Hp}{s:Shared}{a:Addr}{y:V}{o:Option V}(I:Inv X pins σ H s) (g:DGet H a y o):s.TypeIs (.ref a) "dict" := by
 rcases g with ⟨kvs,k,e,_,_⟩ | ⟨kvs,k,b,e,_,_,_⟩
 ·obtain ⟨_,_,vs,_,dd⟩:=zo7_ I.hok e
  exact dd.typeIs
 ·obtain ⟨_,_,xs,_,dd⟩:=zpp_ I.hok e
  exact dd.typeIs
section
variable {X:Cx}{o i e value:Expr}{pos pos' tpos:Pos}{td ty tv:TE}
end
theorem zml_ {P:Program}{w:World}{H:Hp}(h:Heap) (hb:sysModules<h.objs.size):ObjOk P w H (h.push { cls:=.type "dict",data:=.dict #[] }) h.objs.size (.dK []) :=
 ⟨Nat.zero_le _,beq_eq_false_iff_ne.mpr (Ne.symm (Nat.ne_of_lt hb)),[],.nil,Heap.DictOf.new h⟩
def tDNewK:TE:=fun _ H Q=>∀ p,H p=none→Q (.ref p) (upd H p (.dK []))
section
variable {X:Cx}{pos:Pos}
theorem zgY_:PE X (.Dict [] [] pos) tDNewK:=fun pins s σ H Q I h =>
 wpAny_Dict_empty ⟨.ref s.heap.objs.size,_,I.laid (a:=s.heap.objs.size) (o:=.dK []) (t':=s.toks) (fun _ _ q=>Heap.get?_push_of_some _ q) (Nat.le_refl _) (zml_ s.heap I.big),rfl,h _ (I.hok.fresh (Nat.le_refl _))⟩
end
section
variable {X:Cx}{pins:Pnn}{σ:St}{H:Hp}{s:Shared}{a:Addr}{y d:V}{u r:Value}{o:Option V}{A:Around}{E:Value→Shared→Prop}
end
section
variable {X:Cx}{o e f:Expr}{apos cpos:Pos}{td ty tx:TE}
end
section
variable {X:Cx}{pins:Pnn}{σ:St}{H:Hp}{s:Shared}{a:Addr}{kvs:List (Key×V)}{A:Around}{E:Value→Shared→Prop}
end
section
variable {X:Cx}{pins:Pnn}{σ:St}{H:Hp}{s:Shared}{a:Addr}{y:V}{u:Value}{A:Around}{E:Value→Shared→Prop}
namespace L2
open PySem PySem.Spec PyProof.Rows
section
variable {X:Cx}
end
section
variable {κ:Type} [DecidableEq κ]
end
end L2
end
end L2
namespace L2
open PySem PySem.Spec PyProof.Rows
section
variable {X:Cx}
end
def Itz (K:Fgg) (l m:Addr):It :=
 ⟨fun i H=>∃ xs ys x y,SqL K H l xs∧SqL K H m ys∧xs[i]?=some x∧ys[i]?=some y,
  fun i H v H'=>∃ p x y,(∀ xs,SqL K H l xs→xs[i]?=some x)∧(∀ ys,SqL K H m ys→ys[i]?=some y)∧H p=none∧v=.ref p∧H'=upd H p (.tup [x,y]),
  fun i H=>∃ xs ys,SqL K H l xs∧SqL K H m ys∧(xs.length≤i∨ys.length≤i)⟩
theorem zmW_ {P:Program}{w:World}{K:Fgg}{elts:List Expr}{kk:Nat}{pos:Pos}(z TI TO i1 i2 l m:Addr) (D:ZipApart z TI TO i1 i2 l m) :
  Turn P w K (.Tuple elts kk pos) (Itz K l m) [z,TI,TO,i1,i2] z (fun i h=>IsZip h z TI TO .none∧IsPair h TI (.ref i1) (.ref i2)∧(∃ a b,IsPair h TO a b)∧h.IsListIter i1 l i∧h.IsListIter i2 m i) where
 mem:=by simp
 obj:=fun i h st b hb=>by
  obtain ⟨hz,hTI,⟨a,c,hTO⟩,⟨o1,ho1,c1,d1⟩,⟨o2,ho2,c2,d2⟩⟩:=st
  rcases List.mem_cons.mp hb with rfl | hb
  ·exact ⟨_,hz,fun v z=>by cases z⟩
  rcases List.mem_cons.mp hb with rfl | hb
  ·exact ⟨_,hTI,fun v z=>by cases z⟩
  rcases List.mem_cons.mp hb with rfl | hb
  ·exact ⟨_,hTO,fun v z=>by cases z⟩
  rcases List.mem_cons.mp hb with rfl | hb
  ·exact ⟨o1,ho1,fun v z=>by rw [d1] at z; cases z⟩
  ·have e:b=i2:=by simpa using hb
   subst e
   exact ⟨o2,ho2,fun v z=>by rw [d2] at z; cases z⟩
 keep:=fun i h h' st k=>by
  obtain ⟨hz,hTI,⟨a,c,hTO⟩,h1,h2⟩:=st
  exact ⟨k z (by simp) _ hz,k TI (by simp) _ hTI,⟨a,c,k TO (by simp) _ hTO⟩,h1.at fun o q=>k i1 (by simp) o q,h2.at fun o q=>k i2 (by simp) o q⟩
 item:=by
  intro X hP hw hK hc i pins s σ H E I hf st hg
  subst hP hw hK
  obtain ⟨xs,ys,x,y,hq,hq2,hx,hy⟩:=hg
  obtain ⟨its,rv,p,hz0⟩:=I.list hq
  obtain ⟨its2,rv2,p2,hz2⟩:=I.list hq2
  obtain ⟨u,hu,ru⟩:=rv.get hx
  obtain ⟨v,hv,rw'⟩:=rv2.get hy
  obtain ⟨hz,hTI,⟨a,c,hTO⟩,h1,h2⟩:=st
  have lt:∀ {c o},s.heap.get? c=some o→c<s.heap.objs.size:=fun e=>Heap.lt_size e
  have lz:=lt hz
  have lTI:=lt hTI
  have lTO:=lt hTO
  have l1:i1<s.heap.objs.size:=by obtain ⟨o,e,_⟩:=id h1; exact lt e
  have l2:i2<s.heap.objs.size:=by obtain ⟨o,e,_⟩:=id h2; exact lt e
  refine wpAny_pyNext_zip_item D hz hTI hTO h1 h2 p.isList p2.isList (x:=u) (y:=v) (by simpa using hu) (by simpa using hv) fun h3 z3 TO3 it13 it23 pr3 sz3 hk3=>?_
  refine ⟨_,rfl,?_⟩
  refine wpAny_letOwnedTupleGo_zip z3 fun h4 z4 hs4=>?_
  replace hs4:Heap.SameBut z h3 h4:=hs4
  have hp:H s.heap.objs.size=none:=I.hok.fresh (Nat.le_refl _)
  have I1:Inv X pins σ (upd H s.heap.objs.size (.tup [x,y])) { s with heap:=s.heap.push { cls:=.type "tuple",data:=.seq #[u,v] },toks:=s.toks }:=by
   refine I.laid (fun b u q=>Heap.get?_push_of_some _ q) (Nat.le_refl _) ⟨?_,[u,v],.cons ru (.cons rw' .nil),⟨_,Heap.get?_push_size _ rfl,rfl,_,rfl⟩⟩
   show 2≤sizeLine
   decide
  have hlt:∀ b∈[z,TI,TO,i1,i2],b<s.heap.objs.size:=fun b hb=>by
   rcases List.mem_cons.mp hb with rfl | hb
   ·exact lz
   rcases List.mem_cons.mp hb with rfl | hb
   ·exact lTI
   rcases List.mem_cons.mp hb with rfl | hb
   ·exact lTO
   rcases List.mem_cons.mp hb with rfl | hb
   ·exact l1
   ·have e:b=i2:=by simpa using hb
    rw [e]; exact l2
  have hf1:∀ b∈[z,TI,TO,i1,i2],FpOk X pins (upd H s.heap.objs.size (.tup [x,y])) b:=fun b hb=>by
   obtain ⟨f0,r⟩:=hf b hb
   refine ⟨?_,r⟩
   rw [z7_ (Nat.ne_of_lt (hlt b hb))]
   exact f0
  have I2:Inv X pins σ (upd H s.heap.objs.size (.tup [x,y])) { s with heap:=h4,toks:=s.toks }:=by
   refine Inv.turnedL (s:={ s with heap:=s.heap.push { cls:=.type "tuple",data:=.seq #[u,v] },toks:=s.toks }) (ch:=[z,TI,TO,i1,i2]) I1 (fun b o hb q=>?_) hf1
   have n1:b≠z:=fun e=>hb (by simp [e])
   have n2:b≠TO:=fun e=>hb (by simp [e])
   have n3:b≠i1:=fun e=>hb (by simp [e])
   have n4:b≠i2:=fun e=>hb (by simp [e])
   refine (hs4.2 b n1).trans ?_
   rcases Heap.get?_push_cases q with ⟨rfl,rfl⟩ | q'
   ·exact pr3
   ·exact hk3 b o n1 n2 n3 n4 q'
  refine ⟨.ref s.heap.objs.size,_,I2,rfl,⟨s.heap.objs.size,x,y,fun zs hy'=>by rw [I.list_inj hy' hq]; exact hx,fun zs hy'=>by rw [I.list_inj hy' hq2]; exact hy,hp,rfl,rfl⟩,⟨z4,?_,⟨u,v,?_⟩,?_,?_⟩,fun b hb=>(hf1 b hb).1⟩
  ·exact (hs4.2 TI D.TIz).trans (hk3 TI _ D.TIz D.TITO D.TIi1 D.TIi2 hTI)
  ·exact (hs4.2 TO D.TOz).trans TO3
  ·exact it13.extBut hs4.extBut D.i1z
  ·exact it23.extBut hs4.extBut D.i2z
 done:=by
  intro X hP hw hK hc i pins s σ H E I hf st hg
  subst hP hw hK
  obtain ⟨xs,ys,hq,hq2,hx⟩:=hg
  obtain ⟨its,rv,p,hz0⟩:=I.list hq
  obtain ⟨its2,rv2,p2,hz2⟩:=I.list hq2
  obtain ⟨hz,hTI,⟨a,c,hTO⟩,h1,h2⟩:=st
  have hl:=rv.length
  have hl2:=rv2.length
  refine wpAny_pyNext_zip_end (I.ok.hd hc) D hz hTI hTO h1 h2 p.isList p2.isList ?_ fun h' eb=>⟨rfl,?_⟩
  ·rcases hx with hx | hx
   ·exact .inl (by simp; lia)
   ·exact .inr (by simp; lia)
  ·refine Inv.turnedL (s:=s) (t':=s.toks) (ch:=[z,TI,TO,i1,i2]) I (fun b o hb q=>eb b o (fun e=>hb (by simp [e])) (fun e=>hb (by simp [e])) (fun e=>hb (by simp [e])) (fun e=>hb (by simp [e])) q) hf
 self:=fun _ _ _ _ _ st h=>wpAny_pyIter_zip st.1 h
theorem zll_ {N l m:Nat}(hl:l<N) (hm:m<N):ZipApart (N+4) (N+2) (N+3) N (N+1) l m:=by
 constructor<;>(intro e; have e':(_:Nat)=_:=congrArg (fun x:Nat=>x) e; lia)
section
variable {X:Cx}{elts:List Expr}{kk:Nat}{tpos:Pos}
def iZip (K:Fgg) (ta:TA):TI:=fun σ H R=>ta σ H fun vs H1=>match vs with
 | [.ref a,.ref b]=>(∃ xs,SqL K H1 a xs)∧(∃ ys,SqL K H1 b ys)∧R (Itz K a b) H1
 | _=>False
theorem zqf_ {a b:Expr}{ta:TA}{p pos:Pos}(hm:Gb X.mg "zip") (ha:PA X [a,b] ta) (hg:Gl X "zip" := by rfl) (hs:starEach [a,b] X.env=[(false,eval a X.env),(false,eval b X.env)]:=by rfl) (hs2:starEach [b] X.env=[(false,eval b X.env)]:=by rfl) :
  PI X (.Tuple elts kk tpos) (.Call (.Name "zip" p) [a,b] [] pos) (iZip X.K ta):=by
 intro pins s σ H R I h
 refine Call_ (zhh_ I hg hm (u:=.type "zip") (by rfl) (PyProof.Rows.callWith_type1 (thn (ha pos pins s σ H _ I h) fun us s1 hq_=>?_) (by rw [hs,hs2]) (by rw [hs2]; rfl)))
 obtain ⟨vs,H1,I1,r1,q1⟩:=hq_
 try dsimp only at q1
 split at q1
 ·rename_i l m
  obtain ⟨⟨xs,hq⟩,⟨ys,hq2⟩,q⟩:=q1
  cases r1 with
  | cons r rr =>
   cases rr with
   | cons r' rr =>
    cases rr
    cases r
    cases r'
    obtain ⟨its,rv,p1,hz⟩:=I1.list hq
    obtain ⟨its2,rv2,p2,hz2⟩:=I1.list hq2
    refine call_zip_2 p1.isList p2.isList fun h' hz' hTI hTO h1 h2 hsz hk=>?_
    refine wpAny_pyIter_zip (s:={ s1 with heap:=h' }) hz' ?_
    have I2:Inv X pins σ H1 { s1 with heap:=h' }:=I1.kept (t':=s1.toks) hk
    have la:l<s1.heap.objs.size:=by obtain ⟨o,e,_⟩:=p1.isList; exact Heap.lt_size e
    have lb:m<s1.heap.objs.size:=by obtain ⟨o,e,_⟩:=p2.isList; exact Heap.lt_size e
    have DD:ZipApart (s1.heap.objs.size+4) (s1.heap.objs.size+2) (s1.heap.objs.size+3) s1.heap.objs.size (s1.heap.objs.size+1) l m:=by
     exact zll_ la lb
    refine ⟨s1.heap.objs.size+4,[s1.heap.objs.size+4,s1.heap.objs.size+2,s1.heap.objs.size+3,s1.heap.objs.size,s1.heap.objs.size+1],_,_,H1,rfl,I2,zmW_ _ _ _ _ _ l m DD,⟨hz',hTI,⟨_,_,hTO⟩,h1,h2⟩,fun b hb=>?_,q⟩
    have hb':s1.heap.objs.size≤b:=by
     simp only [List.mem_cons,List.not_mem_nil,or_false] at hb
     rcases hb with rfl | rfl | rfl | rfl | rfl
     ·exact Nat.le_add_right _ _
     ·exact Nat.le_add_right _ _
     ·exact Nat.le_add_right _ _
     ·exact Nat.le_refl _
     ·exact Nat.le_add_right _ _
    exact I1.fpOk hb' (I1.hok.fresh hb')
 ·exact q1.elim
end
section
variable {X:Cx}{e st:Expr}{te:TE}{ts:TO}{pos p2:Pos}
end
end L2
namespace L2
open PySem PySem.Spec PyProof.Rows
def keyV:V→Option Key
 | .int i=>some (.inl i)
 | .str z=>some (.inr z)
 | _=>none
theorem zow_ {y:V}{k:Key}(h:keyV y=some k):y=kV k:=by
 cases y<;>first | (cases h; rfl) | cases h
def atD (x y:V) (H:Hp) (R:Addr→List (Key×V)→Key→Prop):Prop:=match x with
 | .ref a=>(match keyV y with | some k=>∃ kvs,H a=some (.dK kvs)∧R a kvs k | none=>False)
 | _=>False
theorem znP_ {x y:V}{H:Hp}{R:Addr→List (Key×V)→Key→Prop}(h:atD x y H R):∃ a kvs k,x=.ref a∧y=kV k∧H a=some (.dK kvs)∧R a kvs k:=by
 unfold atD at h
 cases x with
 | ref a =>
  cases e:keyV y with
  | none=>rw [e] at h; exact h.elim
  | some k =>
   rw [e] at h
   obtain ⟨kvs,h1,h2⟩:=h
   exact ⟨a,kvs,k,rfl,zow_ e,h1,h2⟩
 | _=>exact h.elim
def mDGet (td ty:TE):TE:=fun σ H Q=>td σ H fun x H1=>ty σ H1 fun y H2=>atD x y H2 fun _ kvs k=>∃ v,valV kvs k=some v∧Q v H2
def mDPut (td ty tv:TE):TS:=fun D σ H=>tv σ H fun v H1=>td σ H1 fun x H2=>ty σ H2 fun y H3=>atD x y H3 fun a kvs k=>kvs.length<sizeLine∧D.nx σ (upd H3 a (.dK (putK kvs k v)))
section
variable {X:Cx}{o i e value:Expr}{pos pos' tpos:Pos}{td ty tv:TE}
theorem zmt_ (hu:X.A.units+60<cLine) (ho:PE X o td) (hi:PE X i ty) (hs:NoSl i:=by exact fun _ _=>rfl):PE X (.Subscript o i pos) (mDGet td ty):=by
 intro pins s σ H Q I h
 refine znw_ PySem.F.slot_dict_getitem.lookup hs (thn (ho pins s σ H _ I h) fun u s1 ⟨x,H1,I1,rx,q1⟩=>thn (hi pins s1 σ H1 _ I1 q1) fun iv s2 hq_=>?_)
 obtain ⟨y,H2,I2,ry,q2⟩:=hq_
 obtain ⟨a,kvs,k,rfl,rfl,hd,v,hv,q⟩:=znP_ q2
 obtain rfl:u=Value.ref a:=rx
 have g:DGet H2 a (kV k) (some v):=by rw [← hv]; exact DGet.k hd
 exact ⟨zit_ I2 g,zlc_ (by lia) I2 g ry fun w' s3 I3 rw'=>⟨v,H2,I3,rw',q⟩⟩
theorem zj2_ (hu:X.A.units+60<cLine) (ho:PE X o td) (hi:PE X i ty) (hv:PE X value tv) (hs:swapsWith value (some (.Subscript o i pos')) pos.line X.env=pure false:=by rfl) :
  PS X (.Assign [.Subscript o i pos'] value pos) (mDPut td ty tv):=by
 intro pins s σ H D I h
 refine wpAny_Assign_Subscript (thn (hv pins s σ H _ I h) fun r s1 ⟨v,H1,I1,rv,q1⟩=>thn (ho pins s1 σ H1 _ I1 q1) fun u s2 ⟨x,H2,I2,rx,q2⟩=>thn (hi pins s2 σ H2 _ I2 q2) fun iv s3 hq_=>?_) hs
 obtain ⟨y,H3,I3,ry,q3⟩:=hq_
 obtain ⟨a,kvs,k,rfl,rfl,hd,hl,q⟩:=znP_ q3
 obtain rfl:u=Value.ref a:=rx
 exact zlo_ (by lia) I3 (DPut.k hd hl) ry rv fun s4 I4=>⟨σ,_,I4,q⟩
end
section
variable {X:Cx}{o e f:Expr}{apos cpos:Pos}{td ty tx':TE}
end
section
variable {X:Cx}{o i:Expr}{pos:Pos}{td ty:TE}
end
end L2
namespace L2
open PySem PySem.Spec PyProof.Rows
inductive Mo (α:Type) where
 | ok (a:α) | ex (c:String) | no
namespace Mo
variable {α β γ:Type}
def bind (x:Mo α) (f:α→Mo β):Mo β:=match x with | .ok a=>f a | .ex c=>.ex c | .no=>.no
theorem ok_bind (a:α) (f:α→Mo β):(Mo.ok a).bind f=f a:=rfl
def noex (x:Mo α):Mo α:=match x with | .ok a=>.ok a | _=>.no
def lim (n:Nat) (k:Mo α):Mo α:=if n≤sizeLine then k else .no
theorem lim_ok {n:Nat}{k:Mo α}(h:n≤100000):lim n k=k:=if_pos (zdL_ h)
def grd (p:Prop) [Decidable p] (k:Mo α):Mo α:=if p then k else .no
theorem grd_ok {p:Prop} [Decidable p] {k:Mo α}(h:p):grd p k=k:=if_pos h
def opt (x:Option α):Mo α:=match x with | some a=>.ok a | none=>.no
end Mo
def un (F h:Hp):Hp:=fun p=>match F p with | some o=>some o | none=>h p
def Dj (F h:Hp):Prop:=∀ p,F p=none∨h p=none
def Jn (h1 h2 h:Hp):Prop:=∀ p,(h1 p=none∧h p=h2 p)∨(h2 p=none∧h p=h1 p)
def Ext (F H F' H':Hp):Prop:=Same F F'∧Same F' H'∧Same H H'∧∀ p,F p=none→F' p≠none→H p=none
theorem Ext.refl {F H:Hp}(h:Same F H):Ext F H F H:=⟨Same.refl _,h,Same.refl _,fun p a b=>absurd a b⟩
theorem Ext.trans {F H F1 H1 F2 H2:Hp}(a:Ext F H F1 H1) (b:Ext F1 H1 F2 H2):Ext F H F2 H2:=by
 obtain ⟨a1,a2,a3,a4⟩:=a
 obtain ⟨b1,b2,b3,b4⟩:=b
 refine ⟨a1.trans b1,b2,a3.trans b3,fun p hp hq=>?_⟩
 cases e:F1 p with
 | none=>exact a3.free (b4 p e hq)
 | some o=>exact a4 p hp (by rw [e]; exact Option.some_ne_none _)
theorem Ext.heap {F H H':Hp}(h:Same F H) (g:Same H H'):Ext F H F H':=⟨Same.refl _,h.trans g,g,fun p a b=>absurd a b⟩
theorem Ext.new {F H:Hp}(h:Same F H) {p:Addr}{o:HO}(hp:H p=none):Ext F H (upd F p o) (upd H p o):=by
 refine ⟨zeE_ (h.free hp) _,fun b u e=>?_,zeE_ hp _,fun q a b=>?_⟩
 ·unfold upd at e ⊢
  split
  ·rename_i z; rw [if_pos z] at e; exact e
  ·rename_i z; rw [if_neg z] at e; exact h _ _ e
 ·unfold upd at b
  split at b
  ·rename_i z; rw [z]; exact hp
  ·exact absurd a b
structure Ty (α:Type) where
 R:α→V→Hp→Prop
 mono:∀ {a v H H'},Same H H'→R a v H→R a v H'
def Tups (H H':Hp):Prop:=∀ p xs,H p=some (.tup xs)→H' p=some (.tup xs)
def Imm {α:Type}(T:Ty α):Prop:=∀ {a v H H'},Tups H H'→T.R a v H→T.R a v H'
abbrev tyInt:Ty Int:=⟨fun a v _=>v=.int a,fun _ h=>h⟩
abbrev tyStr:Ty (List Nat):=⟨fun a v _=>v=tx a,fun _ h=>h⟩
abbrev tyBl:Ty Bool:=⟨fun a v _=>v=.bl a,fun _ h=>h⟩
abbrev tyNon:Ty Unit:=⟨fun _ v _=>v=.non,fun _ h=>h⟩
theorem zb_:Imm tyInt:=fun _ h=>h
theorem zj_:Imm tyStr:=fun _ h=>h
theorem zD_:Imm tyBl:=fun _ h=>h
theorem zgm_:Imm tyNon:=fun _ h=>h
abbrev tyOpt {α:Type}(T:Ty α):Ty (Option α):=⟨fun a v H=>match a with | none=>v=.non | some x=>T.R x v H∧v≠.non,fun {a v H H'} g h=>by cases a with | none=>exact h | some x=>exact ⟨T.mono g h.1,h.2⟩⟩
theorem zay_ {α:Type}{T:Ty α}(i:Imm T):Imm (tyOpt T):=fun {a v H H'} g h=>by cases a with | none=>exact h | some x=>exact ⟨i g h.1,h.2⟩
structure Cs (γ:Type) where
 R:γ→List V→Hp→Prop
 mono:∀ {c vs H H'},Same H H'→R c vs H→R c vs H'
def ImmC {γ:Type}(C:Cs γ):Prop:=∀ {c vs H H'},Tups H H'→C.R c vs H→C.R c vs H'
abbrev csNil:Cs Unit:=⟨fun _ vs _=>vs=[],fun _ h=>h⟩
abbrev csLast {α:Type}(T:Ty α):Cs α:=⟨fun a vs H=>∃ v,vs=[v]∧T.R a v H,fun g ⟨v,e,h⟩=>⟨v,e,T.mono g h⟩⟩
abbrev csCons {α γ:Type}(T:Ty α) (C:Cs γ):Cs (α×γ):=⟨fun a vs H=>∃ v us,vs=v::us∧T.R a.1 v H∧C.R a.2 us H,fun g ⟨v,us,e,h,q⟩=>⟨v,us,e,T.mono g h,C.mono g q⟩⟩
theorem ziX_:ImmC csNil:=fun _ h=>h
theorem zg_ {α:Type}{T:Ty α}(i:Imm T):ImmC (csLast T):=fun g ⟨v,e,h⟩=>⟨v,e,i g h⟩
theorem zh_ {α γ:Type}{T:Ty α}{C:Cs γ}(i:Imm T) (j:ImmC C):ImmC (csCons T C):=fun g ⟨v,us,e,h,q⟩=>⟨v,us,e,i g h,j g q⟩
abbrev tyTup {γ:Type}(C:Cs γ):Ty γ:=⟨fun c v H=>∃ p us,v=.ref p∧H p=some (.tup us)∧C.R c us H,fun g ⟨p,us,e,h,q⟩=>⟨p,us,e,g _ _ h,C.mono g q⟩⟩
theorem zo_ {γ:Type}{C:Cs γ}(i:ImmC C):Imm (tyTup C):=fun g ⟨p,us,e,h,q⟩=>⟨p,us,e,g _ _ h,i g q⟩
abbrev Prs {α:Type}(T:Ty α) (H:Hp) (xs:List α) (vs:List V):Prop:=Paired (fun x v=>T.R x v H) xs vs
theorem zca_ {α β:Type}{R R':α→β→Prop}(h:∀ a b,R a b→R' a b):∀ {xs:List α}{ys:List β},Paired R xs ys→Paired R' xs ys
 | _,_,.nil=>.nil
 | _,_,.cons a t=>.cons (h _ _ a) (zca_ h t)
theorem Prs.mono {α:Type}{T:Ty α}{H H':Hp}{xs:List α}{vs:List V}(g:Same H H') (h:Prs T H xs vs):Prs T H' xs vs:=zca_ (fun _ _ r=>T.mono g r) h
theorem Prs.imm {α:Type}{T:Ty α}(i:Imm T) {H H':Hp}{xs:List α}{vs:List V}(g:Tups H H') (h:Prs T H xs vs):Prs T H' xs vs:=zca_ (fun _ _ r=>i g r) h
abbrev tyL {α:Type}(T:Ty α):Ty (List α):=⟨fun xs v H=>∃ p vs,v=.ref p∧H p=some (.lst vs)∧Prs T H xs vs,fun g ⟨p,vs,e,h,q⟩=>⟨p,vs,e,g _ _ h,q.mono g⟩⟩
abbrev tySc (K:Fgg):Ty (List Int):=⟨fun xs v H=>∃ p,v=.ref p∧SqL K H p (xs.map V.int),fun g ⟨p,e,h⟩=>⟨p,e,g.seq h⟩⟩
structure Own (α:Type) where
 O:α→V→Hp→Hp→Prop
 fr:Ty α
 mono:∀ {a v F F' h},Same F F'→O a v F h→O a v F' h
 frz:∀ {a v F h},Dj F h→O a v F h→fr.R a v (un F h)
 notup:∀ {a v F h},O a v F h→∀ p xs,h p≠some (.tup xs)
def ImmO {α:Type}(O:Own α):Prop:=∀ {a v F F' h},Tups F F'→O.O a v F h→O.O a v F' h
theorem zU_ {F h:Hp}:Same F (un F h):=fun p o e=>by unfold un; rw [e]
theorem zhr_ {F h:Hp}(d:Dj F h):Same h (un F h):=fun p o e=>by
 unfold un
 rcases d p with z | z
 ·rw [z]; exact e
 ·rw [z] at e; cases e
abbrev owF {α:Type}(T:Ty α):Own α:=⟨fun a v F h=>(∀ p,h p=none)∧T.R a v F,T,fun g ⟨e,h⟩=>⟨e,T.mono g h⟩,fun _ ⟨_,h⟩=>T.mono zU_ h,fun ⟨e,_⟩ p xs z=>by rw [e] at z; cases z⟩
theorem zi_ {α:Type}{T:Ty α}(i:Imm T):ImmO (owF T):=fun g ⟨e,h⟩=>⟨e,i g h⟩
def one (p:Addr) (o:HO):Hp:=fun q=>if q=p then some o else none
theorem zS_ {p:Addr}{o:HO}:one p o p=some o:=if_pos rfl
abbrev owL {α:Type}(T:Ty α):Own (List α):=⟨fun xs v F h=>∃ p vs,v=.ref p∧h=one p (.lst vs)∧Prs T F xs vs,tyL T,fun g ⟨p,vs,e,z,q⟩=>⟨p,vs,e,z,q.mono g⟩,
 fun d ⟨p,vs,e,z,q⟩=>⟨p,vs,e,zhr_ d _ _ (by rw [z]; exact zS_),q.mono zU_⟩,
 fun ⟨p,vs,e,z,q⟩ b xs y=>by rw [z] at y; unfold one at y; split at y<;>cases y⟩
theorem zn_ {α:Type}{T:Ty α}(i:Imm T):ImmO (owL T):=fun g ⟨p,vs,e,z,q⟩=>⟨p,vs,e,z,q.imm i g⟩
inductive Sl:Type 1 where
 | dead
 | fz {α:Type}(T:Ty α) (a:α)
 | ow {α:Type}(O:Own α) (a:α)
def Sl.P:Sl→Option V→Hp→Hp→Prop
 | .dead,_,_,_=>True
 | .fz T a,o,F,_=>∃ v,o=some v∧T.R a v F
 | .ow O a,o,F,h=>∃ v,o=some v∧O.O a v F h
def Sl.Z:Sl→Option V→Hp→Prop
 | .dead,_,_=>True
 | .fz T a,o,F=>∃ v,o=some v∧T.R a v F
 | .ow O a,o,F=>∃ v,o=some v∧O.fr.R a v F
def Sl.cold:Sl→Sl
 | .ow _ _=>.dead
 | s=>s
def Hold:List Sl→St→Hp→Hp→Prop
 | [],[],_,_=>True
 | s::L,o::σ,F,h=>∃ h1 h2,Jn h1 h2 h∧s.P o F h1∧Hold L σ F h2
 | _,_,_,_=>False
def HoldF (L:List Sl) (σ:St) (F:Hp):Prop:=∀ (i:Nat) (s:Sl),L[i]?=some s→s.Z (σ[i]?.join) F
theorem Sl.P.mono {s:Sl}{o:Option V}{F F' h:Hp}(g:Same F F') (q:s.P o F h):s.P o F' h:=by
 cases s with
 | dead=>exact q
 | fz T a=>obtain ⟨v,e,r⟩:=q; exact ⟨v,e,T.mono g r⟩
 | ow O a=>obtain ⟨v,e,r⟩:=q; exact ⟨v,e,O.mono g r⟩
theorem Sl.Z.mono {s:Sl}{o:Option V}{F F':Hp}(g:Same F F') (q:s.Z o F):s.Z o F':=by
 cases s with
 | dead=>exact q
 | fz T a=>obtain ⟨v,e,r⟩:=q; exact ⟨v,e,T.mono g r⟩
 | ow O a=>obtain ⟨v,e,r⟩:=q; exact ⟨v,e,O.fr.mono g r⟩
theorem HoldF.mono {L:List Sl}{σ:St}{F F':Hp}(g:Same F F') (q:HoldF L σ F):HoldF L σ F':=fun i s e=>(q i s e).mono g
theorem Hold.mono:∀ {L:List Sl}{σ:St}{F F' h:Hp},Same F F'→Hold L σ F h→Hold L σ F' h
 | [],[],_,_,_,_,q=>q
 | s::L,o::σ,F,F',h,g,⟨h1,h2,j,p,r⟩=>⟨h1,h2,j,p.mono g,r.mono g⟩
 | [],_::_,_,_,_,_,q=>q.elim
 | _::_,[],_,_,_,_,q=>q.elim
theorem Hold.len:∀ {L:List Sl}{σ:St}{F h:Hp},Hold L σ F h→L.length=σ.length
 | [],[],_,_,_=>rfl
 | s::L,o::σ,F,h,⟨h1,h2,j,p,r⟩=>by rw [List.length_cons,List.length_cons,r.len]
 | [],_::_,_,_,q=>q.elim
 | _::_,[],_,_,q=>q.elim
theorem Jn.l {h1 h2 h:Hp}(j:Jn h1 h2 h):Same h1 h:=fun p o e=>by
 rcases j p with ⟨a,b⟩ | ⟨a,b⟩
 ·rw [a] at e; cases e
 ·rw [b]; exact e
theorem Jn.r {h1 h2 h:Hp}(j:Jn h1 h2 h):Same h2 h:=fun p o e=>by
 rcases j p with ⟨a,b⟩ | ⟨a,b⟩
 ·rw [b]; exact e
 ·rw [a] at e; cases e
theorem Jn.dj {h1 h2 h:Hp}(j:Jn h1 h2 h):Dj h1 h2:=fun p=>by
 rcases j p with ⟨a,b⟩ | ⟨a,b⟩
 ·exact .inl a
 ·exact .inr a
theorem zch_ {h1 h2:Hp}(d:Dj h1 h2):Jn h1 h2 (un h1 h2):=fun p=>by
 unfold un
 rcases d p with a | a
 ·rw [a]; exact .inl ⟨rfl,rfl⟩
 ·refine .inr ⟨a,?_⟩
  cases h1 p with
  | none=>exact a
  | some o=>rfl
theorem Hold.at:∀ {L:List Sl}{σ:St}{F h:Hp}(i:Nat) {s:Sl},Hold L σ F h→L[i]?=some s →
  ∃ o h1 h2,σ[i]?=some o∧Jn h1 h2 h∧s.P o F h1∧∀ s' o' h1' h',Jn h1' h2 h'→s'.P o' F h1'→Hold (L.set i s') (σ.set i o') F h'
 | [],_,_,_,_,_,_,e=>by cases e
 | s::L,[],_,_,_,_,q,_=>q.elim
 | s::L,o::σ,F,h,0,t,⟨h1,h2,j,p,r⟩,e=>by
  cases e
  exact ⟨o,h1,h2,rfl,j,p,fun s' o' h1' h' j' p'=>⟨h1',h2,j',p',r⟩⟩
 | s::L,o::σ,F,h,i+1,t,⟨h1,h2,j,p,r⟩,e=>by
  obtain ⟨o1,k1,k2,e1,j1,p1,f⟩:=Hold.at i r (by simpa using e)
  have d1:Dj h1 k1:=fun p=>by
   rcases j.dj p with a | a
   ·exact .inl a
   ·exact .inr (j1.l.free a)
  have d2:Dj h1 k2:=fun p=>by
   rcases j.dj p with a | a
   ·exact .inl a
   ·exact .inr (j1.r.free a)
  refine ⟨o1,k1,un h1 k2,by simpa using e1,fun p=>?_,p1,fun s' o' k1' h' j' p'=>?_⟩
  ·rcases j p with ⟨a,b⟩ | ⟨a,b⟩
   ·rcases j1 p with ⟨c,d⟩ | ⟨c,d⟩
    ·refine .inl ⟨c,?_⟩; unfold un; rw [a,b,d]
    ·refine .inr ⟨?_,by rw [b,d]⟩; unfold un; rw [a,c]
   ·refine .inl ⟨j1.l.free a,?_⟩
    have:k2 p=none:=j1.r.free a
    unfold un; rw [b]
    cases h1 p with
    | none=>rw [this]
    | some u=>rfl
  ·have dd:Dj k1' k2:=fun p=>by
    rcases j' p with ⟨a,b⟩ | ⟨a,b⟩
    ·exact .inl a
    ·right; unfold un at a
     cases z:h1 p with
     | none=>rw [z] at a; exact a
     | some u=>rw [z] at a; cases a
   refine ⟨h1,un k1' k2,fun p=>?_,p,f s' o' k1' _ (zch_ dd) p'⟩
   rcases j' p with ⟨a,b⟩ | ⟨a,b⟩
   ·unfold un at b ⊢
    cases z:h1 p with
    | none=>rw [z] at b; exact .inl ⟨rfl,by rw [b,a]⟩
    | some u =>
     rw [z] at b
     refine .inr ⟨?_,b⟩
     rw [a]
     rcases d2 p with y | y
     ·rw [y] at z; cases z
     ·exact y
   ·unfold un at a
    cases z:h1 p with
    | some u=>rw [z] at a; cases a
    | none =>
     rw [z] at a
     refine .inl ⟨rfl,?_⟩
     unfold un; rw [b]
     cases k1' p with
     | none=>exact a.symm
     | some u=>rfl
theorem Hold.froz {L:List Sl}{σ:St}{F h:Hp}(d:Dj F h) (q:Hold L σ F h):HoldF L σ (un F h):=by
 intro i s e
 obtain ⟨o,h1,h2,e1,j,p,_⟩:=q.at i e
 rw [e1]
 have d1:Dj F h1:=fun p=>by
  rcases d p with a | a
  ·exact .inl a
  ·exact .inr (j.l.free a)
 cases s with
 | dead=>trivial
 | fz T a=>obtain ⟨v,e2,r⟩:=p; exact ⟨v,e2,T.mono zU_ r⟩
 | ow O a =>
  obtain ⟨v,e2,r⟩:=p
  refine ⟨v,e2,O.fr.mono (fun p u z=>?_) (O.frz d1 r)⟩
  unfold un at z ⊢
  cases y:F p with
  | some w=>rw [y] at z; exact z
  | none=>rw [y] at z; exact j.l _ _ z
theorem Hold.coldF {L:List Sl}{σ:St}{F h:Hp}(q:Hold L σ F h):HoldF (L.map Sl.cold) σ F:=by
 intro i s e
 rw [List.getElem?_map] at e
 cases e1:L[i]? with
 | none=>rw [e1] at e; cases e
 | some t =>
  rw [e1] at e
  cases e
  obtain ⟨o,h1,h2,e2,j,p,_⟩:=q.at i e1
  rw [e2]
  cases t with
  | dead=>trivial
  | fz T a=>obtain ⟨v,e2,r⟩:=p; exact ⟨v,e2,r⟩
  | ow O a=>trivial
end L2
namespace L2
open PySem PySem.Spec PyProof.Rows
def After {α:Type}(K:Fgg) (r:Mo α) (E:XK) (F H:Hp) (k:α→Hp→Hp→Prop):Prop:=match r with
 | .ok a=>∀ F' H',Ext F H F' H'→k a F' H'
 | .ex c=>∀ F' H',Ext F H F' H'→E (.ref (gA K c)) none H'
 | .no=>False
section
variable {K:Fgg}{E:XK}{α β γ ρ:Type}{F H:Hp}
theorem After.bind {r:Mo α}{f:α→Mo β}{k:β→Hp→Hp→Prop}(h:After K (r.bind f) E F H k):After K r E F H fun a F1 H1=>After K (f a) E F1 H1 k:=by
 cases r with
 | ok a =>
  intro F1 H1 x
  have h':After K (f a) E F H k:=h
  cases e:f a with
  | ok b=>rw [e] at h'; exact fun F2 H2 y=>h' F2 H2 (x.trans y)
  | ex c=>rw [e] at h'; exact fun F2 H2 y=>h' F2 H2 (x.trans y)
  | no=>rw [e] at h'; exact h'
 | ex c=>exact h
 | no=>exact h
theorem After.imp {r:Mo α}{k k':α→Hp→Hp→Prop}(h:After K r E F H k) (g:∀ a F' H',Ext F H F' H'→k a F' H'→k' a F' H'):After K r E F H k':=by
 cases r with
 | ok a=>exact fun F' H' x=>g a F' H' x (h F' H' x)
 | ex c=>exact h
 | no=>exact h
theorem After.ok {a:α}{k:α→Hp→Hp→Prop}(hs:Same F H) (h:After K (.ok a) E F H k):k a F H:=h F H (.refl hs)
theorem After.noex {r:Mo α}{k:α→Hp→Hp→Prop}(h:After K r.noex E F H k):After K r E0 F H k:=by
 cases r with
 | ok a=>exact h
 | ex c=>exact h.elim
 | no=>exact h
theorem After.lim {n:Nat}{r:Mo α}{k:α→Hp→Hp→Prop}(h:After K (Mo.lim n r) E F H k):n≤sizeLine∧After K r E F H k:=by
 unfold Mo.lim at h
 split at h
 ·exact ⟨by assumption,h⟩
 ·exact h.elim
theorem After.grd {p:Prop} [Decidable p] {r:Mo α}{k:α→Hp→Hp→Prop}(h:After K (Mo.grd p r) E F H k):p∧After K r E F H k:=by
 unfold Mo.grd at h
 split at h
 ·exact ⟨by assumption,h⟩
 ·exact h.elim
theorem After.opt {x:Option α}{k:α→Hp→Hp→Prop}(h:After K (Mo.opt x) E F H k):∃ a,x=some a∧After K (.ok a) E F H k:=by
 cases x with
 | none=>exact h.elim
 | some a=>exact ⟨a,rfl,h⟩
def EvF (K:Fgg) (e:TE) (E:XK) (L:List Sl) (r:Mo α) (T:Ty α):Prop :=
 ∀ σ F H (Q:VK),HoldF L σ F→Same F H→After K r E F H (fun a F' H'=>∀ v,T.R a v F'→Q v H')→e σ H Q
def OwnK (O:Own α) (H:Hp) (Q:VK) (a:α) (F' H':Hp):Prop:=∀ v h,(∀ p,h p≠none→H p=none)→Dj F' h→Same h H'→O.O a v F' h→Q v H'
def EvO (K:Fgg) (e:TE) (E:XK) (L:List Sl) (r:Mo α) (O:Own α):Prop :=
 ∀ σ F H (Q:VK),HoldF L σ F→Same F H→After K r E F H (OwnK O H Q)→e σ H Q
def EvT (K:Fgg) (t:TT) (E:XK) (L:List Sl) (r:Mo Bool):Prop :=
 ∀ σ F H (Q:Bool→Hp→Prop),HoldF L σ F→Same F H→After K r E F H (fun b _ H'=>Q b H')→t σ H Q
def EvA (K:Fgg) (t:TA) (E:XK) (L:List Sl) (r:Mo γ) (C:Cs γ):Prop :=
 ∀ σ F H (Q:List V→Hp→Prop),HoldF L σ F→Same F H→After K r E F H (fun c F' H'=>∀ vs,C.R c vs F'→Q vs H')→t σ H Q
variable {L:List Sl}{e e1 e2:TE}{T:Ty α}{r:Mo α}
theorem EvO.fr {O:Own α}(h:EvO K e E L r O):EvF K e E L r O.fr:=by
 intro σ F H Q hL hs q
 refine h σ F H Q hL hs ?_
 cases r with
 | ok a =>
  intro F' H' x v h' fresh d s o
  refine q (un F' h') H' ⟨x.1.trans zU_,fun p o e=>?_,x.2.2.1,fun p a b=>?_⟩ v (O.frz d o)
  ·unfold un at e
   cases z:F' p with
   | some w=>rw [z] at e; cases e; exact x.2.1 _ _ z
   | none=>rw [z] at e; exact s _ _ e
  ·unfold un at b
   cases z:F' p with
   | some w=>exact x.2.2.2 p a (by rw [z]; exact Option.some_ne_none _)
   | none=>rw [z] at b; exact fresh p b
 | ex c=>exact q
 | no=>exact q
theorem EvF.ow (h:EvF K e E L r T):EvO K e E L r (owF T):=by
 intro σ F H Q hL hs q
 refine h σ F H Q hL hs (q.imp fun a F' H' x k v hv=>?_)
 exact k v (fun _=>none) (fun p z=>absurd rfl z) (fun p=>.inr rfl) (fun p o z=>by cases z) ⟨fun _=>rfl,hv⟩
theorem ev_c {v:V}{a:α}(h:∀ F,T.R a v F):EvF K (tC v) E L (.ok a) T:=fun σ F H Q hL hs q=>q.ok hs v (h F)
theorem zt_ (i:Int):EvF K (tC (.int i)) E L (.ok i) tyInt:=ev_c fun _=>rfl
theorem zaX_ (l:List Nat):EvF K (tC (tx l)) E L (.ok l) tyStr:=ev_c fun _=>rfl
theorem zh5_ (b:Bool):EvF K (tC (.bl b)) E L (.ok b) tyBl:=ev_c fun _=>rfl
theorem zkI_:EvF K (tC .non) E L (.ok ()) tyNon:=ev_c fun _=>rfl
theorem znF_ {β:Type}{T:Ty β}:EvF K (tC .non) E L (.ok (none:Option β)) (tyOpt T):=ev_c fun _=>rfl
theorem znD_ (hn:∀ a v F,T.R a v F→v≠.non) (h:EvF K e E L r T):EvF K e E L (r.bind fun a=>.ok (some a)) (tyOpt T):=by
 intro σ F H Q hL hs q
 exact h σ F H Q hL hs (q.bind.imp fun a F1 H1 x k v hv=>k.ok x.2.1 v ⟨hv,hn _ _ _ hv⟩)
theorem ze_ (i:Nat) {a:α}(h:L[i]?=some (.fz T a)):EvF K (mVar i) E L (.ok a) T:=by
 intro σ F H Q hL hs q
 obtain ⟨v,e,r⟩:=hL i _ h
 unfold mVar
 cases z:σ[i]? with
 | none=>rw [z] at e; cases e
 | some o =>
  rw [z] at e
  cases (show o=some v from e)
  exact q.ok hs v r
theorem zfd_ (i:Nat) {O:Own α}{a:α}(h:L[i]?=some (.ow O a)):EvF K (mVar i) E L (.ok a) O.fr:=by
 intro σ F H Q hL hs q
 obtain ⟨v,e,r⟩:=hL i _ h
 unfold mVar
 cases z:σ[i]? with
 | none=>rw [z] at e; cases e
 | some o =>
  rw [z] at e
  cases (show o=some v from e)
  exact q.ok hs v r
def Op2 (K:Fgg) (m:R2) (E:XK) (T1:Ty α) (T2:Ty β) (g:α→β→Mo γ) (T:Ty γ):Prop :=
 ∀ a b x y F H (Q:VK),Same F H→T1.R a x F→T2.R b y F→After K (g a b) E F H (fun c F' H'=>∀ v,T.R c v F'→Q v H')→m x y H Q
def Op2O (K:Fgg) (m:R2) (E:XK) (T1:Ty α) (T2:Ty β) (g:α→β→Mo γ) (O:Own γ):Prop :=
 ∀ a b x y F H (Q:VK),Same F H→T1.R a x F→T2.R b y F→After K (g a b) E F H (OwnK O H Q)→m x y H Q
theorem OwnK.back {O:Own α}{H H1:Hp}{Q:VK}{a:α}{F' H':Hp}(g:Same H H1) (h:OwnK O H Q a F' H'):OwnK O H1 Q a F' H' :=
 fun v k fresh d s o=>h v k (fun p z=>g.free (fresh p z)) d s o
theorem zL_ {m:R2}{T1:Ty α}{T2:Ty β}{T:Ty γ}{g:α→β→Mo γ}{r1:Mo α}{r2:Mo β}(hop:Op2 K m E T1 T2 g T) (h1:EvF K e1 E L r1 T1) (h2:EvF K e2 E L r2 T2) :
  EvF K (tOp m e1 e2) E L (r1.bind fun a=>r2.bind fun b=>g a b) T:=by
 intro σ F H Q hL hs q
 refine h1 σ F H _ hL hs (q.bind.imp fun a F1 H1 x1 k1 v1 hv1=>?_)
 refine h2 σ F1 H1 _ (hL.mono x1.1) x1.2.1 (k1.bind.imp fun b F2 H2 x2 k2 v2 hv2=>?_)
 exact hop a b v1 v2 F2 H2 Q x2.2.1 (T1.mono x2.1 hv1) hv2 k2
theorem znI_ {m:R2}{T1:Ty α}{T2:Ty β}{O:Own γ}{g:α→β→Mo γ}{r1:Mo α}{r2:Mo β}(hop:Op2O K m E T1 T2 g O) (h1:EvF K e1 E L r1 T1) (h2:EvF K e2 E L r2 T2) :
  EvO K (tOp m e1 e2) E L (r1.bind fun a=>r2.bind fun b=>g a b) O:=by
 intro σ F H Q hL hs q
 refine h1 σ F H _ hL hs (q.bind.imp fun a F1 H1 x1 k1 v1 hv1=>?_)
 refine h2 σ F1 H1 _ (hL.mono x1.1) x1.2.1 (k1.bind.imp fun b F2 H2 x2 k2 v2 hv2=>?_)
 exact hop a b v1 v2 F2 H2 Q x2.2.1 (T1.mono x2.1 hv1) hv2 (k2.imp fun c F3 H3 x3 k3=>k3.back (x1.2.2.1.trans x2.2.2.1))
theorem zpb_ {g:Int→Int→V}{f:Int→Int→α}(h:∀ i j F,T.R (f i j) (g i j) F):Op2 K (mI0 g) E tyInt tyInt (fun i j=>.ok (f i j)) T:=by
 intro a b x y F H Q hs hx hy q
 cases hx; cases hy
 exact q.ok hs _ (h a b F)
theorem op_i {C:Int→Int→Prop} [∀ i j,Decidable (C i j)] {g:Int→Int→V}{f:Int→Int→α}(h:∀ i j F,T.R (f i j) (g i j) F):Op2 K (mI C g) E tyInt tyInt (fun i j=>.grd (C i j) (.ok (f i j))) T:=by
 intro a b x y F H Q hs hx hy q
 cases hx; cases hy
 obtain ⟨c,q⟩:=q.grd
 exact ⟨c,q.ok hs _ (h a b F)⟩
instance (i j:Int):Decidable (CMul i j):=inferInstanceAs (Decidable (_∨_))
instance (i j:Int):Decidable (CDiv i j):=inferInstanceAs (Decidable (_∧_))
instance (i j:Int):Decidable (CPow i j):=inferInstanceAs (Decidable (_∧_∧_))
theorem zai_:Op2 K mAdd E tyInt tyInt (fun i j=>.ok (i+j)) tyInt:=by
 intro a b x y F H Q hs hx hy q
 cases hx; cases hy
 exact q.ok hs _ rfl
theorem zdV_:Op2 K mSub E tyInt tyInt (fun i j=>.ok (i-j)) tyInt:=zpb_ fun _ _ _=>rfl
theorem zaL_:Op2 K mMod E tyInt tyInt (fun i j=>.grd (0<j) (.ok (i % j))) tyInt:=op_i (C:=fun _ j=>0<j) fun _ _ _=>rfl
theorem zp0_:Op2 K mLt E tyInt tyInt (fun i j=>.ok (decide (i<j))) tyBl:=zpb_ fun _ _ _=>rfl
theorem zp2_:Op2 K mGt E tyInt tyInt (fun i j=>.ok (decide (j<i))) tyBl:=zpb_ fun _ _ _=>rfl
theorem zpH_:Op2 K mGe E tyInt tyInt (fun i j=>.ok (decide (j≤i))) tyBl:=zpb_ fun _ _ _=>rfl
theorem zlJ_:Op2 K mAdd E tyStr tyStr (fun i j=>.lim (i.length+j.length) (.ok (i++j))) tyStr:=by
 intro a b x y F H Q hs hx hy q
 cases hx; cases hy
 obtain ⟨c,q⟩:=q.lim
 exact ⟨c,q.ok hs _ rfl⟩
theorem Prs.append {xs ys:List α}{vs us:List V}(a:Prs T H xs vs) (b:Prs T H ys us):Prs T H (xs++ys) (vs++us):=by
 induction a with
 | nil=>exact b
 | cons r t ih=>exact .cons r ih
theorem Prs.len {xs:List α}{vs:List V}(a:Prs T H xs vs):xs.length=vs.length:=Paired.length a
theorem Prs.get {xs:List α}{vs:List V}(a:Prs T H xs vs) (i:Nat):(xs[i]?=none∧vs[i]?=none)∨∃ x v,xs[i]?=some x∧vs[i]?=some v∧T.R x v H:=by
 induction a generalizing i with
 | nil=>exact .inl ⟨rfl,rfl⟩
 | cons r t ih =>
  cases i with
  | zero=>exact .inr ⟨_,_,rfl,rfl,r⟩
  | succ i=>simpa using ih i
theorem Prs.take {xs:List α}{vs:List V}(a:Prs T H xs vs) (n:Nat):Prs T H (xs.take n) (vs.take n):=by
 induction a generalizing n with
 | nil=>rw [List.take_nil,List.take_nil]; exact .nil
 | cons r t ih =>
  cases n with
  | zero=>exact .nil
  | succ n=>exact .cons r (ih n)
theorem Prs.drop {xs:List α}{vs:List V}(a:Prs T H xs vs) (n:Nat):Prs T H (xs.drop n) (vs.drop n):=by
 induction a generalizing n with
 | nil=>rw [List.drop_nil,List.drop_nil]; exact .nil
 | cons r t ih =>
  cases n with
  | zero=>exact .cons r t
  | succ n=>exact ih n
theorem Prs.set {xs:List α}{vs:List V}(a:Prs T H xs vs) (i:Nat) {x:α}{v:V}(q:T.R x v H):Prs T H (xs.set i x) (vs.set i v):=by
 induction a generalizing i with
 | nil=>exact .nil
 | cons r t ih =>
  cases i with
  | zero=>exact .cons q t
  | succ i=>exact .cons r (ih i)
theorem zoV_ {vs:List V}{xs:List α}{p:Addr}{F' H':Hp}{Q:VK}(hp:H p=none) (h2:H' p=some (.lst vs)) (hf:F' p=none) (hr:Prs T F' xs vs) (q:OwnK (owL T) H Q xs F' H'):Q (.ref p) H':=by
 refine q (.ref p) (one p (.lst vs)) (fun b z=>?_) (fun b=>?_) (fun b o z=>?_) ⟨p,vs,rfl,rfl,hr⟩
 ·unfold one at z; split at z
  ·rename_i e; rw [e]; exact hp
  ·exact absurd rfl z
 ·unfold one; split
  ·rename_i e; rw [e]; exact .inl hf
  ·exact .inr rfl
 ·unfold one at z; split at z
  ·rename_i e; rw [e]; cases z; exact h2
  ·cases z
theorem zdP_ {vs:List V}{xs:List α}{p:Addr}{Q:VK}(hs:Same F H) (hp:H p=none) (hr:Prs T F xs vs) (q:After K (.ok xs) E F H (OwnK (owL T) H Q)):Q (.ref p) (upd H p (.lst vs)) :=
 zoV_ hp zaC_ (hs.free hp) hr (q F _ (.heap hs (zeE_ hp _)))
theorem zlv_:Op2O K mAdd E (tyL T) (tyL T) (fun i j=>.lim (i.length+j.length) (.ok (i++j))) (owL T):=by
 rintro a b x y F H Q hs ⟨p,vs,rfl,h1,r1⟩ ⟨p2,us,rfl,h2,r2⟩ q
 obtain ⟨c,q⟩:=q.lim
 exact ⟨vs,us,hs _ _ h1,hs _ _ h2,by rw [← r1.len,← r2.len]; exact c,fun p hp=>zdP_ hs hp (r1.append r2) q⟩
theorem zlh_:EvA K tNil E L (.ok ()) csNil:=fun σ F H Q hL hs q=>q.ok hs [] rfl
theorem zk_ (h:EvF K e E L r T):EvA K (tCons e tNil) E L r (csLast T):=by
 intro σ F H Q hL hs q
 exact h σ F H _ hL hs (q.imp fun a F1 H1 x k v hv=>k [v] ⟨v,rfl,hv⟩)
theorem zr_ {ta:TA}{r2:Mo γ}{C:Cs γ}(h:EvF K e E L r T) (h2:EvA K ta E L r2 C):EvA K (tCons e ta) E L (r.bind fun a=>r2.bind fun c=>.ok (a,c)) (csCons T C):=by
 intro σ F H Q hL hs q
 refine h σ F H _ hL hs (q.bind.imp fun a F1 H1 x1 k1 v1 hv1=>?_)
 refine h2 σ F1 H1 _ (hL.mono x1.1) x1.2.1 (k1.bind.imp fun c F2 H2 x2 k2 vs hvs=>?_)
 exact k2.ok x2.2.1 (v1::vs) ⟨v1,vs,rfl,T.mono x2.1 hv1,hvs⟩
def Ct (K:Fgg) (C:Cs γ) (f:γ→Mo ρ) (O:Own ρ):Sp:=fun vs H Q E=>∃ F c,Same F H∧C.R c vs F∧After K (f c) E F H (OwnK O H Q)
theorem zbQ_ {C:Cs γ}{f:γ→Mo ρ}{O:Own ρ}{ta:TA}{r:Mo γ}(h:EvA K ta E L r C):EvO K (tCall (Ct K C f O) [] E0 ta) E L (r.bind fun c=>(f c).noex) O:=by
 intro σ F H Q hL hs q
 refine h σ F H _ hL hs (q.bind.imp fun c F1 H1 x1 k1 vs hvs=>?_)
 rw [List.append_nil]
 exact ⟨F1,c,x1.2.1,hvs,k1.noex.imp fun r F2 H2 x2 k2=>k2.back x1.2.2.1⟩
def Bl (K:Fgg) (m:List V→Hp→VK→Prop) (E:XK) (C:Cs γ) (g:γ→Mo α) (T:Ty α):Prop :=
 ∀ c vs F H (Q:VK),Same F H→C.R c vs F→After K (g c) E F H (fun c F' H'=>∀ v,T.R c v F'→Q v H')→m vs H Q
def BlO (K:Fgg) (m:List V→Hp→VK→Prop) (E:XK) (C:Cs γ) (g:γ→Mo α) (O:Own α):Prop :=
 ∀ c vs F H (Q:VK),Same F H→C.R c vs F→After K (g c) E F H (OwnK O H Q)→m vs H Q
theorem zjz_ {m:List V→Hp→VK→Prop}{C:Cs γ}{g:γ→Mo α}{ta:TA}{r:Mo γ}(hb:Bl K m E C g T) (h:EvA K ta E L r C):EvF K (tCB m ta) E L (r.bind g) T:=by
 intro σ F H Q hL hs q
 exact h σ F H _ hL hs (q.bind.imp fun c F1 H1 x1 k1 vs hvs=>hb c vs F1 H1 Q x1.2.1 hvs k1)
theorem zfL_ {m:List V→Hp→VK→Prop}{C:Cs γ}{g:γ→Mo α}{O:Own α}{ta:TA}{r:Mo γ}(hb:BlO K m E C g O) (h:EvA K ta E L r C):EvO K (tCB m ta) E L (r.bind g) O:=by
 intro σ F H Q hL hs q
 exact h σ F H _ hL hs (q.bind.imp fun c F1 H1 x1 k1 vs hvs=>hb c vs F1 H1 Q x1.2.1 hvs (k1.imp fun a F2 H2 x2 k2=>k2.back x1.2.2.1))
theorem zoa_:Bl K (mLen K) E (csLast tyStr) (fun l=>.lim l.length (.ok (l.length:Int))) tyInt:=by
 rintro c vs F H Q hs ⟨v,rfl,rfl⟩ q
 obtain ⟨z,q⟩:=q.lim
 exact ⟨z,q.ok hs _ rfl⟩
theorem zeJ_:Bl K (mLen K) E (csLast (tyL T)) (fun l=>.ok (l.length:Int)) tyInt:=by
 rintro c vs F H Q hs ⟨v,rfl,p,us,rfl,h,r⟩ q
 exact ⟨us,.inl (.of (hs _ _ h)),q.ok hs _ (by rw [r.len])⟩
theorem zmp_:Bl K (mLen K) E (csLast (tySc K)) (fun l=>.ok (l.length:Int)) tyInt:=by
 rintro c vs F H Q hs ⟨v,rfl,p,rfl,h⟩ q
 exact ⟨_,.inl (hs.seq h),q.ok hs _ (by rw [List.length_map])⟩
theorem zoY_:Bl K mStr E (csLast tyInt) (fun i=>.grd (i.natAbs.log2<1920) (.ok (strI i))) tyStr:=by
 rintro c vs F H Q hs ⟨v,rfl,rfl⟩ q
 obtain ⟨z,q⟩:=q.grd
 exact ⟨z,q.ok hs _ rfl⟩
theorem zdZ_:BlO K (mList K) E (csLast (tyL T)) (fun l=>.ok l) (owL T):=by
 rintro c vs F H Q hs ⟨v,rfl,p,us,rfl,h,r⟩ q
 exact .inl ⟨us,.inl (.of (hs _ _ h)),fun l hl=>zdP_ hs hl r q⟩
theorem zlX_ {xs:List Int}:Prs tyInt H xs (xs.map V.int):=by
 induction xs with
 | nil=>exact .nil
 | cons x xs ih=>exact .cons rfl ih
theorem zn0_:Op2 K (mIx K) E tyStr tyInt (fun l i=>.lim l.length (.opt ((atI l i).map fun c=>[c]))) tyStr:=by
 rintro a b x y F H Q hs rfl rfl q
 obtain ⟨z,q⟩:=q.lim
 obtain ⟨l,e,q⟩:=q.opt
 refine ⟨z,?_⟩
 show (match atI a b with | some c=>Q (tx [c]) H | none=>False)
 cases e1:atI a b with
 | none=>rw [e1] at e; cases e
 | some c=>rw [e1] at e; cases e; exact q.ok hs _ rfl
theorem zlL_ {xs:List α}{vs:List V}(r:Prs T H xs vs) {i:Int}{x:α}(e:atI xs i=some x):∃ v,atI vs i=some v∧T.R x v H:=by
 unfold atI at e ⊢
 rw [← r.len]
 cases e1:ixN xs.length i with
 | none=>rw [e1] at e; cases e
 | some j =>
  rw [e1] at e
  rcases r.get j with ⟨a,b⟩ | ⟨y,v,a,b,c⟩
  ·have:xs[j]?=some x:=e
   rw [a] at this; cases this
  ·have:xs[j]?=some x:=e
   rw [a] at this; cases this
   exact ⟨v,b,c⟩
theorem zfD_:Op2 K (mIx K) E (tyL T) tyInt (fun l i=>.opt (atI l i)) T:=by
 rintro a b x y F H Q hs ⟨p,vs,rfl,h,r⟩ rfl q
 obtain ⟨l,e,q⟩:=q.opt
 refine ⟨vs,.inl (.of (hs _ _ h)),?_⟩
 obtain ⟨v,e2,rv⟩:=zlL_ r e
 rw [e2]
 exact q.ok hs v rv
theorem zns_:Op2 K (mIx K) E (tySc K) tyInt (fun l i=>.opt (atI l i)) tyInt:=by
 rintro a b x y F H Q hs ⟨p,rfl,h⟩ rfl q
 obtain ⟨l,e,q⟩:=q.opt
 refine ⟨_,.inl (hs.seq h),?_⟩
 obtain ⟨v,e2,rv⟩:=zlL_ (H:=F) zlX_ e
 rw [e2]
 exact q.ok hs v rv
def CsAt (C:Cs γ) (i:Nat) (T:Ty α) (pr:γ→α):Prop:=∀ {c vs H},C.R c vs H→∃ v,vs[i]?=some v∧T.R (pr c) v H
theorem zjM_:CsAt (csLast T) 0 T id:=fun ⟨v,e,h⟩=>⟨v,by rw [e]; rfl,h⟩
theorem at_0 {C:Cs γ}:CsAt (csCons T C) 0 T Prod.fst:=fun ⟨v,us,e,h,q⟩=>⟨v,by rw [e]; rfl,h⟩
theorem at_s {C:Cs γ}{i:Nat}{pr:γ→α}{T':Ty β}(h:CsAt C i T pr):CsAt (csCons T' C) (i+1) T (fun c=>pr c.2):=fun ⟨v,us,e,_,q⟩=>by
 obtain ⟨w,e2,r⟩:=h q
 exact ⟨w,by rw [e]; exact e2,r⟩
theorem zfG_ {C:Cs γ}{i:Nat}{pr:γ→α}{r:Mo γ}(ha:CsAt C i T pr) (h:EvF K e E L r (tyTup C)):EvF K (tOp (mIx K) e (tC (.int i))) E L (r.bind fun c=>.ok (pr c)) T:=by
 intro σ F H Q hL hs q
 refine h σ F H _ hL hs (q.bind.imp fun c F1 H1 x1 k1 v1 hq_=>?_)
 obtain ⟨p,us,ev,hp,hc⟩:=hq_
 subst ev
 obtain ⟨w,e2,rw'⟩:=ha hc
 refine ⟨us,.inr (.of (x1.2.1 _ _ hp)),?_⟩
 have e3:atI us (i:Int)=some w:=by
  unfold atI
  rw [zg7_ (by lia) (by have:=(List.getElem?_eq_some_iff.mp e2).1; lia)]
  simpa using e2
 rw [e3]
 exact k1.ok x1.2.1 w rw'
end
end L2
namespace L2
open PySem PySem.Spec PyProof.Rows
section
variable {K:Fgg}{E:XK}{α β γ ρ:Type}{F H:Hp}{L:List Sl}{e e1 e2:TE}{T:Ty α}{r:Mo α}
variable {t t1 t2:TT}{b b1 b2:Mo Bool}
theorem zaT_ (h:EvF K e E L b tyBl):EvT K (mTest e) E L b:=by
 intro σ F H Q hL hs q
 refine h σ F H _ hL hs (q.imp fun a F1 H1 x k v hv=>?_)
 cases hv
 exact k
theorem zgl_ (h:EvT K t E L b):EvT K (tNot t) E L (b.bind fun c=>.ok (!c)):=by
 intro σ F H Q hL hs q
 exact h σ F H _ hL hs (q.bind.imp fun a F1 H1 x k=>k.ok x.2.1)
theorem zo4_ (h1:EvT K t1 E L b1) (h2:EvT K t2 E L b2):EvT K (mOr t1 t2) E L (b1.bind fun c=>if c then .ok true else b2):=by
 intro σ F H Q hL hs q
 refine h1 σ F H _ hL hs (q.bind.imp fun a F1 H1 x k=>⟨fun c=>?_,fun c=>?_⟩)
 ·rw [if_pos c] at k; exact k.ok x.2.1
 ·rw [if_neg (by rw [c]; decide)] at k; exact h2 σ F1 H1 _ (hL.mono x.1) x.2.1 k
theorem zpy_ (h1:EvF K e1 E L b1 tyBl) (h2:EvF K e2 E L b2 tyBl):EvF K (mAndV e1 e2) E L (b1.bind fun c=>if c then b2 else .ok false) tyBl:=by
 intro σ F H Q hL hs q
 refine h1 σ F H _ hL hs (q.bind.imp fun a F1 H1 x k v hv=>?_)
 cases hv
 refine ⟨fun c=>?_,fun c=>?_⟩
 ·rw [if_pos c] at k; exact h2 σ F1 H1 _ (hL.mono x.1) x.2.1 k
 ·rw [if_neg (by rw [c]; decide)] at k; exact k.ok x.2.1 _ rfl
theorem zqw_ {r:Mo Int}(h1:EvF K e1 E L r tyInt):EvF K (mNeg e1) E L (r.bind fun c=>.ok (-c)) tyInt:=by
 intro σ F H Q hL hs q
 refine h1 σ F H _ hL hs (q.bind.imp fun a F1 H1 x k v hv=>?_)
 cases hv
 exact k.ok x.2.1 _ rfl
theorem ev_if {r1 r2:Mo α}(ht:EvT K t E L b) (h1:EvF K e1 E L r1 T) (h2:EvF K e2 E L r2 T):EvF K (mIf t e1 e2) E L (b.bind fun c=>if c then r1 else r2) T:=by
 intro σ F H Q hL hs q
 refine ht σ F H _ hL hs (q.bind.imp fun a F1 H1 x k=>⟨fun c=>?_,fun c=>?_⟩)
 ·rw [if_pos c] at k; exact h1 σ F1 H1 _ (hL.mono x.1) x.2.1 k
 ·rw [if_neg (by rw [c]; decide)] at k; exact h2 σ F1 H1 _ (hL.mono x.1) x.2.1 k
theorem After.more {k:α→Hp→Hp→Prop}(h:After K r E F H k):After K r E F H fun a F1 H1=>∀ F2 H2,Ext F1 H1 F2 H2→k a F2 H2:=by
 cases r with
 | ok a=>exact fun F1 H1 x F2 H2 y=>h F2 H2 (x.trans y)
 | ex c=>exact h
 | no=>exact h
def CsN (C:Cs γ) (n:Nat):Prop:=∀ {c vs H},C.R c vs H→vs.length=n
theorem zjA_:CsN csNil 0:=fun e=>by rw [e]; rfl
theorem zav_:CsN (csLast T) 1:=fun ⟨v,e,_⟩=>by rw [e]; rfl
theorem zZ_ {C:Cs γ}{n:Nat}(h:CsN C n):CsN (csCons T C) (n+1):=fun ⟨v,us,e,_,q⟩=>by rw [e,List.length_cons,h q]
theorem zmy_ {ta:TA}{C:Cs γ}{r:Mo γ}{n:Nat}(hl:CsN C n) (h:EvA K ta E L r C) (hn:n≤100:=by decide):EvF K (tTup ta) E L r (tyTup C):=by
 intro σ F H Q hL hs q
 refine h σ F H _ hL hs (q.more.imp fun c F1 H1 x1 k1 vs hvs=>⟨zdL_ (by rw [hl hvs]; lia),fun p hp=>?_⟩)
 have x:=Ext.new (o:=.tup vs) x1.2.1 hp
 exact k1 _ _ x _ ⟨p,vs,rfl,zaC_,C.mono x.1 hvs⟩
def CsL (C:Cs γ) (T:Ty α) (f:γ→List α):Prop:=∀ {c vs H},C.R c vs H→Prs T H (f c) vs
theorem zfP_:CsL (csLast T) T fun a=>[a]:=fun ⟨v,e,h⟩=>by rw [e]; exact .cons h .nil
theorem zdy_ {C:Cs γ}{f:γ→List α}(h:CsL C T f):CsL (csCons T C) T fun c=>c.1::f c.2:=fun ⟨v,us,e,q,z⟩=>by rw [e]; exact .cons q (h z)
theorem zlg_ {ta:TA}{C:Cs γ}{r:Mo γ}{n:Nat}{f:γ→List α}(hl:CsN C n) (hf:CsL C T f) (h:EvA K ta E L r C) (hn:n≤100:=by decide):EvO K (tLst ta) E L (r.bind fun c=>.ok (f c)) (owL T):=by
 intro σ F H Q hL hs q
 refine h σ F H _ hL hs (q.bind.imp fun c F1 H1 x1 k1 vs hvs=>⟨zdL_ (by rw [hl hvs]; omega),fun p hp=>?_⟩)
 exact zdP_ x1.2.1 hp (hf hvs) (k1.imp fun a F2 H2 x2 k2=>k2.back x1.2.2.1)
theorem zcy_ (T:Ty α):EvO K (tLst tNil) E L (.ok []) (owL T):=by
 intro σ F H Q hL hs q
 exact ⟨Nat.zero_le _,fun p hp=>zdP_ hs hp (T:=T) .nil q⟩
def EvP (K:Fgg) (t:TO) (E:XK) (L:List Sl) (r:Mo (Option Int)):Prop :=
 ∀ σ F H (Q:Option Int→Hp→Prop),HoldF L σ F→Same F H→After K r E F H (fun b _ H'=>Q b H')→t σ H Q
theorem zo5_:EvP K tNoPart E L (.ok none):=fun σ F H Q hL hs q=>q.ok hs
theorem zlR_ {r:Mo Int}(h:EvF K e E L r tyInt):EvP K (mPart e) E L (r.bind fun i=>.ok (some i)):=by
 intro σ F H Q hL hs q
 refine h σ F H _ hL hs (q.bind.imp fun a F1 H1 x k v hv=>?_)
 cases hv
 exact k.ok x.2.1
def cutG (xs:List α) (lo hi:Option Int):List α:=(xs.drop (HT.sIx xs.length 0 lo)).take (HT.sIx xs.length xs.length hi-HT.sIx xs.length 0 lo)
theorem zlC_ {xs:List α}{vs:List V}(q:Prs T H xs vs) (lo hi:Option Int):Prs T H (cutG xs lo hi) (cutV vs lo hi):=by
 unfold cutG cutV
 rw [← q.len]
 exact (q.drop _).take _
variable {tl th:TO}{rl rh:Mo (Option Int)}
theorem znC_ {r:Mo (List Nat)}(h:EvF K e E L r tyStr) (hl:EvP K tl E L rl) (hh:EvP K th E L rh):EvF K (tSl (mSl K) e tl th) E L (r.bind fun l=>rl.bind fun a=>rh.bind fun b=>.lim l.length (.ok (cutG l a b))) tyStr:=by
 intro σ F H Q hL hs q
 refine h σ F H _ hL hs (q.bind.imp fun l F1 H1 x1 k1 v hv=>?_)
 refine hl σ F1 H1 _ (hL.mono x1.1) x1.2.1 (k1.bind.imp fun a F2 H2 x2 k2=>?_)
 refine hh σ F2 H2 _ (hL.mono (x1.1.trans x2.1)) x2.2.1 (k2.bind.imp fun b F3 H3 x3 k3=>?_)
 cases hv
 obtain ⟨z,k3⟩:=k3.lim
 exact ⟨z,k3.ok x3.2.1 _ rfl⟩
theorem zmC_ {r:Mo (List α)}(h:EvF K e E L r (tyL T)) (hl:EvP K tl E L rl) (hh:EvP K th E L rh):EvO K (tSl (mSl K) e tl th) E L (r.bind fun l=>rl.bind fun a=>rh.bind fun b=>.ok (cutG l a b)) (owL T):=by
 intro σ F H Q hL hs q
 refine h σ F H _ hL hs (q.bind.imp fun l F1 H1 x1 k1 v hv=>?_)
 refine hl σ F1 H1 _ (hL.mono x1.1) x1.2.1 (k1.bind.imp fun a F2 H2 x2 k2=>?_)
 refine hh σ F2 H2 _ (hL.mono (x1.1.trans x2.1)) x2.2.1 (k2.bind.imp fun b F3 H3 x3 k3=>?_)
 obtain ⟨p,vs,rfl,hp,hr⟩:=hv
 have x:=x2.1.trans x3.1
 exact ⟨vs,.of (x3.2.1 _ _ (x _ _ hp)),fun q hq=>zdP_ x3.2.1 hq (zlC_ (hr.mono x) a b) (k3.imp fun _ _ _ _ z=>z.back ((x1.2.2.1.trans x2.2.2.1).trans x3.2.2.1))⟩
theorem znA_ {r:Mo (List Int)}(h:EvF K e E L r (tySc K)) (hl:EvP K tl E L rl) (hh:EvP K th E L rh):EvO K (tSl (mSl K) e tl th) E L (r.bind fun l=>rl.bind fun a=>rh.bind fun b=>.ok (cutG l a b)) (owL tyInt):=by
 intro σ F H Q hL hs q
 refine h σ F H _ hL hs (q.bind.imp fun l F1 H1 x1 k1 v hv=>?_)
 refine hl σ F1 H1 _ (hL.mono x1.1) x1.2.1 (k1.bind.imp fun a F2 H2 x2 k2=>?_)
 refine hh σ F2 H2 _ (hL.mono (x1.1.trans x2.1)) x2.2.1 (k2.bind.imp fun b F3 H3 x3 k3=>?_)
 obtain ⟨p,rfl,hp⟩:=hv
 have x:=x2.1.trans x3.1
 exact ⟨_,x3.2.1.seq (x.seq hp),fun q hq=>zdP_ x3.2.1 hq (zlC_ zlX_ a b) (k3.imp fun _ _ _ _ z=>z.back ((x1.2.2.1.trans x2.2.2.1).trans x3.2.2.1))⟩
structure EqT (K:Fgg) (T:Ty α) (n:Nat) (q:α→α→Bool):Prop where
 eq:∀ {a b x y H},T.R a x H→T.R b y H→EqD K H n x y (q a b)
theorem zly_:EqT K tyInt 0 (fun a b=>decide (a=b)):=⟨by
 rintro a b x y H rfl rfl
 have:eqV (.int a) (.int b)=decide (a=b):=by unfold eqV; exact rfl
 rw [← this]; exact .flat rfl rfl⟩
theorem zny_:EqT K tyStr 0 (fun a b=>decide (a=b)):=⟨by
 rintro a b x y H rfl rfl
 have:eqV (tx a) (tx b)=decide (a=b):=by
  unfold eqV
  rw [Bool.eq_iff_iff,decide_eq_true_iff]
  constructor
  ·intro h
   have h:=eq_of_beq h
   injection h with h
   have:=congrArg Array.toList h
   simpa using this
  ·rintro rfl; exact beq_self_eq_true _
 rw [← this]; exact .flat rfl rfl⟩
def eqL (q:α→α→Bool):List α→List α→Bool
 | [],[]=>true
 | x::xs,y::ys=>q x y && eqL q xs ys
 | _,_=>false
theorem zlA_ {q:α→α→Bool}:∀ {xs ys:List α},xs.length≠ys.length→eqL q xs ys=false
 | [],[],h=>absurd rfl h
 | [],_::_,_=>rfl
 | _::_,[],_=>rfl
 | x::xs,y::ys,h=>by unfold eqL; rw [zlA_ (by simpa using h),Bool.and_false]
theorem zlO_ {q:α→α→Bool}:∀ {xs ys:List α},xs.length=ys.length→eqL q xs ys=(List.range xs.length).all fun i=>match xs[i]?,ys[i]? with | some x,some y=>q x y | _,_=>true
 | [],[],_=>rfl
 | x::xs,y::ys,h=>by
  unfold eqL
  rw [List.length_cons,List.range_succ_eq_map,List.all_cons,List.all_map,zlO_ (by simpa using h)]
  rfl
theorem zpF_ {n:Nat}{q:α→α→Bool}(h:EqT K T n q):EqT K (tyL T) (n+1) (eqL q):=⟨by
 rintro a b x y H ⟨p,vs,rfl,hp,hr⟩ ⟨p2,us,rfl,hp2,hr2⟩
 by_cases hl:a.length=b.length
 ·rw [zlO_ hl,hr.len]
  refine .lst _ (.of hp) (.of hp2) (by rw [← hr.len,← hr2.len,hl]) fun i x y hx hy=>?_
  rcases hr.get i with ⟨_,z⟩ | ⟨x1,v1,e1,e2,r1⟩
  ·rw [z] at hx; cases hx
  rcases hr2.get i with ⟨_,z⟩ | ⟨x2,v2,e3,e4,r2⟩
  ·rw [z] at hy; cases hy
  rw [e2] at hx; cases hx
  rw [e4] at hy; cases hy
  simp only [e1,e3]
  exact h.eq r1 r2
 ·rw [zlA_ hl]
  exact .lstN (.of hp) (.of hp2) (by rw [← hr.len,← hr2.len]; exact hl)⟩
structure EqC (K:Fgg) (C:Cs γ) (n m:Nat) (q:γ→γ→Bool):Prop where
 eq:∀ {a b xs ys H},C.R a xs H→C.R b ys H→xs.length=m∧ys.length=m∧∃ e:Nat→Bool,(∀ i x y,xs[i]?=some x→ys[i]?=some y→EqD K H n x y (e i))∧(List.range m).all e=q a b
theorem EqD.le {H:Hp}{n m:Nat}{x y:V}{b:Bool}(h:EqD K H n x y b) (g:n≤m):EqD K H m x y b:=by
 induction g with
 | refl=>exact h
 | step _ ih=>exact .up ih
theorem zmZ_ {n:Nat}{q:α→α→Bool}(h:EqT K T n q):EqC K (csLast T) n 1 q:=⟨by
 rintro a b xs ys H ⟨v,rfl,hv⟩ ⟨u,rfl,hu⟩
 refine ⟨rfl,rfl,fun _=>q a b,fun i x y hx hy=>?_,by simp [List.range_succ]⟩
 cases i with
 | zero=>cases hx; cases hy; exact h.eq hv hu
 | succ i=>cases hx⟩
theorem znc_ {C:Cs γ}{n m k:Nat}{q:α→α→Bool}{q':γ→γ→Bool}(h:EqT K T n q) (h':EqC K C k m q'):EqC K (csCons T C) (max n k) (m+1) (fun a b=>q a.1 b.1 && q' a.2 b.2):=⟨by
 rintro a b xs ys H ⟨v,us,rfl,hv,hc⟩ ⟨u,ws,rfl,hu,hc'⟩
 obtain ⟨l1,l2,e,he,ea⟩:=h'.eq hc hc'
 refine ⟨by rw [List.length_cons,l1],by rw [List.length_cons,l2],fun i=>match i with | 0=>q a.1 b.1 | j+1=>e j,fun i x y hx hy=>?_,?_⟩
 ·cases i with
  | zero=>cases hx; cases hy; exact (h.eq hv hu).le (Nat.le_max_left _ _)
  | succ i=>exact (he i x y (by simpa using hx) (by simpa using hy)).le (Nat.le_max_right _ _)
 ·rw [List.range_succ_eq_map,List.all_cons,List.all_map,← ea]; rfl⟩
theorem znZ_ {C:Cs γ}{n m:Nat}{q:γ→γ→Bool}(h:EqC K C n m q):EqT K (tyTup C) (n+1) q:=⟨by
 rintro a b x y H ⟨p,us,rfl,hp,hc⟩ ⟨p2,ws,rfl,hp2,hc2⟩
 obtain ⟨l1,l2,e,he,ea⟩:=h.eq hc hc2
 have:=EqD.tup e (.of hp) (.of hp2) he (K:=K)
 rw [l1,l2,Nat.min_self,ea,beq_self_eq_true,Bool.and_true] at this
 exact this⟩
theorem zpv_ {n:Nat}{q:α→α→Bool}(h:EqT K T n q) (hn:n≤50:=by decide) (hr:∀ {a x H},T.R a x H→∃ p,x=.ref p):Op2 K (mEqK K) E T T (fun a b=>.ok (q a b)) tyBl:=by
 intro a b x y F H Q hs hx hy k
 have hd:=h.eq (T.mono hs hx) (T.mono hs hy)
 obtain ⟨p,rfl⟩:=hr hx
 obtain ⟨p2,rfl⟩:=hr hy
 exact ⟨n,_,hn,hd,k.ok hs _ rfl⟩
theorem zqj_ {n:Nat}{q:α→α→Bool}(h:EqT K T n q) (hn:n≤50:=by decide) (hr:∀ {a x H},T.R a x H→∃ p,x=.ref p):Op2 K (mNeK K) E T T (fun a b=>.ok (!(q a b))) tyBl:=by
 intro a b x y F H Q hs hx hy k
 have hd:=h.eq (T.mono hs hx) (T.mono hs hy)
 obtain ⟨p,rfl⟩:=hr hx
 obtain ⟨p2,rfl⟩:=hr hy
 exact ⟨n,_,hn,hd,k.ok hs _ rfl⟩
theorem ref_l {a:List α}{x:V}{H:Hp}(h:(tyL T).R a x H):∃ p,x=.ref p:=by obtain ⟨p,_,e,_⟩:=h; exact ⟨p,e⟩
theorem zps_ {n:Nat}{q:α→α→Bool}(h:EqT K (tyL T) n (eqL q)) (hn:n≤50:=by decide):Op2 K (mEqK K) E (tyL T) (tyL T) (fun a b=>.ok (eqL q a b)) tyBl:=zpv_ h hn ref_l
theorem zpw_ {n:Nat}{q:α→α→Bool}(h:EqT K (tyL T) n (eqL q)) (hn:n≤50:=by decide):Op2 K (mNeK K) E (tyL T) (tyL T) (fun a b=>.ok (!(eqL q a b))) tyBl:=zqj_ h hn ref_l
theorem zpe_:Op2 K (mEqK K) E tyInt tyInt (fun a b=>.ok (decide (a=b))) tyBl:=by
 rintro a b x y F H Q hs rfl rfl k
 exact k.ok hs _ rfl
theorem zqe_:Op2 K (mNeK K) E tyInt tyInt (fun a b=>.ok (!decide (a=b))) tyBl:=by
 rintro a b x y F H Q hs rfl rfl k
 exact k.ok hs _ rfl
theorem zik_:Op2 K (mEqK K) E tyStr tyStr (fun a b=>.ok (decide (a=b))) tyBl:=by
 rintro a b x y F H Q hs rfl rfl k
 exact k.ok hs _ rfl
theorem zor_:Op2 K (mNeK K) E tyStr tyStr (fun a b=>.ok (!decide (a=b))) tyBl:=by
 rintro a b x y F H Q hs rfl rfl k
 exact k.ok hs _ rfl
theorem zof_:Op2 K mIs E (tyOpt T) tyNon (fun a _=>.ok a.isNone) tyBl:=by
 rintro a b x y F H Q hs hx rfl k
 have:decide (x=.non)=a.isNone:=by
  cases a with
  | none=>cases hx; rfl
  | some a=>exact decide_eq_false hx.2
 show (match mIsB x .non with | some b=>Q (.bl b) H | none=>False)
 have e:mIsB x .non=some (decide (x=.non)):=rfl
 rw [e,this]
 exact k.ok hs _ rfl
theorem zmz_:Op2 K mIsNot E (tyOpt T) tyNon (fun a _=>.ok a.isSome) tyBl:=by
 rintro a b x y F H Q hs hx rfl k
 have:(!decide (x=.non))=a.isSome:=by
  cases a with
  | none=>cases hx; rfl
  | some a=>rw [decide_eq_false hx.2]; rfl
 show (match mIsB x .non with | some b=>Q (.bl (!b)) H | none=>False)
 have e:mIsB x .non=some (decide (x=.non)):=rfl
 rw [e]
 show Q (.bl (!decide (x=.non))) H
 rw [this]
 exact k.ok hs _ rfl
theorem zqk_:Op2 K (mIn K false) E tyStr tyStr (fun a b=>.ok (inS a b)) tyBl:=by
 rintro a b x y F H Q hs rfl rfl k
 exact k.ok hs _ rfl
def TyN (K:Fgg) (T:Ty α) (n:String):Prop:=∀ {a x H},T.R a x H→tyS K H x n
theorem zpP_:TyN K tyStr "str" := fun h=>by cases h; rfl
theorem tn_l:TyN K (tyL T) "list" := fun ⟨p,vs,e,h,_⟩=>by subst e; exact .inl ⟨rfl,vs,h⟩
theorem zoe_ {x:V}{n c:String}{bb:Bool}{Q:VK}(h:tyS K H x n) (hb:isaB n c=some bb) (q:Q (.bl bb) H):mIsa K [x,.ty c] H Q:=by
 cases x with
 | non=>cases (show n=_ from h); show (match isaB "NoneType" c with | some b=>Q (.bl b) H | none=>False); rw [hb]; exact q
 | bl _=>cases (show n=_ from h); show (match isaB "bool" c with | some b=>Q (.bl b) H | none=>False); rw [hb]; exact q
 | int _=>cases (show n=_ from h); show (match isaB "int" c with | some b=>Q (.bl b) H | none=>False); rw [hb]; exact q
 | str _=>cases (show n=_ from h); show (match isaB "str" c with | some b=>Q (.bl b) H | none=>False); rw [hb]; exact q
 | ref p=>exact ⟨n,h,by rw [hb]; exact q⟩
 | _=>exact h.elim
theorem zoK_ {n c:String}{bb:Bool}(hn:TyN K T n) (h:EvF K e E L r T) (hb:isaB n c=some bb:=by decide):EvF K (tCB (mIsa K) (tCons e (tCons (tC (.ty c)) tNil))) E L (r.bind fun _=>.ok bb) tyBl:=by
 intro σ F H Q hL hs q
 refine h σ F H _ hL hs (q.bind.imp fun l F1 H1 x1 k1 v hv=>?_)
 exact zoe_ (hn (T.mono x1.2.1 hv)) hb (k1.ok x1.2.1 _ rfl)
def Me (K:Fgg) (m:V→List V→Hp→VK→Prop) (E:XK) (C:Cs γ) (g:List Nat→γ→Mo α) (T:Ty α):Prop :=
 ∀ l c vs F H (Q:VK),Same F H→C.R c vs F→After K (g l c) E F H (fun c F' H'=>∀ v,T.R c v F'→Q v H')→m (tx l) vs H Q
theorem znj_ {m:V→List V→Hp→VK→Prop}{C:Cs γ}{g:List Nat→γ→Mo α}{ta:TA}{r0:Mo (List Nat)}{r:Mo γ}(hb:Me K m E C g T) (h0:EvF K e E L r0 tyStr) (h:EvA K ta E L r C):EvF K (tBM K "str" m e ta) E L (r0.bind fun l=>r.bind fun c=>g l c) T:=by
 intro σ F H Q hL hs q
 refine h0 σ F H _ hL hs (q.bind.imp fun l F1 H1 x1 k1 v hv=>?_)
 cases hv
 refine ⟨rfl,h σ F1 H1 _ (hL.mono x1.1) x1.2.1 (k1.bind.imp fun c F2 H2 x2 k2 vs hvs=>hb l c vs F2 H2 Q x2.2.1 hvs k2)⟩
theorem zl9_:Me K mIndex E (csLast tyStr) (fun l c=>.grd (findS l c ≠ -1) (.ok (findS l c))) tyInt:=by
 rintro l c vs F H Q hs ⟨v,rfl,rfl⟩ k
 obtain ⟨z,k⟩:=k.grd
 exact ⟨z,k.ok hs _ rfl⟩
def zfL (l:List Nat) (i:Int):List Nat:=(Txt.zfill ⟨l.toArray⟩ i).cps.toList
theorem zkj_:Me K mZfill E (csLast tyInt) (fun l i=>.grd (PadOk i=true) (.ok (zfL l i))) tyStr:=by
 rintro l c vs F H Q hs ⟨v,rfl,rfl⟩ k
 obtain ⟨z,k⟩:=k.grd
 exact ⟨z,k.ok hs _ rfl⟩
end
end L2
namespace L2
open PySem PySem.Spec PyProof.Rows
section
variable {K:Fgg}{E:XK}{α β γ ρ S S' B:Type}{F H:Hp}{L:List Sl}{e e1 e2:TE}{T:Ty α}{r:Mo α}
def setL (L:List Sl) (ss:List (Nat×Sl)):List Sl:=ss.foldl (fun L q=>L.set q.1 q.2) L
def setS (σ:St) (ss:List (Nat×Option V)):St:=ss.foldl (fun L q=>L.set q.1 q.2) σ
inductive Plain (F:Hp):List (Nat×Sl)→List (Nat×Option V)→Prop
 | nil:Plain F [] []
 | cons {α:Type}{T:Ty α}{a:α}{i:Nat}{v:V}{ss vs} (h:T.R a v F) (t:Plain F ss vs):Plain F ((i,.fz T a)::ss) ((i,some v)::vs)
def TgR (K:Fgg) (g:TG) (T:Ty α) (ss:α→List (Nat×Sl)):Prop :=
 ∀ a v σ F H (Q:St→Hp→Prop),Same F H→T.R a v F→(∀ vs,Plain F (ss a) vs→Q (setS σ vs) H)→g v σ H Q
theorem zab_ (i:Nat):TgR K (gName i) T fun a=>[(i,.fz T a)]:=by
 intro a v σ F H Q hs hv q
 exact q [(i,some v)] (.cons hv .nil)
def TgC (K:Fgg) (g:TGs) (C:Cs γ) (ss:γ→List (Nat×Sl)):Prop :=
 ∀ a vs σ F H (Q:St→Hp→Prop),Same F H→C.R a vs F→(∀ us,Plain F (ss a) us→Q (setS σ us) H)→g vs σ H Q
theorem zf9_ {g:TG}{ss:α→List (Nat×Sl)}(h:TgR K g T ss):TgC K (gConsM g gNilM) (csLast T) ss:=by
 rintro a vs σ F H Q hs ⟨v,rfl,hv⟩ q
 exact h a v σ F H _ hs hv fun us hu=>q us hu
theorem zgA_ (i:Nat) {g:TGs}{C:Cs γ}{ss:γ→List (Nat×Sl)}(h:TgC K g C ss):TgC K (gConsM (gName i) g) (csCons T C) fun c=>(i,.fz T c.1)::ss c.2:=by
 rintro a vs σ F H Q hs ⟨v,us,rfl,hv,hc⟩ q
 exact h a.2 us _ F H _ hs hc fun ws hw=>q ((i,some v)::ws) (.cons hv hw)
theorem zjt_ {n:Nat}{g:TGs}{C:Cs γ}{ss:γ→List (Nat×Sl)}(hn:CsN C n) (h:TgC K g C ss):TgR K (gTupM K n g) (tyTup C) ss:=by
 rintro a v σ F H Q hs ⟨p,us,rfl,hp,hc⟩ q
 exact ⟨us,.of (hs _ _ hp),hn hc,h a us σ F H Q hs hc q⟩
theorem zkd_ {σ:St}{i j:Nat}{o:Option V}(h:i<σ.length):((σ.set i o)[j]?).join=if i=j then o else (σ[j]?).join:=by
 rw [List.getElem?_set]
 split
 ·rename_i e; subst e; first | rfl | (rw [if_pos h]; rfl)
 ·rfl
theorem zli_ {σ:St}{i:Nat}{s:Sl}{o:Option V}(hl:L.length=σ.length) (h:HoldF L σ F) (hs:s.Z o F):HoldF (L.set i s) (σ.set i o) F:=by
 intro j t e
 rw [List.getElem?_set] at e
 split at e
 ·rename_i z; subst z
  split at e
  ·rename_i y; cases e
   rw [zkd_ (by rw [← hl]; exact y),if_pos rfl]; exact hs
  ·cases e
 ·rename_i z
  by_cases y:i<σ.length
  ·rw [zkd_ y,if_neg z]; exact h j t e
  ·rw [List.set_eq_of_length_le (by lia)]; exact h j t e
theorem ziq_ {ss:List (Nat×Sl)}{vs:List (Nat×Option V)}(p:Plain F ss vs):∀ {L:List Sl}{σ:St},L.length=σ.length→HoldF L σ F→HoldF (setL L ss) (setS σ vs) F∧(setS σ vs).length=σ.length∧(setL L ss).length=L.length:=by
 induction p with
 | nil=>exact fun hl h=>⟨h,rfl,rfl⟩
 | cons hv t ih =>
  rename_i T a i v ss vs
  intro L σ hl h
  obtain ⟨a1,b,c⟩:=ih (L:=L.set i (.fz T a)) (σ:=σ.set i (some v)) (by rw [List.length_set,List.length_set]; exact hl) (zli_ (s:=.fz T a) hl h ⟨v,rfl,hv⟩)
  exact ⟨a1,b.trans (by rw [List.length_set]),c.trans (by rw [List.length_set])⟩
def DeadAt (L:List Sl) (is:List Nat):Prop:=∀ i∈is,∀ s,L[i]?=some s→s=.dead
theorem zmb_ {ss:List (Nat×Sl)}{vs:List (Nat×Option V)}(p:Plain F ss vs) {j:Nat}:∀ {σ:St},j∉ss.map (·.1)→(setS σ vs)[j]?=σ[j]?:=by
 induction p with
 | nil=>exact fun _=>rfl
 | cons hv t ih =>
  rename_i i v ss vs
  intro σ hj
  have h1:i≠j:=fun z=>hj (by rw [← z]; exact List.mem_cons_self)
  have h2:=ih (σ:=σ.set i (some v)) fun z=>hj (List.mem_cons_of_mem _ z)
  exact h2.trans (List.getElem?_set_ne h1)
structure Yl (K:Fgg) (J:It) (xs:List α) (T:Ty α) (F1:Hp):Prop where
 go:∀ i H x,Same F1 H→xs[i]?=some x→J.go i H∧∀ v H',J.yld i H v H'→∀ F,Same F1 F→Same F H→∃ F',Ext F H F' H'∧T.R x v F'
 stop:∀ H,Same F1 H→J.stop xs.length H
def EvI (K:Fgg) (wi:TI) (E:XK) (L:List Sl) (r:Mo (List α)) (T:Ty α):Prop :=
 ∀ σ F H (R:It→Hp→Prop),HoldF L σ F→Same F H→After K r E F H (fun xs F' H'=>∀ J,Yl K J xs T F'→R J H')→wi σ H R
theorem znS_ {r:Mo (List Nat)}(h:EvF K e E L r tyStr):EvI K (iAny K e) E L (r.bind fun l=>.ok (l.map fun c=>[c])) tyStr:=by
 intro σ F H R hL hs q
 refine h σ F H _ hL hs (q.bind.imp fun l F1 H1 x1 k1 v hv=>?_)
 cases hv
 refine k1.ok x1.2.1 _ ⟨fun i H x hH hx=>?_,fun H hH=>?_⟩
 ·rw [List.getElem?_map] at hx
  cases e:l[i]? with
  | none=>rw [e] at hx; cases hx
  | some c =>
   rw [e] at hx; cases hx
   have hi:=(List.getElem?_eq_some_iff.mp e).1
   refine ⟨hi,?_⟩
   rintro v H' ⟨rfl,rfl⟩ F _ hF
   refine ⟨F,.refl hF,?_⟩
   show tx [l.getD i 0]=tx [c]
   rw [List.getD_eq_getElem?_getD,e]; rfl
 ·show l.length≤(l.map fun c=>[c]).length
  rw [List.length_map]; exact Nat.le_refl _
theorem ei_l {r:Mo (List α)}(h:EvF K e E L r (tyL T)):EvI K (iAny K e) E L r T:=by
 intro σ F H R hL hs q
 refine h σ F H _ hL hs (q.imp fun l F1 H1 x1 k1 v hv=>?_)
 obtain ⟨p,vs,rfl,hp,hr⟩:=hv
 refine .inl ⟨⟨vs,.of (x1.2.1 _ _ hp)⟩,k1 _ ⟨fun i H x hH hx=>?_,fun H hH=>⟨vs,.of (hH _ _ hp),by rw [hr.len]; exact Nat.le_refl _⟩⟩⟩
 rcases hr.get i with ⟨a,_⟩ | ⟨y,u,a,b,c⟩
 ·rw [a] at hx; cases hx
 ·rw [a] at hx; cases hx
  refine ⟨⟨vs,u,.of (hH _ _ hp),b⟩,?_⟩
  rintro v H' ⟨rfl,z⟩ F hF hF'
  have e:=z vs (.of (hH _ _ hp))
  rw [b] at e; cases e
  exact ⟨F,.refl hF',T.mono hF c⟩
def rngI (lo:Int) (n:Nat):List Int:=(List.range n).map fun (i:Nat)=>lo+i
theorem zpT_ {lo:Int}{n:Nat}{F1:Hp}:Yl K (Itr lo n) (rngI lo n) tyInt F1:=by
 refine ⟨fun i H x hH hx=>?_,fun H hH=>?_⟩
 ·unfold rngI at hx
  rw [List.getElem?_map] at hx
  cases e:(List.range n)[i]? with
  | none=>rw [e] at hx; cases hx
  | some c =>
   rw [e] at hx; cases hx
   obtain ⟨hi,e⟩:=List.getElem?_eq_some_iff.mp e
   rw [List.getElem_range] at e; subst e
   rw [List.length_range] at hi
   refine ⟨hi,?_⟩
   rintro v H' ⟨rfl,rfl⟩ F _ hF
   exact ⟨F,.refl hF,rfl⟩
 ·show n≤_
  unfold rngI; rw [List.length_map,List.length_range]; exact Nat.le_refl _
theorem zeF_ {r:Mo Int}{ta:TA}(h:EvA K ta E L r (csLast tyInt)):EvI K (mRng1 ta) E L (r.bind fun j=>.grd (-(2 ^ 62)≤j∧j<2 ^ 62) (.ok (rngI 0 j.toNat))) tyInt:=by
 intro σ F H R hL hs q
 refine h σ F H _ hL hs (q.bind.imp fun l F1 H1 x1 k1 v hv=>?_)
 obtain ⟨u,rfl,rfl⟩:=hv
 obtain ⟨z,k1⟩:=k1.grd
 exact ⟨z.1,z.2,k1.ok x1.2.1 _ zpT_⟩
def enumL (xs:List α):List (Int×α):=(List.range xs.length).zip xs |>.map fun q=>((q.1:Int),q.2)
theorem zfB_ (xs:List α) (i:Nat):(enumL xs)[i]?=(xs[i]?).map fun x=>((i:Int),x):=by
 unfold enumL
 rw [List.getElem?_map]
 cases e:xs[i]? with
 | none =>
  have:=List.getElem?_eq_none_iff.mp e
  rw [List.getElem?_eq_none (by rw [List.length_zip,List.length_range]; lia)]; rfl
 | some x =>
  have hi:=(List.getElem?_eq_some_iff.mp e).1
  have:((List.range xs.length).zip xs)[i]?=some (i,x):=List.getElem?_zip_eq_some.mpr ⟨by rw [List.getElem?_range hi],e⟩
  rw [this]; rfl
theorem zdj_ (xs:List α):(enumL xs).length=xs.length:=by unfold enumL; rw [List.length_map,List.length_zip,List.length_range,Nat.min_self]
theorem zpl_ {T2:Ty β}{r:Mo (List α×List β)}{ta:TA}(h:EvA K ta E L r (csCons (tyL T) (csLast (tyL T2)))):EvI K (iZip K ta) E L (r.bind fun c=>.ok (c.1.zip c.2)) (tyTup (csCons T (csLast T2))):=by
 intro σ F H R hL hs q
 refine h σ F H _ hL hs (q.bind.imp fun l F1 H1 x1 k1 vs hv=>?_)
 obtain ⟨v,ws,rfl,⟨p,us,rfl,hp,hr⟩,v2,rfl,p2,us2,rfl,hp2,hr2⟩:=hv
 refine ⟨⟨us,.of (x1.2.1 _ _ hp)⟩,⟨us2,.of (x1.2.1 _ _ hp2)⟩,k1.ok x1.2.1 _ ⟨fun i H x hH hx=>?_,fun H hH=>?_⟩⟩
 ·obtain ⟨hx1,hx2⟩:=List.getElem?_zip_eq_some.mp (show (l.1.zip l.2)[i]?=some (x.1,x.2) from hx)
  rcases hr.get i with ⟨a,_⟩ | ⟨y,u,a,b,c⟩
  ·rw [a] at hx1; cases hx1
  rcases hr2.get i with ⟨a',_⟩ | ⟨y',u',a',b',c'⟩
  ·rw [a'] at hx2; cases hx2
  rw [a] at hx1; rw [a'] at hx2
  injection hx1 with hx1
  injection hx2 with hx2
  refine ⟨⟨us,us2,u,u',.of (hH _ _ hp),.of (hH _ _ hp2),b,b'⟩,?_⟩
  rintro v H' ⟨p3,w,w',z,z',hp3,rfl,rfl⟩ F hF hF'
  have e:=z us (.of (hH _ _ hp))
  have e':=z' us2 (.of (hH _ _ hp2))
  rw [b] at e; cases e
  rw [b'] at e'; cases e'
  have x':=Ext.new (o:=.tup [u,u']) hF' hp3
  refine ⟨_,x',p3,_,rfl,zaC_,_,_,rfl,?_,u',rfl,?_⟩
  ·rw [← hx1]; exact T.mono (hF.trans x'.1) c
  ·rw [← hx2]; exact T2.mono (hF.trans x'.1) c'
 ·refine ⟨us,us2,.of (hH _ _ hp),.of (hH _ _ hp2),?_⟩
  rw [List.length_zip,hr.len,hr2.len]
  omega
def compM (f:α→Mo (Option β)):List α→List β→Mo (List β)
 | [],acc=>.ok acc
 | x::xs,acc=>(f x).bind fun o=>match o with | none=>compM f xs acc | some y=>.lim (acc.length+1) (compM f xs (acc++[y]))
theorem zaN_ {f:α→Mo (Option β)}{g:α→β}:∀ {xs:List α}{acc:List β},(∀ x∈xs,f x=.ok (some (g x)))→acc.length+xs.length≤100000→compM f xs acc=.ok (acc++xs.map g)
 | [],acc,_,_=>by unfold compM; rw [List.map_nil,List.append_nil]
 | x::xs,acc,h,hl=>by
  rw [List.length_cons] at hl
  unfold compM
  rw [h x List.mem_cons_self,Mo.ok_bind]
  show Mo.lim _ _=_
  rw [Mo.lim_ok (by lia),zaN_ (fun y hy=>h y (List.mem_cons_of_mem _ hy)) (by rw [List.length_append,List.length_singleton]; lia)]
  simp
def cL (lv:List Str) (fr:List (Str×Nat)) (L:List Sl):List Sl:=lv.map (fun _=>Sl.dead)++fr.map fun q=>(L[q.2]?).getD .dead
theorem zkb_ {lv:List Str}{fr:List (Str×Nat)}{σ:St}(h:HoldF L σ F):HoldF (cL lv fr L) (cS lv fr σ) F:=by
 intro i s e
 unfold cL at e
 unfold cS
 by_cases hi:i<lv.length
 ·rw [List.getElem?_append_left (by rw [List.length_map]; exact hi),List.getElem?_map,List.getElem?_eq_getElem hi] at e
  cases e; trivial
 ·rw [List.getElem?_append_right (by rw [List.length_map]; lia),List.length_map,List.getElem?_map] at e
  rw [List.getElem?_append_right (by rw [List.length_map]; lia),List.length_map,List.getElem?_map]
  cases z:fr[i-lv.length]? with
  | none=>rw [z] at e; cases e
  | some q =>
   rw [z] at e
   have e:(L[q.2]?).getD .dead=s:=by simpa using e
   show Sl.Z s (σ[q.2]?).join F
   cases y:L[q.2]? with
   | none=>rw [y] at e; rw [← e]; trivial
   | some t=>rw [y] at e; cases e; exact h _ _ y
theorem zmQ_ {lv:List Str}{fr:List (Str×Nat)}{σ:St}:(cL lv fr L).length=(cS lv fr σ).length:=by unfold cL cS; simp
def cond1 (c:Mo Bool) (f:Mo β):Mo (Option β):=(c.bind fun b=>if b then f.bind fun y=>.ok (some y) else .ok none).noex
end
end L2
namespace L2
open PySem PySem.Spec PyProof.Rows
inductive Out (ρ B S:Type) where
 | nx (s:S) | rt (r:ρ) | bk (b:B) | ct (b:B)
def Okk (F0 H0 F h H:Hp):Prop:=Ext F0 H0 F H∧Dj F h∧Same h H∧(∀ p,h p≠none→H0 p=none)∧∀ p xs,h p≠some (.tup xs)
section
variable {K:Fgg}{E:XK}{α β γ ρ S S' B B':Type}{F0 H0 F h H:Hp}{L:List Sl}{e e1 e2:TE}{T:Ty α}{r:Mo α}{O:Own ρ}
def Fin (K:Fgg) (r:Mo (Out ρ B S)) (E:XK) (LS:S→List Sl) (LB:B→List Sl) (O:Own ρ) (F0 H0:Hp) (D:Ends):Prop:=match r with
 | .ok (.nx s)=>∀ σ F h H,Hold (LS s) σ F h→Okk F0 H0 F h H→D.nx σ H
 | .ok (.bk b)=>∀ σ F h H,Hold (LB b) σ F h→Okk F0 H0 F h H→D.bk σ H
 | .ok (.ct b)=>∀ σ F h H,Hold (LB b) σ F h→Okk F0 H0 F h H→D.ct σ H
 | .ok (.rt a)=>∀ v F h H,Okk F0 H0 F h H→O.O a v F h→D.rt v H
 | .ex c=>∀ F h H,Okk F0 H0 F h H→E (.ref (gA K c)) none H
 | .no=>False
def EvS (K:Fgg) (t:TS) (E:XK) (L:List Sl) (r:Mo (Out ρ B S)) (LS:S→List Sl) (LB:B→List Sl) (O:Own ρ):Prop :=
 ∀ F0 H0 σ F h H (D:Ends),Hold L σ F h→Okk F0 H0 F h H→Fin K r E LS LB O F0 H0 D→t D σ H
variable {t u:TS}{LS:S→List Sl}{LS':S'→List Sl}{LB:B→List Sl}
def thenO (r:Mo (Out ρ B S)) (k:S→Mo (Out ρ B S')):Mo (Out ρ B S'):=r.bind fun o=>match o with | .nx s=>k s | .rt a=>.ok (.rt a) | .bk b=>.ok (.bk b) | .ct b=>.ok (.ct b)
theorem zcD_ {r:Mo (Out ρ B S)}{k:S→Mo (Out ρ B S')}(h1:EvS K t E L r LS LB O) (h2:∀ s,EvS K u E (LS s) (k s) LS' LB O):EvS K (tSeq t u) E L (thenO r k) LS' LB O:=by
 intro F0 H0 σ F h H D hL ok fin
 refine h1 F0 H0 σ F h H { D with nx:=u D } hL ok ?_
 cases r with
 | no=>exact fin
 | ex c=>exact fin
 | ok o =>
  cases o with
  | nx s=>exact fun σ F h H hL ok=>h2 s F0 H0 σ F h H D hL ok fin
  | rt a=>exact fin
  | bk b=>exact fin
  | ct b=>exact fin
theorem Okk.thaw (ok:Okk F0 H0 F h H):Same (un F h) H:=fun p o e=>by
 unfold un at e
 cases z:F p with
 | some w=>rw [z] at e; cases e; exact ok.1.2.1 _ _ z
 | none=>rw [z] at e; exact ok.2.2.1 _ _ e
def less (G h:Hp):Hp:=fun p=>match h p with | none=>G p | some _=>none
theorem zx_ {G h:Hp}{p:Addr}(e:h p=none):less G h p=G p:=by unfold less; rw [e]
theorem Okk.back (ok:Okk F0 H0 F h H) {G' H':Hp}(x:Ext (un F h) H G' H'):Okk F0 H0 (less G' h) h H'∧Same F (less G' h)∧Tups G' (less G' h):=by
 obtain ⟨o1,o2,o3,o4,o5⟩:=ok
 have hs:Same F (less G' h):=fun p o e=>by
  have hp:h p=none:=by
   rcases o2 p with z | z
   ·rw [z] at e; cases e
   ·exact z
  rw [zx_ hp]; exact x.1 _ _ (zU_ _ _ e)
 refine ⟨⟨⟨o1.1.trans hs,fun p o e=>?_,o1.2.2.1.trans x.2.2.1,fun p a b=>?_⟩,fun p=>?_,fun p o e=>?_,o4,o5⟩,hs,fun p xs e=>?_⟩
 ·unfold less at e
  split at e
  ·exact x.2.1 _ _ e
  ·cases e
 ·unfold less at b
  split at b
  ·rename_i z
   cases y:un F h p with
   | none=>exact o1.2.2.1.free (x.2.2.2 p y b)
   | some o =>
    unfold un at y
    cases w:F p with
    | some _=>exact o1.2.2.2 p a (by rw [w]; exact Option.some_ne_none _)
    | none=>rw [w,z] at y; cases y
  ·exact absurd rfl b
 ·unfold less
  cases z:h p with
  | none=>exact .inr rfl
  | some o=>exact .inl rfl
 ·exact x.2.1 _ _ (x.1 _ _ (zhr_ o2 _ _ e))
 ·unfold less
  cases z:h p with
  | none=>exact e
  | some o =>
   have:=x.1 _ _ (zhr_ o2 _ _ z)
   rw [e] at this; cases this
   exact absurd z (o5 p xs)
theorem zad_ {r:Mo α}{k:α→Mo (Out ρ B S)}{G:Hp}{D:Ends}{kk:α→Hp→Hp→Prop}(ok:Okk F0 H0 F h H) (G1:Hp) (hG:G1=un F h∨G1=F) (fin:Fin K (r.bind k) E LS LB O F0 H0 D)
  (hk:∀ a F' H',r=.ok a→Ext G1 H F' H'→kk a F' H'):After K r E G1 H kk:=by
 cases r with
 | ok a=>exact fun F' H' x=>hk a F' H' rfl x
 | no=>exact fin
 | ex c =>
  intro F' H' x
  rcases hG with rfl | rfl
  ·exact fin _ _ _ (ok.back x).1
  ·refine fin F' h H' ⟨ok.1.trans x,fun p=>?_,ok.2.2.1.trans x.2.2.1,ok.2.2.2.1,ok.2.2.2.2⟩
   cases z:h p with
   | none=>exact .inr rfl
   | some o =>
    left
    rcases ok.2.1 p with y | y
    ·cases w:F' p with
     | none=>rfl
     | some o'=>have:=x.2.2.2 p y (by rw [w]; exact Option.some_ne_none _); rw [ok.2.2.1 _ _ z] at this; cases this
    ·rw [y] at z; cases z
theorem Okk.cold (ok:Okk F0 H0 F h H) {F' H':Hp}(x:Ext F H F' H'):Okk F0 H0 F' h H':=by
 refine ⟨ok.1.trans x,fun p=>?_,ok.2.2.1.trans x.2.2.1,ok.2.2.2.1,ok.2.2.2.2⟩
 cases z:h p with
 | none=>exact .inr rfl
 | some o =>
  left
  rcases ok.2.1 p with y | y
  ·cases w:F' p with
   | none=>rfl
   | some o'=>have:=x.2.2.2 p y (by rw [w]; exact Option.some_ne_none _); rw [ok.2.2.1 _ _ z] at this; cases this
  ·rw [y] at z; cases z
theorem zde_ {i:Nat}{s:Sl}{σ:St}{a:α}{v:V}(hi:L[i]?=some s) (hL:Hold L σ F h) (hv:T.R a v F):Hold (L.set i (.fz T a)) (σ.set i (some v)) F h:=by
 obtain ⟨o,h1,h2,_,j,_,f⟩:=hL.at i hi
 exact f (.fz T a) (some v) h1 h j ⟨v,rfl,hv⟩
theorem zh2_ {i:Nat}{s:Sl}{σ:St}{a:α}{v:V}{O1:Own α}{hn:Hp}(ok:Okk F0 H0 F h H) (hi:L[i]?=some s) (hL:Hold L σ F h) (fresh:∀ p,hn p≠none→H0 p=none) (dj:Dj F hn) (dh:Dj hn h) (hs:Same hn H) (hv:O1.O a v F hn) :
  ∃ h',Hold (L.set i (.ow O1 a)) (σ.set i (some v)) F h'∧Okk F0 H0 F h' H:=by
 obtain ⟨o,h1,h2,_,j,_,f⟩:=hL.at i hi
 have d2:Dj hn h2:=fun p=>by
  rcases dh p with z | z
  ·exact .inl z
  ·exact .inr (j.r.free z)
 refine ⟨un hn h2,f (.ow O1 a) (some v) hn _ (zch_ d2) ⟨v,rfl,hv⟩,ok.1,fun p=>?_,fun p o e=>?_,fun p e=>?_,fun p xs e=>?_⟩
 ·unfold un
  cases z:hn p with
  | some w =>
   rcases dj p with y | y
   ·exact .inl y
   ·rw [y] at z; cases z
  | none =>
   rcases ok.2.1 p with y | y
   ·exact .inl y
   ·exact .inr (j.r.free y)
 ·unfold un at e
  cases z:hn p with
  | some w=>rw [z] at e; cases e; exact hs _ _ z
  | none=>rw [z] at e; exact ok.2.2.1 _ _ (j.r _ _ e)
 ·unfold un at e
  cases z:hn p with
  | some w=>exact fresh p (by rw [z]; exact Option.some_ne_none _)
  | none =>
   rw [z] at e
   cases y:h2 p with
   | none=>exact absurd y e
   | some w=>exact ok.2.2.2.1 p (by rw [j.r _ _ y]; exact Option.some_ne_none _)
 ·unfold un at e
  cases z:hn p with
  | some w=>rw [z] at e; cases e; exact O1.notup hv p xs z
  | none=>rw [z] at e; exact ok.2.2.2.2 p xs (j.r _ _ e)
theorem zd4_ {i:Nat}{s:Sl}{k:α→Mo (Out ρ B S)}(hi:L[i]?=some s) (hT:Imm T) (he:EvF K e E L r T) (hk:∀ a,EvS K u E (L.set i (.fz T a)) (k a) LS LB O):EvS K (tSeq (tAsg e (gName i)) u) E L (r.bind k) LS LB O:=by
 intro F0 H0 σ F h H D hL ok fin
 refine he σ (un F h) H _ (hL.froz ok.2.1) ok.thaw (zad_ (G:=F) ok _ (.inl rfl) fin fun a F' H' hr x v hv=>?_)
 obtain ⟨o,hs,ht⟩:=ok.back x
 rw [hr] at fin
 exact hk a F0 H0 _ _ h H' D (zde_ hi (hL.mono hs) (hT ht hv)) o fin
theorem zoh_ {hn h:Hp}(hh:Same h H) (fresh:∀ p,hn p≠none→H p=none):Dj hn h:=fun p=>by
 cases z:hn p with
 | none=>exact .inl rfl
 | some w =>
  have:=fresh p (by rw [z]; exact Option.some_ne_none _)
  exact .inr (hh.free this)
theorem zbX_ {i:Nat}{s:Sl}{O1:Own α}{k:α→Mo (Out ρ B S)}(hi:L[i]?=some s) (hO:ImmO O1) (he:EvO K e E L r O1) (hk:∀ a,EvS K u E (L.set i (.ow O1 a)) (k a) LS LB O):EvS K (tSeq (tAsg e (gName i)) u) E L (r.bind k) LS LB O:=by
 intro F0 H0 σ F h H D hL ok fin
 refine he σ (un F h) H _ (hL.froz ok.2.1) ok.thaw (zad_ (G:=F) ok _ (.inl rfl) fin fun a F' H' hr x v hn fresh dj hsn hv=>?_)
 obtain ⟨o,hs,ht⟩:=ok.back x
 rw [hr] at fin
 have dj':Dj (less F' h) hn:=fun p=>by
  unfold less
  cases z:h p with
  | none=>exact dj p
  | some w=>exact .inl rfl
 obtain ⟨h',a1,a2⟩:=zh2_ o hi (hL.mono hs) (fun p z=>ok.1.2.2.1.free (fresh p z)) dj' (zoh_ ok.2.2.1 fresh) hsn (hO ht hv)
 exact hk a F0 H0 _ _ h' H' D a1 a2 fin
theorem za0_ {α:Type}{l:List α}{i:Nat}{o:α}(h:l[i]?=some o):l.set i o=l:=by
 obtain ⟨hi,e⟩:=List.getElem?_eq_some_iff.mp h
 rw [← e]; exact List.set_getElem_self hi
theorem zng_ {i:Nat}{O1:Own α}{a:α}{r:Mo (Out ρ B S)}(hi:L[i]?=some (.ow O1 a)) (hk:EvS K u E (L.set i (.fz O1.fr a)) r LS LB O):EvS K u E L r LS LB O:=by
 intro F0 H0 σ F h H D hL ok fin
 obtain ⟨o,h1,h2,e1,j,⟨v,e2,hv⟩,f⟩:=hL.at i hi
 obtain ⟨o1,o2,o3,o4,o5⟩:=ok
 have dj1:Dj F h1:=fun p=>by
  rcases o2 p with z | z
  ·exact .inl z
  ·exact .inr (j.l.free z)
 have dj2:Dj F h2:=fun p=>by
  rcases o2 p with z | z
  ·exact .inl z
  ·exact .inr (j.r.free z)
 have g1:Hold (L.set i (.dead)) σ F h2:=by
  have:=f .dead o (fun _=>none) h2 (fun p=>.inl ⟨rfl,rfl⟩) trivial
  rwa [za0_ e1] at this
 have g2:Hold (L.set i (.fz O1.fr a)) σ (un F h1) h2:=by
  have g3:=g1.mono (zU_ (h:=h1))
  have hi':(L.set i Sl.dead)[i]?=some .dead:=by
   rw [List.getElem?_set_self]
   exact (List.getElem?_eq_some_iff.mp hi).1
  have:=zde_ (T:=O1.fr) hi' g3 (O1.frz dj1 hv)
  rw [List.set_set] at this
  subst e2
  rwa [za0_ e1] at this
 refine hk F0 H0 σ _ h2 H D g2 ⟨⟨o1.1.trans zU_,fun p o e=>?_,o1.2.2.1,fun p a b=>?_⟩,fun p=>?_,j.r.trans o3,fun p z=>?_,fun p xs e=>o5 p xs (j.r _ _ e)⟩ fin
 ·unfold un at e
  cases z:F p with
  | some w=>rw [z] at e; cases e; exact o1.2.1 _ _ z
  | none=>rw [z] at e; exact o3 _ _ (j.l _ _ e)
 ·unfold un at b
  cases z:F p with
  | some w=>exact o1.2.2.2 p a (by rw [z]; exact Option.some_ne_none _)
  | none =>
   rw [z] at b
   cases y:h1 p with
   | none=>exact absurd y b
   | some w=>exact o4 p (by rw [j.l _ _ y]; exact Option.some_ne_none _)
 ·unfold un
  cases z:F p with
  | some w =>
   rcases dj2 p with y | y
   ·rw [y] at z; cases z
   ·exact .inr y
  | none=>exact j.dj p
 ·cases y:h2 p with
  | none=>exact absurd y z
  | some w=>exact o4 p (by rw [j.r _ _ y]; exact Option.some_ne_none _)
theorem zb9_ {r:Mo ρ}(hO:ImmO O) (he:EvO K e E L r O):EvS K (tRet e) E L (r.bind fun a=>.ok (.rt a)) LS LB O:=by
 intro F0 H0 σ F h H D hL ok fin
 refine he σ (un F h) H _ (hL.froz ok.2.1) ok.thaw (zad_ (G:=F) ok _ (.inl rfl) fin fun a F' H' hr x v hn fresh dj hsn hv=>?_)
 obtain ⟨o,hs,ht⟩:=ok.back x
 rw [hr] at fin
 refine fin v _ hn H' ⟨o.1,fun p=>?_,hsn,fun p z=>ok.1.2.2.1.free (fresh p z),O.notup hv⟩ (hO ht hv)
 unfold less
 cases z:h p with
 | none=>exact dj p
 | some w=>exact .inl rfl
theorem zlk_ {i:Nat}{a:ρ}(hi:L[i]?=some (.ow O a)):EvS K (tRet (mVar i)) E L (.ok (.rt a)) LS LB O:=by
 intro F0 H0 σ F h H D hL ok fin
 obtain ⟨o,h1,h2,e1,j,⟨v,e2,hv⟩,f⟩:=hL.at i hi
 subst e2
 show mVar i σ H D.rt
 unfold mVar
 rw [e1]
 obtain ⟨o1,o2,o3,o4,o5⟩:=ok
 refine fin v F h1 H ⟨o1,fun p=>?_,j.l.trans o3,fun p z=>?_,O.notup hv⟩ hv
 ·rcases o2 p with z | z
  ·exact .inl z
  ·exact .inr (j.l.free z)
 ·cases y:h1 p with
  | none=>exact absurd y z
  | some w=>exact o4 p (by rw [j.l _ _ y]; exact Option.some_ne_none _)
theorem s_if {c:TT}{b:Mo Bool}{r1 r2:Mo (Out ρ B S)}(hc:EvT K c E L b) (h1:EvS K t E L r1 LS LB O) (h2:EvS K u E L r2 LS LB O):EvS K (mIfS c t u) E L (b.bind fun c=>if c then r1 else r2) LS LB O:=by
 intro F0 H0 σ F h H D hL ok fin
 refine hc σ (un F h) H _ (hL.froz ok.2.1) ok.thaw (zad_ (G:=F) ok _ (.inl rfl) fin fun a F' H' hr x=>?_)
 obtain ⟨o,hs,ht⟩:=ok.back x
 rw [hr] at fin
 have fin':Fin K (if a then r1 else r2) E LS LB O F0 H0 D:=fin
 refine ⟨fun z=>?_,fun z=>?_⟩
 ·rw [if_pos z] at fin'; exact h1 F0 H0 σ _ h H' D (hL.mono hs) o fin'
 ·rw [if_neg (by rw [z]; decide)] at fin'; exact h2 F0 H0 σ _ h H' D (hL.mono hs) o fin'
inductive Sub:List Sl→List Sl→Prop
 | nil:Sub [] []
 | same {s:Sl}{L L':List Sl}(h:Sub L L'):Sub (s::L) (s::L')
 | dead {s:Sl}{L L':List Sl}(h:Sub L L'):Sub (s::L) (.dead::L')
theorem Sub.hold {L L':List Sl}(w:Sub L L'):∀ {σ:St}{F h:Hp},Hold L σ F h→Hold L' σ F h:=by
 induction w with
 | nil=>exact fun h=>h
 | same _ ih =>
  intro σ F h q
  cases σ with
  | nil=>exact q.elim
  | cons o σ=>obtain ⟨h1,h2,j,p,r⟩:=q; exact ⟨h1,h2,j,p,ih r⟩
 | dead _ ih =>
  intro σ F h q
  cases σ with
  | nil=>exact q.elim
  | cons o σ=>obtain ⟨h1,h2,j,p,r⟩:=q; exact ⟨h1,h2,j,trivial,ih r⟩
theorem zw_ {s:S}(w:Sub L (LS s)):EvS K tNext E L (.ok (.nx s)) LS LB O:=fun F0 H0 σ F h H D hL ok fin=>fin σ F h H (w.hold hL) ok
theorem zc2_ {r:Mo (Out ρ B S)}(h:EvS K (tSeq t tNext) E L r LS LB O):EvS K t E L r LS LB O:=h
def forO (step:S→α→Mo (Out ρ S S)):List α→S→Mo (Out ρ B S)
 | [],s=>.ok (.nx s)
 | x::xs,s=>(step s x).bind fun o=>match o with | .nx s'=>forO step xs s' | .ct s'=>forO step xs s' | .bk s'=>.ok (.nx s') | .rt a=>.ok (.rt a)
theorem zeA_ {ss:List (Nat×Sl)}{vs:List (Nat×Option V)}(p:Plain F ss vs):∀ {L:List Sl}{σ:St},Hold L σ F h→Hold (setL L ss) (setS σ vs) F h:=by
 induction p with
 | nil=>exact fun h=>h
 | cons hv t ih =>
  rename_i T a i v ss vs
  intro L σ q
  refine ih (L:=L.set i (.fz T a)) (σ:=σ.set i (some v)) ?_
  by_cases hi:i<L.length
  ·exact zde_ (List.getElem?_eq_getElem hi) q hv
  ·rw [List.set_eq_of_length_le (by lia),List.set_eq_of_length_le (by have:=q.len; lia)]; exact q
theorem Okk.rebase {F1 H1:Hp}(x:Ext F0 H0 F1 H1) (ok:Okk F0 H0 F h H) (s:Same F1 F):Okk F1 H0 F h H:=by
 obtain ⟨o1,o2,o3,o4,o5⟩:=ok
 refine ⟨⟨s,o1.2.1,o1.2.2.1,fun p a b=>o1.2.2.2 p (x.1.free a) b⟩,o2,o3,o4,o5⟩
theorem Okk.unbase {F1 H1:Hp}(x:Ext F0 H0 F1 H1) (ok:Okk F1 H0 F h H):Okk F0 H0 F h H:=by
 obtain ⟨o1,o2,o3,o4,o5⟩:=ok
 refine ⟨⟨x.1.trans o1.1,o1.2.1,o1.2.2.1,fun p a b=>?_⟩,o2,o3,o4,o5⟩
 cases z:F1 p with
 | none=>exact o1.2.2.2 p z b
 | some w=>exact x.2.2.2 p a (by rw [z]; exact Option.some_ne_none _)
theorem zia_ {wi:TI}{g:TG}{tb:TS}{s0:S}{r:Mo (List α)}{ss:α→List (Nat×Sl)}{step:S→α→Mo (Out ρ S S)}(hi:EvI K wi E ((LS s0).map Sl.cold) r T) (hg:TgR K g T ss)
  (hb:∀ s a,EvS K tb E (setL (LS s) (ss a)) (step s a) LS LS O):EvS K (tFor wi g tb) E (LS s0) (r.bind fun xs=>forO step xs s0) LS LB O:=by
 intro F0 H0 σ F h H D hL ok fin
 refine hi σ F H _ hL.coldF ok.1.2.1 (zad_ (G:=F) ok _ (.inr rfl) fin fun xs F1 H1 hr x1 J Y=>?_)
 rw [hr] at fin
 have xx:=ok.1.trans x1
 refine ⟨fun i m σ H=>m=xs.length-i∧i≤xs.length∧∃ s F h,Hold (LS s) σ F h∧Okk F1 H0 F h H∧Fin K (forO (B:=B) step (xs.drop i) s) E LS LB O F0 H0 D,
  ⟨_,rfl,Nat.zero_le _,s0,F1,h,hL.mono x1.1,(ok.cold x1).rebase xx (Same.refl _),fin⟩,?_⟩
 rintro i m σ H ⟨rfl,hi,s,F,h,hL,ok,fin⟩
 have s1:Same F1 H:=ok.1.1.trans ok.1.2.1
 by_cases hlt:i<xs.length
 ·right
  obtain ⟨g1,g2⟩:=Y.go i H xs[i] s1 (List.getElem?_eq_getElem hlt)
  refine ⟨g1,fun σ' H'=>i+1≤xs.length∧∃ s F h,Hold (LS s) σ' F h∧Okk F1 H0 F h H'∧Fin K (forO (B:=B) step (xs.drop (i+1)) s) E LS LB O F0 H0 D,fun σ' H' z=>⟨xs.length-(i+1),by omega,rfl,z⟩,fun v H2 hy=>?_⟩
  obtain ⟨F2,x2,hv⟩:=g2 v H2 hy F ok.1.1 ok.1.2.1
  refine hg xs[i] v σ F2 H2 _ x2.2.1 hv fun vs hp=>?_
  refine hb s xs[i] F1 H0 _ F2 h H2 _ (zeA_ hp (hL.mono x2.1)) (ok.cold x2) ?_
  rw [List.drop_eq_getElem_cons hlt] at fin
  unfold forO at fin
  cases e:step s xs[i] with
  | no=>rw [e] at fin; exact fin
  | ex c=>rw [e] at fin; exact fun F h H ok=>fin F h H (ok.unbase xx)
  | ok o =>
   rw [e] at fin
   cases o with
   | nx s'=>exact fun σ' F' h' H' hL' ok'=>⟨hlt,s',F',h',hL',ok',fin⟩
   | ct s'=>exact fun σ' F' h' H' hL' ok'=>⟨hlt,s',F',h',hL',ok',fin⟩
   | bk s'=>exact fun σ' F' h' H' hL' ok'=>fin σ' F' h' H' hL' (ok'.unbase xx)
   | rt a=>exact fun v F h H ok=>fin v F h H (ok.unbase xx)
 ·left
  have e:i=xs.length:=by omega
  subst e
  rw [List.drop_length] at fin
  exact ⟨Y.stop H s1,fin σ F h H hL (ok.unbase xx)⟩
theorem zci_ {i:Nat}{σ:St}{xs:List α}(hL:Hold L σ F h) (hi:L[i]?=some (.ow (owL T) xs)) (ok:Okk F0 H0 F h H) :
  ∃ p vs,σ[i]?=some (some (.ref p))∧H p=some (.lst vs)∧Prs T F xs vs∧∀ xs' vs',Prs T F xs' vs'→∃ h',Hold (L.set i (.ow (owL T) xs')) σ F h'∧Okk F0 H0 F h' (upd H p (.lst vs')):=by
 obtain ⟨o,h1,h2,e1,j,⟨v,e2,p,vs,rfl,rfl,hr⟩,f⟩:=hL.at i hi
 subst e2
 obtain ⟨o1,o2,o3,o4,o5⟩:=ok
 have hp:h p=some (.lst vs):=j.l _ _ zS_
 have h2p:h2 p=none:=by
  rcases j.dj p with z | z
  ·rw [zS_] at z; cases z
  ·exact z
 have Fp:F p=none:=by
  rcases o2 p with z | z
  ·exact z
  ·rw [hp] at z; cases z
 have H0p:H0 p=none:=o4 p (by rw [hp]; exact Option.some_ne_none _)
 refine ⟨p,vs,e1,o3 _ _ hp,hr,fun xs' vs' hr'=>?_⟩
 have d2:Dj (one p (.lst vs')) h2:=fun q=>by
  unfold one; split
  ·rename_i z; rw [z]; exact .inr h2p
  ·exact .inl rfl
 have g:=f (.ow (owL T) xs') (some (.ref p)) (one p (.lst vs')) _ (zch_ d2) ⟨_,rfl,p,vs',rfl,rfl,hr'⟩
 rw [za0_ e1] at g
 refine ⟨_,g,⟨o1.1,fun q o z=>?_,fun q o z=>?_,o1.2.2.2⟩,fun q=>?_,fun q o z=>?_,fun q z=>?_,fun q ys z=>?_⟩
 ·unfold upd; split
  ·rename_i w; rw [w,Fp] at z; cases z
  ·exact o1.2.1 _ _ z
 ·unfold upd; split
  ·rename_i w; rw [w,H0p] at z; cases z
  ·exact o1.2.2.1 _ _ z
 ·by_cases w:q=p
  ·rw [w]; exact .inl Fp
  ·unfold un one; simp only [if_neg w]
   rcases o2 q with z | z
   ·exact .inl z
   ·exact .inr (j.r.free z)
 ·unfold un one at z
  unfold upd
  by_cases w:q=p
  ·rw [if_pos w]; simp only [if_pos w] at z; exact z
  ·rw [if_neg w]; simp only [if_neg w] at z; exact o3 _ _ (j.r _ _ z)
 ·unfold un one at z
  by_cases w:q=p
  ·rw [w]; exact H0p
  ·simp only [if_neg w] at z
   cases y:h2 q with
   | none=>exact absurd y z
   | some u=>exact o4 q (by rw [j.r _ _ y]; exact Option.some_ne_none _)
 ·unfold un one at z
  by_cases w:q=p
  ·simp only [if_pos w] at z; cases z
  ·simp only [if_neg w] at z; exact o5 q ys (j.r _ _ z)
theorem zb3_ {i:Nat}{σ:St}{v:V}{Q:VK}(e:σ[i]?=some (some v)) (q:Q v H):mVar i σ H Q:=by unfold mVar; rw [e]; exact q
theorem zdN_ {n:Nat}{r:Mo (Out ρ B S)}{D:Ends}(h:Fin K (Mo.lim n r) E LS LB O F0 H0 D):n≤sizeLine∧Fin K r E LS LB O F0 H0 D:=by
 unfold Mo.lim at h
 split at h
 ·exact ⟨by assumption,h⟩
 ·exact h.elim
theorem zou_ {x:Option α}{k:α→Mo (Out ρ B S)}{D:Ends}(h:Fin K ((Mo.opt x).bind k) E LS LB O F0 H0 D):∃ a,x=some a∧Fin K (k a) E LS LB O F0 H0 D:=by
 cases x with
 | none=>exact h.elim
 | some a=>exact ⟨a,rfl,h⟩
theorem zfx_ {i:Nat}{xs:List α}{k:α→Mo (Out ρ B S)}(hi:L[i]?=some (.ow (owL T) xs)) (hT:Imm T) (he:EvF K e E L r T) (hk:∀ a,EvS K u E (L.set i (.ow (owL T) (xs++[a]))) (k a) LS LB O) :
  EvS K (tSeq (tDrop (tBM K "list" rAppend (mVar i) (tCons e tNil))) u) E L (r.bind fun a=>.lim (xs.length+1) (k a)) LS LB O:=by
 intro F0 H0 σ F h H D hL ok fin
 obtain ⟨p,vs,e1,hp,hr,_⟩:=zci_ hL hi ok
 show mVar i σ H fun x H1=>tyV K "list" x H1∧tCons e tNil σ H1 fun xs H2=>rAppend x xs H2 (fun _ H3=>u D σ H3)
 refine zb3_ e1 ⟨.inl ⟨rfl,vs,.of hp⟩,?_⟩
 refine he σ (un F h) H _ (hL.froz ok.2.1) ok.thaw (zad_ (G:=F) ok _ (.inl rfl) fin fun a F' H' hra x v hv=>?_)
 obtain ⟨o,hs,ht⟩:=ok.back x
 rw [hra] at fin
 obtain ⟨hz,fin⟩:=zdN_ (show Fin K (Mo.lim (xs.length+1) (k a)) E LS LB O F0 H0 D from fin)
 obtain ⟨p',vs',e1',hp',hr',mm⟩:=zci_ (hL.mono hs) hi o
 rw [e1] at e1'; cases e1'
 obtain ⟨h',a1,a2⟩:=mm (xs++[a]) (vs'++[v]) (hr'.append (.cons (hT ht hv) .nil))
 exact ⟨p,vs',v,rfl,rfl,hp',by rw [← hr'.len]; lia,hk a F0 H0 σ _ h' _ D a1 a2 fin⟩
theorem zg5_ {i:Nat}{xs:List α}{r:Mo (List α)}{k:List α→Mo (Out ρ B S)}(hi:L[i]?=some (.ow (owL T) xs)) (hT:Imm T) (he:EvF K e E L r (tyL T)) (hk:∀ a,EvS K u E (L.set i (.ow (owL T) (xs++a))) (k a) LS LB O) :
  EvS K (tSeq (tDrop (tBM K "list" rExtend (mVar i) (tCons e tNil))) u) E L (r.bind fun a=>.lim (xs.length+a.length) (k a)) LS LB O:=by
 intro F0 H0 σ F h H D hL ok fin
 obtain ⟨p,vs,e1,hp,hr,_⟩:=zci_ hL hi ok
 show mVar i σ H fun x H1=>tyV K "list" x H1∧tCons e tNil σ H1 fun xs H2=>rExtend x xs H2 (fun _ H3=>u D σ H3)
 refine zb3_ e1 ⟨.inl ⟨rfl,vs,.of hp⟩,?_⟩
 refine he σ (un F h) H _ (hL.froz ok.2.1) ok.thaw (zad_ (G:=F) ok _ (.inl rfl) fin fun a F' H' hra x v hq_=>?_)
 obtain ⟨p2,us,ev,hp2,hr2⟩:=hq_
 obtain ⟨o,hs,ht⟩:=ok.back x
 rw [hra] at fin
 subst ev
 obtain ⟨hz,fin⟩:=zdN_ (show Fin K (Mo.lim (xs.length+a.length) (k a)) E LS LB O F0 H0 D from fin)
 obtain ⟨p',vs',e1',hp',hr',mm⟩:=zci_ (hL.mono hs) hi o
 rw [e1] at e1'; cases e1'
 obtain ⟨h',a1,a2⟩:=mm (xs++a) (vs'++us) (hr'.append (hr2.imm hT ht))
 exact ⟨p,p2,vs',us,rfl,rfl,hp',x.2.1 _ _ hp2,by rw [← hr'.len,← hr2.len]; exact hz,hk a F0 H0 σ _ h' _ D a1 a2 fin⟩
theorem zoA_ {i:Nat}{xs:List α}{ei:TE}{ri:Mo Int}{k:List α→Mo (Out ρ B S)}(hi:L[i]?=some (.ow (owL T) xs)) (hT:Imm T) (he:EvF K e E L r T) (hei:EvF K ei E L ri tyInt) (hk:∀ a,EvS K u E (L.set i (.ow (owL T) a)) (k a) LS LB O) :
  EvS K (tSeq (tAsg e (gSub (mVar i) ei mSet)) u) E L (r.bind fun a=>ri.bind fun j=>(Mo.opt ((ixN xs.length j).map fun n=>xs.set n a)).bind k) LS LB O:=by
 intro F0 H0 σ F h H D hL ok fin
 refine he σ (un F h) H _ (hL.froz ok.2.1) ok.thaw (zad_ (G:=F) ok _ (.inl rfl) fin fun a F' H' hra x v hv=>?_)
 obtain ⟨o,hs,ht⟩:=ok.back x
 rw [hra] at fin
 have hL':=hL.mono hs
 obtain ⟨p,vs,e1,hp,hr,_⟩:=zci_ hL' hi o
 refine zb3_ e1 ?_
 have hv':=hT ht hv
 refine hei σ (un _ h) H' _ (hL'.froz o.2.1) o.thaw (zad_ (G:=F) o _ (.inl rfl) fin fun j F2 H2 hrj x2 v2 hv2=>?_)
 cases hv2
 obtain ⟨o',hs',ht'⟩:=o.back x2
 rw [hrj] at fin
 obtain ⟨ys,ey,fin⟩:=zou_ fin
 obtain ⟨p',vs',e1',hp',hr',mm⟩:=zci_ (hL'.mono hs') hi o'
 rw [e1] at e1'; cases e1'
 cases ej:ixN xs.length j with
 | none=>rw [ej] at ey; cases ey
 | some n =>
  rw [ej] at ey; cases ey
  obtain ⟨h',a1,a2⟩:=mm (xs.set n a) (vs'.set n v) (hr'.set n (T.mono hs' hv'))
  refine ⟨vs',hp',?_⟩
  rw [← hr'.len,ej]
  exact hk _ F0 H0 σ _ h' _ D a1 a2 fin
def fnO (r:Mo (Out ρ Unit Unit)):Mo ρ:=r.bind fun o=>match o with | .rt a=>.ok a | _=>.no
inductive Args (F:Hp):List V→List Sl→Prop
 | nil:Args F [] []
 | cons {α:Type}{T:Ty α}{a:α}{v:V}{vs ss} (h:T.R a v F) (t:Args F vs ss):Args F (v::vs) (.fz T a::ss)
theorem Args.hold {vs:List V}{ss:List Sl}(a:Args F vs ss) (n:Nat):Hold (ss++List.replicate n .dead) (vs.map some++List.replicate n none) F (fun _=>none):=by
 induction a with
 | nil =>
  induction n with
  | zero=>trivial
  | succ n ih=>exact ⟨fun _=>none,fun _=>none,fun p=>.inl ⟨rfl,rfl⟩,trivial,ih⟩
 | cons hv t ih=>exact ⟨fun _=>none,fun _=>none,fun p=>.inl ⟨rfl,rfl⟩,⟨_,rfl,hv⟩,ih⟩
def CsS (C:Cs γ) (ss:γ→List Sl):Prop:=∀ {c vs F},C.R c vs F→Args F vs (ss c)
theorem zfb_:CsS csNil fun _=>[]:=fun e=>by rw [e]; exact .nil
theorem zu_:CsS (csLast T) fun a=>[.fz T a]:=fun ⟨v,e,h⟩=>by rw [e]; exact .cons h .nil
theorem zQ_ {C:Cs γ}{ss:γ→List Sl}(h:CsS C ss):CsS (csCons T C) fun c=>.fz T c.1::ss c.2:=fun ⟨v,us,e,q,z⟩=>by rw [e]; exact .cons q (h z)
theorem zkM_ (hs:Same F H):Okk F H F (fun _=>none) H:=by
 refine ⟨.refl hs,fun p=>.inr rfl,fun p o e=>?_,fun p e=>absurd rfl e,fun p xs e=>?_⟩
 ·cases e
 ·cases e
theorem fn_rd {t:XK→TS}{C:Cs γ}{ss:γ→List Sl}{f:γ→Mo (Out ρ Unit Unit)}{N:List Str}(n m:Nat) (hn:CsN C n) (hm:N.length-n=m) (hC:CsS C ss) (h:∀ c E,EvS K (t E) E (ss c++List.replicate m .dead) (f c) (fun _:Unit=>[]) (fun _:Unit=>[]) O) :
  ∀ vs H Q E,Ct K C (fun c=>fnO (f c)) O vs H Q E→t E { nx:=fun _ H'=>Q .non H',rt:=Q } (start N vs) H:=by
 rintro vs H Q E ⟨F,c,hs,hc,q⟩
 have hstart:start N vs=vs.map some++List.replicate m none:=by unfold start; rw [hn hc,hm]
 rw [hstart]
 refine h c E F H _ F (fun _=>none) H _ ((hC hc).hold m) (zkM_ hs) ?_
 have q:After K (fnO (f c)) E F H (OwnK O H Q):=q
 cases e:f c with
 | no=>rw [e] at q; exact q
 | ex cc=>rw [e] at q; exact fun F h H ok=>q F H ok.1
 | ok o =>
  rw [e] at q
  cases o with
  | nx s=>exact q.elim
  | bk s=>exact q.elim
  | ct s=>exact q.elim
  | rt a=>exact fun v F' h' H' ok hv=>q F' H' ok.1 v h' (fun p z=>ok.2.2.2.1 p z) ok.2.1 ok.2.2.1 hv
end
end L2
namespace L2
open PySem PySem.Spec PyProof.Rows
section
variable {K:Fgg}{E:XK}{α β γ ρ S S' B B':Type}{F0 H0 F h H:Hp}{L L':List Sl}{e e1 e2:TE}{T:Ty α}{r:Mo α}{O:Own ρ}{t u:TS}{LS:S→List Sl}{LS':S'→List Sl}{LB:B→List Sl}
def CDivG (i j:Int):Prop:=0<j∧Builtin.divisionGoesByPylong i j=false
instance (i j:Int):Decidable (CDivG i j):=inferInstanceAs (Decidable (_∧_))
instance (i j:Int):Decidable (IntMulOk i j):=inferInstanceAs (Decidable (¬ _))
abbrev mMulG:R2:=mI IntMulOk fun i j=>.int (i*j)
abbrev mDivG:R2:=mI CDivG fun i j=>.int (i / j)
theorem znL_ {X:Cx}:OpR X (binaryOp .Mult) mMulG:=opM (opI fun _ _ _ _ _ _ _ hc q=>mul_int q hc)
theorem zdp_ {X:Cx}:OpR X (binaryOp .FloorDiv) mDivG:=opM (opI fun i j _ _ _ _ _ hc q=>by
 have h1:(0:Int)<j:=hc.1
 exact floordiv_int (by lia) (by rw [Int.fdiv_eq_ediv_of_nonneg i (by lia)]; exact q) (.inl hc.2))
theorem zbN_:Op2 K mDivG E tyInt tyInt (fun i j=>.grd (CDivG i j) (.ok (i / j))) tyInt:=op_i fun _ _ _=>rfl
theorem znp_ {Pq:α→Prop}{a:α}{l:List α}(h:Pq a) (t:∀ q∈l,Pq q):∀ q∈a::l,Pq q:=List.forall_mem_cons.mpr ⟨h,t⟩
theorem zgh_:EvS K t E L (.no:Mo (Out ρ B S)) LS LB O:=fun _ _ _ _ _ _ _ _ _ fin=>fin.elim
theorem zcH_ {r:Mo (Out ρ B S)}(w:Sub L L') (hk:EvS K t E L' r LS LB O):EvS K t E L r LS LB O:=fun F0 H0 σ F h H D hL ok fin=>hk F0 H0 σ F h H D (w.hold hL) ok fin
theorem at_ {r:Mo (Out ρ B S)}(L:List Sl) (hk:EvS K t E L r LS LB O):EvS K t E L r LS LB O:=hk
theorem zhK_ (i:Nat) {xs:List α}(h:L[i]?=some (.ow (owL T) xs)):EvF K (mVar i) E L (.ok xs) (tyL T):=zfd_ i h
theorem zcr_:EvT K tTrue E L (.ok true):=fun σ F H Q hL hs q=>q.ok hs
theorem dead1 {L:List Sl}:DeadAt (.dead::L) [0]:=fun i hi s e=>by
 cases (List.mem_singleton.mp hi); cases e; rfl
theorem zpx_ {a:List Nat}{v:V}{F:Hp}(h:tyStr.R a v F):v≠.non:=by cases h; exact fun z=>V.noConfusion z
end
end L2
namespace L2
open PySem PySem.Spec PyProof.Rows
section
variable {α β γ ρ S S' B:Type}
@[simp] theorem Mo.okB (a:α) (f:α→Mo β):(Mo.ok a).bind f=f a:=of_eq_true (eq_self _)
@[simp] theorem Mo.exB (c:String) (f:α→Mo β):(Mo.ex c:Mo α).bind f=.ex c:=of_eq_true (eq_self _)
@[simp] theorem Mo.noB (f:α→Mo β):(Mo.no:Mo α).bind f=.no:=of_eq_true (eq_self _)
@[simp] theorem Mo.noexO (a:α):(Mo.ok a).noex=.ok a:=of_eq_true (eq_self _)
@[simp] theorem Mo.optS (a:α):Mo.opt (some a)=.ok a:=of_eq_true (eq_self _)
@[simp] theorem zi1_ (s:S) (k:S→Mo (Out ρ B S')):thenO (.ok (.nx s)) k=k s:=of_eq_true (eq_self _)
@[simp] theorem znb_ (a:ρ) (k:S→Mo (Out ρ B S')):thenO (.ok (.rt a)) k=.ok (.rt a):=of_eq_true (eq_self _)
@[simp] theorem zmg_ (b:B) (k:S→Mo (Out ρ B S')):thenO (.ok (.bk b)) k=.ok (.bk b):=of_eq_true (eq_self _)
@[simp] theorem zmj_ (b:B) (k:S→Mo (Out ρ B S')):thenO (.ok (.ct b)) k=.ok (.ct b):=of_eq_true (eq_self _)
@[simp] theorem zql_ (a:ρ):fnO (.ok (.rt a))=.ok a:=of_eq_true (eq_self _)
@[simp] theorem zmR_ (step:S→α→Mo (Out ρ S S)) (s:S):forO (B:=B) step [] s=.ok (.nx s):=of_eq_true (eq_self _)
theorem zk1_ (step:S→α→Mo (Out ρ S S)) (x:α) (xs:List α) (s:S):forO (B:=B) step (x::xs) s=(step s x).bind fun o=>match o with | .nx s'=>forO step xs s' | .ct s'=>forO step xs s' | .bk s'=>.ok (.nx s') | .rt a=>.ok (.rt a):=rfl
theorem zi7_ {step:S→α→Mo (Out ρ S S)}{x:α}{xs:List α}{s s':S}(h:step s x=.ok (.nx s')):forO (B:=B) step (x::xs) s=forO step xs s':=by rw [zk1_,h]; rfl
theorem zeo_ {step:S→α→Mo (Out ρ S S)}(g:S→α→S):∀ {xs:List α}{s:S},(∀ s x,x∈xs→step s x=.ok (.nx (g s x)))→forO (B:=B) step xs s=.ok (.nx (xs.foldl g s))
 | [],s,_=>rfl
 | x::xs,s,h=>by rw [zi7_ (h s x List.mem_cons_self),zeo_ g fun s y hy=>h s y (List.mem_cons_of_mem _ hy)]; rfl
theorem zja_ {step:S→α→Mo (Out ρ S S)}(P:List α→S→Prop):∀ {xs:List α}(done:List α) {s:S},P done s→(∀ d x s,(∃ r,done++xs=d++x::r)→P d s→∃ s',step s x=.ok (.nx s')∧P (d++[x]) s')→∃ s',forO (B:=B) step xs s=.ok (.nx s')∧P (done++xs) s'
 | [],done,s,h0,_=>⟨s,rfl,by rw [List.append_nil]; exact h0⟩
 | x::xs,done,s,h0,h=>by
  obtain ⟨s1,e1,p1⟩:=h done x s ⟨xs,rfl⟩ h0
  obtain ⟨s2,e2,p2⟩:=zja_ P (xs:=xs) (done++[x]) p1 fun d y s ⟨r,hr⟩ hp=>h d y s ⟨r,by rw [← hr]; simp⟩ hp
  exact ⟨s2,by rw [zi7_ e1,e2],by simpa using p2⟩
theorem zke_ {step:Unit→α→Mo (Out ρ Unit Unit)}:∀ {xs:List α},(∀ x∈xs,step () x=.ok (.nx ()))→forO (B:=B) step xs ()=.ok (.nx ())
 | [],_=>rfl
 | x::xs,h=>by rw [zi7_ (h x List.mem_cons_self),zke_ fun y hy=>h y (List.mem_cons_of_mem _ hy)]
open PySem PySem.Spec PyProof.Rows in
theorem znQ_ {a j:Int}(h0:0<j) (h:j.natAbs.log2<9000):CDivG a j:=by
 refine ⟨h0,?_⟩
 unfold Builtin.divisionGoesByPylong
 simp only
 rw [Bool.and_eq_false_iff]
 left
 rw [decide_eq_false_iff_not]
 split<;>lia
theorem log2_lt {n k:Nat}(h:n<2 ^ k):n.log2<k∨n=0:=by
 by_cases hz:n=0
 ·exact .inr hz
 ·exact .inl ((Nat.log2_lt hz).mpr h)
theorem znu_ {a j:Int}(h0:0<j) (h:j<2 ^ 1000):CDivG a j:=by
 refine znQ_ h0 ?_
 have h1:j.natAbs<2 ^ 1000:=by
  have:((2:Int) ^ 1000)=((2 ^ 1000:Nat):Int):=by rw [Int.natCast_pow]; rfl
  rw [this] at h
  lia
 rcases log2_lt h1 with h | h
 ·lia
 ·rw [h]; decide
open PySem PySem.Spec PyProof.Rows in
theorem zge_ {i j:Int}(h : -(2 ^ 64)<i∧i<2 ^ 64 ∨ -(2 ^ 64)<j∧j<2 ^ 64):IntMulOk i j:=CMul.ok h
@[simp] theorem zoZ_ {a j:Int}{k:Mo α}(h0:0<j) (h1:j<1073741824):Mo.grd (CDivG a j) k=k:=Mo.grd_ok (znu_ h0 (by lia))
@[simp] theorem grd_T {k:Mo α} [Decidable True]:Mo.grd True k=k:=Mo.grd_ok trivial
@[simp] theorem zoI_ {j:Int}{k:Mo α}(h0:0<j):Mo.grd (0<j) k=k:=Mo.grd_ok h0
open PySem PySem.Spec PyProof.Rows in
@[simp] theorem zfA_ {i j:Int}{k:Mo α}(h0 : -18446744073709551616<i) (h1:i<18446744073709551616):Mo.grd (IntMulOk i j) k=k:=Mo.grd_ok (zge_ (.inl ⟨by lia,by lia⟩))
open PySem PySem.Spec PyProof.Rows in
theorem zjY_ {i j:Int}{k:Mo α}(h0 : -18446744073709551616<j) (h1:j<18446744073709551616):Mo.grd (IntMulOk i j) k=k:=Mo.grd_ok (zge_ (.inr ⟨by lia,by lia⟩))
theorem zbH_ (lo:Int) (n:Nat):(rngI lo n).length=n:=by unfold rngI; rw [List.length_map,List.length_range]
theorem ziv_ {xs:List α}{k:Int}(h0:0≤k):atI xs k=xs[k.toNat]?:=by
 unfold atI ixN
 rw [if_pos h0]
 split
 ·rfl
 ·rename_i h
  rw [List.getElem?_eq_none (by omega)]; rfl
theorem zfw_ {xs:List α}{k:Int}(h0:0≤k) (h1:k<xs.length):∃ x,atI xs k=some x∧x∈xs:=by
 rw [ziv_ h0,List.getElem?_eq_getElem (show k.toNat<xs.length by lia)]
 exact ⟨_,rfl,List.getElem_mem _⟩
theorem ziG_ {f:α→Mo (Option β)}{P:α→β→Prop}:∀ {xs:List α}{acc:List β},(∀ x∈xs,∃ y,f x=.ok (some y)∧P x y)→acc.length+xs.length≤100000→∃ ys,compM f xs acc=.ok (acc++ys)∧Paired P xs ys
 | [],acc,_,_=>⟨[],by unfold compM; rw [List.append_nil],.nil⟩
 | x::xs,acc,h,hl=>by
  rw [List.length_cons] at hl
  obtain ⟨y,e,p⟩:=h x List.mem_cons_self
  obtain ⟨ys,e2,p2⟩:=ziG_ (f:=f) (P:=P) (xs:=xs) (acc:=acc++[y]) (fun z hz=>h z (List.mem_cons_of_mem _ hz)) (by rw [List.length_append,List.length_singleton]; lia)
  refine ⟨y::ys,?_,.cons p p2⟩
  unfold compM
  rw [e,Mo.okB]
  show Mo.lim _ _=_
  rw [Mo.lim_ok (by lia),e2]
  simp
theorem zjg_ {P:α→β→Prop}{xs:List α}{ys:List β}(h:Paired P xs ys) {y:β}(hy:y∈ys):∃ x∈xs,P x y:=by
 induction h with
 | nil=>cases hy
 | cons r t ih =>
  rcases List.mem_cons.mp hy with rfl | hy
  ·exact ⟨_,List.mem_cons_self,r⟩
  ·obtain ⟨x,hx,p⟩:=ih hy; exact ⟨x,List.mem_cons_of_mem _ hx,p⟩
theorem zhn_ {q:α→α→Bool}(hq:∀ a,q a a=true):∀ xs:List α,eqL q xs xs=true
 | []=>rfl
 | x::xs=>by unfold eqL; rw [hq,zhn_ hq xs]; rfl
theorem zeq_ (xs:List α) (lo hi:Option Int):(cutG xs lo hi).length≤xs.length:=by
 unfold cutG; rw [List.length_take,List.length_drop]; lia
end
end L2
namespace L2
open PySem PySem.Spec PyProof.Rows
section
variable {K:Fgg}{E:XK}{α β γ ρ S S' B B':Type}{F0 H0 F h H:Hp}{L L':List Sl}{e e1 e2:TE}{T:Ty α}{r:Mo α}{O:Own ρ}{t u:TS}{LS:S→List Sl}{LS':S'→List Sl}{LB:B→List Sl}
theorem zi0_ {n:Nat}{j:Int}{k:Nat}(h:ixN n j=some k):k<n:=by
 unfold ixN at h
 split at h
 ·split at h
  ·cases h; lia
  ·cases h
 ·split at h
  ·cases h; lia
  ·cases h
theorem zo3_ {p:Addr}{o':HO}{h1' hr h':Hp}(ok:Okk F0 H0 F h H) (hp:h p≠none) (nt:∀ xs,o'≠.tup xs) (h':Hp) (hh:∀ q,h' q=if q=p then some o' else h q):Okk F0 H0 F h' (upd H p o'):=by
 obtain ⟨o1,o2,o3,o4,o5⟩:=ok
 have Fp:F p=none:=by
  rcases o2 p with z | z
  ·exact z
  ·exact absurd z hp
 have H0p:H0 p=none:=o4 p hp
 refine ⟨⟨o1.1,fun q o z=>?_,fun q o z=>?_,o1.2.2.2⟩,fun q=>?_,fun q o z=>?_,fun q z=>?_,fun q ys z=>?_⟩
 ·unfold upd; split
  ·rename_i w; rw [w,Fp] at z; cases z
  ·exact o1.2.1 _ _ z
 ·unfold upd; split
  ·rename_i w; rw [w,H0p] at z; cases z
  ·exact o1.2.2.1 _ _ z
 ·rw [hh]; split
  ·rename_i w; rw [w]; exact .inl Fp
  ·exact o2 q
 ·rw [hh] at z; unfold upd
  split at z
  ·rename_i w; rw [if_pos w]; exact z
  ·rename_i w; rw [if_neg w]; exact o3 _ _ z
 ·rw [hh] at z; split at z
  ·rename_i w; rw [w]; exact H0p
  ·exact o4 q z
 ·rw [hh] at z; split at z
  ·exact nt ys (by injection z)
  ·exact o5 q ys z
end
end L2
namespace L2
open PySem PySem.Spec PyProof.Rows
section
variable {K:Fgg}{E:XK}{α β γ ρ S S' B B':Type}{F0 H0 F h H:Hp}{L L':List Sl}{e e1 e2:TE}{T:Ty α}{r:Mo α}{O:Own ρ}{t u:TS}{LS:S→List Sl}{LS':S'→List Sl}{LB:B→List Sl}
@[irreducible] def fuelW:Nat:=100000
end
end L2
namespace L2
open PySem PySem.Spec PyProof.Rows
section
variable {α:Type}
theorem za4_ {S B ρ:Type}{step:S→α→Mo (Out ρ S S)}{xs:List α}{s:S}{G:Mo (Out ρ B S)→Prop}(P:List α→S→Prop) (h0:P [] s) (hs:∀ d x s,(∃ r,xs=d++x::r)→P d s→∃ s',step s x=.ok (.nx s')∧P (d++[x]) s') (hk:∀ s',P xs s'→G (.ok (.nx s'))):G (forO step xs s):=by
 obtain ⟨s',e,p⟩:=zja_ (B:=B) P (xs:=xs) [] h0 (fun d x s hr hp=>hs d x s hr hp)
 rw [e]
 exact hk s' p
end
abbrev Crd:=List Nat
def sg (c:Crd) (col:Int):Nat:=c.getD (col-1).toNat 0
def rk1 (x:Nat):Nat:=(SG.findIdx? (· == x)).getD 0 % 37
def rnk (c:Crd) (col:Int):Nat:=rk1 (sg c col)
def kv:List Int→Crd→Nat
 | [],_=>0
 | c::L,a=>rnk a c*37 ^ L.length+kv L a
end L2
namespace L2
open PySem PySem.Spec PyProof.Rows
def pkts (n:Nat) (ps:List (Crd×Nat)):List (List Crd):=(List.range n).map fun i=>(ps.filter fun q=>decide (q.2=i)).map Prod.fst
def logs (ps:List (Crd×Nat)):List Int:=ps.map fun q=>(q.2:Int)
theorem znf_ (n:Nat) (ps:List (Crd×Nat)):(pkts n ps).length=n:=by unfold pkts; rw [List.length_map,List.length_range]
theorem zmV_ {n m:Nat}(ps:List (Crd×Nat)) (h:m<n):(pkts n ps)[m]?=some ((ps.filter fun q=>decide (q.2=m)).map Prod.fst):=by
 unfold pkts; rw [List.getElem?_map,List.getElem?_range h]; rfl
theorem znW_ {d r:List (Crd×Nat)}{c:Crd}{m:Nat}:(((d++(c,m)::r).filter fun q=>decide (q.2=m)).map Prod.fst)[(d.filter fun q=>decide (q.2=m)).length]?=some c:=by
 rw [List.filter_append,List.map_append,List.getElem?_append_right (by rw [List.length_map]; exact Nat.le_refl _),List.length_map,Nat.sub_self,List.filter_cons_of_pos (by simp)]
 rfl
def cnts (n:Nat) (ps:List (Crd×Nat)):List Int:=(List.range n).map fun i=>((ps.filter fun q=>decide (q.2=i)).length:Int)
theorem zfZ_ (n:Nat) (ps:List (Crd×Nat)):(cnts n ps).length=n:=by unfold cnts; rw [List.length_map,List.length_range]
theorem zgN_ {n m:Nat}(ps:List (Crd×Nat)) (h:m<n):(cnts n ps)[m]?=some ((ps.filter fun q=>decide (q.2=m)).length:Int):=by
 unfold cnts; rw [List.getElem?_map,List.getElem?_range h]; rfl
theorem zla_ {n:Nat}(ps:List (Crd×Nat)) (c:Crd) {m:Nat}(h:m<n):cnts n (ps++[(c,m)])=(cnts n ps).set m (((ps.filter fun q=>decide (q.2=m)).length:Int)+1):=by
 refine List.ext_getElem? fun i=>?_
 rw [List.getElem?_set,zfZ_]
 by_cases hi:i<n
 ·rw [zgN_ _ hi,List.filter_append,List.length_append]
  by_cases e:m=i
  ·subst e
   rw [if_pos rfl,if_pos h,List.filter_cons_of_pos (by simp)]; rfl
  ·rw [if_neg e,zgN_ _ hi,List.filter_cons_of_neg (by simpa using e)]; rfl
 ·rw [List.getElem?_eq_none (by rw [zfZ_]; lia)]
  by_cases e:m=i
  ·lia
  ·rw [if_neg e,List.getElem?_eq_none (by rw [zfZ_]; lia)]
end L2
namespace L2
open PySem PySem.Spec PyProof.Rows
open PySem.SeqAt
open PySem.AutoSeq1 (wpAny_loadPart')
open PySem.MeetsSeq PySem.MeetsSeq2 PySem.MeetsSeq3
end L2
namespace L2
open PySem PySem.Spec PyProof.Rows
section
variable {K:Fgg}{E:XK}{H:Hp}
end
end L2
namespace L2
open PySem PySem.Spec PyProof.Rows
section
variable {α:Type}
theorem znv_ {n d:Nat}{i:Int}(h:0≤i):HT.sIx n d (some i)=min i.toNat n:=by
 unfold HT.sIx
 simp only
 split<;>lia
theorem ziN_ {xs:List α}{i:Int}(h:0≤i):cutG xs none (some i)=xs.take i.toNat:=by
 unfold cutG
 rw [znv_ h,show HT.sIx xs.length 0 none=0 from rfl,List.drop_zero,Nat.sub_zero,← List.take_take,List.take_length]
theorem zhJ_ {xs:List α}{i:Int}(h:0≤i):cutG xs (some i) none=xs.drop i.toNat:=by
 unfold cutG
 rw [znv_ h,show HT.sIx xs.length xs.length none=xs.length from rfl]
 by_cases hl:i.toNat≤xs.length
 ·rw [Nat.min_eq_left hl,List.take_of_length_le (by rw [List.length_drop]; exact Nat.le_refl _)]
 ·rw [Nat.min_eq_right (by lia),List.drop_length,List.drop_eq_nil_of_le (by lia),List.take_nil]
end
end L2
namespace L2
open PySem PySem.Spec PyProof.Rows
section
variable {K:Fgg}{E:XK}{α β γ ρ S S' B B':Type}{F0 H0 F h H:Hp}{L L':List Sl}{e e1 e2:TE}{T:Ty α}{r:Mo α}{O:Own ρ}{t u:TS}{LS:S→List Sl}{LS':S'→List Sl}{LB:B→List Sl}
theorem zH_ {C:Cs γ}{f:γ→Mo α}{ta:TA}{r:Mo γ}(h:EvA K ta E L r C):EvF K (tCall (Ct K C f (owF T)) [] E0 ta) E L (r.bind fun c=>(f c).noex) T:=(zbQ_ h).fr
end
end L2
namespace L2
open PySem PySem.Spec PyProof.Rows
def repL {α:Type}(xs:List α) (n:Int):List α:=(List.replicate n.toNat xs).flatten
def CRep (m:Nat) (n:Int):Prop:=0≤n∧n≤100000∧m≤100000∧m*n.toNat≤100000
instance (m:Nat) (n:Int):Decidable (CRep m n):=inferInstanceAs (Decidable (_∧_))
def mMulX:R2:=fun x y H Q=>match x,y with
 | .int i,.int j=>IntMulOk i j∧Q (.int (i*j)) H
 | .str z,.int n=>CRep z.cps.toList.length n∧Q (tx (repL z.cps.toList n)) H
 | .ref l,.int k=>∃ xs,H l=some (.lst xs)∧CRep xs.length k∧∀ p,H p=none→Q (.ref p) (upd H p (.lst (repL xs k)))
 | _,_=>False
theorem zlt_ (z:Array Nat) (n:Nat):(List.foldl (fun x1 x2=>x1++x2) #[] (List.replicate n z)).toList=(List.replicate n z.toList).flatten:=by
 have:∀ (l:List (Array Nat)) (acc:Array Nat),(l.foldl (fun x1 x2=>x1++x2) acc).toList=acc.toList++(l.map Array.toList).flatten:=by
  intro l
  induction l with
  | nil=>intro acc; simp
  | cons a l ih=>intro acc; rw [List.foldl_cons,ih]; simp
 rw [this]
 simp
theorem zdh_ {X:Cx}:OpR X (binaryOp .Mult) mMulX:=by
 intro pins s σ H x y v u Q I rx ry h
 cases x<;>cases y<;>first
  | exact h.elim
  | exact znL_ pins s σ H _ _ v u Q I rx ry h
  | (obtain ⟨xs,hl,⟨c1,c2,c3,c4⟩,q⟩:=h
     exact zpC_ pins s σ H _ _ v u Q I rx ry ⟨_,_,xs,rfl,rfl,hl,by lia,by lia,zdL_ c4,q⟩)
  | (rename_i z n
     obtain ⟨⟨c1,c2,c3,c4⟩,q⟩:=h
     obtain ⟨t,rfl⟩:=rx
     obtain ⟨t',rfl⟩:=ry
     have hz:z.length=z.cps.toList.length:=by simp [Str.length]
     refine PySem.P.mul_str (by simp; lia) (fun h1 h2=>?_) (fun h1 h2=>?_) ?_
     ·rw [hz]
      have hn:0<n:=by lia
      have:(z.cps.toList.length:Int)*n≤2 ^ 63-1:=by
       have e:n=(n.toNat:Int):=by lia
       rw [e,← Int.natCast_mul]; lia
      have:=Int.le_ediv_of_mul_le hn this
      lia
     ·unfold Builtin.Str.tooLong
      rw [hz]
      have:=zdL_ c4
      exact decide_eq_false (by lia)
     ·by_cases h1:n<1
      ·rw [if_pos h1]
       have:n=0:=by lia
       subst this
       exact ⟨Nat.zero_le _,tx [],H,I.tok _,⟨_,rfl⟩,q⟩
      ·rw [if_neg h1]
       by_cases h2:(n == 1 || z.length == 0)=true
       ·rw [if_pos h2]
        have e:repL z.cps.toList n=z.cps.toList:=by
         unfold repL
         rw [Bool.or_eq_true] at h2
         rcases h2 with h2 | h2
         ·have:n=1:=by simpa using h2
          subst this; simp
         ·have:z.cps.toList=[]:=List.length_eq_zero_iff.mp (by rw [← hz]; simpa using h2)
          rw [this]; simp
        rw [e] at q
        refine ⟨tx z.cps.toList,H,I,⟨t,?_⟩,q⟩
        show Value.str z t=Value.str ⟨z.cps.toList.toArray⟩ t
        rw [← zbD_]
       ·rw [if_neg h2]
        refine ⟨?_,tx (repL z.cps.toList n),H,I.tok _,⟨s.toks,?_⟩,q⟩
        ·have e:(⟨List.foldl (fun x1 x2=>x1++x2) #[] (List.replicate n.toNat z.cps)⟩:Str).length=(List.replicate n.toNat z.cps.toList).flatten.length:=by
          rw [← zlt_]; simp [Str.length]
         rw [e,zlB_]
         exact zdL_ (by rw [Nat.mul_comm]; exact c4)
        show Value.str _ _=Value.str _ _
        congr 1
        unfold repL
        rw [← zlt_])
section
variable {K:Fgg}{E:XK}{α β γ ρ S S' B B':Type}{F0 H0 F h H:Hp}{L L':List Sl}{e e1 e2:TE}{T:Ty α}{r:Mo α}{O:Own ρ}{t u:TS}{LS:S→List Sl}{LB:B→List Sl}
theorem zco_:Op2 K mMulX E tyInt tyInt (fun i j=>.grd (IntMulOk i j) (.ok (i*j))) tyInt:=by
 rintro a b x y F H Q hs rfl rfl k
 obtain ⟨c,k⟩:=k.grd
 exact ⟨c,k.ok hs _ rfl⟩
theorem zm2_:Op2 K mMulX E tyStr tyInt (fun l n=>.grd (CRep l.length n) (.ok (repL l n))) tyStr:=by
 rintro a b x y F H Q hs rfl rfl k
 obtain ⟨c,k⟩:=k.grd
 exact ⟨c,k.ok hs _ rfl⟩
def strsL (l:List (List Nat)):List Str:=l.map fun z=>⟨z.toArray⟩
theorem zm4_ {l:List (List Nat)}{vs:List V}(h:Prs tyStr H l vs):strsOf vs=some (strsL l):=by
 induction h with
 | nil=>rfl
 | cons r t ih=>cases r; show (strsOf _).map _=_; rw [ih]; rfl
theorem zko_:Me K (mJoin K) E (csLast (tyL tyStr)) (fun l c=>.grd (JoinOk ⟨l.toArray⟩ (strsL c)=true) (.ok (joinS l (strsL c)))) tyStr:=by
 rintro l c vs F H Q hs ⟨v,rfl,p,us,rfl,hp,hr⟩ k
 obtain ⟨z,k⟩:=k.grd
 refine ⟨us,.of (hs _ _ hp),?_⟩
 rw [zm4_ hr]
 exact ⟨z,k.ok hs _ rfl⟩
end
end L2
namespace L2
open PySem PySem.Spec PyProof.Rows
structure KyT (κ:Type) where
 T:Ty κ
 key:κ→Key
 inj:∀ {a b},key a=key b→a=b
 of:∀ {a v H},T.R a v H→keyV v=some (key a)
abbrev kInt:KyT Int:=⟨tyInt,Sum.inl,fun h=>by injection h,fun h=>by cases h; rfl⟩
abbrev kStr:KyT (List Nat):=⟨tyStr,fun l=>Sum.inr ⟨l.toArray⟩,fun h=>by
 injection h with h; injection h with h; simpa using congrArg Array.toList h,fun h=>by cases h; rfl⟩
section
variable {K:Fgg}{E:XK}{α β γ ρ κ S S' B B':Type}{F0 H0 F h H:Hp}{L L':List Sl}{e e1 e2:TE}{T:Ty α}{r:Mo α}{O:Own ρ}{t u:TS}{LS:S→List Sl}{LB:B→List Sl}{KY:KyT κ}
abbrev DPr (KY:KyT κ) (T:Ty α) (H:Hp) (m:List (κ×α)) (kvs:List (Key×V)):Prop:=Paired (fun (q:κ×α) (w:Key×V)=>w.1=KY.key q.1∧T.R q.2 w.2 H) m kvs
theorem DPr.mono {m:List (κ×α)}{kvs:List (Key×V)}{H H':Hp}(g:Same H H') (h:DPr KY T H m kvs):DPr KY T H' m kvs:=zca_ (fun _ _ r=>⟨r.1,T.mono g r.2⟩) h
theorem DPr.imm (i:Imm T) {m:List (κ×α)}{kvs:List (Key×V)}{H H':Hp}(g:Tups H H') (h:DPr KY T H m kvs):DPr KY T H' m kvs:=zca_ (fun _ _ r=>⟨r.1,i g r.2⟩) h
abbrev tyD (KY:KyT κ) (T:Ty α):Ty (List (κ×α)):=⟨fun m v H=>∃ p kvs,v=.ref p∧H p=some (.dK kvs)∧DPr KY T H m kvs,fun g ⟨p,kvs,e,h,q⟩=>⟨p,kvs,e,g _ _ h,q.mono g⟩⟩
abbrev owD (KY:KyT κ) (T:Ty α):Own (List (κ×α)):=⟨fun m v F h=>∃ p kvs,v=.ref p∧h=one p (.dK kvs)∧DPr KY T F m kvs,tyD KY T,fun g ⟨p,vs,e,z,q⟩=>⟨p,vs,e,z,q.mono g⟩,
 fun d ⟨p,vs,e,z,q⟩=>⟨p,vs,e,zhr_ d _ _ (by rw [z]; exact zS_),q.mono zU_⟩,
 fun ⟨p,vs,e,z,q⟩ b xs y=>by rw [z] at y; unfold one at y; split at y<;>cases y⟩
theorem zbF_ (i:Imm T):ImmO (owD KY T):=fun g ⟨p,vs,e,z,q⟩=>⟨p,vs,e,z,q.imm i g⟩
variable [DecidableEq κ]
def getA (m:List (κ×α)) (k:κ):Option α:=(m.find? fun q=>decide (q.1=k)).map (·.2)
def putA (m:List (κ×α)) (k:κ) (v:α):List (κ×α):=if (m.any fun q=>decide (q.1=k))=true then m.map (fun q=>if q.1=k then (q.1,v) else q) else m++[(k,v)]
theorem zlT_ (a b:κ):decide (KY.key a=KY.key b)=decide (a=b):=by rw [decide_eq_decide]; exact ⟨KY.inj,fun h=>by rw [h]⟩
theorem zo0_ {m:List (κ×α)}{kvs:List (Key×V)}(h:DPr KY T H m kvs) (k:κ):(getA m k=none∧valV kvs (KY.key k)=none)∨∃ a v,getA m k=some a∧valV kvs (KY.key k)=some v∧T.R a v H:=by
 induction h with
 | nil=>exact .inl ⟨rfl,rfl⟩
 | cons r t ih =>
  rename_i q w m kvs
  unfold getA valV at ih ⊢
  rw [List.find?_cons,List.find?_cons,r.1,zlT_]
  by_cases e:q.1=k
  ·rw [decide_eq_true e]; exact .inr ⟨_,_,rfl,rfl,r.2⟩
  ·rw [decide_eq_false e]; exact ih
theorem zn5_ {m:List (κ×α)}{kvs:List (Key×V)}(h:DPr KY T H m kvs) (k:κ):(kvs.any fun w=>decide (w.1=KY.key k))=m.any fun q=>decide (q.1=k):=by
 induction h with
 | nil=>rfl
 | cons r t ih=>rw [List.any_cons,List.any_cons,ih,r.1,zlT_]
theorem znn_ {m m':List (κ×α)}{kvs kvs':List (Key×V)}(h:DPr KY T H m kvs) (h':DPr KY T H m' kvs'):DPr KY T H (m++m') (kvs++kvs'):=by
 induction h with
 | nil=>exact h'
 | cons r t ih=>exact .cons r ih
theorem zn8_ {m:List (κ×α)}{kvs:List (Key×V)}(h:DPr KY T H m kvs) (k:κ) {a:α}{v:V}(hv:T.R a v H):DPr KY T H (m.map fun q=>if q.1=k then (q.1,a) else q) (kvs.map fun w=>if w.1=KY.key k then (w.1,v) else w):=by
 induction h with
 | nil=>exact .nil
 | cons r t ih =>
  rename_i q w m kvs
  rw [List.map_cons,List.map_cons]
  refine .cons ?_ ih
  by_cases e:q.1=k
  ·rw [if_pos e,if_pos (by rw [r.1,e])]; exact ⟨r.1,hv⟩
  ·rw [if_neg e,if_neg (fun z=>e (KY.inj (by rw [← r.1,z])))]; exact r
theorem zlr_ {m:List (κ×α)}{kvs:List (Key×V)}(h:DPr KY T H m kvs) (k:κ) {a:α}{v:V}(hv:T.R a v H):DPr KY T H (putA m k a) (putK kvs (KY.key k) v):=by
 unfold putA putK
 rw [zn5_ h]
 split
 ·exact zn8_ h k hv
 ·exact znn_ h (.cons ⟨rfl,hv⟩ .nil)
theorem zi9_ (KY:KyT κ) (T:Ty α):EvO K tDNewK E L (.ok []) (owD KY T):=by
 intro σ F H Q hL hs q p hp
 have q':OwnK (owD KY T) H Q [] F (upd H p (.dK [])):=q F _ (.heap hs (zeE_ hp _))
 refine q' (.ref p) (one p (.dK [])) (fun b z=>?_) (fun b=>?_) (fun b o z=>?_) ⟨p,[],rfl,rfl,.nil⟩
 ·unfold one at z; split at z
  ·rename_i e; rw [e]; exact hp
  ·exact absurd rfl z
 ·unfold one; split
  ·rename_i e; rw [e]; exact .inl (hs.free hp)
  ·exact .inr rfl
 ·unfold one at z; split at z
  ·rename_i e; rw [e]; cases z; exact zaC_
  ·cases z
theorem zlW_ (i:Nat) {m:List (κ×α)}(h:L[i]?=some (.ow (owD KY T) m)):EvF K (mVar i) E L (.ok m) (tyD KY T):=zfd_ i h
theorem at_d {x y:V}{R:Addr→List (Key×V)→Key→Prop}{m:List (κ×α)}{k:κ}(hx:(tyD KY T).R m x F) (hy:KY.T.R k y F) (hs:Same F H) (hr:∀ p kvs,H p=some (.dK kvs)→DPr KY T F m kvs→R p kvs (KY.key k)):atD x y H R:=by
 obtain ⟨p,kvs,rfl,hp,hd⟩:=hx
 unfold atD
 simp only
 rw [KY.of hy]
 exact ⟨kvs,hs _ _ hp,hr p kvs (hs _ _ hp) hd⟩
theorem zoF_ {r1:Mo (List (κ×α))}{r2:Mo κ}(h1:EvF K e1 E L r1 (tyD KY T)) (h2:EvF K e2 E L r2 KY.T):EvF K (mDGet e1 e2) E L (r1.bind fun m=>r2.bind fun k=>.opt (getA m k)) T:=by
 intro σ F H Q hL hs q
 refine h1 σ F H _ hL hs (q.bind.imp fun m F1 H1 x1 k1 v1 hv1=>?_)
 refine h2 σ F1 H1 _ (hL.mono x1.1) x1.2.1 (k1.bind.imp fun k F2 H2 x2 k2 v2 hv2=>?_)
 refine at_d ((tyD KY T).mono x2.1 hv1) hv2 x2.2.1 fun p kvs hp hd=>?_
 obtain ⟨a,ea,k3⟩:=k2.opt
 rcases zo0_ hd k with ⟨z,_⟩ | ⟨a',v,z1,z2,z3⟩
 ·rw [z] at ea; cases ea
 ·rw [z1] at ea; cases ea
  exact ⟨v,z2,k3.ok x2.2.1 v z3⟩
theorem zhy_ {i:Nat}{σ:St}{m:List (κ×α)}(hL:Hold L σ F h) (hi:L[i]?=some (.ow (owD KY T) m)) (ok:Okk F0 H0 F h H) :
  ∃ p kvs,σ[i]?=some (some (.ref p))∧H p=some (.dK kvs)∧DPr KY T F m kvs∧∀ m' kvs',DPr KY T F m' kvs'→∃ h',Hold (L.set i (.ow (owD KY T) m')) σ F h'∧Okk F0 H0 F h' (upd H p (.dK kvs')):=by
 obtain ⟨o,h1,h2,e1,j,⟨v,e2,p,kvs,rfl,rfl,hr⟩,f⟩:=hL.at i hi
 subst e2
 have hp:h p=some (.dK kvs):=j.l _ _ zS_
 have h2p:h2 p=none:=by
  rcases j.dj p with z | z
  ·rw [zS_] at z; cases z
  ·exact z
 refine ⟨p,kvs,e1,ok.2.2.1 _ _ hp,hr,fun m' kvs' hr'=>?_⟩
 have d2:Dj (one p (.dK kvs')) h2:=fun q=>by
  unfold one; split
  ·rename_i z; rw [z]; exact .inr h2p
  ·exact .inl rfl
 have g:=f (.ow (owD KY T) m') (some (.ref p)) (one p (.dK kvs')) _ (zch_ d2) ⟨_,rfl,p,kvs',rfl,rfl,hr'⟩
 rw [za0_ e1] at g
 refine ⟨_,g,zo3_ (h1':=h) (hr:=h) (h':=h) ok (by rw [hp]; exact Option.some_ne_none _) (fun xs z=>by cases z) _ fun b=>?_⟩
 unfold un one
 by_cases z:b=p
 ·simp only [if_pos z]
 ·simp only [if_neg z]
  rcases j b with ⟨_,c⟩ | ⟨a,c⟩
  ·exact c.symm
  ·rw [c,a]; unfold one; rw [if_neg z]
theorem zqg_ {i:Nat}{m:List (κ×α)}{r2:Mo κ}{k:α→κ→Mo (Out ρ B S)}(hi:L[i]?=some (.ow (owD KY T) m)) (hT:Imm T) (hKT:Imm KY.T) (he:EvF K e E L r T) (he2:EvF K e2 E L r2 KY.T) (hk:∀ a y,EvS K u E (L.set i (.ow (owD KY T) (putA m y a))) (k a y) LS LB O) :
  EvS K (tSeq (mDPut (mVar i) e2 e) u) E L (r.bind fun a=>r2.bind fun y=>.lim (m.length+1) (k a y)) LS LB O:=by
 intro F0 H0 σ F h H D hL ok fin
 show e σ H fun v H1=>mVar i σ H1 fun x H2=>e2 σ H2 fun y H3=>atD x y H3 fun a kvs k=>kvs.length<sizeLine∧u D σ (upd H3 a (.dK (putK kvs k v)))
 refine he σ (un F h) H _ (hL.froz ok.2.1) ok.thaw (zad_ (G:=F) ok _ (.inl rfl) fin fun a F1 H1 hra x1 v hv=>?_)
 obtain ⟨o,hs,ht⟩:=ok.back x1
 rw [hra] at fin
 have hL':=hL.mono hs
 have hv':=hT ht hv
 obtain ⟨p,kvs,e1,hp,hr,_⟩:=zhy_ hL' hi o
 refine zb3_ e1 ?_
 refine he2 σ (un _ h) H1 _ (hL'.froz o.2.1) o.thaw (zad_ (G:=F) o _ (.inl rfl) fin fun y F2 H2 hry x2 v2 hv2=>?_)
 obtain ⟨o',hs',ht'⟩:=o.back x2
 rw [hry] at fin
 obtain ⟨hz,fin⟩:=zdN_ (show Fin K (Mo.lim (m.length+1) (k a y)) E LS LB O F0 H0 D from fin)
 obtain ⟨p',kvs',e1',hp',hr',mm⟩:=zhy_ (hL'.mono hs') hi o'
 rw [e1] at e1'; cases e1'
 obtain ⟨h',a1,a2⟩:=mm (putA m y a) (putK kvs' (KY.key y) v) (zlr_ hr' y (T.mono hs' hv'))
 unfold atD
 simp only
 rw [KY.of hv2]
 refine ⟨kvs',hp',?_,hk a y F0 H0 σ _ h' _ D a1 a2 fin⟩
 have:=Paired.length hr'
 lia
end
end L2
namespace L2
open PySem PySem.Spec PyProof.Rows
section
variable {α κ:Type} [DecidableEq κ]
theorem zjn_ (m:List (κ×α)) (k:κ) (v:α):(putA m k v).length≤m.length+1:=by
 unfold putA
 split
 ·rw [List.length_map]; lia
 ·rw [List.length_append]; exact Nat.le_refl _
end
section
variable {α:Type}
theorem zkD_ (s:List α):cutG s (some 1) none=s.tail:=by
 rw [zhJ_ (by decide)]; cases s<;>rfl
end
end L2
namespace L2
open PySem PySem.Spec PyProof.Rows
section
variable {K:Fgg}{E:XK}
end
end L2
namespace Att
open PySem PySem.W PySem.Calls PyProof.Rows
theorem zmO_ {ns:List Int}(h:WData.layableAll [WData.list (ns.map WData.int)]=true):∀ x∈ns,Builtin.Int.intBits x≤1048576:=by
 intro x hx
 have h1:=layableW_arg h _ (List.mem_singleton.mpr rfl)
 have h2:=layableW_item h1 (.int x) (List.mem_map.mpr ⟨x,hx,rfl⟩)
 exact PyData.bits_of_layable (layable_int h2)
theorem attach_callB {l:OpenLaw}{n:Nat}{q:Program}{loose:List Str}{XP:(Str→Option Value)→Heap→Prop}{YP:World→Heap→Prop}{d:DefRec}
  (hn:l.most=some n) (hdf:d.params.defaults=[])
  (call:∀ (w:World) (s₀ s₁:Shared) (mg mb:Str→Option Value) (fa:Addr) (o:Obj) (pm cd doc:Value) (a:Addr) (vs:List Value) (ns:List Int),
   (∀ x∈ns,Builtin.Int.intBits x≤1048576) →
   Ground q loose [] XP w s₀ mg mb s₁.heap→YP w s₁.heap →
   s₁.heap.get? fa=some o→o.data=.func (docDef d.name d.params d.body d.scope pm cd doc)→s₁.heap.CodeRec cd d.name→mg d.name=some (.ref fa) →
   s₁.heap.get? a=some { cls:=.type "list",data:=.seq vs.toArray }→IntsAre vs ns→ns.length≤n→s₁.gens=#[] →
   codeAny (model l.prog w) callerA (.call (.ref fa) ⟨[.ref a],[]⟩) (fun r s'=>r=.ok (.ret (.bool true))∧OldK s₁.heap s'.heap∧s'.os=s₁.os∧AllBare s'.gens) s₁) :
  WalkO q loose XP YP l.row.toRowW d [] (fun f vs=>PySem.call f vs):=by
 intro w s₀ s₁ mg mb G Y fa o pm cd doc dV kV ho hd hcd hD hmg hg args vals as hpre hlay hrd hwl hlo
 obtain rfl:dV=.none:=Dflts.none hD hdf
 obtain rfl:kV=.none:=Dflts.noKw hD
 obtain ⟨a,vs,ns,rfl,rfl,hobj,hints,hlen⟩:=zkV_ hn hpre hwl
 refine enter_call (codeAny_mono (call w s₀ s₁ mg mb fa o pm cd doc a vs ns (zmO_ hlay) G Y ho (fd_plain hd) hcd hmg hobj hints hlen hg) fun r s' hq=>?_)
 obtain ⟨rfl,h2,h3,h4⟩:=hq
 exact ⟨.inl ⟨.bool true,.bool true,[],rfl,fun _=>rfl,.bool true,zkN_ l _,fun _=>⟨List.Pairwise.nil,fun _ hm=>(nomatch hm)⟩⟩,h2,h3,h4⟩
end Att
namespace L2
open PySem PySem.Spec PyProof.Rows
theorem zmB_ {l:PySem.W.OpenLaw}{n k:Nat}{q:Program}{loose:List Str}{XP:(Str→Option Value)→Heap→Prop}{YP:World→Heap→Prop}{d:DefRec}{K:Params→Fgg}{CX:World→CXT}{sp:World→Sp}{x:Str}
  (hn:l.most=some n) (hn2:n≤sizeLine) (hdf:d.params.defaults=[]) (hr:Room k callerA)
  (hY:∀ (w:World) (h:Heap),YP w h→(K w.params).In h)
  (F:∀ (w:World) (mg:Str→Option Value) (fa:Addr) (h:Heap),(K w.params).In h→h.Ns mainGlobals mg→mg d.name=some (.ref fa) →
   ∃ fd:FuncData,(∀ (s:Shared) (u:Value),BindsTo s fd ⟨[u],[]⟩ [(x,u)]) ∧
    ∀ base:Heap,(K w.params).In base→base.Ns mainGlobals mg→FnOk l.prog w (K w.params) mg base (CX w) k fa fd [x] (sp w))
  (hsp:∀ (w:World) (H:Hp) (a:Addr) (ns:List Int),ns.length≤n→(∀ x∈ns,Builtin.Int.intBits x≤1048576)→Only H→SqL (K w.params) H a (ns.map V.int)→sp w [.ref a] H (fun v _=>v=.bl true) fun _ _ _=>False)
  (hCX:∀ (w:World) (H:Hp) (s:Shared) (e:Value) (s':Shared),CX w [] H s (fun _ _ _=>False) e s'→False) :
  PySem.W.WalkO q loose XP YP l.row.toRowW d [] (fun f vs=>PySem.call f vs):=by
 refine Att.attach_callB hn hdf fun w s₀ s₁ mg mb fa o pm cd doc a vs ns hbits G Y ho hd hcd hmg hobj hints hlen hg=>?_
 have KX:=hY w _ Y
 obtain ⟨fd,hb,hF⟩:=F w mg fa _ KX G.T.g hmg
 exact zl5_ KX G.T.g G.T.b G.T.builtins G.T.nolimit hg hobj hints (Nat.le_trans hlen hn2) hr hF hb (fun H hO hS=>hsp w H a ns hlen hbits hO hS) fun H e s'=>hCX w H s₁ e s'
abbrev BitsOk (ns:List Int):Prop:=∀ x∈ns,Builtin.Int.intBits x≤1048576
end L2
namespace L2
open PySem PySem.Spec PyProof.Rows PySem.W
section
variable {α β:Type}
def okT (lt:Nat→Nat→Bool) (n:Nat):KasT α→(α→Prop)→Prop
 | .ret a,P=>P a
 | .ask i j k,P=>i<n∧j<n∧okT lt n (k (lt i j)) P
variable {lt:Nat→Nat→Bool}{n:Nat}
theorem zdz_ {f:α→KasT β}{P:β→Prop}:∀ (t:KasT α),okT lt n t (fun a=>okT lt n (f a) P)→okT lt n (t.bind f) P
 | .ret _,h=>h
 | .ask i j k,h=>⟨h.1,h.2.1,zdz_ (k (lt i j)) h.2.2⟩
theorem zbY_ {P Q:α→Prop}(hq:∀ a,P a→Q a):∀ (t:KasT α),okT lt n t P→okT lt n t Q
 | .ret _,h=>hq _ h
 | .ask i j k,h=>⟨h.1,h.2.1,zbY_ hq (k (lt i j)) h.2.2⟩
theorem zoo_ {prog:Program}{w:World}{A:Around}{κ:SortKind}{vs:List Value}{s:Shared}{P:α→Prop}{Q:α→Shared→Prop}
  (cm:∀ i j (C:Bool→Shared→Prop),i<n→j<n→C (lt i j) s→kas_ask prog w A κ vs i j C s) (hq:∀ a,P a→Q a s):∀ t:KasT α,okT lt n t P→t.kasWp (kas_ask prog w A κ vs) Q s
 | .ret a,h=>hq a h
 | .ask i j k,h=>cm i j (fun b s'=>(k b).kasWp (kas_ask prog w A κ vs) Q s') h.1 h.2.1 (zoo_ cm hq (k (lt i j)) h.2.2)
structure WOr (lt:Nat→Nat→Bool):Prop where
 asym:∀ {a b},lt a b=true→lt b a=false
 tr:∀ {a b c},lt b a=false→lt c b=false→lt c a=false
abbrev le (lt:Nat→Nat→Bool) (a b:Nat):Prop:=lt b a=false
theorem WOr.refl (w:WOr lt) (a:Nat):le lt a a:=by
 cases h:lt a a with
 | false=>exact h
 | true=>exact w.asym h
abbrev Pm (p:Array Nat) (n:Nat):Prop:=p.toList.Perm (List.range n)
theorem zeX_ {p:Array Nat}(h:Pm p n):p.size=n:=by have:=h.length_eq; rwa [List.length_range,Array.length_toList] at this
theorem zkp_ {p:Array Nat}(h:Pm p n) {i:Nat}(hi:i<n):p.getD i 0<n:=by
 have hs:=zeX_ h
 have:p.getD i 0=p[i]'(by lia):=by simp [Array.getD,hs,hi]
 rw [this]
 exact List.mem_range.mp (h.mem_iff.mp (by simp))
theorem zcw_ {p q:Array Nat}{i j:Nat}(h:p[i]?=q[j]?):p.getD i 0=q.getD j 0:=by
 rw [Array.getD_eq_getD_getElem?,Array.getD_eq_getD_getElem?,h]
theorem zjH_ {p:Array Nat}(h:Pm p n) (i j:Nat):Pm (kas_rev p i j) n:=(Array.perm_iff_toList_perm.mp (mirror_perm p i j _)).trans h
theorem zgC_ {p:Array Nat}{i j:Nat}(hj:j≤p.size) (k:Nat):(kas_rev p i j).getD k 0=if i≤k∧k<j then p.getD (i+j-1-k) 0 else p.getD k 0:=by
 have:=getElem?_mirror_all (xs:=p) (i:=i) hj k
 split
 ·rename_i q; rw [if_pos q] at this; exact zcw_ this
 ·rename_i q; rw [if_neg q] at this; exact zcw_ this
def Asc (lt:Nat→Nat→Bool) (p:Array Nat) (k:Nat):Prop:=∀ i j,i≤j→j<k→le lt (p.getD i 0) (p.getD j 0)
def Dsc (lt:Nat→Nat→Bool) (p:Array Nat) (k:Nat):Prop:=∀ i j,i≤j→j<k→le lt (p.getD j 0) (p.getD i 0)
theorem Asc.one (w:WOr lt) (p:Array Nat):Asc lt p 1:=fun i j a b=>by
 obtain rfl:i=j:=by lia
 exact w.refl _
theorem zl2_ (w:WOr lt) {p:Array Nat}(hp:Pm p n):∀ (f m:Nat),1≤m→m+f≤n→Asc lt p m→okT lt n (kas_asc p f m) (fun r=>m≤r∧r≤m+f∧Asc lt p r∧(r<m+f→lt (p.getD r 0) (p.getD (r-1) 0)=true))
 | 0,m,h1,hm,ha=>⟨Nat.le_refl _,Nat.le_refl _,ha,fun h=>absurd h (Nat.lt_irrefl _)⟩
 | f+1,m,h1,hm,ha=>by
  refine ⟨zkp_ hp (by lia),zkp_ hp (by lia),?_⟩
  show okT lt n (if lt (p.getD m 0) (p.getD (m-1) 0)=true then KasT.ret m else kas_asc p f (m+1)) _
  cases h:lt (p.getD m 0) (p.getD (m-1) 0) with
  | true=>rw [if_pos rfl]; exact ⟨Nat.le_refl _,by lia,ha,fun _=>h⟩
  | false =>
   rw [if_neg (by decide)]
   refine zbY_ (fun r q=>⟨by lia,by lia,q.2.2.1,fun z=>q.2.2.2 (by lia)⟩) _ (zl2_ w hp f (m+1) (by lia) (by lia) fun i j hij hj=>?_)
   by_cases e:j<m
   ·exact ha i j hij e
   ·obtain rfl:j=m:=by lia
    by_cases e2:i=j
    ·subst e2; exact w.refl _
    ·exact w.tr (ha i (j-1) (by lia) (by lia)) h
theorem zn7_ (w:WOr lt) {p:Array Nat}{m q:Nat}(hm:m≤p.size) (hq:q+1≤m) (hd:Dsc lt p m) (he:∀ i,m-(q+1)≤i→i<m→le lt (p.getD i 0) (p.getD (m-1) 0)):Dsc lt (kas_rev p (m-(q+1)) m) m:=by
 intro i j hij hj
 have r1:=zgC_ (p:=p) (i:=m-(q+1)) hm i
 have r2:=zgC_ (p:=p) (i:=m-(q+1)) hm j
 show lt _ _=false
 rw [r1,r2]
 by_cases a:m-(q+1)≤i
 ·rw [if_pos ⟨a,by omega⟩,if_pos ⟨by omega,hj⟩]
  exact w.tr (he _ (by omega) (by omega)) (hd _ (m-1) (by omega) (by omega))
 ·rw [if_neg (fun z=>a z.1)]
  by_cases b:m-(q+1)≤j
  ·rw [if_pos ⟨b,hj⟩]; exact hd _ _ (by omega) (by omega)
  ·rw [if_neg (fun z=>b z.1)]; exact hd _ _ hij hj
theorem zi4_ (w:WOr lt):∀ (f:Nat) (p:Array Nat) (m q:Nat),Pm p n→q+1≤m→m+f≤n→Dsc lt p m→(∀ i,m-(q+1)≤i→i<m→le lt (p.getD i 0) (p.getD (m-1) 0)) →
  okT lt n (kas_desc f p m q) (fun r=>Pm r.1 n∧r.2.2+1≤r.2.1∧r.2.1≤m+f∧Dsc lt r.1 r.2.1∧∀ i,r.2.1-(r.2.2+1)≤i→i<r.2.1→le lt (r.1.getD i 0) (r.1.getD (r.2.1-1) 0))
 | 0,p,m,q,hp,h1,hm,hd,he=>⟨hp,h1,Nat.le_refl _,hd,he⟩
 | f+1,p,m,q,hp,h1,hm,hd,he=>by
  have hsz:=zeX_ hp
  refine ⟨zkp_ hp (by lia),zkp_ hp (by lia),?_⟩
  cases h:lt (p.getD m 0) (p.getD (m-1) 0) with
  | true =>
   dsimp only
   rw [if_pos rfl]
   have fin:∀ p1:Array Nat,Pm p1 n→Dsc lt p1 m→p1.getD m 0=p.getD m 0→(∀ i,i<m→le lt (p.getD (m-1) 0) (p1.getD i 0))→okT lt n (kas_desc f p1 (m+1) 0) (fun r=>Pm r.1 n∧r.2.2+1≤r.2.1∧r.2.1≤m+(f+1)∧Dsc lt r.1 r.2.1∧∀ i,r.2.1-(r.2.2+1)≤i→i<r.2.1→le lt (r.1.getD i 0) (r.1.getD (r.2.1-1) 0)):=by
    intro p1 hp1 hd1 e1 hb
    refine zbY_ (fun r q=>⟨q.1,q.2.1,by lia,q.2.2.2⟩) _ (zi4_ w f p1 (m+1) 0 hp1 (by lia) (by lia) (fun i j hij hj=>?_) fun i a b=>?_)
    ·by_cases e:j<m
     ·exact hd1 i j hij e
     ·obtain rfl:j=m:=by lia
      by_cases e2:i=j
      ·subst e2; exact w.refl _
      ·rw [e1]; exact w.tr (w.asym h) (hb i (by lia))
    ·obtain rfl:i=m:=by lia
     exact w.refl _
   by_cases hq:q > 0
   ·rw [if_pos hq]
    refine fin _ (zjH_ hp _ _) (zn7_ w (by lia) h1 hd he) ?_ fun i hi=>?_
    ·rw [zgC_ (by lia),if_neg (by lia)]
    ·rw [zgC_ (by lia)]
     split
     ·exact hd _ _ (by lia) (by lia)
     ·exact hd _ _ (by lia) (by lia)
   ·rw [if_neg hq]
    exact fin p hp hd rfl fun i hi=>hd _ _ (by lia) (by lia)
  | false =>
   dsimp only
   rw [if_neg (by decide)]
   refine ⟨zkp_ hp (by lia),zkp_ hp (by lia),?_⟩
   cases h2:lt (p.getD (m-1) 0) (p.getD m 0) with
   | true=>dsimp only; rw [if_pos rfl]; exact ⟨hp,h1,by show m≤m+(f+1); lia,hd,he⟩
   | false =>
    dsimp only
    rw [if_neg (by decide)]
    refine zbY_ (fun r q=>⟨q.1,q.2.1,by lia,q.2.2.2⟩) _ (zi4_ w f p (m+1) (q+1) hp (by lia) (by lia) (fun i j hij hj=>?_) fun i a b=>?_)
    ·by_cases e:j<m
     ·exact hd i j hij e
     ·obtain rfl:j=m:=by lia
      by_cases e2:i=j
      ·subst e2; exact w.refl _
      ·exact w.tr h2 (hd i (j-1) (by lia) (by lia))
    ·show le lt (p.getD i 0) (p.getD m 0)
     by_cases e:i=m
     ·subst e; exact w.refl _
     ·exact w.tr (he i (by lia) (by lia)) h
abbrev Got (lt:Nat→Nat→Bool) (n:Nat) (r:Nat×Array Nat):Prop:=Pm r.2 n∧r.1≤n∧Asc lt r.2 r.1
theorem zjw_ (w:WOr lt) {p:Array Nat}{m:Nat}(hp:Pm p n) (h1:1≤m) (hm:m≤n) (hd:Dsc lt p m):okT lt n (kas_tail3 m n p) (Got lt n):=by
 have hsz:=zeX_ hp
 refine zdz_ _ (zbY_ (fun r q=>?_) _ (zl2_ w (zjH_ hp 0 m) (n-m) m h1 (by omega) fun i j hij hj=>?_))
 ·exact ⟨zjH_ hp 0 m,by show r≤n; omega,q.2.2.1⟩
 ·rw [zgC_ (by omega),zgC_ (by omega),if_pos (by omega),if_pos (by omega)]
  exact hd _ _ (by omega) (by omega)
theorem zfj_ (w:WOr lt) {p:Array Nat}{m:Nat}(hp:Pm p n) (hm:m+1≤n) (hd:Dsc lt p (m+1)):okT lt n (kas_descPart m n p) (Got lt n):=by
 refine zdz_ _ (zbY_ (fun r q=>?_) _ (zi4_ w (n-(m+1)) p (m+1) 0 hp (by lia) (by lia) hd fun i a b=>?_))
 ·obtain ⟨q1,q2,q3,q4,q5⟩:=q
  have hsz:=zeX_ q1
  by_cases z:r.2.2 > 0
  ·rw [if_pos z]
   exact zjw_ w (zjH_ q1 _ _) (by lia) (by lia) (zn7_ w (by lia) q2 q4 q5)
  ·rw [if_neg z]
   exact zjw_ w q1 (by lia) (by lia) q4
 ·obtain rfl:i=m:=by lia
  exact w.refl _
theorem zmf_ (w:WOr lt) {p:Array Nat}(hp:Pm p n) (hn:1≤n):okT lt n (kas_count n p) (Got lt n):=by
 have hsz:=zeX_ hp
 refine zdz_ _ (zbY_ (fun m q=>?_) _ (zl2_ w hp (n-1) 1 (Nat.le_refl _) (by lia) (Asc.one w p)))
 obtain ⟨q1,q2,q3,q4⟩:=q
 by_cases e:m=n
 ·rw [if_pos (by simp [e])]; exact ⟨hp,by show m≤n; lia,q3⟩
 ·rw [if_neg (by simp [e])]
  have hl:=q4 (by lia)
  by_cases z:m > 1
  ·rw [if_pos z]
   refine ⟨zkp_ hp (by lia),zkp_ hp (by lia),?_⟩
   cases c:lt (p.getD 0 0) (p.getD (m-1) 0) with
   | true=>dsimp only; rw [if_pos rfl]; exact ⟨hp,by show m≤n; lia,q3⟩
   | false =>
    dsimp only
    rw [if_neg (by decide)]
    have hall:∀ a b,a<m→b<m→le lt (p.getD a 0) (p.getD b 0):=fun a b ha hb=>w.tr (w.tr (q3 a (m-1) (by lia) (by lia)) c) (q3 0 b (by lia) hb)
    refine zfj_ w (zjH_ hp 0 m) (by lia) fun i j hij hj=>?_
    rw [zgC_ (by lia),zgC_ (by lia)]
    by_cases a:j<m
    ·rw [if_pos (by lia),if_pos (by lia)]; exact hall _ _ (by lia) (by lia)
    ·obtain rfl:j=m:=by lia
     rw [if_neg (by lia)]
     by_cases b:i<j
     ·rw [if_pos (by lia)]; exact w.tr (w.asym hl) (hall _ _ (by lia) (by lia))
     ·obtain rfl:i=j:=by lia
      rw [if_neg (by lia)]; exact w.refl _
  ·rw [if_neg z]
   obtain rfl:m=1:=by lia
   refine zfj_ w hp (by lia) fun i j hij hj=>?_
   by_cases a:i=j
   ·subst a; exact w.refl _
   ·obtain rfl:i=0:=by lia
    obtain rfl:j=1:=by lia
    exact w.asym hl
theorem zgV_ (w:WOr lt) {p:Array Nat}{k:Nat}(hp:Pm p n) (hk:k<n) (ha:Asc lt p k):∀ (f l r:Nat),l≤r→r≤k→r-l≤f→(∀ i,i<l→le lt (p.getD i 0) (p.getD k 0))→(∀ i,r≤i→i<k→le lt (p.getD k 0) (p.getD i 0)) →
  okT lt n (kas_place p k f l r) (fun m=>m≤k∧(∀ i,i<m→le lt (p.getD i 0) (p.getD k 0))∧∀ i,m≤i→i<k→le lt (p.getD k 0) (p.getD i 0))
 | 0,l,r,h1,h2,h3,h4,h5=>⟨by show l≤k; omega,h4,fun i a b=>h5 i (by omega) b⟩
 | f+1,l,r,h1,h2,h3,h4,h5=>by
  unfold kas_place
  by_cases e:l ≥ r
  ·rw [if_pos e]; exact ⟨by show l≤k; omega,h4,fun i a b=>h5 i (by omega) b⟩
  ·rw [if_neg e]
   refine ⟨zkp_ hp hk,zkp_ hp (by omega),?_⟩
   cases c:lt (p.getD k 0) (p.getD ((l+r) / 2) 0) with
   | true =>
    dsimp only
    rw [if_pos rfl]
    refine zgV_ w hp hk ha f l ((l+r) / 2) (by omega) (by omega) (by omega) h4 fun i a b=>?_
    exact w.tr (w.asym c) (ha _ _ a b)
   | false =>
    dsimp only
    rw [if_neg (by decide)]
    refine zgV_ w hp hk ha f ((l+r) / 2+1) r (by omega) h2 (by omega) (fun i hi=>?_) h5
    exact w.tr (ha i ((l+r) / 2) (by omega) (by omega)) c
theorem znU_ (w:WOr lt):∀ (f:Nat) (p:Array Nat) (k:Nat),Pm p n→k+f=n→Asc lt p k→okT lt n (kas_bin f p k) (fun r=>Pm r n∧Asc lt r n)
 | 0,p,k,hp,hk,ha=>⟨hp,(show k=n by lia) ▸ ha⟩
 | f+1,p,k,hp,hk,ha=>by
  have hsz:=zeX_ hp
  refine zdz_ _ (zbY_ (fun l q=>?_) _ (zgV_ w hp (by lia) ha k 0 k (by lia) (Nat.le_refl _) (by lia) (fun i hi=>absurd hi (by lia)) fun i a b=>absurd b (by lia)))
  obtain ⟨q1,q2,q3⟩:=q
  have hb:∀ i,(bubble p k (k-l)).getD i 0=if i=l then p.getD k 0 else if l<i∧i≤k then p.getD (i-1) 0 else p.getD i 0:=fun i=>by
   have:=getElem?_bubble (xs:=p) (src:=k) (by lia) (k-l) (by lia) i
   rw [show k-(k-l)=l by lia] at this
   split
   ·rename_i z; rw [if_pos z] at this; exact zcw_ this
   ·rename_i z
    rw [if_neg z] at this
    split
    ·rename_i y; rw [if_pos y] at this; exact zcw_ this
    ·rename_i y; rw [if_neg y] at this; exact zcw_ this
  refine znU_ w f _ (k+1) ((Array.perm_iff_toList_perm.mp (bubble_perm p k _)).trans hp) (by lia) fun i j hij hj=>?_
  rw [hb,hb]
  by_cases e1:i=l
  ·rw [if_pos e1]
   by_cases e2:j=l
   ·rw [if_pos e2]; exact w.refl _
   ·rw [if_neg e2,if_pos (by lia)]; exact q3 _ (by lia) (by lia)
  ·rw [if_neg e1]
   by_cases e2:j=l
   ·rw [if_pos e2,if_neg (by lia)]; exact q2 _ (by lia)
   ·rw [if_neg e2]
    by_cases e3:l<i
    ·rw [if_pos (by lia),if_pos (by lia)]; exact ha _ _ (by lia) (by lia)
    ·rw [if_neg (by lia)]
     by_cases e4:l<j
     ·rw [if_pos (by lia)]; exact ha _ _ (by lia) (by lia)
     ·rw [if_neg (by lia)]; exact ha _ _ hij (by lia)
theorem zog_ (w:WOr lt) (hn:1≤n):okT lt n (kas_sort n) (fun r=>Pm r n∧Asc lt r n):=by
 have h0:Pm (List.toArray (List.range n)) n:=by simp [Pm]
 refine zdz_ _ (zbY_ (fun r q=>?_) _ (zmf_ w h0 hn))
 obtain ⟨q1,q2,q3⟩:=q
 by_cases e:r.1<n
 ·rw [if_pos e]
  refine znU_ w _ _ _ q1 (by lia) ?_
  by_cases e1:r.1=0
  ·rw [e1]; exact Asc.one w _
  ·rw [Nat.max_eq_left (by lia)]; exact q3
 ·rw [if_neg e]
  obtain e:r.1=n:=by lia
  rw [e] at q3
  exact ⟨q1,q3⟩
end
section
variable {prog:Program}{w:World}{A:Around}{E:Value→Shared→Prop}{s:Shared}{vs:List Value}{lt:Nat→Nat→Bool}
def CmpAt (prog:Program) (w:World) (vs:List Value) (lt:Nat→Nat→Bool) (s:Shared):Prop :=
 ∃ κ,(∀ (A:Around) (C:SortKind→Shared→Prop),C κ s→wpAny (model prog w) A (keyKind' vs.toArray) C (fun _ _=>False) s) ∧
  ∀ (A:Around) i j (C:Bool→Shared→Prop),i<vs.length→j<vs.length→C (lt i j) s→kas_ask prog w A κ vs i j C s
def Srtd (lt:Nat→Nat→Bool) (n:Nat) (p:List Nat):Prop:=p.Perm (List.range n)∧p.Pairwise (le lt)
theorem zoC_ {n:Nat}{p:Array Nat}(h:Pm p n∧Asc lt p n):Srtd lt n p.toList:=by
 refine ⟨h.1,List.pairwise_iff_getElem.mpr fun i j hi hj hij=>?_⟩
 have hs:=zeX_ h.1
 rw [Array.length_toList] at hi hj
 have:=h.2 i j (by lia) (by lia)
 have e:∀ k (hk:k<p.size),p.getD k 0=p.toList[k]'(by simpa using hk):=fun k hk=>by simp [Array.getD,hk]
 rwa [e i hi,e j hj] at this
def RunB (b:Nat):Prop:=b≤1000∧∀ {prog:Program}{w:World}{A:Around}{E:Value→Shared→Prop}{s:Shared}{vs:List Value}{lt:Nat→Nat→Bool}{κ:SortKind},2≤vs.length→vs.length<b→WOr lt →
 (∀ (A:Around) i j (C:Bool→Shared→Prop),i<vs.length→j<vs.length→C (lt i j) s→kas_ask prog w A κ vs i j C s) →
 wpAny (model prog w) A ((sortRuns').run (SortSt.mk' κ (vs.toArray.zip vs.toArray) #[] 7 none)) (fun r s'=>s'=s∧∃ p:List Nat,(arrOf r.2).map (·.2)=(p.map fun i=>vs.getD i Value.none).toArray∧failedOf r.2=none∧Srtd lt vs.length p) E s
theorem runB64:RunB 64:=by
 refine ⟨by decide,fun {prog w A E s vs lt κ} hn2 h64 wo k2=>?_⟩
 refine wpAny_mono (kat_run (Q:=fun st' s'=>s'=s∧∃ p:Array Nat,p.size=vs.length∧arrOf st'=p.map (kas_item (vs.toArray.zip vs.toArray))∧failedOf st'=none∧(Pm p vs.length∧Asc lt p vs.length)) (G:=fun p s'=>s'=s∧(Pm p vs.length∧Asc lt p vs.length))
   rfl hn2 h64 (fun p' st' s' a1 a2 a3 a4=>⟨a4.1,p',a1,a2,a3,a4.2⟩) (zoo_ (P:=fun r=>Pm r vs.length∧Asc lt r vs.length) (fun i j C hi hj hc=>k2 A i j C hi hj hc) (fun p hp=>⟨rfl,hp⟩) _ (zog_ wo (by lia)))) ?_ fun _ _ e=>e
 rintro ⟨⟨⟩,st'⟩ s' ⟨rfl,p,hp,har,hf,hpp⟩
 exact ⟨rfl,p.toList,kat_snds rfl har,hf,zoC_ hpp⟩
theorem znh_ {b:Nat}(hB:RunB b) {a:Addr}{n:Nat}{P:PySem.Fin→Shared→Prop}(ho:s.heap.get? a=some (seqObj "list" vs.toArray n)) (h64:vs.length<b) (wo:WOr lt)
  (kk:2≤vs.length→∀ h':Heap,(∀ b o,b≠a→s.heap.get? b=some o→h'.get? b=some o)→CmpAt prog w vs lt { s with heap:=h' })
  (q:∀ (h':Heap) c (p:List Nat),(∀ b o,b≠a→s.heap.get? b=some o→h'.get? b=some o)→Srtd lt vs.length p→h'.get? a=some (seqObj "list" (p.map fun i=>vs.getD i Value.none).toArray c)→P (.done (.ret .none)) { s with heap:=h' }) :
  wpAny (model prog w) A (Builtin.«list.sort» ⟨[.ref a],[]⟩) P E s:=by
 have hB1:=hB.1
 have ha:a<s.heap.objs.size:=Heap.lt_size ho
 have s1:=Heap.SameBut.update s.heap a (Obj.mapSeq fun _=>(#[]:Array Value))
 obtain ⟨e1,ho1⟩:∃ e1,(s.heap.update a (Obj.mapSeq fun _=>(#[]:Array Value))).get? a=some (seqObj "list" #[] e1):=⟨_,get?_update_seq ho fun _=>#[]⟩
 have kp:∀ b o,b≠a→s.heap.get? b=some o→(((s.heap.update a (Obj.mapSeq fun _=>(#[]:Array Value))).push (seqObj "tuple" vs.toArray 0)).push (seqObj "list" #[] 0)).get? b=some o:=fun b o hb e =>
  Heap.get?_push_of_some _ (Heap.get?_push_of_some _ ((s1.2 b hb).trans e))
 have na:(((s.heap.update a (Obj.mapSeq fun _=>(#[]:Array Value))).push (seqObj "tuple" vs.toArray 0)).push (seqObj "list" #[] 0)).get? a=some (seqObj "list" #[] e1):=Heap.get?_push_of_some _ (Heap.get?_push_of_some _ ho1)
 rw [list_sort_plain]
 refine wpAny_bind (listItems_at ho rfl ?_)
 refine wpAny_bind (listUpdate_at ho rfl ?_ (by rw [List.size_toArray,sizeLine_eq]; lia) (Nat.zero_le _))
 refine wpAny_bind (seqEpoch_at ho1 rfl ?_)
 refine wpAny_bind (wpAny_newTuple ?_ (by show vs.length≤_; rw [sizeLine_eq]; lia))
 refine wpAny_bind (wpAny_newList ?_ (Nat.zero_le _))
 refine wpAny_holding ?_
 show wpAny (model prog w) A _ P E { s with heap:=((s.heap.update a (Obj.mapSeq fun _=>(#[]:Array Value))).push (seqObj "tuple" vs.toArray 0)).push (seqObj "list" #[] 0) }
 generalize hh:((s.heap.update a (Obj.mapSeq fun _=>(#[]:Array Value))).push (seqObj "tuple" vs.toArray 0)).push (seqObj "list" #[] 0)=h2 at kp na
 dsimp only
 have fin:∀ (st':SortSt) (p:List Nat),(arrOf st').map (·.2)=(p.map fun i=>vs.getD i Value.none).toArray→failedOf st'=none→Srtd lt vs.length p→wpAny (model prog w) A (do
   let touched:=(← seqEpoch a) != e1
   Builtin.List.listUpdate (.ref a) fun _=>(arrOf st').map (·.2)
   if let some e:=failedOf st' then rule "list.sort.comparison-raised"; throw e
   if touched then rule "list.sort.modified"; raiseError "ValueError" "list modified during sort"
   ret .none) P E { s with heap:=h2 }:=by
  intro st' p hout hf hp
  rw [hout,hf]
  have hsz:(List.toArray (p.map fun i=>vs.getD i Value.none)).size=vs.length:=by rw [List.size_toArray,List.length_map,hp.1.length_eq,List.length_range]
  have s2:=Heap.SameBut.update h2 a (Obj.mapSeq fun _=>List.toArray (p.map fun i=>vs.getD i Value.none))
  obtain ⟨c2,hc2⟩:∃ c2,(h2.update a (Obj.mapSeq fun _=>List.toArray (p.map fun i=>vs.getD i Value.none))).get? a=some (seqObj "list" (List.toArray (p.map fun i=>vs.getD i Value.none)) c2):=⟨_,get?_update_seq na fun _=>List.toArray (p.map fun i=>vs.getD i Value.none)⟩
  refine wpAny_bind (seqEpoch_at (s:={ s with heap:=h2 }) na rfl ?_)
  refine wpAny_bind (listUpdate_at (s:={ s with heap:=h2 }) na rfl ?_ (Nat.zero_le _) (Nat.le_trans (Nat.le_of_eq hsz) (by rw [sizeLine_eq]; lia)))
  simp only [bne_self_eq_false,Bool.false_eq_true,if_false]
  exact wpAny_pure (q _ c2 p (fun b o hb e=>(s2.2 b hb).trans (kp b o hb e)) hp hc2)
 by_cases hn2:2≤vs.length
 ·have hn2':¬ vs.toArray.size<2:=by rw [List.size_toArray]; lia
  rw [if_neg hn2',if_neg hn2']
  obtain ⟨κ,k1,k2⟩:=kk hn2 h2 kp
  refine wpAny_bind (wpAny_mono (k1 A (fun κ' s'=>κ'=κ∧s'={ s with heap:=h2 }) ⟨rfl,rfl⟩) (fun κ' s0 hk=>?_) fun _ _ x=>x.elim)
  obtain ⟨rfl,rfl⟩:=hk
  refine wpAny_bind (wpAny_mono (hB.2 hn2 h64 wo k2) ?_ fun _ _ e=>e)
  rintro ⟨⟨⟩,st'⟩ s' ⟨rfl,p,hout,hf,hpp⟩
  exact fin st' p hout hf hpp
 ·have hn2':vs.toArray.size<2:=by rw [List.size_toArray]; lia
  rw [if_pos hn2',if_pos hn2']
  refine wpAny_bind (wpAny_pure ?_)
  refine wpAny_bind (wpAny_pure ?_)
  refine fin _ (List.range vs.length) ?_ rfl ⟨List.Perm.refl _,?_⟩
  ·show ((vs.toArray.zip vs.toArray).map (·.2))=_
   apply Array.toList_inj.mp
   rw [Array.toList_map,Array.toList_zip]
   have e:∀ l:List Value,(l.zip l).map (·.2)=l:=fun l=>by
    induction l with
    | nil=>rfl
    | cons x l ih=>rw [List.zip_cons_cons,List.map_cons,ih]
   show (vs.zip vs).map (·.2)=(List.range vs.length).map fun i=>vs.getD i Value.none
   rw [e]
   apply List.ext_getElem?
   intro i
   by_cases hi:i<vs.length
   ·simp [hi]
   ·simp [List.getElem?_eq_none,hi,Nat.le_of_not_lt hi]
  ·rcases (show vs.length=0∨vs.length=1 by lia) with e | e
   ·rw [e]; exact .nil
   ·rw [e]; exact List.pairwise_singleton _ _
end
end L2
namespace L2
open PySem PySem.Spec PyProof.Rows PySem.W
def knd:V→Nat | .int _=>1 | .str _=>2 | _=>0
def ltF:V→V→Bool | .int a,.int b=>decide (a<b) | .str a,.str b=>decide (a.cps.toList<b.cps.toList) | _,_=>false
def eqF:V→V→Bool | .int a,.int b=>a == b | .str a,.str b=>decide (a=b) | _,_=>false
section
variable {prog:Program}{w:World}{A:Around}{E:Value→Shared→Prop}{s:Shared}{Q:Bool→Shared→Prop}
theorem zee_ {x:V}(h:knd x≠0):(∃ i,x=.int i)∨∃ z,x=.str z:=by
 cases x<;>first | exact .inl ⟨_,rfl⟩ | exact .inr ⟨_,rfl⟩ | exact absurd rfl h
theorem zo2_ {x y:V}{u v:Value}{b:Bool}(hx:RelV x u) (hy:RelV y v) (hk:knd x=knd y) (h0:knd x≠0) (q:Q (ltF x y) s):wpAny (model prog w) A (oneLt' b u v) Q E s:=by
 rcases zee_ h0 with ⟨i,rfl⟩ | ⟨z,rfl⟩
 ·rcases zee_ (x:=y) (fun e=>h0 (hk.trans e)) with ⟨j,rfl⟩ | ⟨z,rfl⟩
  ·obtain ⟨t,rfl⟩:=hx
   obtain ⟨t',rfl⟩:=hy
   cases b with
   | true=>exact oneLt_int q
   | false=>exact kat_one _ _ (PyProof.Rows.lt_int q)
  ·cases hk
 ·rcases zee_ (x:=y) (fun e=>h0 (hk.trans e)) with ⟨j,rfl⟩ | ⟨z',rfl⟩
  ·cases hk
  ·obtain ⟨t,rfl⟩:=hx
   obtain ⟨t',rfl⟩:=hy
   cases b with
   | true=>exact oneLt_str q
   | false=>exact kat_one _ _ (PyProof.Rows.lt_str q)
end
def tyK (k:Nat):Value:=if k=1 then .type "int" else .type "str"
theorem zoy_ {M:Model}{h:Heap}{x:V}{u:Value}{k:Nat}(r:RelV x u) (hk:knd x=k) (h0:k≠0):Looks M h (typeOf u) (tyK k):=by
 subst hk
 rcases zee_ h0 with ⟨i,rfl⟩ | ⟨z,rfl⟩
 ·obtain ⟨t,rfl⟩:=r
  exact .now
 ·obtain ⟨t,rfl⟩:=r
  exact .now
theorem zpV_ (k:Nat):(tyK k != Value.type "tuple")=true:=by unfold tyK; split<;>decide +kernel
theorem zqs_ (k:Nat):(tyK k == tyK k)=true:=by unfold tyK; split<;>decide +kernel
theorem zeg_ {ys:List V}{us:List Value}(r:Vals ys us) {i:Nat}(h:i<us.length):∃ y,ys[i]?=some y∧RelV y (us.getD i Value.none)∧y∈ys:=by
 have hl:=Vals.length r
 have e:ys[i]?=some ys[i]:=List.getElem?_eq_getElem (by omega)
 obtain ⟨u,eu,ru⟩:=Vals.get r e
 refine ⟨_,e,?_,List.getElem_mem _⟩
 rw [List.getD_eq_getElem?_getD,eu]
 exact ru
theorem zjc_ {ys:List V}{us:List Value}(r:Vals ys us):∀ (idx:List Nat),(∀ i∈idx,i<us.length)→Vals (idx.map fun i=>ys.getD i .non) (idx.map fun i=>us.getD i Value.none)
 | [],_=>.nil
 | i::idx,h=>by
  obtain ⟨y,e,ry,_⟩:=zeg_ r (h i (List.mem_cons_self ..))
  refine .cons ?_ (zjc_ r idx fun j hj=>h j (List.mem_cons_of_mem _ hj))
  show RelV (ys.getD i V.non) _
  rw [List.getD_eq_getElem?_getD,e]
  exact ry
section
variable {X:Cx}
end
end L2
namespace L2
open PySem PySem.Spec PyProof.Rows PySem.W
section
variable {α β:Type}
structure LOr (lt:α→α→Bool):Prop where
 asym:∀ {a b},lt a b=true→lt b a=false
 tr:∀ {a b c},lt b a=false→lt c b=false→lt c a=false
 anti:∀ {a b},lt a b=false→lt b a=false→a=b
def srtL (lt:α→α→Bool) (xs:List α):List α:=xs.mergeSort (fun a b=>!lt b a)
theorem zh1_ (lt:α→α→Bool) (xs:List α):(srtL lt xs).Perm xs:=List.mergeSort_perm _ _
theorem ziB_ {lt:α→α→Bool}(o:LOr lt) (xs:List α):(srtL lt xs).Pairwise fun a b=>lt b a=false:=by
 have:=List.pairwise_mergeSort (le:=fun a b=>!lt b a) (fun a b c h1 h2=>by simp only [Bool.not_eq_true'] at *; exact o.tr h1 h2) (fun a b=>by
  cases h:lt b a with
  | false=>simp
  | true=>simp [o.asym h]) xs
 exact this.imp (fun h=>by simpa using h)
theorem zjr_ {lt:α→α→Bool}(o:LOr lt):∀ {ws ys:List α},ws.Perm ys→ws.Pairwise (fun a b=>lt b a=false)→ys.Pairwise (fun a b=>lt b a=false)→ws=ys
 | [],ys,hp,_,_=>by rw [List.Perm.nil_eq hp]
 | w::ws,[],hp,_,_=>by have:=hp.length_eq; simp at this
 | w::ws,y::ys,hp,h1,h2=>by
  obtain ⟨a1,a2⟩:=List.pairwise_cons.mp h1
  obtain ⟨b1,b2⟩:=List.pairwise_cons.mp h2
  have e:w=y:=by
   have m1:w∈y::ys:=hp.mem_iff.mp (List.mem_cons_self ..)
   have m2:y∈w::ws:=hp.mem_iff.mpr (List.mem_cons_self ..)
   rcases List.mem_cons.mp m1 with e | m1
   ·exact e
   ·rcases List.mem_cons.mp m2 with e | m2
    ·exact e.symm
    ·exact o.anti (b1 w m1) (a1 y m2)
  subst e
  rw [zjr_ o (List.Perm.cons_inv hp) a2 b2]
theorem zkA_ {lt:α→α→Bool}(o:LOr lt) {ws xs:List α}(hp:ws.Perm xs) (hs:ws.Pairwise fun a b=>lt b a=false):ws=srtL lt xs :=
 zjr_ o (hp.trans (zh1_ lt xs).symm) hs (ziB_ o xs)
def ltI (a b:Int):Bool:=decide (a<b)
theorem zp7_:LOr ltI:=by
 unfold ltI
 refine ⟨fun h=>?_,fun h h'=>?_,fun h h'=>?_⟩<;>simp only [decide_eq_true_eq,decide_eq_false_iff_not] at*<;> lia
end
end L2
namespace L2
open PySem PySem.Spec PyProof.Rows PySem.W
section
variable {α β γ:Type}{K:Fgg}{E:XK}
def FlT (T:Ty α) (k:Nat) (lt:α→α→Bool):Prop:=k≠0∧∀ a v F,T.R a v F→knd v=k∧∀ b u F',T.R b u F'→ltF v u=lt a b∧(eqF v u=true↔a=b)
theorem zpf_:FlT tyInt 1 ltI:=by
 refine ⟨by decide,fun a v F h=>?_⟩
 subst h
 refine ⟨rfl,fun b u F' h'=>?_⟩
 subst h'
 exact ⟨rfl,by simp [eqF]⟩
theorem zj5_ {T:Ty α}{H:Hp}:∀ {xs:List α}{vs:List V},Prs T H xs vs→∀ (i:Nat) (v:V),vs[i]?=some v→∃ x,xs[i]?=some x∧T.R x v H
 | _,_,.nil,i,v,e=>by simp at e
 | _,_,.cons a t,0,v,e=>by simp at e; subst e; exact ⟨_,rfl,a⟩
 | _,_,.cons a t,i+1,v,e=>zj5_ t i v (by simpa using e)
theorem zlu_ {T:Ty α}{H:Hp}{xs:List α}{vs:List V}(r:Prs T H xs vs) (d:α):∀ (idx:List Nat),(∀ i∈idx,i<vs.length)→Prs T H (idx.map fun i=>xs.getD i d) (idx.map fun i=>vs.getD i .non)
 | [],_=>.nil
 | i::idx,h=>by
  have hi:=h i (List.mem_cons_self ..)
  obtain ⟨x,e,rx⟩:=zj5_ r i vs[i] (List.getElem?_eq_getElem hi)
  refine .cons ?_ (zlu_ r d idx fun j hj=>h j (List.mem_cons_of_mem _ hj))
  show T.R (xs.getD i d) (vs.getD i .non) H
  rw [List.getD_eq_getElem?_getD,List.getD_eq_getElem?_getD,e,List.getElem?_eq_getElem hi]
  exact rx
theorem zkh_ {lt:α→α→Bool}(o:LOr lt) {xs:List α}{d:α}{idx:List Nat}(h:Srtd (fun i j=>lt (xs.getD i d) (xs.getD j d)) xs.length idx):(idx.map fun i=>xs.getD i d)=srtL lt xs:=by
 refine zkA_ o ?_ ?_
 ·have e:(List.range xs.length).map (fun i=>xs.getD i d)=xs:=by
   apply List.ext_getElem?
   intro i
   by_cases hi:i<xs.length
   ·simp [hi]
   ·simp [List.getElem?_eq_none,hi,Nat.le_of_not_lt hi]
  have:=h.1.map (fun i=>xs.getD i d)
  rwa [e] at this
 ·exact List.pairwise_map.mpr (h.2.imp fun q=>q)
theorem zqd_ {lt:α→α→Bool}(o:LOr lt) (f:Nat→α):WOr fun i j=>lt (f i) (f j):=⟨fun h=>o.asym h,fun h h'=>o.tr h h'⟩
end
end L2
universe u
namespace L2
open PySem PySem.Spec PyProof.Rows
section
variable {α γ:Type}{K:Fgg}{E:XK}{L:List Sl}{T:Ty α}{e:TE}
end
section
variable {α:Type}{K:Fgg}{E:XK}{L:List Sl}{T:Ty α}{F h H F0 H0:Hp}{ρ B S:Type}{LS:S→List Sl}{LB:B→List Sl}{O:Own ρ}
end
end L2
namespace L2
open PySem PySem.Spec PyProof.Rows PySem.W
section
variable {prog:Program}{w:World}{A:Around}{E:Value→Shared→Prop}{s:Shared}{T:String}{rr dd:Addr}{n:Nat}{PP:Nat→Value→Prop}{OK:Heap→Prop}
theorem zme_ {R:List Value→Shared→Prop}(Kd:KdlSrc prog w T rr dd n PP OK) (hh:A.handled=none) (hok:OK s.heap) (hn:n≤sizeLine)
  (hR:∀ (h':Heap) (tk:Nat) (acc:Array Value),s.heap.objs.size<h'.objs.size→(∀ b o,s.heap.get? b=some o→h'.get? b=some o)→ItemsOf PP acc n→R acc.toList { s with heap:=h',toks:=tk }) :
  wpAny (model prog w) A (collect (.ref rr)) R E s:=by
 obtain ⟨lr,ld⟩:=Kd.there _ hok
 unfold collect; refine wpAny_bind (wpAny_runValue (codeAny_builtin entry_proto_collect' ?_)); rw [Around.under_plainId PySem.F.plain_proto_collect _]
 show wpAny _ A.in1 (newList []>>=fun l=>again (.builtin "list.__iadd__" ⟨[l,.ref rr],[]⟩)) _ _ s; refine wpAny_bind (wpAny_newObj_type ?_)
 refine wpAny_pure ⟨plainId_quiet PySem.F.plain_list_iadd _,codeAny_builtin entry_list_iadd' ?_⟩; rw [Around.under_plainId PySem.F.plain_list_iadd _]
 have h0:(s.heap.push { cls:=.type "list",data:=.seq ([]:List Value).toArray }).get? s.heap.objs.size=some { cls:=.type "list",data:=.seq #[] }:=Heap.get?_push_size _ rfl
 show wpAny _ A.in1 (Builtin.List.listExtendWith (.ref s.heap.objs.size) (.ref rr) (.ref s.heap.objs.size)) _ _ _
 have key:=kdl_extend (A:=A) (s:={ s with heap:=s.heap.push { cls:=.type "list",data:=.seq ([]:List Value).toArray } })
  (R:=fun (q:Result) (s':Shared)=>∃ (h':Heap) (tk:Nat) (acc:Array Value) (c:Nat),q=.ok (.ret (.ref s.heap.objs.size))∧s'={ s with heap:=h',toks:=tk }∧(∀ b o,s.heap.get? b=some o→h'.get? b=some o)∧h'.get? s.heap.objs.size=some { cls:=.type "list",dict:=none,data:=.seq acc c,slots:=#[] }∧ItemsOf PP acc n)
  Kd hh (Kd.keep _ _ hok fun b _ o e=>Heap.get?_push_of_some _ e) s.heap.objs.size (Nat.ne_of_gt lr) (Nat.ne_of_gt ld) (.ref s.heap.objs.size) 0 h0
  (fun h' tk acc c hk hS hacc=>⟨h',tk,acc,c,rfl,rfl,fun b o e=>hk b o (Nat.ne_of_lt (Heap.lt_size e)) (Heap.get?_push_of_some _ e),hS,hacc⟩) hn
 refine wpAny_mono key (fun fin s' x=>?_) fun e s' x=>?_
 ·cases fin with
  | done f =>
   obtain ⟨h',tk,acc,c,e,rfl,hk,hS,hacc⟩:=x
   cases e; show wpAny _ A (load s.heap.objs.size>>=_) _ _ _
   exact wpAny_bind (wpAny_load hS (wpAny_pure (hR h' tk acc (Heap.lt_size hS) hk hacc)))
  | again c1 =>
   refine ⟨x.1,codeAny_mono x.2 fun q s2 y=>?_⟩; obtain ⟨h',tk,acc,c,rfl,rfl,hk,hS,hacc⟩:=y
   show wpAny _ A (load s.heap.objs.size>>=_) _ _ _; exact wpAny_bind (wpAny_load hS (wpAny_pure (hR h' tk acc (Heap.lt_size hS) hk hacc)))
 ·obtain ⟨_,_,_,_,e',_⟩:=x; cases e'
end
section
variable {prog:Program}{w:World}{A:Around}{E:Value→Shared→Prop}{s:Shared}{lt:Nat→Nat→Bool}
theorem zlm_ {b:Nat}(hB:RunB b) {v:Value}{n:Nat}{PV:List Value→Prop}{Q:Value→Shared→Prop}(h64:n<b) (wo:WOr lt) (hlen:∀ vs,PV vs→vs.length=n)
  (col:∀ R:List Value→Shared→Prop,(∀ (vs:List Value) (h':Heap) (tk:Nat),PV vs→s.heap.objs.size≤h'.objs.size→(∀ b o,s.heap.get? b=some o→h'.get? b=some o)→R vs { s with heap:=h',toks:=tk })→wpAny (model prog w) A.in1 (collect v) R E s)
  (kk:∀ (vs:List Value),PV vs→2≤vs.length→∀ (h':Heap) (tk:Nat),(∀ b o,s.heap.get? b=some o→h'.get? b=some o)→CmpAt prog w vs lt { s with heap:=h',toks:=tk })
  (q:∀ (vs:List Value) (l:Addr) (h':Heap) (tk:Nat) c (p:List Nat),PV vs→s.heap.objs.size≤l→(∀ b o,s.heap.get? b=some o→h'.get? b=some o)→Srtd lt vs.length p→h'.get? l=some (seqObj "list" (p.map fun i=>vs.getD i Value.none).toArray c)→Q (.ref l) { s with heap:=h',toks:=tk }) :
  wpAny (model prog w) A (call (.builtin "sorted") [v]) Q E s:=by
 have hB1:=hB.1
 refine Calls.call_function_entry kind_sorted plain_sorted entry_sorted (args_sorted1 _) ?_
 unfold Builtin.«sorted»
 refine wpAny_bind (m:=checkCount "sorted" 1 1 _) (wpAny_pure ?_)
 refine wpAny_bind (col _ fun vs h1 tk pv hle k1=>?_)
 have hn:=hlen vs pv
 refine wpAny_bind (wpAny_newList ?_ (by rw [sizeLine_eq]; lia))
 have hoL:(h1.push (seqObj "list" vs.toArray 0)).get? h1.objs.size=some (seqObj "list" vs.toArray 0):=Heap.get?_push_size _ rfl
 have keep:∀ b o,s.heap.get? b=some o→(h1.push (seqObj "list" vs.toArray 0)).get? b=some o:=fun b o e=>Heap.get?_push_of_some _ (k1 b o e)
 show wpAny _ _ _ _ _ { s with heap:=h1.push (seqObj "list" vs.toArray 0),toks:=tk }
 have keep2:∀ (h':Heap),(∀ b o,b≠h1.objs.size→(h1.push (seqObj "list" vs.toArray 0)).get? b=some o→h'.get? b=some o)→∀ b o,s.heap.get? b=some o→h'.get? b=some o:=fun h' hk b o e =>
  hk b o (Nat.ne_of_lt (Heap.lt_size (k1 b o e))) (keep b o e)
 refine wpAny_bind (wpAny_holding (wpAny_call_entry slot_list_sort ⟨_,hoL,rfl⟩ entry_list_sort ?body (args_list_sort _)))
 case body =>
  refine znh_ hB (s:={ s with heap:=h1.push (seqObj "list" vs.toArray 0),toks:=tk }) hoL (by lia) wo (fun h2 h' hk=>kk vs pv h2 h' tk (keep2 h' hk)) fun h' c p hk hp ho'=>?_
  exact ⟨_,rfl,wpAny_pure ⟨_,rfl,q vs _ h' tk c p pv hle (keep2 h' hk) hp ho'⟩⟩
end
section
variable {X:Cx}
theorem zmu_ {ys:List V}{its:List Value}{lt:Nat→Nat→Bool}{k:Nat}{s:Shared}(r':Vals ys its) (hk:k≠0) (hall:∀ y∈ys,knd y=k) (hlt:∀ i j x y,ys[i]?=some x→ys[j]?=some y→lt i j=ltF x y) (h2:2≤its.length) :
  CmpAt X.prog X.w its lt s:=by
 refine ⟨oneType',fun A C hC=>?_,fun A i j C hi hj hC=>?_⟩
 ·refine kas_kind h2 (T:=tyK k) (fun v hv=>?_) (zpV_ k) (zqs_ k) hC
  obtain ⟨i,hi⟩:=List.mem_iff_getElem?.mp hv
  obtain ⟨hi',_⟩:=List.getElem?_eq_some_iff.mp hi
  obtain ⟨y,_,ry,hy⟩:=zeg_ r' hi'
  rw [List.getD_eq_getElem?_getD,hi] at ry
  exact zoy_ ry (hall y hy) hk
 ·obtain ⟨x,ex,rx,hx⟩:=zeg_ r' hi
  obtain ⟨y,ey,ry,hy⟩:=zeg_ r' hj
  rw [hlt i j x y ex ey] at hC
  unfold kas_ask
  rw [keyLt'_oneType]
  exact zo2_ rx ry (by rw [hall x hx,hall y hy]) (by rw [hall x hx]; exact hk) hC
theorem is_kV {P:Program}{w:World}{k:Key}{u:Value}(h:(mixKind P w).is k u=true):RelV (kV k) u:=by
 rw [zjF_] at h
 rcases zae_ h with ⟨i,t,rfl,rfl⟩ | ⟨x,t,rfl,rfl⟩<;>exact ⟨_,rfl⟩
end
section
variable {α β γ κ:Type}{K:Fgg}{E:XK}
theorem zp9_ (x:Int) (F:Hp):(kInt).T.R x (kV (kInt.key x)) F:=rfl
end
end L2
namespace L2
open PySem PySem.Spec PyProof.Rows PySem.W
section
variable {prog:Program}{w:World}{A:Around}{E:Value→Shared→Prop}{s:Shared}{z ti to i j:Addr}{f g:List Addr}{n1 n2 k:Nat}{P1 P2:Nat→Value→Prop}{S1 S2:Nat→Heap→Prop}{a b:Value}
end
end L2
namespace L2
open PySem PySem.Spec PyProof.Rows PySem.W
section
variable {prog:Program}{w:World}{A:Around}{E:Value→Shared→Prop}{s:Shared}
end
section
variable {X:Cx}{elts:List Expr}{kk:Nat}{tpos:Pos}
end
section
variable {K:Fgg}{E:XK}{α β:Type}{L:List Sl}{T:Ty α}
end
end L2
namespace L2
open PySem PySem.Spec PyProof.Rows
section
variable {K:Fgg}{E:XK}{α β γ ρ S B:Type}{F0 H0 F h H:Hp}{L:List Sl}{e:TE}{T:Ty α}{r:Mo α}{O:Own ρ}{u:TS}{LS:S→List Sl}{LB:B→List Sl}
theorem Hold.atM:∀ {L:List Sl}{σ:St}{F h:Hp}(i:Nat) {s:Sl},Hold L σ F h→L[i]?=some s →
  ∃ o h1 h2,σ[i]?=some o∧Jn h1 h2 h∧s.P o F h1∧∀ F' s' o' h1' h',Same F F'→Jn h1' h2 h'→s'.P o' F' h1'→Hold (L.set i s') (σ.set i o') F' h'
 | [],_,_,_,_,_,_,e=>by cases e
 | s::L,[],_,_,_,_,q,_=>q.elim
 | s::L,o::σ,F,h,0,t,⟨h1,h2,j,p,r⟩,e=>by
  cases e
  exact ⟨o,h1,h2,rfl,j,p,fun F' s' o' h1' h' g j' p'=>⟨h1',h2,j',p',r.mono g⟩⟩
 | s::L,o::σ,F,h,i+1,t,⟨h1,h2,j,p,r⟩,e=>by
  obtain ⟨o1,k1,k2,e1,j1,p1,f⟩:=Hold.atM i r (by simpa using e)
  have d1:Dj h1 k1:=fun p=>by
   rcases j.dj p with a | a
   ·exact .inl a
   ·exact .inr (j1.l.free a)
  have d2:Dj h1 k2:=fun p=>by
   rcases j.dj p with a | a
   ·exact .inl a
   ·exact .inr (j1.r.free a)
  refine ⟨o1,k1,un h1 k2,by simpa using e1,fun p=>?_,p1,fun F' s' o' k1' h' g j' p'=>?_⟩
  ·rcases j p with ⟨a,b⟩ | ⟨a,b⟩
   ·rcases j1 p with ⟨c,d⟩ | ⟨c,d⟩
    ·refine .inl ⟨c,?_⟩; unfold un; rw [a,b,d]
    ·refine .inr ⟨?_,by rw [b,d]⟩; unfold un; rw [a,c]
   ·refine .inl ⟨j1.l.free a,?_⟩
    have:k2 p=none:=j1.r.free a
    unfold un; rw [b]
    cases h1 p with
    | none=>rw [this]
    | some u=>rfl
  ·have dd:Dj k1' k2:=fun p=>by
    rcases j' p with ⟨a,b⟩ | ⟨a,b⟩
    ·exact .inl a
    ·right; unfold un at a
     cases z:h1 p with
     | none=>rw [z] at a; exact a
     | some u=>rw [z] at a; cases a
   refine ⟨h1,un k1' k2,fun p=>?_,p.mono g,f F' s' o' k1' _ g (zch_ dd) p'⟩
   rcases j' p with ⟨a,b⟩ | ⟨a,b⟩
   ·unfold un at b ⊢
    cases z:h1 p with
    | none=>rw [z] at b; exact .inl ⟨rfl,by rw [b,a]⟩
    | some u =>
     rw [z] at b
     refine .inr ⟨?_,b⟩
     rw [a]
     rcases d2 p with y | y
     ·rw [y] at z; cases z
     ·exact y
   ·unfold un at a
    cases z:h1 p with
    | some u=>rw [z] at a; cases a
    | none =>
     rw [z] at a
     refine .inl ⟨rfl,?_⟩
     unfold un; rw [b]
     cases k1' p with
     | none=>exact a.symm
     | some u=>rfl
structure PutC (F2 H2 h H0 k k' F3 H3:Hp):Prop where
 ff:Same F2 F3
 fh:Same F3 H3
 ol:Same (less H2 k) H3
 nw:∀ q,F2 q=none→F3 q≠none→H2 q=none∨k q≠none
 kh:Same k' H3
 dj:Dj F3 k'
 fr:∀ q,k q=none→k' q≠none→h q=none∧H0 q=none
theorem zhl_ {O1:Own α}{i:Nat}{σ:St}{x:α}(hL:Hold L σ F h) (hi:L[i]?=some (.ow O1 x)) (ok:Okk F0 H0 F h H) :
  ∃ v k,σ[i]?=some (some v)∧O1.O x v F k∧Same k H∧Same k h∧Dj F k∧∀ {β:Type}(O2:Own β) (x':β) (v':V) (k' F3 H3:Hp),PutC F H h H0 k k' F3 H3→O2.O x' v' F3 k' →
   ∃ h',Hold (L.set i (.ow O2 x')) (σ.set i (some v')) F3 h'∧Okk F0 H0 F3 h' H3:=by
 obtain ⟨o,k,hr,e1,j,⟨v,e2,ho⟩,f⟩:=hL.atM i hi
 subst e2
 obtain ⟨o1,o2,o3,o4,o5⟩:=ok
 have kh:Same k h:=j.l
 have rh:Same hr h:=j.r
 have kne:∀ q,k q≠none→h q≠none:=fun q z w=>z (kh.free w)
 refine ⟨v,k,e1,ho,kh.trans o3,kh,fun q=>?_,?_⟩
 ·rcases o2 q with z | z
  ·exact .inl z
  ·exact .inr (kh.free z)
 intro β O2 x' v' k' F3 H3 P hv'
 have rk:∀ {q o},hr q=some o→k q=none:=fun {q o} z=>by
  rcases j.dj q with y | y
  ·exact y
  ·rw [y] at z; cases z
 have dj:Dj k' hr:=fun q=>by
  by_cases w:k' q=none
  ·exact .inl w
  ·right
   by_cases w2:k q=none
   ·exact rh.free (P.fr q w2 w).1
   ·rcases j.dj q with y | y
    ·exact absurd y w2
    ·exact y
 have rH:∀ {q o},hr q=some o→H3 q=some o:=fun {q o} z=>P.ol q o (by rw [zx_ (rk z)]; exact o3 _ _ (rh _ _ z))
 refine ⟨un k' hr,f F3 (.ow O2 x') (some v') k' _ P.ff (zch_ dj) ⟨_,rfl,hv'⟩,⟨o1.1.trans P.ff,P.fh,fun q o z=>?_,fun q a b=>?_⟩,fun q=>?_,fun q o z=>?_,fun q z=>?_,fun q xs z=>?_⟩
 ·have hq:h q=none:=by
   cases w:h q with
   | none=>rfl
   | some s=>have:=o4 q (by rw [w]; exact Option.some_ne_none _); rw [this] at z; cases z
  exact P.ol q o (by rw [zx_ (kh.free hq)]; exact o1.2.2.1 _ _ z)
 ·by_cases w:F q=none
  ·rcases P.nw q w b with y | y
   ·exact o1.2.2.1.free y
   ·exact o4 q (kne q y)
  ·exact o1.2.2.2 q a w
 ·unfold un
  cases w:k' q with
  | some s =>
   left
   rcases P.dj q with y | y
   ·exact y
   ·rw [y] at w; cases w
  | none =>
   cases y:hr q with
   | none=>exact .inr rfl
   | some s =>
    left
    have hq:h q=some s:=rh _ _ y
    have Fq:F q=none:=by
     rcases o2 q with d | d
     ·exact d
     ·rw [d] at hq; cases hq
    by_cases w3:F3 q=none
    ·exact w3
    ·rcases P.nw q Fq w3 with d | d
     ·rw [o3 _ _ hq] at d; cases d
     ·exact absurd (rk y) d
 ·unfold un at z
  cases w:k' q with
  | some s=>rw [w] at z; rw [P.kh q s w]; exact z
  | none=>rw [w] at z; exact rH z
 ·unfold un at z
  cases w:k' q with
  | some s =>
   by_cases y:k q=none
   ·exact (P.fr q y (by rw [w]; exact Option.some_ne_none _)).2
   ·exact o4 q (kne q y)
  | none =>
   rw [w] at z
   exact o4 q fun y=>z (rh.free y)
 ·unfold un at z
  cases w:k' q with
  | some s=>rw [w] at z; refine O2.notup hv' q xs ?_; rw [w]; exact z
  | none=>rw [w] at z; exact o5 q xs (rh _ _ z)
theorem PutC.same {k k':Hp}{H3:Hp}(ok:Okk F0 H0 F h H) (kh:Same k h) (a:Same k' H3) (b:∀ q,k q=none→k' q=none→H3 q=H q) (c:∀ q,k q=none→k' q≠none→F q=none∧h q=none∧H0 q=none∧H q=k' q):PutC F H h H0 k k' F H3:=by
 have dj:Dj F k':=fun q=>by
  by_cases w:k' q=none
  ·exact .inr w
  ·left
   by_cases y:k q=none
   ·exact (c q y w).1
   ·rcases ok.2.1 q with d | d
    ·exact d
    ·exact absurd (kh.free d) y
 have ol:∀ q o,k q=none→H q=some o→H3 q=some o:=fun q o y z=>by
  by_cases w:k' q=none
  ·rw [b q y w]; exact z
  ·obtain ⟨_,_,_,e⟩:=c q y w
   rw [z] at e
   exact a _ _ e.symm
 refine ⟨Same.refl _,fun q o z=>?_,fun q o z=>?_,fun q y z=>absurd y z,a,dj,fun q y z=>⟨(c q y z).2.1,(c q y z).2.2.1⟩⟩
 ·have y:k q=none:=by
   rcases ok.2.1 q with d | d
   ·rw [d] at z; cases z
   ·exact kh.free d
  exact ol q o y (ok.1.2.1 _ _ z)
 ·unfold less at z
  split at z
  ·rename_i y; exact ol q o y z
  ·cases z
theorem PutC.one {p:Addr}{o o':HO}(ok:Okk F0 H0 F h H) (kh:Same (one p o) h):PutC F H h H0 (one p o) (one p o') F (upd H p o'):=by
 have ne:∀ q,L2.one p o q=none→q≠p:=fun q z w=>by rw [w,zS_] at z; cases z
 refine PutC.same ok kh (fun q s z=>?_) (fun q z1 z2=>z7_ (ne q z1)) fun q z1 z2=>?_
 ·unfold L2.one at z
  split at z
  ·rename_i w; unfold upd; rw [if_pos w]; exact z
  ·cases z
 ·unfold L2.one at z2
  rw [if_neg (ne q z1)] at z2
  exact absurd rfl z2
end
section
variable {K:Fgg}{E:XK}{α β γ ρ S B:Type}{F0 H0 F h H:Hp}{L:List Sl}{e:TE}{T:Ty α}{r:Mo α}{O:Own ρ}{u:TS}{LS:S→List Sl}{LB:B→List Sl}{p:Addr}{vs:List V}
end
end L2
namespace L2
open PySem PySem.Spec PyProof.Rows
section
variable {α β γ:Type}
def OwAll (O:Own α) (F:Hp):List α→List V→Hp→Prop
 | [],[],h=>∀ p,h p=none
 | x::xs,v::vs,h=>∃ h1 h2,Jn h1 h2 h∧O.O x v F h1∧OwAll O F xs vs h2
 | _,_,_=>False
variable {O:Own α}
theorem OwAll.mono:∀ {xs:List α}{vs:List V}{F F' h:Hp},Same F F'→OwAll O F xs vs h→OwAll O F' xs vs h
 | [],[],_,_,_,_,q=>q
 | x::xs,v::vs,F,F',h,g,⟨h1,h2,j,o,r⟩=>⟨h1,h2,j,O.mono g o,r.mono g⟩
 | [],_::_,_,_,_,_,q=>q.elim
 | _::_,[],_,_,_,_,q=>q.elim
theorem OwAll.imm (i:ImmO O):∀ {xs:List α}{vs:List V}{F F' h:Hp},Tups F F'→OwAll O F xs vs h→OwAll O F' xs vs h
 | [],[],_,_,_,_,q=>q
 | x::xs,v::vs,F,F',h,g,⟨h1,h2,j,o,r⟩=>⟨h1,h2,j,i g o,r.imm i g⟩
 | [],_::_,_,_,_,_,q=>q.elim
 | _::_,[],_,_,_,_,q=>q.elim
theorem OwAll.notup:∀ {xs:List α}{vs:List V}{F h:Hp},OwAll O F xs vs h→∀ p ys,h p≠some (.tup ys)
 | [],[],_,_,q,p,ys=>by rw [q p]; exact fun z=>by cases z
 | x::xs,v::vs,F,h,⟨h1,h2,j,o,r⟩,p,ys=>by
  rcases j p with ⟨_,b⟩ | ⟨_,b⟩
  ·rw [b]; exact r.notup p ys
  ·rw [b]; exact O.notup o p ys
 | [],_::_,_,_,q,_,_=>q.elim
 | _::_,[],_,_,q,_,_=>q.elim
theorem OwAll.len:∀ {xs:List α}{vs:List V}{F h:Hp},OwAll O F xs vs h→xs.length=vs.length
 | [],[],_,_,_=>rfl
 | x::xs,v::vs,F,h,⟨h1,h2,j,o,r⟩=>by rw [List.length_cons,List.length_cons,r.len]
 | [],_::_,_,_,q=>q.elim
 | _::_,[],_,_,q=>q.elim
theorem zdT_ {F h1 h:Hp}(d:Dj F h) (s:Same h1 h):Same (un F h1) (un F h):=fun p o e=>by
 unfold un at e ⊢
 cases z:F p with
 | some w=>rw [z] at e; exact e
 | none=>rw [z] at e; exact s _ _ e
theorem OwAll.prs:∀ {xs:List α}{vs:List V}{F h G:Hp},Dj F h→Same (un F h) G→OwAll O F xs vs h→Prs O.fr G xs vs
 | [],[],_,_,_,_,_,_=>.nil
 | x::xs,v::vs,F,h,G,d,g,⟨h1,h2,j,o,r⟩=>by
  have d1:Dj F h1:=fun p=>by
   rcases d p with z | z
   ·exact .inl z
   ·exact .inr (j.l.free z)
  have d2:Dj F h2:=fun p=>by
   rcases d p with z | z
   ·exact .inl z
   ·exact .inr (j.r.free z)
  exact .cons (O.fr.mono ((zdT_ d j.l).trans g) (O.frz d1 o)) (r.prs d2 ((zdT_ d j.r).trans g))
 | [],_::_,_,_,_,_,_,q=>q.elim
 | _::_,[],_,_,_,_,_,q=>q.elim
theorem zjE_ {h1 h2 h:Hp}(j:Jn h1 h2 h):Jn h2 h1 h:=fun p=>by
 rcases j p with ⟨a,b⟩ | ⟨a,b⟩
 ·exact .inr ⟨a,b⟩
 ·exact .inl ⟨a,b⟩
theorem zcZ_ {h1 h2 h12 h3 h:Hp}(j:Jn h1 h2 h12) (k:Jn h12 h3 h):∃ h23,Jn h2 h3 h23∧Jn h1 h23 h:=by
 have d:Dj h2 h3:=fun p=>by
  rcases k.dj p with z | z
  ·exact .inl (j.r.free z)
  ·exact .inr z
 refine ⟨un h2 h3,zch_ d,fun p=>?_⟩
 unfold un
 rcases k p with ⟨a,b⟩ | ⟨a,b⟩
 ·refine .inl ⟨j.l.free a,?_⟩
  rw [j.r.free a]; exact b
 ·rcases j p with ⟨c,e⟩ | ⟨c,e⟩
  ·refine .inl ⟨c,?_⟩
   rw [b,e]
   cases z:h2 p with
   | none=>exact a.symm ▸ rfl
   | some w=>rfl
  ·refine .inr ⟨?_,by rw [b,e]⟩
   rw [c]; exact a
theorem OwAll.at:∀ {xs:List α}{vs:List V}{F h:Hp}(i:Nat) {x:α},OwAll O F xs vs h→xs[i]?=some x →
  ∃ v h1 h2,vs[i]?=some v∧Jn h1 h2 h∧O.O x v F h1∧∀ x' h1' h' F3,Same F F3→O.O x' v F3 h1'→Jn h1' h2 h'→OwAll O F3 (xs.set i x') vs h'
 | [],_,_,_,_,_,_,e=>by cases e
 | x::xs,[],_,_,_,_,q,_=>q.elim
 | x::xs,v::vs,F,h,0,y,⟨h1,h2,j,o,r⟩,e=>by
  cases e
  exact ⟨v,h1,h2,rfl,j,o,fun x' h1' h' F3 g o' j'=>⟨h1',h2,j',o',r.mono g⟩⟩
 | x::xs,v::vs,F,h,i+1,y,⟨h1,h2,j,o,r⟩,e=>by
  obtain ⟨w,k1,k2,e1,j1,o1,f⟩:=OwAll.at i r (by simpa using e)
  obtain ⟨m,jm,jh⟩:=zcZ_ j1 (zjE_ j)
  refine ⟨w,k1,m,by simpa using e1,jh,o1,fun x' k1' h' F3 g o' j'=>?_⟩
  have d:Dj k1' k2:=fun p=>by
   rcases j'.dj p with z | z
   ·exact .inl z
   ·exact .inr (jm.l.free z)
  refine ⟨h1,un k1' k2,?_,O.mono g o,f x' k1' _ F3 g o' (zch_ d)⟩
  intro p
  rcases j' p with ⟨a,b⟩ | ⟨a,b⟩
  ·rcases jm p with ⟨c,e⟩ | ⟨c,e⟩
   ·right
    refine ⟨by unfold un; rw [a,c],by rw [b,e]⟩
   ·left
    refine ⟨c,by unfold un; rw [a,b,e]⟩
  ·left
   refine ⟨jm.r.free a,?_⟩
   unfold un
   rw [b]
   cases z:k1' p with
   | none=>exact (jm.l.free a).symm ▸ rfl
   | some w=>rfl
theorem OwAll.snoc:∀ {xs:List α}{vs:List V}{F h:Hp}{x:α}{v:V}{hn:Hp},OwAll O F xs vs h→O.O x v F hn→Dj h hn→OwAll O F (xs++[x]) (vs++[v]) (un h hn)
 | [],[],F,h,x,v,hn,q,o,d=>by
  refine ⟨hn,fun _=>none,fun p=>.inr ⟨rfl,?_⟩,o,fun _=>rfl⟩
  unfold un; rw [q p]
 | y::xs,w::vs,F,h,x,v,hn,⟨h1,h2,j,o1,r⟩,o,d=>by
  obtain ⟨m,jm,jh⟩:=zcZ_ j (zch_ d)
  have d2:Dj h2 hn:=jm.dj
  have e:m=un h2 hn:=by
   funext p
   unfold un
   rcases jm p with ⟨a,b⟩ | ⟨a,b⟩
   ·rw [a]; exact b
   ·rw [b]
    cases z:h2 p with
    | none=>exact a.symm ▸ rfl
    | some w=>rfl
  rw [e] at jh
  exact ⟨h1,_,jh,o1,r.snoc o d2⟩
 | [],_::_,_,_,_,_,_,q,_,_=>q.elim
 | _::_,[],_,_,_,_,_,q,_,_=>q.elim
abbrev owLO (O:Own α):Own (List α):=⟨fun xs v F h=>∃ p vs h2,v=.ref p∧Jn (one p (.lst vs)) h2 h∧OwAll O F xs vs h2,tyL O.fr,fun g ⟨p,vs,h2,e,j,q⟩=>⟨p,vs,h2,e,j,q.mono g⟩,
 fun {a v F h} d ⟨p,vs,h2,e,j,q⟩=>⟨p,vs,e,zhr_ d _ _ (j.l _ _ zS_),q.prs (fun b=>by
  rcases d b with z | z
  ·exact .inl z
  ·exact .inr (j.r.free z)) (zdT_ d j.r)⟩,
 fun ⟨p,vs,h2,e,j,q⟩ b xs y=>by
  rcases j b with ⟨_,z⟩ | ⟨_,z⟩
  ·rw [z] at y; exact q.notup b xs y
  ·rw [z] at y; unfold one at y; split at y<;>cases y⟩
theorem zs_ (i:ImmO O):ImmO (owLO O):=fun g ⟨p,vs,h2,e,j,q⟩=>⟨p,vs,h2,e,j,q.imm i g⟩
end
section
variable {K:Fgg}{E:XK}{α β γ ρ S B:Type}{F0 H0 F h H:Hp}{L:List Sl}{e te ei:TE}{T:Ty α}{r:Mo α}{Or:Own ρ}{u:TS}{LS:S→List Sl}{LB:B→List Sl}{σ:St}
def Foc (F0 H0:Hp) (σ:St) (h F1:Hp) (O':Own β) (y:β) (u:V) (LF:β→List Sl):Prop :=
 ∀ F2 H2,Same F1 F2→Okk F0 H0 F2 h H2→∃ k,O'.O y u F2 k∧Same k h ∧
  ∀ y' k' F3 H3,PutC F2 H2 h H0 k k' F3 H3→O'.O y' u F3 k'→∃ h',Hold (LF y') σ F3 h'∧Okk F0 H0 F3 h' H3
theorem zhf_ {O:Own α}{x:α}{i:Nat}(hL:Hold L σ F h) (hi:L[i]?=some (.ow O x)):∃ v,σ[i]?=some (some v)∧Foc F0 H0 σ h F O x v (fun x'=>L.set i (.ow O x')):=by
 obtain ⟨o,_,_,e1,_,⟨v,e2,_⟩,_⟩:=hL.at i hi
 subst e2
 refine ⟨v,e1,fun F2 H2 s ok=>?_⟩
 obtain ⟨v',k,e1',ho,_,kh,_,g⟩:=zhl_ (hL.mono s) hi ok
 rw [e1] at e1'; cases e1'
 refine ⟨k,ho,kh,fun y' k' F3 H3 a b=>?_⟩
 obtain ⟨h',a1,a2⟩:=g O y' v k' F3 H3 a b
 rw [za0_ e1] at a1
 exact ⟨h',a1,a2⟩
theorem Foc.part {O:Own α}{O':Own β}{F1:Hp}{y:α}{z:β}{w u:V}{LF:α→List Sl}{put:β→α}(f:Foc F0 H0 σ h F1 O y u LF)
  (pt:∀ F2 k,Same F1 F2→Same k h→O.O y u F2 k→∃ k1 k2,Jn k1 k2 k∧O'.O z w F2 k1∧∀ z' k1' k' F3,Same F2 F3→O'.O z' w F3 k1'→Jn k1' k2 k'→O.O (put z') u F3 k'):Foc F0 H0 σ h F1 O' z w (fun z'=>LF (put z')):=by
 intro F2 H2 s ok
 obtain ⟨k,ho,kh,g⟩:=f F2 H2 s ok
 obtain ⟨k1,k2,j,ho',pp⟩:=pt F2 k s kh ho
 refine ⟨k1,ho',j.l.trans kh,fun z' k1' F3 H3 P hz=>?_⟩
 have d:Dj k1' k2:=fun q=>by
  by_cases w1:k1' q=none
  ·exact .inl w1
  ·right
   by_cases w2:k1 q=none
   ·exact (j.r.trans kh).free (P.fr q w2 w1).1
   ·rcases j.dj q with y | y
    ·exact absurd y w2
    ·exact y
 have k2h:∀ {q o},k2 q=some o→k1 q=none∧H3 q=some o:=fun {q o} e=>by
  have y1:k1 q=none:=by
   rcases j.dj q with y1 | y1
   ·exact y1
   ·rw [y1] at e; cases e
  exact ⟨y1,P.ol q o (by rw [zx_ y1]; exact ok.2.2.1 _ _ (kh _ _ (j.r _ _ e)))⟩
 refine g (put z') (un k1' k2) F3 H3 ⟨P.ff,P.fh,fun q o e=>?_,(fun q a b=>(P.nw q a b).imp id fun z w=>z (j.l.free w)),fun q o e=>?_,fun q=>?_,fun q a1 a2=>?_⟩ (pp z' k1' _ F3 P.ff hz (zch_ d))
 ·unfold less at e
  split at e
  ·rename_i y; exact P.ol q o (by rw [zx_ (j.l.free y)]; exact e)
  ·cases e
 ·unfold un at e
  cases y:k1' q with
  | some s=>rw [y] at e; rw [P.kh q s y]; exact e
  | none=>rw [y] at e; exact (k2h e).2
 ·unfold un
  cases y:k1' q with
  | some s =>
   rcases P.dj q with d | d
   ·exact .inl d
   ·rw [d] at y; cases y
  | none =>
   cases e:k2 q with
   | none=>exact .inr rfl
   | some s =>
    left
    have hq:h q=some s:=kh _ _ (j.r _ _ e)
    have Fq:F2 q=none:=by
     rcases ok.2.1 q with d | d
     ·exact d
     ·rw [d] at hq; cases hq
    by_cases w3:F3 q=none
    ·exact w3
    ·rcases P.nw q Fq w3 with d | d
     ·rw [ok.2.2.1 _ _ hq] at d; cases d
     ·exact absurd (k2h e).1 d
 ·unfold un at a2
  have y2:k2 q=none:=j.r.free a1
  have y:k1' q≠none:=fun y=>by rw [y] at a2; exact a2 y2
  exact P.fr q (j.l.free a1) y
def EvPt (K:Fgg) (te:TE) (E:XK) (L:List Sl) (i:Nat) (O:Own α) (O':Own β) (r:Mo (β×(β→α))):Prop :=
 ∀ F0 H0 σ F h H (Q:VK),Hold L σ F h→Okk F0 H0 F h H→After K r E (un F h) H (fun yp G1 H1=>∀ u,Foc F0 H0 σ h (less G1 h) O' yp.1 u (fun z=>L.set i (.ow O (yp.2 z)))→Q u H1)→te σ H Q
theorem zbZ_ {O:Own α}{x:α}{i:Nat}(hi:L[i]?=some (.ow O x)):EvPt K (mVar i) E L i O O (.ok (x,fun z=>z)):=by
 intro F0 H0 σ F h H Q hL ok q
 obtain ⟨o,hs,_⟩:=ok.back (Ext.refl ok.thaw)
 obtain ⟨v,ev,fc⟩:=zhf_ (F0:=F0) (H0:=H0) (hL.mono hs) hi
 exact zb3_ ev (q.ok ok.thaw v fc)
theorem ziL_ {O:Own β}{p:Addr}{xs:List β}{n:Nat}{y:β}{vs:List V}{w:V}(hv:h p=some (.lst vs)) (hw:vs[n]?=some w) (e:xs[n]?=some y) :
  ∀ F2 k,Same k h→(owLO O).O xs (.ref p) F2 k→∃ k1 k2,Jn k1 k2 k∧O.O y w F2 k1∧∀ y' k1' k' F3,Same F2 F3→O.O y' w F3 k1'→Jn k1' k2 k'→(owLO O).O (xs.set n y') (.ref p) F3 k':=by
 rintro F2 k kh ⟨p',vs',k2,ep,j,all⟩
 cases ep
 have ev:vs'=vs:=by
  have:=kh _ _ (j.l _ _ zS_)
  rw [hv] at this
  injection this with this
  injection this with this
  exact this.symm
 subst ev
 obtain ⟨w',a1,a2,e1,j1,o1,f⟩:=all.at n e
 rw [hw] at e1; cases e1
 obtain ⟨m,jm,jk⟩:=zcZ_ j1 (zjE_ j)
 refine ⟨a1,m,jk,o1,fun y' k1' k' F3 g o' j'=>?_⟩
 have d:Dj k1' a2:=fun q=>by
  rcases j'.dj q with z | z
  ·exact .inl z
  ·exact .inr (jm.l.free z)
 refine ⟨p,vs',un k1' a2,rfl,?_,f y' k1' _ F3 g o' (zch_ d)⟩
 intro q
 rcases j' q with ⟨a,b⟩ | ⟨a,b⟩
 ·rcases jm q with ⟨c,e⟩ | ⟨c,e⟩
  ·right
   refine ⟨by unfold un; rw [a,c],by rw [b,e]⟩
  ·left
   refine ⟨c,by unfold un; rw [a,b,e]⟩
 ·left
  refine ⟨jm.r.free a,?_⟩
  unfold un
  rw [b]
  cases z:k1' q with
  | none=>exact (jm.l.free a).symm ▸ rfl
  | some w=>rfl
theorem zed_ {G1 G2 h:Hp}(s:Same G1 G2):Same (less G1 h) (less G2 h):=fun p o e=>by
 unfold less at e ⊢
 split at e
 ·exact s _ _ e
 ·cases e
theorem zqr_ {O:Own α}{O':Own β}{i:Nat}{r:Mo (List β×(List β→α))}{rj:Mo Int}(hp:EvPt K te E L i O (owLO O') r) (hj:EvF K ei E L rj tyInt) :
  EvPt K (tOp (mIx K) te ei) E L i O O' (r.bind fun yp=>rj.bind fun j=>(Mo.opt (ixN yp.1.length j)).bind fun n=>(Mo.opt (yp.1[n]?)).bind fun z=>.ok (z,fun z'=>yp.2 (yp.1.set n z'))):=by
 intro F0 H0 σ F h H Q hL ok q
 refine hp F0 H0 σ F h H _ hL ok (q.bind.imp fun yp G1 H1 x1 k1 u fc=>?_)
 refine hj σ G1 H1 _ ((hL.froz ok.2.1).mono x1.1) x1.2.1 (k1.bind.imp fun j G2 H2 x2 k2 v2 hv2=>?_)
 cases hv2
 obtain ⟨n,en,k3⟩:=k2.bind.opt
 obtain ⟨z,ez,k4⟩:=(k3.ok x2.2.1).bind.opt
 have k5:=(k4.ok x2.2.1).ok x2.2.1
 obtain ⟨o2,_,_⟩:=ok.back (x1.trans x2)
 obtain ⟨k,⟨p,vs,m,rfl,jn,all⟩,kh,_⟩:=fc (less G2 h) H2 (zed_ x2.1) o2
 have hp1:h p=some (.lst vs):=kh _ _ (jn.l _ _ zS_)
 refine ⟨vs,.inl (.of (o2.2.2.1 _ _ hp1)),?_⟩
 have hl:=all.len
 have hn:=zi0_ en
 have hw:vs[n]?=some vs[n]:=List.getElem?_eq_getElem (by lia)
 have en':ixN vs.length j=some n:=by rw [← hl]; exact en
 have ea:atI vs j=some vs[n]:=by unfold atI; rw [en']; exact hw
 rw [ea]
 refine k5 _ (Foc.part (O:=owLO O') (y:=yp.1) (put:=fun z'=>yp.1.set n z') (LF:=fun y'=>L.set i (.ow O (yp.2 y'))) (u:=.ref p) (fun F2 H3 s ok=>fc F2 H3 ((zed_ x2.1).trans s) ok) fun F2 k s kh ho=>?_)
 exact ziL_ hp1 hw ez F2 k kh ho
theorem zk8_ {O:Own β}{i:Nat}{r0:Mo (List α×(List α→β))}{k:β→Mo (Out ρ B S)}(hp:EvPt K te E L i O (owL T) r0) (hT:Imm T) (he:EvF K e E L r T) (hk:∀ x',EvS K u E (L.set i (.ow O x')) (k x') LS LB Or) :
  EvS K (tSeq (tDrop (tBM K "list" rAppend te (tCons e tNil))) u) E L (r0.bind fun yp=>r.bind fun a=>.lim (yp.1.length+1) (k (yp.2 (yp.1++[a])))) LS LB Or:=by
 intro F0 H0 σ F h H D hL ok fin
 show te σ H fun x H1=>tyV K "list" x H1∧tCons e tNil σ H1 fun xs H2=>rAppend x xs H2 (fun _ H3=>u D σ H3)
 refine hp F0 H0 σ F h H _ hL ok (zad_ (G:=F) ok _ (.inl rfl) fin fun yp G1 H1 hr0 x1 u0 fc=>?_)
 obtain ⟨o1,hs1,_⟩:=ok.back x1
 rw [hr0] at fin
 obtain ⟨k0,⟨p,vs,rfl,rfl,_⟩,kh,_⟩:=fc _ H1 (Same.refl _) o1
 have hp0:h p=some (.lst vs):=kh _ _ zS_
 refine ⟨.inl ⟨rfl,vs,.of (o1.2.2.1 _ _ hp0)⟩,?_⟩
 refine he σ (un (less G1 h) h) H1 _ ((hL.mono hs1).froz o1.2.1) o1.thaw (zad_ (G:=F) o1 _ (.inl rfl) fin fun a G2 H2 hra x2 v hv=>?_)
 obtain ⟨o2,hs2,ht2⟩:=o1.back x2
 rw [hra] at fin
 obtain ⟨hz,fin⟩:=zdN_ (show Fin K (Mo.lim (yp.1.length+1) (k (yp.2 (yp.1++[a])))) E LS LB Or F0 H0 D from fin)
 obtain ⟨k1,⟨p',vs',e',rfl,pr⟩,kh',g⟩:=fc _ H2 hs2 o2
 cases e'
 have ev:vs'=vs:=by
  have:=kh' _ _ zS_
  rw [hp0] at this
  injection this with this
  injection this with this
  exact this.symm
 subst ev
 obtain ⟨h',a1,a2⟩:=g (yp.1++[a]) (one p (.lst (vs'++[v]))) _ (upd H2 p (.lst (vs'++[v]))) (PutC.one o2 kh') ⟨p,_,rfl,rfl,pr.append (.cons (hT ht2 hv) .nil)⟩
 exact ⟨p,vs',v,rfl,rfl,o2.2.2.1 _ _ hp0,by rw [← pr.len]; lia,hk _ F0 H0 σ _ h' _ D a1 a2 fin⟩
end
end L2
namespace L2
open PySem PySem.Spec PyProof.Rows
def mFld (C:Addr) (te:TE) (f:Str):TE:=fun σ H Q=>te σ H fun x H1=>match x with
 | .ref a=>∃ dx fs v,H1 a=some (.ins C dx fs)∧fs.lookup f=some v∧Q v H1
 | _=>False
def mSFld (C:Addr) (te tv:TE) (f:Str):TS:=fun D σ H=>tv σ H fun y H1=>te σ H1 fun x H2=>match x with
 | .ref a=>∃ dx fs,H2 a=some (.ins C dx fs)∧fs.length<1000∧D.nx σ (upd H2 a (.ins C dx (putF f y fs)))
 | _=>False
def Gm (P:Program) (w:World) (K:Fgg) (mg:Str→Option Value) (base:Heap) (CX:CXT) (k:Nat) (C:Addr) (m:Str) (ps:List Str) (sp:Sp):Prop :=
 ∃ f fd,FnOk P w K mg base CX k f fd ps sp∧Cls K C∧Meth K C m f∧Binds K fd ps []
def Gk (P:Program) (w:World) (K:Fgg) (mg:Str→Option Value) (base:Heap) (CX:CXT) (k:Nat) (x:Str) (C:Addr) (ps:List Str) (sp:Sp):Prop :=
 ∃ f fd,FnOk P w K mg base CX k f fd ps sp∧Mk K C f∧mg x=some (.ref C)∧Binds K fd ps []
section
variable {X:Cx}{e value o:Expr}{es:List Expr}{f m x:Str}{p pos pos' apos:Pos}{ta tv:TE}{t:TA}{C:Addr}{k:Nat}{ps:List Str}{sp:Sp}
theorem zJ_ (c:Cls X.K C) (n:NoAttr X.K C f) (he:PE X e ta) (hb:attributeBase e f X.env (eval e X.env)=eval e X.env:=by rfl):PE X (.Attribute e f pos) (mFld C ta f):=by
 intro pins s σ H Q I h
 refine znX_ hb (thn (he pins s σ H _ I h) fun u s1 hq_=>?_)
 obtain ⟨x,H1,I1,rx,q1⟩:=hq_
 cases x with
 | ref a =>
  obtain ⟨dx,fs,v,ea,l,q⟩:=q1
  obtain rfl:u=Value.ref a:=rx
  exact zj8_ I1 ea c n l fun u' s2 I2 ru=>⟨v,H1,I2,ru,q⟩
 | _=>exact q1.elim
theorem zaF_ (c:Cls X.K C) (n:NoAttr X.K C f) (ha:PE X o ta) (hv:PE X value tv) (hs:swapsWith value (some (.Attribute o f pos')) pos.line X.env=pure false:=by rfl):PS X (.Assign [.Attribute o f pos'] value pos) (mSFld C ta tv f):=by
 intro pins s σ H D I h
 refine plainObj_wpAny_Assign_Attribute (thn (hv pins s σ H _ I h) fun u s1 ⟨y,H1,I1,ry,q⟩=>thn (ha pins s1 σ H1 _ I1 q) fun ov s2 hq_=>?_) hs
 obtain ⟨x,H2,I2,rx,q2⟩:=hq_
 cases x with
 | ref a =>
  obtain ⟨dx,fs,ea,l,q3⟩:=q2
  obtain rfl:ov=Value.ref a:=rx
  exact ziP_ I2 ea c n l ry fun s3 I3=>⟨σ,_,I3,q3⟩
 | _=>exact q2.elim
theorem zaM_ {pl:Sem Bool}(G:Gm X.prog X.w X.K X.mg X.base CX0 k C m ps sp) (hr:Room k X.A) (he:PE X o ta) (ha:PA X (e::es) t)
  (hst:starEach (e::es) X.env=(false,eval e X.env)::starEach es X.env:=by rfl) (hpl:(backTo pos (starEach es X.env)).any (·.1)=false:=by rfl)
  (ht:eval (.Call (.Attribute o m apos) (e::es) [] pos) X.env=(do
   let ov ← eval o X.env
   standAt apos.atName
   let (f,first) ← holding [ov] (getMethod ov m pl)
   callWith pos f first (backTo pos (starEach (e::es) X.env)) (backToKw pos (keywordEach [] X.env))):=by rfl) :
  PE X (.Call (.Attribute o m apos) (e::es) [] pos) (tMeth C m sp [] E0 ta t):=by
 obtain ⟨f,fd,F,c,hm,hb⟩:=G
 exact zoz_ he c hm F hr hb .nil pass0 ha hst hpl ht
theorem z2_ {pl:Sem Bool}(G:Gm X.prog X.w X.K X.mg X.base CX0 k C m ps sp) (hr:Room k X.A) (he:PE X o ta)
  (ht:eval (.Call (.Attribute o m apos) [] [] pos) X.env=(do
   let ov ← eval o X.env
   standAt apos.atName
   let (f,first) ← holding [ov] (getMethod ov m pl)
   callWith pos f first (backTo pos (starEach [] X.env)) (backToKw pos (keywordEach [] X.env))):=by rfl) :
  PE X (.Call (.Attribute o m apos) [] [] pos) (tMeth C m sp [] E0 ta tNil):=by
 obtain ⟨f,fd,F,c,hm,hb⟩:=G
 exact zne_ he c hm F hr hb .nil pass0 ht
theorem ze2_ (G:Gk X.prog X.w X.K X.mg X.base CX0 k x C ps sp) (hr:Room (k+1) X.A) (ha:PA X (e::es) t) (hg:Gl X x:=by rfl) (hdb:(x == ("__debug__" : Str))=false:=by decide)
  (he:starEach (e::es) X.env=(false,eval e X.env)::starEach es X.env:=by rfl) (hpl:(backTo pos (starEach es X.env)).any (·.1)=false:=by rfl) :
  PE X (.Call (.Name x p) (e::es) [] pos) (tMake C sp [] E0 t):=by
 obtain ⟨f,fd,F,M,hm,hb⟩:=G
 exact zoH_ M F hr hg hm hb .nil pass0 ha hdb he hpl
end
theorem zct_:∀ {ns:List Str}{vs:List V}{i:Nat}{f:Str}{v:V},ns.Nodup→ns[i]?=some f→vs[i]?=some v→(ns.zip vs).lookup f=some v
 | [],_,_,_,_,_,h,_=>by simp at h
 | n::ns,[],_,_,_,_,_,h=>by simp at h
 | n::ns,w::vs,0,f,v,_,h,h'=>by
  simp at h h'; subst h h'
  rw [List.zip_cons_cons,List.lookup_cons,beq_self_eq_true]
 | n::ns,w::vs,i+1,f,v,nd,h,h'=>by
  obtain ⟨h1,h2⟩:=List.nodup_cons.mp nd
  have hf:ns[i]?=some f:=by simpa using h
  have hne:(f == n)=false:=beq_eq_false_iff_ne.mpr fun z=>h1 (z ▸ List.mem_of_getElem? hf)
  rw [List.zip_cons_cons,List.lookup_cons,hne]
  exact zct_ h2 hf (by simpa using h')
theorem zaG_:∀ {ns:List Str}{vs:List V}{f:Str},f∉ns→(ns.zip vs).lookup f=none
 | [],_,_,_=>rfl
 | n::ns,[],_,_=>rfl
 | n::ns,w::vs,f,h=>by
  have hne:(f == n)=false:=beq_eq_false_iff_ne.mpr fun z=>h (z ▸ List.mem_cons_self ..)
  rw [List.zip_cons_cons,List.lookup_cons,hne]
  exact zaG_ fun z=>h (List.mem_cons_of_mem _ z)
theorem zgS_:∀ {ns:List Str}{vs:List V}{i:Nat}{f:Str}(v:V),ns.Nodup→ns[i]?=some f→i<vs.length→putF f v (ns.zip vs)=ns.zip (vs.set i v)
 | [],_,_,_,_,_,h,_=>by simp at h
 | n::ns,[],_,_,_,_,_,h=>by simp at h
 | n::ns,w::vs,0,f,v,_,h,_=>by
  simp at h; subst h
  rw [List.zip_cons_cons,putF,if_pos rfl]; rfl
 | n::ns,w::vs,i+1,f,v,nd,h,h'=>by
  obtain ⟨h1,h2⟩:=List.nodup_cons.mp nd
  have hf:ns[i]?=some f:=by simpa using h
  have hne:¬ n=f:=fun z=>h1 (z ▸ List.mem_of_getElem? hf)
  rw [List.zip_cons_cons,putF,if_neg hne,zgS_ v h2 hf (by simpa using h')]; rfl
theorem zho_:∀ {ns:List Str}{vs:List V}{f:Str}(v:V),f∉ns→vs.length=ns.length→putF f v (ns.zip vs)=(ns++[f]).zip (vs++[v])
 | [],[],f,v,_,_=>rfl
 | [],_::_,_,_,_,h=>by simp at h
 | _::_,[],_,_,_,h=>by simp at h
 | n::ns,w::vs,f,v,h,hl=>by
  have hne:¬ n=f:=fun z=>h (z ▸ List.mem_cons_self ..)
  rw [List.zip_cons_cons,putF,if_neg hne,zho_ v (fun z=>h (List.mem_cons_of_mem _ z)) (by simpa using hl)]; rfl
theorem zjV_:∀ {ns:List Str}{vs us:List V},vs.length=ns.length→us.length=ns.length→ns.zip vs=ns.zip us→vs=us
 | [],[],[],_,_,_=>rfl
 | n::ns,v::vs,u::us,h1,h2,e=>by
  rw [List.zip_cons_cons,List.zip_cons_cons] at e
  injection e with e1 e2
  injection e1 with _ e1
  rw [e1,zjV_ (by simpa using h1) (by simpa using h2) e2]
 | [],_::_,_,h,_,_=>by simp at h
 | [],[],_::_,_,h,_=>by simp at h
 | _::_,[],_,h,_,_=>by simp at h
 | _::_,_::_,[],_,h,_=>by simp at h
structure Ps (γ:Type) where
 P:γ→List V→Hp→Hp→Prop
 fr:Cs γ
 mono:∀ {c vs F F' h},Same F F'→P c vs F h→P c vs F' h
 frz:∀ {c vs F h},Dj F h→P c vs F h→fr.R c vs (un F h)
 notup:∀ {c vs F h},P c vs F h→∀ p xs,h p≠some (.tup xs)
section
variable {α β γ:Type}
theorem dj_l {F h1 h2 h:Hp}(d:Dj F h) (j:Jn h1 h2 h):Dj F h1:=fun p=>by
 rcases d p with z | z
 ·exact .inl z
 ·exact .inr (j.l.free z)
theorem dj_r {F h1 h2 h:Hp}(d:Dj F h) (j:Jn h1 h2 h):Dj F h2:=fun p=>by
 rcases d p with z | z
 ·exact .inl z
 ·exact .inr (j.r.free z)
abbrev psNil:Ps Unit:=⟨fun _ vs _ h=>vs=[]∧∀ p,h p=none,csNil,fun _ q=>q,fun _ q=>q.1,fun q p xs z=>by rw [q.2 p] at z; cases z⟩
abbrev psO (O:Own α) (P:Ps γ):Ps (α×γ):=⟨fun c vs F h=>∃ v us h1 h2,vs=v::us∧Jn h1 h2 h∧O.O c.1 v F h1∧P.P c.2 us F h2,csCons O.fr P.fr,
 fun g ⟨v,us,h1,h2,e,j,a,b⟩=>⟨v,us,h1,h2,e,j,O.mono g a,P.mono g b⟩,
 fun d ⟨v,us,h1,h2,e,j,a,b⟩=>⟨v,us,e,O.fr.mono (zdT_ d j.l) (O.frz (dj_l d j) a),P.fr.mono (zdT_ d j.r) (P.frz (dj_r d j) b)⟩,
 fun ⟨v,us,h1,h2,e,j,a,b⟩ p xs z=>by
  rcases j p with ⟨_,y⟩ | ⟨_,y⟩
  ·rw [y] at z; exact P.notup b p xs z
  ·rw [y] at z; exact O.notup a p xs z⟩
def two (p dx:Addr) (o:HO):Hp:=fun q=>if q=p then some o else if q=dx then some (.own p) else none
theorem zf8_ {p dx:Addr}{o:HO}:two p dx o p=some o:=if_pos rfl
theorem zma_ {p dx:Addr}{o:HO}(h:dx≠p):two p dx o dx=some (.own p):=by unfold two; rw [if_neg h,if_pos rfl]
theorem zom_ {p dx q:Addr}{o:HO}(h:two p dx o q=none):q≠p∧q≠dx:=by
 refine ⟨fun e=>?_,fun e=>?_⟩
 ·rw [e,zf8_] at h; cases h
 ·unfold two at h; split at h
  ·cases h
  ·first | cases h | (rw [if_pos e] at h; cases h)
abbrev tyI (C:Addr) (ns:List Str) (Q:Cs γ):Ty γ:=⟨fun c v H=>∃ p dx vs,v=.ref p∧H p=some (.ins C dx (ns.zip vs))∧vs.length=ns.length∧Q.R c vs H,fun g ⟨p,dx,vs,e,h,l,q⟩=>⟨p,dx,vs,e,g _ _ h,l,Q.mono g q⟩⟩
abbrev owI (C:Addr) (ns:List Str) (P:Ps γ):Own γ:=⟨fun c v F h=>∃ p dx vs k,v=.ref p∧dx≠p∧Jn (two p dx (.ins C dx (ns.zip vs))) k h∧vs.length=ns.length∧P.P c vs F k,tyI C ns P.fr,
 fun g ⟨p,dx,vs,k,e,n,j,l,q⟩=>⟨p,dx,vs,k,e,n,j,l,P.mono g q⟩,
 fun d ⟨p,dx,vs,k,e,n,j,l,q⟩=>⟨p,dx,vs,e,zhr_ d _ _ (j.l _ _ zf8_),l,P.fr.mono (zdT_ d j.r) (P.frz (dj_r d j) q)⟩,
 fun ⟨p,dx,vs,k,e,n,j,l,q⟩ b xs y=>by
  rcases j b with ⟨_,z⟩ | ⟨_,z⟩
  ·rw [z] at y; exact P.notup q b xs y
  ·rw [z] at y; unfold two at y; split at y
   ·cases y
   ·split at y<;>cases y⟩
abbrev owAt (u:V) (O:Own α):Own α:=⟨fun a v F h=>v=u∧O.O a v F h,O.fr,fun g q=>⟨q.1,O.mono g q.2⟩,fun d q=>O.frz d q.2,fun q=>O.notup q.2⟩
def PsAt (P:Ps γ) (n:Nat) (O:Own β) (pr:γ→β) (st:γ→β→γ):Prop:=∀ {c vs F h},P.P c vs F h→∃ v h1 h2,vs[n]?=some v∧Jn h1 h2 h∧O.O (pr c) v F h1∧∀ z' h1' h' F3,Same F F3→O.O z' v F3 h1'→Jn h1' h2 h'→P.P (st c z') vs F3 h'
theorem zle_ {O:Own β}{P:Ps γ}:PsAt (psO O P) 0 O (fun c=>c.1) (fun c z=>(z,c.2)):=fun ⟨v,us,h1,h2,e,j,a,b⟩=>by
 subst e
 exact ⟨v,h1,h2,rfl,j,a,fun z' h1' h' F3 g o' j'=>⟨v,us,h1',h2,rfl,j',o',P.mono g b⟩⟩
theorem zo9_ {b t m a h:Hp}(jm:Jn b t m) (j:Jn a m h):Jn t (un a b) h:=fun q=>by
 rcases j q with ⟨x,y⟩ | ⟨x,y⟩
 ·rcases jm q with ⟨c,e⟩ | ⟨c,e⟩
  ·right
   refine ⟨by unfold un; rw [x,c],by rw [y,e]⟩
  ·left
   refine ⟨c,by unfold un; rw [x,y,e]⟩
 ·left
  refine ⟨jm.r.free x,?_⟩
  unfold un
  rw [y]
  cases z:a q with
  | none=>exact (jm.l.free x).symm ▸ rfl
  | some w=>rfl
theorem zo8_ {a b t m h:Hp}(jm:Jn b t m) (j:Jn a m h):Dj a b:=fun q=>by
 rcases j.dj q with z | z
 ·exact .inl z
 ·exact .inr (jm.l.free z)
theorem ze3_ {O:Own α}{O':Own β}{P:Ps γ}{n:Nat}{pr:γ→β}{st:γ→β→γ}(h:PsAt P n O' pr st):PsAt (psO O P) (n+1) O' (fun c=>pr c.2) (fun c z=>(c.1,st c.2 z)):=fun ⟨v,us,h1,h2,e,j,a,b⟩=>by
 subst e
 obtain ⟨w,k1,k2,e1,j1,o1,f⟩:=h b
 obtain ⟨m,jm,jh⟩:=zcZ_ j1 (zjE_ j)
 refine ⟨w,k1,m,by simpa using e1,jh,o1,fun z' k1' h' F3 g o' j'=>?_⟩
 exact ⟨v,us,h1,un k1' k2,rfl,zo9_ jm j',O.mono g a,f z' k1' _ F3 g o' (zch_ (zo8_ jm j'))⟩
def PsPut (P:Ps γ) (n:Nat) (O:Own β) (st:γ→β→γ):Prop:=∀ {c vs F h},P.P c vs F h→n<vs.length∧∃ h2,Same h2 h∧∀ z' v' h1' h' F3,Same F F3→O.O z' v' F3 h1'→Jn h1' h2 h'→P.P (st c z') (vs.set n v') F3 h'
theorem ziw_ {O:Own β}{P:Ps γ}:PsPut (psO O P) 0 O (fun c z=>(z,c.2)):=fun ⟨v,us,h1,h2,e,j,a,b⟩=>by
 subst e
 exact ⟨by simp,h2,j.r,fun z' v' h1' h' F3 g o' j'=>⟨v',us,h1',h2,rfl,j',o',P.mono g b⟩⟩
theorem zdc_ {O:Own α}{O':Own β}{P:Ps γ}{n:Nat}{st:γ→β→γ}(h:PsPut P n O' st):PsPut (psO O P) (n+1) O' (fun c z=>(c.1,st c.2 z)):=fun ⟨v,us,h1,h2,e,j,a,b⟩=>by
 subst e
 obtain ⟨hn,k2,ks,f⟩:=h b
 have d:Dj k2 h1:=fun q=>by
  rcases j.dj q with z | z
  ·exact .inr z
  ·exact .inl (ks.free z)
 refine ⟨by simpa using hn,un k2 h1,fun q o z=>?_,fun z' v' k1' h' F3 g o' j'=>?_⟩
 ·unfold un at z
  cases y:k2 q with
  | some w=>rw [y] at z; rw [← z]; exact j.r _ _ (ks _ _ y)
  | none=>rw [y] at z; exact j.l _ _ z
 ·exact ⟨v,us.set n v',h1,un k1' k2,rfl,zo9_ (zch_ d) j',O.mono g a,f z' v' k1' _ F3 g o' (zch_ (zo8_ (zch_ d) j'))⟩
def PsAdd (P:Ps γ) (O:Own β) {δ:Type}(P':Ps δ) (ad:γ→β→δ):Prop:=∀ {c vs F h},P.P c vs F h→∀ z v' h1' h' F3,Same F F3→O.O z v' F3 h1'→Jn h1' h h'→P'.P (ad c z) (vs++[v']) F3 h'
theorem zc6_ {O:Own β}:PsAdd psNil O (psO O psNil) (fun _ z=>(z,())):=fun q z v' h1' h' F3 g o' j'=>by
 rw [q.1]
 exact ⟨v',[],h1',_,rfl,j',o',rfl,q.2⟩
theorem zaY_ {O:Own α}{O':Own β}{P:Ps γ}{δ:Type}{P':Ps δ}{ad:γ→β→δ}(h:PsAdd P O' P' ad):PsAdd (psO O P) O' (psO O P') (fun c z=>(c.1,ad c.2 z)):=fun ⟨v,us,h1,h2,e,j,a,b⟩ z v' k1' h' F3 g o' j'=>by
 subst e
 have jm:Jn h2 h1 _:=zjE_ j
 exact ⟨v,us++[v'],h1,un k1' h2,rfl,zo9_ jm j',O.mono g a,h b z v' k1' _ F3 g o' (zch_ (zo8_ jm j'))⟩
end
section
variable {K:Fgg}{E:XK}{α β γ δ ρ S B:Type}{F0 H0 F h H:Hp}{L:List Sl}{e te ei:TE}{T:Ty α}{r:Mo α}{Or:Own ρ}{u:TS}{LS:S→List Sl}{LB:B→List Sl}{σ:St}{C:Addr}{ns:List Str}{f:Str}{i n:Nat}
theorem za8_ {Q:Cs γ}{pr:γ→α}{r:Mo γ}(nd:ns.Nodup) (hf:ns[n]?=some f) (ha:CsAt Q n T pr) (he:EvF K te E L r (tyI C ns Q)):EvF K (mFld C te f) E L (r.bind fun c=>.ok (pr c)) T:=by
 intro σ F H R hL hs q
 refine he σ F H _ hL hs (q.bind.imp fun c F1 H1 x1 k1 v hq_=>?_)
 obtain ⟨p,dx,vs,e,hp,hl,hc⟩:=hq_
 subst e
 obtain ⟨w,ew,rw'⟩:=ha hc
 exact ⟨dx,_,w,x1.2.1 _ _ hp,zct_ nd hf ew,k1.ok x1.2.1 w rw'⟩
theorem zet_ {O:Own α}{O':Own β}{w:V}{r:Mo (β×(β→α))}(hp:EvPt K te E L i O (owAt w O') r):EvPt K te E L i O O' r:=by
 intro F0 H0 σ F h H Q hL ok q
 refine hp F0 H0 σ F h H _ hL ok (q.imp fun yp G1 H1 x1 k1 u fc=>k1 u fun F2 H2 s o2=>?_)
 obtain ⟨k,⟨e,ho⟩,kh,g⟩:=fc F2 H2 s o2
 exact ⟨k,ho,kh,fun y' k' F3 H3 P hy=>g y' k' F3 H3 P ⟨e,hy⟩⟩
theorem zl3_ {P:Ps γ}{O':Own β}{pr:γ→β}{st:γ→β→γ}{p dx:Addr}{vs:List V}{w:V}{c:γ}(pa:PsAt P n O' pr st) (hv:h p=some (.ins C dx (ns.zip vs))) (hl:vs.length=ns.length) (hw:vs[n]?=some w) :
  ∀ F2 k,Same k h→(owI C ns P).O c (.ref p) F2 k→∃ k1 k2,Jn k1 k2 k∧O'.O (pr c) w F2 k1∧∀ y' k1' k' F3,Same F2 F3→O'.O y' w F3 k1'→Jn k1' k2 k'→(owI C ns P).O (st c y') (.ref p) F3 k':=by
 rintro F2 k kh ⟨p',dx',vs',m,ep,ndx,j,hl',ps⟩
 cases ep
 have ev:=kh _ _ (j.l _ _ zf8_)
 rw [hv] at ev
 injection ev with ev
 injection ev with _ e1 e2
 subst e1
 have ev:=zjV_ hl hl' e2
 subst ev
 obtain ⟨w',a1,a2,e3,j1,o1,g⟩:=pa ps
 rw [hw] at e3; cases e3
 obtain ⟨mm,jm,jk⟩:=zcZ_ j1 (zjE_ j)
 refine ⟨a1,mm,jk,o1,fun y' k1' k' F3 s o' j'=>?_⟩
 exact ⟨p,dx,vs,un k1' a2,rfl,ndx,zo9_ jm j',hl,g y' k1' _ F3 s o' (zch_ (zo8_ jm j'))⟩
theorem ziJ_ {O:Own α}{P:Ps γ}{O':Own β}{pr:γ→β}{st:γ→β→γ}{r:Mo (γ×(γ→α))}(nd:ns.Nodup) (hf:ns[n]?=some f) (pa:PsAt P n O' pr st) (hp:EvPt K te E L i O (owI C ns P) r) :
  EvPt K (mFld C te f) E L i O O' (r.bind fun yp=>.ok (pr yp.1,fun z'=>yp.2 (st yp.1 z'))):=by
 intro F0 H0 σ F h H Q hL ok q
 refine hp F0 H0 σ F h H _ hL ok (q.bind.imp fun yp G1 H1 x1 k1 u fc=>?_)
 obtain ⟨o1,_,_⟩:=ok.back x1
 obtain ⟨k,⟨p,dx,vs,m,rfl,ndx,jn,hl,ps⟩,kh,_⟩:=fc _ H1 (Same.refl _) o1
 have hp1:h p=some (.ins C dx (ns.zip vs)):=kh _ _ (jn.l _ _ zf8_)
 obtain ⟨w,_,_,ew,_⟩:=pa ps
 refine ⟨dx,_,w,o1.2.2.1 _ _ hp1,zct_ nd hf ew,?_⟩
 exact k1.ok x1.2.1 w (Foc.part (put:=st yp.1) (LF:=fun y'=>L.set i (.ow O (yp.2 y'))) fc fun F2 k s kh ho=>zl3_ pa hp1 hl ew F2 k kh ho)
theorem zhM_ {p dx:Addr}{o o':HO}{m h2 hn:Hp}{k:Hp}(ok:Okk F0 H0 F h H) (kh:Same k h) (ndx:dx≠p) (jn:Jn (two p dx o) m k) (h2m:Same h2 m) (fresh:∀ q,hn q≠none→F q=none∧h q=none∧H0 q=none) (hs:Same hn H) (dn:Dj hn h2) :
  Jn (two p dx o') (un hn h2) (un (two p dx o') (un hn h2))∧PutC F H h H0 k (un (two p dx o') (un hn h2)) F (upd H p o'):=by
 have hnk:∀ q,hn q≠none→k q=none:=fun q z=>kh.free (fresh q z).2.1
 have kp:k p=some o:=jn.l _ _ zf8_
 have kdx:k dx=some (.own p):=jn.l _ _ (zma_ ndx)
 have m0:∀ q,two p dx o q≠none→m q=none:=fun q z=>by
  rcases jn.dj q with y | y
  ·exact absurd y z
  ·exact y
 have two_ne:∀ {o:HO}{q},two p dx o q≠none→q=p∨q=dx:=fun {o q} z=>by
  by_cases a:q=p
  ·exact .inl a
  ·by_cases b:q=dx
   ·exact .inr b
   ·exact absurd (by unfold two; rw [if_neg a,if_neg b]) z
 have dj:Dj (two p dx o') (un hn h2):=fun q=>by
  by_cases z:two p dx o' q=none
  ·exact .inl z
  ·right
   have kq:k q≠none:=by
    rcases two_ne z with e | e
    ·rw [e,kp]; exact Option.some_ne_none _
    ·rw [e,kdx]; exact Option.some_ne_none _
   have hq:hn q=none:=by
    by_cases y:hn q=none
    ·exact y
    ·exact absurd (hnk q y) kq
   have mq:m q=none:=m0 q (by
    rcases two_ne z with e | e
    ·rw [e,zf8_]; exact Option.some_ne_none _
    ·rw [e,zma_ ndx]; exact Option.some_ne_none _)
   unfold un; rw [hq]; exact h2m.free mq
 refine ⟨zch_ dj,PutC.same ok kh (fun q s z=>?_) (fun q z1 z2=>z7_ fun e=>?_) fun q z1 z2=>?_⟩
 ·unfold un at z
  cases y:two p dx o' q with
  | some w =>
   rw [y] at z
   by_cases e:q=p
   ·rw [e,zf8_] at y; rw [e,zaC_,y]; exact z
   ·rw [z7_ e]
    have e2:q=dx:=by
     rcases two_ne (o:=o') (q:=q) (by rw [y]; exact Option.some_ne_none _) with a | a
     ·exact absurd a e
     ·exact a
    rw [e2,zma_ ndx] at y
    rw [← z,← y,e2]; exact ok.2.2.1 _ _ (kh _ _ kdx)
  | none =>
   rw [y] at z
   have e:=(zom_ y).1
   rw [z7_ e]
   cases x:hn q with
   | some w=>rw [x] at z; rw [← z]; exact hs _ _ x
   | none=>rw [x] at z; exact ok.2.2.1 _ _ (kh _ _ (jn.r _ _ (h2m _ _ z)))
 ·rw [e,kp] at z1; cases z1
 ·have e1:two p dx o' q=none:=by
   by_cases y:two p dx o' q=none
   ·exact y
   ·rcases two_ne y with e | e
    ·rw [e,kp] at z1; cases z1
    ·rw [e,kdx] at z1; cases z1
  have e2:h2 q=none:=h2m.free (jn.r.free z1)
  have eu:un (two p dx o') (un hn h2) q=hn q:=by
   unfold un; rw [e1]
   cases x:hn q with
   | some w=>rfl
   | none=>exact e2
  rw [eu] at z2 ⊢
  obtain ⟨a,b,c⟩:=fresh q z2
  refine ⟨a,b,c,?_⟩
  cases x:hn q with
  | none=>exact absurd x z2
  | some w=>exact hs _ _ x
theorem zp5_ {O:Own β}{P:Ps γ}{st:γ→α→γ}{r0:Mo (γ×(γ→β))}{k:β→Mo (Out ρ B S)}(nd:ns.Nodup) (hf:ns[n]?=some f) (hsm:ns.length<1000) (pp:PsPut P n (owF T) st) (hT:Imm T) (he:EvF K e E L r T) (hp:EvPt K te E L i O (owI C ns P) r0) (hk:∀ x',EvS K u E (L.set i (.ow O x')) (k x') LS LB Or) :
  EvS K (tSeq (mSFld C te e f) u) E L (r.bind fun a=>r0.bind fun yp=>k (yp.2 (st yp.1 a))) LS LB Or:=by
 intro F0 H0 σ F h H D hL ok fin
 refine he σ (un F h) H _ (hL.froz ok.2.1) ok.thaw (zad_ (G:=F) ok _ (.inl rfl) fin fun a F' H' hra x v hv=>?_)
 obtain ⟨o,hs,ht⟩:=ok.back x
 rw [hra] at fin
 refine hp F0 H0 σ (less F' h) h H' _ (hL.mono hs) o (zad_ (G:=F) o _ (.inl rfl) fin fun yp G1 H1 hr0 x1 u0 fc=>?_)
 obtain ⟨o1,hs1,_⟩:=o.back x1
 rw [hr0] at fin
 obtain ⟨k0,⟨p,dx,vs,m,rfl,ndx,jn,hl,ps⟩,kh,g⟩:=fc _ H1 (Same.refl _) o1
 obtain ⟨hn,h2,h2m,pf⟩:=pp ps
 have hp1:H1 p=some (.ins C dx (ns.zip vs)):=o1.2.2.1 _ _ (kh _ _ (jn.l _ _ zf8_))
 refine ⟨dx,_,hp1,by rw [List.length_zip]; omega,?_⟩
 rw [zgS_ v nd hf hn]
 have nul:∀ q,(fun _:Addr=>(none:Option HO)) q≠none→less G1 h q=none∧h q=none∧H0 q=none:=fun q z=>absurd rfl z
 obtain ⟨j',P'⟩:=zhM_ (o':=.ins C dx (ns.zip (vs.set n v))) (hn:=fun _=>none) o1 kh ndx jn h2m nul (fun q o z=>by cases z) (fun q=>.inl rfl)
 have eu:un (fun _=>none) h2=h2:=by funext q; rfl
 rw [eu] at j' P'
 obtain ⟨h',a1,a2⟩:=g (st yp.1 a) _ _ _ P' ⟨p,dx,vs.set n v,h2,rfl,ndx,j',by rw [List.length_set]; exact hl,pf a v (fun _=>none) h2 _ (Same.refl _) ⟨fun _=>rfl,T.mono hs1 (hT ht hv)⟩ (fun q=>.inl ⟨rfl,rfl⟩)⟩
 exact hk _ F0 H0 σ _ h' _ D a1 a2 fin
theorem zp8_ {P:Ps γ}{P':Ps δ}{ad:γ→α→δ}{x:γ}{w:V}{k:δ→Mo (Out ρ B S)}(hi:L[i]?=some (.ow (owAt w (owI C ns P)) x)) (hf:f∉ns) (hsm:ns.length<900) (pp:PsAdd P (owF T) P' ad) (hT:Imm T) (he:EvF K e E L r T) (hk:∀ x',EvS K u E (L.set i (.ow (owAt w (owI C (ns++[f]) P')) x')) (k x') LS LB Or) :
  EvS K (tSeq (mSFld C (mVar i) e f) u) E L (r.bind fun a=>k (ad x a)) LS LB Or:=by
 intro F0 H0 σ F h H D hL ok fin
 refine he σ (un F h) H _ (hL.froz ok.2.1) ok.thaw (zad_ (G:=F) ok _ (.inl rfl) fin fun a F' H' hra x1 v hv=>?_)
 obtain ⟨o,hs,ht⟩:=ok.back x1
 rw [hra] at fin
 obtain ⟨v0,k0,e1,⟨ew,p,dx,vs,m,rfl,ndx,jn,hl,ps⟩,kH,kh,_,g⟩:=zhl_ (hL.mono hs) hi o
 have hp1:H' p=some (.ins C dx (ns.zip vs)):=kH _ _ (jn.l _ _ zf8_)
 refine zb3_ e1 ⟨dx,_,hp1,by rw [List.length_zip]; omega,?_⟩
 rw [zho_ v hf hl]
 have nul:∀ q,(fun _:Addr=>(none:Option HO)) q≠none→less F' h q=none∧h q=none∧H0 q=none:=fun q z=>absurd rfl z
 obtain ⟨j',PC⟩:=zhM_ (o':=.ins C dx ((ns++[f]).zip (vs++[v]))) (hn:=fun _=>none) o kh ndx jn (Same.refl m) nul (fun q o z=>by cases z) (fun q=>.inl rfl)
 have eu:un (fun _=>none) m=m:=by funext q; rfl
 rw [eu] at j' PC
 obtain ⟨h',a1,a2⟩:=g (owAt w (owI C (ns++[f]) P')) (ad x a) (.ref p) _ _ _ PC ⟨ew,p,dx,vs++[v],m,rfl,ndx,j',by rw [List.length_append,List.length_append,hl]; rfl,pp ps a v (fun _=>none) m _ (Same.refl _) ⟨fun _=>rfl,hT ht hv⟩ (fun q=>.inl ⟨rfl,rfl⟩)⟩
 rw [za0_ e1] at a1
 exact hk _ F0 H0 σ _ h' _ D a1 a2 fin
end
end L2
namespace L2
open PySem PySem.Spec PyProof.Rows
section
variable {K:Fgg}{E:XK}{α β γ δ ρ ρ' S B:Type}{F0 H0 F h H:Hp}{L:List Sl}{e te ei:TE}{T:Ty α}{r:Mo α}{Or:Own ρ}{t u:TS}{LS:S→List Sl}{LB:B→List Sl}{σ:St}{C:Addr}{ns:List Str}{f m:Str}{i n:Nat}
def FinM (K:Fgg) (r:Mo ρ) (E:XK) (F0 H0:Hp) (kk:ρ→Hp→Hp→Hp→Prop):Prop:=match r with
 | .ok a=>∀ F h H,Okk F0 H0 F h H→kk a F h H
 | .ex c=>∀ F h H,Okk F0 H0 F h H→E (.ref (gA K c)) none H
 | .no=>False
abbrev owRM (w:V) (O2:Own β) (Or:Own ρ):Own (ρ×β):=⟨fun r v F h=>∃ h1 h2,Jn h1 h2 h∧Or.O r.1 v F h1∧O2.O r.2 w F h2,⟨fun r v H=>Or.fr.R r.1 v H,fun g q=>Or.fr.mono g q⟩,
 fun g ⟨h1,h2,j,a,b⟩=>⟨h1,h2,j,Or.mono g a,O2.mono g b⟩,
 fun d ⟨h1,h2,j,a,b⟩=>Or.fr.mono (zdT_ d j.l) (Or.frz (dj_l d j) a),
 fun ⟨h1,h2,j,a,b⟩ p xs z=>by
  rcases j p with ⟨_,y⟩ | ⟨_,y⟩
  ·rw [y] at z; exact O2.notup b p xs z
  ·rw [y] at z; exact Or.notup a p xs z⟩
def CtM (K:Fgg) (O:Own α) (O2:Own β) (Q:Cs γ) (g:α→γ→Mo (ρ×β)) (Or:Own ρ):Sp:=fun vs H R E=>∃ F h x c w ws,vs=w::ws∧Same F H∧Dj F h∧Same h H∧O.O x w F h∧Q.R c ws F ∧
 FinM K (g x c) E F (less H h) fun r F' h' H'=>∀ v,(owRM w O2 Or).O r v F' h'→R v H'
theorem zcR_ {k:Hp}(ok:Okk F0 H0 F h H) (s:Same k h):Okk F0 H0 F k H:=by
 refine ⟨ok.1,fun p=>?_,s.trans ok.2.2.1,fun p z=>ok.2.2.2.1 p fun y=>z (s.free y),fun p xs z=>ok.2.2.2.2 p xs (s _ _ z)⟩
 rcases ok.2.1 p with z | z
 ·exact .inl z
 ·exact .inr (s.free z)
theorem zB_ {h:Hp}(p:Addr) (z:h p≠none):less H h p=none:=by
 unfold less
 cases y:h p with
 | none=>exact absurd y z
 | some w=>rfl
theorem zaj_:Same (less H h) H:=fun p o z=>by
 unfold less at z
 split at z
 ·exact z
 ·cases z
theorem zj6_ (hs:Same F H) (dj:Dj F h) (hh:Same h H) (nt:∀ p xs,h p≠some (.tup xs)):Okk F (less H h) F h H:=by
 refine ⟨⟨Same.refl _,hs,zaj_,fun p a b=>absurd a b⟩,dj,hh,fun p z=>zB_ p z,nt⟩
def fnMU (r:Mo (Out (Unit×β) Unit β)):Mo (Unit×β):=r.bind fun o=>match o with | .rt a=>.ok a | .nx x=>.ok ((),x) | _=>.no
def fnMR (r:Mo (Out (ρ×β) Unit Unit)):Mo (ρ×β):=r.bind fun o=>match o with | .rt a=>.ok a | _=>.no
theorem zgw_ {O:Own α}{Q:Cs γ}{ss:γ→List Sl}{x:α}{c:γ}{w:V}{ws:List V}(m:Nat) (hC:CsS Q ss) (hO:O.O x w F h) (hc:Q.R c ws F):Hold (.ow (owAt w O) x::(ss c++List.replicate m .dead)) (some w::(ws.map some++List.replicate m none)) F h :=
 ⟨h,fun _=>none,fun _=>.inr ⟨rfl,rfl⟩,⟨w,rfl,rfl,hO⟩,(hC hc).hold m⟩
theorem zoO_ {t:XK→TS}{O:Own α}{O2:Own β}{Q:Cs γ}{ss:γ→List Sl}{g:α→γ→Mo (Out (Unit×β) Unit β)}{N:List Str}{LS:V→β→List Sl}(n m:Nat) (hn:CsN Q n) (hm:N.length-(n+1)=m) (hC:CsS Q ss) (hLS:∀ w x,(LS w x)[0]?=some (.ow (owAt w O2) x))
  (hb:∀ w x c E,EvS K (t E) E (.ow (owAt w O) x::(ss c++List.replicate m .dead)) (g x c) (LS w) (fun _:Unit=>[]) (owRM w O2 (owF tyNon))) :
  ∀ vs H R E,CtM K O O2 Q (fun x c=>fnMU (g x c)) (owF tyNon) vs H R E→t E { nx:=fun _ H'=>R .non H',rt:=R } (start N vs) H:=by
 rintro vs H R E ⟨F,h,x,c,w,ws,rfl,hs,dj,hh,hO,hc,q⟩
 have hstart:start N (w::ws)=some w::(ws.map some++List.replicate m none):=by
  unfold start
  rw [List.length_cons,hn hc,hm]; rfl
 rw [hstart]
 refine hb w x c E F (less H h) _ F h H _ (zgw_ m hC hO hc) (zj6_ hs dj hh (O.notup hO)) ?_
 cases e:g x c with
 | no=>simp only [fnMU,e] at q; exact q
 | ex cc=>simp only [fnMU,e] at q; exact q
 | ok o =>
  simp only [fnMU,e] at q
  cases o with
  | nx s =>
   intro σ F' h' H' hL ok
   obtain ⟨o,k,hr,e1,j,⟨v,e2,e3,ho⟩,_⟩:=hL.at 0 (hLS w s)
   subst e3
   exact q F' k H' (zcR_ ok j.l) .non ⟨fun _=>none,k,fun _=>.inl ⟨rfl,rfl⟩,⟨fun _=>rfl,rfl⟩,ho⟩
  | bk s=>exact q.elim
  | ct s=>exact q.elim
  | rt a=>exact fun v F' h' H' ok hv=>q F' h' H' ok v hv
theorem zoj_ {t:XK→TS}{O:Own α}{O2:Own β}{Q:Cs γ}{ss:γ→List Sl}{g:α→γ→Mo (Out (ρ×β) Unit Unit)}{N:List Str}(n m:Nat) (hn:CsN Q n) (hm:N.length-(n+1)=m) (hC:CsS Q ss)
  (hb:∀ w x c E,EvS K (t E) E (.ow (owAt w O) x::(ss c++List.replicate m .dead)) (g x c) (fun _:Unit=>[]) (fun _:Unit=>[]) (owRM w O2 Or)) :
  ∀ vs H R E,CtM K O O2 Q (fun x c=>fnMR (g x c)) Or vs H R E→t E { nx:=fun _ H'=>R .non H',rt:=R } (start N vs) H:=by
 rintro vs H R E ⟨F,h,x,c,w,ws,rfl,hs,dj,hh,hO,hc,q⟩
 have hstart:start N (w::ws)=some w::(ws.map some++List.replicate m none):=by
  unfold start
  rw [List.length_cons,hn hc,hm]; rfl
 rw [hstart]
 refine hb w x c E F (less H h) _ F h H _ (zgw_ m hC hO hc) (zj6_ hs dj hh (O.notup hO)) ?_
 cases e:g x c with
 | no=>simp only [fnMR,e] at q; exact q
 | ex cc=>simp only [fnMR,e] at q; exact q
 | ok o =>
  simp only [fnMR,e] at q
  cases o with
  | nx s=>exact q.elim
  | bk s=>exact q.elim
  | ct s=>exact q.elim
  | rt a=>exact fun v F' h' H' ok hv=>q F' h' H' ok v hv
theorem zpr_ {O2:Own β}{x:β}{w:V}(h0:L[i]?=some (.ow (owAt w O2) x)) (hT:Imm T) (he:EvF K e E L r T):EvS K (tRet e) E L (r.bind fun a=>.ok (.rt (a,x))) LS LB (owRM w O2 (owF T)):=by
 intro F0 H0 σ F h H D hL ok fin
 refine he σ (un F h) H _ (hL.froz ok.2.1) ok.thaw (zad_ (G:=F) ok _ (.inl rfl) fin fun a F' H' hr x1 v hv=>?_)
 obtain ⟨o,hs,ht⟩:=ok.back x1
 rw [hr] at fin
 obtain ⟨_,k,_,_,j,⟨v',_,e3,ho⟩,_⟩:=(hL.mono hs).at i h0
 subst e3
 exact fin v _ k H' (zcR_ o j.l) ⟨fun _=>none,k,fun _=>.inl ⟨rfl,rfl⟩,⟨fun _=>rfl,hT ht hv⟩,ho⟩
theorem zlZ_ {O:Own α}{P:Ps β}{r0:Mo (β×(β→α))}{Q:Cs γ}{ta:TA}{ra:Mo γ}{g:β→γ→Mo (ρ'×β)}{Or':Own ρ'}{k:α→Mo (Out ρ B S)}(hno:m∉ns) (hI:ImmO (owI C ns P)) (hp:EvPt K te E L i O (owI C ns P) r0) (hC:ImmC Q) (ha:EvA K ta E L ra Q)
  (hk:∀ x',EvS K u E (L.set i (.ow O x')) (k x') LS LB Or) :
  EvS K (tSeq (tDrop (tMeth C m (CtM K (owI C ns P) (owI C ns P) Q g Or') [] E0 te ta)) u) E L (r0.bind fun yp=>ra.bind fun c=>(g yp.1 c).noex.bind fun q=>k (yp.2 q.2)) LS LB Or:=by
 intro F0 H0 σ F h H D hL ok fin
 show te σ H fun x H1=>∃ a dx fs,x=.ref a∧H1 a=some (.ins C dx fs)∧fs.lookup m=none∧ta σ H1 fun vs H2=>CtM K (owI C ns P) (owI C ns P) Q g Or' (x::(vs++[])) H2 (fun _ H3=>u D σ H3) E0
 refine hp F0 H0 σ F h H _ hL ok (zad_ (G:=F) ok _ (.inl rfl) fin fun yp G1 H1 hr0 x1 u0 fc=>?_)
 obtain ⟨o1,hs1,_⟩:=ok.back x1
 rw [hr0] at fin
 obtain ⟨k0,⟨p,dx,vs0,m0,rfl,ndx,jn,hl,ps⟩,kh,_⟩:=fc _ H1 (Same.refl _) o1
 refine ⟨p,dx,_,rfl,o1.2.2.1 _ _ (kh _ _ (jn.l _ _ zf8_)),zaG_ hno,?_⟩
 refine ha σ (un (less G1 h) h) H1 _ ((hL.mono hs1).froz o1.2.1) o1.thaw (zad_ (G:=F) o1 _ (.inl rfl) fin fun c G2 H2 hra x2 vs hvs=>?_)
 obtain ⟨o2,hs2,ht2⟩:=o1.back x2
 rw [hra] at fin
 rw [List.append_nil]
 obtain ⟨k1,hO,kh1,gg⟩:=fc _ H2 hs2 o2
 have dFc:∀ q,less h k1 q≠none→k1 q=none:=fun q z=>by
  cases y:k1 q with
  | none=>rfl
  | some s=>exact absurd (zB_ (H:=h) q (by rw [y]; exact Option.some_ne_none _)) z
 have sFc:Same (un (less G2 h) (less h k1)) H2:=fun q o z=>by
  unfold un at z
  cases y:less G2 h q with
  | some s=>rw [y] at z; rw [← z]; exact o2.1.2.1 _ _ y
  | none=>rw [y] at z; exact o2.2.2.1 _ _ (zaj_ _ _ z)
 have djc:Dj (un (less G2 h) (less h k1)) k1:=fun q=>by
  by_cases z:k1 q=none
  ·exact .inr z
  ·left
   unfold un
   have:less G2 h q=none:=zB_ q fun y=>z (kh1.free y)
   rw [this]; exact zB_ q z
 refine ⟨un (less G2 h) (less h k1),k1,yp.1,c,.ref p,vs,rfl,sFc,djc,kh1.trans o2.2.2.1,(owI C ns P).mono zU_ hO,Q.mono zU_ (hC ht2 hvs),?_⟩
 have fin:Fin K ((g yp.1 c).noex.bind fun q=>k (yp.2 q.2)) E LS LB Or F0 H0 D:=fin
 cases e:g yp.1 c with
 | no=>rw [e] at fin; exact fin
 | ex cc=>rw [e] at fin; exact fin.elim
 | ok q =>
  rw [e] at fin
  rintro F' h' H' okc v ⟨hr,hs',j,_,hO2⟩
  have lo:∀ q',less h k1 q'≠none→h q'≠none:=fun q' z y=>z (by unfold less; split; exact y; rfl)
  have tp:Tups F' (less F' (less h k1)):=fun b xs z=>by
   cases y:less h k1 b with
   | none=>rw [zx_ y]; exact z
   | some s =>
    exfalso
    have y2:un (less G2 h) (less h k1) b=some s:=by
     unfold un
     have:less G2 h b=none:=zB_ b (lo b (by rw [y]; exact Option.some_ne_none _))
     rw [this]; exact y
    have:=okc.1.1 _ _ y2
    rw [z] at this
    injection this with this
    exact o2.2.2.2.2 b xs (by rw [this]; exact zaj_ _ _ y)
  have PC:PutC (less G2 h) H2 h H0 k1 hs' (less F' (less h k1)) H':=by
   refine ⟨fun b o z=>?_,fun b o z=>okc.1.2.1 _ _ (zaj_ _ _ z),okc.1.2.2.1,fun b a1 a2=>?_,j.r.trans okc.2.2.1,fun b=>?_,fun b a1 a2=>?_⟩
   ·have hb:h b=none:=by
     cases y:h b with
     | none=>rfl
     | some s=>rw [zB_ b (by rw [y]; exact Option.some_ne_none _)] at z; cases z
    have:less h k1 b=none:=zaj_.free hb
    rw [zx_ this]
    exact okc.1.1 _ _ (zU_ _ _ z)
   ·have y:less h k1 b=none:=by
     cases y:less h k1 b with
     | none=>rfl
     | some s=>exact absurd (zB_ b (by rw [y]; exact Option.some_ne_none _)) a2
    rw [zx_ y] at a2
    have y2:un (less G2 h) (less h k1) b=none:=by unfold un; rw [a1]; exact y
    have y3:=okc.1.2.2.2 b y2 a2
    by_cases z:k1 b=none
    ·left; rw [zx_ z] at y3; exact y3
    ·exact .inr z
   ·by_cases z:hs' b=none
    ·exact .inr z
    ·left
     rcases okc.2.1 b with y | y
     ·exact zaj_.free y
     ·exact absurd (j.r.free y) z
   ·have y:=okc.2.2.2.1 b fun y=>a2 (j.r.free y)
    rw [zx_ a1] at y
    exact ⟨o2.2.2.1.free y,o2.1.2.2.1.free y⟩
  obtain ⟨h3,a1,a2⟩:=gg q.2 hs' _ H' PC (hI tp hO2)
  exact hk _ F0 H0 σ _ h3 H' D a1 a2 fin
theorem zjB_ {Q:Cs γ}{Q2:Cs δ}{ta:TA}{r0:Mo γ}{ra:Mo δ}{g:γ×δ→Mo α}(hno:m∉ns) (he:EvF K te E L r0 (tyI C ns Q)) (ha:EvA K ta E L ra Q2) :
  EvF K (tMeth C m (Ct K (csCons (tyI C ns Q) Q2) g (owF T)) [] E0 te ta) E L (r0.bind fun x=>ra.bind fun c=>(g (x,c)).noex) T:=by
 intro σ F H R hL hs q
 refine he σ F H _ hL hs (q.bind.imp fun x F1 H1 x1 k1 v hv=>?_)
 obtain ⟨p,dx,vs,rfl,hp,hl,hc⟩:=id hv
 refine ⟨p,dx,_,rfl,x1.2.1 _ _ hp,zaG_ hno,?_⟩
 refine ha σ F1 H1 _ (hL.mono x1.1) x1.2.1 (k1.bind.imp fun c F2 H2 x2 k2 us hus=>?_)
 rw [List.append_nil]
 refine ⟨F2,(x,c),x2.2.1,⟨_,us,rfl,(tyI C ns Q).mono x2.1 hv,hus⟩,k2.noex.imp fun a F3 H3 x3 k3 w hw _ _ _ hv=>k3 w hv.2⟩
theorem zfX_ {Q:Cs γ}{r0:Mo γ}{g:γ→Mo α}(hno:m∉ns) (he:EvF K te E L r0 (tyI C ns Q)) :
  EvF K (tMeth C m (Ct K (csLast (tyI C ns Q)) g (owF T)) [] E0 te tNil) E L (r0.bind fun x=>(g x).noex) T:=by
 intro σ F H R hL hs q
 refine he σ F H _ hL hs (q.bind.imp fun x F1 H1 x1 k1 v hv=>?_)
 obtain ⟨p,dx,vs,rfl,hp,hl,hc⟩:=id hv
 refine ⟨p,dx,_,rfl,x1.2.1 _ _ hp,zaG_ hno,?_⟩
 exact ⟨F1,x,x1.2.1,⟨_,rfl,hv⟩,k1.noex.imp fun a F3 H3 x3 k3 w hw _ _ _ hv=>k3 w hv.2⟩
theorem zgo_ {P:Ps γ}{Q:Cs δ}{ta:TA}{ra:Mo δ}{g:Unit→δ→Mo (Unit×γ)}(ha:EvA K ta E L ra Q) :
  EvO K (tMake C (CtM K (owI C [] psNil) (owI C ns P) Q g (owF tyNon)) [] E0 ta) E L (ra.bind fun c=>(g () c).noex.bind fun q=>.ok q.2) (owI C ns P):=by
 intro σ F H R hL hs q
 refine ha σ F H _ hL hs (q.bind.imp fun c F1 H1 x1 k1 vs hvs x dx hx hdx ndx=>?_)
 rw [List.append_nil]
 have new:∀ b,two x dx (.ins C dx []) b≠none→H1 b=none:=fun b z=>by
  unfold two at z
  split at z
  ·rename_i e; rw [e]; exact hx
  ·split at z
   ·rename_i e; rw [e]; exact hdx
   ·exact absurd rfl z
 have at1:∀ b,two x dx (.ins C dx []) b=none→upd (upd H1 dx (.own x)) x (.ins C dx []) b=H1 b:=fun b z=>by
  obtain ⟨a1,a2⟩:=zom_ z
  rw [z7_ a1,z7_ a2]
 have at2:Same (two x dx (.ins C dx [])) (upd (upd H1 dx (.own x)) x (.ins C dx [])):=fun b o z=>by
  unfold two at z
  split at z
  ·rename_i e; rw [e,zaC_]; exact z
  ·rename_i e0
   split at z
   ·rename_i e; rw [z7_ e0,e,zaC_]; exact z
   ·cases z
 have dj:Dj F1 (two x dx (.ins C dx [])):=fun b=>by
  by_cases z:two x dx (.ins C dx []) b=none
  ·exact .inr z
  ·exact .inl (x1.2.1.free (new b z))
 have sF:Same F1 (upd (upd H1 dx (.own x)) x (.ins C dx [])):=fun b o z=>by
  have hb:=x1.2.1 _ _ z
  rw [at1 b ?_]
  ·exact hb
  ·cases y:two x dx (.ins C dx []) b with
   | none=>rfl
   | some s=>rw [new b (by rw [y]; exact Option.some_ne_none _)] at hb; cases hb
 have eH:∀ b,less (upd (upd H1 dx (.own x)) x (.ins C dx [])) (two x dx (.ins C dx [])) b=H1 b:=fun b=>by
  by_cases z:two x dx (.ins C dx []) b=none
  ·rw [zx_ z,at1 b z]
  ·rw [zB_ b z,new b z]
 refine ⟨F1,two x dx (.ins C dx []),(),c,.ref x,vs,rfl,sF,dj,at2,⟨x,dx,[],fun _=>none,rfl,ndx,fun _=>.inr ⟨rfl,rfl⟩,rfl,rfl,fun _=>rfl⟩,hvs,?_⟩
 cases e:g () c with
 | no=>rw [e] at k1; exact k1
 | ex cc=>rw [e] at k1; exact k1.elim
 | ok q0 =>
  rw [e] at k1
  rintro F' h' H' okc v ⟨hr,hs',j,⟨_,hv⟩,hO2⟩
  refine ⟨hv,?_⟩
  have xx:Ext F1 H1 F' H':=⟨okc.1.1,okc.1.2.1,fun b o z=>okc.1.2.2.1 b o (by rw [eH]; exact z),fun b a1 a2=>by rw [← eH b]; exact okc.1.2.2.2 b a1 a2⟩
  refine k1 F' H' xx (.ref x) hs' (fun b z=>?_) (fun b=>?_) (j.r.trans okc.2.2.1) hO2
  ·have:=okc.2.2.2.1 b fun y=>z (j.r.free y)
   rw [eH] at this
   exact x1.2.2.1.free this
  ·rcases okc.2.1 b with y | y
   ·exact .inl y
   ·exact .inr (j.r.free y)
end
end L2
namespace L2
open PySem PySem.Spec PyProof.Rows
section
variable {K:Fgg}{E:XK}{α β γ δ ρ ρ' S B:Type}{F0 H0 F h H:Hp}{L:List Sl}{e te ei:TE}{T:Ty α}{r:Mo α}{Or:Own ρ}{t u:TS}{LS:S→List Sl}{LB:B→List Sl}{σ:St}{C:Addr}{ns:List Str}{f m:Str}{i n:Nat}
def ImmP (P:Ps γ):Prop:=∀ {c vs F F' h},Tups F F'→P.P c vs F h→P.P c vs F' h
theorem zp_:ImmP psNil:=fun _ q=>q
theorem zd_ {O:Own α}{P:Ps γ}(a:ImmO O) (b:ImmP P):ImmP (psO O P):=fun g ⟨v,us,h1,h2,e,j,x,y⟩=>⟨v,us,h1,h2,e,j,a g x,b g y⟩
theorem zN_ {P:Ps γ}(b:ImmP P):ImmO (owI C ns P):=fun g ⟨p,dx,vs,k,e,nd,j,l,q⟩=>⟨p,dx,vs,k,e,nd,j,l,b g q⟩
theorem zf7_ {O:Own β}{P:Ps γ}{st:γ→α→γ}{r0:Mo (γ×(γ→β))}{k:β→Mo (Out ρ B S)}(nd:ns.Nodup) (hf:ns[n]?=some f) (hsm:ns.length<1000) (pp:PsPut P n (owF T) st) (hT:Imm T) (he:EvF K e E L r T) (hp:EvPt K te E L i O (owI C ns P) r0) (hk:∀ x',EvS K u E (L.set i (.ow O x')) (k x') LS LB Or) :
  EvS K (tSeq (mSFld C te e f) u) E L (r.bind fun a=>r0.bind fun yp=>(Mo.ok (yp.2 (st yp.1 a))).bind k) LS LB Or:=zp5_ nd hf hsm pp hT he hp hk
theorem zgc_ {P:Ps γ}{P':Ps δ}{ad:γ→α→δ}{x:γ}{w:V}{k:δ→Mo (Out ρ B S)}(hi:L[i]?=some (.ow (owAt w (owI C ns P)) x)) (hf:f∉ns) (hsm:ns.length<900) (pp:PsAdd P (owF T) P' ad) (hT:Imm T) (he:EvF K e E L r T) (hk:∀ x',EvS K u E (L.set i (.ow (owAt w (owI C (ns++[f]) P')) x')) (k x') LS LB Or) :
  EvS K (tSeq (mSFld C (mVar i) e f) u) E L (r.bind fun a=>(Mo.ok (ad x a)).bind k) LS LB Or:=zp8_ hi hf hsm pp hT he hk
theorem zg1_ {O:Own α}{P:Ps β}{r0:Mo (β×(β→α))}{Q:Cs γ}{ta:TA}{ra:Mo γ}{g:β→γ→Mo (ρ'×β)}{Or':Own ρ'}{k:α→Mo (Out ρ B S)}(hno:m∉ns) (hI:ImmO (owI C ns P)) (hp:EvPt K te E L i O (owI C ns P) r0) (hC:ImmC Q) (ha:EvA K ta E L ra Q)
  (hk:∀ x',EvS K u E (L.set i (.ow O x')) (k x') LS LB Or) :
  EvS K (tSeq (tDrop (tMeth C m (CtM K (owI C ns P) (owI C ns P) Q g Or') [] E0 te ta)) u) E L (r0.bind fun yp=>ra.bind fun c=>(g yp.1 c).noex.bind fun q=>(Mo.ok (yp.2 q.2)).bind k) LS LB Or:=zlZ_ hno hI hp hC ha hk
theorem zgv_ {O:Own β}{r0:Mo (List α×(List α→β))}{k:β→Mo (Out ρ B S)}(hp:EvPt K te E L i O (owL T) r0) (hT:Imm T) (he:EvF K e E L r T) (hk:∀ x',EvS K u E (L.set i (.ow O x')) (k x') LS LB Or) :
  EvS K (tSeq (tDrop (tBM K "list" rAppend te (tCons e tNil))) u) E L (r0.bind fun yp=>r.bind fun a=>.lim (yp.1.length+1) ((Mo.ok (yp.2 (yp.1++[a]))).bind k)) LS LB Or:=zk8_ hp hT he hk
def EvAO (K:Fgg) (t:TA) (E:XK) (L:List Sl) (r:Mo (List α)) (O:Own α):Prop :=
 ∀ σ F H (Q:List V→Hp→Prop),HoldF L σ F→Same F H→After K r E F H (fun xs F' H'=>∀ vs h,(∀ p,h p≠none→H p=none)→Dj F' h→Same h H'→OwAll O F' xs vs h→Q vs H')→t σ H Q
theorem zlG_ {O:Own α}:EvAO K tNil E L (.ok ([]:List α)) O:=fun σ F H Q hL hs q=>q.ok hs [] (fun _=>none) (fun p z=>absurd rfl z) (fun p=>.inr rfl) (fun p o z=>by cases z) fun _=>rfl
theorem zhb_ {O:Own α}{t:TA}{r':Mo (List α)}(he:EvO K e E L r O) (ht:EvAO K t E L r' O):EvAO K (tCons e t) E L (r.bind fun a=>r'.bind fun as=>.ok (a::as)) O:=by
 intro σ F H Q hL hs q
 refine he σ F H _ hL hs (q.bind.imp fun a F1 H1 x1 k1 v h1 fr1 d1 s1 o1=>?_)
 refine ht σ F1 H1 _ (hL.mono x1.1) x1.2.1 (k1.bind.imp fun as F2 H2 x2 k2 vs h2 fr2 d2 s2 o2=>?_)
 have dj:Dj h1 h2:=fun p=>by
  by_cases z:h2 p=none
  ·exact .inr z
  ·exact .inl (s1.free (fr2 p z))
 have k3:=k2.ok x2.2.1
 refine k3 (v::vs) (un h1 h2) (fun p z=>?_) (fun p=>?_) (fun p o z=>?_) ⟨h1,h2,zch_ dj,O.mono x2.1 o1,o2⟩
 ·unfold un at z
  cases y:h1 p with
  | some w=>exact fr1 p (by rw [y]; exact Option.some_ne_none _)
  | none=>rw [y] at z; exact x1.2.2.1.free (fr2 p z)
 ·unfold un
  cases y:h1 p with
  | some w =>
   left
   have F1p:F1 p=none:=by
    rcases d1 p with z | z
    ·exact z
    ·rw [z] at y; cases y
   by_cases w:F2 p=none
   ·exact w
   ·have:=x2.2.2.2 p F1p w
    rw [s1 _ _ y] at this; cases this
  | none=>exact d2 p
 ·unfold un at z
  cases y:h1 p with
  | some w=>rw [y] at z; rw [← z]; exact x2.2.2.1 _ _ (s1 _ _ y)
  | none=>rw [y] at z; exact s2 _ _ z
theorem zlw_ {O:Own α}{t:TA}{r:Mo (List α)}(ht:EvAO K t E L r O):EvO K (tLst t) E L (r.bind fun xs=>.lim xs.length (.ok xs)) (owLO O):=by
 intro σ F H Q hL hs q
 refine ht σ F H _ hL hs (q.bind.imp fun xs F1 H1 x1 k1 vs h1 fr d s o=>?_)
 obtain ⟨hz,k1⟩:=k1.lim
 refine ⟨by rw [← o.len]; exact hz,fun p hp=>?_⟩
 have hp1:h1 p=none:=s.free hp
 have dj:Dj (one p (.lst vs)) h1:=fun q=>by
  by_cases z:q=p
  ·rw [z]; exact .inr hp1
  ·left; unfold one; rw [if_neg z]
 have xx:Ext F1 H1 F1 (upd H1 p (.lst vs)):=⟨Same.refl _,fun b o z=>by rw [z7_ (fun e=>by rw [e] at z; have:=x1.2.1 _ _ z; rw [hp] at this; cases this)]; exact x1.2.1 _ _ z,fun b o z=>by rw [z7_ (fun e=>by rw [e,hp] at z; cases z)]; exact z,fun b a c=>absurd a c⟩
 refine k1 F1 _ xx (.ref p) (un (one p (.lst vs)) h1) (fun b z=>?_) (fun b=>?_) (fun b o' z=>?_) ⟨p,vs,h1,rfl,zch_ dj,o⟩
 ·unfold un at z
  by_cases e:b=p
  ·rw [e]; exact x1.2.2.1.free hp
  ·unfold one at z; rw [if_neg e] at z; exact fr b z
 ·unfold un
  by_cases e:b=p
  ·left; rw [e]; exact x1.2.1.free hp
  ·unfold one; rw [if_neg e]; exact d b
 ·unfold un at z
  by_cases e:b=p
  ·rw [e,zS_] at z; rw [e,zaC_]; exact z
  ·unfold one at z; rw [if_neg e] at z; rw [z7_ e]; exact s _ _ z
theorem zlH_ {hn:Hp}(ok:Okk F0 H0 F h H) (fr:∀ p,hn p≠none→H0 p=none∧h p=none) (s:Same hn H):Okk F0 H0 (un F hn) h H:=by
 refine ⟨⟨ok.1.1.trans zU_,fun p o z=>?_,ok.1.2.2.1,fun p a b=>?_⟩,fun p=>?_,ok.2.2.1,ok.2.2.2.1,ok.2.2.2.2⟩
 ·unfold un at z
  cases y:F p with
  | some w=>rw [y] at z; rw [← z]; exact ok.1.2.1 _ _ y
  | none=>rw [y] at z; exact s _ _ z
 ·unfold un at b
  cases y:F p with
  | some w=>exact ok.1.2.2.2 p a (by rw [y]; exact Option.some_ne_none _)
  | none=>rw [y] at b; exact (fr p b).1
 ·unfold un
  cases y:F p with
  | some w =>
   right
   rcases ok.2.1 p with z | z
   ·rw [z] at y; cases y
   ·exact z
  | none =>
   by_cases z:hn p=none
   ·exact .inl z
   ·exact .inr (fr p z).2
end
end L2
namespace L2
open PySem PySem.Spec PyProof.Rows
section
variable {K:Fgg}{E:XK}{γ:Type}{L:List Sl}{C:Addr}{ns:List Str}
theorem zcQ_ (i:Nat) {P:Ps γ}{x:γ}(h:L[i]?=some (.ow (owI C ns P) x)):EvF K (mVar i) E L (.ok x) (tyI C ns P.fr):=zfd_ i h
theorem zbb_ (i:Nat) {P:Ps γ}{x:γ}{w:V}(h:L[i]?=some (.ow (owAt w (owI C ns P)) x)):EvF K (mVar i) E L (.ok x) (tyI C ns P.fr):=zfd_ i h
end
end L2
namespace L2
open PySem PySem.Spec PyProof.Rows
def joinL (sep:List Nat):List (List Nat)→List Nat
 | []=>[]
 | [p]=>p
 | p::q::r=>p++sep++joinL sep (q::r)
theorem zfi_ (y:Str):∀ ps:List Str,(Str.join y ps).cps.toList=joinL y.cps.toList (ps.map fun p=>p.cps.toList)
 | []=>rfl
 | [p]=>rfl
 | p::q::r=>by
  show (p++y++Str.join y (q::r)).cps.toList=_
  rw [zjO_,zjO_,zfi_ y (q::r)]
  rfl
theorem zfp_ (sep:List Nat) (ps:List (List Nat)):joinS sep (strsL ps)=joinL sep ps:=by
 have:=zfi_ ⟨sep.toArray⟩ (strsL ps)
 unfold joinS
 refine Eq.trans ?_ (this.trans ?_)
 ·rw [eq_of_beq (PyProof.Rows.join_closes (sep:=⟨sep.toArray⟩) (ys:=strsL ps) rfl)]
 ·unfold strsL
  rw [List.map_map]
  congr 1
  exact (List.map_congr_left fun p _=>rfl).trans (List.map_id _)
end L2
namespace L2
open PySem PySem.Spec PyProof.Rows
section
variable {X:Cx}
end
section
variable {K:Fgg}{E:XK}{α β:Type}{L:List Sl}{e:TE}{T:Ty α}
theorem zjZ_ {r:Mo (Option α)}(h:EvF K e E L r (tyOpt T)):EvF K e E L (r.bind fun o=>Mo.opt o) T:=by
 intro σ F H Q hL hs q
 refine h σ F H _ hL hs (q.bind.imp fun o F1 H1 x k v hv=>?_)
 cases o with
 | none=>exact k.elim
 | some a=>exact k.ok x.2.1 v hv.1
def EvJ (K:Fgg) (k:Nat) (tj:TJ) (E:XK) (L:List Sl) (r:Mo (List Nat)):Prop :=
 ∀ (n:Nat) (acc:List Nat) σ F H (R:Str→Hp→Prop),acc.length≤1000*n→n+k≤90→HoldF L σ F→Same F H→After K r E F H (fun l F' H'=>l.length≤1000*k→R ⟨(acc++l).toArray⟩ H')→tj ⟨acc.toArray⟩ σ H R
theorem zqv_:EvJ K 0 tJ0 E L (.ok []):=fun n acc σ F H R ha hn hL hs q=>by
 have:=q.ok hs (Nat.zero_le _)
 rwa [List.append_nil] at this
theorem zjU_ {ta:TE}{tr:TJ}{k:Nat}{r r':Mo (List Nat)}(h:EvF K ta E L r tyStr) (hr:EvJ K k tr E L r'):EvJ K (k+1) (tJ1 ta tr) E L (r.bind fun a=>.grd (a.length≤1000) (r'.bind fun l=>.ok (a++l))):=by
 intro n acc σ F H R ha hn hL hs q
 refine h σ F H _ hL hs (q.bind.imp fun a F1 H1 x1 k1 v hv=>?_)
 cases hv
 obtain ⟨hz,k1⟩:=k1.grd
 have e:((⟨acc.toArray⟩:Str)++(⟨a.toArray⟩:Str))=⟨(acc++a).toArray⟩:=by
  show (⟨acc.toArray++a.toArray⟩:Str)=_
  simp
 show ((⟨acc.toArray⟩:Str)++(⟨a.toArray⟩:Str)).length≤sizeLine∧tr ((⟨acc.toArray⟩:Str)++(⟨a.toArray⟩:Str)) σ H1 R
 rw [e]
 refine ⟨by show (acc++a).toArray.size≤sizeLine; rw [List.size_toArray,List.length_append,sizeLine_eq]; lia,hr (n+1) (acc++a) σ F1 H1 R (by rw [List.length_append]; lia) (by lia) (hL.mono x1.1) x1.2.1 (k1.bind.imp fun l F2 H2 x2 k2 hl=>?_)⟩
 have:=k2.ok x2.2.1 (by rw [List.length_append]; lia)
 rwa [← List.append_assoc] at this
theorem zk9_ {tj:TJ}{k:Nat}{r:Mo (List Nat)}(h:EvJ K k tj E L r) (hk:k≤80:=by decide):EvF K (tJoin tj) E L r tyStr:=by
 intro σ F H Q hL hs q
 refine h 0 [] σ F H _ (by simp) (by lia) hL hs (q.imp fun l F' H' x k1 hl=>?_)
 rw [List.nil_append]
 exact ⟨by show l.toArray.size≤sizeLine; rw [List.size_toArray,sizeLine_eq]; lia,k1 _ rfl⟩
theorem zlx_ {r:Mo (List Nat)}(h:EvF K e E L r tyStr):EvF K (tUn mFmt e) E L (r.bind fun l=>.lim l.length (.ok l)) tyStr:=by
 intro σ F H Q hL hs q
 refine h σ F H _ hL hs (q.bind.imp fun l F1 H1 x1 k1 v hv=>?_)
 cases hv
 obtain ⟨hz,k1⟩:=k1.lim
 exact ⟨by show l.toArray.size≤sizeLine; rw [List.size_toArray]; exact hz,k1.ok x1.2.1 _ rfl⟩
end
end L2
namespace L2
open PySem PySem.Spec PyProof.Rows
end L2
namespace L2
open PySem PySem.Spec PyProof.Rows
section
variable {prog:Program}{w:World}{A:Around}{E:Value→Shared→Prop}{s:Shared}
end
section
variable {X:Cx}
end
section
variable {K:Fgg}{E:XK}{α β γ ρ S B:Type}{F H:Hp}{L:List Sl}{e:TE}{T:Ty α}
end
end L2
namespace L2
open PySem PySem.Spec PyProof.Rows
section
variable {α β γ:Type}
abbrev owPn (u:V) (O':Own β) (put:β→α) (O:Own α):Own β:=⟨fun z v F k=>∃ k1 k2,Jn k1 k2 k∧O'.O z u F k1∧∀ z' k1' k' F3,Same F F3→O'.O z' u F3 k1'→Jn k1' k2 k'→O.O (put z') v F3 k',
 ⟨fun z v H=>O.fr.R (put z) v H∧O'.fr.R z u H,fun g q=>⟨O.fr.mono g q.1,O'.fr.mono g q.2⟩⟩,
 fun g ⟨k1,k2,j,a,b⟩=>⟨k1,k2,j,O'.mono g a,fun z' k1' k' F3 s=>b z' k1' k' F3 (g.trans s)⟩,
 fun d ⟨k1,k2,j,a,b⟩=>⟨O.frz d (b _ k1 _ _ (Same.refl _) a j),O'.fr.mono (zdT_ d j.l) (O'.frz (dj_l d j) a)⟩,
 fun ⟨k1,k2,j,a,b⟩=>O.notup (b _ k1 _ _ (Same.refl _) a j)⟩
theorem zhg_ {u v:V}{O':Own β}{put:β→α}{O:Own α}{z:β}{F k:Hp}(h:(owPn u O' put O).O z v F k):O.O (put z) v F k:=by
 obtain ⟨k1,k2,j,a,b⟩:=h
 exact b _ k1 _ _ (Same.refl _) a j
theorem ziO_ {k1 k2 kb m k:Hp}(jm:Jn k2 kb m) (j:Jn k1 m k):Dj k1 k2∧Jn (un k1 k2) kb k:=by
 refine ⟨fun p=>?_,fun p=>?_⟩
 ·rcases j.dj p with z | z
  ·exact .inl z
  ·exact .inr (jm.l.free z)
 ·unfold un
  rcases j p with ⟨a,b⟩ | ⟨a,b⟩
  ·rw [a,b]
   rcases jm p with ⟨c,e⟩ | ⟨c,e⟩
   ·exact .inl ⟨c,e⟩
   ·exact .inr ⟨c,e⟩
  ·right
   refine ⟨jm.r.free a,?_⟩
   rw [b]
   cases z:k1 p with
   | some w=>rfl
   | none=>exact (jm.l.free a).symm
theorem zpN_ {k:Hp}:Jn k (fun _=>none) k:=fun p=>.inr ⟨rfl,rfl⟩
theorem zk4_ {k k':Hp}(j:Jn k (fun _=>none) k'):k'=k:=by
 funext p
 rcases j p with ⟨a,b⟩ | ⟨a,b⟩
 ·rw [a,b]
 ·exact b
end
section
variable {K:Fgg}{E:XK}{α β γ δ ρ ρ' S B:Type}{F0 H0 F h H:Hp}{L:List Sl}{e te ei:TE}{T:Ty α}{r:Mo α}{Or:Own ρ}{t u:TS}{LS:S→List Sl}{LB:B→List Sl}{σ:St}{C:Addr}{ns:List Str}{f m:Str}{i n w:Nat}
theorem zbE_ {O1:Own α}{O2:Own β}{x:α}{x2:β}(hL:Hold L σ F h) (hi:L[i]?=some (.ow O1 x)) (g:∀ v k,σ[i]?=some (some v)→Same k h→O1.O x v F k→O2.O x2 v F k):Hold (L.set i (.ow O2 x2)) σ F h:=by
 obtain ⟨o,k,hr,e1,j,⟨v,e2,ho⟩,f⟩:=hL.at i hi
 subst e2
 have:=f (.ow O2 x2) (some v) k h j ⟨v,rfl,g v k e1 j.l ho⟩
 rwa [za0_ e1] at this
def EvPw (K:Fgg) (te:TE) (E:XK) (L:List Sl) (i:Nat) (O:Own α) (O':Own β) (r:Mo (β×(β→α))):Prop :=
 ∀ F0 H0 σ F h H (Q:VK),Hold L σ F h→Okk F0 H0 F h H→After K r E (un F h) H (fun yp G1 H1=>∀ u,i<L.length→Hold (L.set i (.ow (owPn u O' yp.2 O) yp.1)) σ (less G1 h) h→Q u H1)→te σ H Q
theorem zby_ {O:Own α}{x:α}(hi:L[i]?=some (.ow O x)):EvPw K (mVar i) E L i O O (.ok (x,fun z=>z)):=by
 intro F0 H0 σ F h H Q hL ok q
 obtain ⟨o,hs,_⟩:=ok.back (Ext.refl ok.thaw)
 obtain ⟨_,k,hr,e1,j,⟨v,e2,ho⟩,f⟩:=(hL.mono hs).at i hi
 subst e2
 refine zb3_ e1 (q.ok ok.thaw v (List.getElem?_eq_some_iff.mp hi).1 (zbE_ (hL.mono hs) hi fun v' k ev kh ho=>?_))
 rw [e1] at ev; cases ev
 exact ⟨k,fun _=>none,zpN_,ho,fun z' k1' k' F3 s o' j'=>by rw [zk4_ j']; exact o'⟩
theorem zlF_ {O:Own α}{O1:Own β}{O2:Own γ}{uu v w:V}{put:β→α}{y:β}{z:γ}{st:γ→β}{k:Hp}(pt:∀ ka,Same ka k→O1.O y uu F ka→∃ k1 k2,Jn k1 k2 ka∧O2.O z w F k1∧∀ z' k1' k' F3,Same F F3→O2.O z' w F3 k1'→Jn k1' k2 k'→O1.O (st z') uu F3 k')
  (h:(owPn uu O1 put O).O y v F k):(owPn w O2 (fun z'=>put (st z')) O).O z v F k:=by
 obtain ⟨ka,kb,jk,ho,wand⟩:=h
 obtain ⟨k1,k2,j1,o1,g⟩:=pt ka jk.l ho
 obtain ⟨mm,jm,jh⟩:=zcZ_ j1 jk
 refine ⟨k1,mm,jh,o1,fun z' k1' k' F3 s oz j'=>?_⟩
 obtain ⟨d,jg⟩:=ziO_ jm j'
 exact wand (st z') _ k' F3 s (g z' k1' _ F3 s oz (zch_ d)) jg
theorem zhX_ {O:Own α}{P:Ps γ}{O':Own β}{pr:γ→β}{st:γ→β→γ}{r:Mo (γ×(γ→α))}(nd:ns.Nodup) (hf:ns[n]?=some f) (pa:PsAt P n O' pr st) (hp:EvPw K te E L i O (owI C ns P) r) :
  EvPw K (mFld C te f) E L i O O' (r.bind fun yp=>.ok (pr yp.1,fun z'=>yp.2 (st yp.1 z'))):=by
 intro F0 H0 σ F h H Q hL ok q
 refine hp F0 H0 σ F h H _ hL ok (q.bind.imp fun yp G1 H1 x1 k1 uu il hh=>?_)
 obtain ⟨o1,_,_⟩:=ok.back x1
 have hi:(L.set i (.ow (owPn uu (owI C ns P) yp.2 O) yp.1))[i]?=some (.ow (owPn uu (owI C ns P) yp.2 O) yp.1):=by rw [List.getElem?_set_self (by exact il)]
 obtain ⟨_,k,hr,e1,j,⟨v,e2,ka,kb,jk,⟨p,dx,vs,mm,rfl,ndx,jn,hl,ps⟩,wand⟩,_⟩:=hh.at i hi
 have hp1:h p=some (.ins C dx (ns.zip vs)):=j.l _ _ (jk.l _ _ (jn.l _ _ zf8_))
 obtain ⟨w,_,_,ew,_⟩:=pa ps
 refine ⟨dx,_,w,o1.2.2.1 _ _ hp1,zct_ nd hf ew,?_⟩
 have:=zbE_ (O2:=owPn w O' (fun z'=>yp.2 (st yp.1 z')) O) (x2:=pr yp.1) hh hi fun v k ev kh ho=>zlF_ (st:=st yp.1) (fun ka ks ho=>zl3_ pa hp1 hl ew _ ka (ks.trans kh) ho) ho
 rw [List.set_set] at this
 exact k1.ok x1.2.1 w il this
theorem zmi_ {O:Own α}{O':Own β}{r:Mo (List β×(List β→α))}{rj:Mo Int}(hp:EvPw K te E L i O (owLO O') r) (hj:EvF K ei E L rj tyInt) :
  EvPw K (tOp (mIx K) te ei) E L i O O' (r.bind fun yp=>rj.bind fun j=>(Mo.opt (ixN yp.1.length j)).bind fun n=>(Mo.opt (yp.1[n]?)).bind fun z=>.ok (z,fun z'=>yp.2 (yp.1.set n z'))):=by
 intro F0 H0 σ F h H Q hL ok q
 refine hp F0 H0 σ F h H _ hL ok (q.bind.imp fun yp G1 H1 x1 k1 uu il hh=>?_)
 refine hj σ G1 H1 _ ((hL.froz ok.2.1).mono x1.1) x1.2.1 (k1.bind.imp fun j G2 H2 x2 k2 v2 hv2=>?_)
 cases hv2
 obtain ⟨n,en,k3⟩:=k2.bind.opt
 obtain ⟨z,ez,k4⟩:=(k3.ok x2.2.1).bind.opt
 have k5:=(k4.ok x2.2.1).ok x2.2.1
 obtain ⟨o2,_,_⟩:=ok.back (x1.trans x2)
 have hh:=hh.mono (zed_ (h:=h) x2.1)
 have hi:(L.set i (.ow (owPn uu (owLO O') yp.2 O) yp.1))[i]?=some (.ow (owPn uu (owLO O') yp.2 O) yp.1):=by rw [List.getElem?_set_self (by exact il)]
 obtain ⟨_,k,hr,e1,jj,⟨v,e2,ka,kb,jk,⟨p,vs,mm,rfl,jn,all⟩,wand⟩,_⟩:=hh.at i hi
 have hp1:h p=some (.lst vs):=jj.l _ _ (jk.l _ _ (jn.l _ _ zS_))
 refine ⟨vs,.inl (.of (o2.2.2.1 _ _ hp1)),?_⟩
 have hl:=all.len
 have hn:=zi0_ en
 have hw:vs[n]?=some vs[n]:=List.getElem?_eq_getElem (by omega)
 have en':ixN vs.length j=some n:=by rw [← hl]; exact en
 have ea:atI vs j=some vs[n]:=by unfold atI; rw [en']; exact hw
 rw [ea]
 have:=zbE_ (O2:=owPn vs[n] O' (fun z'=>yp.2 (yp.1.set n z')) O) (x2:=z) hh hi fun v k ev kh ho=>zlF_ (st:=fun z'=>yp.1.set n z') (fun ka ks ho=>ziL_ hp1 hw ez _ ka (ks.trans kh) ho) ho
 rw [List.set_set] at this
 exact k5 _ il this
abbrev tyIs (u:V):Ty Unit:=⟨fun _ v _=>v=u,fun _ q=>q⟩
theorem zno_ {O:Own α}{O':Own β}{r0:Mo (β×(β→α))}{k:β×(β→α)→Mo (Out ρ B S)}{s0:Sl}(hw:L[w]?=some s0) (hne:i≠w) (hp:EvPw K te E L i O O' r0)
  (hk:∀ uu yp,EvS K u E ((L.set i (.ow (owPn uu O' yp.2 O) yp.1)).set w (.fz (tyIs uu) ())) (k yp) LS LB Or):EvS K (tSeq (tAsg te (gName w)) u) E L (r0.bind k) LS LB Or:=by
 intro F0 H0 σ F h H D hL ok fin
 refine hp F0 H0 σ F h H _ hL ok (zad_ (G:=F) ok _ (.inl rfl) fin fun yp G1 H1 hr0 x1 uu il hh=>?_)
 obtain ⟨o1,_,_⟩:=ok.back x1
 rw [hr0] at fin
 refine hk uu yp F0 H0 _ _ h H1 D (zde_ (T:=tyIs uu) (a:=()) (s:=s0) ?_ hh rfl) o1 fin
 rw [List.getElem?_set_ne hne]; exact hw
theorem zfV_ {O:Own α}{O':Own β}{put:β→α}{uu:V}{z:β}(hi:L[i]?=some (.ow (owPn uu O' put O) z)) (hw:L[w]?=some (.fz (tyIs uu) ())):EvPt K (mVar w) E L i (owPn uu O' put O) O' (.ok (z,fun z'=>z')):=by
 intro F0 H0 σ F h H Q hL ok q
 obtain ⟨o,hs,_⟩:=ok.back (Ext.refl ok.thaw)
 obtain ⟨v,ev,fc⟩:=zhf_ (F0:=F0) (H0:=H0) (hL.mono hs) hi
 obtain ⟨_,_,_,e1,_,⟨v',e2,e3⟩,_⟩:=hL.at w hw
 subst e2
 obtain rfl:v'=uu:=e3
 refine zb3_ e1 (q.ok ok.thaw v' (Foc.part (put:=fun z'=>z') fc fun F2 k s kh hq_=>?_))
 obtain ⟨k1,k2,j,a,b⟩:=hq_
 exact ⟨k1,k2,j,a,fun z' k1' k' F3 s o' j'=>⟨k1',k2,j',o',fun z' k1' k' F3 s'=>b z' k1' k' F3 (s.trans s')⟩⟩
theorem zm6_ {O:Own α}{O':Own β}{put:β→α}{uu:V}{z:β}(hi:L[i]?=some (.ow (owPn uu O' put O) z)) (hw:L[w]?=some (.fz (tyIs uu) ())):EvF K (mVar w) E L (.ok z) O'.fr:=by
 intro σ F H Q hL hs q
 obtain ⟨v,e1,a,b⟩:=hL i _ hi
 obtain ⟨v',e2,e3⟩:=hL w _ hw
 obtain rfl:v'=uu:=e3
 unfold mVar
 cases z:σ[w]? with
 | none=>rw [z] at e2; cases e2
 | some o=>rw [z] at e2; cases e2; exact q.ok hs v' b
theorem zoQ_ {O:Own α}{O':Own β}{put:β→α}{uu:V}{z:β}{r:Mo (Out ρ B S)}(hi:L[i]?=some (.ow (owPn uu O' put O) z)) (hk:EvS K u E (L.set i (.ow O (put z))) r LS LB Or):EvS K u E L r LS LB Or:=by
 intro F0 H0 σ F h H D hL ok fin
 exact hk F0 H0 σ F h H D (zbE_ hL hi fun v k _ _ ho=>zhg_ ho) ok fin
theorem zlS_ {r:Mo α}{k:α→Mo ρ}{kk':ρ→Hp→Hp→Hp→Prop}{kk:α→Hp→Hp→Prop}(ok:Okk F0 H0 F h H) (fin:FinM K (r.bind k) E F0 H0 kk') (hk:∀ a F' H',r=.ok a→Ext (un F h) H F' H'→kk a F' H'):After K r E (un F h) H kk:=by
 cases r with
 | ok a=>exact fun F' H' x=>hk a F' H' rfl x
 | no=>exact fin
 | ex c=>exact fun F' H' x=>fin _ _ _ (ok.back x).1
def EvM (K:Fgg) (t:TE) (E:XK) (L:List Sl) (i:Nat) (O:Own α) (Or':Own ρ') (r:Mo (ρ'×α)):Prop :=
 ∀ F0 H0 σ F h H (Q:VK),Hold L σ F h→Okk F0 H0 F h H→FinM K r E F0 H0 (fun q F' h' H'=>∀ v h1 h2,Jn h1 h2 h'→Hold (L.set i (.ow O q.2)) σ F' h1→Or'.O q.1 v F' h2→Q v H')→t σ H Q
theorem zkg_ {G2 H2 ka kb hrest hs' hr F' h' H' k:Hp}(o2:Okk F0 H0 (less G2 h) h H2) (j:Jn k hrest h) (jk:Jn ka kb k) (okc:Okk (un (less G2 h) (less h ka)) (less H2 ka) F' h' H') (j':Jn hr hs' h') :
  Same (less G2 h) (less F' (less h ka))∧Tups F' (less F' (less h ka))∧Dj hs' kb∧Dj (un hs' kb) hrest∧Dj (un (un hs' kb) hrest) hr∧Okk F0 H0 (less F' (less h ka)) (un (un (un hs' kb) hrest) hr) H':=by
 have kah:Same ka h:=jk.l.trans j.l
 have kab:∀ q,kb q≠none→h q=kb q∧ka q=none:=fun q z=>by
  cases y:kb q with
  | none=>exact absurd y z
  | some o =>
   refine ⟨j.l _ _ (jk.r _ _ y),?_⟩
   rcases jk.dj q with x | x
   ·exact x
   ·rw [x] at y; cases y
 have rst:∀ q,hrest q≠none→h q=hrest q∧ka q=none:=fun q z=>by
  cases y:hrest q with
  | none=>exact absurd y z
  | some o =>
   refine ⟨j.r _ _ y,?_⟩
   rcases j.dj q with x | x
   ·exact jk.l.free x
   ·rw [x] at y; cases y
 have key:∀ q,h' q≠none→h q≠none→ka q=none→False:=fun q z1 z2 z3=>by
  have:=okc.2.2.2.1 q z1
  rw [zx_ z3] at this
  exact z2 (o2.2.2.1.free this)
 have h0:∀ q,less H2 ka q=none→H0 q=none:=fun q z=>by
  by_cases y:ka q=none
  ·rw [zx_ y] at z; exact o2.1.2.2.1.free z
  ·exact o2.2.2.2.1 q fun x=>y (kah.free x)
 have old:∀ q o,h q=some o→ka q=none→H' q=some o:=fun q o z1 z2=>okc.1.2.2.1 q o (by rw [zx_ z2]; exact o2.2.2.1 _ _ z1)
 have d1:Dj hs' kb:=fun q=>by
  by_cases z:hs' q=none
  ·exact .inl z
  ·by_cases y:kb q=none
   ·exact .inr y
   ·obtain ⟨a,b⟩:=kab q y
    exact (key q (fun x=>z (j'.r.free x)) (by rw [a]; exact y) b).elim
 have d2:Dj (un hs' kb) hrest:=fun q=>by
  by_cases y:hrest q=none
  ·exact .inr y
  ·left
   obtain ⟨a,b⟩:=rst q y
   have z1:hs' q=none:=by
    by_cases z:hs' q=none
    ·exact z
    ·exact (key q (fun x=>z (j'.r.free x)) (by rw [a]; exact y) b).elim
   have z2:kb q=none:=by
    rcases j.dj q with x | x
    ·exact jk.r.free x
    ·exact absurd x y
   unfold un; rw [z1]; exact z2
 have d3:Dj (un (un hs' kb) hrest) hr:=fun q=>by
  by_cases y:hr q=none
  ·exact .inr y
  ·left
   have hq:h' q≠none:=fun x=>y (j'.l.free x)
   have z1:hs' q=none:=by
    rcases j'.dj q with x | x
    ·exact absurd x y
    ·exact x
   have z2:kb q=none:=by
    by_cases z:kb q=none
    ·exact z
    ·obtain ⟨a,b⟩:=kab q z
     exact (key q hq (by rw [a]; exact z) b).elim
   have z3:hrest q=none:=by
    by_cases z:hrest q=none
    ·exact z
    ·obtain ⟨a,b⟩:=rst q z
     exact (key q hq (by rw [a]; exact z) b).elim
   unfold un; rw [z1]; simp only; rw [z2]; exact z3
 have parts:∀ q o,un (un (un hs' kb) hrest) hr q=some o→h' q=some o∨(h q=some o∧ka q=none):=fun q o z=>by
  unfold un at z
  cases z1:hs' q with
  | some a=>rw [z1] at z; left; rw [← z]; exact j'.r _ _ z1
  | none =>
   rw [z1] at z; simp only at z
   cases z2:kb q with
   | some a=>rw [z2] at z; right; obtain ⟨x,y⟩:=kab q (by rw [z2]; exact Option.some_ne_none _); exact ⟨by rw [x,z2]; exact z,y⟩
   | none =>
    rw [z2] at z; simp only at z
    cases z3:hrest q with
    | some a=>rw [z3] at z; right; obtain ⟨x,y⟩:=rst q (by rw [z3]; exact Option.some_ne_none _); exact ⟨by rw [x,z3]; exact z,y⟩
    | none=>rw [z3] at z; left; exact j'.l _ _ z
 have ff:Same (less G2 h) (less F' (less h ka)):=fun b o z=>by
  have hb:h b=none:=by
   cases y:h b with
   | none=>rfl
   | some s=>rw [zB_ b (by rw [y]; exact Option.some_ne_none _)] at z; cases z
  have:less h ka b=none:=zaj_.free hb
  rw [zx_ this]
  exact okc.1.1 _ _ (zU_ _ _ z)
 have lo:∀ q',less h ka q'≠none→h q'≠none:=fun q' z y=>z (by unfold less; split; exact y; rfl)
 have tp:Tups F' (less F' (less h ka)):=fun b xs z=>by
  cases y:less h ka b with
  | none=>rw [zx_ y]; exact z
  | some s =>
   exfalso
   have y2:un (less G2 h) (less h ka) b=some s:=by
    unfold un
    have:less G2 h b=none:=zB_ b (lo b (by rw [y]; exact Option.some_ne_none _))
    rw [this]; exact y
   have:=okc.1.1 _ _ y2
   rw [z] at this
   injection this with this
   exact o2.2.2.2.2 b xs (by rw [this]; exact zaj_ _ _ y)
 refine ⟨ff,tp,d1,d2,d3,⟨o2.1.1.trans ff,fun b o z=>okc.1.2.1 _ _ (zaj_ _ _ z),fun b o z=>?_,fun b a1 a2=>?_⟩,fun b=>?_,fun b o z=>?_,fun b z=>?_,fun b xs z=>?_⟩
 ·have kb0:ka b=none:=by
   by_cases y:ka b=none
   ·exact y
   ·have:=o2.2.2.2.1 b fun x=>y (kah.free x)
    rw [z] at this; cases this
  exact okc.1.2.2.1 b o (by rw [zx_ kb0]; exact o2.1.2.2.1 _ _ z)
 ·by_cases y0:less G2 h b=none
  ·have y:less h ka b=none:=by
    cases y:less h ka b with
    | none=>rfl
    | some s=>exact absurd (zB_ b (by rw [y]; exact Option.some_ne_none _)) a2
   rw [zx_ y] at a2
   exact h0 b (okc.1.2.2.2 b (by unfold un; rw [y0]; exact y) a2)
  ·exact o2.1.2.2.2 b a1 y0
 ·cases z:un (un (un hs' kb) hrest) hr b with
  | none=>exact .inr rfl
  | some o =>
   left
   rcases parts b o z with y | ⟨y1,y2⟩
   ·rcases okc.2.1 b with x | x
    ·exact zaj_.free x
    ·rw [x] at y; cases y
   ·exact zB_ b (by rw [zx_ y2,y1]; exact Option.some_ne_none _)
 ·rcases parts b o z with y | ⟨y1,y2⟩
  ·exact okc.2.2.1 _ _ y
  ·exact old b o y1 y2
 ·cases y:un (un (un hs' kb) hrest) hr b with
  | none=>exact absurd y z
  | some o =>
   rcases parts b o y with x | ⟨x,_⟩
   ·exact h0 b (okc.2.2.2.1 b (by rw [x]; exact Option.some_ne_none _))
   ·exact o2.2.2.2.1 b (by rw [x]; exact Option.some_ne_none _)
 ·rcases parts b _ z with y | ⟨y,_⟩
  ·exact okc.2.2.2.2 b xs y
  ·exact o2.2.2.2.2 b xs y
end
end L2
namespace L2
open PySem PySem.Spec PyProof.Rows
section
variable {K:Fgg}{E:XK}{α β γ δ ρ ρ' S B:Type}{F0 H0 F h H:Hp}{L:List Sl}{e te ei tc:TE}{T:Ty α}{r:Mo α}{Or:Own ρ}{Or':Own ρ'}{t u:TS}{LS:S→List Sl}{LB:B→List Sl}{σ:St}{C:Addr}{ns:List Str}{f m:Str}{i n w j:Nat}
theorem zc8_ {r:Mo ρ'}{k:ρ'→Mo (Out ρ B S)}{D:Ends}{kk:ρ'→Hp→Hp→Hp→Prop}(fin:Fin K (r.bind k) E LS LB Or F0 H0 D) (hk:∀ q F' h' H',r=.ok q→Okk F0 H0 F' h' H'→kk q F' h' H'):FinM K r E F0 H0 kk:=by
 cases r with
 | ok q=>exact fun F h H o=>hk q F h H rfl o
 | ex c=>exact fin
 | no=>exact fin
theorem zeS_ {O:Own α}{O':Own β}{w:V}{r:Mo (β×(β→α))}(hp:EvPw K te E L i O (owAt w O') r):EvPw K te E L i O O' r:=by
 intro F0 H0 σ F h H Q hL ok q
 refine hp F0 H0 σ F h H _ hL ok (q.imp fun yp G1 H1 x1 k1 uu il hh=>k1 uu il ?_)
 have hi:(L.set i (.ow (owPn uu (owAt w O') yp.2 O) yp.1))[i]?=some (.ow (owPn uu (owAt w O') yp.2 O) yp.1):=by rw [List.getElem?_set_self (by exact il)]
 have:=zbE_ (O2:=owPn uu O' yp.2 O) (x2:=yp.1) hh hi fun v k ev kh ⟨ka,kb,jk,⟨e,ho⟩,wand⟩=>⟨ka,kb,jk,ho,fun z' k1' k' F3 s oz j'=>wand z' k1' k' F3 s ⟨e,oz⟩ j'⟩
 rwa [List.set_set] at this
theorem zqi_ {O:Own α}{r:Mo (ρ'×α)}{s0:Sl}{k:ρ'×α→Mo (Out ρ B S)}(hw:L[w]?=some s0) (hne:i≠w) (hm:EvM K tc E L i O Or' r) (hk:∀ q,EvS K u E ((L.set i (.ow O q.2)).set w (.ow Or' q.1)) (k q) LS LB Or) :
  EvS K (tSeq (tAsg tc (gName w)) u) E L (r.bind k) LS LB Or:=by
 intro F0 H0 σ F h H D hL ok fin
 refine hm F0 H0 σ F h H _ hL ok (zc8_ fin fun q F' h' H' hr o v h1 h2 j hold res=>?_)
 rw [hr] at fin
 have hw':(L.set i (.ow O q.2))[w]?=some s0:=by rw [List.getElem?_set_ne hne]; exact hw
 obtain ⟨_,kw,hrest,e1,jw,_,f⟩:=hold.atM w hw'
 have d:Dj h2 hrest:=fun p=>by
  rcases j.dj p with z | z
  ·exact .inr (jw.r.free z)
  ·exact .inl z
 refine hk q F0 H0 (σ.set w (some v)) F' (un h2 hrest) H' D (f F' (.ow Or' q.1) (some v) h2 _ (Same.refl _) (zch_ d) ⟨v,rfl,res⟩) (zcR_ o fun p s z=>?_) fin
 unfold un at z
 cases y:h2 p with
 | some w=>rw [y] at z; rw [← z]; exact j.r _ _ y
 | none=>rw [y] at z; exact j.l _ _ (jw.r _ _ z)
theorem zqq_ {O:Own α}{T:Ty β}{r:Mo (β×α)}{xs:List β}{k:β×α→Mo (Out ρ B S)}(hw:L[w]?=some (.ow (owL T) xs)) (hne:i≠w) (hm:EvM K tc E L i O (owF T) r) (hk:∀ q,EvS K u E ((L.set i (.ow O q.2)).set w (.ow (owL T) (xs++[q.1]))) (k q) LS LB Or) :
  EvS K (tSeq (tDrop (tBM K "list" rAppend (mVar w) (tCons tc tNil))) u) E L (r.bind fun q=>.lim (xs.length+1) (k q)) LS LB Or:=by
 intro F0 H0 σ F h H D hL ok fin
 obtain ⟨p,vs,e1,hp,hr,_⟩:=zci_ hL hw ok
 show mVar w σ H fun x H1=>tyV K "list" x H1∧tCons tc tNil σ H1 fun xs H2=>rAppend x xs H2 (fun _ H3=>u D σ H3)
 refine zb3_ e1 ⟨.inl ⟨rfl,vs,.of hp⟩,?_⟩
 refine hm F0 H0 σ F h H _ hL ok (zc8_ fin fun q F' h' H' hra o v h1 h2 j hold res=>?_)
 rw [hra] at fin
 obtain ⟨hz,fin⟩:=zdN_ (show Fin K (Mo.lim (xs.length+1) (k q)) E LS LB Or F0 H0 D from fin)
 have hw':(L.set i (.ow O q.2))[w]?=some (.ow (owL T) xs):=by rw [List.getElem?_set_ne hne]; exact hw
 obtain ⟨p',vs',e1',hp',hr',mm⟩:=zci_ hold hw' (zcR_ o j.l)
 rw [e1] at e1'; cases e1'
 obtain ⟨h',a1,a2⟩:=mm (xs++[q.1]) (vs'++[v]) (hr'.append (.cons res.2 .nil))
 exact ⟨p,vs',v,rfl,rfl,hp',by rw [← hr'.len]; lia,hk q F0 H0 σ _ h' _ D a1 a2 fin⟩
theorem zj9_ {O:Own α}{x:α}{v0:V}(hi:i<L.length) (hL:Hold (L.set i (.ow (owAt v0 O) x)) σ F h):∃ k,Same k h∧O.O x v0 F k:=by
 obtain ⟨_,k,_,_,j,⟨v',_,e3,ho⟩,_⟩:=hL.at i (by rw [List.getElem?_set_self (by exact hi)])
 subst e3
 exact ⟨k,j.l,ho⟩
theorem zn2_ {O2:Own α}{v0:V}{r:Mo (ρ×α)}(hi:i<L.length) (hm:EvM K tc E L i (owAt v0 O2) Or r):EvS K (tRet tc) E L (r.bind fun q=>.ok (.rt q)) LS LB (owRM v0 O2 Or):=by
 intro F0 H0 σ F h H D hL ok fin
 refine hm F0 H0 σ F h H _ hL ok (zc8_ fin fun q F' h' H' hr o v h1 h2 j hold res=>?_)
 rw [hr] at fin
 obtain ⟨k,kh,ho⟩:=zj9_ hi hold
 have d:Dj h2 k:=fun p=>by
  rcases j.dj p with z | z
  ·exact .inr (kh.free z)
  ·exact .inl z
 refine fin v F' (un h2 k) H' (zcR_ o fun p s z=>?_) ⟨h2,k,zch_ d,res,ho⟩
 unfold un at z
 cases y:h2 p with
 | some w=>rw [y] at z; rw [← z]; exact j.r _ _ y
 | none=>rw [y] at z; exact j.l _ _ (kh _ _ z)
theorem zmk_ {O2:Own α}{T:Ty β}{v0:V}{r:Mo (β×α)}(hi:i<L.length) (hm:EvM K tc E L i (owAt v0 O2) (owF T) r):EvS K (tRet (tLst (tCons tc tNil))) E L (r.bind fun q=>.ok (.rt ([q.1],q.2))) LS LB (owRM v0 O2 (owL T)):=by
 intro F0 H0 σ F h H D hL ok fin
 show tc σ H fun v H1=>[v].length≤sizeLine∧∀ p,H1 p=none→D.rt (.ref p) (upd H1 p (.lst [v]))
 refine hm F0 H0 σ F h H _ hL ok (zc8_ fin fun q F' h' H' hr o v h1 h2 j hold res=>⟨zdL_ (by simp),fun p hp=>?_⟩)
 rw [hr] at fin
 obtain ⟨k,kh,ho⟩:=zj9_ hi hold
 have o1:=zcR_ o (kh.trans j.l)
 have hp0:k p=none:=o1.2.2.1.free hp
 have Fp:F' p=none:=o1.1.2.1.free hp
 have H0p:H0 p=none:=o1.1.2.2.1.free hp
 have d:Dj (one p (.lst [v])) k:=fun q=>by
  by_cases z:q=p
  ·rw [z]; exact .inr hp0
  ·left; unfold one; rw [if_neg z]
 have up:∀ b (s:HO) (X:Hp),X p=none→X b=some s→b≠p:=fun b s X z1 z2 z3=>by rw [z3,z1] at z2; cases z2
 refine fin (.ref p) F' (un (one p (.lst [v])) k) _ ⟨⟨o1.1.1,fun b s z=>by rw [z7_ (up b s F' Fp z)]; exact o1.1.2.1 _ _ z,fun b s z=>by rw [z7_ (up b s H0 H0p z)]; exact o1.1.2.2.1 _ _ z,o1.1.2.2.2⟩,fun b=>?_,fun b s z=>?_,fun b z=>?_,fun b xs z=>?_⟩ ⟨_,k,zch_ d,⟨p,[v],rfl,rfl,.cons res.2 .nil⟩,ho⟩
 ·by_cases z:b=p
  ·rw [z]; exact .inl Fp
  ·unfold un one; rw [if_neg z]; exact o1.2.1 b
 ·unfold un one at z
  by_cases y:b=p
  ·rw [y,zaC_]; rw [if_pos y] at z; exact z
  ·rw [if_neg y] at z; rw [z7_ y]; exact o1.2.2.1 _ _ z
 ·unfold un one at z
  by_cases y:b=p
  ·rw [y]; exact H0p
  ·rw [if_neg y] at z; exact o1.2.2.2.1 b z
 ·unfold un one at z
  by_cases y:b=p
  ·rw [if_pos y] at z; cases z
  ·rw [if_neg y] at z; exact o1.2.2.2.2 b xs z
theorem zlP_ {O2:Own α}{v0:V}{x:α}{a:ρ}(hij:i≠j) (hi:L[i]?=some (.ow (owAt v0 O2) x)) (hj:L[j]?=some (.ow Or a)):EvS K (tRet (mVar j)) E L (.ok (.rt (a,x))) LS LB (owRM v0 O2 Or):=by
 intro F0 H0 σ F h H D hL ok fin
 obtain ⟨_,kj,hr,ej,jj,⟨v,e2,ha⟩,f⟩:=hL.at j hj
 subst e2
 have hd:=f .dead (some v) (fun _=>none) hr (fun p=>.inl ⟨rfl,rfl⟩) trivial
 obtain ⟨_,ki,_,_,ji,⟨v',_,e3,hx⟩,_⟩:=hd.at i (by rw [List.getElem?_set_ne (Ne.symm hij)]; exact hi)
 subst e3
 have d:Dj kj ki:=fun p=>by
  rcases jj.dj p with z | z
  ·exact .inl z
  ·exact .inr (ji.l.free z)
 refine zb3_ ej (fin v F (un kj ki) H (zcR_ ok fun p s z=>?_) ⟨kj,ki,zch_ d,ha,hx⟩)
 unfold un at z
 cases y:kj p with
 | some w=>rw [y] at z; rw [← z]; exact jj.l _ _ y
 | none=>rw [y] at z; exact jj.r _ _ (ji.l _ _ z)
end
end L2
namespace L2
open PySem PySem.Spec PyProof.Rows
section
variable {K:Fgg}{E:XK}{α β γ δ ρ ρ' S B:Type}{F0 H0 F h H:Hp}{L:List Sl}{e te ei tc:TE}{T:Ty α}{r:Mo α}{Or:Own ρ}{Or':Own ρ'}{t u:TS}{LS:S→List Sl}{LB:B→List Sl}{σ:St}{C:Addr}{ns:List Str}{f m:Str}{i n w j:Nat}
theorem zfH_ {lv:List Str}{fr:List (Str×Nat)}{wi:TI}{g:TG}{tt:TT}{te:TE}{r:Mo (List α)}{ss:α→List (Nat×Sl)}{c:α→Mo Bool}{f:α→Mo β}{O':Own β}
  (hi:EvI K wi E L r T) (hg:TgR K g T ss) (hd:∀ a,DeadAt (cL lv fr L) ((ss a).map (·.1))) (ht:∀ a,EvT K tt E0 (setL (cL lv fr L) (ss a)) (c a)) (he:∀ a,EvO K te E0 (setL (cL lv fr L) (ss a)) (f a) O') :
  EvO K (tComp lv fr wi g tt te) E L (r.bind fun xs=>compM (fun x=>cond1 (c x) (f x)) xs []) (owLO O'):=by
 intro σ F0 H0 Q hL hs q
 refine hi σ F0 H0 _ hL hs (q.bind.imp fun xs F1 H1 x1 k1 J Y D hD=>?_)
 have hL1:=hL.mono x1.1
 refine ⟨fun i m ys σ' H'=>m=xs.length-i∧i≤xs.length∧∃ acc Fi hh,Ext F1 H1 Fi H'∧Fi D=none∧hh D=none∧H' D=some (.lst ys)∧OwAll O' Fi acc ys hh∧Dj Fi hh∧Same hh H'∧(∀ p,hh p≠none→H1 p=none)∧HoldF (cL lv fr L) σ' F1∧σ'.length=(cL lv fr L).length∧After K (compM (fun x=>cond1 (c x) (f x)) (xs.drop i) acc) E F1 H1 (OwnK (owLO O') H0 Q),
  ⟨_,rfl,Nat.zero_le _,[],F1,fun _=>none,.heap x1.2.1 (zeE_ hD _),x1.2.1.free hD,rfl,zaC_,fun _=>rfl,fun _=>.inr rfl,(fun p o z=>by cases z),fun p z=>absurd rfl z,zkb_ hL1,zmQ_.symm,k1⟩,?_⟩
 rintro i m ys σ' H' ⟨rfl,hi,acc,Fi,hh,xi,hDi,hDh,hy,hp,dj,sh,fresh,hσ,hln,A⟩
 by_cases hlt:i<xs.length
 ·right
  have ex:xs[i]?=some xs[i]:=List.getElem?_eq_getElem hlt
  obtain ⟨g1,g2⟩:=Y.go i H' xs[i] (xi.1.trans xi.2.1) ex
  refine ⟨g1,fun ys' σ'' H''=>i+1≤xs.length∧∃ acc Fi hh,Ext F1 H1 Fi H''∧Fi D=none∧hh D=none∧H'' D=some (.lst ys')∧OwAll O' Fi acc ys' hh∧Dj Fi hh∧Same hh H''∧(∀ p,hh p≠none→H1 p=none)∧HoldF (cL lv fr L) σ'' F1∧σ''.length=(cL lv fr L).length∧After K (compM (fun x=>cond1 (c x) (f x)) (xs.drop (i+1)) acc) E F1 H1 (OwnK (owLO O') H0 Q),fun ys' σ'' H'' z=>⟨xs.length-(i+1),by omega,rfl,z⟩,fun v H2 hyl=>?_⟩
  obtain ⟨F2,x2,hv⟩:=g2 v H2 hyl Fi xi.1 xi.2.1
  have keep:∀ {Fa Ha Fb Hb:Hp},Ext Fa Ha Fb Hb→Fa D=none→Ha D=some (.lst ys)→Dj Fa hh→Same hh Ha→(Fb D=none∧Hb D=some (.lst ys))∧Dj Fb hh∧Same hh Hb:=by
   intro Fa Ha Fb Hb x h1 h2 h3 h4
   refine ⟨⟨?_,x.2.2.1 _ _ h2⟩,fun p=>?_,h4.trans x.2.2.1⟩
   ·cases z:Fb D with
    | none=>rfl
    | some o=>have:=x.2.2.2 D h1 (by rw [z]; exact Option.some_ne_none _); rw [h2] at this; cases this
   ·cases y:hh p with
    | none=>exact .inr rfl
    | some w =>
     left
     rcases h3 p with z | z
     ·cases zz:Fb p with
      | none=>rfl
      | some o=>have:=x.2.2.2 p z (by rw [zz]; exact Option.some_ne_none _); rw [h4 _ _ y] at this; cases this
     ·rw [z] at y; cases y
  obtain ⟨⟨hD2,hy2⟩,dj2,sh2⟩:=keep x2 hDi hy dj sh
  refine hg xs[i] v σ' F2 H2 _ x2.2.1 hv fun vs hpl=>?_
  have hσ2:HoldF (cL lv fr L) σ' F2:=hσ.mono (xi.1.trans x2.1)
  obtain ⟨a1,a2,a3⟩:=ziq_ hpl hln.symm hσ2
  have hσd:HoldF (cL lv fr L) (setS σ' vs) F1:=by
   have hdead:=hd xs[i]
   refine fun j s e=>?_
   by_cases hj:∃ q∈(ss xs[i]).map (·.1),q=j
   ·obtain ⟨q,hq,rfl⟩:=hj
    rw [hdead q hq s e]; trivial
   ·have:((setS σ' vs)[j]?)=σ'[j]?:=zmb_ hpl (fun hq=>hj ⟨j,hq,rfl⟩)
    rw [this]; exact hσ j s e
  have hdrop:xs.drop i=xs[i]::xs.drop (i+1):=List.drop_eq_getElem_cons hlt
  rw [hdrop] at A
  unfold compM at A
  cases ec:c xs[i] with
  | no=>unfold cond1 at A; rw [ec] at A; exact A.elim
  | ex cc=>unfold cond1 at A; rw [ec] at A; exact A.elim
  | ok bb =>
   refine ht xs[i] _ F2 H2 _ a1 x2.2.1 ?_
   rw [ec]
   intro F3 H3 x3
   obtain ⟨⟨hD3,hy3⟩,dj3,sh3⟩:=keep x3 hD2 hy2 dj2 sh2
   have x13:=(xi.trans x2).trans x3
   cases bb with
   | false =>
    rw [if_neg (by decide)]
    refine ⟨hlt,acc,F3,hh,x13,hD3,hDh,hy3,hp.mono (x2.1.trans x3.1),dj3,sh3,fresh,hσd,by rw [a2]; exact hln,?_⟩
    unfold cond1 at A; rw [ec] at A
    exact A
   | true =>
    rw [if_pos rfl]
    cases ef:f xs[i] with
    | no=>unfold cond1 at A; rw [ec,ef] at A; exact A.elim
    | ex cc=>unfold cond1 at A; rw [ec,ef] at A; exact A.elim
    | ok y =>
     unfold cond1 at A; rw [ec,ef] at A
     have A':After K (Mo.lim (acc.length+1) (compM (fun x=>cond1 (c x) (f x)) (xs.drop (i+1)) (acc++[y]))) E F1 H1 (OwnK (owLO O') H0 Q):=A
     obtain ⟨hz,A'⟩:=A'.lim
     refine he xs[i] _ F3 H3 _ (a1.mono x3.1) x3.2.1 ?_
     rw [ef]
     intro F4 H4 x4 v4 hn fr4 dj4n sn4 hv4
     obtain ⟨⟨hD4,hy4⟩,dj4,sh4⟩:=keep x4 hD3 hy3 dj3 sh3
     have hlen:=hp.len
     have hnD:hn D=none:=by
      cases z:hn D with
      | none=>rfl
      | some w=>have:=fr4 D (by rw [z]; exact Option.some_ne_none _); rw [hy3] at this; cases this
     have djn:Dj hh hn:=fun p=>by
      cases z:hn p with
      | none=>exact .inr rfl
      | some w=>exact .inl (sh3.free (fr4 p (by rw [z]; exact Option.some_ne_none _)))
     have x14:=x13.trans x4
     refine ⟨hy4,by omega,hlt,acc++[y],F4,un hh hn,?_,hD4,by unfold un; rw [hDh]; exact hnD,zaC_,(hp.mono ((x2.1.trans x3.1).trans x4.1)).snoc hv4 djn,fun p=>?_,fun p o z=>?_,fun p z=>?_,hσd,by rw [a2]; exact hln,A'⟩
     ·refine ⟨x14.1,fun b o z=>?_,fun b o z=>?_,x14.2.2.2⟩
      ·unfold upd; split
       ·rename_i w; rw [w,hD4] at z; cases z
       ·exact x14.2.1 _ _ z
      ·unfold upd; split
       ·rename_i w; rw [w,hD] at z; cases z
       ·exact x14.2.2.1 _ _ z
     ·unfold un
      cases z:hh p with
      | some w =>
       rcases dj4 p with y | y
       ·exact .inl y
       ·rw [y] at z; cases z
      | none=>exact dj4n p
     ·have hpD:p≠D:=fun w=>by
       unfold un at z; rw [w,hDh,hnD] at z; cases z
      unfold upd; rw [if_neg hpD]
      unfold un at z
      cases w:hh p with
      | some o'=>rw [w] at z; cases z; exact sh4 _ _ w
      | none=>rw [w] at z; exact sn4 _ _ z
     ·unfold un at z
      cases w:hh p with
      | some o'=>exact fresh p (by rw [w]; exact Option.some_ne_none _)
      | none=>rw [w] at z; exact x13.2.2.1.free (fr4 p z)
 ·left
  have e:i=xs.length:=by omega
  subst e
  refine ⟨Y.stop H' (xi.1.trans xi.2.1),?_⟩
  rw [List.drop_length] at A
  have A':OwnK (owLO O') H0 Q acc Fi H':=A Fi H' xi
  have dD:Dj (one D (.lst ys)) hh:=fun p=>by
   unfold one; split
   ·rename_i w; rw [w]; exact .inr hDh
   ·exact .inl rfl
  refine A' (.ref D) (un (one D (.lst ys)) hh) (fun p z=>?_) (fun p=>?_) (fun p o z=>?_) ⟨D,ys,hh,rfl,zch_ dD,hp⟩
  ·unfold un one at z
   by_cases w:p=D
   ·rw [w]; exact x1.2.2.1.free hD
   ·simp only [if_neg w] at z; exact x1.2.2.1.free (fresh p z)
  ·by_cases w:p=D
   ·rw [w]; exact .inl hDi
   ·unfold un one; simp only [if_neg w]; exact dj p
  ·unfold un one at z
   by_cases w:p=D
   ·simp only [if_pos w] at z; rw [w]; cases z; exact hy
   ·simp only [if_neg w] at z; exact sh _ _ z
theorem EvO.weak {O O2:Own α}{e:TE}{r:Mo α}(h:∀ {a v F h},O.O a v F h→O2.O a v F h) (he:EvO K e E L r O):EvO K e E L r O2:=by
 intro σ F H Q hL hs q
 exact he σ F H Q hL hs (q.imp fun a F1 H1 x1 k1 v hp fresh d s o=>k1 v hp fresh d s (h o))
theorem zp1_ {h1 h2 h:Hp}(j:Jn h1 h2 h) (n:∀ p,h2 p=none):h=h1:=funext fun p=>by
 rcases j p with ⟨a,b⟩ | ⟨_,b⟩
 ·rw [b,n,a]
 ·exact b
theorem OwAll.plain {T':Ty β}:∀ {xs:List β}{vs:List V}{F h:Hp},OwAll (owF T') F xs vs h→(∀ p,h p=none)∧Prs T' F xs vs
 | [],[],_,_,q=>⟨q,.nil⟩
 | x::xs,v::vs,_,_,⟨h1,h2,j,⟨e,r⟩,q⟩=>have z:=OwAll.plain q; ⟨fun p=>by rw [zp1_ j z.1]; exact e p,.cons r z.2⟩
 | [],_::_,_,_,q=>q.elim
 | _::_,[],_,_,q=>q.elim
theorem zcx_ {lv:List Str}{fr:List (Str×Nat)}{wi:TI}{g:TG}{tt:TT}{te:TE}{r:Mo (List α)}{ss:α→List (Nat×Sl)}{c:α→Mo Bool}{f:α→Mo β}{T':Ty β}
  (hi:EvI K wi E L r T) (hg:TgR K g T ss) (hd:∀ a,DeadAt (cL lv fr L) ((ss a).map (·.1))) (ht:∀ a,EvT K tt E0 (setL (cL lv fr L) (ss a)) (c a)) (he:∀ a,EvF K te E0 (setL (cL lv fr L) (ss a)) (f a) T') :
  EvO K (tComp lv fr wi g tt te) E L (r.bind fun xs=>compM (fun x=>cond1 (c x) (f x)) xs []) (owL T') :=
 EvO.weak (O:=owLO (owF T')) (O2:=owL T') (fun ⟨p,vs,k,e,j,q⟩=>have z:=OwAll.plain q; ⟨p,vs,e,zp1_ j z.1,z.2⟩) (zfH_ hi hg hd ht fun a=>EvF.ow (he a))
section
open PySem PySem.Spec PyProof.Rows PySem.W
variable {κ:Type}
def mSortDk (b:Nat) (_:Fgg):List V→Hp→VK→Prop:=fun xs H Q=>match xs with
 | [.ref p]=>∃ (kvs:List (Key×V)) (k:Nat) (lt:Nat→Nat→Bool),H p=some (.dK kvs)∧kvs.length<b∧WOr lt∧k≠0∧(∀ q∈kvs,knd (kV q.1)=k)∧(∀ i j x y,(kvs.map fun q:Key×V=>kV q.1)[i]?=some x→(kvs.map fun q=>kV q.1)[j]?=some y→lt i j=ltF x y) ∧
   ∀ idx,Srtd lt kvs.length idx→∀ l,H l=none→Q (.ref l) (upd H l (.lst (idx.map fun i=>(kvs.map fun q=>kV q.1).getD i .non)))
 | _=>False
theorem zgt_ {b:Nat}(hB:RunB b) {X:Cx}(hc:X.calm=true):CallR X (.builtin "sorted") (mSortDk b X.K):=by
 have hB1:=hB.1
 intro pins s σ H xs us Q I r h
 have hv:∃ p,xs=[.ref p]:=by
  rcases xs with _ | ⟨y,_ | ⟨z,t⟩⟩
  ·exact False.elim h
  ·cases y with
   | ref p=>exact ⟨p,rfl⟩
   | _=>exact False.elim h
  ·cases y<;>exact False.elim h
 obtain ⟨p,rfl⟩:=hv
 ·
  ·
   obtain ⟨kvs,k,lt,hp,h64,wo,hk,hall,hlt,q⟩:=h
   obtain ⟨u,rfl,rx⟩:=vals1 r
   cases rx
   obtain ⟨z,hd,vs,rel,dd⟩:=zo7_ I.hok (.inl hp)
   obtain ⟨ep,hat⟩:=dd.dictAt
   have hln:kvs.length=vs.length:=rel.length
   have hpv:∀ us:List Value,Vals (kvs.map fun q=>kV q.1) us→us.length=kvs.length:=fun us hv=>by rw [← Vals.length hv,List.length_map]
   refine zlm_ hB (n:=kvs.length) (PV:=fun us=>Vals (kvs.map fun q=>kV q.1) us) h64 wo hpv (fun R hR=>?_) (fun us hv h2 h' tk _=>?_) fun us l h' tk c idx hv hl kp hi ho=>?_
   ·refine zme_ (kdl_dict (knd:=mixKind X.prog X.w) (kvs:=vs) (ep:=ep) hd) ?_ hat (by rw [← hln,sizeLine_eq]; lia) fun h' tk acc hsz hkp hacc=>hR _ h' tk ?_ (Nat.le_of_lt hsz) hkp
    ·exact I.ok.hd hc
    ·have hl:acc.toList.length=kvs.length:=by rw [Array.length_toList,hln]; exact hacc.1
     have e:∀ (ks:List (Key×V)) (us:List Value),ks.length=us.length→(∀ (i:Nat) (q:Key×V) (u:Value),ks[i]?=some q→us[i]?=some u→RelV (kV q.1) u)→Vals (ks.map fun q=>kV q.1) us:=by
      intro ks
      induction ks with
      | nil=>intro us hl _; cases us with | nil=>exact .nil | cons _ _=>simp at hl
      | cons q ks ih =>
       intro us hl hh
       cases us with
       | nil=>simp at hl
       | cons u us=>exact .cons (hh 0 q u rfl rfl) (ih us (by simpa using hl) fun i q' u' e1 e2=>hh (i+1) q' u' (by simpa using e1) (by simpa using e2))
     refine e kvs acc.toList hl.symm fun i q u e1 e2=>?_
     obtain ⟨k',x,ek,hk'⟩:=hacc.2 i u (by rw [← Array.getElem?_toList]; exact e2)
     have:∀ (a:List (Key×V)) (b:List (Key×Value)) (i:Nat) q k' x,KV a b→a[i]?=some q→b[i]?=some (k',x)→q.1=k':=by
      intro a b i q k' x hab
      unfold KV at hab
      induction hab generalizing i with
      | nil=>intro e; simp at e
      | cons r t ih =>
       intro e1 e2
       cases i with
       | zero=>simp at e1 e2; subst e1; have:=r.1; rw [e2] at this; exact this
       | succ i=>exact ih i (by simpa using e1) (by simpa using e2)
     rw [this kvs vs i q k' x rel e1 ek]
     exact is_kV hk'
   ·refine zmu_ hv hk (fun y hy=>?_) hlt h2
    obtain ⟨q,hq,rfl⟩:=List.mem_map.mp hy
    exact hall q hq
   ·have hlu:=hpv us hv
    refine ⟨.ref l,_,I.laid (o:=.lst (idx.map fun i=>(kvs.map fun q=>kV q.1).getD i .non)) (t':=tk) kp hl ?_,rfl,q idx (by rwa [← hlu]) _ (I.hok.fresh hl)⟩
    have hi1:∀ i∈idx,i<us.length:=fun i hi'=>List.mem_range.mp (hi.1.mem_iff.mp hi')
    refine ⟨?_,_,c,zjc_ hv idx hi1,ho⟩
    rw [List.length_map,hi.1.length_eq,List.length_range,sizeLine_eq]
    lia
theorem ziu_ {b:Nat} [DecidableEq κ] {KY:KyT κ}{T:Ty α}{k:Nat}{lt:κ→κ→Bool}(f:FlT KY.T k lt) (o:LOr lt) (hk:∀ x F,KY.T.R x (kV (KY.key x)) F) (b0:0<b:=by decide) :
  BlO K (mSortDk b K) E (csLast (tyD KY T)) (fun m=>.grd (m.length<b) (.ok (srtL lt (m.map (·.1))))) (owL KY.T):=by
 rintro m vs F H Q hs ⟨v,rfl,p,kvs,rfl,h,r⟩ q
 have hl:m.length=kvs.length:=Paired.length r
 have pr:Prs KY.T F (m.map (·.1)) (kvs.map fun q=>kV q.1):=by
  clear h hl q
  induction r with
  | nil=>exact .nil
  | cons a t ih=>rename_i q w m kvs; rw [List.map_cons,List.map_cons,a.1]; exact .cons (hk _ _) ih
 obtain ⟨h64,q⟩:=q.grd
 have all:∀ q∈kvs,knd (kV q.1)=k:=fun q hq=>by
  obtain ⟨i,e⟩:=List.mem_iff_getElem?.mp (List.mem_map_of_mem (f:=fun q:Key×V=>kV q.1) hq)
  obtain ⟨x,_,rx⟩:=zj5_ pr i _ e
  exact (f.2 x _ F rx).1
 cases m with
 | nil =>
  cases r
  refine ⟨[],1,fun _ _=>false,hs _ _ h,b0,⟨(fun h=>by cases h),(fun _ _=>rfl)⟩,by decide,(fun y hy=>by cases hy),(fun i j x y e=>by simp at e),fun idx hi l hl=>?_⟩
  have:idx=[]:=by have:=hi.1.length_eq; simpa using this
  subst this
  rw [show srtL lt (([]:List (κ×α)).map (·.1))=[] by simp [srtL]] at q
  exact zdP_ hs hl (xs:=[]) .nil q
 | cons x xs =>
  refine ⟨kvs,k,fun i j=>lt (((x::xs).map (·.1)).getD i x.1) (((x::xs).map (·.1)).getD j x.1),hs _ _ h,by lia,zqd_ o _,f.1,all,fun i j a b ea eb=>?_,fun idx hi l hl2=>?_⟩
  ·obtain ⟨a',ea',ra⟩:=zj5_ pr i a ea
   obtain ⟨b',eb',rb⟩:=zj5_ pr j b eb
   show lt (((x::xs).map (·.1)).getD i x.1) (((x::xs).map (·.1)).getD j x.1)=_
   rw [List.getD_eq_getElem?_getD,List.getD_eq_getElem?_getD,ea',eb']
   exact ((f.2 a' a F ra).2 b' b F rb).1.symm
  ·rw [← hl,← List.length_map (f:=(·.1))] at hi
   have e:=zkh_ o hi
   rw [← e] at q
   refine zdP_ hs hl2 (zlu_ pr x.1 idx fun i hi'=>?_) q
   have:=List.mem_range.mp (hi.1.mem_iff.mp hi')
   rw [List.length_map] at this ⊢
   lia
end
theorem zfT_ {r:Mo (List α)}{ta:TA}(h:EvA K ta E L r (csLast (tyL T))):EvI K (iEnumL K ta) E L (r.bind fun l=>.ok (enumL l)) (tyTup (csCons tyInt (csLast T))):=by
 intro σ F H R hL hs q
 refine h σ F H _ hL hs (q.bind.imp fun l F1 H1 x1 k1 vs hv=>?_)
 obtain ⟨v,rfl,p,us,rfl,hp,hr⟩:=hv
 refine ⟨p,rfl,⟨us,.of (x1.2.1 _ _ hp)⟩,k1.ok x1.2.1 _ ⟨fun i H x hH hx=>?_,fun H hH=>?_⟩⟩
 ·rw [zfB_] at hx
  rcases hr.get i with ⟨a,_⟩ | ⟨y,u,a,b,c⟩
  ·rw [a] at hx; cases hx
  ·rw [a] at hx; cases hx
   refine ⟨⟨us,u,.of (hH _ _ hp),b⟩,?_⟩
   rintro v H' ⟨p2,w,z,hp2,rfl,rfl⟩ F hF hF'
   have e:=z us (.of (hH _ _ hp))
   rw [b] at e; cases e
   have x:=Ext.new (o:=.tup [.int i,u]) hF' hp2
   exact ⟨_,x,p2,_,rfl,zaC_,_,_,rfl,rfl,u,rfl,T.mono (hF.trans x.1) c⟩
 ·exact ⟨us,.of (hH _ _ hp),by rw [zdj_,hr.len]; exact Nat.le_refl _⟩
theorem zbq_ {α:Type}{us:List α}{n:Nat}(h:us.length=n+1):∃ a t,us=a::t∧t.length=n:=by
 cases us with
 | nil=>cases h
 | cons a t=>exact ⟨a,t,rfl,Nat.succ.inj h⟩
theorem Fun.binds1 {x qual:Str}{st:Stmt}{f:Addr}{fd:FuncData}{ps:List Str}(hp:ps.length=1) (F:Fun K x qual st f fd) (h:∀ (kV doc pm:Value) (an:Option Addr) (cdv ct:Value) (ua:Value),bindArgs (PySem.W.fnOf x qual (defArgs st) (defBody st) (defScope st) .none kV doc pm an cdv ct) ⟨[ua],[]⟩=pure (ps.zip [ua])):Binds K fd ps []:=by
 refine F.binds fun kV doc pm an cdv ct us hl=>?_
 have h0:=hl.trans hp
 obtain ⟨ua,t1,rfl,h1⟩:=zbq_ h0
 cases List.length_eq_zero_iff.mp h1
 exact h kV doc pm an cdv ct ua
theorem Fun.binds2 {x qual:Str}{st:Stmt}{f:Addr}{fd:FuncData}{ps:List Str}(hp:ps.length=2) (F:Fun K x qual st f fd) (h:∀ (kV doc pm:Value) (an:Option Addr) (cdv ct:Value) (ua ub:Value),bindArgs (PySem.W.fnOf x qual (defArgs st) (defBody st) (defScope st) .none kV doc pm an cdv ct) ⟨[ua,ub],[]⟩=pure (ps.zip [ua,ub])):Binds K fd ps []:=by
 refine F.binds fun kV doc pm an cdv ct us hl=>?_
 have h0:=hl.trans hp
 obtain ⟨ua,t1,rfl,h1⟩:=zbq_ h0
 obtain ⟨ub,t2,rfl,h2⟩:=zbq_ h1
 cases List.length_eq_zero_iff.mp h2
 exact h kV doc pm an cdv ct ua ub
theorem Fun.binds3 {x qual:Str}{st:Stmt}{f:Addr}{fd:FuncData}{ps:List Str}(hp:ps.length=3) (F:Fun K x qual st f fd) (h:∀ (kV doc pm:Value) (an:Option Addr) (cdv ct:Value) (ua ub uc:Value),bindArgs (PySem.W.fnOf x qual (defArgs st) (defBody st) (defScope st) .none kV doc pm an cdv ct) ⟨[ua,ub,uc],[]⟩=pure (ps.zip [ua,ub,uc])):Binds K fd ps []:=by
 refine F.binds fun kV doc pm an cdv ct us hl=>?_
 have h0:=hl.trans hp
 obtain ⟨ua,t1,rfl,h1⟩:=zbq_ h0
 obtain ⟨ub,t2,rfl,h2⟩:=zbq_ h1
 obtain ⟨uc,t3,rfl,h3⟩:=zbq_ h2
 cases List.length_eq_zero_iff.mp h3
 exact h kV doc pm an cdv ct ua ub uc
theorem Fun.binds5 {x qual:Str}{st:Stmt}{f:Addr}{fd:FuncData}{ps:List Str}(hp:ps.length=5) (F:Fun K x qual st f fd) (h:∀ (kV doc pm:Value) (an:Option Addr) (cdv ct:Value) (ua ub uc ud ue:Value),bindArgs (PySem.W.fnOf x qual (defArgs st) (defBody st) (defScope st) .none kV doc pm an cdv ct) ⟨[ua,ub,uc,ud,ue],[]⟩=pure (ps.zip [ua,ub,uc,ud,ue])):Binds K fd ps []:=by
 refine F.binds fun kV doc pm an cdv ct us hl=>?_
 have h0:=hl.trans hp
 obtain ⟨ua,t1,rfl,h1⟩:=zbq_ h0
 obtain ⟨ub,t2,rfl,h2⟩:=zbq_ h1
 obtain ⟨uc,t3,rfl,h3⟩:=zbq_ h2
 obtain ⟨ud,t4,rfl,h4⟩:=zbq_ h3
 obtain ⟨ue,t5,rfl,h5⟩:=zbq_ h4
 cases List.length_eq_zero_iff.mp h5
 exact h kV doc pm an cdv ct ua ub uc ud ue
theorem zdl_ {P:Ps γ}{P':Ps δ}{O1:Own α}{ad:γ→α→δ}{x:γ}{w:V}{k:δ→Mo (Out ρ B S)}(hi:L[i]?=some (.ow (owAt w (owI C ns P)) x)) (hf:f∉ns) (hsm:ns.length<900) (pp:PsAdd P O1 P' ad) (hO:ImmO O1) (he:EvO K e E L r O1) (hk:∀ x',EvS K u E (L.set i (.ow (owAt w (owI C (ns++[f]) P')) x')) (k x') LS LB Or) :
  EvS K (tSeq (mSFld C (mVar i) e f) u) E L (r.bind fun a=>(Mo.ok (ad x a)).bind k) LS LB Or:=by
 intro F0 H0 σ F h H D hL ok fin
 refine he σ (un F h) H _ (hL.froz ok.2.1) ok.thaw (zad_ (G:=F) ok _ (.inl rfl) fin fun a F' H' hra x1 v hn fresh dj hsn hv=>?_)
 obtain ⟨o,hs,ht⟩:=ok.back x1
 rw [hra] at fin
 obtain ⟨v0,k0,e1,⟨ew,p,dx,vs,m,rfl,ndx,jn,hl,ps⟩,kH,kh,_,g⟩:=zhl_ (hL.mono hs) hi o
 have hp1:H' p=some (.ins C dx (ns.zip vs)):=kH _ _ (jn.l _ _ zf8_)
 refine zb3_ e1 ⟨dx,_,hp1,by rw [List.length_zip]; lia,?_⟩
 rw [zho_ v hf hl]
 have fr:∀ q,hn q≠none→less F' h q=none∧h q=none∧H0 q=none:=fun q z=>⟨by
  rcases dj q with y | y
  ·exact zaj_.free y
  ·exact absurd y z,ok.2.2.1.free (fresh q z),ok.1.2.2.1.free (fresh q z)⟩
 have dn:Dj hn m:=fun q=>by
  by_cases z:hn q=none
  ·exact .inl z
  ·exact .inr (jn.r.free (kh.free (fr q z).2.1))
 obtain ⟨j',PC⟩:=zhM_ (o':=.ins C dx ((ns++[f]).zip (vs++[v]))) (hn:=hn) o kh ndx jn (Same.refl m) fr hsn dn
 obtain ⟨h',a1,a2⟩:=g (owAt w (owI C (ns++[f]) P')) (ad x a) (.ref p) _ _ _ PC ⟨ew,p,dx,vs++[v],un hn m,rfl,ndx,j',by rw [List.length_append,List.length_append,hl]; rfl,pp ps a v hn _ _ (Same.refl _) (hO ht hv) (zch_ dn)⟩
 rw [za0_ e1] at a1
 exact hk _ F0 H0 σ _ h' _ D a1 a2 fin
theorem znM_ {κ:Type} [DecidableEq κ] {KY:KyT κ}{O:Own β}{mm:Mo (List (κ×α)×(List (κ×α)→β))}{r2:Mo κ}{e2:TE}{k:β→Mo (Out ρ B S)}(hp:EvPt K te E L i O (owD KY T) mm) (hT:Imm T) (hKT:Imm KY.T) (he:EvF K e E L r T) (he2:EvF K e2 E L r2 KY.T) (hk:∀ x',EvS K u E (L.set i (.ow O x')) (k x') LS LB Or) :
  EvS K (tSeq (mDPut te e2 e) u) E L (r.bind fun a=>mm.bind fun yp=>r2.bind fun y=>.lim (yp.1.length+1) ((Mo.ok (yp.2 (putA yp.1 y a))).bind k)) LS LB Or:=by
 intro F0 H0 σ F h H D hL ok fin
 show e σ H fun v H1=>te σ H1 fun x H2=>e2 σ H2 fun y H3=>atD x y H3 fun a kvs k=>kvs.length<sizeLine∧u D σ (upd H3 a (.dK (putK kvs k v)))
 refine he σ (un F h) H _ (hL.froz ok.2.1) ok.thaw (zad_ (G:=F) ok _ (.inl rfl) fin fun a F1 H1 hra x1 v hv=>?_)
 obtain ⟨o,hs,ht⟩:=ok.back x1
 rw [hra] at fin
 have hL':=hL.mono hs
 have hv':=hT ht hv
 refine hp F0 H0 σ _ h H1 _ hL' o (zad_ (G:=F) o _ (.inl rfl) fin fun yp G1 H2 hr0 x2 u0 fc=>?_)
 obtain ⟨o1,hs1,_⟩:=o.back x2
 rw [hr0] at fin
 refine he2 σ (un (less G1 h) h) H2 _ ((hL'.mono hs1).froz o1.2.1) o1.thaw (zad_ (G:=F) o1 _ (.inl rfl) fin fun y F2 H3 hry x3 v2 hv2=>?_)
 obtain ⟨o2,hs2,ht2⟩:=o1.back x3
 rw [hry] at fin
 obtain ⟨hz,fin⟩:=zdN_ (show Fin K (Mo.lim (yp.1.length+1) (k (yp.2 (putA yp.1 y a)))) E LS LB Or F0 H0 D from fin)
 obtain ⟨k1,⟨p,kvs,rfl,rfl,pr⟩,kh',g⟩:=fc _ H3 hs2 o2
 obtain ⟨h',a1,a2⟩:=g (putA yp.1 y a) (one p (.dK (putK kvs (KY.key y) v))) _ (upd H3 p (.dK (putK kvs (KY.key y) v))) (PutC.one o2 kh') ⟨p,_,rfl,rfl,zlr_ pr y (T.mono (hs1.trans hs2) hv')⟩
 unfold atD
 simp only
 rw [KY.of hv2]
 refine ⟨kvs,o2.2.2.1 _ _ (kh' _ _ zS_),?_,hk _ F0 H0 σ _ h' _ D a1 a2 fin⟩
 have:=Paired.length pr
 omega
end
end L2
namespace L2
open PySem PySem.Spec PyProof.Rows
section
variable {K:Fgg}{E:XK}{L:List Sl}
def rngD (hi:Int) (n:Nat):List Int:=(List.range n).map fun (i:Nat)=>hi+i*(-1)
theorem znB_ {hi:Int}{n:Nat}{F1:Hp}:Yl K (Itp n fun k=>.int (hi+k*(-1))) (rngD hi n) tyInt F1:=by
 refine ⟨fun i H x hH hx=>?_,fun H hH=>?_⟩
 ·unfold rngD at hx
  rw [List.getElem?_map] at hx
  cases e:(List.range n)[i]? with
  | none=>rw [e] at hx; cases hx
  | some c =>
   rw [e] at hx; cases hx
   obtain ⟨hi,e⟩:=List.getElem?_eq_some_iff.mp e
   rw [List.getElem_range] at e; subst e
   rw [List.length_range] at hi
   refine ⟨hi,?_⟩
   rintro v H' ⟨rfl,rfl⟩ F _ hF
   exact ⟨F,.refl hF,rfl⟩
 ·show n≤_
  unfold rngD; rw [List.length_map,List.length_range]; exact Nat.le_refl _
end
section
variable {K:Fgg}{E:XK}{α β ρ B:Type}{F0 H0 F h H:Hp}{L:List Sl}{te:TE}{Or:Own ρ}{tb:TS}{LB:B→List Sl}{i w:Nat}
def mapX (step:β→Mo β):List β→Mo (List β)
 | []=>.ok []
 | x::xs=>(step x).bind fun y=>(mapX step xs).bind fun ys=>.ok (y::ys)
theorem znx_ {O:Own α}{O':Own β}{r0:Mo (List β×(List β→α))}{step:β→Mo β}{s0:Sl}(hw:L[w]?=some s0) (hne:i≠w) (hp:EvPw K te E L i O (owLO O') r0)
  (hb:∀ (uu v:V) (put:List β→α) (xs:List β) (k:Nat) (z:β),EvS K tb E ((L.set i (.ow (owPn v O' (fun z'=>xs.set k z') (owPn uu (owLO O') put O)) z)).set w (.fz (tyIs v) ())) ((step z).bind fun z'=>.ok (.nx z'))
   (fun z'=>(L.set i (.ow (owPn v O' (fun z'=>xs.set k z') (owPn uu (owLO O') put O)) z')).set w .dead) (fun z':β=>(L.set i (.ow (owPn v O' (fun z'=>xs.set k z') (owPn uu (owLO O') put O)) z')).set w .dead) Or) :
  EvS K (tFor (iAny K te) (gName w) tb) E L (r0.bind fun yp=>(mapX step yp.1).bind fun xs=>.ok (.nx (yp.2 xs))) (fun x'=>(L.set i (.ow O x')).set w .dead) LB Or:=by
 intro F0 H0 σ F h H D hL ok fin
 have dd:∀ {s:Sl}{σ F h},Hold (L.set i s) σ F h→Hold ((L.set i s).set w .dead) σ F h:=fun {s σ F h} hL=>by
  have hw':(L.set i s)[w]?=some s0:=by rw [List.getElem?_set_ne hne]; exact hw
  obtain ⟨o,k,hr,e1,j,_,f⟩:=hL.at w hw'
  have:=f .dead o k h j trivial
  rwa [za0_ e1] at this
 unfold tFor iAny
 refine hp F0 H0 σ F h H _ hL ok (zad_ (G:=F) ok _ (.inl rfl) fin fun yp G1 H1 hr0 x1 uu il hh=>?_)
 obtain ⟨o1,_,_⟩:=ok.back x1
 rw [hr0] at fin
 have hi:∀ {xs},((L.set i (.ow (owPn uu (owLO O') yp.2 O) xs)).set w .dead)[i]?=some (.ow (owPn uu (owLO O') yp.2 O) xs):=fun {xs}=>by rw [List.getElem?_set_ne (Ne.symm hne),List.getElem?_set_self (by exact il)]
 have ss:∀ {s1 s2:Sl},((L.set i s1).set w .dead).set i s2=(L.set i s2).set w .dead:=fun {s1 s2}=>by rw [List.set_comm _ _ (Ne.symm hne),List.set_set]
 have at0:∀ {xs σ F h H},Hold ((L.set i (.ow (owPn uu (owLO O') yp.2 O) xs)).set w .dead) σ F h→Okk F0 H0 F h H→∃ p vs,uu=.ref p∧h p=some (.lst vs)∧H p=some (.lst vs)∧vs.length=xs.length:=fun {xs σ F h H} hL ok=>by
  obtain ⟨_,_,_,_,j,⟨_,_,ka,kb,jk,⟨p,vs,m,e,jn,all⟩,_⟩,_⟩:=hL.at i hi
  have hp:=j.l _ _ (jk.l _ _ (jn.l _ _ zS_))
  exact ⟨p,vs,e,hp,ok.2.2.1 _ _ hp,all.len.symm⟩
 obtain ⟨p,vs0,rfl,_,hp0,_⟩:=at0 (dd hh) o1
 refine .inl ⟨⟨vs0,.of hp0⟩,?_⟩
 refine ⟨fun k m σ H=>∃ (ys rest:List β) (F h:Hp),m=rest.length∧ys.length=k∧Hold ((L.set i (.ow (owPn (.ref p) (owLO O') yp.2 O) (ys++rest))).set w .dead) σ F h∧Okk F0 H0 F h H∧Fin K ((mapX step rest).bind fun zs=>.ok (.nx (yp.2 (ys++zs)))) E (fun x'=>(L.set i (.ow O x')).set w .dead) LB Or F0 H0 D,⟨_,[],yp.1,_,h,rfl,rfl,dd hh,o1,fin⟩,?_⟩
 rintro k m σ H ⟨ys,rest,F,h,rfl,rfl,hL,ok,fin⟩
 obtain ⟨p',vs,e,hv,hH,hlen⟩:=at0 hL ok
 cases e
 cases rest with
 | nil =>
  left
  refine ⟨⟨vs,.of hH,by rw [hlen]; simp⟩,fin σ F h H ?_ ok⟩
  have:=zbE_ (O2:=O) (x2:=yp.2 (ys++[])) hL hi fun v k _ _ ho=>zhg_ ho
  rwa [ss] at this
 | cons z rest =>
  right
  have hlt:ys.length<vs.length:=by rw [hlen]; simp
  have ek:vs[ys.length]?=some vs[ys.length]:=List.getElem?_eq_getElem hlt
  refine ⟨⟨vs,vs[ys.length],.of hH,ek⟩,fun σ' H'=>∃ (ys' rest':List β) (F h:Hp),rest'.length=rest.length∧ys'.length=ys.length+1∧Hold ((L.set i (.ow (owPn (.ref p) (owLO O') yp.2 O) (ys'++rest'))).set w .dead) σ' F h∧Okk F0 H0 F h H'∧Fin K ((mapX step rest').bind fun zs=>.ok (.nx (yp.2 (ys'++zs)))) E (fun x'=>(L.set i (.ow O x')).set w .dead) LB Or F0 H0 D,
   fun σ' H' ⟨ys',rest',F,h,a,b,c⟩=>⟨rest'.length,by rw [List.length_cons,a]; exact Nat.lt_succ_self _,ys',rest',F,h,rfl,b,c⟩,fun v H2 hy=>?_⟩
  obtain ⟨rfl,zz⟩:=hy
  have ev:=zz vs (.of hH)
  rw [ek] at ev
  injection ev with ev
  subst ev
  have ez:(ys++z::rest)[ys.length]?=some z:=by simp
  have hin:=zbE_ (O2:=owPn vs[ys.length] O' (fun z'=>(ys++z::rest).set ys.length z') (owPn (.ref p) (owLO O') yp.2 O)) (x2:=z) hL hi fun v0 k ev kh ⟨ka,kb,jk,hlo,wand⟩=>by
   obtain ⟨k1,k2,j1,o1,g⟩:=ziL_ hv ek ez F ka (jk.l.trans kh) hlo
   obtain ⟨mm,jm,jh⟩:=zcZ_ j1 jk
   refine ⟨k1,mm,jh,o1,fun z' k1' k' F3 s oz j'=>?_⟩
   obtain ⟨d,jg⟩:=ziO_ jm j'
   exact ⟨un k1' k2,kb,jg,g z' k1' _ F3 s oz (zch_ d),fun z'' k1'' k'' F4 s'=>wand z'' k1'' k'' F4 (s.trans s')⟩
  rw [ss] at hin
  have hw2:∀ {s:Sl},((L.set i s).set w .dead)[w]?=some .dead:=fun {s}=>by rw [List.getElem?_set_self]; rw [List.length_set]; exact (List.getElem?_eq_some_iff.mp hw).1
  have hin2:=zde_ (T:=tyIs vs[ys.length]) (a:=()) (v:=vs[ys.length]) hw2 hin rfl
  rw [List.set_set] at hin2
  refine hb (.ref p) vs[ys.length] yp.2 (ys++z::rest) ys.length z F0 H0 (σ.set w (some vs[ys.length])) F h H2 _ hin2 ok ?_
  have em:∀ z',step z=.ok z'→((mapX step (z::rest)).bind fun zs=>(.ok (.nx (yp.2 (ys++zs))):Mo (Out ρ B α)))=(mapX step rest).bind fun zs=>.ok (.nx (yp.2 (ys++[z']++zs))):=fun z' e=>by
   show ((step z).bind fun y=>(mapX step rest).bind fun ys=>.ok (y::ys)).bind _=_
   rw [e]
   cases mapX step rest with
   | ok zs=>show Mo.ok (Out.nx (yp.2 (ys++(z'::zs))))=Mo.ok (Out.nx (yp.2 (ys++[z']++zs))); rw [List.append_assoc]; rfl
   | ex c=>rfl
   | no=>rfl
  cases e:step z with
  | no=>unfold mapX at fin; rw [e] at fin; exact fin
  | ex c=>unfold mapX at fin; rw [e] at fin; exact fin
  | ok z' =>
   rw [em z' e] at fin
   intro σ' F' h' H' hL' ok'
   refine ⟨ys++[z'],rest,F',h',rfl,by simp,?_,ok',fin⟩
   have hi2:((L.set i (.ow (owPn vs[ys.length] O' (fun z'=>(ys++z::rest).set ys.length z') (owPn (.ref p) (owLO O') yp.2 O)) z')).set w .dead)[i]?=some (.ow (owPn vs[ys.length] O' (fun z'=>(ys++z::rest).set ys.length z') (owPn (.ref p) (owLO O') yp.2 O)) z'):=by rw [List.getElem?_set_ne (Ne.symm hne),List.getElem?_set_self (by exact il)]
   have:=zbE_ (O2:=owPn (.ref p) (owLO O') yp.2 O) (x2:=ys++[z']++rest) hL' hi2 fun v k _ _ ho=>by
    have:=zhg_ ho
    rwa [show (ys++z::rest).set ys.length z'=ys++[z']++rest by simp] at this
   rwa [ss] at this
end
end L2
namespace L2
open PySem PySem.Spec PyProof.Rows
section
variable {K:Fgg}{E:XK}{α β γ δ ρ ρ' S B:Type}{F0 H0 F h H:Hp}{L:List Sl}{e te ei tc:TE}{ta:TA}{T:Ty α}{r:Mo α}{Or:Own ρ}{Or':Own ρ'}{t u:TS}{LS:S→List Sl}{LB:B→List Sl}{σ:St}{C:Addr}{ns:List Str}{f m:Str}{i n w j:Nat}
def EvN (K:Fgg) (e:TE) (E:XK) (L:List Sl) (r:Mo α) (T:Ty α):Prop :=
 ∀ σ F H (Q:VK),HoldF L σ F→Same F H→After K r E F H (fun a G H'=>∀ v,(∀ h,Same h F→(∀ p xs,h p≠some (.tup xs))→T.R a v (less G h))→Q v H')→e σ H Q
def EvAN (K:Fgg) (t:TA) (E:XK) (L:List Sl) (r:Mo γ) (C:Cs γ):Prop :=
 ∀ σ F H (Q:List V→Hp→Prop),HoldF L σ F→Same F H→After K r E F H (fun c G H'=>∀ vs,(∀ h,Same h F→(∀ p xs,h p≠some (.tup xs))→C.R c vs (less G h))→Q vs H')→t σ H Q
theorem zhv_ {G:Hp}(s:Same h G) (nt:∀ p xs,h p≠some (.tup xs)):Tups G (less G h):=fun p xs z=>by
 cases y:h p with
 | none=>rw [zx_ y]; exact z
 | some o=>have:=s _ _ y; rw [z] at this; cases this; exact absurd y (nt p xs)
theorem zc7_ (hT:Imm T) (he:EvF K e E L r T):EvN K e E L r T:=by
 intro σ F H Q hL hs q
 exact he σ F H Q hL hs (q.imp fun a G H' x k v hv=>k v fun h sh nt=>hT (zhv_ (sh.trans x.1) nt) hv)
theorem zlV_ {O1:Own α}(hO:ImmO O1) (he:EvO K e E L r O1):EvN K e E L r O1.fr:=by
 intro σ F H Q hL hs q
 refine he σ F H Q hL hs ?_
 cases r with
 | no=>exact q
 | ex c=>exact q
 | ok a =>
  intro F' H' x v hn fresh dj sn ho
  refine q (un F' hn) H' ⟨x.1.trans zU_,fun p o z=>?_,x.2.2.1,fun p a b=>?_⟩ v fun h sh nt=>?_
  ·unfold un at z
   cases y:F' p with
   | some w=>rw [y] at z; rw [← z]; exact x.2.1 _ _ y
   | none=>rw [y] at z; exact sn _ _ z
  ·unfold un at b
   cases y:F' p with
   | some w=>exact x.2.2.2 p a (by rw [y]; exact Option.some_ne_none _)
   | none=>rw [y] at b; exact fresh p b
  ·have d2:Dj (less F' h) hn:=fun p=>by
    rcases dj p with z | z
    ·exact .inl (zaj_.free z)
    ·exact .inr z
   refine O1.fr.mono (fun p o z=>?_) (O1.frz d2 (hO (zhv_ (sh.trans x.1) nt) ho))
   unfold un at z
   cases y:less F' h p with
   | some w =>
    rw [y] at z
    have hp:h p=none:=by
     cases y2:h p with
     | none=>rfl
     | some s=>rw [zB_ p (by rw [y2]; exact Option.some_ne_none _)] at y; cases y
    rw [zx_ hp] at y ⊢
    unfold un; rw [y]; exact z
   | none =>
    rw [y] at z
    have hp:h p=none:=by
     cases y2:h p with
     | none=>rfl
     | some s =>
      have z':hn p=some o:=z
      have:=fresh p (by rw [z']; exact Option.some_ne_none _)
      rw [hs _ _ (sh _ _ y2)] at this; cases this
    rw [zx_ hp] at y ⊢
    unfold un; rw [y]; exact z
theorem zjJ_:EvAN K tNil E L (.ok ()) csNil:=fun σ F H Q hL hs q=>q.ok hs [] fun _ _ _=>rfl
theorem zbW_ (h:EvN K e E L r T):EvAN K (tCons e tNil) E L r (csLast T):=by
 intro σ F H Q hL hs q
 exact h σ F H _ hL hs (q.imp fun a G H' x k v hv=>k [v] fun h sh nt=>⟨v,rfl,hv h sh nt⟩)
theorem zj1_ {r2:Mo γ}{C:Cs γ}(h:EvN K e E L r T) (h2:EvAN K ta E L r2 C):EvAN K (tCons e ta) E L (r.bind fun a=>r2.bind fun c=>.ok (a,c)) (csCons T C):=by
 intro σ F H Q hL hs q
 refine h σ F H _ hL hs (q.bind.imp fun a G1 H1 x1 k1 v hv=>?_)
 refine h2 σ G1 H1 _ (hL.mono x1.1) x1.2.1 (k1.bind.imp fun c G2 H2 x2 k2 vs hvs=>?_)
 exact k2.ok x2.2.1 (v::vs) fun h sh nt=>⟨v,vs,rfl,T.mono (zed_ x2.1) (hv h sh nt),hvs h (sh.trans x1.1) nt⟩
theorem zaA_ {O:Own α}{P:Ps β}{r0:Mo (β×(β→α))}{Q:Cs γ}{ta:TA}{ra:Mo γ}{g:β→γ→Mo (ρ'×β)}{Or':Own ρ'}(hno:m∉ns) (hI:ImmO (owI C ns P)) (hR:ImmO Or') (hp:EvPw K te E L i O (owI C ns P) r0) (ha:EvAN K ta E L ra Q) :
  EvM K (tMeth C m (CtM K (owI C ns P) (owI C ns P) Q g Or') [] E0 te ta) E L i O Or' (r0.bind fun yp=>ra.bind fun c=>(g yp.1 c).noex.bind fun q=>.ok (q.1,yp.2 q.2)):=by
 intro F0 H0 σ F h H R hL ok fin
 show te σ H fun x H1=>∃ a dx fs,x=.ref a∧H1 a=some (.ins C dx fs)∧fs.lookup m=none∧ta σ H1 fun vs H2=>CtM K (owI C ns P) (owI C ns P) Q g Or' (x::(vs++[])) H2 R E0
 refine hp F0 H0 σ F h H _ hL ok (zlS_ ok fin fun yp G1 H1 hr0 x1 uu il hh=>?_)
 obtain ⟨o1,hs1,_⟩:=ok.back x1
 rw [hr0] at fin
 have hi:(L.set i (.ow (owPn uu (owI C ns P) yp.2 O) yp.1))[i]?=some (.ow (owPn uu (owI C ns P) yp.2 O) yp.1):=by rw [List.getElem?_set_self (by exact il)]
 obtain ⟨_,_,_,_,j0,⟨_,_,ka0,kb0,jk0,⟨p,dx,vs0,m0,rfl,ndx,jn,hl,ps⟩,_⟩,_⟩:=hh.at i hi
 refine ⟨p,dx,_,rfl,o1.2.2.1 _ _ (j0.l _ _ (jk0.l _ _ (jn.l _ _ zf8_))),zaG_ hno,?_⟩
 refine ha σ (un (less G1 h) h) H1 _ ((hL.mono hs1).froz o1.2.1) o1.thaw (zlS_ o1 fin fun c G2 H2 hra x2 vs hvs=>?_)
 obtain ⟨o2,hs2,ht2⟩:=o1.back x2
 rw [hra] at fin
 rw [List.append_nil]
 obtain ⟨_,k,hrest,e1,j,⟨v0,rfl,ka,kb,jk,hO,wand⟩,f⟩:=(hh.mono hs2).atM i hi
 have kh1:Same ka h:=jk.l.trans j.l
 have sFc:Same (un (less G2 h) (less h ka)) H2:=fun q o z=>by
  unfold un at z
  cases y:less G2 h q with
  | some s=>rw [y] at z; rw [← z]; exact o2.1.2.1 _ _ y
  | none=>rw [y] at z; exact o2.2.2.1 _ _ (zaj_ _ _ z)
 have djc:Dj (un (less G2 h) (less h ka)) ka:=fun q=>by
  by_cases z:ka q=none
  ·exact .inr z
  ·left
   unfold un
   have:less G2 h q=none:=zB_ q fun y=>z (kh1.free y)
   rw [this]; exact zB_ q z
 refine ⟨un (less G2 h) (less h ka),ka,yp.1,c,.ref p,vs,rfl,sFc,djc,kh1.trans o2.2.2.1,(owI C ns P).mono zU_ hO,Q.mono zU_ (hvs h (zhr_ o1.2.1) o1.2.2.2.2),?_⟩
 have fin:FinM K ((g yp.1 c).noex.bind fun q=>.ok (q.1,yp.2 q.2)) E F0 H0 _:=fin
 cases e:g yp.1 c with
 | no=>rw [e] at fin; exact fin
 | ex cc=>rw [e] at fin; exact fin.elim
 | ok q =>
  rw [e] at fin
  rintro F' h' H' okc v ⟨hr,hs',j',hRes,hO2⟩
  obtain ⟨ff,tp,d1,d2,d3,okk⟩:=zkg_ o2 j jk okc j'
  have hold:=f (less F' (less h ka)) (.ow O (yp.2 q.2)) (some v0) (un hs' kb) _ ff (zch_ d2) ⟨v0,rfl,wand q.2 hs' _ _ ff (hI tp hO2) (zch_ d1)⟩
  rw [za0_ e1,List.set_set] at hold
  exact fin _ _ H' okk v _ hr (zch_ d3) hold (hR tp hRes)
theorem ziQ_ {O:Own α}{r:Mo (ρ'×α)}{k:ρ'×α→Mo (Out ρ B S)}(hm:EvM K tc E L i O Or' r) (hk:∀ q,EvS K u E (L.set i (.ow O q.2)) (k q) LS LB Or):EvS K (tSeq (tDrop tc) u) E L (r.bind k) LS LB Or:=by
 intro F0 H0 σ F h H D hL ok fin
 show tc σ H fun _ H3=>u D σ H3
 refine hm F0 H0 σ F h H _ hL ok (zc8_ fin fun q F' h' H' hr o v h1 h2 j hold res=>?_)
 rw [hr] at fin
 exact hk q F0 H0 σ F' h1 H' D hold (zcR_ o j.l) fin
def EvIr (K:Fgg) (wi:TI) (E:XK) (L:List Sl) (r:Mo (List Int)):Prop :=
 ∀ σ F H (R:It→Hp→Prop),HoldF L σ F→Same F H→After K r E F H (fun xs F' H'=>∀ J,(∀ F1,Yl K J xs tyInt F1)→R J H')→wi σ H R
theorem eir_3 {r:Mo (Int×Int×Int)}(h:EvA K ta E L r (csCons tyInt (csCons tyInt (csLast tyInt)))):EvIr K (mRng3 ta) E L (r.bind fun c=>.grd (c.2.2 = -1 ∧ -(2 ^ 61)≤c.1∧c.1<2 ^ 61 ∧ -(2 ^ 61)≤c.2.1∧c.2.1<2 ^ 61) (.ok (rngD c.1 (c.1-c.2.1).toNat))):=by
 intro σ F H R hL hs q
 refine h σ F H _ hL hs (q.bind.imp fun l F1 H1 x1 k1 v hv=>?_)
 obtain ⟨u,us,rfl,rfl,u2,us2,rfl,rfl,w,rfl,rfl⟩:=hv
 obtain ⟨z,k1⟩:=k1.grd
 exact ⟨z.1,z.2,k1.ok x1.2.1 _ fun _=>znB_⟩
theorem zqm_ {wi:TI}{g:TG}{tb:TS}{s0:S}{r:Mo (List Int)}{ss:Int→List (Nat×Sl)}{step:S→Int→Mo (Out ρ S S)}(hi:EvIr K wi E (LS s0) r) (hg:TgR K g tyInt ss)
  (hb:∀ s a,EvS K tb E (setL (LS s) (ss a)) (step s a) LS LS Or):EvS K (tFor wi g tb) E (LS s0) (r.bind fun xs=>forO step xs s0) LS LB Or:=by
 intro F0 H0 σ F h H D hL ok fin
 refine hi σ (un F h) H _ (hL.froz ok.2.1) ok.thaw (zad_ (G:=F) ok _ (.inl rfl) fin fun xs G1 H1 hr x1 J Y=>?_)
 rw [hr] at fin
 obtain ⟨o1,hs1,_⟩:=ok.back x1
 refine ⟨fun i m σ H=>m=xs.length-i∧i≤xs.length∧∃ s F h,Hold (LS s) σ F h∧Okk F0 H0 F h H∧Fin K (forO (B:=B) step (xs.drop i) s) E LS LB Or F0 H0 D,
  ⟨_,rfl,Nat.zero_le _,s0,_,h,hL.mono hs1,o1,fin⟩,?_⟩
 rintro i m σ H ⟨rfl,hi,s,F,h,hL,ok,fin⟩
 by_cases hlt:i<xs.length
 ·right
  obtain ⟨g1,g2⟩:=(Y F).go i H xs[i] ok.1.2.1 (List.getElem?_eq_getElem hlt)
  refine ⟨g1,fun σ' H'=>i+1≤xs.length∧∃ s F h,Hold (LS s) σ' F h∧Okk F0 H0 F h H'∧Fin K (forO (B:=B) step (xs.drop (i+1)) s) E LS LB Or F0 H0 D,fun σ' H' z=>⟨xs.length-(i+1),by omega,rfl,z⟩,fun v H2 hy=>?_⟩
  obtain ⟨F2,x2,hv⟩:=g2 v H2 hy F (Same.refl _) ok.1.2.1
  refine hg xs[i] v σ F2 H2 _ x2.2.1 hv fun vs hp=>?_
  refine hb s xs[i] F0 H0 _ F2 h H2 _ (zeA_ hp (hL.mono x2.1)) (ok.cold x2) ?_
  rw [List.drop_eq_getElem_cons hlt] at fin
  unfold forO at fin
  cases e:step s xs[i] with
  | no=>rw [e] at fin; exact fin
  | ex c=>rw [e] at fin; exact fin
  | ok o =>
   rw [e] at fin
   cases o with
   | nx s'=>exact fun σ' F' h' H' hL' ok'=>⟨hlt,s',F',h',hL',ok',fin⟩
   | ct s'=>exact fun σ' F' h' H' hL' ok'=>⟨hlt,s',F',h',hL',ok',fin⟩
   | bk s'=>exact fin
   | rt a=>exact fin
 ·left
  have e:i=xs.length:=by omega
  subst e
  rw [List.drop_length] at fin
  exact ⟨(Y F).stop H ok.1.2.1,fin σ F h H hL ok⟩
end
end L2
namespace L2
open PySem PySem.Spec PyProof.Rows
section
variable {K:Fgg}{E:XK}{α κ:Type} [DecidableEq κ] {KY:KyT κ}{L:List Sl}{e1 e2 e3:TE}{T:Ty α}
end
section
variable {K:Fgg}{E:XK}{α β ρ ρ' B:Type}{L:List Sl}{te:TE}{Or:Own ρ}{Or':Own ρ'}{LB:B→List Sl}{C:Addr}{ns:List Str}{m:Str}{i w:Nat}
theorem zqh_ {O:Own α}{P:Ps β}{g:β→Unit→Mo (ρ'×β)}{r0:Mo (List β×(List β→α))}{s0:Sl}(hi:i<L.length) (hw:L[w]?=some s0) (hne:i≠w) (hno:m∉ns) (hI:ImmO (owI C ns P)) (hp:EvPw K te E L i O (owLO (owI C ns P)) r0) :
  EvS K (tFor (iAny K te) (gName w) (tDrop (tMeth C m (CtM K (owI C ns P) (owI C ns P) csNil g Or') [] E0 (mVar w) tNil))) E L (r0.bind fun yp=>(mapX (fun z=>(g z ()).noex.bind fun q=>.ok q.2) yp.1).bind fun xs=>.ok (.nx (yp.2 xs))) (fun x'=>(L.set i (.ow O x')).set w .dead) LB Or:=by
 refine znx_ hw hne hp fun uu v put xs k z=>?_
 have h1:∀ s1 s2:Sl,((L.set i s1).set w s2)[i]?=some s1:=fun s1 s2=>by rw [List.getElem?_set_ne (Ne.symm hne),List.getElem?_set_self (by exact hi)]
 have h2:∀ s1 s2:Sl,((L.set i s1).set w s2)[w]?=some s2:=fun s1 s2=>by rw [List.getElem?_set_self]; rw [List.length_set]; exact (List.getElem?_eq_some_iff.mp hw).1
 have e:((((g z ()).noex.bind fun q=>Mo.ok q.2).bind fun z'=>.ok (.nx z')):Mo (Out ρ β β))=(Mo.ok (z,fun z':β=>z')).bind fun yp=>(Mo.ok ()).bind fun c=>(g yp.1 c).noex.bind fun q=>.ok (.nx (yp.2 q.2)):=by
  cases e0:g z () with
  | ok q=>simp only [Mo.bind,Mo.noex,e0]
  | ex c=>simp only [Mo.bind,Mo.noex,e0]
  | no=>simp only [Mo.bind,Mo.noex,e0]
 rw [e]
 refine zc2_ (zlZ_ (k:=fun x=>.ok (.nx x)) (P:=P) hno hI (zfV_ (h1 _ _) (h2 _ _)) ziX_ zlh_ fun x'=>?_)
 intro F0 H0 σ F h H D hL ok fin
 have:=fin σ F h H
 refine fin σ F h H ?_ ok
 rw [List.set_comm _ _ (Ne.symm hne),List.set_set] at hL
 obtain ⟨o,k,hr,e1,j,_,f⟩:=hL.at w (h2 _ _)
 have:=f .dead o k h j trivial
 rw [za0_ e1,List.set_set] at this
 exact this
end
end L2
namespace L2
open PySem PySem.Spec PyProof.Rows
section
variable {K:Fgg}{E:XK}{α β γ δ ρ ρ' S B:Type}{F0 H0 F h H:Hp}{L:List Sl}{e te te2 tc:TE}{ta:TA}{T:Ty α}{r:Mo α}{Or:Own ρ}{Or':Own ρ'}{t u:TS}{LS:S→List Sl}{LB:B→List Sl}{σ:St}{C:Addr}{ns:List Str}{f m:Str}{i n w j:Nat}
theorem zl1_ {O:Own β}{r0:Mo (List α×(List α→β))}{k:β→Mo (Out ρ B S)}(hp:EvPt K te E L i O (owL T) r0) (hk:∀ x',EvS K u E (L.set i (.ow O x')) (k x') LS LB Or) :
  EvS K (tSeq (tDrop (tBM0 K "list" rClear te)) u) E L (r0.bind fun yp=>(Mo.ok (yp.2 [])).bind k) LS LB Or:=by
 intro F0 H0 σ F h H D hL ok fin
 show te σ H fun x H1=>tyV K "list" x H1∧rClear x [] H1 (fun _ H3=>u D σ H3)
 refine hp F0 H0 σ F h H _ hL ok (zad_ (G:=F) ok _ (.inl rfl) fin fun yp G1 H1 hr0 x1 u0 fc=>?_)
 obtain ⟨o1,hs1,_⟩:=ok.back x1
 rw [hr0] at fin
 obtain ⟨k0,⟨p,vs,rfl,rfl,_⟩,kh,g⟩:=fc _ H1 (Same.refl _) o1
 have hp0:h p=some (.lst vs):=kh _ _ zS_
 obtain ⟨h',a1,a2⟩:=g [] (one p (.lst [])) _ (upd H1 p (.lst [])) (PutC.one o1 kh) ⟨p,_,rfl,rfl,.nil⟩
 exact ⟨.inl ⟨rfl,vs,.of (o1.2.2.1 _ _ hp0)⟩,p,vs,rfl,rfl,o1.2.2.1 _ _ hp0,hk _ F0 H0 σ _ h' _ D a1 a2 fin⟩
theorem zbh_ {Q:Cs γ}{r0:Mo γ}{g:γ→Mo α}{O:Own α}(hno:m∉ns) (he:EvF K te E L r0 (tyI C ns Q)) :
  EvO K (tMeth C m (Ct K (csLast (tyI C ns Q)) g O) [] E0 te tNil) E L (r0.bind fun x=>(g x).noex) O:=by
 intro σ F H R hL hs q
 refine he σ F H _ hL hs (q.bind.imp fun x F1 H1 x1 k1 v hv=>?_)
 obtain ⟨p,dx,vs,rfl,hp,hl,hc⟩:=id hv
 refine ⟨p,dx,_,rfl,x1.2.1 _ _ hp,zaG_ hno,?_⟩
 exact ⟨F1,x,x1.2.1,⟨_,rfl,hv⟩,k1.noex.imp fun a F3 H3 x3 k3 w h fresh d s o=>k3 w h (fun p z=>x1.2.2.1.free (fresh p z)) d s o⟩
theorem zex_ {s:Sl}{o:Option V}(hl:L.length=σ.length) (h:HoldF L σ F) (hs:s.Z o F):HoldF (L++[s]) (σ++[o]) F:=by
 intro j t e
 by_cases hj:j<L.length
 ·rw [List.getElem?_append_left hj] at e
  rw [List.getElem?_append_left (by lia)]
  exact h j t e
 ·rw [List.getElem?_append_right (by lia)] at e
  rw [List.getElem?_append_right (by lia)]
  have hj0:j-L.length=0:=by
   by_cases z:j-L.length=0
   ·exact z
   ·rw [List.getElem?_eq_none (by simp; lia)] at e; cases e
  rw [hj0] at e
  cases e
  rw [← hl,hj0]
  exact hs
end
end L2
namespace L2
open PySem PySem.Spec PyProof.Rows
section
variable {X:Cx}{tg:Expr}
end
section
variable {K:Fgg}{E:XK}{α β:Type}{L:List Sl}{T:Ty α}
end
section
variable {X:Cx}{o e f:Expr}{apos cpos:Pos}{td ty tz:TE}
end
section
variable {K:Fgg}{E:XK}{α β γ ρ κ S B:Type}{F0 H0 F h H:Hp}{L:List Sl}{T:Ty α}{O:Own ρ}{t u:TS}{LS:S→List Sl}{LB:B→List Sl}{KY:KyT κ} [DecidableEq κ]
end
end L2
namespace L2
open PySem PySem.Spec PyProof.Rows
section
variable {X:Cx}{pins:Pnn}{σ:St}{H:Hp}{s:Shared}{d:Addr}{o:Obj}{kvs:List (Key×V)}
end
section
variable {X:Cx}{e:Expr}{te:TE}{apos cpos pos tpos:Pos}{elts:List Expr}{kk:Nat}
end
abbrev hpE:Hp:=fun _=>none
section
variable {F0 H0 F1 H1 F h H:Hp}{d:Addr}{o:Obj}{u:HO}
end
section
variable {K:Fgg}{E:XK}{α β γ ρ κ S B:Type}{L Li:List Sl}{T:Ty α}{O:Own ρ}{LB:B→List Sl}{KY:KyT κ}
end
end L2
namespace L2
open PySem PySem.Spec PyProof.Rows
section
variable {K:Fgg}{E:XK}{α β γ ρ κ S B:Type}{F0 H0 F h H:Hp}{L:List Sl}{T:Ty α}{O:Own ρ}{t u:TS}{e e1 e2:TE}{LS:S→List Sl}{LB:B→List Sl}{KY:KyT κ}
variable [DecidableEq κ]
end
section
variable {K:Fgg}{E:XK}{α κ:Type}{T:Ty α}{KY:KyT κ} [DecidableEq κ]
end
end L2
namespace L2
open PySem PySem.Spec PyProof.Rows
section
variable {X:Cx}{pins:Pnn}{σ:St}{H:Hp}{s:Shared}{A:Around}{p q:Addr}{ka kb:List (Key×V)}
end
section
variable {K:Fgg}{E:XK}
end
end L2
namespace L2
open PySem PySem.Spec PyProof.Rows
section
variable {K:Fgg}{E:XK}{L:List Sl}{e:TE}
end
end L2
namespace L2
open PySem PySem.Spec PyProof.Rows
section
variable {K:Fgg}{E:XK}{α β γ ρ ρ' S B:Type}{F0 H0 F h H:Hp}{L:List Sl}{T:Ty α}{Or:Own ρ}{t u:TS}{e e1 e2 te:TE}{LS:S→List Sl}{LB:B→List Sl}{i j:Nat}{σ:St}
theorem zoS_ {E0:XK}{O:Own α}{O':Own β}{r0:Mo (β×(β→α))}{Q:Cs γ}{ta:TA}{ra:Mo γ}{g:β→γ→Mo (ρ'×β)}{Or':Own ρ'}{k:α→Mo (Out ρ B S)}(hI:ImmO O') (hp:EvPt K te E L i O O' r0) (hC:ImmC Q) (ha:EvA K ta E L ra Q)
  (hk:∀ x',EvS K u E (L.set i (.ow O x')) (k x') LS LB Or) :
  EvS K (tSeq (tDrop (tCall (CtM K O' O' Q g Or') [] E0 (tCons te ta))) u) E L (r0.bind fun yp=>ra.bind fun c=>(g yp.1 c).noex.bind fun q=>k (yp.2 q.2)) LS LB Or:=by
 intro F0 H0 σ F h H D hL ok fin
 show te σ H fun x H1=>ta σ H1 fun vs H2=>CtM K O' O' Q g Or' ((x::vs)++[]) H2 (fun _ H3=>u D σ H3) E0
 refine hp F0 H0 σ F h H _ hL ok (zad_ (G:=F) ok _ (.inl rfl) fin fun yp G1 H1 hr0 x1 u0 fc=>?_)
 obtain ⟨o1,hs1,_⟩:=ok.back x1
 rw [hr0] at fin
 refine ha σ (un (less G1 h) h) H1 _ ((hL.mono hs1).froz o1.2.1) o1.thaw (zad_ (G:=F) o1 _ (.inl rfl) fin fun c G2 H2 hra x2 vs hvs=>?_)
 obtain ⟨o2,hs2,ht2⟩:=o1.back x2
 rw [hra] at fin
 rw [List.append_nil]
 obtain ⟨k1,hO,kh1,gg⟩:=fc _ H2 hs2 o2
 have dFc:∀ q,less h k1 q≠none→k1 q=none:=fun q z=>by
  cases y:k1 q with
  | none=>rfl
  | some s=>exact absurd (zB_ (H:=h) q (by rw [y]; exact Option.some_ne_none _)) z
 have sFc:Same (un (less G2 h) (less h k1)) H2:=fun q o z=>by
  unfold un at z
  cases y:less G2 h q with
  | some s=>rw [y] at z; rw [← z]; exact o2.1.2.1 _ _ y
  | none=>rw [y] at z; exact o2.2.2.1 _ _ (zaj_ _ _ z)
 have djc:Dj (un (less G2 h) (less h k1)) k1:=fun q=>by
  by_cases z:k1 q=none
  ·exact .inr z
  ·left
   unfold un
   have:less G2 h q=none:=zB_ q fun y=>z (kh1.free y)
   rw [this]; exact zB_ q z
 refine ⟨un (less G2 h) (less h k1),k1,yp.1,c,u0,vs,rfl,sFc,djc,kh1.trans o2.2.2.1,O'.mono zU_ hO,Q.mono zU_ (hC ht2 hvs),?_⟩
 have fin:Fin K ((g yp.1 c).noex.bind fun q=>k (yp.2 q.2)) E LS LB Or F0 H0 D:=fin
 cases e:g yp.1 c with
 | no=>rw [e] at fin; exact fin
 | ex cc=>rw [e] at fin; exact fin.elim
 | ok q =>
  rw [e] at fin
  rintro F' h' H' okc v ⟨hr,hs',j,_,hO2⟩
  have lo:∀ q',less h k1 q'≠none→h q'≠none:=fun q' z y=>z (by unfold less; split; exact y; rfl)
  have tp:Tups F' (less F' (less h k1)):=fun b xs z=>by
   cases y:less h k1 b with
   | none=>rw [zx_ y]; exact z
   | some s =>
    exfalso
    have y2:un (less G2 h) (less h k1) b=some s:=by
     unfold un
     have:less G2 h b=none:=zB_ b (lo b (by rw [y]; exact Option.some_ne_none _))
     rw [this]; exact y
    have:=okc.1.1 _ _ y2
    rw [z] at this
    injection this with this
    exact o2.2.2.2.2 b xs (by rw [this]; exact zaj_ _ _ y)
  have PC:PutC (less G2 h) H2 h H0 k1 hs' (less F' (less h k1)) H':=by
   refine ⟨fun b o z=>?_,fun b o z=>okc.1.2.1 _ _ (zaj_ _ _ z),okc.1.2.2.1,fun b a1 a2=>?_,j.r.trans okc.2.2.1,fun b=>?_,fun b a1 a2=>?_⟩
   ·have hb:h b=none:=by
     cases y:h b with
     | none=>rfl
     | some s=>rw [zB_ b (by rw [y]; exact Option.some_ne_none _)] at z; cases z
    have:less h k1 b=none:=zaj_.free hb
    rw [zx_ this]
    exact okc.1.1 _ _ (zU_ _ _ z)
   ·have y:less h k1 b=none:=by
     cases y:less h k1 b with
     | none=>rfl
     | some s=>exact absurd (zB_ b (by rw [y]; exact Option.some_ne_none _)) a2
    rw [zx_ y] at a2
    have y2:un (less G2 h) (less h k1) b=none:=by unfold un; rw [a1]; exact y
    have y3:=okc.1.2.2.2 b y2 a2
    by_cases z:k1 b=none
    ·left; rw [zx_ z] at y3; exact y3
    ·exact .inr z
   ·by_cases z:hs' b=none
    ·exact .inr z
    ·left
     rcases okc.2.1 b with y | y
     ·exact zaj_.free y
     ·exact absurd (j.r.free y) z
   ·have y:=okc.2.2.2.1 b fun y=>a2 (j.r.free y)
    rw [zx_ a1] at y
    exact ⟨o2.2.2.1.free y,o2.1.2.2.1.free y⟩
  obtain ⟨h3,a1,a2⟩:=gg q.2 hs' _ H' PC (hI tp hO2)
  exact hk _ F0 H0 σ _ h3 H' D a1 a2 fin
theorem zmT_ {E0:XK}{O:Own α}{O':Own β}{r0:Mo (β×(β→α))}{Q:Cs γ}{ta:TA}{ra:Mo γ}{g:β→γ→Mo (ρ'×β)}{Or':Own ρ'}{k:α→Mo (Out ρ B S)}(hI:ImmO O') (hp:EvPt K te E L i O O' r0) (hC:ImmC Q) (ha:EvA K ta E L ra Q)
  (hk:∀ x',EvS K u E (L.set i (.ow O x')) (k x') LS LB Or) :
  EvS K (tSeq (tDrop (tCall (CtM K O' O' Q g Or') [] E0 (tCons te ta))) u) E L (r0.bind fun yp=>ra.bind fun c=>(g yp.1 c).noex.bind fun q=>(Mo.ok (yp.2 q.2)).bind k) LS LB Or:=zoS_ hI hp hC ha hk
end
section
variable {K:Fgg}{E:XK}{α β γ ρ κ S B:Type}{T:Ty α}{O:Own ρ}{LB:B→List Sl}{KY:KyT κ}
end
end L2
namespace L2
open PySem PySem.Spec PyProof.Rows
section
variable {K:Fgg}{E E0:XK}{α β γ ρ ρ' S B:Type}{F0 H0 F h H:Hp}{L:List Sl}{T:Ty α}{Or:Own ρ}{t u:TS}{e te:TE}{LS:S→List Sl}{LB:B→List Sl}{i j n:Nat}{σ:St}
def putL.{uu} {α:Type uu}:Nat→α→List α→List α
 | 0,x,l=>x::l
 | n+1,x,y::l=>y::putL n x l
 | _+1,x,[]=>[x]
inductive TaIn (i:Nat):Nat→TA→TA→Prop
 | zero {ta:TA}:TaIn i 0 ta (tCons (mVar i) ta)
 | succ {n:Nat}{e:TE}{ta ta':TA}(h:TaIn i n ta ta'):TaIn i (n+1) (tCons e ta) (tCons e ta')
theorem zoD_ {w:V}(e:σ[i]?=some (some w)) (H:Hp) (Q:VK):mVar i σ H Q=Q w H:=by unfold mVar; rw [e]
theorem TaIn.eq {ta ta':TA}{w:V}(h:TaIn i n ta ta') (e:σ[i]?=some (some w)):∀ (H:Hp) (Q:List V→Hp→Prop),ta' σ H Q=ta σ H fun vs H1=>Q (putL n w vs) H1:=by
 induction h with
 | zero=>intro H Q; exact zoD_ e H _
 | succ _ ih =>
  intro H Q
  unfold tCons
  congr 1
  funext x H1
  exact ih H1 _
theorem zod_ (d:Dj F h):less F h=F:=funext fun p=>by
 cases y:h p with
 | none=>exact zx_ y
 | some w =>
  rw [zB_ p (by rw [y]; exact Option.some_ne_none _)]
  rcases d p with z | z
  ·exact z.symm
  ·rw [y] at z; cases z
variable {tc te2:TE}{w:Nat}
theorem zgX_ {Or':Own ρ'}{a:ρ'}{v:V}{F' h' h1 h2 H':Hp}(o:Okk F0 H0 F' h' H') (j:Jn h1 h2 h') (res:Or'.O a v F' h2):Okk F0 H0 (un F' h2) h1 H'∧Or'.fr.R a v (un F' h2):=by
 refine ⟨zlH_ (zcR_ o j.l) (fun p z=>⟨o.2.2.2.1 p fun y=>z (j.r.free y),?_⟩) (j.r.trans o.2.2.1),Or'.frz (fun p=>?_) res⟩
 ·rcases j.dj p with y | y
  ·exact y
  ·exact absurd y z
 ·rcases o.2.1 p with z | z
  ·exact .inl z
  ·exact .inr (j.r.free z)
end
end L2
namespace L2
open PySem PySem.Spec PyProof.Rows
def Fi (K:Fgg) (x q:Str) (st:Stmt) (f:Addr):Prop:=∃ (oc:Value) (od:Option Addr) (kV doc pm:Value) (an:Option Addr) (cdv ct:Value) (osl:Array (Option Value)),
 K.lookup f=some ⟨oc,od,.func (PySem.W.fnOf x q (defArgs st) (defBody st) (defScope st) .none kV doc pm an cdv ct),osl⟩∧PySem.W.codeIn K cdv q=true∧PySem.W.keepIn K (.ref f)=true
def Fg (K:Fgg) (x:Str) (st:Stmt):Prop:=∃ f,PySem.W.nsIn K mainGlobals x=some (some (.ref f))∧Fi K x x st f
def Fm (K:Fgg) (c m q:Str) (st:Stmt):Prop:=∃ cw f,PySem.W.nsIn K mainGlobals c=some (some (.ref cw))∧PySem.W.findIn K (.ref cw) m=some (some (.ref f))∧PySem.W.isFn K (.ref f)=true∧Fi K m q st f
def Fc (K:Fgg) (c:Str):Prop:=∃ cw,PySem.W.nsIn K mainGlobals c=some (some (.ref cw))∧PySem.W.plainGet K cw Str.empty=true∧PySem.W.hasDictIn K cw=true∧PySem.W.plainOver K cw=true ∧
 PySem.W.findIn K (.ref cw) "__setattr__" = some (some (.builtin "object.__setattr__"))∧PySem.W.makesIn K cw=true∧PySem.W.keepIn K (.ref cw)=true
def Fa (K:Fgg) (c a:Str):Prop:=∃ cw,PySem.W.nsIn K mainGlobals c=some (some (.ref cw))∧PySem.W.findIn K (.ref cw) a=some none
def Fb (K:Fgg) (x:Str):Prop:=PySem.W.nsIn K mainGlobals x=some none
def Fv (K:Fgg) (x:Str) (v:V):Prop:=∃ u,PySem.W.nsIn K mainGlobals x=some (some u)∧RelV v u
def Fk (K:Fgg) (x:Str):Prop:=∃ c,PySem.W.nsIn K mainGlobals x=some (some (.ref c))
def Mgo (K:Fgg) (mg:Str→Option Value):Prop:=∃ h:Heap,K.In h∧h.Ns mainGlobals mg
section
variable {P:Program}{w:World}{K:Fgg}{mg:Str→Option Value}{base:Heap}{CX:CXT}{x q c m a:Str}{st:Stmt}{f:Addr}{fd:FuncData}{N ps:List Str}{k j:Nat}{sp:Sp}{A:Around}{v:V}
theorem Fg.mk_ {oc:Value}{od:Option Addr}{kV doc pm:Value}{an:Option Addr}{cdv ct:Value}{osl:Array (Option Value)}(h:PySem.W.nsIn K mainGlobals x=some (some (.ref f))) (l:K.lookup f=some ⟨oc,od,.func (PySem.W.fnOf x x (defArgs st) (defBody st) (defScope st) .none kV doc pm an cdv ct),osl⟩) (c:PySem.W.codeIn K cdv x=true) (k:PySem.W.keepIn K (.ref f)=true):Fg K x st:=⟨f,h,oc,od,kV,doc,pm,an,cdv,ct,osl,l,c,k⟩
theorem Fm.mk_ {cw:Addr}{oc:Value}{od:Option Addr}{kV doc pm:Value}{an:Option Addr}{cdv ct:Value}{osl:Array (Option Value)}(h:PySem.W.nsIn K mainGlobals c=some (some (.ref cw))) (h1:PySem.W.findIn K (.ref cw) m=some (some (.ref f))) (h2:PySem.W.isFn K (.ref f)=true) (l:K.lookup f=some ⟨oc,od,.func (PySem.W.fnOf m q (defArgs st) (defBody st) (defScope st) .none kV doc pm an cdv ct),osl⟩) (h3:PySem.W.codeIn K cdv q=true) (k:PySem.W.keepIn K (.ref f)=true):Fm K c m q st:=⟨cw,f,h,h1,h2,oc,od,kV,doc,pm,an,cdv,ct,osl,l,h3,k⟩
theorem Fc.mk_ {cw:Addr}(h:PySem.W.nsIn K mainGlobals c=some (some (.ref cw))) (h1:PySem.W.plainGet K cw Str.empty=true) (h2:PySem.W.hasDictIn K cw=true) (h3:PySem.W.plainOver K cw=true) (h4:PySem.W.findIn K (.ref cw) "__setattr__" = some (some (.builtin "object.__setattr__"))) (h5:PySem.W.makesIn K cw=true) (h6:PySem.W.keepIn K (.ref cw)=true):Fc K c:=⟨cw,h,h1,h2,h3,h4,h5,h6⟩
theorem Fa.mk_ {cw:Addr}(h:PySem.W.nsIn K mainGlobals c=some (some (.ref cw))) (h1:PySem.W.findIn K (.ref cw) a=some none):Fa K c a:=⟨cw,h,h1⟩
theorem Fv.mk_ {u:Value}(h:PySem.W.nsIn K mainGlobals x=some (some u)) (h1:RelV v u):Fv K x v:=⟨u,h,h1⟩
theorem Fk.mk_ {cw:Addr}(h:PySem.W.nsIn K mainGlobals x=some (some (.ref cw))):Fk K x:=⟨cw,h⟩
theorem Fi.fun_ (h:Fi K x q st f):∃ fd,Fun K x q st f fd:=by
 obtain ⟨oc,od,kV,doc,pm,an,cdv,ct,osl,l,c,k⟩:=h
 exact ⟨_,zn9_ l c k⟩
theorem Mgo.gb (M:Mgo K mg) (h:Fb K x):Gb mg x:=by
 obtain ⟨_,X,G⟩:=M
 exact PySem.W.mg_none_of X G h
theorem Mgo.gv (M:Mgo K mg) (h:Fv K x v):Gc mg x v:=by
 obtain ⟨_,X,G⟩:=M; obtain ⟨u,e,r⟩:=h
 exact ⟨u,PySem.W.mg_of X G e,r⟩
theorem Mgo.gk (M:Mgo K mg) (h:Fk K x):mg x=some (.ref (gA K x)):=by
 obtain ⟨_,X,G⟩:=M; obtain ⟨u,e⟩:=h
 rw [zmK_ e]; exact PySem.W.mg_of X G e
theorem Mgo.gkc (M:Mgo K mg) (h:Fk K x):Gc mg x (.ref (gA K x)):=⟨_,M.gk h,rfl⟩
theorem Fc.cls (h:Fc K c):Cls K (gA K c):=by
 obtain ⟨cw,e,h1,h2,h3,h4,_⟩:=h
 rw [zmK_ e]; exact ⟨h1,h2,h3,h4⟩
theorem Fa.no (h:Fa K c a):NoAttr K (gA K c) a:=by
 obtain ⟨cw,e,h⟩:=h
 rw [zmK_ e]; exact h
abbrev OkF (P:Program) (w:World) (K:Fgg) (mg:Str→Option Value) (base:Heap) (CX:CXT) (k:Nat) (x q:Str) (st:Stmt) (ps:List Str) (sp:Sp):Prop:=∀ f fd,Fun K x q st f fd→FnOk P w K mg base CX k f fd ps sp∧Binds K fd ps []
theorem zf2_ (M:Mgo K mg) (F:Fg K x st) (h:OkF P w K mg base CX k x x st ps sp):Gd P w K mg base CX k x ps sp:=by
 obtain ⟨_,X,G⟩:=M; obtain ⟨f,e,i⟩:=F; obtain ⟨fd,F⟩:=i.fun_
 exact ⟨f,fd,(h f fd F).1,PySem.W.mg_of X G e,F.kp,(h f fd F).2⟩
theorem zfc_ (C:Fc K c) (F:Fm K c m q st) (h:OkF P w K mg base CX k m q st ps sp):Gm P w K mg base CX k (gA K c) m ps sp:=by
 obtain ⟨cw,f,e,e2,e3,i⟩:=F; obtain ⟨fd,F⟩:=i.fun_
 exact ⟨f,fd,(h f fd F).1,C.cls,by rw [zmK_ e]; exact ⟨e2,e3,F.kp⟩,(h f fd F).2⟩
theorem zqt_ (M:Mgo K mg) (C:Fc K c) (F:Fm K c "__init__" q st) (h:OkF P w K mg base CX k "__init__" q st ps sp):Gk P w K mg base CX k c (gA K c) ps sp:=by
 obtain ⟨cw,f,e,e2,e3,i⟩:=F; obtain ⟨fd,F⟩:=i.fun_
 obtain ⟨cw',e',_,_,_,_,h5,h6⟩:=C
 cases e.symm.trans e'
 refine ⟨f,fd,(h f fd F).1,by rw [zmK_ e]; exact ⟨h5,e2,e3,h6⟩,M.gk ⟨_,e⟩,(h f fd F).2⟩
theorem hm (hr:Room k A) (h:j≤k:=by decide):Room j A:=hr.mono h
end
section
variable {P:Program}{w:World}{K:Fgg}{mg:Str→Option Value}{base:Heap}{x q:Str}{st:Stmt}{N ps:List Str}{k:Nat}{α β γ ρ:Type}
abbrev Tm (P:Program) (w:World) (K:Fgg) (mg:Str→Option Value) (base:Heap) (k:Nat) (N:List Str) (q:Str) (st:Stmt) (t:XK→TS):Prop :=
 ∀ (cdv:Value) (A:Around) (outer:List Env) (s:Shared) (H:Hp) (f:Addr) (E:XK),N.Nodup→Room k (A.deeper (envOfC q (defScope st) s.heap.objs.size f cdv))→PSs (cxOf CX0 P w K mg base N q (defScope st) f cdv A outer s H E).nox (defBody st) (t E)
abbrev Bnd (K:Fgg) (x q:Str) (st:Stmt) (ps:List Str):Prop:=∀ f fd,Fun K x q st f fd→Binds K fd ps []
theorem okC {C:Cs γ}{O:Own ρ}{ss:γ→List Sl}{g:γ→Mo (Out ρ Unit Unit)}{t:XK→TS}(n m:Nat) (hC:CsS C ss) (tm:Tm P w K mg base k N q st t)
  (ev:∀ c E,EvS K (t E) E (ss c++List.replicate m .dead) (g c) (fun _:Unit=>[]) (fun _:Unit=>[]) O) (hn:CsN C n:=by repeat first | exact zav_ | exact zjA_ | refine zZ_ ?_) (S:FnScope N ps (defScope st):=by exact ⟨rfl,rfl,rfl,by decide +kernel,rfl,by decide +kernel,by decide +kernel⟩) (b:Bnd K x q st ps:=by first | exact fun _ _ F=>Fun.binds1 rfl F fun _ _ _ _ _ _ _=>rfl | exact fun _ _ F=>Fun.binds2 rfl F fun _ _ _ _ _ _ _ _=>rfl | exact fun _ _ F=>Fun.binds3 rfl F fun _ _ _ _ _ _ _ _ _=>rfl | exact fun _ _ F=>Fun.binds4 rfl F fun _ _ _ _ _ _ _ _ _ _=>rfl | exact fun _ _ F=>Fun.binds5 rfl F fun _ _ _ _ _ _ _ _ _ _ _=>rfl | exact fun _ _ F=>Fun.binds6 rfl F fun _ _ _ _ _ _ _ _ _ _ _ _=>rfl | exact fun _ _ F=>Fun.binds7 rfl F fun _ _ _ _ _ _ _ _ _ _ _ _ _=>rfl) (hp:ps.length=n:=by rfl) (hm:N.length-n=m:=by rfl):OkF P w K mg base CX0 (k+1) x q st ps (Ct K C (fun c=>fnO (g c)) O):=fun f fd F =>
 ⟨F.ok S (fun vs H Q E h=>by obtain ⟨F,c,_,hc,_⟩:=h; exact (hn hc).trans hp.symm) fun cdv A outer s H vs Q E hr h=>⟨t E,tm cdv A outer s H f E S.nd hr,fn_rd (N:=N) (t:=t) n m hn hm hC ev vs H Q E h⟩,b f fd F⟩
theorem okU {O:Own α}{O2:Own β}{C:Cs γ}{ss:γ→List Sl}{g:α→γ→Mo (Out (Unit×β) Unit β)}{t:XK→TS}{LS:V→β→List Sl}(n m:Nat) (hC:CsS C ss) (tm:Tm P w K mg base k N q st t)
  (ev:∀ w x c E,EvS K (t E) E (.ow (owAt w O) x::(ss c++List.replicate m .dead)) (g x c) (LS w) (fun _:Unit=>[]) (owRM w O2 (owF tyNon))) (hn:CsN C n:=by repeat first | exact zav_ | exact zjA_ | refine zZ_ ?_) (S:FnScope N ps (defScope st):=by exact ⟨rfl,rfl,rfl,by decide +kernel,rfl,by decide +kernel,by decide +kernel⟩) (b:Bnd K x q st ps:=by first | exact fun _ _ F=>Fun.binds1 rfl F fun _ _ _ _ _ _ _=>rfl | exact fun _ _ F=>Fun.binds2 rfl F fun _ _ _ _ _ _ _ _=>rfl | exact fun _ _ F=>Fun.binds3 rfl F fun _ _ _ _ _ _ _ _ _=>rfl | exact fun _ _ F=>Fun.binds4 rfl F fun _ _ _ _ _ _ _ _ _ _=>rfl | exact fun _ _ F=>Fun.binds5 rfl F fun _ _ _ _ _ _ _ _ _ _ _=>rfl | exact fun _ _ F=>Fun.binds6 rfl F fun _ _ _ _ _ _ _ _ _ _ _ _=>rfl | exact fun _ _ F=>Fun.binds7 rfl F fun _ _ _ _ _ _ _ _ _ _ _ _ _=>rfl) (hp:ps.length=n+1:=by rfl) (hm:N.length-(n+1)=m:=by rfl) (hLS:∀ w x,(LS w x)[0]?=some (.ow (owAt w O2) x):=by exact fun _ _=>rfl):OkF P w K mg base CX0 (k+1) x q st ps (CtM K O O2 C (fun x c=>fnMU (g x c)) (owF tyNon)):=fun f fd F =>
 ⟨F.ok S (fun vs H Q E h=>by obtain ⟨F,h,x,c,w,ws,rfl,_,_,_,_,hc,_⟩:=h; rw [List.length_cons,hn hc,hp]) fun cdv A outer s H vs Q E hr h=>⟨t E,tm cdv A outer s H f E S.nd hr,zoO_ (N:=N) (t:=t) n m hn hm hC hLS ev vs H Q E h⟩,b f fd F⟩
theorem okR {O:Own α}{O2:Own β}{Or:Own ρ}{C:Cs γ}{ss:γ→List Sl}{g:α→γ→Mo (Out (ρ×β) Unit Unit)}{t:XK→TS}(n m:Nat) (hC:CsS C ss) (tm:Tm P w K mg base k N q st t)
  (ev:∀ w x c E,EvS K (t E) E (.ow (owAt w O) x::(ss c++List.replicate m .dead)) (g x c) (fun _:Unit=>[]) (fun _:Unit=>[]) (owRM w O2 Or)) (hn:CsN C n:=by repeat first | exact zav_ | exact zjA_ | refine zZ_ ?_) (S:FnScope N ps (defScope st):=by exact ⟨rfl,rfl,rfl,by decide +kernel,rfl,by decide +kernel,by decide +kernel⟩) (b:Bnd K x q st ps:=by first | exact fun _ _ F=>Fun.binds1 rfl F fun _ _ _ _ _ _ _=>rfl | exact fun _ _ F=>Fun.binds2 rfl F fun _ _ _ _ _ _ _ _=>rfl | exact fun _ _ F=>Fun.binds3 rfl F fun _ _ _ _ _ _ _ _ _=>rfl | exact fun _ _ F=>Fun.binds4 rfl F fun _ _ _ _ _ _ _ _ _ _=>rfl | exact fun _ _ F=>Fun.binds5 rfl F fun _ _ _ _ _ _ _ _ _ _ _=>rfl | exact fun _ _ F=>Fun.binds6 rfl F fun _ _ _ _ _ _ _ _ _ _ _ _=>rfl | exact fun _ _ F=>Fun.binds7 rfl F fun _ _ _ _ _ _ _ _ _ _ _ _ _=>rfl) (hp:ps.length=n+1:=by rfl) (hm:N.length-(n+1)=m:=by rfl):OkF P w K mg base CX0 (k+1) x q st ps (CtM K O O2 C (fun x c=>fnMR (g x c)) Or):=fun f fd F =>
 ⟨F.ok S (fun vs H Q E h=>by obtain ⟨F,h,x,c,w,ws,rfl,_,_,_,_,hc,_⟩:=h; rw [List.length_cons,hn hc,hp]) fun cdv A outer s H vs Q E hr h=>⟨t E,tm cdv A outer s H f E S.nd hr,zoj_ (N:=N) (t:=t) n m hn hm hC ev vs H Q E h⟩,b f fd F⟩
end
section
variable {l:PySem.W.OpenLaw}{w:World}{K:Fgg}{mg:Str→Option Value}{st:Stmt}{x:Str}{k:Nat}{sp:Sp}{fa:Addr}
theorem okLaw (M:Mgo K mg) (F:Fg K "law" st) (hfa:mg "law" = some (.ref fa)) (hb:∀ (kV doc pm:Value) (an:Option Addr) (cdv ct:Value) (s:Shared) (v:Value),bindArgs (PySem.W.fnOf "law" "law" (defArgs st) (defBody st) (defScope st) .none kV doc pm an cdv ct) ⟨[v],[]⟩=pure [(x,v)])
  (h:∀ (base:Heap) (f:Addr) (fd:FuncData),Fun K "law" "law" st f fd→FnOk l.prog w K mg base CX0 k f fd [x] sp) :
  ∃ fd:FuncData,(∀ (s:Shared) (v:Value),BindsTo s fd ⟨[v],[]⟩ [(x,v)])∧∀ base:Heap,K.In base→base.Ns mainGlobals mg→FnOk l.prog w K mg base CX0 k fa fd [x] sp:=by
 obtain ⟨_,X,G⟩:=M
 obtain ⟨f,e,oc,od,kV,doc,pm,an,cdv,ct,osl,l',c,kk⟩:=F
 cases hfa.symm.trans (PySem.W.mg_of X G e)
 exact ⟨_,fun s v=>.of_eq (hb kV doc pm an cdv ct s v),fun base _ _=>h base _ _ (zn9_ l' c kk)⟩
def spL (K:Fgg):Sp:=fun vs H Q _=>∃ (a:Addr) (ns:List Int),vs=[.ref a]∧SqL K H a (ns.map V.int)∧ns.length≤63∧BitsOk ns∧∀ H',Q (.bl true) H'
theorem okL {base:Heap}{N:List Str}{g:List Int→Mo (Out Bool Unit Unit)}{t:XK→TS}(m:Nat) (tm:Tm l.prog w K mg base k N "law" st t)
  (hf:∀ ns:List Int,ns.length≤63→BitsOk ns→fnO (g ns)=.ok true)
  (ev:∀ c E,EvS K (t E) E (.fz (tySc K) c::List.replicate m .dead) (g c) (fun _:Unit=>[]) (fun _:Unit=>[]) (owF tyBl)) (f:Addr) (fd:FuncData) (F:Fun K "law" "law" st f fd) (S:FnScope N [x] (defScope st):=by exact ⟨rfl,rfl,rfl,by decide +kernel,rfl,by decide +kernel,by decide +kernel⟩) (hm:N.length-1=m:=by rfl):FnOk l.prog w K mg base CX0 (k+1) f fd [x] (spL K) :=
 F.ok S (fun vs H Q E h=>by obtain ⟨a,ns,rfl,_⟩:=h; rfl) fun cdv A outer s H vs Q E hr h=>⟨t E,tm cdv A outer s H f E S.nd hr,by
  obtain ⟨a,ns,rfl,hS,hl,hb,q⟩:=h
  refine fn_rd (K:=K) (N:=N) (C:=csLast (tySc K)) (O:=owF tyBl) (t:=t) (ss:=fun c=>[.fz (tySc K) c]) (f:=g) 1 m zav_ hm zu_ ev _ H Q E ⟨H,ns,Same.refl _,⟨_,rfl,a,rfl,hS⟩,?_⟩
  show After K (fnO (g ns)) E H H _
  rw [hf ns hl hb]
  rintro F' H' x v h _ _ _ ⟨_,rfl⟩
  exact q H'⟩
end
section
variable {X:Cx}{x:Str}{pos pos':Pos}{e:Expr}{te:TE}
abbrev FrP (X:Cx) (scope:Scope) (q:Str×Nat):Prop:=X.N[q.2]?=some q.1∧(q.1,NameKind.free)∈scope.names∧(X.env.kindOf q.1=some .cell∨X.env.kindOf q.1=some .free)∧((relabel scope X.env).names.lookup q.1=some .cell∨(relabel scope X.env).names.lookup q.1=some .free)
theorem pgn (i:Nat) (hN:X.N.Nodup:=by assumption) (hi:X.N[i]?=some x:=by rfl) (hx:Loc X.env.scope x:=by first | exact Or.inl rfl | exact Or.inr rfl) (hf:X.fn x=true∨X.env.scope.names.lookup x=some .local:=by first | exact .inl rfl | exact .inr rfl | assumption):PG X (.Name x pos) (gName i):=zlK_ hN hi hx hf
theorem pst (i:Nat) (he:PE X e te) (hN:X.N.Nodup:=by assumption) (hi:X.N[i]?=some x:=by rfl) (hx:Loc X.env.scope x:=by first | exact Or.inl rfl | exact Or.inr rfl) (hs:swapsWith e (some (.Name x pos')) pos.line X.env=pure false:=by rfl) (hf:X.fn x=true∨X.env.scope.names.lookup x=some .local:=by first | exact .inl rfl | exact .inr rfl | assumption) :
  PS X (.Assign [.Name x pos'] e pos) (tAsg te (gName i)):=zpi_ hN hi hx he hs hf
theorem csm {scope:Scope}{cl:List (Str×Addr)}{lv:List Str}{fr:List (Str×Nat)}(h:closeL X.env.cells scope.names []=some cl) (f:∀ q∈fr,FrP X scope q) (h2:∀ y∈scope.names,y.2≠.cell:=by decide +kernel) (h3:scope.kind=.function:=by rfl) (h4:∀ z∈scope.names,z.2=.local→scope.names.lookup z.1=some .local:=by decide +kernel):CScope X scope cl lv fr:=⟨h,h2,h3,h4,f⟩
theorem frc {scope:Scope}{q:Str×Nat}{fr:List (Str×Nat)}(t:∀ q∈fr,FrP X scope q) (h:FrP X scope q:=by refine ⟨rfl,by decide +kernel,?_,?_⟩<;>first | exact Or.inl rfl | exact Or.inr rfl):∀ z∈q::fr,FrP X scope z:=znp_ h t
theorem fr0 {scope:Scope}:∀ q∈([]:List (Str×Nat)),FrP X scope q:=fun _ h=>by cases h
theorem pgc {scope:Scope}{cl:List (Str×Addr)}{C:Addr}{lv:List Str}{fr:List (Str×Nat)}{fp:List Addr}{s2:Shared}{H2:Hp}(i:Nat) (hN:(cN lv fr).Nodup:=by decide +kernel) (hi:(cN lv fr)[i]?=some x:=by rfl) (hx:Loc (cxComp X scope cl C (cN lv fr) fp s2 H2).env.scope x:=by exact Or.inl rfl) (hf:(cxComp X scope cl C (cN lv fr) fp s2 H2).fn x=true∨(cxComp X scope cl C (cN lv fr) fp s2 H2).env.scope.names.lookup x=some .local:=by first | exact .inl rfl | exact .inr rfl | assumption):PG (cxComp X scope cl C (cN lv fr) fp s2 H2) (.Name x pos) (gName i):=zlK_ hN hi hx hf
end
abbrev zeM_:=@PySem.F.slot_str_zfill
abbrev zev_:=@PySem.F.type_str_zfill
abbrev zgZ_:=@PySem.F.slot_str_index
abbrev zhc_:=@PySem.F.type_str_index
abbrev zdx_:=@PySem.F.slot_str_join
abbrev zdB_:=@PySem.F.type_str_join
abbrev zbv_:=@PySem.F.plainAttrs_list
abbrev zR_:=@PySem.F.slot_list_append
abbrev zP_:=@PySem.F.type_list_append
abbrev zaK_:=@PySem.F.slot_list_extend
abbrev zaS_:=@PySem.F.type_list_extend
abbrev zgG_:=@PySem.F.slot_list_clear
abbrev zgr_:=@PySem.F.type_list_clear
end L2
namespace L2
open PySem PySem.Spec PyProof.Rows PySem.W
def gallop':Bool→Keyed→Array Keyed→Nat→Nat→Nat→StateT SortSt Sem (Option Nat):=sortPriv% PySem.Builtin.gallop
section
variable {prog:Program}{w:World}{A:Around}{E:Value→Shared→Prop}{s:Shared}{κ:SortKind}{it:Nat→Keyed}{lt:Nat→Nat→Bool}{n:Nat}{st:SortSt}
end
section
variable {lt:Nat→Nat→Bool}{X Y O:List Nat}{ja jb k:Nat}
end
section
variable {prog:Program}{w:World}{A:Around}{E:Value→Shared→Prop}{s:Shared}{κ:SortKind}{it:Nat→Keyed}{lt:Nat→Nat→Bool}{n:Nat}{st st1 st2:SortSt}{X Y:List Nat}
variable {O:List Nat}{ja jb mg ac bc x:Nat}
end
section
variable {lt:Nat→Nat→Bool}{X Y O R:List Nat}{na nb i k q:Nat}
abbrev op (lt:Nat→Nat→Bool):Nat→Nat→Bool:=fun a b=>lt b a
end
section
variable {prog:Program}{w:World}{A:Around}{E:Value→Shared→Prop}{s:Shared}{κ:SortKind}{it:Nat→Keyed}{lt:Nat→Nat→Bool}{n:Nat}{st st1 st2:SortSt}{X Y:List Nat}
abbrev U7:Type:=Option (Array Keyed)×Nat×Nat×Array Keyed×Nat×Nat×Nat
def hi3 (a b:Array Keyed) (na nb:Nat) (ou:Array Keyed) (mg ac bc:Nat):StateT SortSt Sem (ForInStep U7):=do
 let e ← elem' a (na-1)
 if na-1 == 0 then pure (.done (some (a.extract 0 (na-1)++b.extract 0 nb++(ou.push e).reverse),na-1,nb,ou.push e,mg,ac,bc))
 else if ac<7 && bc<7 then pure (.done (none,na-1,nb,ou.push e,mg,ac,bc)) else pure (.yield (none,na-1,nb,ou.push e,mg,ac,bc))
def hi2b (a b:Array Keyed) (na nb q:Nat) (ou:Array Keyed) (mg ac:Nat):StateT SortSt Sem (ForInStep U7) :=
 if nb-q > 0 then
  if q == 1 then pure (.done (some (b.extract 0 q++a.extract 0 na++(ou++(b.extract q nb).reverse).reverse),na,q,ou++(b.extract q nb).reverse,mg,ac,nb-q))
  else if q == 0 then pure (.done (some (a.extract 0 na++b.extract 0 q++(ou++(b.extract q nb).reverse).reverse),na,q,ou++(b.extract q nb).reverse,mg,ac,nb-q))
  else hi3 a b na q (ou++(b.extract q nb).reverse) mg ac (nb-q)
 else hi3 a b na nb ou mg ac (nb-q)
def hi2 (a b:Array Keyed) (na nb:Nat) (ou:Array Keyed) (mg ac bc:Nat):StateT SortSt Sem (ForInStep U7):=do
 let e ← elem' b (nb-1)
 if nb-1 == 1 then pure (.done (some (b.extract 0 (nb-1)++a.extract 0 na++(ou.push e).reverse),na,nb-1,ou.push e,mg,ac,bc))
 else
  let f ← elem' a (na-1)
  let r ← gallop' true f b 0 (nb-1) (nb-1-1)
  match r with
  | some q=>hi2b a b na (nb-1) q (ou.push e) mg ac
  | _=>pure (.done (some (a.extract 0 na++b.extract 0 (nb-1)++(ou.push e).reverse),na,nb-1,ou.push e,mg,ac,bc))
def hi1 (a b:Array Keyed) (na nb q:Nat) (ou:Array Keyed) (mg bc:Nat):StateT SortSt Sem (ForInStep U7) :=
 if na-q > 0 then
  if q == 0 then pure (.done (some (a.extract 0 q++b.extract 0 nb++(ou++(a.extract q na).reverse).reverse),q,nb,ou++(a.extract q na).reverse,mg,na-q,bc))
  else hi2 a b q nb (ou++(a.extract q na).reverse) mg (na-q) bc
 else hi2 a b na nb ou mg (na-q) bc
variable {O:List Nat}{na nb mg ac bc x:Nat}
end
end L2
namespace L2
open PySem PySem.Spec PyProof.Rows PySem.W
section
variable {prog:Program}{w:World}{A:Around}{E:Value→Shared→Prop}{s:Shared}{κ:SortKind}{it:Nat→Keyed}{lt:Nat→Nat→Bool}{n:Nat}{st st1 st2:SortSt}
end
section
variable {prog:Program}{w:World}{A:Around}{E:Value→Shared→Prop}{s:Shared}{κ:SortKind}{it:Nat→Keyed}{lt:Nat→Nat→Bool}{n lo:Nat}{st st1 st2:SortSt}{p:Array Nat}{pd:Array (Nat×Nat×Nat)}
end
end L2
namespace L2
open PySem PySem.Spec PyProof.Rows PySem.W
section
variable {lt:Nat→Nat→Bool}
end
section
variable {prog:Program}{w:World}{A:Around}{E:Value→Shared→Prop}{s:Shared}{κ:SortKind}{it:Nat→Keyed}{lt:Nat→Nat→Bool}{n lo c:Nat}{st:SortSt}{T:List Nat}
end
section
variable {prog:Program}{w:World}{A:Around}{E:Value→Shared→Prop}{s:Shared}{vs:List Value}{lt:Nat→Nat→Bool}
end
end L2
namespace L2
open PySem PySem.Spec PyProof.Rows
section
variable {K:Fgg}{E:XK}{α β γ ρ S S' B B':Type}{F0 H0 F h H:Hp}{L L':List Sl}{e e1 e2:TE}{T:Ty α}{O:Own ρ}{t u:TS}{LS:S→List Sl}{LS':S'→List Sl}{LB:B→List Sl}
end
section
variable {P:Program}{w:World}{K:Fgg}{mg:Str→Option Value}{base:Heap}{x q:Str}{st:Stmt}{N ps:List Str}{k:Nat}{α β γ ρ:Type}
end
def Fe1 (K:Fgg) (a:Str) (P:Addr→Prop):Prop:=∃ v,PySem.W.nsIn K mainGlobals a=some (some (.ref v))∧P v
theorem Fe1.mk_ {K:Fgg}{a:Str}{P:Addr→Prop}{v:Addr}(h:PySem.W.nsIn K mainGlobals a=some (some (.ref v))) (p:P v):Fe1 K a P:=⟨v,h,p⟩
def Fe2 (K:Fgg) (a b:Str) (P:Addr→Addr→Prop):Prop:=∃ v w,PySem.W.nsIn K mainGlobals a=some (some (.ref v))∧PySem.W.nsIn K mainGlobals b=some (some (.ref w))∧P v w
theorem Fe2.mk_ {K:Fgg}{a b:Str}{P:Addr→Addr→Prop}{v w:Addr}(h:PySem.W.nsIn K mainGlobals a=some (some (.ref v))) (h2:PySem.W.nsIn K mainGlobals b=some (some (.ref w))) (p:P v w):Fe2 K a b P:=⟨v,w,h,h2,p⟩
theorem Fe2.g {K:Fgg}{a b:Str}{P:Addr→Addr→Prop}(h:Fe2 K a b P):P (gA K a) (gA K b):=by
 obtain ⟨v,w,h,h2,p⟩:=h
 rw [zmK_ h,zmK_ h2]; exact p
end L2
namespace L2
open PySem PySem.Spec PyProof.Rows
section
variable {K:Fgg}{E:XK}{L:List Sl}{e:TE}{α γ δ:Type}{T:Ty α}{C:Cs γ}{C':Cs δ}{f:γ→δ}{n m:Nat}
end
end L2
namespace L2
open PySem PySem.Spec PyProof.Rows
section
variable {K:Fgg}{E:XK}{α β γ ρ ρ' S B:Type}{F0 H0 F h H:Hp}{L:List Sl}{T:Ty α}{Or:Own ρ}{t u:TS}{e e1 e2 te:TE}{LS:S→List Sl}{LB:B→List Sl}{i j:Nat}{σ:St}
end
end L2
namespace L2
open PySem PySem.Spec PyProof.Rows
section
variable {K:Fgg}{E:XK}{α β γ ρ ρ' S B:Type}{F0 H0 F h H:Hp}{L:List Sl}{T:Ty α}{Or:Own ρ}{t u:TS}{e e1 e2 te:TE}{LS:S→List Sl}{LB:B→List Sl}{i j:Nat}{σ:St}
end
end L2
namespace L2
open PySem PySem.Spec PyProof.Rows
section
variable {K:Fgg}{E:XK}{α β γ ρ ρ' S B:Type}{F0 H0 F h H:Hp}{L:List Sl}{T:Ty α}{Or:Own ρ}{t u:TS}{e e1 e2 te:TE}{LS:S→List Sl}{LB:B→List Sl}{i j:Nat}{σ:St}
end
section
variable {X:Cx}
end
section
variable {K:Fgg}{E:XK}
end
end L2
namespace L2
open PySem PySem.Spec PyProof.Rows
section
variable {K:Fgg}{E:XK}{α β γ δ ρ ρ' S B:Type}{F0 H0 F h H:Hp}{L:List Sl}{e te ei tc:TE}{T:Ty α}{r:Mo α}{Or:Own ρ}{Or':Own ρ'}{t u:TS}{LS:S→List Sl}{LB:B→List Sl}{σ:St}{C:Addr}{ns:List Str}{f m:Str}{i n w j:Nat}
end
end L2
namespace L2
open PySem PySem.Spec PyProof.Rows
open PySem.SeqAt
open PySem.AutoSeq1 (wpAny_loadPart')
open PySem.MeetsSeq PySem.MeetsSeq2 PySem.MeetsSeq3
end L2
namespace L2
open PySem PySem.Spec PyProof.Rows
section
variable {K:Fgg}{E:XK}{H:Hp}
end
end L2
namespace L2
open PySem PySem.Spec PyProof.Rows
section
variable {α:Type}{O:Own α}
end
section
variable {K:Fgg}{E:XK}{α β γ δ ρ ρ' S B:Type}{F0 H0 F h H:Hp}{L:List Sl}{e te ei tc:TE}{T:Ty α}{r:Mo α}{Or:Own ρ}{Or':Own ρ'}{t u:TS}{LS:S→List Sl}{LB:B→List Sl}{σ:St}{C:Addr}{ns:List Str}{f m:Str}{i n w j:Nat}
end
end L2
namespace L2
open PySem PySem.Spec PyProof.Rows
section
variable {X:Cx}
end
section
variable {K:Fgg}{E:XK}{L:List Sl}{ta:TA}
end
end L2
namespace L2
open PySem PySem.Spec PyProof.Rows
section
variable {K:Fgg}{E E0:XK}{α β γ ρ ρ' S B:Type}{F0 H0 F h H:Hp}{L:List Sl}{T:Ty α}{Or:Own ρ}{t u:TS}{e te:TE}{LS:S→List Sl}{LB:B→List Sl}{i j n:Nat}{σ:St}
end
end L2
namespace L2
open PySem PySem.Spec PyProof.Rows
section
variable {K:Fgg}{E:XK}{α β γ δ ρ ρ' S B:Type}{F0 H0 F h H:Hp}{L:List Sl}{e te te2 ei tc:TE}{T:Ty α}{Or:Own ρ}{Or':Own ρ'}{t u:TS}{LS:S→List Sl}{LB:B→List Sl}{σ:St}{i n w j:Nat}
def Has (L:List Sl) (w:Nat):Prop:=∃ (δ:Type) (T0:Ty δ) (y0:δ),L[w]?=some (.fz T0 y0)
theorem Has.fz {T0:Ty δ}{y0:δ}(h:L[w]?=some (.fz T0 y0)):Has L w:=⟨δ,T0,y0,h⟩
theorem znO_ (hw:Has L w) (hL:Hold L σ F h):∃ x,σ[w]?=some (some x):=by
 obtain ⟨δ,T0,y0,e⟩:=hw
 obtain ⟨o,h1,h2,e1,j,⟨v,e2,hv⟩,f⟩:=hL.at w e
 exact ⟨v,by rw [e1,e2]⟩
theorem zox_ {O:Own α}{r:Mo (ρ'×α)}{O1:Own β}{kb:ρ'×α→Mo β}{s:Sl}{k:ρ'×α→β→Mo (Out ρ B S)}(hw:Has L w) (hj:∀ q:ρ'×α,(L.set i (.ow O q.2))[j]?=some s) (hO:ImmO O1) (hm:EvM K tc E L i O Or' r) (hk:∀ q,EvO K te2 E ((L.set i (.ow O q.2))++[.fz Or'.fr q.1]) (kb q) O1)
  (hte:∀ (σ:St),σ.length=L.length→∀ x,σ[w]?=some (some x)→∀ (H:Hp) (Q:VK),(tc σ H fun v H1=>te2 (σ++[some v]) H1 Q)→te σ H Q) (h1:∀ q a,EvS K u E ((L.set i (.ow O q.2)).set j (.ow O1 a)) (k q a) LS LB Or) :
  EvS K (tSeq (tAsg te (gName j)) u) E L (r.bind fun q=>(kb q).bind fun a=>k q a) LS LB Or:=by
 intro F0 H0 σ F h H D hL ok fin
 obtain ⟨x0,hx0⟩:=znO_ hw hL
 refine hte σ hL.len.symm x0 hx0 H _ (hm F0 H0 σ F h H _ hL ok (zc8_ fin fun q F' h' H' hr o v k1 k2 jj hold res=>?_))
 rw [hr] at fin
 obtain ⟨o2,hv⟩:=zgX_ o jj res
 have fin:Fin K ((kb q).bind fun a=>k q a) E LS LB Or F0 H0 D:=fin
 have hold2:=hold.mono (zU_ (h:=k2))
 refine hk q _ (un (un F' k2) k1) H' _ (zex_ (by rw [hold.len]) (hold2.froz o2.2.1) ⟨v,rfl,Or'.fr.mono zU_ hv⟩) o2.thaw (zad_ (G:=F') o2 _ (.inl rfl) fin fun a F3 H3 hra x3 v3 hn fresh dj hsn hv3=>?_)
 obtain ⟨o3,hs3,ht3⟩:=o2.back x3
 rw [hra] at fin
 have dj':Dj (less F3 k1) hn:=fun p=>by
  unfold less
  cases z:k1 p with
  | none=>exact dj p
  | some w=>exact .inl rfl
 obtain ⟨h',a1,a2⟩:=zh2_ o3 (hj q) (hold2.mono hs3) (fun p z=>o2.1.2.2.1.free (fresh p z)) dj' (zoh_ o2.2.2.1 fresh) hsn (hO ht3 hv3)
 exact h1 q a F0 H0 _ _ h' H3 D a1 a2 fin
end
end L2
namespace L2
theorem atO {K:Fgg}{E:XK}{α:Type}{e:TE}{r:Mo α}{O:Own α}(L:List Sl) (h:EvO K e E L r O):EvO K e E L r O:=h
theorem atT {K:Fgg}{E:XK}{e:TT}{r:Mo Bool}(L:List Sl) (h:EvT K e E L r):EvT K e E L r:=h
end L2
namespace L2
open PySem PySem.Spec PyProof.Rows
structure Scl (K:Fgg) (C:Addr) (m:Str) (f:Addr):Prop where
 sp:PySem.W.specialIn K (.ref C) "__getattribute__" = some (some (.builtin "type.__getattribute__"))
 rd:PySem.W.readsIn K C (.type "type")=true
 fd:PySem.W.findCls K (.ref C) (.type "type") m=some (.val (.ref f))
 hd:PySem.W.handedIn (.ref f)=true
 kp:PySem.W.keepIn K (.ref f)=true
def Gs (P:Program) (w:World) (K:Fgg) (mg:Str→Option Value) (base:Heap) (CX:CXT) (k:Nat) (x m:Str) (ps:List Str) (sp:Sp):Prop :=
 ∃ C f fd,FnOk P w K mg base CX k f fd ps sp∧mg x=some (.ref C)∧Scl K C m f∧Binds K fd ps []
section
variable {X:Cx}{e:Expr}{es:List Expr}{m x:Str}{p pos apos:Pos}{t:TA}{k:Nat}{ps:List Str}{sp:Sp}
theorem zn6_ {pl:Sem Bool}(G:Gs X.prog X.w X.K X.mg X.base CX0 k x m ps sp) (hr:Room k X.A) (ha:PA X (e::es) t) (hg:Gl X x:=by rfl) (hdb:(x == ("__debug__" : Str))=false:=by decide)
  (hst:starEach (e::es) X.env=(false,eval e X.env)::starEach es X.env:=by rfl) (hpl:(backTo pos (starEach es X.env)).any (·.1)=false:=by rfl)
  (ht:eval (.Call (.Attribute (.Name x p) m apos) (e::es) [] pos) X.env=(do
   let ov ← eval (.Name x p) X.env
   standAt apos.atName
   let (f,first) ← holding [ov] (getMethod ov m pl)
   callWith pos f first (backTo pos (starEach (e::es) X.env)) (backToKw pos (keywordEach [] X.env))):=by rfl) :
  PE X (.Call (.Attribute (.Name x p) m apos) (e::es) [] pos) (tCall sp [] E0 t):=by
 obtain ⟨C,f,fd,F,hm,hs,hb⟩:=G
 intro pins s σ H Q I h
 have hn:PE X (.Name x p) (tC (.ref C)):=zlq_ hg hm rfl hdb
 refine PySem.W.methodCall_KW (pl:=pl) (thn (hn pins s σ H (fun v H1=>v=.ref C∧tCall sp [] E0 t σ H1 Q) I ⟨rfl,h⟩) fun u s1 hq_=>?_) ht
 obtain ⟨x,H1,I1,rx,ex,q⟩:=hq_
 subst ex
 obtain rfl:u=Value.ref C:=rx
 refine PySem.W.method_cls I1.kIn hs.sp (PySem.W.cls_value I1.kIn hs.rd hs.fd hs.hd ?_)
 refine PySem.W.callWith_K (first:=[]) (h₀:=X.base) I.ok.mod.kin hs.kp (thn (ha pos pins _ σ H1 _ (I1.tok _) q) fun us s2 ⟨vs,H2,I2,r,q2⟩=>⟨I2.kIn,?_⟩) hst hpl
 exact zi2_ F hr hb .nil pass0 I2 r q2
end
def Fs (K:Fgg) (c m q:Str) (st:Stmt):Prop:=∃ cw f,PySem.W.nsIn K mainGlobals c=some (some (.ref cw))∧PySem.W.specialIn K (.ref cw) "__getattribute__" = some (some (.builtin "type.__getattribute__"))∧PySem.W.readsIn K cw (.type "type")=true∧PySem.W.findCls K (.ref cw) (.type "type") m=some (.val (.ref f))∧Fi K m q st f
section
variable {P:Program}{w:World}{K:Fgg}{mg:Str→Option Value}{base:Heap}{CX:CXT}{x q c m a:Str}{st:Stmt}{f:Addr}{fd:FuncData}{N ps:List Str}{k j:Nat}{sp:Sp}
theorem Fs.mk_ {cw:Addr}{oc:Value}{od:Option Addr}{kV doc pm:Value}{an:Option Addr}{cdv ct:Value}{osl:Array (Option Value)}(h:PySem.W.nsIn K mainGlobals c=some (some (.ref cw))) (h1:PySem.W.specialIn K (.ref cw) "__getattribute__" = some (some (.builtin "type.__getattribute__"))) (h2:PySem.W.readsIn K cw (.type "type")=true) (h3:PySem.W.findCls K (.ref cw) (.type "type") m=some (.val (.ref f)))
  (l:K.lookup f=some ⟨oc,od,.func (PySem.W.fnOf m q (defArgs st) (defBody st) (defScope st) .none kV doc pm an cdv ct),osl⟩) (hc:PySem.W.codeIn K cdv q=true) (hk:PySem.W.keepIn K (.ref f)=true):Fs K c m q st:=⟨cw,f,h,h1,h2,h3,oc,od,kV,doc,pm,an,cdv,ct,osl,l,hc,hk⟩
theorem gs_of (M:Mgo K mg) (F:Fs K c m q st) (h:OkF P w K mg base CX k m q st ps sp):Gs P w K mg base CX k c m ps sp:=by
 obtain ⟨_,X,G⟩:=M; obtain ⟨cw,f,e,e1,e2,e3,i⟩:=F; obtain ⟨fd,F⟩:=i.fun_
 exact ⟨cw,f,fd,(h f fd F).1,PySem.W.mg_of X G e,⟨e1,e2,e3,rfl,F.kp⟩,(h f fd F).2⟩
end
def isiK (K:Fgg) (C:Addr) (c:Value):Option Bool :=
 if (PySem.W.plainGet K C Str.empty && PySem.W.hasDictIn K C && PySem.W.plainOver K C && PySem.W.findIn K (.ref C) "__setattr__" == some (some (.builtin "object.__setattr__"))) && PySem.W.findIn K (.ref C) "__class__" == some (some (.builtin "object.__class__")) && PySem.W.specialIn K (.builtin "object.__class__") "__get__" == some (some (.builtin "getset_descriptor.__get__"))
  && PySem.W.takesIn K (.builtin "object.__class__") == some true && PySem.W.mroIn K C (.type "object") == some true then PySem.W.kitOne K (.ref C) c else none
def mIsaI (K:Fgg):List V→Hp→VK→Prop:=fun xs H Q=>match xs with
 | [.ref p,.ref s]=>∃ C dx fs b,H p=some (.ins C dx fs)∧isiK K C (.ref s)=some b∧Q (.bl b) H
 | _=>False
theorem zk2_ {X:Cx}:CallR X (.builtin "isinstance") (mIsaI X.K):=by
 intro pins s σ H xs us Q I r h
 unfold mIsaI at h
 split at h
 ·rename_i p c
  obtain ⟨C,dx,fs,b,hp,hk,q⟩:=h
  obtain ⟨u,z,rfl,r1,r2⟩:=vals2 r
  obtain rfl:z=.ref c:=r2
  unfold isiK at hk
  split at hk
  ·rename_i hc
   simp only [Bool.and_eq_true,beq_iff_eq] at hc
   obtain ⟨⟨⟨⟨⟨⟨⟨a1,a2⟩,a3⟩,a4⟩,a5⟩,a6⟩,a7⟩,a8⟩:=hc
   exact zhQ_ I r1 (.ins hp ⟨a1,a2,a3,a4⟩ a5 a6 a7 a8) hk fun tk=>⟨.bl b,H,I.tok tk,rfl,q⟩
  ·cases hk
 ·exact h.elim
section
variable {K:Fgg}{E:XK}{α β γ δ ρ ρ' S B κ:Type}{F0 H0 F h H:Hp}{L:List Sl}{e te ei tc:TE}{T:Ty α}{r:Mo α}{Or:Own ρ}{Or':Own ρ'}{t u:TS}{ta:TA}{LS:S→List Sl}{LB:B→List Sl}{σ:St}{C s:Addr}{ns:List Str}{f m:Str}{i n w j:Nat}
theorem zoU_ {Q:Cs γ}{r:Mo γ}{b:Bool}(hb:isiK K C (.ref s)=some b) (h:EvF K e E L r (tyI C ns Q)):EvF K (tCB (mIsaI K) (tCons e (tCons (tC (.ref s)) tNil))) E L (r.bind fun _=>.ok b) tyBl:=by
 intro σ F H R hL hs q
 refine h σ F H _ hL hs (q.bind.imp fun l F1 H1 x1 k1 v hq_=>?_)
 obtain ⟨p,dx,vs,e,hp,hl,hc⟩:=hq_
 subst e
 exact ⟨C,dx,_,b,x1.2.1 _ _ hp,hb,k1.ok x1.2.1 _ rfl⟩
theorem zhU_:Op2 K mIsNot E tyNon tyNon (fun _ _=>.ok false) tyBl:=by
 rintro a b x y F H Q hs rfl rfl k
 exact k.ok hs _ rfl
theorem zkH_ {O':Own β}{O2:Own δ}{x:β}{w0:V}{Q:Cs γ}{ra:Mo γ}{g:β→γ→Mo (ρ'×δ)}(hi:L[i]?=some (.ow (owAt w0 O') x)) (hI:ImmO O2) (hR:ImmO Or') (ha:EvA K ta E (L.map Sl.cold) ra Q) :
  EvM K (tCall (CtM K O' O2 Q g Or') [] E0 (tCons (mVar i) ta)) E L i (owAt w0 O2) Or' (ra.bind fun c=>(g x c).noex.bind fun q=>.ok (q.1,q.2)):=by
 intro F0 H0 σ F h H R hL ok fin
 obtain ⟨_,_,_,e0,_,⟨v0,rfl,_⟩,_⟩:=hL.at i hi
 show (tCons (mVar i) ta) σ H fun vs H1=>CtM K O' O2 Q g Or' (vs++[]) H1 R E0
 rw [(TaIn.zero (i:=i) (ta:=ta)).eq e0]
 have aft:∀ {kk:γ→Hp→Hp→Prop},(∀ c F' H',ra=.ok c→Ext F H F' H'→kk c F' H')→After K ra E F H kk:=fun {kk} hk=>by
  cases e:ra with
  | ok c=>exact fun F' H' x=>hk c F' H' e x
  | no=>rw [e] at fin; exact fin
  | ex cc=>rw [e] at fin; exact fun F' H' x=>fin _ _ _ (ok.cold x)
 refine ha σ F H _ hL.coldF ok.1.2.1 (aft fun c F2 H2 hra x2 vs hvs=>?_)
 rw [hra] at fin
 have o2:=ok.cold x2
 rw [List.append_nil]
 obtain ⟨_,k,hrest,e1,j,⟨v1,e2,hw0,hO⟩,f⟩:=(hL.mono x2.1).atM i hi
 rw [e0] at e1
 cases e1
 cases e2
 have kh1:Same k h:=j.l
 have sFc:Same (un F2 (less h k)) H2:=fun q o z=>by
  unfold un at z
  cases y:F2 q with
  | some s=>rw [y] at z; rw [← z]; exact o2.1.2.1 _ _ y
  | none=>rw [y] at z; exact o2.2.2.1 _ _ (zaj_ _ _ z)
 have djc:Dj (un F2 (less h k)) k:=fun q=>by
  by_cases z:k q=none
  ·exact .inr z
  ·left
   unfold un
   have:F2 q=none:=by
    rcases o2.2.1 q with y | y
    ·exact y
    ·exact absurd (kh1.free y) z
   rw [this]; exact zB_ q z
 refine ⟨un F2 (less h k),k,x,c,v0,vs,rfl,sFc,djc,kh1.trans o2.2.2.1,O'.mono zU_ hO,Q.mono zU_ hvs,?_⟩
 have fin:FinM K ((g x c).noex.bind fun q=>.ok (q.1,q.2)) E F0 H0 _:=fin
 cases e:g x c with
 | no=>rw [e] at fin; exact fin
 | ex cc=>rw [e] at fin; exact fin.elim
 | ok q =>
  rw [e] at fin
  rintro F' h' H' okc v ⟨hr,hs',j',hRes,hO2⟩
  have el:=zod_ o2.2.1
  have jk:Jn k hpE k:=fun _=>.inr ⟨rfl,rfl⟩
  obtain ⟨ff,tp,d1,d2,d3,okk⟩:=zkg_ (G2:=F2) (by rw [el]; exact o2) j jk (by rw [el]; exact okc) j'
  rw [el] at ff
  have eh:un hs' hpE=hs':=zp1_ (zch_ d1) fun _=>rfl
  have hold:=f (less F' (less h k)) (.ow (owAt w0 O2) q.2) (some v0) (un hs' hpE) _ ff (zch_ d2) ⟨v0,rfl,hw0,by rw [eh]; exact hI tp hO2⟩
  rw [za0_ e0] at hold
  exact fin _ _ H' okk v _ hr (zch_ d3) hold (hR tp hRes)
theorem zoN_ {O:Own β}{O1:Own α}{P:Ps γ}{st:γ→α→γ}{r0:Mo (γ×(γ→β))}{k:β→Mo (Out ρ B S)}(nd:ns.Nodup) (hf:ns[n]?=some f) (hsm:ns.length<1000) (pp:PsPut P n O1 st) (hO:ImmO O1) (he:EvO K e E L r O1) (hp:EvPt K te E L i O (owI C ns P) r0) (hk:∀ x',EvS K u E (L.set i (.ow O x')) (k x') LS LB Or) :
  EvS K (tSeq (mSFld C te e f) u) E L (r.bind fun a=>r0.bind fun yp=>(Mo.ok (yp.2 (st yp.1 a))).bind k) LS LB Or:=by
 intro F0 H0 σ F h H D hL ok fin
 refine he σ (un F h) H _ (hL.froz ok.2.1) ok.thaw (zad_ (G:=F) ok _ (.inl rfl) fin fun a F' H' hra x v hn fresh dj hsn hv=>?_)
 obtain ⟨o,hs,ht⟩:=ok.back x
 rw [hra] at fin
 refine hp F0 H0 σ (less F' h) h H' _ (hL.mono hs) o (zad_ (G:=F) o _ (.inl rfl) fin fun yp G1 H1 hr0 x1 u0 fc=>?_)
 obtain ⟨o1,hs1,_⟩:=o.back x1
 rw [hr0] at fin
 obtain ⟨k0,⟨p,dx,vs,m,rfl,ndx,jn,hl,ps⟩,kh,g⟩:=fc _ H1 (Same.refl _) o1
 obtain ⟨hnn,h2,h2m,pf⟩:=pp ps
 have hp1:H1 p=some (.ins C dx (ns.zip vs)):=o1.2.2.1 _ _ (kh _ _ (jn.l _ _ zf8_))
 refine ⟨dx,_,hp1,by rw [List.length_zip]; lia,?_⟩
 rw [zgS_ v nd hf hnn]
 have fr:∀ q,hn q≠none→less G1 h q=none∧h q=none∧H0 q=none:=fun q z=>by
  have hH':H' q≠none:=by
   cases y:hn q with
   | none=>exact absurd y z
   | some o=>rw [hsn _ _ y]; exact Option.some_ne_none _
  have hh:h q=none:=ok.2.2.1.free (fresh q z)
  refine ⟨?_,hh,ok.1.2.2.1.free (fresh q z)⟩
  have f1:less F' h q=none:=by
   rcases dj q with y | y
   ·exact zaj_.free y
   ·exact absurd y z
  have f2:un (less F' h) h q=none:=by unfold un; rw [f1]; exact hh
  refine zaj_.free ?_
  cases y:G1 q with
  | none=>rfl
  | some o'=>exact absurd (x1.2.2.2 q f2 (by rw [y]; exact Option.some_ne_none _)) hH'
 have dn:Dj hn h2:=fun q=>by
  by_cases z:hn q=none
  ·exact .inl z
  ·exact .inr (h2m.free (jn.r.free (kh.free (fr q z).2.1)))
 obtain ⟨j',P'⟩:=zhM_ (o':=.ins C dx (ns.zip (vs.set n v))) (hn:=hn) o1 kh ndx jn h2m fr (hsn.trans x1.2.2.1) dn
 obtain ⟨h',a1,a2⟩:=g (st yp.1 a) _ _ _ P' ⟨p,dx,vs.set n v,un hn h2,rfl,ndx,j',by rw [List.length_set]; exact hl,pf a v hn _ _ (Same.refl _) (O1.mono hs1 (hO ht hv)) (zch_ dn)⟩
 exact hk _ F0 H0 σ _ h' _ D a1 a2 fin
theorem znJ_ {p:Addr}{o':HO}(ok:Okk F0 H0 F h H) (hF:F p=none) (hh:h p=none) (h0:H0 p=none):Okk F0 H0 F h (upd H p o'):=by
 have ne:∀ {G:Hp}{b:Addr}{o:HO},G p=none→G b=some o→b≠p:=fun g z e=>by rw [e,g] at z; cases z
 exact ⟨⟨ok.1.1,fun b o z=>by rw [z7_ (ne hF z)]; exact ok.1.2.1 _ _ z,fun b o z=>by rw [z7_ (ne h0 z)]; exact ok.1.2.2.1 _ _ z,ok.1.2.2.2⟩,ok.2.1,fun b o z=>by rw [z7_ (ne hh z)]; exact ok.2.2.1 _ _ z,ok.2.2.2⟩
theorem ziV_ {T':Ty α}{r0:Mo (List β)}{T0:Ty β}{k:Mo (Out ρ B S)}(he0:EvO K te E L r0 (owL T0)) (he:EvF K e E L r T') (hk:EvS K u E L k LS LB Or) :
  EvS K (tSeq (tDrop (tBM K "list" rAppend te (tCons e tNil))) u) E L (r0.bind fun xs=>r.bind fun _=>.lim (xs.length+1) k) LS LB Or:=by
 intro F0 H0 σ F h H D hL ok fin
 show te σ H fun x H1=>tyV K "list" x H1∧tCons e tNil σ H1 fun xs H2=>rAppend x xs H2 (fun _ H3=>u D σ H3)
 refine he0 σ (un F h) H _ (hL.froz ok.2.1) ok.thaw (zad_ (G:=F) ok _ (.inl rfl) fin fun xs G1 H1 hr0 x1 v hn fresh dj hsn hv=>?_)
 obtain ⟨o1,hs1,_⟩:=ok.back x1
 rw [hr0] at fin
 obtain ⟨p,vs,rfl,rfl,pr⟩:=hv
 have hz:H p=none:=fresh p (by rw [zS_]; exact Option.some_ne_none _)
 have hp1:H1 p=some (.lst vs):=hsn _ _ zS_
 refine ⟨.inl ⟨rfl,vs,.of hp1⟩,?_⟩
 refine he σ (un (less G1 h) h) H1 _ ((hL.mono hs1).froz o1.2.1) o1.thaw (zad_ (G:=F) o1 _ (.inl rfl) fin fun a G2 H2 hra x2 v2 hv2=>?_)
 obtain ⟨o2,hs2,ht2⟩:=o1.back x2
 rw [hra] at fin
 obtain ⟨hz2,fin⟩:=zdN_ (show Fin K (Mo.lim (xs.length+1) k) E LS LB Or F0 H0 D from fin)
 have hh:h p=none:=ok.2.2.1.free hz
 have hG1:G1 p=none:=by
  rcases dj p with y | y
  ·exact y
  ·rw [zS_] at y; cases y
 have hG2:G2 p=none:=by
  cases y:G2 p with
  | none=>rfl
  | some o' =>
   have:=x2.2.2.2 p (by unfold un; rw [zaj_.free hG1]; exact hh) (by rw [y]; exact Option.some_ne_none _)
   rw [hp1] at this; cases this
 exact ⟨p,vs,v2,rfl,rfl,x2.2.2.1 _ _ hp1,by rw [← pr.len]; lia,hk F0 H0 σ _ h _ D ((hL.mono hs1).mono hs2) (znJ_ o2 (zaj_.free hG2) hh (ok.1.2.2.1.free hz)) fin⟩
section
variable [DecidableEq κ] {KY:KyT κ}
end
variable {te2:TE}
theorem zlD_ {c c2 d:TT}{O:Own α}{r:Mo (ρ'×α)}{kb:ρ'×α→Mo Bool}{r1 r2:ρ'×α→Mo (Out ρ B S)}(hm:EvM K tc E L i O Or' r) (hk:∀ q,EvT K c2 E ((L.set i (.ow O q.2))++[.fz Or'.fr q.1]) (kb q))
  (hte:∀ (σ:St),σ.length=L.length→∀ (H:Hp) (Q:Bool→Hp→Prop),(tc σ H fun v H1=>c2 (σ++[some v]) H1 Q)→c σ H Q) (h1:∀ q,EvS K t E (L.set i (.ow O q.2)) (r1 q) LS LB Or) (h2:∀ q,EvS K (mIfS d t u) E (L.set i (.ow O q.2)) (r2 q) LS LB Or) :
  EvS K (mIfS (mOr c d) t u) E L (r.bind fun q=>(kb q).bind fun b=>if b then r1 q else r2 q) LS LB Or:=by
 intro F0 H0 σ F h H D hL ok fin
 refine hte σ hL.len.symm H _ (hm F0 H0 σ F h H _ hL ok (zc8_ fin fun q F' h' H' hr o v k1 k2 j hold res=>?_))
 rw [hr] at fin
 obtain ⟨o2,hv⟩:=zgX_ o j res
 have fin:Fin K ((kb q).bind fun b=>if b then r1 q else r2 q) E LS LB Or F0 H0 D:=fin
 refine hk q _ (un (un F' k2) k1) H' _ (zex_ (by rw [hold.len]) ((hold.mono zU_).froz o2.2.1) ⟨v,rfl,Or'.fr.mono zU_ hv⟩) o2.thaw (zad_ (G:=F') o2 _ (.inl rfl) fin fun b G2 H2 hra x2=>?_)
 obtain ⟨o3,hs3,_⟩:=o2.back x2
 rw [hra] at fin
 have fin':Fin K (if b then r1 q else r2 q) E LS LB Or F0 H0 D:=fin
 have hold3:=(hold.mono zU_).mono hs3
 refine ⟨fun z=>?_,fun z=>?_⟩
 ·rw [if_pos z] at fin'; exact ⟨fun _=>h1 q F0 H0 σ _ k1 H2 D hold3 o3 fin',fun y=>by cases y⟩
 ·rw [if_neg (by rw [z]; decide)] at fin'; exact h2 q F0 H0 σ _ k1 H2 D hold3 o3 fin'
theorem zoW_ {g:TG}{ss:α→List (Nat×Sl)}{k:α→Mo (Out ρ B S)}(he:EvF K e E (L.map Sl.cold) r T) (hg:TgR K g T ss) (hk:∀ a,EvS K u E (setL L (ss a)) (k a) LS LB Or):EvS K (tSeq (tAsg e g) u) E L (r.bind k) LS LB Or:=by
 intro F0 H0 σ F h H D hL ok fin
 refine he σ F H _ hL.coldF ok.1.2.1 (zad_ (G:=F) ok _ (.inr rfl) fin fun a F' H' hr x v hv=>?_)
 rw [hr] at fin
 exact hg a v σ _ H' _ x.2.1 hv fun us hp=>hk a F0 H0 _ _ h H' D (zeA_ hp (hL.mono x.1)) (ok.cold x) fin
end
theorem Fun.binds0 {K:Fgg}{x qual:Str}{st:Stmt}{f:Addr}{fd:FuncData}(F:Fun K x qual st f fd) (h:∀ (kV doc pm:Value) (an:Option Addr) (cdv ct:Value),bindArgs (PySem.W.fnOf x qual (defArgs st) (defBody st) (defScope st) .none kV doc pm an cdv ct) ⟨[],[]⟩=pure []):Binds K fd [] []:=by
 refine F.binds fun kV doc pm an cdv ct us hl=>?_
 cases List.length_eq_zero_iff.mp hl
 exact h kV doc pm an cdv ct
end L2
namespace L2
open PySem PySem.Spec PyProof.Rows
section
variable {K:Fgg}{E:XK}{α β γ δ ρ ρ' S B κ:Type}{F0 H0 F h H:Hp}{L:List Sl}{e te te1 tc:TE}{T:Ty α}{r:Mo α}{Or:Own ρ}{Or':Own ρ'}{t u:TS}{ta:TA}{LS:S→List Sl}{LB:B→List Sl}{σ:St}{C s:Addr}{ns:List Str}{f m:Str}{i n w j:Nat}
def PsPin (P:Ps γ) (n:Nat) (Pv:V→Ps γ):Prop:=∀ {c vs F h},P.P c vs F h→∃ v,vs[n]?=some v∧(Pv v).P c vs F h
theorem pin_0 {O:Own α}{P:Ps γ}:PsPin (psO O P) 0 (fun v=>psO (owAt v O) P):=fun ⟨v,us,h1,h2,e,j,a,b⟩=>by
 subst e
 exact ⟨v,rfl,v,us,h1,h2,rfl,j,⟨rfl,a⟩,b⟩
theorem znk_ {O:Own α}{P:Ps γ}{Pv:V→Ps γ}(h:PsPin P n Pv):PsPin (psO O P) (n+1) (fun v=>psO O (Pv v)):=fun ⟨v,us,h1,h2,e,j,a,b⟩=>by
 subst e
 obtain ⟨w,e,q⟩:=h b
 exact ⟨w,e,v,us,h1,h2,rfl,j,a,q⟩
def PsUnp (Pv:V→Ps γ) (P:Ps γ):Prop:=∀ v c vs F h,(Pv v).P c vs F h→P.P c vs F h
theorem unp_0 {O:Own α}{P:Ps γ}:PsUnp (fun v=>psO (owAt v O) P) (psO O P):=fun _ _ _ _ _ ⟨v,us,h1,h2,e,j,a,b⟩=>⟨v,us,h1,h2,e,j,a.2,b⟩
theorem znm_ {O:Own α}{P:Ps γ}{Pv:V→Ps γ}(h:PsUnp Pv P):PsUnp (fun v=>psO O (Pv v)) (psO O P):=fun _ _ _ _ _ ⟨v,us,h1,h2,e,j,a,b⟩=>⟨v,us,h1,h2,e,j,a,h _ _ _ _ _ b⟩
theorem zls_ {P:Ps γ}{Pv:V→Ps γ}{pr:γ→List α}{st:γ→List α→γ}{w0:V}{x:γ}{r:Mo (List α×γ)}{k:List α×γ→Mo (Out ρ B S)}(hi:L[i]?=some (.ow (owAt w0 (owI C ns P)) x)) (nd:ns.Nodup) (hf:ns[n]?=some f) (pin:PsPin P n Pv) (unp:PsUnp Pv P) (pat:∀ v,PsAt (Pv v) n (owAt v (owL T)) pr st)
  (hm:∀ v,EvM K tc E (L.set i (.ow (owAt w0 (owI C ns (Pv v))) x)) i (owAt w0 (owI C ns (Pv v))) (owL T) r)
  (hk:∀ q,EvS K u E (L.set i (.ow (owAt w0 (owI C ns P)) (st q.2 (pr q.2++q.1)))) (k q) LS LB Or) :
  EvS K (tSeq (tDrop (tBM K "list" rExtend (mFld C (mVar i) f) (tCons tc tNil))) u) E L (r.bind fun q=>.lim ((pr q.2).length+q.1.length) (k q)) LS LB Or:=by
 intro F0 H0 σ F h H D hL ok fin
 have il:=(List.getElem?_eq_some_iff.mp hi).1
 obtain ⟨_,k0,_,e1,j0,⟨v0,rfl,ew,p,dx,vs,m0,ep,ndx,jn,hl,ps⟩,_⟩:=hL.at i hi
 subst ep
 obtain ⟨v1,ev1,ps1⟩:=pin ps
 have hpc:h p=some (.ins C dx (ns.zip vs)):=j0.l _ _ (jn.l _ _ zf8_)
 obtain ⟨vv,a1,a2,e3,j3,⟨e4,b,ws0,e5,e6,_⟩,_⟩:=pat v1 ps1
 rw [ev1] at e3; cases e3
 have hb:H b=some (.lst ws0):=by
  have x1:k0 b=some (.lst ws0):=jn.r _ _ (j3.l _ _ (by rw [e6]; exact zS_))
  exact ok.2.2.1 _ _ (j0.l _ _ x1)
 have hold1:Hold (L.set i (.ow (owAt w0 (owI C ns (Pv v1))) x)) σ F h:=zbE_ hL hi fun v k' ev kh ho=>by
  obtain ⟨ew',p',dx',vs',m',ep',ndx',jn',hl',ps'⟩:=ho
  rw [e1] at ev; cases ev
  cases ep'
  have:=kh _ _ (jn'.l _ _ zf8_)
  rw [hpc] at this
  injection this with this
  injection this with _ e7 e8
  subst e7
  have e9:=zjV_ hl hl' e8
  subst e9
  obtain ⟨v2,ev2,ps2⟩:=pin ps'
  rw [ev1] at ev2; cases ev2
  exact ⟨ew',p,dx,vs,m',rfl,ndx',jn',hl,ps2⟩
 show mVar i σ H fun x H1=>match x with
  | .ref a=>∃ dx fs v,H1 a=some (.ins C dx fs)∧fs.lookup f=some v∧(tyV K "list" v H1∧tCons tc tNil σ H1 fun xs H2=>rExtend v xs H2 (fun _ H3=>u D σ H3))
  | _=>False
 refine zb3_ e1 ⟨dx,_,v1,ok.2.2.1 _ _ hpc,zct_ nd hf ev1,?_⟩
 subst e5
 refine ⟨.inl ⟨rfl,ws0,.of hb⟩,?_⟩
 refine hm (.ref b) F0 H0 σ F h H _ hold1 ok (zc8_ fin fun q F' h' H' hra o v h1 h2 jj hold res=>?_)
 rw [hra] at fin
 obtain ⟨hz,fin⟩:=zdN_ (show Fin K (Mo.lim ((pr q.2).length+q.1.length) (k q)) E LS LB Or F0 H0 D from fin)
 rw [List.set_set] at hold
 obtain ⟨p2,us,rfl,e10,hr2⟩:=res
 have o1:Okk F0 H0 F' h1 H':=zcR_ o jj.l
 have hp2:H' p2=some (.lst us):=o.2.2.1 _ _ (jj.r _ _ (by rw [e10]; exact zS_))
 have hi':(L.set i (.ow (owAt w0 (owI C ns (Pv (.ref b)))) q.2))[i]?=some (.ow (owAt w0 (owI C ns (Pv (.ref b)))) q.2):=by rw [List.getElem?_set_self (by exact il)]
 obtain ⟨v3,ev3,fc⟩:=zhf_ (F0:=F0) (H0:=H0) hold hi'
 rw [e1] at ev3; cases ev3
 obtain ⟨k3,⟨ew3,p3,dx3,vs3,m3,ep3,ndx3,jn3,hl3,ps3⟩,kh3,_⟩:=fc F' H' (Same.refl _) o1
 cases ep3
 have hp3:h1 p=some (.ins C dx3 (ns.zip vs3)):=kh3 _ _ (jn3.l _ _ zf8_)
 obtain ⟨w3,_,_,ew4,_,⟨e11,_⟩,_⟩:=pat (.ref b) ps3
 have fcA:Foc F0 H0 σ h1 F' (owI C ns (Pv (.ref b))) q.2 (.ref p) (fun x'=>(L.set i (.ow (owAt w0 (owI C ns (Pv (.ref b)))) q.2)).set i (.ow (owAt w0 (owI C ns (Pv (.ref b)))) x')):=fun F2 H2 s o2=>by
  obtain ⟨k,⟨e,ho⟩,kh,g⟩:=fc F2 H2 s o2
  exact ⟨k,ho,kh,fun y' k' F3 H3 P hy=>g y' k' F3 H3 P ⟨e,hy⟩⟩
 have fc2:=Foc.part (put:=st q.2) fcA fun F2 k s kh ho=>zl3_ (pat (.ref b)) hp3 hl3 ew4 F2 k kh ho
 obtain ⟨k1,⟨e12,p5,ws,e13,rfl,prr⟩,kh',g⟩:=fc2 F' H' (Same.refl _) o1
 rw [e11] at e13
 cases e13
 have hb':H' b=some (.lst ws):=o1.2.2.1 _ _ (kh' _ _ zS_)
 obtain ⟨h',b1,b2⟩:=g (pr q.2++q.1) (one b (.lst (ws++us))) _ (upd H' b (.lst (ws++us))) (PutC.one o1 kh') ⟨e12,b,_,e11,rfl,prr.append hr2⟩
 simp only [List.set_set] at b1
 have hold3:=zbE_ (O2:=owAt w0 (owI C ns P)) (x2:=st q.2 (pr q.2++q.1)) b1 (by rw [List.getElem?_set_self (by exact il)]) fun v k ev kh ho=>by
  obtain ⟨a1,a2,a3,a4,a5,a6,a7,a8,a9,a10⟩:=ho
  exact ⟨a1,a2,a3,a4,a5,a6,a7,a8,a9,unp _ _ _ _ _ a10⟩
 rw [List.set_set] at hold3
 exact ⟨b,p2,ws,us,rfl,rfl,hb',hp2,by rw [← prr.len,← hr2.len]; exact hz,hk q F0 H0 σ _ h' _ D hold3 b2 fin⟩
theorem zmq_ {O:Own α}{T:Ty β}{r0:Mo (List (List β)×(List (List β)→α))}{s0:Sl}(hi:i<L.length) (hw:L[w]?=some s0) (hne:i≠w) (hp:EvPw K te E L i O (owLO (owL T)) r0) :
  EvS K (tFor (iAny K te) (gName w) (tDrop (tBM0 K "list" rClear (mVar w)))) E L (r0.bind fun yp=>(mapX (fun _=>.ok []) yp.1).bind fun xs=>.ok (.nx (yp.2 xs))) (fun x'=>(L.set i (.ow O x')).set w .dead) LB Or:=by
 refine znx_ hw hne hp fun uu v put xs k z=>?_
 have h1:∀ s1 s2:Sl,((L.set i s1).set w s2)[i]?=some s1:=fun s1 s2=>by rw [List.getElem?_set_ne (Ne.symm hne),List.getElem?_set_self (by exact hi)]
 have h2:∀ s1 s2:Sl,((L.set i s1).set w s2)[w]?=some s2:=fun s1 s2=>by rw [List.getElem?_set_self]; rw [List.length_set]; exact (List.getElem?_eq_some_iff.mp hw).1
 refine zc2_ (zl1_ (r0:=.ok (z,fun z'=>z')) (k:=fun x=>.ok (.nx x)) (zfV_ (h1 _ _) (h2 _ _)) fun x'=>?_)
 intro F0 H0 σ F h H D hL ok fin
 refine fin σ F h H ?_ ok
 rw [List.set_comm _ _ (Ne.symm hne),List.set_set] at hL
 obtain ⟨o,k,hr,e1,j,_,f⟩:=hL.at w (h2 _ _)
 have:=f .dead o k h j trivial
 rw [za0_ e1,List.set_set] at this
 exact this
theorem zhP_ {s:Sl}{o:Option V}:∀ {L:List Sl}{σ:St}{h:Hp},Hold (L++[s]) (σ++[o]) F h→L.length=σ.length→Hold L σ F h
 | [],[],_,_,_=>trivial
 | s'::L,o'::σ,h,⟨h1,h2,jj,p,r⟩,hl=>⟨h1,h2,jj,p,zhP_ r (by simpa using hl)⟩
 | [],_::_,_,_,hl=>by simp at hl
 | _::_,[],_,_,hl=>by simp at hl
theorem zhA_ {T:Ty α}{a:α}{v:V}(hv:T.R a v F):∀ {L:List Sl}{σ:St}{h:Hp},Hold L σ F h→Hold (L++[.fz T a]) (σ++[some v]) F h
 | [],[],h,_=>⟨hpE,h,fun _=>.inl ⟨rfl,rfl⟩,⟨v,rfl,hv⟩,trivial⟩
 | s'::L,o'::σ,h,⟨h1,h2,jj,p,r⟩=>⟨h1,h2,jj,p,zhA_ hv r⟩
 | [],_::_,_,q=>q.elim
 | _::_,[],_,q=>q.elim
theorem zpY_ {c c2:TT}{O:Own α}{O1:Own β}{r1:Mo β}{r:β→Mo (ρ'×α)}{kb:β→ρ'×α→Mo Bool}{ra rb:ρ'×α→Mo (Out ρ B S)}(hw:Has L w) (il:i<L.length) (hO:ImmO O1) (he:EvO K te1 E L r1 O1) (hm:∀ a,EvM K tc E (L++[Sl.fz O1.fr a]) i O Or' (r a)) (hk:∀ a q,EvT K c2 E (((L++[Sl.fz O1.fr a]).set i (.ow O q.2))++[Sl.fz Or'.fr q.1]) (kb a q))
  (hte:∀ (σ:St),σ.length=L.length→∀ x,σ[w]?=some (some x)→∀ (H:Hp) (Q:Bool→Hp→Prop),(te1 σ H fun v0 H0=>tc (σ++[some v0]) H0 fun v H1=>c2 ((σ++[some v0])++[some v]) H1 Q)→c σ H Q) (h1:∀ q,EvS K t E (L.set i (.ow O q.2)) (ra q) LS LB Or) (h2:∀ q,EvS K u E (L.set i (.ow O q.2)) (rb q) LS LB Or) :
  EvS K (mIfS c t u) E L (r1.bind fun a=>(r a).bind fun q=>(kb a q).bind fun b=>if b then ra q else rb q) LS LB Or:=by
 intro F0 H0 σ F h H D hL ok fin
 obtain ⟨x0,hx0⟩:=znO_ hw hL
 refine hte σ hL.len.symm x0 hx0 H _ (he σ (un F h) H _ (hL.froz ok.2.1) ok.thaw (zad_ (G:=F) ok _ (.inl rfl) fin fun a F1 H1 hr1 x1 v0 hn fresh dj hsn hv0=>?_))
 obtain ⟨o1,hs1,ht1⟩:=ok.back x1
 rw [hr1] at fin
 have fr:∀ p,hn p≠none→H0 p=none∧h p=none:=fun p z=>⟨ok.1.2.2.1.free (fresh p z),ok.2.2.1.free (fresh p z)⟩
 have o1':Okk F0 H0 (un (less F1 h) hn) h H1:=zlH_ o1 fr hsn
 have dj':Dj (less F1 h) hn:=fun p=>by
  rcases dj p with z | z
  ·exact .inl (zaj_.free z)
  ·exact .inr z
 have hvf:O1.fr.R a v0 (un (less F1 h) hn):=O1.frz dj' (hO ht1 hv0)
 have hold0:Hold (L++[Sl.fz O1.fr a]) (σ++[some v0]) (un (less F1 h) hn) h:=zhA_ hvf ((hL.mono hs1).mono zU_)
 have fin:Fin K ((r a).bind fun q=>(kb a q).bind fun b=>if b then ra q else rb q) E LS LB Or F0 H0 D:=fin
 refine hm a F0 H0 _ _ h H1 _ hold0 o1' (zc8_ fin fun q F' h' H' hr o v k1 k2 j hold res=>?_)
 rw [hr] at fin
 obtain ⟨o2,hv⟩:=zgX_ o j res
 have fin:Fin K ((kb a q).bind fun b=>if b then ra q else rb q) E LS LB Or F0 H0 D:=fin
 refine hk a q _ (un (un F' k2) k1) H' _ (zex_ (by rw [hold.len]) ((hold.mono zU_).froz o2.2.1) ⟨v,rfl,Or'.fr.mono zU_ hv⟩) o2.thaw (zad_ (G:=F') o2 _ (.inl rfl) fin fun b G2 H2 hra x2=>?_)
 obtain ⟨o3,hs3,_⟩:=o2.back x2
 rw [hra] at fin
 have fin':Fin K (if b then ra q else rb q) E LS LB Or F0 H0 D:=fin
 have hold3:=(hold.mono zU_).mono hs3
 rw [List.set_append_left _ _ il] at hold3
 have hold4:=zhP_ hold3 (by rw [List.length_set]; exact hL.len)
 refine ⟨fun z=>?_,fun z=>?_⟩
 ·rw [if_pos z] at fin'; exact h1 q F0 H0 σ _ k1 H2 D hold4 o3 fin'
 ·rw [if_neg (by rw [z]; decide)] at fin'; exact h2 q F0 H0 σ _ k1 H2 D hold4 o3 fin'
end
section
variable {prog:Program}{w:World}{A:Around}{E:Value→Shared→Prop}{s:Shared}
theorem parts3 {l:Addr}{x y z:Value}{Q:List Value→Shared→Prop}(hA:A.handled=none) (hl:s.heap.IsList l #[x,y,z]) (q:∀ h1,Heap.ExtBut s.heap.objs.size s.heap h1→Q [x,y,z] { s with heap:=h1 }) :
  wpAny (model prog w) A (unpackItems (.ref l) 3 none) Q E s:=by
 have ne:l≠s.heap.objs.size:=by obtain ⟨o,ho,_⟩:=hl; exact Nat.ne_of_lt (Heap.lt_size ho)
 unfold unpackItems notIterableAtAll
 refine wpAny_bind (wpAny_bind (wpAny_specialOf hl.typeIs slot_list_iter.lookup (wpAny_pure ?_)))
 rw [if_neg (by decide)]
 refine wpAny_bind (wpAny_holding (wpAny_pyIter_list hl ?_))
 have i0:Heap.IsListIter (s.heap.push { cls:=.type "list_iterator",data:=.fields #[.ref l,.int 0 0] }) s.heap.objs.size l 0:=⟨_,Heap.get?_push_size _ rfl,rfl,rfl⟩
 refine wpAny_bind (wpAny_holding ?_)
 show wpAny _ _ (pyNext _>>=_) _ _ _; refine wpAny_bind (wpAny_pyNext_list_item i0 (hl.push _) rfl fun h1 i1 e1=>?_)
 have l1:h1.IsList l #[x,y,z]:=(hl.push _).extBut e1.extBut ne
 refine wpAny_bind (wpAny_holding ?_)
 show wpAny _ _ (pyNext _>>=_) _ _ _; refine wpAny_bind (wpAny_pyNext_list_item (s:={ s with heap:=h1 }) i1 l1 rfl fun h2 i2 e2=>?_)
 have l2:h2.IsList l #[x,y,z]:=l1.extBut e2.extBut ne
 refine wpAny_bind (wpAny_holding ?_)
 show wpAny _ _ (pyNext _>>=_) _ _ _; refine wpAny_bind (wpAny_pyNext_list_item (s:={ s with heap:=h2 }) i2 l2 rfl fun h3 i3 e3=>?_)
 have l3:h3.IsList l #[x,y,z]:=l2.extBut e3.extBut ne
 refine wpAny_bind (wpAny_holding (wpAny_pure (wpAny_pure (wpAny_pure (wpAny_pure ?_)))))
 rw [if_neg (by simp)]
 refine wpAny_bind (wpAny_holding (wpAny_pyNext_list_end (s:={ s with heap:=h3 }) hA i3 l3 rfl fun h4 e4=>?_))
 exact wpAny_pure (q h4 fun b o hb e=>e4 b o hb (e3.extBut b o hb (e2.extBut b o hb (e1.extBut b o hb (Heap.get?_push_of_some _ e)))))
end
section
variable {X:Cx}
def gLst3 (K:Fgg) (t:TGs):TG:=fun v σ H Q=>match v with | .ref a=>∃ x y z,SqL K H a [x,y,z]∧t [x,y,z] σ H Q | _=>False
theorem zos_ {es:List Expr}{k:Nat}{t:TGs}{pos:Pos}(hc:X.calm=true) (h:PGs X es t)
  (hn:(assignEach es X.env).length=3:=by rfl) (hst:(assignEach es X.env).findIdx? (·.1)=none:=by rfl):PG X (.Tuple es k pos) (gLst3 X.K t):=by
 intro pins s σ H v u Q I r hw
 cases v with
 | ref a =>
  obtain ⟨x,y,z,hq,hw⟩:=hw
  cases r
  obtain ⟨its,rv,hp,_⟩:=I.list hq
  obtain ⟨x',y',z',rfl⟩:∃ x' y' z',its=[x',y',z']:=by
   have:=rv.length
   match its,this with
   | [x',y',z'],_=>exact ⟨x',y',z',rfl⟩
  rw [PyProof.Rows.assign_Tuple]
  refine wpAny_bind (wpAny_standAt ?_)
  unfold unpack
  rw [hn,hst]
  refine wpAny_bind (wpAny_holding (parts3 (I.ok.hd hc) hp.isList fun h1 hx=>?_))
  have I1:Inv X pins σ H { s with heap:=h1 }:=I.kept (t':=s.toks) fun b o e=>hx b o (Nat.ne_of_lt (Heap.lt_size e)) e
  exact h pins _ σ H _ _ Q I1 rv hw
 | _=>exact hw.elim
end
section
variable {K:Fgg}{E:XK}{α:Type}{L:List Sl}{e:TE}{T:Ty α}
def tri (xs:List α):Option (α×α×α):=match xs with | [a,b,c]=>some (a,b,c) | _=>none
theorem zp4_ {xs:List α}{c:α×α×α}(h:tri xs=some c):xs=[c.1,c.2.1,c.2.2]:=by
 unfold tri at h
 split at h
 ·cases h; rfl
 ·cases h
abbrev ty3 (T:Ty α):Ty (α×α×α):=⟨fun c v H=>(tyL T).R [c.1,c.2.1,c.2.2] v H,fun g q=>(tyL T).mono g q⟩
theorem zpQ_ {r:Mo (List α)}(h:EvF K e E L r (tyL T)):EvF K e E L (r.bind fun xs=>Mo.opt (tri xs)) (ty3 T):=by
 intro σ F H Q hL hs q
 refine h σ F H _ hL hs (q.bind.imp fun xs F1 H1 x1 k1 v hv=>?_)
 obtain ⟨c,ec,k2⟩:=After.opt k1
 rw [zp4_ ec] at hv
 exact k2.ok x1.2.1 v hv
theorem zop_ (i j k:Nat):TgR K (gLst3 K (gConsM (gName i) (gConsM (gName j) (gConsM (gName k) gNilM)))) (ty3 T) fun c=>[(i,.fz T c.1),(j,.fz T c.2.1),(k,.fz T c.2.2)]:=by
 rintro c v σ F H Q hs ⟨p,vs,rfl,hp,pr⟩ q
 cases pr with
 | cons h1 t1 =>
  cases t1 with
  | cons h2 t2 =>
   cases t2 with
   | cons h3 t3 =>
    cases t3
    exact ⟨_,_,_,.of (hs _ _ hp),q [(i,some _),(j,some _),(k,some _)] (.cons h1 (.cons h2 (.cons h3 .nil)))⟩
end
end L2
namespace K59
open PySem PySem.Spec PyProof.Rows L2
open Mo renaming bind→Mb,ok→Mq
open Sl renaming fz→Zf,dead→Zd,ow→Zo
theorem S4 {a b c d:Sl}{L L':List Sl}(h:Sub L L'):Sub (a::b::c::d::L) (a::b::c::d::L'):=.same (.same (.same (.same h)))
abbrev Qn0:List Str:=["breaks", "sums", "board", "levels", "before", "run_over"]
abbrev Qn1:List Str:=["pockets", "log", "counter", "lines"]
abbrev Qn2:List Str:=["figures", "power", "kept", "over"]
abbrev Qq0 (K:Fgg):=(owI (gA K "Counter") Qn0 (psO (owL (tyTup (csCons tyInt (csLast tyInt)))) (psO (owL (tyTup (csCons tyInt (csLast tyInt)))) (psO (owL (tyTup (csCons tyInt (csLast tyInt)))) (psO (owLO (owLO (owI (gA K "Wheel") Qn2 (psO (owF tyInt) (psO (owF tyInt) (psO (owF tyInt) (psO (owF tyBl) psNil))))))) (psO (owF (tyOpt tyStr)) (psO (owD kInt tyBl) psNil)))))))
abbrev Qq1:=((List (Int×Int))×((List (Int×Int))×((List (Int×Int))×((List (List (Int×(Int×(Int×(Bool×Unit))))))×((Option (List Nat))×((List (Int×Bool))×Unit))))))
abbrev Qq2:=(tyTup (csCons tyInt (csLast tyInt)))
abbrev Qq3 (K:Fgg):=(owI (gA K "Printer") Qn1 (psO (owLO (owL tyStr)) (psO (owL tyInt) (psO (Qq0 K) (psO (owL tyStr) psNil)))))
abbrev Qq4 (K:Fgg):=(tyI (gA K "Counter") Qn0 (csCons (tyL Qq2) (csCons (tyL Qq2) (csCons (tyL Qq2) (csCons (tyL (tyL (tyI (gA K "Wheel") Qn2 (csCons tyInt (csCons tyInt (csCons tyInt (csCons tyBl csNil))))))) (csCons (tyOpt tyStr) (csCons (tyD kInt tyBl) csNil)))))))
abbrev Qq5 (K:Fgg):=(owI (gA K "Wheel") Qn2 (psO (owF tyInt) (psO (owF tyInt) (psO (owF tyInt) (psO (owF tyBl) psNil)))))
abbrev Qq6:=((List (List (List Nat)))×((List Int)×(Qq1×((List (List Nat))×Unit))))
abbrev Qq7 (K:Fgg):=(tyI (gA K "Printer") Qn1 (csCons (tyL (tyL tyStr)) (csCons (tyL tyInt) (csCons (Qq4 K) (csCons (tyL tyStr) csNil)))))
abbrev Qq8:=(tyTup (csCons tyStr (csCons tyStr (csCons (tyL Qq2) (csCons (tyL Qq2) (csCons tyInt (csLast (tyL Qq2))))))))
abbrev Qq9:=(Int×(Int×(Int×(Bool×Unit))))
abbrev Qq10 (K:Fgg):=(psO (owL Qq2) (psO (owL Qq2) (psO (owL Qq2) (psO (owLO (owLO (Qq5 K))) (psO (owF (tyOpt tyStr)) (psO (owD kInt tyBl) psNil))))))
abbrev Qq11 (K:Fgg):=(owI (gA K "Printer") ["pockets", "log"] (psO (owLO (owL tyStr)) (psO (owL tyInt) psNil)))
abbrev Qq12 (K:Fgg):=(tyI (gA K "Wheel") Qn2 (csCons tyInt (csCons tyInt (csCons tyInt (csCons tyBl csNil)))))
abbrev Qq13 (K:Fgg):=(psO (owLO (owL tyStr)) (psO (owL tyInt) (psO (Qq0 K) (psO (owL tyStr) psNil))))
abbrev Qq14:=((List (List (List Nat)))×((List Int)×Unit))
def zgU_ (p_power:Int):Mo (Out Int Unit Unit) :=
 (Mb (Mq (1:Int)) fun w1''=>(thenO (S:=Int) (Mb (Mb (Mq p_power) fun c_3=>Mo.grd (-(2 ^ 62)≤c_3∧c_3<2 ^ 62) (Mq (rngI 0 c_3.toNat))) fun y8=>forO (fun (s_2:Int) x_4=>(Mb (Mb (Mq s_2) fun v6=>Mb (Mq (10:Int)) fun y7=>Mo.grd (IntMulOk v6 y7) (Mq (v6*y7))) fun u5'=>(Mq (.nx u5')))) y8 w1'') fun s_2=>(Mb (Mq s_2) fun r9=>Mq (.rt r9))))
def zf1_ (p_power:Int):Mo Int:=fnO (zgU_ p_power)
def zbx_ (p_self:Unit) (p_figures:Int):Mo (Out (Unit×Qq9) Unit Qq9) :=
 (Mb (Mq p_figures) fun a_1=>Mb (Mq (a_1,())) fun x_2=>(Mb (Mb (Mq p_figures) fun c9=>Mo.noex (zf1_ c9)) fun a_3=>Mb (Mq (x_2.1,(a_3,()))) fun x_4=>(Mb (Mq (0:Int)) fun v5=>Mb (Mq (x_4.1,(x_4.2.1,(v5,())))) fun t6=>(Mb (Mq false) fun v7=>Mb (Mq (t6.1,(t6.2.1,(t6.2.2.1,(v7,()))))) fun x8=>(Mq (.nx x8))))))
def zI_ (p_self:Unit) (p_figures:Int):Mo (Unit×Qq9):=fnMU (zbx_ p_self p_figures)
def za1_ (p_self:Unit) (p_breaks:(List (Int×Int))) (p_sums:(List (Int×Int))) (p_figures:Int) (p_board:(List (Int×Int))):Mo (Out (Unit×Qq1) Unit Qq1) :=
 (Mb (Mb (Mq p_breaks) fun c25=>Mq c25) fun a_1=>Mb (Mq (a_1,())) fun x_2=>(Mb (Mb (Mq p_sums) fun c24=>Mq c24) fun a_3=>Mb (Mq (x_2.1,(a_3,()))) fun x_4=>(Mb (Mb (Mq p_board) fun c23=>Mq c23) fun v5=>Mb (Mq (x_4.1,(x_4.2.1,(v5,())))) fun t6=>(Mb (Mb (Mb (Mb (Mb (Mq p_breaks) fun c13=>Mq (c13.length:Int)) fun a14=>Mb (Mq (1:Int)) fun b15=>Mq (a14+b15)) fun c16=>Mo.grd (-(2 ^ 62)≤c16∧c16<2 ^ 62) (Mq (rngI 0 c16.toNat))) fun x22=>compM (fun x17=>cond1 (Mq true) (Mb (Mq p_sums) fun x21=>compM (fun x18=>cond1 (Mq true) (Mb (Mq p_figures) fun c19=>Mb (Mo.noex (zI_ () c19)) fun q20=>Mq q20.2)) x21 [])) x22 []) fun v7=>Mb (Mq (t6.1,(t6.2.1,(t6.2.2.1,(v7,()))))) fun x8=>(Mb (Mq (none:(Option (List Nat)))) fun w9=>Mb (Mq (x8.1,(x8.2.1,(x8.2.2.1,(x8.2.2.2.1,(w9,())))))) fun x10=>(Mb (Mq ([]:(List (Int×Bool)))) fun v11=>Mb (Mq (x10.1,(x10.2.1,(x10.2.2.1,(x10.2.2.2.1,(x10.2.2.2.2.1,(v11,()))))))) fun x12=>(Mq (.nx x12))))))))
def zG_ (p_self:Unit) (p_breaks:(List (Int×Int))) (p_sums:(List (Int×Int))) (p_figures:Int) (p_board:(List (Int×Int))):Mo (Unit×Qq1):=fnMU (za1_ p_self p_breaks p_sums p_figures p_board)
def zfl_  : Mo (Out (List Nat) Unit Unit) :=
 (Mb (Mq (SG:List Nat)) fun r_1=>Mq (.rt r_1))
def zdw_  : Mo (List Nat):=fnO (zfl_)
def zeI_ (p_cell:Int) (p_menu:(List Nat)) (p_mark:(List Nat)):Mo (Out (List Nat) Unit Unit) :=
 (Mb (Mq ([]:List Nat)) fun u1'=>(Mb (Mb (Mb (Mq p_cell) fun a_3=>Mb (Mq (2147483647:Int)) fun y4=>Mo.grd (0<y4) (Mq (a_3 % y4))) fun v5=>Mb (Mq (3:Int)) fun w6=>Mq (v5+w6)) fun u2'=>(thenO (S:=(Int×(List Nat))) (Mb (Mb (Mq (36:Int)) fun c8=>Mo.grd (-(2 ^ 62)≤c8∧c8<2 ^ 62) (Mq (rngI 0 c8.toNat))) fun x31=>forO (fun (s_7:(Int×(List Nat))) x9=>(Mb (Mb (Mb (Mb (Mb (Mq s_7.1) fun v11=>Mb (Mq s_7.1) fun b12=>Mo.grd (IntMulOk v11 b12) (Mq (v11*b12))) fun a15=>Mb (Mb (Mq (17:Int)) fun v13=>Mb (Mq x9) fun b14=>Mo.grd (IntMulOk v13 b14) (Mq (v13*b14))) fun b16=>Mq (a15+b16)) fun a17=>Mb (Mq (5:Int)) fun b18=>Mq (a17+b18)) fun a19=>Mb (Mq (2147483629:Int)) fun b20=>Mo.grd (0<b20) (Mq (a19 % b20))) fun n10=>(Mb (Mb (Mq s_7.2) fun a29=>Mb (Mb (Mq p_menu) fun a27=>Mb (Mb (Mb (Mq n10) fun a22=>Mb (Mq (3:Int)) fun b23=>Mo.grd (CDivG a22 b23) (Mq (a22 / b23))) fun a25=>Mb (Mb (Mq p_menu) fun c24=>Mo.lim c24.length (Mq (c24.length:Int))) fun b26=>Mo.grd (0<b26) (Mq (a25 % b26))) fun b28=>Mo.lim a27.length (Mo.opt ((atI a27 b28).map fun c=>[c]))) fun b30=>Mo.lim (a29.length+b30.length) (Mq (a29++b30))) fun w21=>(Mq (.nx (n10,w21)))))) x31 (u2',u1')) fun s_7=>(Mb (Mb (Mq s_7.2) fun a32=>Mb (Mq p_mark) fun b33=>Mo.lim (a32.length+b33.length) (Mq (a32++b33))) fun r34=>Mq (.rt r34)))))
def zcm_ (p_cell:Int) (p_menu:(List Nat)) (p_mark:(List Nat)):Mo (List Nat):=fnO (zeI_ p_cell p_menu p_mark)
def zeD_ (p_cells:(List Int)) (p_way:Int):Mo (Out (List (List Nat)) Unit Unit) :=
 (Mb (Mb (Mb (Mb (Mq ([65,32]:List Nat)) fun v7=>Mb (Mb (Mq ([48,90,57]:List Nat)) fun v5=>Mb (Mb (Mq ([66,53,65,32,48]:List Nat)) fun a_3=>Mb (Mb (Mq ()) fun c_2=>Mo.noex (zdw_)) fun c_4=>Mq (a_3,c_4)) fun c6=>Mq (v5,c6)) fun c8=>Mq (v7,c8)) fun c9=>Mq [c9.1,c9.2.1,c9.2.2.1,c9.2.2.2]) fun v12=>Mb (Mb (Mq p_way) fun v10=>Mb (Mq (4:Int)) fun b11=>Mo.grd (0<b11) (Mq (v10 % b11))) fun b13=>Mo.opt (atI v12 b13)) fun s1'=>(Mb (Mq ([]:List (List Nat))) fun d14=>(thenO (S:=(List (List Nat))) (Mb (Mb (Mq p_cells) fun c16=>Mq (enumL c16)) fun x37=>forO (fun (s15:(List (List Nat))) x17=>(Mb (Mb (Mb (Mq x17.1) fun c19=>Mo.grd (c19.natAbs.log2<1920) (Mq (strI c19))) fun a20=>Mb (Mq (4:Int)) fun b21=>Mo.grd (PadOk b21=true) (Mq (zfL a20 b21))) fun m18=>(thenO (S:=(List Nat)) (Mb (Mb (Mb (Mb (Mq p_way) fun a22=>Mb (Mq (4:Int)) fun b23=>Mo.grd (CDivG a22 b23) (Mq (a22 / b23))) fun a24=>Mb (Mq (4:Int)) fun b25=>Mo.grd (0<b25) (Mq (a24 % b25))) fun a26=>Mb (Mq (1:Int)) fun b27=>Mq (decide (a26=b27))) fun c28=>if c28 then (Mb (Mq ([77,65,82,75]:List Nat)) fun m30=>(Mq (.nx m30))) else (Mq (.nx m18))) fun s29=>(Mb (Mb (Mb (Mq x17.2) fun a33=>Mb (Mb (Mq s1') fun a31=>Mb (Mq s29) fun c32=>Mq (a31,c32)) fun c34=>Mq (a33,c34)) fun c35=>Mo.noex (zcm_ c35.1 c35.2.1 c35.2.2)) fun a36=>Mo.lim (s15.length+1) (Mq (.nx (s15++[a36]))))))) x37 d14) fun s15=>(Mq (.rt s15)))))
def zdk_ (p_cells:(List Int)) (p_way:Int):Mo (List (List Nat)):=fnO (zeD_ p_cells p_way)
def zcl_ (p_script:(List Int)) (p_k:Int):Mo (Out Int Unit Unit) :=
 (thenO (S:=Unit) (Mb (Mb (Mq p_k) fun a_2=>Mb (Mb (Mq p_script) fun c_1=>Mq (c_1.length:Int)) fun b_3=>Mq (decide (a_2<b_3))) fun c_4=>if c_4 then (Mb (Mb (Mq p_script) fun v6=>Mb (Mq p_k) fun y7=>Mo.opt (atI v6 y7)) fun w8=>Mq (.rt w8)) else (Mq (.nx ()))) fun _=>(Mb (Mq (0:Int)) fun r9=>Mq (.rt r9)))
def zaE_ (p_script:(List Int)) (p_k:Int):Mo Int:=fnO (zcl_ p_script p_k)
def zcX_ (p_cell:Int) (p_many:Int):Mo (Out (List (Int×Int)) Unit Unit) :=
 (Mb (Mq ([]:List (Int×Int))) fun y1'=>(Mb (Mb (Mb (Mq p_cell) fun a_3=>Mb (Mq (2147483647:Int)) fun y4=>Mo.grd (0<y4) (Mq (a_3 % y4))) fun v5=>Mb (Mq (7:Int)) fun w6=>Mq (v5+w6)) fun u2'=>(thenO (S:=(Int×(List (Int×Int)))) (Mb (Mb (Mq p_many) fun c8=>Mo.grd (-(2 ^ 62)≤c8∧c8<2 ^ 62) (Mq (rngI 0 c8.toNat))) fun v44=>forO (fun (s_7:(Int×(List (Int×Int)))) x9=>(Mb (Mb (Mb (Mb (Mb (Mq s_7.1) fun v11=>Mb (Mq s_7.1) fun b12=>Mo.grd (IntMulOk v11 b12) (Mq (v11*b12))) fun a15=>Mb (Mb (Mq (31:Int)) fun v13=>Mb (Mq x9) fun b14=>Mo.grd (IntMulOk v13 b14) (Mq (v13*b14))) fun b16=>Mq (a15+b16)) fun a17=>Mb (Mq (5:Int)) fun b18=>Mq (a17+b18)) fun a19=>Mb (Mq (2147483629:Int)) fun b20=>Mo.grd (0<b20) (Mq (a19 % b20))) fun n10=>(Mb (Mb (Mq (1:Int)) fun a26=>Mb (Mb (Mb (Mq n10) fun a22=>Mb (Mq (3:Int)) fun b23=>Mo.grd (CDivG a22 b23) (Mq (a22 / b23))) fun a24=>Mb (Mq (4:Int)) fun b25=>Mo.grd (0<b25) (Mq (a24 % b25))) fun b27=>Mq (a26+b27)) fun y21=>(Mb (Mb (Mq (1:Int)) fun a35=>Mb (Mb (Mb (Mq n10) fun a29=>Mb (Mq (12:Int)) fun b30=>Mo.grd (CDivG a29 b30) (Mq (a29 / b30))) fun a33=>Mb (Mb (Mq (37:Int)) fun a31=>Mb (Mq y21) fun b32=>Mq (a31-b32)) fun b34=>Mo.grd (0<b34) (Mq (a33 % b34))) fun b36=>Mq (a35+b36)) fun v28=>(Mb (Mb (Mq v28) fun a41=>Mb (Mb (Mb (Mq v28) fun a37=>Mb (Mq y21) fun b38=>Mq (a37+b38)) fun a39=>Mb (Mq (1:Int)) fun b40=>Mq (a39-b40)) fun c42=>Mq (a41,c42)) fun a43=>Mo.lim (s_7.2.length+1) (Mq (.nx (n10,(s_7.2++[a43]))))))))) v44 (u2',y1')) fun s_7=>(Mq (.rt s_7.2)))))
def zbt_ (p_cell:Int) (p_many:Int):Mo (List (Int×Int)):=fnO (zcX_ p_cell p_many)
def zdF_ (p_cell:Int):Mo (Out (List (Int×Int)) Unit Unit) :=
 (Mb (Mq ([]:(List (Int×Int)))) fun y1''=>(Mb (Mb (Mb (Mq p_cell) fun a_3=>Mb (Mq (2147483647:Int)) fun y4=>Mo.grd (0<y4) (Mq (a_3 % y4))) fun v5=>Mb (Mq (9:Int)) fun w6=>Mq (v5+w6)) fun u2'=>(thenO (S:=(Int×(List (Int×Int)))) (Mb (Mb (Mb (Mq p_cell) fun v8=>Mb (Mq (9:Int)) fun b9=>Mo.grd (0<b9) (Mq (v8 % b9))) fun c10=>Mo.grd (-(2 ^ 62)≤c10∧c10<2 ^ 62) (Mq (rngI 0 c10.toNat))) fun x37=>forO (fun (s_7:(Int×(List (Int×Int)))) x11=>(Mb (Mb (Mb (Mb (Mb (Mq s_7.1) fun v13=>Mb (Mq s_7.1) fun b14=>Mo.grd (IntMulOk v13 b14) (Mq (v13*b14))) fun a17=>Mb (Mb (Mq (13:Int)) fun a15=>Mb (Mq x11) fun b16=>Mo.grd (IntMulOk a15 b16) (Mq (a15*b16))) fun b18=>Mq (a17+b18)) fun a19=>Mb (Mq (7:Int)) fun b20=>Mq (a19+b20)) fun a21=>Mb (Mq (2147483629:Int)) fun b22=>Mo.grd (0<b22) (Mq (a21 % b22))) fun n12=>(Mb (Mb (Mq (1:Int)) fun a27=>Mb (Mb (Mb (Mq n12) fun a23=>Mb (Mq (180:Int)) fun b24=>Mo.grd (CDivG a23 b24) (Mq (a23 / b24))) fun a25=>Mb (Mq (40:Int)) fun b26=>Mo.grd (0<b26) (Mq (a25 % b26))) fun b28=>Mq (a27+b28)) fun a35=>Mb (Mb (Mq (1:Int)) fun a33=>Mb (Mb (Mb (Mq n12) fun a29=>Mb (Mq (5:Int)) fun b30=>Mo.grd (CDivG a29 b30) (Mq (a29 / b30))) fun a31=>Mb (Mq (36:Int)) fun b32=>Mo.grd (0<b32) (Mq (a31 % b32))) fun b34=>Mq (a33+b34)) fun y36=>Mo.lim (s_7.2.length+1) (Mq (.nx (n12,(putA s_7.2 y36 a35))))))) x37 (u2',y1'')) fun s_7=>(Mb (Mb (Mb (Mq s_7.2) fun c38=>Mo.grd (c38.length<64) (Mq (srtL ltI (c38.map (·.1))))) fun v44=>compM (fun x39=>cond1 (Mq true) (Mb (Mb (Mq s_7.2) fun a40=>Mb (Mq x39) fun b41=>Mo.opt (getA a40 b41)) fun a42=>Mb (Mq x39) fun c43=>Mq (a42,c43))) v44 []) fun r45=>Mq (.rt r45)))))
def zcE_ (p_cell:Int):Mo (List (Int×Int)):=fnO (zdF_ p_cell)
def zO_ (p_self:Unit):Mo (Out (Unit×Qq14) Unit Qq14) :=
 (Mb (Mb (Mq ([]:(List (List (List Nat))))) fun l5=>Mo.lim l5.length (Mq l5)) fun a_1=>Mb (Mq (a_1,())) fun x_2=>(Mb (Mq ([]:List Int)) fun a_3=>Mb (Mq (x_2.1,(a_3,()))) fun x_4=>(Mq (.nx x_4))))
def zA_ (p_self:Unit):Mo (Unit×Qq14):=fnMU (zO_ p_self)
def zaq_ (p_self:Qq14) (p_many:Int):Mo (Out (Unit×Qq14) Unit Qq14) :=
 (Mb (Mb (Mb (Mq p_many) fun c_4=>Mo.grd (-(2 ^ 62)≤c_4∧c_4<2 ^ 62) (Mq (rngI 0 c_4.toNat))) fun u6'=>compM (fun x_5=>cond1 (Mq true) (Mq ([]:List (List Nat)))) u6' []) fun a_1=>Mb (Mq (p_self,fun (z:Qq14)=>z)) fun y_3=>Mb (Mq (y_3.2 (a_1,y_3.1.2))) fun x_2=>(Mq (.nx x_2)))
def zV_ (p_self:Qq14) (p_many:Int):Mo (Unit×Qq14):=fnMU (zaq_ p_self p_many)
def za2_ (p_self:Unit) (p_breaks:(List (Int×Int))) (p_sums:(List (Int×Int))) (p_figures:Int) (p_board:(List (Int×Int))):Mo (Out (Unit×Qq6) Unit Qq6) :=
 (Mb (Mb (Mq ()) fun c_1=>Mb (Mo.noex (zA_ p_self)) fun q_3=>Mq (q_3.1,q_3.2)) fun q_2=>(Mb (Mq (q_2.2,fun (z:Qq14)=>z)) fun y_4=>Mb (Mq (1:Int)) fun c5=>Mb (Mo.noex (zV_ y_4.1 c5)) fun y6=>Mb (Mq (y_4.2 y6.2)) fun x_7=>(Mb (Mb (Mb (Mq p_breaks) fun a16=>Mb (Mb (Mq p_sums) fun a14=>Mb (Mb (Mq p_figures) fun v12=>Mb (Mq p_board) fun c13=>Mq (v12,c13)) fun c15=>Mq (a14,c15)) fun c17=>Mq (a16,c17)) fun c18=>Mb (Mo.noex (zG_ () c18.1 c18.2.1 c18.2.2.1 c18.2.2.2)) fun q19=>Mq q19.2) fun v8=>Mb (Mq (x_7.1,(x_7.2.1,(v8,())))) fun x9=>(Mb (Mq ([]:List (List Nat))) fun v10=>Mb (Mq (x9.1,(x9.2.1,(x9.2.2.1,(v10,()))))) fun x11=>(Mq (.nx x11))))))
def z3_ (p_self:Unit) (p_breaks:(List (Int×Int))) (p_sums:(List (Int×Int))) (p_figures:Int) (p_board:(List (Int×Int))):Mo (Unit×Qq6):=fnMU (za2_ p_self p_breaks p_sums p_figures p_board)
def zcV_ (p_going:((List Nat)×((List Nat)×((List (Int×Int))×((List (Int×Int))×(Int×(List (Int×Int)))))))) (p_trays:(List ((List Nat)×(List (List Nat))))):Mo (Out Qq6 Unit Unit) :=
 (Mb (Mb (Mq p_going) fun a_2=>Mq a_2.1) fun x1'=>(thenO (S:=Unit) (Mb (Mb (Mq x1') fun a_3=>Mb (Mq ([100,101,97,108]:List Nat)) fun y4=>Mq (decide (a_3=y4))) fun c5=>if c5 then Mo.no else (Mq (.nx ()))) fun _=>(thenO (S:=Unit) (Mb (Mb (Mq x1') fun v7=>Mb (Mq ([112,105,99,107]:List Nat)) fun b8=>Mq (decide (v7=b8))) fun c9=>if c9 then Mo.no else (Mq (.nx ()))) fun _=>(thenO (S:=Unit) (Mb (Mb (Mq x1') fun v11=>Mb (Mq ([109,97,116,101]:List Nat)) fun b12=>Mq (decide (v11=b12))) fun c13=>if c13 then Mo.no else (Mq (.nx ()))) fun _=>(thenO (S:=Unit) (Mb (Mb (Mq x1') fun a15=>Mb (Mq ([102,105,114,115,116]:List Nat)) fun b16=>Mq (decide (a15=b16))) fun c17=>if c17 then Mo.no else (Mq (.nx ()))) fun _=>(thenO (S:=Unit) (Mb (Mb (Mq x1') fun a19=>Mb (Mq ([112,117,110,99,104]:List Nat)) fun b20=>Mq (decide (a19=b20))) fun c21=>if c21 then Mo.no else (Mq (.nx ()))) fun _=>(Mb (Mb (Mb (Mb (Mq p_going) fun a23=>Mq a23.2.2.1) fun a31=>Mb (Mb (Mb (Mq p_going) fun a24=>Mq a24.2.2.2.1) fun a29=>Mb (Mb (Mb (Mq p_going) fun a25=>Mq a25.2.2.2.2.1) fun a27=>Mb (Mb (Mq p_going) fun a26=>Mq a26.2.2.2.2.2) fun c28=>Mq (a27,c28)) fun c30=>Mq (a29,c30)) fun c32=>Mq (a31,c32)) fun c33=>Mb (Mo.noex (z3_ () c33.1 c33.2.1 c33.2.2.1 c33.2.2.2)) fun q34=>Mq q34.2) fun r35=>Mq (.rt r35))))))))
def zbU_ (p_going:((List Nat)×((List Nat)×((List (Int×Int))×((List (Int×Int))×(Int×(List (Int×Int)))))))) (p_trays:(List ((List Nat)×(List (List Nat))))):Mo Qq6:=fnO (zcV_ p_going p_trays)
def zeT_ (p_word:(List Nat)) (p_lists:(List (List (Int×Int)))) (p_figures:Int):Mo (Out Qq6 Unit Unit) :=
 (Mb (Mb (Mq p_lists) fun l_1=>Mo.opt (tri l_1)) fun a_2=>(thenO (S:=Unit) (Mb (Mb (Mq p_word) fun a_3=>Mb (Mq ([99,108,97,115,115]:List Nat)) fun y4=>Mq (decide (a_3=y4))) fun c5=>if c5 then (Mb (Mb (Mb (Mq a_2.1) fun v11=>Mb (Mb (Mq a_2.2.1) fun w9=>Mb (Mb (Mq p_figures) fun v7=>Mb (Mq a_2.2.2) fun c8=>Mq (v7,c8)) fun c10=>Mq (w9,c10)) fun c12=>Mq (v11,c12)) fun c13=>Mb (Mo.noex (z3_ () c13.1 c13.2.1 c13.2.2.1 c13.2.2.2)) fun q14=>Mq q14.2) fun r15=>Mq (.rt r15)) else (Mq (.nx ()))) fun _=>(Mb (Mb (Mb (Mb (Mq ([99,111,117,110,116]:List Nat)) fun a24=>Mb (Mb (Mq ([97]:List Nat)) fun a22=>Mb (Mb (Mq a_2.1) fun a20=>Mb (Mb (Mq a_2.2.1) fun a18=>Mb (Mb (Mq p_figures) fun a16=>Mb (Mq a_2.2.2) fun c17=>Mq (a16,c17)) fun c19=>Mq (a18,c19)) fun c21=>Mq (a20,c21)) fun c23=>Mq (a22,c23)) fun c25=>Mq (a24,c25)) fun a26=>Mb (Mq ([]:(List ((List Nat)×(List (List Nat)))))) fun c27=>Mq (a26,c27)) fun c28=>Mo.noex (zbU_ c28.1 c28.2)) fun r29=>Mq (.rt r29))))
def zdt_ (p_word:(List Nat)) (p_lists:(List (List (Int×Int)))) (p_figures:Int):Mo Qq6:=fnO (zeT_ p_word p_lists p_figures)
def zdS_ (p_lists:(List (List (Int×Int)))):Mo (Out (Unit×(List (List (Int×Int)))) Unit (List (List (Int×Int)))) :=
 (thenO (S:=(List (List (Int×Int)))) (Mb (Mq (p_lists,fun (z:(List (List (Int×Int))))=>z)) fun y_1=>Mb (mapX (fun _=>Mq []) y_1.1) fun v2'=>Mq (.nx (y_1.2 v2'))) fun s_3=>(Mq (.nx s_3)))
def zck_ (p_lists:(List (List (Int×Int)))):Mo (Unit×(List (List (Int×Int)))):=fnMU (zdS_ p_lists)
def zc1_ (p_self:Qq9) (p_value:Int):Mo (Out (Unit×Qq9) Unit Qq9) :=
 (Mb (Mb (Mb (Mq p_self) fun a_2=>Mq a_2.2.2.1) fun a_3=>Mb (Mq p_value) fun y4=>Mq (a_3+y4)) fun t1'=>(thenO (S:=Qq9) (Mb (Mb (Mq t1') fun v6=>Mb (Mb (Mq p_self) fun v5=>Mq v5.2.1) fun y7=>Mq (decide (y7≤v6))) fun c8=>if c8 then (Mb (Mq true) fun v10=>Mb (Mq (p_self,fun (z:Qq9)=>z)) fun y12=>Mb (Mq (y12.2 (y12.1.1,(y12.1.2.1,(y12.1.2.2.1,(v10,y12.1.2.2.2.2)))))) fun x11=>(Mq (.nx x11))) else (Mq (.nx p_self))) fun y9=>(Mb (Mb (Mq t1') fun a17=>Mb (Mb (Mq y9) fun a16=>Mq a16.2.1) fun b18=>Mo.grd (0<b18) (Mq (a17 % b18))) fun v13=>Mb (Mq (y9,fun (z:Qq9)=>z)) fun y15=>Mb (Mq (y15.2 (y15.1.1,(y15.1.2.1,(v13,y15.1.2.2.2))))) fun v14=>(Mq (.nx v14)))))
def zbR_ (p_self:Qq9) (p_value:Int):Mo (Unit×Qq9):=fnMU (zc1_ p_self p_value)
def zcg_ (p_self:Qq9):Mo (Out Bool Unit Unit) :=
 (Mb (Mb (Mq p_self) fun a_1=>Mq a_1.2.2.2.1) fun r_2=>Mq (.rt r_2))
def zbp_ (p_self:Qq9):Mo Bool:=fnO (zcg_ p_self)
def zau_ (p_self:Qq1) (p_level:Int) (p_numbers:(List Int)):Mo (Out (Unit×Qq1) Unit Qq1) :=
 (thenO (S:=Qq1) (Mb (Mb (Mq p_numbers) fun c_2=>Mq (enumL c_2)) fun v27=>forO (fun (s_1:Qq1) x_3=>(Mb (Mb (Mb (Mb (Mq (s_1,fun (z:Qq1)=>z)) fun y_4=>Mq (y_4.1.2.2.2.1,fun (z':(List (List Qq9)))=>y_4.2 (y_4.1.1,(y_4.1.2.1,(y_4.1.2.2.1,(z',y_4.1.2.2.2.2)))))) fun y_5=>Mb (Mq p_level) fun j6=>Mb (Mo.opt (ixN y_5.1.length j6)) fun z7=>Mb (Mo.opt (y_5.1[z7]?)) fun z8=>Mq (z8,fun (z':(List Qq9))=>y_5.2 (y_5.1.set z7 z'))) fun z9=>Mb (Mq x_3.1) fun j10=>Mb (Mo.opt (ixN z9.1.length j10)) fun n11=>Mb (Mo.opt (z9.1[n11]?)) fun z12=>Mq (z12,fun (z':Qq9)=>z9.2 (z9.1.set n11 z'))) fun y13=>(Mb (Mq (y13.1,fun (z:Qq9)=>z)) fun y15=>Mb (Mq x_3.2) fun c16=>Mb (Mo.noex (zbR_ y15.1 c16)) fun q17=>Mb (Mq (y15.2 q17.2)) fun x18=>(thenO (S:=Qq1) (Mb (Mb (Mq x18) fun o19=>Mo.noex (zbp_ o19)) fun c20=>if c20 then (Mb (Mq true) fun a23=>Mb (Mb (Mq ((y13.2 x18),fun (z:Qq1)=>z)) fun y22=>Mq (y22.1.2.2.2.2.2.1,fun (z':(List (Int×Bool)))=>y22.2 (y22.1.1,(y22.1.2.1,(y22.1.2.2.1,(y22.1.2.2.2.1,(y22.1.2.2.2.2.1,(z',y22.1.2.2.2.2.2.2)))))))) fun y24=>Mb (Mq x_3.1) fun z25=>Mo.lim (y24.1.length+1) (Mb (Mq (y24.2 (putA y24.1 z25 a23))) fun x26=>(Mq (.nx x26)))) else (Mq (.nx (y13.2 x18)))) fun s21=>(Mq (.nx s21)))))) v27 p_self) fun s_1=>(Mq (.nx s_1)))
def zM_ (p_self:Qq1) (p_level:Int) (p_numbers:(List Int)):Mo (Unit×Qq1):=fnMU (zau_ p_self p_level p_numbers)
def zcs_ (p_self:Qq9):Mo (Out (List Nat) Unit Unit) :=
 (Mb (Mb (Mb (Mb (Mq p_self) fun a_1=>Mq a_1.2.2.1) fun c_2=>Mo.grd (c_2.natAbs.log2<1920) (Mq (strI c_2))) fun w4=>Mb (Mb (Mq p_self) fun a_3=>Mq a_3.1) fun w5=>Mo.grd (PadOk w5=true) (Mq (zfL w4 w5))) fun r6=>Mq (.rt r6))
def z6_ (p_self:Qq9):Mo (List Nat):=fnO (zcs_ p_self)
def zf3_ (p_card:(List Nat)) (p_field:(Int×Int)):Mo (Out (List Nat) Unit Unit) :=
 (Mb (Mb (Mq p_card) fun v7=>Mb (Mb (Mb (Mb (Mq p_field) fun a_1=>Mq a_1.1) fun a_2=>Mb (Mq (1:Int)) fun b_3=>Mq (a_2-b_3)) fun i4=>Mq (some i4)) fun b8=>Mb (Mb (Mb (Mq p_field) fun v5=>Mq v5.2) fun i6=>Mq (some i6)) fun d9=>Mo.lim v7.length (Mq (cutG v7 b8 d9))) fun r10=>Mq (.rt r10))
def za5_ (p_card:(List Nat)) (p_field:(Int×Int)):Mo (List Nat):=fnO (zf3_ p_card p_field)
def z8_ (p_self:Qq1) (p_level:Int):Mo (Out (List Nat) Unit Unit) :=
 (Mb (Mb (Mb (Mq ([42]:List Nat)) fun v8=>Mb (Mb (Mb (Mq (1:Int)) fun w4=>Mb (Mb (Mb (Mq p_self) fun a_2=>Mq a_2.1) fun c_3=>Mq (c_3.length:Int)) fun w5=>Mq (w4+w5)) fun v6=>Mb (Mq p_level) fun y7=>Mq (v6-y7)) fun b9=>Mo.grd (CRep v8.length b9) (Mq (repL v8 b9))) fun c10=>Mq [c10]) fun z1''=>(Mb (Mb (Mb (Mb (Mq p_self) fun v11=>Mq v11.1) fun v13=>Mb (Mq none) fun b14=>Mb (Mb (Mq p_level) fun i12=>Mq (some i12)) fun d15=>Mq (cutG v13 b14 d15)) fun x22=>compM (fun x16=>cond1 (Mq true) (Mb (Mb (Mb (Mb (Mq p_self) fun a17=>Mq a17.2.2.2.2.1) fun a18=>Mo.opt a18) fun a19=>Mb (Mq x16) fun c20=>Mq (a19,c20)) fun c21=>Mo.noex (za5_ c21.1 c21.2))) x22 []) fun a23=>Mo.lim (z1''.length+a23.length) (Mb (Mb (Mb (Mb (Mq p_self) fun a24=>Mq a24.2.2.2.1) fun a25=>Mb (Mq p_level) fun b26=>Mo.opt (atI a25 b26)) fun x29=>compM (fun x27=>cond1 (Mq true) (Mb (Mq x27) fun o28=>Mo.noex (z6_ o28))) x29 []) fun a30=>Mo.lim ((z1''++a23).length+a30.length) (Mb (Mb (Mq ([32]:List Nat)) fun a31=>Mb (Mq ((z1''++a23)++a30)) fun b32=>Mo.grd (JoinOk ⟨a31.toArray⟩ (strsL b32)=true) (Mq (joinS a31 (strsL b32)))) fun r33=>Mq (.rt r33)))))
def zz_ (p_self:Qq1) (p_level:Int):Mo (List Nat):=fnO (z8_ p_self p_level)
def zdM_ (p_self:Qq9):Mo (Out (Unit×Qq9) Unit Qq9) :=
 (Mb (Mq (0:Int)) fun a_1=>Mb (Mq (p_self,fun (z:Qq9)=>z)) fun y_3=>Mb (Mq (y_3.2 (y_3.1.1,(y_3.1.2.1,(a_1,y_3.1.2.2.2))))) fun x_2=>(Mb (Mq false) fun w4=>Mb (Mq (x_2,fun (z:Qq9)=>z)) fun y_6=>Mb (Mq (y_6.2 (y_6.1.1,(y_6.1.2.1,(y_6.1.2.2.1,(w4,y_6.1.2.2.2.2)))))) fun x_5=>(Mq (.nx x_5))))
def z5_ (p_self:Qq9):Mo (Unit×Qq9):=fnMU (zdM_ p_self)
def zdo_ (p_self:Qq9):Mo (Out Int Unit Unit) :=
 (Mb (Mb (Mq p_self) fun a_1=>Mq a_1.2.2.1) fun r_2=>Mq (.rt r_2))
def zbj_ (p_self:Qq9):Mo Int:=fnO (zdo_ p_self)
def z1_ (p_self:Qq1) (p_level:Int):Mo (Out ((List Nat)×Qq1) Unit Unit) :=
 (Mb (Mb (Mq p_self) fun o_2=>Mb (Mq p_level) fun c_3=>Mo.noex (zz_ o_2 c_3)) fun q1'=>(thenO (S:=Qq1) (Mb (Mb (Mq p_level) fun w4=>Mb (Mq (0:Int)) fun w5=>Mq (decide (w5<w4))) fun c6=>if c6 then (Mb (Mb (Mq (p_self,fun (z:Qq1)=>z)) fun y18=>Mb (Mb (Mb (Mq p_level) fun v8=>Mb (Mq (1:Int)) fun b9=>Mq (v8-b9)) fun a16=>Mb (Mb (Mb (Mb (Mq p_self) fun v10=>Mq v10.2.2.2.1) fun v11=>Mb (Mq p_level) fun b12=>Mo.opt (atI v11 b12)) fun v15=>compM (fun w13=>cond1 (Mq true) (Mb (Mq w13) fun o14=>Mo.noex (zbj_ o14))) v15 []) fun c17=>Mq (a16,c17)) fun c19=>Mb (Mo.noex (zM_ y18.1 c19.1 c19.2)) fun q20=>Mq (q20.1,y18.2 q20.2)) fun q21=>(Mq (.nx q21.2))) else (Mq (.nx p_self))) fun s_7=>(thenO (S:=Qq1) (Mb (Mb (Mb (Mq (s_7,fun (z:Qq1)=>z)) fun y22=>Mq (y22.1.2.2.2.1,fun (z':(List (List Qq9)))=>y22.2 (y22.1.1,(y22.1.2.1,(y22.1.2.2.1,(z',y22.1.2.2.2.2)))))) fun y23=>Mb (Mq p_level) fun j24=>Mb (Mo.opt (ixN y23.1.length j24)) fun n25=>Mb (Mo.opt (y23.1[n25]?)) fun z26=>Mq (z26,fun (z':(List Qq9))=>y23.2 (y23.1.set n25 z'))) fun y27=>Mb (mapX (fun z28=>Mb (Mo.noex (z5_ z28)) fun q29=>Mq q29.2) y27.1) fun x30=>Mq (.nx (y27.2 x30))) fun s31=>(Mb (Mq q1') fun r32=>Mq (.rt (r32,s31))))))
def zv_ (p_self:Qq1) (p_level:Int):Mo ((List Nat)×Qq1):=fnMR (z1_ p_self p_level)
def zap_ (p_self:Qq1) (p_outermost:Int):Mo (Out ((List (List Nat))×Qq1) Unit Unit) :=
 (Mb (Mq ([]:List (List Nat))) fun r1'=>(thenO (S:=((List (List Nat))×Qq1)) (Mb (Mb (Mb (Mb (Mb (Mq p_self) fun a_3=>Mq a_3.1) fun c_4=>Mq (c_4.length:Int)) fun v10=>Mb (Mb (Mb (Mq p_outermost) fun v5=>Mb (Mq (1:Int)) fun w6=>Mq (v5-w6)) fun v8=>Mb (Mb (Mq (1:Int)) fun v7=>Mq (-v7)) fun c9=>Mq (v8,c9)) fun c11=>Mq (v10,c11)) fun c12=>Mo.grd (c12.2.2 = -1 ∧ -(2 ^ 61)≤c12.1∧c12.1<2 ^ 61 ∧ -(2 ^ 61)≤c12.2.1∧c12.2.1<2 ^ 61) (Mq (rngD c12.1 (c12.1-c12.2.1).toNat))) fun v18=>forO (fun (s_2:((List (List Nat))×Qq1)) w13=>(Mb (Mb (Mq (s_2.2,fun (z:Qq1)=>z)) fun y14=>Mb (Mq w13) fun c15=>Mb (Mo.noex (zv_ y14.1 c15)) fun q16=>Mq (q16.1,y14.2 q16.2)) fun q17=>Mo.lim (s_2.1.length+1) (Mq (.nx ((s_2.1++[q17.1]),q17.2))))) v18 (r1',p_self)) fun s_2=>(Mq (.rt (s_2.1,s_2.2)))))
def zy_ (p_self:Qq1) (p_outermost:Int):Mo ((List (List Nat))×Qq1):=fnMR (zap_ p_self p_outermost)
def zfF_ (p_card:(List Nat)):Mo (Out (List Nat) Unit Unit) :=
 (Mb (Mb (Mq p_card) fun a_2=>Mb (Mb (Mq (36:Int)) fun i_1=>Mq (some i_1)) fun b_3=>Mb (Mq none) fun d4=>Mo.lim a_2.length (Mq (cutG a_2 b_3 d4))) fun r_5=>Mq (.rt r_5))
def zef_ (p_card:(List Nat)):Mo (List Nat):=fnO (zfF_ p_card)
def zf0_ (p_card:(List Nat)) (p_column:Int):Mo (Out (List Nat) Unit Unit) :=
 (Mb (Mb (Mq p_card) fun a_3=>Mb (Mb (Mq p_column) fun a_1=>Mb (Mq (1:Int)) fun b_2=>Mq (a_1-b_2)) fun y4=>Mo.lim a_3.length (Mo.opt ((atI a_3 y4).map fun c=>[c]))) fun r_5=>Mq (.rt r_5))
def zei_ (p_card:(List Nat)) (p_column:Int):Mo (List Nat):=fnO (zf0_ p_card p_column)
def zfQ_ (p_card:(List Nat)) (p_board:(List (Int×Int))):Mo (Out (List Nat) Unit Unit) :=
 (Mb (Mb (Mb (Mq (36:Int)) fun c_2=>Mo.grd (-(2 ^ 62)≤c_2∧c_2<2 ^ 62) (Mq (rngI 0 c_2.toNat))) fun v4'=>compM (fun x_3=>cond1 (Mq true) (Mq ([32]:List Nat))) v4' []) fun u1''=>(thenO (S:=(List (List Nat))) (Mb (Mq p_board) fun x21=>forO (fun (s_5:(List (List Nat))) t6=>(Mb (Mb (Mb (Mq p_card) fun v12=>Mb (Mb (Mq t6) fun v11=>Mq v11.1) fun c13=>Mq (v12,c13)) fun c14=>Mo.noex (zei_ c14.1 c14.2)) fun a18=>Mb (Mb (Mb (Mq t6) fun a15=>Mq a15.2) fun a16=>Mb (Mq (1:Int)) fun b17=>Mq (a16-b17)) fun j19=>Mb (Mo.opt ((ixN (s_5).length j19).map fun n=>(s_5).set n a18)) fun s20=>(Mq (.nx s20)))) x21 u1'') fun s_5=>(Mb (Mb (Mq ([]:List Nat)) fun a22=>Mb (Mq s_5) fun b23=>Mo.grd (JoinOk ⟨a22.toArray⟩ (strsL b23)=true) (Mq (joinS a22 (strsL b23)))) fun r24=>Mq (.rt r24))))
def zeb_ (p_card:(List Nat)) (p_board:(List (Int×Int))):Mo (List Nat):=fnO (zfQ_ p_card p_board)
def zaf_ (p_self:Qq1) (p_card:(List Nat)):Mo (Out Int Unit Unit) :=
 (thenO (S:=Unit) (Mb (Mb (Mb (Mq p_self) fun a_2=>Mq a_2.1) fun c_3=>Mq (enumL c_3)) fun x19=>forO (fun (_:Unit) x_4=>(Mb (Mb (Mb (Mb (Mq p_card) fun v5=>Mb (Mq x_4.2) fun c6=>Mq (v5,c6)) fun c7=>Mo.noex (za5_ c7.1 c7.2)) fun v13=>Mb (Mb (Mb (Mb (Mb (Mq p_self) fun v8=>Mq v8.2.2.2.2.1) fun w9=>Mo.opt w9) fun v10=>Mb (Mq x_4.2) fun c11=>Mq (v10,c11)) fun c12=>Mo.noex (za5_ c12.1 c12.2)) fun b14=>Mq (!decide (v13=b14))) fun c15=>if c15 then (Mb (Mb (Mq x_4.1) fun a16=>Mb (Mq (1:Int)) fun b17=>Mq (a16+b17)) fun r18=>Mq (.rt r18)) else (Mq (.nx ())))) x19 ()) fun _=>(Mb (Mb (Mb (Mb (Mq p_self) fun a20=>Mq a20.1) fun c21=>Mq (c21.length:Int)) fun a22=>Mb (Mq (1:Int)) fun b23=>Mq (a22+b23)) fun r24=>Mq (.rt r24)))
def zE_ (p_self:Qq1) (p_card:(List Nat)):Mo Int:=fnO (zaf_ p_self p_card)
def zdG_ (p_figures:(List Nat)):Mo (Out Int Unit Unit) :=
 (Mb (Mq (0:Int)) fun w1''=>(thenO (S:=Int) (Mb (Mb (Mq p_figures) fun a_3=>Mq (a_3.map fun c=>[c])) fun w12=>forO (fun (s_2:Int) x_4=>(Mb (Mb (Mb (Mq s_2) fun v6=>Mb (Mq (10:Int)) fun y7=>Mo.grd (IntMulOk v6 y7) (Mq (v6*y7))) fun v10=>Mb (Mb (Mq ([48,49,50,51,52,53,54,55,56,57]:List Nat)) fun v8=>Mb (Mq x_4) fun b9=>Mo.grd (findS v8 b9 ≠ -1) (Mq (findS v8 b9))) fun b11=>Mq (v10+b11)) fun u5'=>(Mq (.nx u5')))) w12 w1'') fun s_2=>(Mb (Mq s_2) fun r13=>Mq (.rt r13))))
def zcF_ (p_figures:(List Nat)):Mo Int:=fnO (zdG_ p_figures)
def zdD_ (p_card:(List Nat)) (p_field:(Int×Int)):Mo (Out Int Unit Unit) :=
 (Mb (Mb (Mb (Mb (Mb (Mq p_card) fun a_2=>Mb (Mq p_field) fun c_3=>Mq (a_2,c_3)) fun c_4=>Mo.noex (za5_ c_4.1 c_4.2)) fun v5=>Mq (v5.map fun c=>[c])) fun w10=>compM (fun t6=>cond1 (Mq true) (Mb (Mb (Mq t6) fun v7=>Mb (Mq ([48,49,50,51,52,53,54,55,56,57]:List Nat)) fun b8=>Mq (inS v7 b8)) fun c9=>if c9 then (Mq t6) else (Mq ([48]:List Nat)))) w10 []) fun z1'=>(Mb (Mb (Mb (Mq ([]:List Nat)) fun v11=>Mb (Mq z1') fun b12=>Mo.grd (JoinOk ⟨v11.toArray⟩ (strsL b12)=true) (Mq (joinS v11 (strsL b12)))) fun c13=>Mo.noex (zcF_ c13)) fun r14=>Mq (.rt r14)))
def zbM_ (p_card:(List Nat)) (p_field:(Int×Int)):Mo Int:=fnO (zdD_ p_card p_field)
def zbT_ (p_self:Qq1) (p_card:(List Nat)):Mo (Out ((List (List Nat))×Qq1) Unit Unit) :=
 (Mb (Mq ([]:List (List Nat))) fun r1'=>(thenO (S:=((List (List Nat))×Qq1)) (Mb (Mb (Mb (Mq p_self) fun a_2=>Mq a_2.2.2.2.2.1) fun a_3=>Mb (Mq ()) fun y4=>Mq a_3.isSome) fun c5=>if c5 then (Mb (Mb (Mq (p_self,fun (z:Qq1)=>z)) fun z9=>Mb (Mb (Mq p_self) fun t7=>Mb (Mq p_card) fun c8=>Mo.noex (zE_ t7 c8)) fun c10=>Mb (Mo.noex (zy_ z9.1 c10)) fun q11=>Mq (q11.1,z9.2 q11.2)) fun q12=>(Mq (.nx (q12.1,q12.2)))) else (Mq (.nx (r1',p_self)))) fun z6=>(Mb (Mb (Mq p_card) fun c14=>Mo.noex (zef_ c14)) fun m13=>(Mb (Mb (Mb (Mq p_card) fun a17=>Mb (Mb (Mq z6.2) fun a16=>Mq a16.2.2.1) fun c18=>Mq (a17,c18)) fun c19=>Mo.noex (zeb_ c19.1 c19.2)) fun l15=>(Mb (Mb (Mb (Mq m13) fun a25=>Mo.lim a25.length (Mq a25)) fun a26=>Mo.grd (a26.length≤1000) (Mb (Mb (Mq ([32]:List Nat)) fun a23=>Mo.grd (a23.length≤1000) (Mb (Mb (Mb (Mq l15) fun a20=>Mo.lim a20.length (Mq a20)) fun a21=>Mo.grd (a21.length≤1000) (Mb (Mq ([]:List Nat)) fun l22=>Mq (a21++l22))) fun l24=>Mq (a23++l24))) fun l27=>Mq (a26++l27))) fun a28=>Mo.lim (z6.1.length+1) (Mb (Mb (Mq (z6.2,fun (z:Qq1)=>z)) fun y39=>Mb (Mb (Mb (Mb (Mq z6.2) fun a29=>Mq a29.1) fun c30=>Mq (c30.length:Int)) fun a37=>Mb (Mb (Mb (Mq z6.2) fun a31=>Mq a31.2.1) fun x36=>compM (fun x32=>cond1 (Mq true) (Mb (Mb (Mq p_card) fun a33=>Mb (Mq x32) fun c34=>Mq (a33,c34)) fun c35=>Mo.noex (zbM_ c35.1 c35.2))) x36 []) fun c38=>Mq (a37,c38)) fun v40=>Mb (Mo.noex (zM_ y39.1 v40.1 v40.2)) fun q41=>Mq (q41.1,y39.2 q41.2)) fun q42=>(Mb (Mb (Mq p_card) fun a46=>Mq (some a46)) fun a43=>Mb (Mq (q42.2,fun (z:Qq1)=>z)) fun y45=>Mb (Mq (y45.2 (y45.1.1,(y45.1.2.1,(y45.1.2.2.1,(y45.1.2.2.2.1,(a43,y45.1.2.2.2.2.2))))))) fun x44=>(Mq (.rt ((z6.1++[a28]),x44))))))))))
def zaa_ (p_self:Qq1) (p_card:(List Nat)):Mo ((List (List Nat))×Qq1):=fnMR (zbT_ p_self p_card)
def zbr_ (p_self:Qq1):Mo (Out ((List (List Nat))×Qq1) Unit Unit) :=
 (thenO (S:=Unit) (Mb (Mb (Mb (Mq p_self) fun a_1=>Mq a_1.2.2.2.2.1) fun a_2=>Mb (Mq ()) fun b_3=>Mq a_2.isNone) fun c_4=>if c_4 then (Mb (Mb (Mq (p_self,fun (z:Qq1)=>z)) fun y_6=>Mb (Mq (0:Int)) fun c7=>Mb (Mo.noex (zv_ y_6.1 c7)) fun q8=>Mq (q8.1,y_6.2 q8.2)) fun q9=>Mq (.rt ([q9.1],q9.2))) else (Mq (.nx ()))) fun _=>(Mb (Mb (Mq (p_self,fun (z:Qq1)=>z)) fun y10=>Mb (Mq (0:Int)) fun c11=>Mb (Mo.noex (zy_ y10.1 c11)) fun q12=>Mq (q12.1,y10.2 q12.2)) fun q13=>Mq (.rt q13)))
def zT_ (p_self:Qq1):Mo ((List (List Nat))×Qq1):=fnMR (zbr_ p_self)
def zbw_ (p_self:Qq6):Mo (Out (Unit×Qq6) Unit Qq6) :=
 (Mb (Mb (Mb (Mq (p_self,fun (z:Qq6)=>z)) fun y_2=>Mq (y_2.1.2.2.1,fun (z':Qq1)=>y_2.2 (y_2.1.1,(y_2.1.2.1,(z',y_2.1.2.2.2))))) fun y_3=>Mb (Mq ()) fun c_4=>Mb (Mo.noex (zT_ y_3.1)) fun z5=>Mq (z5.1,y_3.2 z5.2)) fun y6=>Mo.lim (y6.2.2.2.2.1.length+y6.1.length) (Mq (.nx (y6.2.1,(y6.2.2.1,(y6.2.2.2.1,(y6.2.2.2.2.1++y6.1,y6.2.2.2.2.2)))))))
def zaH_ (p_self:Qq6):Mo (Unit×Qq6):=fnMU (zbw_ p_self)
def zbo_ (p_self:Qq6):Mo (Out (List (List Nat)) Unit Unit) :=
 (Mb (Mb (Mb (Mb (Mq p_self) fun a_1=>Mq a_1.1) fun a_2=>Mb (Mq (0:Int)) fun b_3=>Mo.opt (atI a_2 b_3)) fun c_4=>Mq c_4) fun r_5=>Mq (.rt r_5))
def zal_ (p_self:Qq6):Mo (List (List Nat)):=fnO (zbo_ p_self)
def zcb_ (p_found:(List (List Nat))) (p_due:(List (List Nat))):Mo (Out Bool Unit Unit) :=
 (thenO (S:=Unit) (Mb (Mb (Mb (Mb (Mq p_found) fun a_1=>Mq true) fun a_2=>Mq (!a_2)) fun c7=>if c7 then Mq true else (Mb (Mb (Mq p_found) fun c_3=>Mq (c_3.length:Int)) fun v5=>Mb (Mb (Mq p_due) fun c_4=>Mq (c_4.length:Int)) fun w6=>Mq (!decide (v5=w6)))) fun c8=>if c8 then (Mb (Mq false) fun r10=>Mq (.rt r10)) else (Mq (.nx ()))) fun _=>(thenO (S:=Unit) (Mb (Mb (Mb (Mq p_found) fun v12=>Mb (Mq p_due) fun c13=>Mq (v12,c13)) fun c14=>Mq (c14.1.zip c14.2)) fun x23=>forO (fun (_:Unit) x15=>(Mb (Mb (Mb (Mb (Mq x15.1) fun a16=>Mq true) fun a17=>Mq (!a17)) fun c20=>if c20 then Mq true else (Mb (Mq x15.1) fun a18=>Mb (Mq x15.2) fun b19=>Mq (!decide (a18=b19)))) fun c21=>if c21 then (Mb (Mq false) fun r22=>Mq (.rt r22)) else (Mq (.nx ())))) x23 ()) fun _=>(Mb (Mq true) fun r24=>Mq (.rt r24))))
def zW_ (p_found:(List (List Nat))) (p_due:(List (List Nat))):Mo Bool:=fnO (zcb_ p_found p_due)
def zg2_ (p_some:(List (List (List Nat)))):Mo (Out (List (List Nat)) Unit Unit) :=
 (Mb (Mq ([]:List (List Nat))) fun v1'=>(thenO (S:=(List (List Nat))) (Mb (Mq p_some) fun v5'=>forO (fun (s_2:(List (List Nat))) x_3=>(Mb (Mq x_3) fun w4=>Mo.lim (s_2.length+w4.length) (Mq (.nx (s_2++w4))))) v5' v1') fun s_2=>(Mq (.rt s_2))))
def zfR_ (p_some:(List (List (List Nat)))):Mo (List (List Nat)):=fnO (zg2_ p_some)
def zaD_ (p_self:Qq6):Mo (Out (List (List Nat)) Unit Unit) :=
 (Mb (Mb (Mb (Mb (Mq p_self) fun a_1=>Mq a_1.1) fun a_3=>Mb (Mb (Mq (1:Int)) fun i_2=>Mq (some i_2)) fun y4=>Mb (Mq none) fun d5=>Mq (cutG a_3 y4 d5)) fun c6=>Mo.noex (zfR_ c6)) fun r_7=>Mq (.rt r_7))
def z9_ (p_self:Qq6):Mo (List (List Nat)):=fnO (zaD_ p_self)
def zbz_ (p_self:Qq6) (p_card:(List Nat)) (p_number:Int):Mo (Out (Unit×Qq6) Unit Qq6) :=
 (Mb (Mb (Mb (Mq (p_self,fun (z:Qq6)=>z)) fun y_1=>Mq (y_1.1.1,fun (z':(List (List (List Nat))))=>y_1.2 (z',y_1.1.2))) fun y_2=>Mb (Mq p_number) fun j_3=>Mb (Mo.opt (ixN y_2.1.length j_3)) fun n_4=>Mb (Mo.opt (y_2.1[n_4]?)) fun z_5=>Mq (z_5,fun (z':(List (List Nat)))=>y_2.2 (y_2.1.set n_4 z'))) fun y_7=>Mb (Mq p_card) fun v6=>Mo.lim (y_7.1.length+1) (Mb (Mq (y_7.2 (y_7.1++[v6]))) fun x8=>(Mb (Mb (Mq (x8,fun (z:Qq6)=>z)) fun z9=>Mq (z9.1.2.1,fun (z':(List Int))=>z9.2 (z9.1.1,(z',z9.1.2.2)))) fun y11=>Mb (Mq p_number) fun v10=>Mo.lim (y11.1.length+1) (Mb (Mq (y11.2 (y11.1++[v10]))) fun x12=>(Mq (.nx x12))))))
def z4_ (p_self:Qq6) (p_card:(List Nat)) (p_number:Int):Mo (Unit×Qq6):=fnMU (zbz_ p_self p_card p_number)
def zbS_ (p_self:Qq6) (p_card:(List Nat)):Mo (Out (Unit×Qq6) Unit Qq6) :=
 (Mb (Mb (Mb (Mq (p_self,fun (z:Qq6)=>z)) fun y_2=>Mq (y_2.1.2.2.1,fun (z':Qq1)=>y_2.2 (y_2.1.1,(y_2.1.2.1,(z',y_2.1.2.2.2))))) fun y_3=>Mb (Mq p_card) fun c_4=>Mb (Mo.noex (zaa_ y_3.1 c_4)) fun z5=>Mq (z5.1,y_3.2 z5.2)) fun y6=>Mo.lim (y6.2.2.2.2.1.length+y6.1.length) (Mb (Mq ((y6.2.1,(y6.2.2.1,(y6.2.2.2.1,(y6.2.2.2.2.1++y6.1,y6.2.2.2.2.2)))),fun (z:Qq6)=>z)) fun z9=>Mb (Mb (Mq p_card) fun v7=>Mb (Mq (0:Int)) fun c8=>Mq (v7,c8)) fun c10=>Mb (Mo.noex (z4_ z9.1 c10.1 c10.2)) fun q11=>Mb (Mq (z9.2 q11.2)) fun x12=>(Mq (.nx x12))))
def zbn_ (p_self:Qq6) (p_card:(List Nat)):Mo (Unit×Qq6):=fnMU (zbS_ p_self p_card)
def zbB_ (p_self:Qq6):Mo (Out (List (List Nat)) Unit Unit) :=
 (Mb (Mb (Mb (Mq p_self) fun a_1=>Mq a_1.2.2.2.1) fun c_2=>Mq c_2) fun r_3=>Mq (.rt r_3))
def zK_ (p_self:Qq6):Mo (List (List Nat)):=fnO (zbB_ p_self)
def zeK_ (p_some:(List (List (List Nat)))) (p_numbers:(List Int)):Mo (Out (List (List Nat)) Unit Unit) :=
 (Mb (Mb (Mq p_some) fun u3'=>compM (fun x_2=>cond1 (Mq true) (Mq (0:Int))) u3' []) fun v1''=>(Mb (Mq ([]:List (List Nat))) fun u4'=>(thenO (S:=((List (List Nat))×(List Int))) (Mb (Mq p_numbers) fun x25=>forO (fun (s_5:((List (List Nat))×(List Int))) t6=>(Mb (Mb (Mb (Mq p_some) fun v7=>Mb (Mq t6) fun b8=>Mo.opt (atI v7 b8)) fun v11=>Mb (Mb (Mq s_5.2) fun w9=>Mb (Mq t6) fun b10=>Mo.opt (atI w9 b10)) fun b12=>Mo.opt (atI v11 b12)) fun v13=>Mo.lim (s_5.1.length+1) (Mb (Mb (Mb (Mq s_5.2) fun a18=>Mb (Mq t6) fun b19=>Mo.opt (atI a18 b19)) fun a20=>Mb (Mq (1:Int)) fun b21=>Mq (a20+b21)) fun a22=>Mb (Mq t6) fun j23=>Mb (Mo.opt ((ixN (s_5.2).length j23).map fun n=>(s_5.2).set n a22)) fun t24=>(Mq (.nx ((s_5.1++[v13]),t24)))))) x25 (u4',v1'')) fun s_5=>(Mq (.rt s_5.1)))))
def zc5_ (p_some:(List (List (List Nat)))) (p_numbers:(List Int)):Mo (List (List Nat)):=fnO (zeK_ p_some p_numbers)
def zbO_ (p_self:Qq6):Mo (Out (List (List Nat)) Unit Unit) :=
 (Mb (Mb (Mb (Mb (Mq p_self) fun a_1=>Mq a_1.1) fun a_3=>Mb (Mb (Mq p_self) fun a_2=>Mq a_2.2.1) fun c_4=>Mq (a_3,c_4)) fun c5=>Mo.noex (zc5_ c5.1 c5.2)) fun r6=>Mq (.rt r6))
def zaP_ (p_self:Qq6):Mo (List (List Nat)):=fnO (zbO_ p_self)
def zpz_ (p_script:(List Int)):Mo (Out Bool Unit Unit) :=
 (Mb (Mb (Mb (Mb (Mq p_script) fun w4=>Mb (Mb (Mq (3:Int)) fun i_2=>Mq (some i_2)) fun w5=>Mb (Mb (Mq (63:Int)) fun i_3=>Mq (some i_3)) fun d6=>Mq (cutG w4 w5 d6)) fun v10=>Mb (Mb (Mb (Mq p_script) fun v7=>Mb (Mq (0:Int)) fun c8=>Mq (v7,c8)) fun c9=>Mo.noex (zaE_ c9.1 c9.2)) fun c11=>Mq (v10,c11)) fun c12=>Mo.noex (zdk_ c12.1 c12.2)) fun w1'=>(Mb (Mb (Mb (Mq p_script) fun a14=>Mb (Mq (1:Int)) fun c15=>Mq (a14,c15)) fun c16=>Mo.noex (zaE_ c16.1 c16.2)) fun s13=>(Mb (Mb (Mb (Mq p_script) fun a18=>Mb (Mq (2:Int)) fun c19=>Mq (a18,c19)) fun c20=>Mo.noex (zaE_ c20.1 c20.2)) fun t17=>(Mb (Mb (Mb (Mq s13) fun a24=>Mb (Mb (Mq s13) fun a22=>Mb (Mq (4:Int)) fun b23=>Mo.grd (0<b23) (Mq (a22 % b23))) fun c25=>Mq (a24,c25)) fun c26=>Mo.noex (zbt_ c26.1 c26.2)) fun v21=>(Mb (Mb (Mb (Mb (Mb (Mq s13) fun a28=>Mb (Mq (4:Int)) fun b29=>Mo.grd (CDivG a28 b29) (Mq (a28 / b29))) fun a30=>Mb (Mq (1:Int)) fun b31=>Mq (a30+b31)) fun a36=>Mb (Mb (Mb (Mq s13) fun a32=>Mb (Mq (4:Int)) fun b33=>Mo.grd (CDivG a32 b33) (Mq (a32 / b33))) fun a34=>Mb (Mq (4:Int)) fun b35=>Mo.grd (0<b35) (Mq (a34 % b35))) fun c37=>Mq (a36,c37)) fun c38=>Mo.noex (zbt_ c38.1 c38.2)) fun s27=>(Mb (Mb (Mq (1:Int)) fun a44=>Mb (Mb (Mb (Mq t17) fun a40=>Mb (Mq (2:Int)) fun b41=>Mo.grd (CDivG a40 b41) (Mq (a40 / b41))) fun a42=>Mb (Mq (12:Int)) fun b43=>Mo.grd (0<b43) (Mq (a42 % b43))) fun b45=>Mq (a44+b45)) fun v39=>(Mb (Mb (Mq t17) fun c47=>Mo.noex (zcE_ c47)) fun b46=>(Mb (Mb (Mb (Mb (Mq v21) fun c55=>Mq c55) fun a56=>Mb (Mb (Mb (Mq s27) fun c52=>Mq c52) fun a53=>Mb (Mb (Mb (Mq b46) fun c49=>Mq c49) fun a50=>Mb (Mq ([]:List (List (Int×Int)))) fun l51=>Mq (a50::l51)) fun l54=>Mq (a53::l54)) fun l57=>Mq (a56::l57)) fun l58=>Mo.lim l58.length (Mq l58)) fun h48=>(Mb (Mb (Mb (Mb (Mb (Mb (Mq ([99,108,97,115,115]:List Nat)) fun a60=>Mb (Mq ([103,111,105,110,103]:List Nat)) fun c61=>Mq (a60,c61)) fun c62=>Mq [c62.1,c62.2]) fun a65=>Mb (Mb (Mq t17) fun a63=>Mb (Mq (2:Int)) fun b64=>Mo.grd (0<b64) (Mq (a63 % b64))) fun b66=>Mo.opt (atI a65 b66)) fun a69=>Mb (Mb (Mq h48) fun a67=>Mb (Mq v39) fun c68=>Mq (a67,c68)) fun c70=>Mq (a69,c70)) fun c71=>Mo.noex (zdt_ c71.1 c71.2.1 c71.2.2)) fun m59=>(thenO (S:=Unit) (Mb (Mb (Mb (Mq h48) fun a77=>Mb (Mb (Mb (Mq v21) fun a74=>Mb (Mb (Mq s27) fun a72=>Mb (Mq b46) fun c73=>Mq (a72,c73)) fun c75=>Mq (a74,c75)) fun c76=>Mq [c76.1,c76.2.1,c76.2.2]) fun b78=>Mq (!((eqL (eqL (fun a b=>(fun a b=>decide (a=b)) a.1 b.1 && (fun a b=>decide (a=b)) a.2 b.2))) a77 b78))) fun c81=>if c81 then Mq true else (Mb (Mb (Mq m59) fun a79=>Mq true) fun a80=>Mq (!a80))) fun c82=>if c82 then (Mb (Mq false) fun r84=>Mq (.rt r84)) else (Mq (.nx ()))) fun _=>(Mb (Mq (h48,fun (z:(List (List (Int×Int))))=>z)) fun y85=>Mb (Mq ()) fun c86=>Mb (Mo.noex (zck_ y85.1)) fun q87=>Mb (Mq (y85.2 q87.2)) fun x88=>(Mb (Mb (Mb (Mq v21) fun a94=>Mb (Mb (Mq s27) fun a92=>Mb (Mb (Mq v39) fun a90=>Mb (Mq b46) fun c91=>Mq (a90,c91)) fun c93=>Mq (a92,c93)) fun c95=>Mq (a94,c95)) fun c96=>Mb (Mo.noex (zG_ () c96.1 c96.2.1 c96.2.2.1 c96.2.2.2)) fun q97=>Mq q97.2) fun b89=>(Mb (Mq ([]:List (List Nat))) fun d98=>(thenO (S:=((List (List Nat))×(Qq1×Qq6))) (Mb (Mb (Mq w1') fun c100=>Mq (enumL c100)) fun x141=>forO (fun (s99:((List (List Nat))×(Qq1×Qq6))) x101=>(Mb (Mb (Mq (s99.2.1,fun (z:Qq1)=>z)) fun y102=>Mb (Mq x101.2) fun c103=>Mb (Mo.noex (zaa_ y102.1 c103)) fun q104=>Mq (q104.1,y102.2 q104.2)) fun q105=>Mb (Mb (Mq s99.1) fun a107=>Mb (Mq q105.1) fun b108=>Mo.lim (a107.length+b108.length) (Mq (a107++b108))) fun d106=>(thenO (S:=Qq6) (Mb (Mb (Mq (s99.2.2,fun (z:Qq6)=>z)) fun y112=>Mb (Mq x101.2) fun c113=>Mb (Mo.noex (zbn_ y112.1 c113)) fun q114=>Mq (q114.1,y112.2 q114.2)) fun q110=>Mb (Mb (Mq q110.1) fun a115=>Mb (Mq ()) fun b116=>Mq false) fun b111=>if b111 then (Mb (Mq false) fun r117=>Mq (.rt r117)) else (Mb (Mb (Mb (Mb (Mb (Mq q110.2) fun o119=>Mo.noex (zK_ o119)) fun a120=>Mb (Mq d106) fun c121=>Mq (a120,c121)) fun c122=>Mo.noex (zW_ c122.1 c122.2)) fun a123=>Mq (!a123)) fun c118=>if c118 then (Mb (Mq false) fun r124=>Mq (.rt r124)) else (Mq (.nx q110.2)))) fun s109=>(Mb (Mb (Mq s109) fun o125=>Mo.noex (zK_ o125)) fun x126=>Mb (Mq ([]:List Nat)) fun a127=>Mo.lim (x126.length+1) (Mb (Mb (Mb (Mb (Mb (Mq s109) fun o128=>Mo.noex (zaP_ o128)) fun a135=>Mb (Mb (Mq w1') fun a132=>Mb (Mq none) fun b133=>Mb (Mb (Mb (Mq x101.1) fun a129=>Mb (Mq (1:Int)) fun b130=>Mq (a129+b130)) fun i131=>Mq (some i131)) fun d134=>Mq (cutG a132 b133 d134)) fun c136=>Mq (a135,c136)) fun c137=>Mo.noex (zW_ c137.1 c137.2)) fun a138=>Mq (!a138)) fun c139=>if c139 then (Mb (Mq false) fun r140=>Mq (.rt r140)) else (Mq (.nx (d106,q105.2,s109)))))))) x141 (d98,b89,m59)) fun s99=>(thenO (S:=Unit) (Mb (Mb (Mb (Mb (Mb (Mb (Mq s99.2.2) fun o142=>Mo.noex (zK_ o142)) fun a143=>Mb (Mq s99.1) fun c144=>Mq (a143,c144)) fun c145=>Mo.noex (zW_ c145.1 c145.2)) fun a146=>Mq (!a146)) fun c152=>if c152 then Mq true else (Mb (Mb (Mb (Mb (Mq s99.2.2) fun o147=>Mo.noex (zaP_ o147)) fun a148=>Mb (Mq w1') fun c149=>Mq (a148,c149)) fun c150=>Mo.noex (zW_ c150.1 c150.2)) fun a151=>Mq (!a151))) fun c153=>if c153 then (Mb (Mq false) fun r155=>Mq (.rt r155)) else (Mq (.nx ()))) fun _=>(thenO (S:=(Qq6×Qq1)) (Mb (Mb (Mq (s99.2.2,fun (z:Qq6)=>z)) fun y159=>Mb (Mq ()) fun c160=>Mb (Mo.noex (zaH_ y159.1)) fun q161=>Mq (q161.1,y159.2 q161.2)) fun q157=>Mb (Mb (Mq q157.1) fun a162=>Mb (Mq ()) fun b163=>Mq false) fun b158=>if b158 then (Mb (Mq false) fun r164=>Mq (.rt r164)) else (Mb (Mb (Mq q157.2) fun o165=>Mo.noex (zK_ o165)) fun a166=>Mb (Mb (Mq (s99.2.1,fun (z:Qq1)=>z)) fun y169=>Mb (Mq ()) fun c170=>Mb (Mo.noex (zT_ y169.1)) fun q171=>Mq (q171.1,y169.2 q171.2)) fun q167=>Mb (Mb (Mb (Mb (Mq a166) fun a174=>Mb (Mb (Mq s99.1) fun a172=>Mb (Mq q167.1) fun b173=>Mo.lim (a172.length+b173.length) (Mq (a172++b173))) fun c175=>Mq (a174,c175)) fun c176=>Mo.noex (zW_ c176.1 c176.2)) fun a177=>Mq (!a177)) fun b168=>if b168 then (Mb (Mq false) fun r178=>Mq (.rt r178)) else (Mq (.nx (q157.2,q167.2))))) fun s156=>(Mb (Mb (Mq s156.1) fun o179=>Mo.noex (zal_ o179)) fun x180=>Mb (Mq ([]:List Nat)) fun a181=>Mo.lim (x180.length+1) (Mb (Mb (Mb (Mb (Mb (Mq s156.1) fun o182=>Mo.noex (zal_ o182)) fun a183=>Mb (Mq w1') fun c184=>Mq (a183,c184)) fun c185=>Mo.noex (zW_ c185.1 c185.2)) fun c189=>if c189 then (Mb (Mb (Mq s156.1) fun o186=>Mo.noex (z9_ o186)) fun a187=>Mb (Mq ([]:List (List Nat))) fun b188=>Mq (((eqL (fun a b=>decide (a=b))) a187 b188))) else Mq false) fun r190=>Mq (.rt r190)))))))))))))))))))
def f_law (p_script:(List Int)):Mo Bool:=fnO (zpz_ p_script)
end K59
namespace K59
open PySem PySem.Spec PyProof.Rows L2
open Mo renaming bind→Mb,ok→Mq
open Sl renaming fz→Zf,dead→Zd,ow→Zo
def top (i:Nat):Stmt:=PySem.Challenge.pw_cardshop_k59_printer.main.body.getD i (.Pass ⟨0,0,0,0⟩)
abbrev zmM_:Stmt:=top 15
abbrev zey_:Stmt:=inClass (top 33) 0
abbrev zdH_:Stmt:=inClass (top 35) 0
abbrev ziA_:Stmt:=top 54
abbrev zjK_:Stmt:=top 55
abbrev zjN_:Stmt:=top 56
abbrev zgJ_:Stmt:=top 53
abbrev zhk_:Stmt:=top 58
abbrev zid_:Stmt:=top 59
abbrev zbi_:Stmt:=inClass (top 42) 0
abbrev zcA_:Stmt:=inClass (top 42) 1
abbrev zdE_:Stmt:=inClass (top 49) 0
abbrev zgO_:Stmt:=top 51
abbrev ziZ_:Stmt:=top 60
abbrev zgx_:Stmt:=top 61
abbrev zg9_:Stmt:=inClass (top 33) 1
abbrev zeG_:Stmt:=inClass (top 33) 3
abbrev zcM_:Stmt:=inClass (top 35) 8
abbrev zf6_:Stmt:=inClass (top 33) 5
abbrev zkt_:Stmt:=top 20
abbrev zc0_:Stmt:=inClass (top 35) 7
abbrev zgM_:Stmt:=inClass (top 33) 4
abbrev zfS_:Stmt:=inClass (top 33) 2
abbrev zcJ_:Stmt:=inClass (top 35) 6
abbrev zcz_:Stmt:=inClass (top 35) 5
abbrev zkC_:Stmt:=top 11
abbrev zln_:Stmt:=top 12
abbrev zkK_:Stmt:=top 31
abbrev zb5_:Stmt:=inClass (top 35) 4
abbrev zib_:Stmt:=top 16
abbrev zih_:Stmt:=top 21
abbrev zfI_:Stmt:=inClass (top 35) 1
abbrev zep_:Stmt:=inClass (top 35) 2
abbrev zel_:Stmt:=inClass (top 49) 2
abbrev zeQ_:Stmt:=inClass (top 42) 5
abbrev zgb_:Stmt:=top 57
abbrev zm7_:Stmt:=top 39
abbrev zcU_:Stmt:=inClass (top 42) 6
abbrev zeC_:Stmt:=inClass (top 42) 2
abbrev zfY_:Stmt:=inClass (top 49) 1
abbrev zdg_:Stmt:=inClass (top 49) 3
abbrev ziH_:Stmt:=top 40
abbrev zfy_:Stmt:=inClass (top 42) 4
abbrev zpt_:Stmt:=top 62
structure Fx (K:Fgg):Prop where
 isi_Wheel_Machine:isiK K (gA K "Wheel") (.ref (gA K "Machine"))=some false
 isi_Counter_Machine:isiK K (gA K "Counter") (.ref (gA K "Machine"))=some false
 isi_Printer_Machine:isiK K (gA K "Printer") (.ref (gA K "Machine"))=some true
def zh7_ (K:Fgg):Sp:=Ct K (csLast tyInt) (fun c=>zf1_ c) (owF tyInt)
def zb1_ (K:Fgg):Sp:=CtM K (owI (gA K "Wheel") [] psNil) (Qq5 K) (csLast tyInt) (fun x c=>zI_ x c) (owF tyNon)
def zaQ_ (K:Fgg):Sp:=CtM K (owI (gA K "Counter") [] psNil) (Qq0 K) (csCons (tyL Qq2) (csCons (tyL Qq2) (csCons tyInt (csLast (tyL Qq2))))) (fun x c=>zG_ x c.1 c.2.1 c.2.2.1 c.2.2.2) (owF tyNon)
def zeN_ (K:Fgg):Sp:=Ct K csNil (fun c=>zdw_) (owF tyStr)
def zff_ (K:Fgg):Sp:=Ct K (csCons tyInt (csCons tyStr (csLast tyStr))) (fun c=>zcm_ c.1 c.2.1 c.2.2) (owF tyStr)
def zfn_ (K:Fgg):Sp:=Ct K (csCons (tyL tyInt) (csLast tyInt)) (fun c=>zdk_ c.1 c.2) (owL tyStr)
def zbk_ (K:Fgg):Sp:=Ct K (csCons (tySc K) (csLast tyInt)) (fun c=>zaE_ c.1 c.2) (owF tyInt)
def zcp_ (K:Fgg):Sp:=Ct K (csCons tyInt (csLast tyInt)) (fun c=>zbt_ c.1 c.2) (owL Qq2)
def zeB_ (K:Fgg):Sp:=Ct K (csLast tyInt) (fun c=>zcE_ c) (owL Qq2)
def zac_ (K:Fgg):Sp:=CtM K (owI (gA K "Printer") [] psNil) (Qq11 K) csNil (fun x c=>zA_ x) (owF tyNon)
def zaV_ (K:Fgg):Sp:=CtM K (Qq11 K) (Qq11 K) (csLast tyInt) (fun x c=>zV_ x c) (owF tyNon)
def zaO_ (K:Fgg):Sp:=CtM K (owI (gA K "Printer") [] psNil) (Qq3 K) (csCons (tyL Qq2) (csCons (tyL Qq2) (csCons tyInt (csLast (tyL Qq2))))) (fun x c=>z3_ x c.1 c.2.1 c.2.2.1 c.2.2.2) (owF tyNon)
def zdQ_ (K:Fgg):Sp:=Ct K (csCons Qq8 (csLast (tyD kStr (tyL tyStr)))) (fun c=>zbU_ c.1 c.2) (Qq3 K)
def ze9_ (K:Fgg):Sp:=Ct K (csCons tyStr (csCons (tyL (tyL Qq2)) (csLast tyInt))) (fun c=>zdt_ c.1 c.2.1 c.2.2) (Qq3 K)
def zdn_ (K:Fgg):Sp:=CtM K (owLO (owL Qq2)) (owLO (owL Qq2)) csNil (fun x c=>zck_ x) (owF tyNon)
def zdO_ (K:Fgg):Sp:=CtM K (Qq5 K) (Qq5 K) (csLast tyInt) (fun x c=>zbR_ x c) (owF tyNon)
def zb0_ (K:Fgg):Sp:=Ct K (csLast (Qq12 K)) (fun c=>zbp_ c) (owF tyBl)
def zan_ (K:Fgg):Sp:=CtM K (Qq0 K) (Qq0 K) (csCons tyInt (csLast (tyL tyInt))) (fun x c=>zM_ x c.1 c.2) (owF tyNon)
def zdd_ (K:Fgg):Sp:=Ct K (csLast (Qq12 K)) (fun c=>z6_ c) (owF tyStr)
def zcd_ (K:Fgg):Sp:=Ct K (csCons tyStr (csLast Qq2)) (fun c=>za5_ c.1 c.2) (owF tyStr)
def zbf_ (K:Fgg):Sp:=Ct K (csCons (Qq4 K) (csLast tyInt)) (fun c=>zz_ c.1 c.2) (owF tyStr)
def zdm_ (K:Fgg):Sp:=CtM K (Qq5 K) (Qq5 K) csNil (fun x c=>z5_ x) (owF tyNon)
def zcP_ (K:Fgg):Sp:=Ct K (csLast (Qq12 K)) (fun c=>zbj_ c) (owF tyInt)
def zam_ (K:Fgg):Sp:=CtM K (Qq0 K) (Qq0 K) (csLast tyInt) (fun x c=>zv_ x c) (owF tyStr)
def zag_ (K:Fgg):Sp:=CtM K (Qq0 K) (Qq0 K) (csLast tyInt) (fun x c=>zy_ x c) (owL tyStr)
def zgB_ (K:Fgg):Sp:=Ct K (csLast tyStr) (fun c=>zef_ c) (owF tyStr)
def zgI_ (K:Fgg):Sp:=Ct K (csCons tyStr (csLast tyInt)) (fun c=>zei_ c.1 c.2) (owF tyStr)
def zgD_ (K:Fgg):Sp:=Ct K (csCons tyStr (csLast (tyL Qq2))) (fun c=>zeb_ c.1 c.2) (owF tyStr)
def zaR_ (K:Fgg):Sp:=Ct K (csCons (Qq4 K) (csLast tyStr)) (fun c=>zE_ c.1 c.2) (owF tyInt)
def zen_ (K:Fgg):Sp:=Ct K (csLast tyStr) (fun c=>zcF_ c) (owF tyInt)
def zes_ (K:Fgg):Sp:=Ct K (csCons tyStr (csLast Qq2)) (fun c=>zbM_ c.1 c.2) (owF tyInt)
def za3_ (K:Fgg):Sp:=CtM K (Qq0 K) (Qq0 K) (csLast tyStr) (fun x c=>zaa_ x c) (owL tyStr)
def zaB_ (K:Fgg):Sp:=CtM K (Qq0 K) (Qq0 K) csNil (fun x c=>zT_ x) (owL tyStr)
def zbd_ (K:Fgg):Sp:=CtM K (Qq3 K) (Qq3 K) csNil (fun x c=>zaH_ x) (owF tyNon)
def zbe_ (K:Fgg):Sp:=Ct K (csLast (Qq7 K)) (fun c=>zal_ c) (owL tyStr)
def zX_ (K:Fgg):Sp:=Ct K (csCons (tyL tyStr) (csLast (tyL tyStr))) (fun c=>zW_ c.1 c.2) (owF tyBl)
def zhO_ (K:Fgg):Sp:=Ct K (csLast (tyL (tyL tyStr))) (fun c=>zfR_ c) (owL tyStr)
def zbg_ (K:Fgg):Sp:=Ct K (csLast (Qq7 K)) (fun c=>z9_ c) (owL tyStr)
def zb2_ (K:Fgg):Sp:=CtM K (Qq3 K) (Qq3 K) (csCons tyStr (csLast tyInt)) (fun x c=>z4_ x c.1 c.2) (owF tyNon)
def zbI_ (K:Fgg):Sp:=CtM K (Qq3 K) (Qq3 K) (csLast tyStr) (fun x c=>zbn_ x c) (owF tyNon)
def zF_ (K:Fgg):Sp:=Ct K (csLast (Qq7 K)) (fun c=>zK_ c) (owL tyStr)
def zfo_ (K:Fgg):Sp:=Ct K (csCons (tyL (tyL tyStr)) (csLast (tyL tyInt))) (fun c=>zc5_ c.1 c.2) (owL tyStr)
def zbJ_ (K:Fgg):Sp:=Ct K (csLast (Qq7 K)) (fun c=>zaP_ c) (owL tyStr)
def zmL_ (K:Fgg):TS:=(tSeq (tAsg (tC (.int 1)) (gName 1)) (tSeq (tFor (mRng1 (tCons (mVar 0) tNil)) (gName 2) (tAsg (tOp mMulX (mVar 1) (tC (.int 10))) (gName 1))) (tRet (mVar 1))))
def zej_ (K:Fgg):TS:=(tSeq (mSFld (gA K "Wheel") (mVar 0) (mVar 1) "figures") (tSeq (mSFld (gA K "Wheel") (mVar 0) (tCall (zh7_ K) [] E0 (tCons (mVar 1) tNil)) "power") (tSeq (mSFld (gA K "Wheel") (mVar 0) (tC (.int 0)) "kept") (mSFld (gA K "Wheel") (mVar 0) (tC (.bl false)) "over"))))
def zdJ_ (K:Fgg):TS:=(tSeq (mSFld (gA K "Counter") (mVar 0) (tCB (mList K) (tCons (mVar 1) tNil)) "breaks") (tSeq (mSFld (gA K "Counter") (mVar 0) (tCB (mList K) (tCons (mVar 2) tNil)) "sums") (tSeq (mSFld (gA K "Counter") (mVar 0) (tCB (mList K) (tCons (mVar 4) tNil)) "board") (tSeq (mSFld (gA K "Counter") (mVar 0) (tComp ["level"] [("figures",3),("sums",2)] (mRng1 (tCons (tOp mAdd (tCB (mLen K) (tCons (mVar 1) tNil)) (tC (.int 1))) tNil)) (gName 0) tTrue (tComp ["field"] [("figures",1)] (iAny K (mVar 2)) (gName 0) tTrue (tMake (gA K "Wheel") (zb1_ K) [] E0 (tCons (mVar 1) tNil)))) "levels") (tSeq (mSFld (gA K "Counter") (mVar 0) (tC .non) "before") (mSFld (gA K "Counter") (mVar 0) tDNewK "run_over"))))))
def zin_ (K:Fgg):TS:=(tRet (tC (tx SG)))
def ziY_ (K:Fgg):TS:=(tSeq (tAsg (tC (tx [])) (gName 3)) (tSeq (tAsg (tOp mAdd (tOp mMod (mVar 0) (tC (.int 2147483647))) (tC (.int 3))) (gName 4)) (tSeq (tFor (mRng1 (tCons (tC (.int 36)) tNil)) (gName 5) (tSeq (tAsg (tOp mMod (tOp mAdd (tOp mAdd (tOp mMulX (mVar 4) (mVar 4)) (tOp mMulX (tC (.int 17)) (mVar 5))) (tC (.int 5))) (tC (.int 2147483629))) (gName 4)) (tAsg (tOp mAdd (mVar 3) (tOp (mIx K) (mVar 1) (tOp mMod (tOp mDivG (mVar 4) (tC (.int 3))) (tCB (mLen K) (tCons (mVar 1) tNil))))) (gName 3)))) (tRet (tOp mAdd (mVar 3) (mVar 2))))))
def ziS_ (K:Fgg):TS:=(tSeq (tAsg (tOp (mIx K) (tLst (tCons (tC (tx [65,32])) (tCons (tC (tx [48,90,57])) (tCons (tC (tx [66,53,65,32,48])) (tCons (tCall (zeN_ K) [] E0 tNil) tNil))))) (tOp mMod (mVar 1) (tC (.int 4)))) (gName 2)) (tSeq (tAsg (tLst tNil) (gName 3)) (tSeq (tFor (iEnumL K (tCons (mVar 0) tNil)) (gTupM K 2 (gConsM (gName 4) (gConsM (gName 5) gNilM))) (tSeq (tAsg (tBM K "str" mZfill (tCB (mStr) (tCons (mVar 4) tNil)) (tCons (tC (.int 4)) tNil)) (gName 6)) (tSeq (mIfS (mTest (tOp (mEqK K) (tOp mMod (tOp mDivG (mVar 1) (tC (.int 4))) (tC (.int 4))) (tC (.int 1)))) (tAsg (tC (tx [77,65,82,75])) (gName 6)) tNext) (tDrop (tBM K "list" rAppend (mVar 3) (tCons (tCall (zff_ K) [] E0 (tCons (mVar 5) (tCons (mVar 2) (tCons (mVar 6) tNil)))) tNil)))))) (tRet (mVar 3)))))
def zgz_ (K:Fgg):TS:=(tSeq (mIfS (mTest (tOp mLt (mVar 1) (tCB (mLen K) (tCons (mVar 0) tNil)))) (tRet (tOp (mIx K) (mVar 0) (mVar 1))) tNext) (tRet (tC (.int 0))))
def zgP_ (K:Fgg):TS:=(tSeq (tAsg (tLst tNil) (gName 2)) (tSeq (tAsg (tOp mAdd (tOp mMod (mVar 0) (tC (.int 2147483647))) (tC (.int 7))) (gName 3)) (tSeq (tFor (mRng1 (tCons (mVar 1) tNil)) (gName 4) (tSeq (tAsg (tOp mMod (tOp mAdd (tOp mAdd (tOp mMulX (mVar 3) (mVar 3)) (tOp mMulX (tC (.int 31)) (mVar 4))) (tC (.int 5))) (tC (.int 2147483629))) (gName 3)) (tSeq (tAsg (tOp mAdd (tC (.int 1)) (tOp mMod (tOp mDivG (mVar 3) (tC (.int 3))) (tC (.int 4)))) (gName 5)) (tSeq (tAsg (tOp mAdd (tC (.int 1)) (tOp mMod (tOp mDivG (mVar 3) (tC (.int 12))) (tOp mSub (tC (.int 37)) (mVar 5)))) (gName 6)) (tDrop (tBM K "list" rAppend (mVar 2) (tCons (tTup (tCons (mVar 6) (tCons (tOp mSub (tOp mAdd (mVar 6) (mVar 5)) (tC (.int 1))) tNil))) tNil))))))) (tRet (mVar 2)))))
def zij_ (K:Fgg):TS:=(tSeq (tAsg tDNewK (gName 1)) (tSeq (tAsg (tOp mAdd (tOp mMod (mVar 0) (tC (.int 2147483647))) (tC (.int 9))) (gName 2)) (tSeq (tFor (mRng1 (tCons (tOp mMod (mVar 0) (tC (.int 9))) tNil)) (gName 3) (tSeq (tAsg (tOp mMod (tOp mAdd (tOp mAdd (tOp mMulX (mVar 2) (mVar 2)) (tOp mMulX (tC (.int 13)) (mVar 3))) (tC (.int 7))) (tC (.int 2147483629))) (gName 2)) (mDPut (mVar 1) (tOp mAdd (tC (.int 1)) (tOp mMod (tOp mDivG (mVar 2) (tC (.int 5))) (tC (.int 36)))) (tOp mAdd (tC (.int 1)) (tOp mMod (tOp mDivG (mVar 2) (tC (.int 180))) (tC (.int 40))))))) (tRet (tComp ["_law_there"] [("_law_wires",1)] (iAny K (tCB (mSortDk 64 K) (tCons (mVar 1) tNil))) (gName 0) tTrue (tTup (tCons (mDGet (mVar 1) (mVar 0)) (tCons (mVar 0) tNil))))))))
def zbm_ (K:Fgg):TS:=(tSeq (mSFld (gA K "Printer") (mVar 0) (tLst tNil) "pockets") (mSFld (gA K "Printer") (mVar 0) (tLst tNil) "log"))
def zcj_ (K:Fgg):TS:=(mSFld (gA K "Printer") (mVar 0) (tComp ["number"] [] (mRng1 (tCons (mVar 1) tNil)) (gName 0) tTrue (tLst tNil)) "pockets")
def zdA_ (K:Fgg):TS:=(tSeq (tDrop (tCall (zac_ K) [] E0 (tCons (mVar 0) tNil))) (tSeq (tDrop (tMeth (gA K "Printer") "make_pockets" (zaV_ K) [] E0 (mVar 0) (tCons (tC (.int 1)) tNil))) (tSeq (mSFld (gA K "Printer") (mVar 0) (tMake (gA K "Counter") (zaQ_ K) [] E0 (tCons (mVar 1) (tCons (mVar 2) (tCons (mVar 3) (tCons (mVar 4) tNil))))) "counter") (mSFld (gA K "Printer") (mVar 0) (tLst tNil) "lines"))))
def zhs_ (K:Fgg):TS:=(tSeq (tAsg (tOp (mIx K) (mVar 0) (tC (.int 0))) (gName 2)) (tSeq (mIfS (mTest (tOp (mEqK K) (mVar 2) (tC (tx [100,101,97,108])))) tNever tNext) (tSeq (mIfS (mTest (tOp (mEqK K) (mVar 2) (tC (tx [112,105,99,107])))) tNever tNext) (tSeq (mIfS (mTest (tOp (mEqK K) (mVar 2) (tC (tx [109,97,116,101])))) tNever tNext) (tSeq (mIfS (mTest (tOp (mEqK K) (mVar 2) (tC (tx [102,105,114,115,116])))) tNever tNext) (tSeq (mIfS (mTest (tOp (mEqK K) (mVar 2) (tC (tx [112,117,110,99,104])))) tNever tNext) (tRet (tMake (gA K "Printer") (zaO_ K) [] E0 (tCons (tOp (mIx K) (mVar 0) (tC (.int 2))) (tCons (tOp (mIx K) (mVar 0) (tC (.int 3))) (tCons (tOp (mIx K) (mVar 0) (tC (.int 4))) (tCons (tOp (mIx K) (mVar 0) (tC (.int 5))) tNil))))))))))))
def zjq_ (K:Fgg):TS:=(tSeq (tAsg (mVar 1) (gLst3 K (gConsM (gName 3) (gConsM (gName 4) (gConsM (gName 5) gNilM))))) (tSeq (mIfS (mTest (tOp (mEqK K) (mVar 0) (tC (tx [99,108,97,115,115])))) (tRet (tMake (gA K "Printer") (zaO_ K) [] E0 (tCons (mVar 3) (tCons (mVar 4) (tCons (mVar 2) (tCons (mVar 5) tNil)))))) tNext) (tRet (tCall (zdQ_ K) [] E0 (tCons (tTup (tCons (tC (tx [99,111,117,110,116])) (tCons (tC (tx [97])) (tCons (mVar 3) (tCons (mVar 4) (tCons (mVar 2) (tCons (mVar 5) tNil))))))) (tCons tDNewK tNil))))))
def zf5_ (K:Fgg):TS:=(tFor (iAny K (mVar 0)) (gName 1) (tDrop (tBM0 K "list" rClear (mVar 1))))
def zht_ (K:Fgg):TS:=(tSeq (tAsg (tOp mAdd (mFld (gA K "Wheel") (mVar 0) "kept") (mVar 1)) (gName 2)) (tSeq (mIfS (mTest (tOp mGe (mVar 2) (mFld (gA K "Wheel") (mVar 0) "power"))) (mSFld (gA K "Wheel") (mVar 0) (tC (.bl true)) "over") tNext) (mSFld (gA K "Wheel") (mVar 0) (tOp mMod (mVar 2) (mFld (gA K "Wheel") (mVar 0) "power")) "kept")))
def zeU_ (K:Fgg):TS:=(tRet (mFld (gA K "Wheel") (mVar 0) "over"))
def zcN_ (K:Fgg):TS:=(tFor (iEnumL K (tCons (mVar 2) tNil)) (gTupM K 2 (gConsM (gName 3) (gConsM (gName 4) gNilM))) (tSeq (tAsg (tOp (mIx K) (tOp (mIx K) (mFld (gA K "Counter") (mVar 0) "levels") (mVar 1)) (mVar 3)) (gName 5)) (tSeq (tDrop (tMeth (gA K "Wheel") "rise" (zdO_ K) [] E0 (mVar 5) (tCons (mVar 4) tNil))) (mIfS (mTest (tMeth (gA K "Wheel") "ran_over" (zb0_ K) [] E0 (mVar 5) tNil)) (mDPut (mFld (gA K "Counter") (mVar 0) "run_over") (mVar 3) (tC (.bl true))) tNext))))
def zgu_ (K:Fgg):TS:=(tRet (tBM K "str" mZfill (tCB (mStr) (tCons (mFld (gA K "Wheel") (mVar 0) "kept") tNil)) (tCons (mFld (gA K "Wheel") (mVar 0) "figures") tNil)))
def zkx_ (K:Fgg):TS:=(tRet (tSl (mSl K) (mVar 0) (mPart (tOp mSub (tOp (mIx K) (mVar 1) (tC (.int 0))) (tC (.int 1)))) (mPart (tOp (mIx K) (mVar 1) (tC (.int 1))))))
def zcY_ (K:Fgg):TS:=(tSeq (tAsg (tLst (tCons (tOp mMulX (tC (tx [42])) (tOp mSub (tOp mAdd (tC (.int 1)) (tCB (mLen K) (tCons (mFld (gA K "Counter") (mVar 0) "breaks") tNil))) (mVar 1))) tNil)) (gName 2)) (tSeq (tDrop (tBM K "list" rExtend (mVar 2) (tCons (tComp ["field"] [("self",0)] (iAny K (tSl (mSl K) (mFld (gA K "Counter") (mVar 0) "breaks") tNoPart (mPart (mVar 1)))) (gName 0) tTrue (tCall (zcd_ K) [] E0 (tCons (mFld (gA K "Counter") (mVar 1) "before") (tCons (mVar 0) tNil)))) tNil))) (tSeq (tDrop (tBM K "list" rExtend (mVar 2) (tCons (tComp ["wheel"] [] (iAny K (tOp (mIx K) (mFld (gA K "Counter") (mVar 0) "levels") (mVar 1))) (gName 0) tTrue (tMeth (gA K "Wheel") "shown" (zdd_ K) [] E0 (mVar 0) tNil)) tNil))) (tRet (tBM K "str" (mJoin K) (tC (tx [32])) (tCons (mVar 2) tNil))))))
def zgq_ (K:Fgg):TS:=(tSeq (mSFld (gA K "Wheel") (mVar 0) (tC (.int 0)) "kept") (mSFld (gA K "Wheel") (mVar 0) (tC (.bl false)) "over"))
def zfW_ (K:Fgg):TS:=(tRet (mFld (gA K "Wheel") (mVar 0) "kept"))
def zcL_ (K:Fgg):TS:=(tSeq (tAsg (tMeth (gA K "Counter") "total_line" (zbf_ K) [] E0 (mVar 0) (tCons (mVar 1) tNil)) (gName 2)) (tSeq (mIfS (mTest (tOp mGt (mVar 1) (tC (.int 0)))) (tDrop (tMeth (gA K "Counter") "raise_level" (zan_ K) [] E0 (mVar 0) (tCons (tOp mSub (mVar 1) (tC (.int 1))) (tCons (tComp ["wheel"] [] (iAny K (tOp (mIx K) (mFld (gA K "Counter") (mVar 0) "levels") (mVar 1))) (gName 0) tTrue (tMeth (gA K "Wheel") "amount" (zcP_ K) [] E0 (mVar 0) tNil)) tNil)))) tNext) (tSeq (tFor (iAny K (tOp (mIx K) (mFld (gA K "Counter") (mVar 0) "levels") (mVar 1))) (gName 3) (tDrop (tMeth (gA K "Wheel") "reset" (zdm_ K) [] E0 (mVar 3) tNil))) (tRet (mVar 2)))))
def zcB_ (K:Fgg):TS:=(tSeq (tAsg (tLst tNil) (gName 2)) (tSeq (tFor (mRng3 (tCons (tCB (mLen K) (tCons (mFld (gA K "Counter") (mVar 0) "breaks") tNil)) (tCons (tOp mSub (mVar 1) (tC (.int 1))) (tCons (mNeg (tC (.int 1))) tNil)))) (gName 3) (tDrop (tBM K "list" rAppend (mVar 2) (tCons (tMeth (gA K "Counter") "close_level" (zam_ K) [] E0 (mVar 0) (tCons (mVar 3) tNil)) tNil)))) (tRet (mVar 2))))
def zkZ_ (K:Fgg):TS:=(tRet (tSl (mSl K) (mVar 0) (mPart (tC (.int 36))) tNoPart))
def zkF_ (K:Fgg):TS:=(tRet (tOp (mIx K) (mVar 0) (tOp mSub (mVar 1) (tC (.int 1)))))
def zkE_ (K:Fgg):TS:=(tSeq (tAsg (tComp ["column"] [] (mRng1 (tCons (tC (.int 36)) tNil)) (gName 0) tTrue (tC (tx [32]))) (gName 2)) (tSeq (tFor (iAny K (mVar 1)) (gName 3) (tAsg (tCall (zgI_ K) [] E0 (tCons (mVar 0) (tCons (tOp (mIx K) (mVar 3) (tC (.int 0))) tNil))) (gSub (mVar 2) (tOp mSub (tOp (mIx K) (mVar 3) (tC (.int 1))) (tC (.int 1))) mSet))) (tRet (tBM K "str" (mJoin K) (tC (tx [])) (tCons (mVar 2) tNil)))))
def zb8_ (K:Fgg):TS:=(tSeq (tFor (iEnumL K (tCons (mFld (gA K "Counter") (mVar 0) "breaks") tNil)) (gTupM K 2 (gConsM (gName 2) (gConsM (gName 3) gNilM))) (mIfS (mTest (tOp (mNeK K) (tCall (zcd_ K) [] E0 (tCons (mVar 1) (tCons (mVar 3) tNil))) (tCall (zcd_ K) [] E0 (tCons (mFld (gA K "Counter") (mVar 0) "before") (tCons (mVar 3) tNil))))) (tRet (tOp mAdd (mVar 2) (tC (.int 1)))) tNext)) (tRet (tOp mAdd (tCB (mLen K) (tCons (mFld (gA K "Counter") (mVar 0) "breaks") tNil)) (tC (.int 1)))))
def zie_ (K:Fgg):TS:=(tSeq (tAsg (tC (.int 0)) (gName 1)) (tSeq (tFor (iAny K (mVar 0)) (gName 2) (tAsg (tOp mAdd (tOp mMulX (mVar 1) (tC (.int 10))) (tBM K "str" mIndex (tC (tx [48,49,50,51,52,53,54,55,56,57])) (tCons (mVar 2) tNil))) (gName 1))) (tRet (mVar 1))))
def ziC_ (K:Fgg):TS:=(tSeq (tAsg (tComp ["sign"] [] (iAny K (tCall (zcd_ K) [] E0 (tCons (mVar 0) (tCons (mVar 1) tNil)))) (gName 0) tTrue (mIf (mTest (tOp (mIn K false) (mVar 0) (tC (tx [48,49,50,51,52,53,54,55,56,57])))) (mVar 0) (tC (tx [48])))) (gName 2)) (tRet (tCall (zen_ K) [] E0 (tCons (tBM K "str" (mJoin K) (tC (tx [])) (tCons (mVar 2) tNil)) tNil))))
def zft_ (K:Fgg):TS:=(tSeq (tAsg (tLst tNil) (gName 2)) (tSeq (mIfS (mTest (tOp mIsNot (mFld (gA K "Counter") (mVar 0) "before") (tC .non))) (tAsg (tMeth (gA K "Counter") "close_levels" (zag_ K) [] E0 (mVar 0) (tCons (tMeth (gA K "Counter") "changed_level" (zaR_ K) [] E0 (mVar 0) (tCons (mVar 1) tNil)) tNil)) (gName 2)) tNext) (tSeq (tAsg (tCall (zgB_ K) [] E0 (tCons (mVar 1) tNil)) (gName 3)) (tSeq (tAsg (tCall (zgD_ K) [] E0 (tCons (mVar 1) (tCons (mFld (gA K "Counter") (mVar 0) "board") tNil))) (gName 4)) (tSeq (tDrop (tBM K "list" rAppend (mVar 2) (tCons (tJoin (tJ1 (tUn mFmt (mVar 3)) (tJ1 (tC (tx [32])) (tJ1 (tUn mFmt (mVar 4)) tJ0)))) tNil))) (tSeq (tDrop (tMeth (gA K "Counter") "raise_level" (zan_ K) [] E0 (mVar 0) (tCons (tCB (mLen K) (tCons (mFld (gA K "Counter") (mVar 0) "breaks") tNil)) (tCons (tComp ["field"] [("card",1)] (iAny K (mFld (gA K "Counter") (mVar 0) "sums")) (gName 0) tTrue (tCall (zes_ K) [] E0 (tCons (mVar 1) (tCons (mVar 0) tNil)))) tNil)))) (tSeq (mSFld (gA K "Counter") (mVar 0) (mVar 1) "before") (tRet (mVar 2)))))))))
def zeL_ (K:Fgg):TS:=(tSeq (mIfS (mTest (tOp mIs (mFld (gA K "Counter") (mVar 0) "before") (tC .non))) (tRet (tLst (tCons (tMeth (gA K "Counter") "close_level" (zam_ K) [] E0 (mVar 0) (tCons (tC (.int 0)) tNil)) tNil))) tNext) (tRet (tMeth (gA K "Counter") "close_levels" (zag_ K) [] E0 (mVar 0) (tCons (tC (.int 0)) tNil))))
def zez_ (K:Fgg):TS:=(tDrop (tBM K "list" rExtend (mFld (gA K "Printer") (mVar 0) "lines") (tCons (tMeth (gA K "Counter") "finish" (zaB_ K) [] E0 (mFld (gA K "Printer") (mVar 0) "counter") tNil) tNil)))
def zeu_ (K:Fgg):TS:=(tRet (tCB (mList K) (tCons (tOp (mIx K) (mFld (gA K "Printer") (mVar 0) "pockets") (tC (.int 0))) tNil)))
def zgH_ (K:Fgg):TS:=(tSeq (mIfS (mOr (tNot (mTest (tCB (mIsa K) (tCons (mVar 0) (tCons (tC (.ty "list")) tNil))))) (mTest (tOp (mNeK K) (tCB (mLen K) (tCons (mVar 0) tNil)) (tCB (mLen K) (tCons (mVar 1) tNil))))) (tRet (tC (.bl false))) tNext) (tSeq (tFor (iZip K (tCons (mVar 0) (tCons (mVar 1) tNil))) (gTupM K 2 (gConsM (gName 2) (gConsM (gName 3) gNilM))) (mIfS (mOr (tNot (mTest (tCB (mIsa K) (tCons (mVar 2) (tCons (tC (.ty "str")) tNil))))) (mTest (tOp (mNeK K) (mVar 2) (mVar 3)))) (tRet (tC (.bl false))) tNext)) (tRet (tC (.bl true)))))
def zmE_ (K:Fgg):TS:=(tSeq (tAsg (tLst tNil) (gName 1)) (tSeq (tFor (iAny K (mVar 0)) (gName 2) (tDrop (tBM K "list" rExtend (mVar 1) (tCons (mVar 2) tNil)))) (tRet (mVar 1))))
def zcT_ (K:Fgg):TS:=(tRet (tCall (zhO_ K) [] E0 (tCons (tSl (mSl K) (mFld (gA K "Printer") (mVar 0) "pockets") (mPart (tC (.int 1))) tNoPart) tNil)))
def zeP_ (K:Fgg):TS:=(tSeq (tDrop (tBM K "list" rAppend (tOp (mIx K) (mFld (gA K "Printer") (mVar 0) "pockets") (mVar 2)) (tCons (mVar 1) tNil))) (tDrop (tBM K "list" rAppend (mFld (gA K "Printer") (mVar 0) "log") (tCons (mVar 2) tNil))))
def zfU_ (K:Fgg):TS:=(tSeq (tDrop (tBM K "list" rExtend (mFld (gA K "Printer") (mVar 0) "lines") (tCons (tMeth (gA K "Counter") "feed" (za3_ K) [] E0 (mFld (gA K "Printer") (mVar 0) "counter") (tCons (mVar 1) tNil)) tNil))) (tDrop (tMeth (gA K "Printer") "lay_in" (zb2_ K) [] E0 (mVar 0) (tCons (mVar 1) (tCons (tC (.int 0)) tNil)))))
def zds_ (K:Fgg):TS:=(tRet (tCB (mList K) (tCons (mFld (gA K "Printer") (mVar 0) "lines") tNil)))
def zjI_ (K:Fgg):TS:=(tSeq (tAsg (tComp ["pocket"] [] (iAny K (mVar 0)) (gName 0) tTrue (tC (.int 0))) (gName 2)) (tSeq (tAsg (tLst tNil) (gName 3)) (tSeq (tFor (iAny K (mVar 1)) (gName 4) (tSeq (tDrop (tBM K "list" rAppend (mVar 3) (tCons (tOp (mIx K) (tOp (mIx K) (mVar 0) (mVar 4)) (tOp (mIx K) (mVar 2) (mVar 4))) tNil))) (tAsg (tOp mAdd (tOp (mIx K) (mVar 2) (mVar 4)) (tC (.int 1))) (gSub (mVar 2) (mVar 4) mSet)))) (tRet (mVar 3)))))
def zfC_ (K:Fgg):TS:=(tRet (tCall (zfo_ K) [] E0 (tCons (mFld (gA K "Printer") (mVar 0) "pockets") (tCons (mFld (gA K "Printer") (mVar 0) "log") tNil))))
def t_law (K:Fgg):TS:=(tSeq (tAsg (tCall (zfn_ K) [] E0 (tCons (tSl (mSl K) (mVar 0) (mPart (tC (.int 3))) (mPart (tC (.int 63)))) (tCons (tCall (zbk_ K) [] E0 (tCons (mVar 0) (tCons (tC (.int 0)) tNil))) tNil))) (gName 1)) (tSeq (tAsg (tCall (zbk_ K) [] E0 (tCons (mVar 0) (tCons (tC (.int 1)) tNil))) (gName 2)) (tSeq (tAsg (tCall (zbk_ K) [] E0 (tCons (mVar 0) (tCons (tC (.int 2)) tNil))) (gName 3)) (tSeq (tAsg (tCall (zcp_ K) [] E0 (tCons (mVar 2) (tCons (tOp mMod (mVar 2) (tC (.int 4))) tNil))) (gName 4)) (tSeq (tAsg (tCall (zcp_ K) [] E0 (tCons (tOp mAdd (tOp mDivG (mVar 2) (tC (.int 4))) (tC (.int 1))) (tCons (tOp mMod (tOp mDivG (mVar 2) (tC (.int 4))) (tC (.int 4))) tNil))) (gName 5)) (tSeq (tAsg (tOp mAdd (tC (.int 1)) (tOp mMod (tOp mDivG (mVar 3) (tC (.int 2))) (tC (.int 12)))) (gName 6)) (tSeq (tAsg (tCall (zeB_ K) [] E0 (tCons (mVar 3) tNil)) (gName 7)) (tSeq (tAsg (tLst (tCons (tCB (mList K) (tCons (mVar 4) tNil)) (tCons (tCB (mList K) (tCons (mVar 5) tNil)) (tCons (tCB (mList K) (tCons (mVar 7) tNil)) tNil)))) (gName 8)) (tSeq (tAsg (tCall (ze9_ K) [] E0 (tCons (tOp (mIx K) (tLst (tCons (tC (tx [99,108,97,115,115])) (tCons (tC (tx [103,111,105,110,103])) tNil))) (tOp mMod (mVar 3) (tC (.int 2)))) (tCons (mVar 8) (tCons (mVar 6) tNil)))) (gName 9)) (tSeq (mIfS (mOr (mTest (tOp (mNeK K) (mVar 8) (tLst (tCons (mVar 4) (tCons (mVar 5) (tCons (mVar 7) tNil)))))) (tNot (mTest (tCB (mIsaI K) (tCons (mVar 9) (tCons (tC (.ref (gA K "Machine"))) tNil)))))) (tRet (tC (.bl false))) tNext) (tSeq (tDrop (tCall (zdn_ K) [] E0 (tCons (mVar 8) tNil))) (tSeq (tAsg (tMake (gA K "Counter") (zaQ_ K) [] E0 (tCons (mVar 4) (tCons (mVar 5) (tCons (mVar 6) (tCons (mVar 7) tNil))))) (gName 10)) (tSeq (tAsg (tLst tNil) (gName 11)) (tSeq (tFor (iEnumL K (tCons (mVar 1) tNil)) (gTupM K 2 (gConsM (gName 12) (gConsM (gName 13) gNilM))) (tSeq (tAsg (tOp mAdd (mVar 11) (tMeth (gA K "Counter") "feed" (za3_ K) [] E0 (mVar 10) (tCons (mVar 13) tNil))) (gName 11)) (tSeq (mIfS (mOr (mTest (tOp mIsNot (tMeth (gA K "Printer") "feed" (zbI_ K) [] E0 (mVar 9) (tCons (mVar 13) tNil)) (tC .non))) (tNot (mTest (tCall (zX_ K) [] E0 (tCons (tMeth (gA K "Printer") "lines_out" (zF_ K) [] E0 (mVar 9) tNil) (tCons (mVar 11) tNil)))))) (tRet (tC (.bl false))) tNext) (tSeq (tDrop (tBM K "list" rAppend (tMeth (gA K "Printer") "lines_out" (zF_ K) [] E0 (mVar 9) tNil) (tCons (tC (tx [])) tNil))) (mIfS (tNot (mTest (tCall (zX_ K) [] E0 (tCons (tMeth (gA K "Printer") "back" (zbJ_ K) [] E0 (mVar 9) tNil) (tCons (tSl (mSl K) (mVar 1) tNoPart (mPart (tOp mAdd (mVar 12) (tC (.int 1))))) tNil))))) (tRet (tC (.bl false))) tNext))))) (tSeq (mIfS (mOr (tNot (mTest (tCall (zX_ K) [] E0 (tCons (tMeth (gA K "Printer") "lines_out" (zF_ K) [] E0 (mVar 9) tNil) (tCons (mVar 11) tNil))))) (tNot (mTest (tCall (zX_ K) [] E0 (tCons (tMeth (gA K "Printer") "back" (zbJ_ K) [] E0 (mVar 9) tNil) (tCons (mVar 1) tNil)))))) (tRet (tC (.bl false))) tNext) (tSeq (mIfS (mOr (mTest (tOp mIsNot (tMeth (gA K "Printer") "finish" (zbd_ K) [] E0 (mVar 9) tNil) (tC .non))) (tNot (mTest (tCall (zX_ K) [] E0 (tCons (tMeth (gA K "Printer") "lines_out" (zF_ K) [] E0 (mVar 9) tNil) (tCons (tOp mAdd (mVar 11) (tMeth (gA K "Counter") "finish" (zaB_ K) [] E0 (mVar 10) tNil)) tNil)))))) (tRet (tC (.bl false))) tNext) (tSeq (tDrop (tBM K "list" rAppend (tMeth (gA K "Printer") "stayed" (zbe_ K) [] E0 (mVar 9) tNil) (tCons (tC (tx [])) tNil))) (tRet (mAndV (tCall (zX_ K) [] E0 (tCons (tMeth (gA K "Printer") "stayed" (zbe_ K) [] E0 (mVar 9) tNil) (tCons (mVar 1) tNil))) (tOp (mEqK K) (tMeth (gA K "Printer") "laid_aside" (zbg_ K) [] E0 (mVar 9) tNil) (tLst tNil)))))))))))))))))))))
abbrev zi8_ (P:Program) (w:World) (K:Fgg) (mg:Str→Option Value) (base:Heap):Prop:=Gd P w K mg base CX0 1 "ten_to" ["power"] (zh7_ K)
abbrev zcC_ (P:Program) (w:World) (K:Fgg) (mg:Str→Option Value) (base:Heap):Prop:=Gk P w K mg base CX0 2 "Wheel" (gA K "Wheel") ["self", "figures"] (zb1_ K)
abbrev zaW_ (P:Program) (w:World) (K:Fgg) (mg:Str→Option Value) (base:Heap):Prop:=Gk P w K mg base CX0 4 "Counter" (gA K "Counter") ["self", "breaks", "sums", "figures", "board"] (zaQ_ K)
abbrev zfq_ (P:Program) (w:World) (K:Fgg) (mg:Str→Option Value) (base:Heap):Prop:=Gd P w K mg base CX0 1 "_law_known" [] (zeN_ K)
abbrev zgg_ (P:Program) (w:World) (K:Fgg) (mg:Str→Option Value) (base:Heap):Prop:=Gd P w K mg base CX0 1 "_law_card" ["_law_cell", "_law_menu", "_law_mark"] (zff_ K)
abbrev zgf_ (P:Program) (w:World) (K:Fgg) (mg:Str→Option Value) (base:Heap):Prop:=Gd P w K mg base CX0 2 "_law_deck" ["_law_cells", "_law_way"] (zfn_ K)
abbrev zdW_ (P:Program) (w:World) (K:Fgg) (mg:Str→Option Value) (base:Heap):Prop:=Gd P w K mg base CX0 1 "_law_cell_at" ["_law_script", "_law_k"] (zbk_ K)
abbrev zew_ (P:Program) (w:World) (K:Fgg) (mg:Str→Option Value) (base:Heap):Prop:=Gd P w K mg base CX0 1 "_law_fields" ["_law_cell", "_law_many"] (zcp_ K)
abbrev zfg_ (P:Program) (w:World) (K:Fgg) (mg:Str→Option Value) (base:Heap):Prop:=Gd P w K mg base CX0 1 "_law_board" ["_law_cell"] (zeB_ K)
abbrev zah_ (P:Program) (w:World) (K:Fgg) (mg:Str→Option Value) (base:Heap):Prop:=Gs P w K mg base CX0 1 "Machine" "__init__" ["self"] (zac_ K)
abbrev za7_ (P:Program) (w:World) (K:Fgg) (mg:Str→Option Value) (base:Heap):Prop:=Gm P w K mg base CX0 1 (gA K "Printer") "make_pockets" ["self", "many"] (zaV_ K)
abbrev zaZ_ (P:Program) (w:World) (K:Fgg) (mg:Str→Option Value) (base:Heap):Prop:=Gk P w K mg base CX0 6 "Printer" (gA K "Printer") ["self", "breaks", "sums", "figures", "board"] (zaO_ K)
abbrev zeH_ (P:Program) (w:World) (K:Fgg) (mg:Str→Option Value) (base:Heap):Prop:=Gd P w K mg base CX0 8 "machine_of" ["going", "trays"] (zdQ_ K)
abbrev zgd_ (P:Program) (w:World) (K:Fgg) (mg:Str→Option Value) (base:Heap):Prop:=Gd P w K mg base CX0 9 "_law_made" ["_law_word", "_law_lists", "_law_figures"] (ze9_ K)
abbrev zdX_ (P:Program) (w:World) (K:Fgg) (mg:Str→Option Value) (base:Heap):Prop:=Gd P w K mg base CX0 1 "_law_emptied" ["_law_lists"] (zdn_ K)
abbrev zeZ_ (P:Program) (w:World) (K:Fgg) (mg:Str→Option Value) (base:Heap):Prop:=Gm P w K mg base CX0 1 (gA K "Wheel") "rise" ["self", "value"] (zdO_ K)
abbrev zcq_ (P:Program) (w:World) (K:Fgg) (mg:Str→Option Value) (base:Heap):Prop:=Gm P w K mg base CX0 1 (gA K "Wheel") "ran_over" ["self"] (zb0_ K)
abbrev zax_ (P:Program) (w:World) (K:Fgg) (mg:Str→Option Value) (base:Heap):Prop:=Gm P w K mg base CX0 2 (gA K "Counter") "raise_level" ["self", "level", "numbers"] (zan_ K)
abbrev zdR_ (P:Program) (w:World) (K:Fgg) (mg:Str→Option Value) (base:Heap):Prop:=Gm P w K mg base CX0 1 (gA K "Wheel") "shown" ["self"] (zdd_ K)
abbrev zec_ (P:Program) (w:World) (K:Fgg) (mg:Str→Option Value) (base:Heap):Prop:=Gd P w K mg base CX0 1 "part_of" ["card", "field"] (zcd_ K)
abbrev zbs_ (P:Program) (w:World) (K:Fgg) (mg:Str→Option Value) (base:Heap):Prop:=Gm P w K mg base CX0 2 (gA K "Counter") "total_line" ["self", "level"] (zbf_ K)
abbrev zdU_ (P:Program) (w:World) (K:Fgg) (mg:Str→Option Value) (base:Heap):Prop:=Gm P w K mg base CX0 1 (gA K "Wheel") "reset" ["self"] (zdm_ K)
abbrev zc9_ (P:Program) (w:World) (K:Fgg) (mg:Str→Option Value) (base:Heap):Prop:=Gm P w K mg base CX0 1 (gA K "Wheel") "amount" ["self"] (zcP_ K)
abbrev zat_ (P:Program) (w:World) (K:Fgg) (mg:Str→Option Value) (base:Heap):Prop:=Gm P w K mg base CX0 3 (gA K "Counter") "close_level" ["self", "level"] (zam_ K)
abbrev zar_ (P:Program) (w:World) (K:Fgg) (mg:Str→Option Value) (base:Heap):Prop:=Gm P w K mg base CX0 4 (gA K "Counter") "close_levels" ["self", "outermost"] (zag_ K)
abbrev zh8_ (P:Program) (w:World) (K:Fgg) (mg:Str→Option Value) (base:Heap):Prop:=Gd P w K mg base CX0 1 "mark_of" ["card"] (zgB_ K)
abbrev zhS_ (P:Program) (w:World) (K:Fgg) (mg:Str→Option Value) (base:Heap):Prop:=Gd P w K mg base CX0 1 "sign_at" ["card", "column"] (zgI_ K)
abbrev zhE_ (P:Program) (w:World) (K:Fgg) (mg:Str→Option Value) (base:Heap):Prop:=Gd P w K mg base CX0 2 "lay_out" ["card", "board"] (zgD_ K)
abbrev zaU_ (P:Program) (w:World) (K:Fgg) (mg:Str→Option Value) (base:Heap):Prop:=Gm P w K mg base CX0 2 (gA K "Counter") "changed_level" ["self", "card"] (zaR_ K)
abbrev zfr_ (P:Program) (w:World) (K:Fgg) (mg:Str→Option Value) (base:Heap):Prop:=Gd P w K mg base CX0 1 "number_by" ["figures"] (zen_ K)
abbrev zfh_ (P:Program) (w:World) (K:Fgg) (mg:Str→Option Value) (base:Heap):Prop:=Gd P w K mg base CX0 2 "number_of" ["card", "field"] (zes_ K)
abbrev zbP_ (P:Program) (w:World) (K:Fgg) (mg:Str→Option Value) (base:Heap):Prop:=Gm P w K mg base CX0 5 (gA K "Counter") "feed" ["self", "card"] (za3_ K)
abbrev zbu_ (P:Program) (w:World) (K:Fgg) (mg:Str→Option Value) (base:Heap):Prop:=Gm P w K mg base CX0 5 (gA K "Counter") "finish" ["self"] (zaB_ K)
abbrev zcn_ (P:Program) (w:World) (K:Fgg) (mg:Str→Option Value) (base:Heap):Prop:=Gm P w K mg base CX0 6 (gA K "Printer") "finish" ["self"] (zbd_ K)
abbrev zce_ (P:Program) (w:World) (K:Fgg) (mg:Str→Option Value) (base:Heap):Prop:=Gm P w K mg base CX0 1 (gA K "Printer") "stayed" ["self"] (zbe_ K)
abbrev zd1_ (P:Program) (w:World) (K:Fgg) (mg:Str→Option Value) (base:Heap):Prop:=Gd P w K mg base CX0 1 "_law_deck_is" ["_law_found", "_law_due"] (zX_ K)
abbrev zjC_ (P:Program) (w:World) (K:Fgg) (mg:Str→Option Value) (base:Heap):Prop:=Gd P w K mg base CX0 1 "gather" ["some"] (zhO_ K)
abbrev zbA_ (P:Program) (w:World) (K:Fgg) (mg:Str→Option Value) (base:Heap):Prop:=Gm P w K mg base CX0 2 (gA K "Printer") "laid_aside" ["self"] (zbg_ K)
abbrev zcf_ (P:Program) (w:World) (K:Fgg) (mg:Str→Option Value) (base:Heap):Prop:=Gm P w K mg base CX0 1 (gA K "Printer") "lay_in" ["self", "card", "number"] (zb2_ K)
abbrev zdr_ (P:Program) (w:World) (K:Fgg) (mg:Str→Option Value) (base:Heap):Prop:=Gm P w K mg base CX0 6 (gA K "Printer") "feed" ["self", "card"] (zbI_ K)
abbrev zbC_ (P:Program) (w:World) (K:Fgg) (mg:Str→Option Value) (base:Heap):Prop:=Gm P w K mg base CX0 1 (gA K "Printer") "lines_out" ["self"] (zF_ K)
abbrev zgi_ (P:Program) (w:World) (K:Fgg) (mg:Str→Option Value) (base:Heap):Prop:=Gd P w K mg base CX0 1 "put_back" ["some", "numbers"] (zfo_ K)
abbrev zc3_ (P:Program) (w:World) (K:Fgg) (mg:Str→Option Value) (base:Heap):Prop:=Gm P w K mg base CX0 2 (gA K "Printer") "back" ["self"] (zbJ_ K)
end K59
namespace K59
open PySem PySem.Spec PyProof.Rows L2
open Mo renaming bind→Mb,ok→Mq
open Sl renaming fz→Zf,dead→Zd,ow→Zo
structure Ek (K:Fgg):Prop where
 w0:Fc K "Wheel"
 w1:Fc K "Counter"
 w2:Fc K "Printer"
 a0:Fa K "Wheel" "figures"
 a1:Fa K "Wheel" "power"
 a2:Fa K "Wheel" "kept"
 a3:Fa K "Wheel" "over"
 a4:Fa K "Counter" "breaks"
 a5:Fa K "Counter" "sums"
 a6:Fa K "Counter" "board"
 a7:Fa K "Counter" "levels"
 a8:Fa K "Counter" "before"
 a9:Fa K "Counter" "run_over"
 a10:Fa K "Printer" "pockets"
 a11:Fa K "Printer" "log"
 a12:Fa K "Printer" "counter"
 a13:Fa K "Printer" "lines"
 f0:Fg K "ten_to" zmM_
 f1:Fm K "Wheel" "__init__" "Wheel.__init__" zey_
 f2:Fm K "Counter" "__init__" "Counter.__init__" zdH_
 f3:Fg K "_law_known" ziA_
 f4:Fg K "_law_card" zjK_
 f5:Fg K "_law_deck" zjN_
 f6:Fg K "_law_cell_at" zgJ_
 f7:Fg K "_law_fields" zhk_
 f8:Fg K "_law_board" zid_
 f9:Fs K "Machine" "__init__" "Machine.__init__" zbi_
 f10:Fm K "Printer" "make_pockets" "Machine.make_pockets" zcA_
 f11:Fm K "Printer" "__init__" "Printer.__init__" zdE_
 f12:Fg K "machine_of" zgO_
 f13:Fg K "_law_made" ziZ_
 f14:Fg K "_law_emptied" zgx_
 f15:Fm K "Wheel" "rise" "Wheel.rise" zg9_
 f16:Fm K "Wheel" "ran_over" "Wheel.ran_over" zeG_
 f17:Fm K "Counter" "raise_level" "Counter.raise_level" zcM_
 f18:Fm K "Wheel" "shown" "Wheel.shown" zf6_
 f19:Fg K "part_of" zkt_
 f20:Fm K "Counter" "total_line" "Counter.total_line" zc0_
 f21:Fm K "Wheel" "reset" "Wheel.reset" zgM_
 f22:Fm K "Wheel" "amount" "Wheel.amount" zfS_
 f23:Fm K "Counter" "close_level" "Counter.close_level" zcJ_
 f24:Fm K "Counter" "close_levels" "Counter.close_levels" zcz_
 f25:Fg K "mark_of" zkC_
 f26:Fg K "sign_at" zln_
 f27:Fg K "lay_out" zkK_
 f28:Fm K "Counter" "changed_level" "Counter.changed_level" zb5_
 f29:Fg K "number_by" zib_
 f30:Fg K "number_of" zih_
 f31:Fm K "Counter" "feed" "Counter.feed" zfI_
 f32:Fm K "Counter" "finish" "Counter.finish" zep_
 f33:Fm K "Printer" "finish" "Printer.finish" zel_
 f34:Fm K "Printer" "stayed" "Machine.stayed" zeQ_
 f35:Fg K "_law_deck_is" zgb_
 f36:Fg K "gather" zm7_
 f37:Fm K "Printer" "laid_aside" "Machine.laid_aside" zcU_
 f38:Fm K "Printer" "lay_in" "Machine.lay_in" zeC_
 f39:Fm K "Printer" "feed" "Printer.feed" zfY_
 f40:Fm K "Printer" "lines_out" "Printer.lines_out" zdg_
 f41:Fg K "put_back" ziH_
 f42:Fm K "Printer" "back" "Machine.back" zfy_
 f43:Fg K "law" zpt_
 c0:Fv K "BODY_WIDTH" (.int 36)
 c1:Fv K "FIGURES" (tx [48,49,50,51,52,53,54,55,56,57])
 b0:Fb K "range"
 b1:Fb K "list"
 b2:Fb K "len"
 b3:Fb K "enumerate"
 b4:Fb K "str"
 b5:Fb K "sorted"
 b6:Fb K "isinstance"
 b7:Fb K "zip"
 k0:Fk K "Machine"
 u0:Fe2 K "Wheel" "Machine" fun v_Wheel v_Machine=>isiK K v_Wheel (.ref v_Machine)=some false
 u1:Fe2 K "Counter" "Machine" fun v_Counter v_Machine=>isiK K v_Counter (.ref v_Machine)=some false
 u2:Fe2 K "Printer" "Machine" fun v_Printer v_Machine=>isiK K v_Printer (.ref v_Machine)=some true
structure En (K:Fgg) (mg:Str→Option Value):Prop extends Ek K where
 m:Mgo K mg
section
variable {K:Fgg}{mg:Str→Option Value}
theorem En.fx (e:En K mg):Fx K:=⟨e.u0.g,e.u1.g,e.u2.g⟩
end
section
variable {P:Program}{w:World}{K:Fgg}{mg:Str→Option Value}{base:Heap}
theorem zku_ (e:En K mg):zi8_ P w K mg base :=
 zf2_ e.m e.f0 (okC (N:=["power", "value", "step"]) (C:=(csLast tyInt)) (O:=(owF tyInt)) (t:=fun E=>zmL_ K) (g:=fun c=>zgU_ c) 1 2 zu_ (fun _ _ _ _ _ _ E nd hr=>(zf_ (pst 1 zq_) (zf_ (zcI_ PassesOwn.never rfl (zcS_ (e.m.gb e.b0) (zc_ (za_ 0) zl_)) (pgn 2) (zm_ (pst 1 (zak_ zdh_ (za_ 1) zq_)))) (zm_ (zY_ (za_ 1)))))) fun c E=>at_ [(Zf tyInt c),Zd,Zd]
 (zd4_ (i:=1) rfl zb_ (zt_ 1) fun w1''=>(at_ [(Zf tyInt c),(Zf tyInt w1''),Zd] (zcD_ (LS:=(fun s_2:Int=>[(Zf tyInt c),(Zf tyInt s_2),Zd])) (zcH_ (L':=[(Zf tyInt c),(Zf tyInt w1''),Zd]) (.same (.same (.same .nil))) (zia_ (LS:=(fun s_2:Int=>[(Zf tyInt c),(Zf tyInt s_2),Zd])) (s0:=w1'') (zeF_ (zk_ (ze_ 0 rfl))) (zab_ 2) fun s_2 x_4=>at_ [(Zf tyInt c),(Zf tyInt s_2),(Zf tyInt x_4)] (zc2_ (zd4_ (i:=1) rfl zb_ (zL_ zco_ (ze_ 1 rfl) (zt_ 10)) fun u5'=>(at_ [(Zf tyInt c),(Zf tyInt u5'),(Zf tyInt x_4)] (zw_ (.same (.same (.dead .nil))))))))) fun s_2=>(at_ [(Zf tyInt c),(Zf tyInt s_2),Zd] (zb9_ (zi_ zb_) (EvF.ow (ze_ 1 rfl))))))))
theorem zd5_ (e:En K mg) (g0:zi8_ P w K mg base):zcC_ P w K mg base :=
 zqt_ e.m e.w0 e.f1 (okU (N:=["self", "figures"]) (O:=(owI (gA K "Wheel") [] psNil)) (O2:=(Qq5 K)) (C:=(csLast tyInt)) (t:=fun E=>zej_ K) (g:=fun x c=>zbx_ x c) (LS:=fun w_=>(fun x':Qq9=>[(Zo (owAt w_ (Qq5 K)) x'),Zd])) 1 0 zu_ (fun _ _ _ _ _ _ E nd hr=>(zf_ (zaF_ e.w0.cls e.a0.no (za_ 0) (za_ 1)) (zf_ (zaF_ e.w0.cls e.a1.no (za_ 0) (zC_ g0 (hm hr) (zc_ (za_ 1) zl_))) (zf_ (zaF_ e.w0.cls e.a2.no (za_ 0) zq_) (zm_ (zaF_ e.w0.cls e.a3.no (za_ 0) ziF_)))))) fun w_ x c E=>at_ [(Zo (owAt w_ (owI (gA K "Wheel") [] psNil)) x),(Zf tyInt c)]
 (zgc_ (P:=psNil) (P':=(psO (owF tyInt) psNil)) (ad:=fun c z=>(z,())) (ns:=[]) (i:=0) rfl (by decide +kernel) (by decide) zc6_ zb_ (ze_ 1 rfl) fun x_2=>(at_ [(Zo (owAt w_ (owI (gA K "Wheel") ["figures"] (psO (owF tyInt) psNil))) x_2),(Zf tyInt c)] (zgc_ (P:=(psO (owF tyInt) psNil)) (P':=(psO (owF tyInt) (psO (owF tyInt) psNil))) (ad:=fun c z=>(c.1,(z,()))) (ns:=["figures"]) (i:=0) rfl (by decide +kernel) (by decide) (zaY_ zc6_) zb_ (zH_ (zk_ (ze_ 1 rfl))) fun x_4=>(at_ [(Zo (owAt w_ (owI (gA K "Wheel") ["figures", "power"] (psO (owF tyInt) (psO (owF tyInt) psNil)))) x_4),(Zf tyInt c)] (zgc_ (P:=(psO (owF tyInt) (psO (owF tyInt) psNil))) (P':=(psO (owF tyInt) (psO (owF tyInt) (psO (owF tyInt) psNil)))) (ad:=fun c z=>(c.1,(c.2.1,(z,())))) (ns:=["figures", "power"]) (i:=0) rfl (by decide +kernel) (by decide) (zaY_ (zaY_ zc6_)) zb_ (zt_ 0) fun t6=>(at_ [(Zo (owAt w_ (owI (gA K "Wheel") ["figures", "power", "kept"] (psO (owF tyInt) (psO (owF tyInt) (psO (owF tyInt) psNil))))) t6),(Zf tyInt c)] (zc2_ (zgc_ (P:=(psO (owF tyInt) (psO (owF tyInt) (psO (owF tyInt) psNil)))) (P':=(psO (owF tyInt) (psO (owF tyInt) (psO (owF tyInt) (psO (owF tyBl) psNil))))) (ad:=fun c z=>(c.1,(c.2.1,(c.2.2.1,(z,()))))) (ns:=["figures", "power", "kept"]) (i:=0) rfl (by decide +kernel) (by decide) (zaY_ (zaY_ (zaY_ zc6_))) zD_ (zh5_ false) fun x8=>(at_ [(Zo (owAt w_ (Qq5 K)) x8),(Zf tyInt c)] (zw_ (.same (.dead .nil)))))))))))))
theorem zda_ (e:En K mg) (g1:zcC_ P w K mg base):zaW_ P w K mg base :=
 zqt_ e.m e.w1 e.f2 (okU (N:=["self", "breaks", "sums", "figures", "board"]) (O:=(owI (gA K "Counter") [] psNil)) (O2:=(Qq0 K)) (C:=(csCons (tyL Qq2) (csCons (tyL Qq2) (csCons tyInt (csLast (tyL Qq2)))))) (t:=fun E=>zdJ_ K) (g:=fun x c=>za1_ x c.1 c.2.1 c.2.2.1 c.2.2.2) (LS:=fun w_=>(fun x':Qq1=>[(Zo (owAt w_ (Qq0 K)) x'),Zd,Zd,Zd,Zd])) 4 0 (zQ_ (zQ_ (zQ_ zu_))) (fun _ _ _ _ _ _ E nd hr=>(zf_ (zaF_ e.w1.cls e.a4.no (za_ 0) (zkq_ "list" (za9_ rfl) (e.m.gb e.b1) (zc_ (za_ 1) zl_))) (zf_ (zaF_ e.w1.cls e.a5.no (za_ 0) (zkq_ "list" (za9_ rfl) (e.m.gb e.b1) (zc_ (za_ 2) zl_))) (zf_ (zaF_ e.w1.cls e.a6.no (za_ 0) (zkq_ "list" (za9_ rfl) (e.m.gb e.b1) (zc_ (za_ 4) zl_))) (zf_ (zaF_ e.w1.cls e.a7.no (za_ 0) (zdK_ (cl:=_) (lv:=["level"]) (fr:=[("figures",3),("sums",2)]) rfl (csm rfl (frc (frc fr0))) (zcS_ (e.m.gb e.b0) (zc_ (zak_ z0_ (zix_ zbl_ (e.m.gb e.b2) (zc_ (za_ 1) zl_)) zq_) zl_)) (fun _ _ _ _=>(pgc 0)) (fun _ _ _ _=>zcu_) (fun _ _ _ _=>(zdK_ (cl:=_) (lv:=["field"]) (fr:=[("figures",1)]) rfl (csm rfl (frc fr0)) (zdv_ (za_ 2)) (fun _ _ _ _=>(pgc 0)) (fun _ _ _ _=>zcu_) (fun _ _ _ _=>(ze2_ g1 (hm hr) (zc_ (za_ 1) zl_))))))) (zf_ (zaF_ e.w1.cls e.a8.no (za_ 0) zjL_) (zm_ (zaF_ e.w1.cls e.a9.no (za_ 0) zgY_)))))))) fun w_ x c E=>at_ [(Zo (owAt w_ (owI (gA K "Counter") [] psNil)) x),(Zf (tyL Qq2) c.1),(Zf (tyL Qq2) c.2.1),(Zf tyInt c.2.2.1),(Zf (tyL Qq2) c.2.2.2)]
 (zdl_ (P:=psNil) (P':=(psO (owL Qq2) psNil)) (ad:=fun c z=>(z,())) (ns:=[]) (O1:=(owL Qq2)) (i:=0) rfl (by decide +kernel) (by decide) zc6_ (zn_ (zo_ (zh_ zb_ (zg_ zb_)))) (zfL_ zdZ_ (zk_ (ze_ 1 rfl))) fun x_2=>(at_ [(Zo (owAt w_ (owI (gA K "Counter") ["breaks"] (psO (owL Qq2) psNil))) x_2),(Zf (tyL Qq2) c.1),(Zf (tyL Qq2) c.2.1),(Zf tyInt c.2.2.1),(Zf (tyL Qq2) c.2.2.2)] (zdl_ (P:=(psO (owL Qq2) psNil)) (P':=(psO (owL Qq2) (psO (owL Qq2) psNil))) (ad:=fun c z=>(c.1,(z,()))) (ns:=["breaks"]) (O1:=(owL Qq2)) (i:=0) rfl (by decide +kernel) (by decide) (zaY_ zc6_) (zn_ (zo_ (zh_ zb_ (zg_ zb_)))) (zfL_ zdZ_ (zk_ (ze_ 2 rfl))) fun x_4=>(at_ [(Zo (owAt w_ (owI (gA K "Counter") ["breaks", "sums"] (psO (owL Qq2) (psO (owL Qq2) psNil)))) x_4),(Zf (tyL Qq2) c.1),(Zf (tyL Qq2) c.2.1),(Zf tyInt c.2.2.1),(Zf (tyL Qq2) c.2.2.2)] (zdl_ (P:=(psO (owL Qq2) (psO (owL Qq2) psNil))) (P':=(psO (owL Qq2) (psO (owL Qq2) (psO (owL Qq2) psNil)))) (ad:=fun c z=>(c.1,(c.2.1,(z,())))) (ns:=["breaks", "sums"]) (O1:=(owL Qq2)) (i:=0) rfl (by decide +kernel) (by decide) (zaY_ (zaY_ zc6_)) (zn_ (zo_ (zh_ zb_ (zg_ zb_)))) (zfL_ zdZ_ (zk_ (ze_ 4 rfl))) fun t6=>(at_ [(Zo (owAt w_ (owI (gA K "Counter") ["breaks", "sums", "board"] (psO (owL Qq2) (psO (owL Qq2) (psO (owL Qq2) psNil))))) t6),(Zf (tyL Qq2) c.1),(Zf (tyL Qq2) c.2.1),(Zf tyInt c.2.2.1),(Zf (tyL Qq2) c.2.2.2)] (zdl_ (P:=(psO (owL Qq2) (psO (owL Qq2) (psO (owL Qq2) psNil)))) (P':=(psO (owL Qq2) (psO (owL Qq2) (psO (owL Qq2) (psO (owLO (owLO (Qq5 K))) psNil))))) (ad:=fun c z=>(c.1,(c.2.1,(c.2.2.1,(z,()))))) (ns:=["breaks", "sums", "board"]) (O1:=(owLO (owLO (Qq5 K)))) (i:=0) rfl (by decide +kernel) (by decide) (zaY_ (zaY_ (zaY_ zc6_))) (zs_ (zs_ (zN_ (zd_ (zi_ zb_) (zd_ (zi_ zb_) (zd_ (zi_ zb_) (zd_ (zi_ zD_) zp_))))))) (zfH_ (zeF_ (zk_ (zL_ zai_ (zjz_ zeJ_ (zk_ (ze_ 1 rfl))) (zt_ 1)))) (zab_ 0) (fun _=>dead1) (fun x17=>zcr_) (fun x17=>(zfH_ (ei_l (ze_ 2 rfl)) (zab_ 0) (fun _=>dead1) (fun x18=>zcr_) (fun x18=>(zgo_ (zk_ (ze_ 1 rfl))))))) fun x8=>(at_ [(Zo (owAt w_ (owI (gA K "Counter") ["breaks", "sums", "board", "levels"] (psO (owL Qq2) (psO (owL Qq2) (psO (owL Qq2) (psO (owLO (owLO (Qq5 K))) psNil)))))) x8),(Zf (tyL Qq2) c.1),(Zf (tyL Qq2) c.2.1),(Zf tyInt c.2.2.1),(Zf (tyL Qq2) c.2.2.2)] (zgc_ (P:=(psO (owL Qq2) (psO (owL Qq2) (psO (owL Qq2) (psO (owLO (owLO (Qq5 K))) psNil))))) (P':=(psO (owL Qq2) (psO (owL Qq2) (psO (owL Qq2) (psO (owLO (owLO (Qq5 K))) (psO (owF (tyOpt tyStr)) psNil)))))) (ad:=fun c z=>(c.1,(c.2.1,(c.2.2.1,(c.2.2.2.1,(z,())))))) (ns:=["breaks", "sums", "board", "levels"]) (i:=0) rfl (by decide +kernel) (by decide) (zaY_ (zaY_ (zaY_ (zaY_ zc6_)))) (zay_ zj_) znF_ fun x10=>(at_ [(Zo (owAt w_ (owI (gA K "Counter") ["breaks", "sums", "board", "levels", "before"] (psO (owL Qq2) (psO (owL Qq2) (psO (owL Qq2) (psO (owLO (owLO (Qq5 K))) (psO (owF (tyOpt tyStr)) psNil))))))) x10),(Zf (tyL Qq2) c.1),(Zf (tyL Qq2) c.2.1),(Zf tyInt c.2.2.1),(Zf (tyL Qq2) c.2.2.2)] (zc2_ (zdl_ (P:=(psO (owL Qq2) (psO (owL Qq2) (psO (owL Qq2) (psO (owLO (owLO (Qq5 K))) (psO (owF (tyOpt tyStr)) psNil)))))) (P':=(Qq10 K)) (ad:=fun c z=>(c.1,(c.2.1,(c.2.2.1,(c.2.2.2.1,(c.2.2.2.2.1,(z,()))))))) (ns:=["breaks", "sums", "board", "levels", "before"]) (O1:=(owD kInt tyBl)) (i:=0) rfl (by decide +kernel) (by decide) (zaY_ (zaY_ (zaY_ (zaY_ (zaY_ zc6_))))) (zbF_ zD_) (zi9_ kInt tyBl) fun x12=>(at_ [(Zo (owAt w_ (Qq0 K)) x12),(Zf (tyL Qq2) c.1),(Zf (tyL Qq2) c.2.1),(Zf tyInt c.2.2.1),(Zf (tyL Qq2) c.2.2.2)] (zw_ (.same (.dead (.dead (.dead (.dead .nil))))))))))))))))))))
theorem zhi_ (e:En K mg):zfq_ P w K mg base :=
 zf2_ e.m e.f3 (okC (N:=[]) (C:=csNil) (b:=fun _ _ F=>Fun.binds0 F fun _ _ _ _ _ _=>rfl) (O:=(owF tyStr)) (t:=fun E=>zin_ K) (g:=fun c=>zfl_) 0 0 zfb_ (fun _ _ _ _ _ _ E nd hr=>(zm_ (zY_ (zba_ (l:=SG))))) fun c E=>at_ []
 (zb9_ (zi_ zj_) (EvF.ow (zaX_ SG))))
theorem zil_ (e:En K mg):zgg_ P w K mg base :=
 zf2_ e.m e.f4 (okC (N:=["_law_cell", "_law_menu", "_law_mark", "_law_card_here", "_law_number", "_law_k"]) (C:=(csCons tyInt (csCons tyStr (csLast tyStr)))) (O:=(owF tyStr)) (t:=fun E=>ziY_ K) (g:=fun c=>zeI_ c.1 c.2.1 c.2.2) 3 3 (zQ_ (zQ_ zu_)) (fun _ _ _ _ _ _ E nd hr=>(zf_ (pst 3 (zba_ (l:=[]))) (zf_ (pst 4 (zak_ z0_ (zak_ zaI_ (za_ 0) zq_) zq_)) (zf_ (zcI_ PassesOwn.never rfl (zcS_ (e.m.gb e.b0) (zc_ zq_ zl_)) (pgn 5) (zf_ (pst 4 (zak_ zaI_ (zak_ z0_ (zak_ z0_ (zak_ zdh_ (za_ 4) (za_ 4)) (zak_ zdh_ zq_ (za_ 5))) zq_) zq_)) (zm_ (pst 3 (zak_ z0_ (za_ 3) (zd3_ ix_M (za_ 1) (zak_ zaI_ (zak_ zdp_ (za_ 4) zq_) (zix_ zbl_ (e.m.gb e.b2) (zc_ (za_ 1) zl_))) (fun _ _=>rfl))))))) (zm_ (zY_ (zak_ z0_ (za_ 3) (za_ 2)))))))) fun c E=>at_ [(Zf tyInt c.1),(Zf tyStr c.2.1),(Zf tyStr c.2.2),Zd,Zd,Zd]
 (zd4_ (i:=3) rfl zj_ (zaX_ []) fun u1'=>(at_ [(Zf tyInt c.1),(Zf tyStr c.2.1),(Zf tyStr c.2.2),(Zf tyStr u1'),Zd,Zd] (zd4_ (i:=4) rfl zb_ (zL_ zai_ (zL_ zaL_ (ze_ 0 rfl) (zt_ 2147483647)) (zt_ 3)) fun u2'=>(at_ [(Zf tyInt c.1),(Zf tyStr c.2.1),(Zf tyStr c.2.2),(Zf tyStr u1'),(Zf tyInt u2'),Zd] (zcD_ (LS:=(fun s_7:(Int×(List Nat))=>[(Zf tyInt c.1),(Zf tyStr c.2.1),(Zf tyStr c.2.2),(Zf tyStr s_7.2),(Zf tyInt s_7.1),Zd])) (zcH_ (L':=[(Zf tyInt c.1),(Zf tyStr c.2.1),(Zf tyStr c.2.2),(Zf tyStr u1'),(Zf tyInt u2'),Zd]) (S4 (.same (.same .nil))) (zia_ (LS:=(fun s_7:(Int×(List Nat))=>[(Zf tyInt c.1),(Zf tyStr c.2.1),(Zf tyStr c.2.2),(Zf tyStr s_7.2),(Zf tyInt s_7.1),Zd])) (s0:=(u2',u1')) (zeF_ (zk_ (zt_ 36))) (zab_ 5) fun s_7 x9=>at_ [(Zf tyInt c.1),(Zf tyStr c.2.1),(Zf tyStr c.2.2),(Zf tyStr s_7.2),(Zf tyInt s_7.1),(Zf tyInt x9)] (zd4_ (i:=4) rfl zb_ (zL_ zaL_ (zL_ zai_ (zL_ zai_ (zL_ zco_ (ze_ 4 rfl) (ze_ 4 rfl)) (zL_ zco_ (zt_ 17) (ze_ 5 rfl))) (zt_ 5)) (zt_ 2147483629)) fun n10=>(at_ [(Zf tyInt c.1),(Zf tyStr c.2.1),(Zf tyStr c.2.2),(Zf tyStr s_7.2),(Zf tyInt n10),(Zf tyInt x9)] (zc2_ (zd4_ (i:=3) rfl zj_ (zL_ zlJ_ (ze_ 3 rfl) (zL_ zn0_ (ze_ 1 rfl) (zL_ zaL_ (zL_ zbN_ (ze_ 4 rfl) (zt_ 3)) (zjz_ zoa_ (zk_ (ze_ 1 rfl)))))) fun w21=>(at_ [(Zf tyInt c.1),(Zf tyStr c.2.1),(Zf tyStr c.2.2),(Zf tyStr w21),(Zf tyInt n10),(Zf tyInt x9)] (zw_ (S4 (.same (.dead .nil))))))))))) fun s_7=>(at_ [(Zf tyInt c.1),(Zf tyStr c.2.1),(Zf tyStr c.2.2),(Zf tyStr s_7.2),(Zf tyInt s_7.1),Zd] (zb9_ (zi_ zj_) (EvF.ow (zL_ zlJ_ (ze_ 3 rfl) (ze_ 2 rfl)))))))))))
theorem ziy_ (e:En K mg) (g3:zfq_ P w K mg base) (g4:zgg_ P w K mg base):zgf_ P w K mg base :=
 zf2_ e.m e.f5 (okC (N:=["_law_cells", "_law_way", "_law_menu", "_law_deck_here", "_law_k", "_law_cell", "_law_mark"]) (C:=(csCons (tyL tyInt) (csLast tyInt))) (O:=(owL tyStr)) (t:=fun E=>ziS_ K) (g:=fun c=>zeD_ c.1 c.2) 2 5 (zQ_ zu_) (fun _ _ _ _ _ _ E nd hr=>(zf_ (pst 2 (zd3_ ix_M (zb4_ (zc_ (zba_ (l:=[65,32])) (zc_ (zba_ (l:=[48,90,57])) (zc_ (zba_ (l:=[66,53,65,32,48])) (zc_ (zk3_ g3 (hm hr)) zl_))))) (zak_ zaI_ (za_ 1) zq_) (fun _ _=>rfl))) (zf_ (pst 3 (zb4_ zl_)) (zf_ (zcI_ PassesOwn.never rfl (zfN_ (by rfl) (e.m.gb e.b3) (zc_ (za_ 0) zl_)) (zga_ (n:=2) rfl (zas_ (pgn 4) (zas_ (pgn 5) zdI_))) (zf_ (pst 6 (znl_ zeM_ zev_ zju_ (zkq_ "str" zh4_ (e.m.gb e.b4) (zc_ (za_ 4) zl_)) (zc_ zq_ zl_))) (zf_ (zbG_ (zaJ_ (zgp_ hr.u60) (zak_ zaI_ (zak_ zdp_ (za_ 1) zq_) zq_) zq_) (zm_ (pst 6 (zba_ (l:=[77,65,82,75])))) zaz_) (zm_ (zao_ (zg6_ zbv_ zR_ zP_ za6_ (za_ 3) (zc_ (zC_ g4 (hm hr) (zc_ (za_ 5) (zc_ (za_ 2) (zc_ (za_ 6) zl_)))) zl_))))))) (zm_ (zY_ (za_ 3))))))) fun c E=>at_ [(Zf (tyL tyInt) c.1),(Zf tyInt c.2),Zd,Zd,Zd,Zd,Zd]
 (zd4_ (i:=2) rfl zj_ (zL_ zfD_ (EvO.fr (O:=(owL tyStr)) (zlg_ (zZ_ (zZ_ (zZ_ zav_))) (zdy_ (zdy_ (zdy_ zfP_))) (zr_ (zaX_ [65,32]) (zr_ (zaX_ [48,90,57]) (zr_ (zaX_ [66,53,65,32,48]) (zk_ (zH_ zlh_))))))) (zL_ zaL_ (ze_ 1 rfl) (zt_ 4))) fun s1'=>(at_ [(Zf (tyL tyInt) c.1),(Zf tyInt c.2),(Zf tyStr s1'),Zd,Zd,Zd,Zd] (zbX_ (i:=3) rfl (zn_ zj_) (zcy_ tyStr) fun d14=>(at_ [(Zf (tyL tyInt) c.1),(Zf tyInt c.2),(Zf tyStr s1'),(Zo (owL tyStr) d14),Zd,Zd,Zd] (zcD_ (LS:=(fun s15:(List (List Nat))=>[(Zf (tyL tyInt) c.1),(Zf tyInt c.2),(Zf tyStr s1'),(Zo (owL tyStr) s15),Zd,Zd,Zd])) (zcH_ (L':=[(Zf (tyL tyInt) c.1),(Zf tyInt c.2),(Zf tyStr s1'),(Zo (owL tyStr) d14),Zd,Zd,Zd]) (S4 (.same (.same (.same .nil)))) (zia_ (LS:=(fun s15:(List (List Nat))=>[(Zf (tyL tyInt) c.1),(Zf tyInt c.2),(Zf tyStr s1'),(Zo (owL tyStr) s15),Zd,Zd,Zd])) (s0:=d14) (zfT_ (zk_ (ze_ 0 rfl))) (zjt_ (zZ_ zav_) (zgA_ 4 (zf9_ (zab_ 5)))) fun s15 x17=>at_ [(Zf (tyL tyInt) c.1),(Zf tyInt c.2),(Zf tyStr s1'),(Zo (owL tyStr) s15),(Zf tyInt x17.1),(Zf tyInt x17.2),Zd] (zd4_ (i:=6) rfl zj_ (znj_ zkj_ (zjz_ zoY_ (zk_ (ze_ 4 rfl))) (zk_ (zt_ 4))) fun m18=>(at_ [(Zf (tyL tyInt) c.1),(Zf tyInt c.2),(Zf tyStr s1'),(Zo (owL tyStr) s15),(Zf tyInt x17.1),(Zf tyInt x17.2),(Zf tyStr m18)] (zcD_ (LS:=(fun s29:(List Nat)=>[(Zf (tyL tyInt) c.1),(Zf tyInt c.2),(Zf tyStr s1'),(Zo (owL tyStr) s15),(Zf tyInt x17.1),(Zf tyInt x17.2),(Zf tyStr s29)])) (s_if (zaT_ (zL_ zpe_ (zL_ zaL_ (zL_ zbN_ (ze_ 1 rfl) (zt_ 4)) (zt_ 4)) (zt_ 1))) (zc2_ (zd4_ (i:=6) rfl zj_ (zaX_ [77,65,82,75]) fun m30=>(at_ [(Zf (tyL tyInt) c.1),(Zf tyInt c.2),(Zf tyStr s1'),(Zo (owL tyStr) s15),(Zf tyInt x17.1),(Zf tyInt x17.2),(Zf tyStr m30)] (zw_ (S4 (.same (.same (.same .nil)))))))) (zw_ (S4 (.same (.same (.same .nil)))))) fun s29=>(at_ [(Zf (tyL tyInt) c.1),(Zf tyInt c.2),(Zf tyStr s1'),(Zo (owL tyStr) s15),(Zf tyInt x17.1),(Zf tyInt x17.2),(Zf tyStr s29)] (zc2_ (zfx_ (i:=3) rfl zj_ (zH_ (zr_ (ze_ 5 rfl) (zr_ (ze_ 2 rfl) (zk_ (ze_ 6 rfl))))) fun a36=>(at_ [(Zf (tyL tyInt) c.1),(Zf tyInt c.2),(Zf tyStr s1'),(Zo (owL tyStr) (s15++[a36])),(Zf tyInt x17.1),(Zf tyInt x17.2),(Zf tyStr s29)] (zw_ (S4 (.dead (.dead (.dead .nil)))))))))))))) fun s15=>(at_ [(Zf (tyL tyInt) c.1),(Zf tyInt c.2),(Zf tyStr s1'),(Zo (owL tyStr) s15),Zd,Zd,Zd] (zlk_ (i:=3) rfl))))))))
theorem zfE_ (e:En K mg):zdW_ P w K mg base :=
 zf2_ e.m e.f6 (okC (N:=["_law_script", "_law_k"]) (C:=(csCons (tySc K) (csLast tyInt))) (O:=(owF tyInt)) (t:=fun E=>zgz_ K) (g:=fun c=>zcl_ c.1 c.2) 2 0 (zQ_ zu_) (fun _ _ _ _ _ _ E nd hr=>(zf_ (zbG_ (zaJ_ zpA_ (za_ 1) (zix_ zbl_ (e.m.gb e.b2) (zc_ (za_ 0) zl_))) (zm_ (zY_ (zd3_ ix_M (za_ 0) (za_ 1) (fun _ _=>rfl)))) zaz_) (zm_ (zY_ zq_)))) fun c E=>at_ [(Zf (tySc K) c.1),(Zf tyInt c.2)]
 (zcD_ (LS:=(fun _:Unit=>[(Zf (tySc K) c.1),(Zf tyInt c.2)])) (s_if (zaT_ (zL_ zp0_ (ze_ 1 rfl) (zjz_ zmp_ (zk_ (ze_ 0 rfl))))) (zb9_ (zi_ zb_) (EvF.ow (zL_ zns_ (ze_ 0 rfl) (ze_ 1 rfl)))) (zw_ (.same (.same .nil)))) fun _=>(at_ [(Zf (tySc K) c.1),(Zf tyInt c.2)] (zb9_ (zi_ zb_) (EvF.ow (zt_ 0))))))
theorem zgE_ (e:En K mg):zew_ P w K mg base :=
 zf2_ e.m e.f7 (okC (N:=["_law_cell", "_law_many", "_law_fields_here", "_law_number", "_law_k", "_law_width", "_law_first"]) (C:=(csCons tyInt (csLast tyInt))) (O:=(owL Qq2)) (t:=fun E=>zgP_ K) (g:=fun c=>zcX_ c.1 c.2) 2 5 (zQ_ zu_) (fun _ _ _ _ _ _ E nd hr=>(zf_ (pst 2 (zb4_ zl_)) (zf_ (pst 3 (zak_ z0_ (zak_ zaI_ (za_ 0) zq_) zq_)) (zf_ (zcI_ PassesOwn.never rfl (zcS_ (e.m.gb e.b0) (zc_ (za_ 1) zl_)) (pgn 4) (zf_ (pst 3 (zak_ zaI_ (zak_ z0_ (zak_ z0_ (zak_ zdh_ (za_ 3) (za_ 3)) (zak_ zdh_ zq_ (za_ 4))) zq_) zq_)) (zf_ (pst 5 (zak_ z0_ zq_ (zak_ zaI_ (zak_ zdp_ (za_ 3) zq_) zq_))) (zf_ (pst 6 (zak_ z0_ zq_ (zak_ zaI_ (zak_ zdp_ (za_ 3) zq_) (zak_ zd0_ zq_ (za_ 5))))) (zm_ (zao_ (zg6_ zbv_ zR_ zP_ za6_ (za_ 2) (zc_ (zmY_ (zc_ (za_ 6) (zc_ (zak_ zd0_ (zak_ z0_ (za_ 6) (za_ 5)) zq_) zl_))) zl_)))))))) (zm_ (zY_ (za_ 2))))))) fun c E=>at_ [(Zf tyInt c.1),(Zf tyInt c.2),Zd,Zd,Zd,Zd,Zd]
 (zbX_ (i:=2) rfl (zn_ (zo_ (zh_ zb_ (zg_ zb_)))) (zcy_ Qq2) fun y1'=>(at_ [(Zf tyInt c.1),(Zf tyInt c.2),(Zo (owL Qq2) y1'),Zd,Zd,Zd,Zd] (zd4_ (i:=3) rfl zb_ (zL_ zai_ (zL_ zaL_ (ze_ 0 rfl) (zt_ 2147483647)) (zt_ 7)) fun u2'=>(at_ [(Zf tyInt c.1),(Zf tyInt c.2),(Zo (owL Qq2) y1'),(Zf tyInt u2'),Zd,Zd,Zd] (zcD_ (LS:=(fun s_7:(Int×(List (Int×Int)))=>[(Zf tyInt c.1),(Zf tyInt c.2),(Zo (owL Qq2) s_7.2),(Zf tyInt s_7.1),Zd,Zd,Zd])) (zcH_ (L':=[(Zf tyInt c.1),(Zf tyInt c.2),(Zo (owL Qq2) y1'),(Zf tyInt u2'),Zd,Zd,Zd]) (S4 (.same (.same (.same .nil)))) (zia_ (LS:=(fun s_7:(Int×(List (Int×Int)))=>[(Zf tyInt c.1),(Zf tyInt c.2),(Zo (owL Qq2) s_7.2),(Zf tyInt s_7.1),Zd,Zd,Zd])) (s0:=(u2',y1')) (zeF_ (zk_ (ze_ 1 rfl))) (zab_ 4) fun s_7 x9=>at_ [(Zf tyInt c.1),(Zf tyInt c.2),(Zo (owL Qq2) s_7.2),(Zf tyInt s_7.1),(Zf tyInt x9),Zd,Zd] (zd4_ (i:=3) rfl zb_ (zL_ zaL_ (zL_ zai_ (zL_ zai_ (zL_ zco_ (ze_ 3 rfl) (ze_ 3 rfl)) (zL_ zco_ (zt_ 31) (ze_ 4 rfl))) (zt_ 5)) (zt_ 2147483629)) fun n10=>(at_ [(Zf tyInt c.1),(Zf tyInt c.2),(Zo (owL Qq2) s_7.2),(Zf tyInt n10),(Zf tyInt x9),Zd,Zd] (zd4_ (i:=5) rfl zb_ (zL_ zai_ (zt_ 1) (zL_ zaL_ (zL_ zbN_ (ze_ 3 rfl) (zt_ 3)) (zt_ 4))) fun y21=>(at_ [(Zf tyInt c.1),(Zf tyInt c.2),(Zo (owL Qq2) s_7.2),(Zf tyInt n10),(Zf tyInt x9),(Zf tyInt y21),Zd] (zd4_ (i:=6) rfl zb_ (zL_ zai_ (zt_ 1) (zL_ zaL_ (zL_ zbN_ (ze_ 3 rfl) (zt_ 12)) (zL_ zdV_ (zt_ 37) (ze_ 5 rfl)))) fun v28=>(at_ [(Zf tyInt c.1),(Zf tyInt c.2),(Zo (owL Qq2) s_7.2),(Zf tyInt n10),(Zf tyInt x9),(Zf tyInt y21),(Zf tyInt v28)] (zc2_ (zfx_ (i:=2) rfl (zo_ (zh_ zb_ (zg_ zb_))) (zmy_ (zZ_ zav_) (zr_ (ze_ 6 rfl) (zk_ (zL_ zdV_ (zL_ zai_ (ze_ 6 rfl) (ze_ 5 rfl)) (zt_ 1))))) fun a43=>(at_ [(Zf tyInt c.1),(Zf tyInt c.2),(Zo (owL Qq2) (s_7.2++[a43])),(Zf tyInt n10),(Zf tyInt x9),(Zf tyInt y21),(Zf tyInt v28)] (zw_ (S4 (.dead (.dead (.dead .nil)))))))))))))))) fun s_7=>(at_ [(Zf tyInt c.1),(Zf tyInt c.2),(Zo (owL Qq2) s_7.2),(Zf tyInt s_7.1),Zd,Zd,Zd] (zlk_ (i:=2) rfl))))))))
theorem zgQ_ (e:En K mg):zfg_ P w K mg base :=
 zf2_ e.m e.f8 (okC (N:=["_law_cell", "_law_wires", "_law_number", "_law_k"]) (C:=(csLast tyInt)) (O:=(owL Qq2)) (t:=fun E=>zij_ K) (g:=fun c=>zdF_ c) 1 3 zu_ (fun _ _ _ _ _ _ E nd hr=>(zf_ (pst 1 zgY_) (zf_ (pst 2 (zak_ z0_ (zak_ zaI_ (za_ 0) zq_) zq_)) (zf_ (zcI_ PassesOwn.never rfl (zcS_ (e.m.gb e.b0) (zc_ (zak_ zaI_ (za_ 0) zq_) zl_)) (pgn 3) (zf_ (pst 2 (zak_ zaI_ (zak_ z0_ (zak_ z0_ (zak_ zdh_ (za_ 2) (za_ 2)) (zak_ zdh_ zq_ (za_ 3))) zq_) zq_)) (zm_ (zj2_ hr.u60 (za_ 1) (zak_ z0_ zq_ (zak_ zaI_ (zak_ zdp_ (za_ 2) zq_) zq_)) (zak_ z0_ zq_ (zak_ zaI_ (zak_ zdp_ (za_ 2) zq_) zq_)))))) (zm_ (zY_ (zdK_ (cl:=_) (lv:=["_law_there"]) (fr:=[("_law_wires",1)]) rfl (csm rfl (frc fr0)) (zdv_ (zix_ (zgt_ runB64 rfl) (e.m.gb e.b5) (zc_ (za_ 1) zl_))) (fun _ _ _ _=>(pgc 0)) (fun _ _ _ _=>zcu_) (fun _ _ _ _=>(zmY_ (zc_ (zmt_ hr.u60 (za_ 1) (za_ 0)) (zc_ (za_ 0) zl_))))))))))) fun c E=>at_ [(Zf tyInt c),Zd,Zd,Zd]
 (zbX_ (i:=1) rfl (zbF_ zb_) (zi9_ kInt tyInt) fun y1''=>(at_ [(Zf tyInt c),(Zo (owD kInt tyInt) y1''),Zd,Zd] (zd4_ (i:=2) rfl zb_ (zL_ zai_ (zL_ zaL_ (ze_ 0 rfl) (zt_ 2147483647)) (zt_ 9)) fun u2'=>(at_ [(Zf tyInt c),(Zo (owD kInt tyInt) y1''),(Zf tyInt u2'),Zd] (zcD_ (LS:=(fun s_7:(Int×(List (Int×Int)))=>[(Zf tyInt c),(Zo (owD kInt tyInt) s_7.2),(Zf tyInt s_7.1),Zd])) (zcH_ (L':=[(Zf tyInt c),(Zo (owD kInt tyInt) y1''),(Zf tyInt u2'),Zd]) (S4 .nil) (zia_ (LS:=(fun s_7:(Int×(List (Int×Int)))=>[(Zf tyInt c),(Zo (owD kInt tyInt) s_7.2),(Zf tyInt s_7.1),Zd])) (s0:=(u2',y1'')) (zeF_ (zk_ (zL_ zaL_ (ze_ 0 rfl) (zt_ 9)))) (zab_ 3) fun s_7 x11=>at_ [(Zf tyInt c),(Zo (owD kInt tyInt) s_7.2),(Zf tyInt s_7.1),(Zf tyInt x11)] (zd4_ (i:=2) rfl zb_ (zL_ zaL_ (zL_ zai_ (zL_ zai_ (zL_ zco_ (ze_ 2 rfl) (ze_ 2 rfl)) (zL_ zco_ (zt_ 13) (ze_ 3 rfl))) (zt_ 7)) (zt_ 2147483629)) fun n12=>(at_ [(Zf tyInt c),(Zo (owD kInt tyInt) s_7.2),(Zf tyInt n12),(Zf tyInt x11)] (zc2_ (zqg_ (i:=1) rfl zb_ zb_ (zL_ zai_ (zt_ 1) (zL_ zaL_ (zL_ zbN_ (ze_ 2 rfl) (zt_ 180)) (zt_ 40))) (zL_ zai_ (zt_ 1) (zL_ zaL_ (zL_ zbN_ (ze_ 2 rfl) (zt_ 5)) (zt_ 36))) fun a35 y36=>(at_ [(Zf tyInt c),(Zo (owD kInt tyInt) (putA s_7.2 y36 a35)),(Zf tyInt n12),(Zf tyInt x11)] (zw_ (.same (.same (.same (.dead .nil)))))))))))) fun s_7=>(at_ [(Zf tyInt c),(Zo (owD kInt tyInt) s_7.2),(Zf tyInt s_7.1),Zd] (zb9_ (zn_ (zo_ (zh_ zb_ (zg_ zb_)))) (zcx_ (ei_l (EvO.fr (zfL_ (ziu_ zpf_ zp7_ zp9_) (zk_ (zlW_ 1 rfl))))) (zab_ 0) (fun _=>dead1) (fun x39=>zcr_) (fun x39=>(zmy_ (zZ_ zav_) (zr_ (zoF_ (zlW_ 1 rfl) (ze_ 0 rfl)) (zk_ (ze_ 0 rfl))))))))))))))
theorem zbc_ (e:En K mg):zah_ P w K mg base :=
 gs_of e.m e.f9 (okU (N:=["self"]) (O:=(owI (gA K "Printer") [] psNil)) (O2:=(Qq11 K)) (C:=csNil) (t:=fun E=>zbm_ K) (g:=fun x c=>zO_ x) (LS:=fun w_=>(fun x':Qq14=>[(Zo (owAt w_ (Qq11 K)) x')])) 0 0 zfb_ (fun _ _ _ _ _ _ E nd hr=>(zf_ (zaF_ e.w2.cls e.a10.no (za_ 0) (zb4_ zl_)) (zm_ (zaF_ e.w2.cls e.a11.no (za_ 0) (zb4_ zl_))))) fun w_ x c E=>at_ [(Zo (owAt w_ (owI (gA K "Printer") [] psNil)) x)]
 (zdl_ (P:=psNil) (P':=(psO (owLO (owL tyStr)) psNil)) (ad:=fun c z=>(z,())) (ns:=[]) (O1:=(owLO (owL tyStr))) (i:=0) rfl (by decide +kernel) (by decide) zc6_ (zs_ (zn_ zj_)) (zlw_ zlG_) fun x_2=>(at_ [(Zo (owAt w_ (owI (gA K "Printer") ["pockets"] (psO (owLO (owL tyStr)) psNil))) x_2)] (zc2_ (zdl_ (P:=(psO (owLO (owL tyStr)) psNil)) (P':=(psO (owLO (owL tyStr)) (psO (owL tyInt) psNil))) (ad:=fun c z=>(c.1,(z,()))) (ns:=["pockets"]) (O1:=(owL tyInt)) (i:=0) rfl (by decide +kernel) (by decide) (zaY_ zc6_) (zn_ zb_) (zcy_ tyInt) fun x_4=>(at_ [(Zo (owAt w_ (Qq11 K)) x_4)] (zw_ (.same .nil))))))))
theorem zb7_ (e:En K mg):za7_ P w K mg base :=
 zfc_ e.w2 e.f10 (okU (N:=["self", "many"]) (O:=(Qq11 K)) (O2:=(Qq11 K)) (C:=(csLast tyInt)) (t:=fun E=>zcj_ K) (g:=fun x c=>zaq_ x c) (LS:=fun w_=>(fun x':Qq14=>[(Zo (owAt w_ (Qq11 K)) x'),Zd])) 1 0 zu_ (fun _ _ _ _ _ _ E nd hr=>(zm_ (zaF_ e.w2.cls e.a10.no (za_ 0) (zdK_ (cl:=[]) (lv:=["number"]) (fr:=[]) rfl (csm rfl fr0) (zcS_ (e.m.gb e.b0) (zc_ (za_ 1) zl_)) (fun _ _ _ _=>(pgc 0)) (fun _ _ _ _=>zcu_) (fun _ _ _ _=>(zb4_ zl_)))))) fun w_ x c E=>at_ [(Zo (owAt w_ (Qq11 K)) x),(Zf tyInt c)]
 (zc2_ (zoN_ (O1:=(owLO (owL tyStr))) (i:=0) (n:=0) (by decide +kernel) rfl (by decide) ziw_ (zs_ (zn_ zj_)) (zfH_ (zeF_ (zk_ (ze_ 1 rfl))) (zab_ 0) (fun _=>dead1) (fun x_5=>zcr_) (fun x_5=>(zcy_ tyStr))) (zet_ (zbZ_ rfl)) fun x_2=>(at_ [(Zo (owAt w_ (Qq11 K)) x_2),(Zf tyInt c)] (zw_ (.same (.dead .nil)))))))
theorem zdu_ (e:En K mg) (g9:zah_ P w K mg base) (g10:za7_ P w K mg base) (g2:zaW_ P w K mg base):zaZ_ P w K mg base :=
 zqt_ e.m e.w2 e.f11 (okU (N:=["self", "breaks", "sums", "figures", "board"]) (O:=(owI (gA K "Printer") [] psNil)) (O2:=(Qq3 K)) (C:=(csCons (tyL Qq2) (csCons (tyL Qq2) (csCons tyInt (csLast (tyL Qq2)))))) (t:=fun E=>zdA_ K) (g:=fun x c=>za2_ x c.1 c.2.1 c.2.2.1 c.2.2.2) (LS:=fun w_=>(fun x':Qq6=>[(Zo (owAt w_ (Qq3 K)) x'),Zd,Zd,Zd,Zd])) 4 0 (zQ_ (zQ_ (zQ_ zu_))) (fun _ _ _ _ _ _ E nd hr=>(zf_ (zao_ (zn6_ g9 (hm hr) (zc_ (za_ 0) zl_))) (zf_ (zao_ (zaM_ g10 (hm hr) (za_ 0) (zc_ zq_ zl_))) (zf_ (zaF_ e.w2.cls e.a12.no (za_ 0) (ze2_ g2 (hm hr) (zc_ (za_ 1) (zc_ (za_ 2) (zc_ (za_ 3) (zc_ (za_ 4) zl_)))))) (zm_ (zaF_ e.w2.cls e.a13.no (za_ 0) (zb4_ zl_))))))) fun w_ x c E=>at_ [(Zo (owAt w_ (owI (gA K "Printer") [] psNil)) x),(Zf (tyL Qq2) c.1),(Zf (tyL Qq2) c.2.1),(Zf tyInt c.2.2.1),(Zf (tyL Qq2) c.2.2.2)]
 (ziQ_ (zkH_ (i:=0) rfl (zN_ (zd_ (zs_ (zn_ zj_)) (zd_ (zn_ zb_) zp_))) (zi_ zgm_) zlh_) fun q_2=>(at_ [(Zo (owAt w_ (Qq11 K)) q_2.2),(Zf (tyL Qq2) c.1),(Zf (tyL Qq2) c.2.1),(Zf tyInt c.2.2.1),(Zf (tyL Qq2) c.2.2.2)] (zg1_ (i:=0) (m := "make_pockets") (ns:=["pockets", "log"]) (by decide +kernel) (zN_ (zd_ (zs_ (zn_ zj_)) (zd_ (zn_ zb_) zp_))) (zet_ (zbZ_ rfl)) (zg_ zb_) (zk_ (zt_ 1)) fun x_7=>(at_ [(Zo (owAt w_ (Qq11 K)) x_7),(Zf (tyL Qq2) c.1),(Zf (tyL Qq2) c.2.1),(Zf tyInt c.2.2.1),(Zf (tyL Qq2) c.2.2.2)] (zdl_ (P:=(psO (owLO (owL tyStr)) (psO (owL tyInt) psNil))) (P':=(psO (owLO (owL tyStr)) (psO (owL tyInt) (psO (Qq0 K) psNil)))) (ad:=fun c z=>(c.1,(c.2.1,(z,())))) (ns:=["pockets", "log"]) (O1:=(Qq0 K)) (i:=0) rfl (by decide +kernel) (by decide) (zaY_ (zaY_ zc6_)) (zN_ (zd_ (zn_ (zo_ (zh_ zb_ (zg_ zb_)))) (zd_ (zn_ (zo_ (zh_ zb_ (zg_ zb_)))) (zd_ (zn_ (zo_ (zh_ zb_ (zg_ zb_)))) (zd_ (zs_ (zs_ (zN_ (zd_ (zi_ zb_) (zd_ (zi_ zb_) (zd_ (zi_ zb_) (zd_ (zi_ zD_) zp_))))))) (zd_ (zi_ (zay_ zj_)) (zd_ (zbF_ zD_) zp_))))))) (zgo_ (zr_ (ze_ 1 rfl) (zr_ (ze_ 2 rfl) (zr_ (ze_ 3 rfl) (zk_ (ze_ 4 rfl)))))) fun x9=>(at_ [(Zo (owAt w_ (owI (gA K "Printer") ["pockets", "log", "counter"] (psO (owLO (owL tyStr)) (psO (owL tyInt) (psO (Qq0 K) psNil))))) x9),(Zf (tyL Qq2) c.1),(Zf (tyL Qq2) c.2.1),(Zf tyInt c.2.2.1),(Zf (tyL Qq2) c.2.2.2)] (zc2_ (zdl_ (P:=(psO (owLO (owL tyStr)) (psO (owL tyInt) (psO (Qq0 K) psNil)))) (P':=(Qq13 K)) (ad:=fun c z=>(c.1,(c.2.1,(c.2.2.1,(z,()))))) (ns:=["pockets", "log", "counter"]) (O1:=(owL tyStr)) (i:=0) rfl (by decide +kernel) (by decide) (zaY_ (zaY_ (zaY_ zc6_))) (zn_ zj_) (zcy_ tyStr) fun x11=>(at_ [(Zo (owAt w_ (Qq3 K)) x11),(Zf (tyL Qq2) c.1),(Zf (tyL Qq2) c.2.1),(Zf tyInt c.2.2.1),(Zf (tyL Qq2) c.2.2.2)] (zw_ (.same (.dead (.dead (.dead (.dead .nil))))))))))))))))
theorem zgn_ (e:En K mg) (g11:zaZ_ P w K mg base):zeH_ P w K mg base :=
 zf2_ e.m e.f12 (okC (N:=["going", "trays", "kind"]) (C:=(csCons Qq8 (csLast (tyD kStr (tyL tyStr))))) (O:=(Qq3 K)) (t:=fun E=>zhs_ K) (g:=fun c=>zcV_ c.1 c.2) 2 1 (zQ_ zu_) (fun _ _ _ _ _ _ E nd hr=>(zf_ (pst 2 (zd3_ ix_M (za_ 0) zq_ (fun _ _=>rfl))) (zf_ (zbG_ (zaJ_ (zgp_ hr.u60) (za_ 2) (zba_ (l:=[100,101,97,108]))) (zm_ zem_) zaz_) (zf_ (zbG_ (zaJ_ (zgp_ hr.u60) (za_ 2) (zba_ (l:=[112,105,99,107]))) (zm_ zem_) zaz_) (zf_ (zbG_ (zaJ_ (zgp_ hr.u60) (za_ 2) (zba_ (l:=[109,97,116,101]))) (zm_ zem_) zaz_) (zf_ (zbG_ (zaJ_ (zgp_ hr.u60) (za_ 2) (zba_ (l:=[102,105,114,115,116]))) (zm_ zem_) zaz_) (zf_ (zbG_ (zaJ_ (zgp_ hr.u60) (za_ 2) (zba_ (l:=[112,117,110,99,104]))) (zm_ zem_) zaz_) (zm_ (zY_ (ze2_ g11 (hm hr) (zc_ (zd3_ ix_M (za_ 0) zq_ (fun _ _=>rfl)) (zc_ (zd3_ ix_M (za_ 0) zq_ (fun _ _=>rfl)) (zc_ (zd3_ ix_M (za_ 0) zq_ (fun _ _=>rfl)) (zc_ (zd3_ ix_M (za_ 0) zq_ (fun _ _=>rfl)) zl_)))))))))))))) fun c E=>at_ [(Zf Qq8 c.1),(Zf (tyD kStr (tyL tyStr)) c.2),Zd]
 (zd4_ (i:=2) rfl zj_ (zfG_ (i:=0) at_0 (ze_ 0 rfl)) fun x1'=>(at_ [(Zf Qq8 c.1),(Zf (tyD kStr (tyL tyStr)) c.2),(Zf tyStr x1')] (zcD_ (LS:=(fun _:Unit=>[(Zf Qq8 c.1),(Zf (tyD kStr (tyL tyStr)) c.2),(Zf tyStr x1')])) (s_if (zaT_ (zL_ zik_ (ze_ 2 rfl) (zaX_ [100,101,97,108]))) zgh_ (zw_ (.same (.same (.same .nil))))) fun _=>(at_ [(Zf Qq8 c.1),(Zf (tyD kStr (tyL tyStr)) c.2),(Zf tyStr x1')] (zcD_ (LS:=(fun _:Unit=>[(Zf Qq8 c.1),(Zf (tyD kStr (tyL tyStr)) c.2),(Zf tyStr x1')])) (s_if (zaT_ (zL_ zik_ (ze_ 2 rfl) (zaX_ [112,105,99,107]))) zgh_ (zw_ (.same (.same (.same .nil))))) fun _=>(at_ [(Zf Qq8 c.1),(Zf (tyD kStr (tyL tyStr)) c.2),(Zf tyStr x1')] (zcD_ (LS:=(fun _:Unit=>[(Zf Qq8 c.1),(Zf (tyD kStr (tyL tyStr)) c.2),(Zf tyStr x1')])) (s_if (zaT_ (zL_ zik_ (ze_ 2 rfl) (zaX_ [109,97,116,101]))) zgh_ (zw_ (.same (.same (.same .nil))))) fun _=>(at_ [(Zf Qq8 c.1),(Zf (tyD kStr (tyL tyStr)) c.2),(Zf tyStr x1')] (zcD_ (LS:=(fun _:Unit=>[(Zf Qq8 c.1),(Zf (tyD kStr (tyL tyStr)) c.2),(Zf tyStr x1')])) (s_if (zaT_ (zL_ zik_ (ze_ 2 rfl) (zaX_ [102,105,114,115,116]))) zgh_ (zw_ (.same (.same (.same .nil))))) fun _=>(at_ [(Zf Qq8 c.1),(Zf (tyD kStr (tyL tyStr)) c.2),(Zf tyStr x1')] (zcD_ (LS:=(fun _:Unit=>[(Zf Qq8 c.1),(Zf (tyD kStr (tyL tyStr)) c.2),(Zf tyStr x1')])) (s_if (zaT_ (zL_ zik_ (ze_ 2 rfl) (zaX_ [112,117,110,99,104]))) zgh_ (zw_ (.same (.same (.same .nil))))) fun _=>(at_ [(Zf Qq8 c.1),(Zf (tyD kStr (tyL tyStr)) c.2),(Zf tyStr x1')] (zb9_ (zN_ (zd_ (zs_ (zn_ zj_)) (zd_ (zn_ zb_) (zd_ (zN_ (zd_ (zn_ (zo_ (zh_ zb_ (zg_ zb_)))) (zd_ (zn_ (zo_ (zh_ zb_ (zg_ zb_)))) (zd_ (zn_ (zo_ (zh_ zb_ (zg_ zb_)))) (zd_ (zs_ (zs_ (zN_ (zd_ (zi_ zb_) (zd_ (zi_ zb_) (zd_ (zi_ zb_) (zd_ (zi_ zD_) zp_))))))) (zd_ (zi_ (zay_ zj_)) (zd_ (zbF_ zD_) zp_))))))) (zd_ (zn_ zj_) zp_))))) (zgo_ (zr_ (zfG_ (i:=2) (at_s (at_s at_0)) (ze_ 0 rfl)) (zr_ (zfG_ (i:=3) (at_s (at_s (at_s at_0))) (ze_ 0 rfl)) (zr_ (zfG_ (i:=4) (at_s (at_s (at_s (at_s at_0)))) (ze_ 0 rfl)) (zk_ (zfG_ (i:=5) (at_s (at_s (at_s (at_s (at_s zjM_))))) (ze_ 0 rfl)))))))))))))))))))))
theorem ziE_ (e:En K mg) (g11:zaZ_ P w K mg base) (g12:zeH_ P w K mg base):zgd_ P w K mg base :=
 zf2_ e.m e.f13 (okC (N:=["_law_word", "_law_lists", "_law_figures", "_law_breaks", "_law_sums", "_law_board_here"]) (C:=(csCons tyStr (csCons (tyL (tyL Qq2)) (csLast tyInt)))) (O:=(Qq3 K)) (t:=fun E=>zjq_ K) (g:=fun c=>zeT_ c.1 c.2.1 c.2.2) 3 3 (zQ_ (zQ_ zu_)) (fun _ _ _ _ _ _ E nd hr=>(zf_ (zmr_ (za_ 1) (zos_ rfl (zas_ (pgn 3) (zas_ (pgn 4) (zas_ (pgn 5) zdI_))))) (zf_ (zbG_ (zaJ_ (zgp_ hr.u60) (za_ 0) (zba_ (l:=[99,108,97,115,115]))) (zm_ (zY_ (ze2_ g11 (hm hr) (zc_ (za_ 3) (zc_ (za_ 4) (zc_ (za_ 2) (zc_ (za_ 5) zl_))))))) zaz_) (zm_ (zY_ (zC_ g12 (hm hr) (zc_ (zmY_ (zc_ (zba_ (l:=[99,111,117,110,116])) (zc_ (zba_ (l:=[97])) (zc_ (za_ 3) (zc_ (za_ 4) (zc_ (za_ 2) (zc_ (za_ 5) zl_))))))) (zc_ zgY_ zl_)))))))) fun c E=>at_ [(Zf tyStr c.1),(Zf (tyL (tyL Qq2)) c.2.1),(Zf tyInt c.2.2),Zd,Zd,Zd]
 (zoW_ (zpQ_ (ze_ 1 rfl)) (zop_ 3 4 5) fun a_2=>(at_ [(Zf tyStr c.1),(Zf (tyL (tyL Qq2)) c.2.1),(Zf tyInt c.2.2),(Zf (tyL Qq2) a_2.1),(Zf (tyL Qq2) a_2.2.1),(Zf (tyL Qq2) a_2.2.2)] (zcD_ (LS:=(fun _:Unit=>[(Zf tyStr c.1),(Zf (tyL (tyL Qq2)) c.2.1),(Zf tyInt c.2.2),(Zf (tyL Qq2) a_2.1),(Zf (tyL Qq2) a_2.2.1),(Zf (tyL Qq2) a_2.2.2)])) (s_if (zaT_ (zL_ zik_ (ze_ 0 rfl) (zaX_ [99,108,97,115,115]))) (zb9_ (zN_ (zd_ (zs_ (zn_ zj_)) (zd_ (zn_ zb_) (zd_ (zN_ (zd_ (zn_ (zo_ (zh_ zb_ (zg_ zb_)))) (zd_ (zn_ (zo_ (zh_ zb_ (zg_ zb_)))) (zd_ (zn_ (zo_ (zh_ zb_ (zg_ zb_)))) (zd_ (zs_ (zs_ (zN_ (zd_ (zi_ zb_) (zd_ (zi_ zb_) (zd_ (zi_ zb_) (zd_ (zi_ zD_) zp_))))))) (zd_ (zi_ (zay_ zj_)) (zd_ (zbF_ zD_) zp_))))))) (zd_ (zn_ zj_) zp_))))) (zgo_ (zr_ (ze_ 3 rfl) (zr_ (ze_ 4 rfl) (zr_ (ze_ 2 rfl) (zk_ (ze_ 5 rfl))))))) (zw_ (S4 (.same (.same .nil))))) fun _=>(at_ [(Zf tyStr c.1),(Zf (tyL (tyL Qq2)) c.2.1),(Zf tyInt c.2.2),(Zf (tyL Qq2) a_2.1),(Zf (tyL Qq2) a_2.2.1),(Zf (tyL Qq2) a_2.2.2)] (zb9_ (zN_ (zd_ (zs_ (zn_ zj_)) (zd_ (zn_ zb_) (zd_ (zN_ (zd_ (zn_ (zo_ (zh_ zb_ (zg_ zb_)))) (zd_ (zn_ (zo_ (zh_ zb_ (zg_ zb_)))) (zd_ (zn_ (zo_ (zh_ zb_ (zg_ zb_)))) (zd_ (zs_ (zs_ (zN_ (zd_ (zi_ zb_) (zd_ (zi_ zb_) (zd_ (zi_ zb_) (zd_ (zi_ zD_) zp_))))))) (zd_ (zi_ (zay_ zj_)) (zd_ (zbF_ zD_) zp_))))))) (zd_ (zn_ zj_) zp_))))) (zbQ_ (zr_ (zmy_ (zZ_ (zZ_ (zZ_ (zZ_ (zZ_ zav_))))) (zr_ (zaX_ [99,111,117,110,116]) (zr_ (zaX_ [97]) (zr_ (ze_ 3 rfl) (zr_ (ze_ 4 rfl) (zr_ (ze_ 2 rfl) (zk_ (ze_ 5 rfl)))))))) (zk_ (EvO.fr (zi9_ kStr (tyL tyStr))))))))))))
theorem zfJ_ (e:En K mg):zdX_ P w K mg base :=
 zf2_ e.m e.f14 (okU (N:=["_law_lists", "_law_one"]) (O:=(owLO (owL Qq2))) (O2:=(owLO (owL Qq2))) (C:=csNil) (t:=fun E=>zf5_ K) (g:=fun x c=>zdS_ x) (LS:=fun w_=>(fun x':(List (List (Int×Int)))=>[(Zo (owAt w_ (owLO (owL Qq2))) x'),Zd])) 0 1 zfb_ (fun _ _ _ _ _ _ E nd hr=>(zm_ (zcI_ PassesOwn.never rfl (zdv_ (za_ 0)) (pgn 1) (zm_ (zao_ (zpd_ zbv_ zgG_ zgr_ zms_ (za_ 1))))))) fun w_ x c E=>at_ [(Zo (owAt w_ (owLO (owL Qq2))) x),Zd]
 (zc2_ (zcD_ (LS:=(fun s_3:(List (List (Int×Int)))=>[(Zo (owAt w_ (owLO (owL Qq2))) s_3),Zd])) (zmq_ (w:=1) (Nat.le_of_ble_eq_true rfl) rfl (by decide) (zeS_ (zby_ rfl))) fun s_3=>(at_ [(Zo (owAt w_ (owLO (owL Qq2))) s_3),Zd] (zw_ (.same (.same .nil)))))))
theorem zgs_ (e:En K mg):zeZ_ P w K mg base :=
 zfc_ e.w0 e.f15 (okU (N:=["self", "value", "risen"]) (O:=(Qq5 K)) (O2:=(Qq5 K)) (C:=(csLast tyInt)) (t:=fun E=>zht_ K) (g:=fun x c=>zc1_ x c) (LS:=fun w_=>(fun x':Qq9=>[(Zo (owAt w_ (Qq5 K)) x'),Zd,Zd])) 1 1 zu_ (fun _ _ _ _ _ _ E nd hr=>(zf_ (pst 2 (zak_ z0_ (zJ_ e.w0.cls e.a2.no (za_ 0)) (za_ 1))) (zf_ (zbG_ (zaJ_ zpD_ (za_ 2) (zJ_ e.w0.cls e.a1.no (za_ 0))) (zm_ (zaF_ e.w0.cls e.a3.no (za_ 0) ziF_)) zaz_) (zm_ (zaF_ e.w0.cls e.a2.no (za_ 0) (zak_ zaI_ (za_ 2) (zJ_ e.w0.cls e.a1.no (za_ 0)))))))) fun w_ x c E=>at_ [(Zo (owAt w_ (Qq5 K)) x),(Zf tyInt c),Zd]
 (zd4_ (i:=2) rfl zb_ (zL_ zai_ (za8_ (ns:=Qn2) (by decide +kernel) (n:=2) rfl (at_s (at_s at_0)) (zbb_ (P:=(psO (owF tyInt) (psO (owF tyInt) (psO (owF tyInt) (psO (owF tyBl) psNil))))) 0 rfl)) (ze_ 1 rfl)) fun t1'=>(at_ [(Zo (owAt w_ (Qq5 K)) x),(Zf tyInt c),(Zf tyInt t1')] (zcD_ (LS:=(fun y9:Qq9=>[(Zo (owAt w_ (Qq5 K)) y9),(Zf tyInt c),(Zf tyInt t1')])) (s_if (zaT_ (zL_ zpH_ (ze_ 2 rfl) (za8_ (ns:=Qn2) (by decide +kernel) (n:=1) rfl (at_s at_0) (zbb_ (P:=(psO (owF tyInt) (psO (owF tyInt) (psO (owF tyInt) (psO (owF tyBl) psNil))))) 0 rfl)))) (zc2_ (zf7_ (i:=0) (n:=3) (by decide +kernel) rfl (by decide) (zdc_ (zdc_ (zdc_ ziw_))) zD_ (zh5_ true) (zet_ (zbZ_ rfl)) fun x11=>(at_ [(Zo (owAt w_ (Qq5 K)) x11),(Zf tyInt c),(Zf tyInt t1')] (zw_ (.same (.same (.same .nil))))))) (zw_ (.same (.same (.same .nil))))) fun y9=>(at_ [(Zo (owAt w_ (Qq5 K)) y9),(Zf tyInt c),(Zf tyInt t1')] (zc2_ (zf7_ (i:=0) (n:=2) (by decide +kernel) rfl (by decide) (zdc_ (zdc_ ziw_)) zb_ (zL_ zaL_ (ze_ 2 rfl) (za8_ (ns:=Qn2) (by decide +kernel) (n:=1) rfl (at_s at_0) (zbb_ (P:=(psO (owF tyInt) (psO (owF tyInt) (psO (owF tyInt) (psO (owF tyBl) psNil))))) 0 rfl))) (zet_ (zbZ_ rfl)) fun v14=>(at_ [(Zo (owAt w_ (Qq5 K)) v14),(Zf tyInt c),(Zf tyInt t1')] (zw_ (.same (.dead (.dead .nil))))))))))))
theorem zd8_ (e:En K mg):zcq_ P w K mg base :=
 zfc_ e.w0 e.f16 (okC (N:=["self"]) (C:=(csLast (Qq12 K))) (O:=(owF tyBl)) (t:=fun E=>zeU_ K) (g:=fun c=>zcg_ c) 1 0 zu_ (fun _ _ _ _ _ _ E nd hr=>(zm_ (zY_ (zJ_ e.w0.cls e.a3.no (za_ 0))))) fun c E=>at_ [(Zf (Qq12 K) c)]
 (zb9_ (zi_ zD_) (EvF.ow (za8_ (ns:=Qn2) (by decide +kernel) (n:=3) rfl (at_s (at_s (at_s at_0))) (ze_ 0 rfl)))))
theorem zcv_ (e:En K mg) (g15:zeZ_ P w K mg base) (g16:zcq_ P w K mg base):zax_ P w K mg base :=
 zfc_ e.w1 e.f17 (okU (N:=["self", "level", "numbers", "place", "number", "wheel"]) (O:=(Qq0 K)) (O2:=(Qq0 K)) (C:=(csCons tyInt (csLast (tyL tyInt)))) (t:=fun E=>zcN_ K) (g:=fun x c=>zau_ x c.1 c.2) (LS:=fun w_=>(fun x':Qq1=>[(Zo (owAt w_ (Qq0 K)) x'),Zd,Zd,Zd,Zd,Zd])) 2 3 (zQ_ zu_) (fun _ _ _ _ _ _ E nd hr=>(zm_ (zcI_ PassesOwn.never rfl (zfN_ (by rfl) (e.m.gb e.b3) (zc_ (za_ 2) zl_)) (zga_ (n:=2) rfl (zas_ (pgn 3) (zas_ (pgn 4) zdI_))) (zf_ (pst 5 (zd3_ ix_M (zd3_ ix_M (zJ_ e.w1.cls e.a7.no (za_ 0)) (za_ 1) (fun _ _=>rfl)) (za_ 3) (fun _ _=>rfl))) (zf_ (zao_ (zaM_ g15 (hm hr) (za_ 5) (zc_ (za_ 4) zl_))) (zm_ (zbG_ (zdb_ (z2_ g16 (hm hr) (za_ 5))) (zm_ (zj2_ hr.u60 (zJ_ e.w1.cls e.a9.no (za_ 0)) (za_ 3) ziF_)) zaz_))))))) fun w_ x c E=>at_ [(Zo (owAt w_ (Qq0 K)) x),(Zf tyInt c.1),(Zf (tyL tyInt) c.2),Zd,Zd,Zd]
 (zc2_ (zcD_ (LS:=(fun s_1:Qq1=>[(Zo (owAt w_ (Qq0 K)) s_1),(Zf tyInt c.1),(Zf (tyL tyInt) c.2),Zd,Zd,Zd])) (zcH_ (L':=[(Zo (owAt w_ (Qq0 K)) x),(Zf tyInt c.1),(Zf (tyL tyInt) c.2),Zd,Zd,Zd]) (S4 (.same (.same .nil))) (zia_ (LS:=(fun s_1:Qq1=>[(Zo (owAt w_ (Qq0 K)) s_1),(Zf tyInt c.1),(Zf (tyL tyInt) c.2),Zd,Zd,Zd])) (s0:=x) (zfT_ (zk_ (ze_ 2 rfl))) (zjt_ (zZ_ zav_) (zgA_ 3 (zf9_ (zab_ 4)))) fun s_1 x_3=>at_ [(Zo (owAt w_ (Qq0 K)) s_1),(Zf tyInt c.1),(Zf (tyL tyInt) c.2),(Zf tyInt x_3.1),(Zf tyInt x_3.2),Zd] (zno_ (w:=5) rfl (by decide) (zmi_ (zmi_ (zhX_ (ns:=Qn0) (by decide +kernel) (n:=3) rfl (ze3_ (ze3_ (ze3_ zle_))) (zeS_ (zby_ rfl))) (ze_ 1 rfl)) (ze_ 3 rfl)) fun u14 y13=>(at_ [(Zo (owPn u14 (Qq5 K) y13.2 (owAt w_ (Qq0 K))) y13.1),(Zf tyInt c.1),(Zf (tyL tyInt) c.2),(Zf tyInt x_3.1),(Zf tyInt x_3.2),(Zf (tyIs u14) ())] (zg1_ (i:=0) (m := "rise") (ns:=Qn2) (by decide +kernel) (zN_ (zd_ (zi_ zb_) (zd_ (zi_ zb_) (zd_ (zi_ zb_) (zd_ (zi_ zD_) zp_))))) (zfV_ (w:=5) rfl rfl) (zg_ zb_) (zk_ (ze_ 4 rfl)) fun x18=>(at_ [(Zo (owPn u14 (Qq5 K) y13.2 (owAt w_ (Qq0 K))) x18),(Zf tyInt c.1),(Zf (tyL tyInt) c.2),(Zf tyInt x_3.1),(Zf tyInt x_3.2),(Zf (tyIs u14) ())] (zc2_ (zcD_ (LS:=(fun s21:Qq1=>[(Zo (owAt w_ (Qq0 K)) s21),(Zf tyInt c.1),(Zf (tyL tyInt) c.2),(Zf tyInt x_3.1),(Zf tyInt x_3.2),Zd])) (s_if (zaT_ (zfX_ (m := "ran_over") (ns:=Qn2) (by decide +kernel) (zm6_ (O':=(Qq5 K)) (i:=0) (w:=5) rfl rfl))) (zoQ_ (i:=0) rfl (zcH_ (L':=[(Zo (owAt w_ (Qq0 K)) (y13.2 x18)),(Zf tyInt c.1),(Zf (tyL tyInt) c.2),(Zf tyInt x_3.1),(Zf tyInt x_3.2),Zd]) (S4 (.same (.dead .nil))) (zc2_ (znM_ (i:=0) (ziJ_ (ns:=Qn0) (by decide +kernel) (n:=5) rfl (ze3_ (ze3_ (ze3_ (ze3_ (ze3_ zle_))))) (zet_ (zbZ_ rfl))) zD_ zb_ (zh5_ true) (ze_ 3 rfl) fun x26=>(at_ [(Zo (owAt w_ (Qq0 K)) x26),(Zf tyInt c.1),(Zf (tyL tyInt) c.2),(Zf tyInt x_3.1),(Zf tyInt x_3.2),Zd] (zw_ (S4 (.same (.same .nil))))))))) (zoQ_ (i:=0) rfl (zcH_ (L':=[(Zo (owAt w_ (Qq0 K)) (y13.2 x18)),(Zf tyInt c.1),(Zf (tyL tyInt) c.2),(Zf tyInt x_3.1),(Zf tyInt x_3.2),Zd]) (S4 (.same (.dead .nil))) (zw_ (S4 (.same (.same .nil))))))) fun s21=>(at_ [(Zo (owAt w_ (Qq0 K)) s21),(Zf tyInt c.1),(Zf (tyL tyInt) c.2),(Zf tyInt x_3.1),(Zf tyInt x_3.2),Zd] (zw_ (.same (.same (.same (.dead (.dead (.same .nil)))))))))))))))) fun s_1=>(at_ [(Zo (owAt w_ (Qq0 K)) s_1),(Zf tyInt c.1),(Zf (tyL tyInt) c.2),Zd,Zd,Zd] (zw_ (.same (.dead (.dead (.same (.same (.same .nil)))))))))))
theorem zfK_ (e:En K mg):zdR_ P w K mg base :=
 zfc_ e.w0 e.f18 (okC (N:=["self"]) (C:=(csLast (Qq12 K))) (O:=(owF tyStr)) (t:=fun E=>zgu_ K) (g:=fun c=>zcs_ c) 1 0 zu_ (fun _ _ _ _ _ _ E nd hr=>(zm_ (zY_ (znl_ zeM_ zev_ zju_ (zkq_ "str" zh4_ (e.m.gb e.b4) (zc_ (zJ_ e.w0.cls e.a2.no (za_ 0)) zl_)) (zc_ (zJ_ e.w0.cls e.a0.no (za_ 0)) zl_))))) fun c E=>at_ [(Zf (Qq12 K) c)]
 (zb9_ (zi_ zj_) (EvF.ow (znj_ zkj_ (zjz_ zoY_ (zk_ (za8_ (ns:=Qn2) (by decide +kernel) (n:=2) rfl (at_s (at_s at_0)) (ze_ 0 rfl)))) (zk_ (za8_ (ns:=Qn2) (by decide +kernel) (n:=0) rfl at_0 (ze_ 0 rfl)))))))
theorem zjX_ (e:En K mg):zec_ P w K mg base :=
 zf2_ e.m e.f19 (okC (N:=["card", "field"]) (C:=(csCons tyStr (csLast Qq2))) (O:=(owF tyStr)) (t:=fun E=>zkx_ K) (g:=fun c=>zf3_ c.1 c.2) 2 0 (zQ_ zu_) (fun _ _ _ _ _ _ E nd hr=>(zm_ (zY_ (zdC_ sl_M (za_ 0) (po_M (zak_ zd0_ (zd3_ ix_M (za_ 1) zq_ (fun _ _=>rfl)) zq_)) (po_M (zd3_ ix_M (za_ 1) zq_ (fun _ _=>rfl))))))) fun c E=>at_ [(Zf tyStr c.1),(Zf Qq2 c.2)]
 (zb9_ (zi_ zj_) (EvF.ow (znC_ (ze_ 0 rfl) (zlR_ (zL_ zdV_ (zfG_ (i:=0) at_0 (ze_ 1 rfl)) (zt_ 1))) (zlR_ (zfG_ (i:=1) (at_s zjM_) (ze_ 1 rfl)))))))
theorem zcK_ (e:En K mg) (g19:zec_ P w K mg base) (g18:zdR_ P w K mg base):zbs_ P w K mg base :=
 zfc_ e.w1 e.f20 (okC (N:=["self", "level", "words"]) (C:=(csCons (Qq4 K) (csLast tyInt))) (O:=(owF tyStr)) (t:=fun E=>zcY_ K) (g:=fun c=>z8_ c.1 c.2) 2 1 (zQ_ zu_) (fun _ _ _ _ _ _ E nd hr=>(zf_ (pst 2 (zb4_ (zc_ (zak_ zdh_ (zba_ (l:=[42])) (zak_ zd0_ (zak_ z0_ zq_ (zix_ zbl_ (e.m.gb e.b2) (zc_ (zJ_ e.w1.cls e.a4.no (za_ 0)) zl_))) (za_ 1))) zl_))) (zf_ (zao_ (zg6_ zbv_ zaK_ zaS_ zdi_ (za_ 2) (zc_ (zdK_ (cl:=_) (lv:=["field"]) (fr:=[("self",0)]) rfl (csm rfl (frc fr0)) (zdv_ (zdC_ sl_M (zJ_ e.w1.cls e.a4.no (za_ 0)) zhZ_ (po_M (za_ 1)))) (fun _ _ _ _=>(pgc 0)) (fun _ _ _ _=>zcu_) (fun _ _ _ _=>(zC_ g19 (hm hr) (zc_ (zJ_ e.w1.cls e.a8.no (za_ 1)) (zc_ (za_ 0) zl_))))) zl_))) (zf_ (zao_ (zg6_ zbv_ zaK_ zaS_ zdi_ (za_ 2) (zc_ (zdK_ (cl:=[]) (lv:=["wheel"]) (fr:=[]) rfl (csm rfl fr0) (zdv_ (zd3_ ix_M (zJ_ e.w1.cls e.a7.no (za_ 0)) (za_ 1) (fun _ _=>rfl))) (fun _ _ _ _=>(pgc 0)) (fun _ _ _ _=>zcu_) (fun _ _ _ _=>(z2_ g18 (hm hr) (za_ 0)))) zl_))) (zm_ (zY_ (znl_ zdx_ zdB_ zkf_ (zba_ (l:=[32])) (zc_ (za_ 2) zl_)))))))) fun c E=>at_ [(Zf (Qq4 K) c.1),(Zf tyInt c.2),Zd]
 (zbX_ (i:=2) rfl (zn_ zj_) (zlg_ zav_ zfP_ (zk_ (zL_ zm2_ (zaX_ [42]) (zL_ zdV_ (zL_ zai_ (zt_ 1) (zjz_ zeJ_ (zk_ (za8_ (ns:=Qn0) (by decide +kernel) (n:=0) rfl at_0 (ze_ 0 rfl))))) (ze_ 1 rfl))))) fun z1''=>(at_ [(Zf (Qq4 K) c.1),(Zf tyInt c.2),(Zo (owL tyStr) z1'')] (zg5_ (i:=2) rfl zj_ (EvO.fr (O:=(owL tyStr)) (zcx_ (ei_l (EvO.fr (zmC_ (za8_ (ns:=Qn0) (by decide +kernel) (n:=0) rfl at_0 (ze_ 0 rfl)) zo5_ (zlR_ (ze_ 1 rfl))))) (zab_ 0) (fun _=>dead1) (fun x16=>zcr_) (fun x16=>(zH_ (zr_ (zjZ_ (za8_ (ns:=Qn0) (by decide +kernel) (n:=4) rfl (at_s (at_s (at_s (at_s at_0)))) (ze_ 1 rfl))) (zk_ (ze_ 0 rfl))))))) fun a23=>(at_ [(Zf (Qq4 K) c.1),(Zf tyInt c.2),(Zo (owL tyStr) (z1''++a23))] (zg5_ (i:=2) rfl zj_ (EvO.fr (O:=(owL tyStr)) (zcx_ (ei_l (zL_ zfD_ (za8_ (ns:=Qn0) (by decide +kernel) (n:=3) rfl (at_s (at_s (at_s at_0))) (ze_ 0 rfl)) (ze_ 1 rfl))) (zab_ 0) (fun _=>dead1) (fun x27=>zcr_) (fun x27=>(zfX_ (m := "shown") (ns:=Qn2) (by decide +kernel) (ze_ 0 rfl))))) fun a30=>(at_ [(Zf (Qq4 K) c.1),(Zf tyInt c.2),(Zo (owL tyStr) ((z1''++a23)++a30))] (zb9_ (zi_ zj_) (EvF.ow (znj_ zko_ (zaX_ [32]) (zk_ (zhK_ 2 rfl))))))))))))
theorem zfz_ (e:En K mg):zdU_ P w K mg base :=
 zfc_ e.w0 e.f21 (okU (N:=["self"]) (O:=(Qq5 K)) (O2:=(Qq5 K)) (C:=csNil) (t:=fun E=>zgq_ K) (g:=fun x c=>zdM_ x) (LS:=fun w_=>(fun x':Qq9=>[(Zo (owAt w_ (Qq5 K)) x')])) 0 0 zfb_ (fun _ _ _ _ _ _ E nd hr=>(zf_ (zaF_ e.w0.cls e.a2.no (za_ 0) zq_) (zm_ (zaF_ e.w0.cls e.a3.no (za_ 0) ziF_)))) fun w_ x c E=>at_ [(Zo (owAt w_ (Qq5 K)) x)]
 (zf7_ (i:=0) (n:=2) (by decide +kernel) rfl (by decide) (zdc_ (zdc_ ziw_)) zb_ (zt_ 0) (zet_ (zbZ_ rfl)) fun x_2=>(at_ [(Zo (owAt w_ (Qq5 K)) x_2)] (zc2_ (zf7_ (i:=0) (n:=3) (by decide +kernel) rfl (by decide) (zdc_ (zdc_ (zdc_ ziw_))) zD_ (zh5_ false) (zet_ (zbZ_ rfl)) fun x_5=>(at_ [(Zo (owAt w_ (Qq5 K)) x_5)] (zw_ (.same .nil))))))))
theorem ze8_ (e:En K mg):zc9_ P w K mg base :=
 zfc_ e.w0 e.f22 (okC (N:=["self"]) (C:=(csLast (Qq12 K))) (O:=(owF tyInt)) (t:=fun E=>zfW_ K) (g:=fun c=>zdo_ c) 1 0 zu_ (fun _ _ _ _ _ _ E nd hr=>(zm_ (zY_ (zJ_ e.w0.cls e.a2.no (za_ 0))))) fun c E=>at_ [(Zf (Qq12 K) c)]
 (zb9_ (zi_ zb_) (EvF.ow (za8_ (ns:=Qn2) (by decide +kernel) (n:=2) rfl (at_s (at_s at_0)) (ze_ 0 rfl)))))
theorem zcc_ (e:En K mg) (g20:zbs_ P w K mg base) (g17:zax_ P w K mg base) (g22:zc9_ P w K mg base) (g21:zdU_ P w K mg base):zat_ P w K mg base :=
 zfc_ e.w1 e.f23 (okR (N:=["self", "level", "line", "wheel"]) (O:=(Qq0 K)) (O2:=(Qq0 K)) (Or:=(owF tyStr)) (C:=(csLast tyInt)) (t:=fun E=>zcL_ K) (g:=fun x c=>z1_ x c) 1 2 zu_ (fun _ _ _ _ _ _ E nd hr=>(zf_ (pst 2 (zaM_ g20 (hm hr) (za_ 0) (zc_ (za_ 1) zl_))) (zf_ (zbG_ (zaJ_ zqc_ (za_ 1) zq_) (zm_ (zao_ (zaM_ g17 (hm hr) (za_ 0) (zc_ (zak_ zd0_ (za_ 1) zq_) (zc_ (zdK_ (cl:=[]) (lv:=["wheel"]) (fr:=[]) rfl (csm rfl fr0) (zdv_ (zd3_ ix_M (zJ_ e.w1.cls e.a7.no (za_ 0)) (za_ 1) (fun _ _=>rfl))) (fun _ _ _ _=>(pgc 0)) (fun _ _ _ _=>zcu_) (fun _ _ _ _=>(z2_ g22 (hm hr) (za_ 0)))) zl_))))) zaz_) (zf_ (zcI_ PassesOwn.never rfl (zdv_ (zd3_ ix_M (zJ_ e.w1.cls e.a7.no (za_ 0)) (za_ 1) (fun _ _=>rfl))) (pgn 3) (zm_ (zao_ (z2_ g21 (hm hr) (za_ 3))))) (zm_ (zY_ (za_ 2))))))) fun w_ x c E=>at_ [(Zo (owAt w_ (Qq0 K)) x),(Zf tyInt c),Zd,Zd]
 (zd4_ (i:=2) rfl zj_ (zjB_ (m := "total_line") (ns:=Qn0) (by decide +kernel) (zbb_ (P:=(Qq10 K)) 0 rfl) (zk_ (ze_ 1 rfl))) fun q1'=>(at_ [(Zo (owAt w_ (Qq0 K)) x),(Zf tyInt c),(Zf tyStr q1'),Zd] (zcD_ (LS:=(fun s_7:Qq1=>[(Zo (owAt w_ (Qq0 K)) s_7),(Zf tyInt c),(Zf tyStr q1'),Zd])) (s_if (zaT_ (zL_ zp2_ (ze_ 1 rfl) (zt_ 0))) (zc2_ (ziQ_ (zaA_ (m := "raise_level") (ns:=Qn0) (by decide +kernel) (zN_ (zd_ (zn_ (zo_ (zh_ zb_ (zg_ zb_)))) (zd_ (zn_ (zo_ (zh_ zb_ (zg_ zb_)))) (zd_ (zn_ (zo_ (zh_ zb_ (zg_ zb_)))) (zd_ (zs_ (zs_ (zN_ (zd_ (zi_ zb_) (zd_ (zi_ zb_) (zd_ (zi_ zb_) (zd_ (zi_ zD_) zp_))))))) (zd_ (zi_ (zay_ zj_)) (zd_ (zbF_ zD_) zp_))))))) (zi_ zgm_) (zeS_ (zby_ rfl)) (zj1_ (zc7_ zb_ (zL_ zdV_ (ze_ 1 rfl) (zt_ 1))) (zbW_ (zlV_ (zn_ zb_) (zcx_ (ei_l (zL_ zfD_ (za8_ (ns:=Qn0) (by decide +kernel) (n:=3) rfl (at_s (at_s (at_s at_0))) (zbb_ (P:=(Qq10 K)) 0 rfl)) (ze_ 1 rfl))) (zab_ 0) (fun _=>dead1) (fun w13=>zcr_) (fun w13=>(zfX_ (m := "amount") (ns:=Qn2) (by decide +kernel) (ze_ 0 rfl)))))))) fun q21=>(at_ [(Zo (owAt w_ (Qq0 K)) q21.2),(Zf tyInt c),(Zf tyStr q1'),Zd] (zw_ (S4 .nil))))) (zw_ (S4 .nil))) fun s_7=>(at_ [(Zo (owAt w_ (Qq0 K)) s_7),(Zf tyInt c),(Zf tyStr q1'),Zd] (zcD_ (LS:=(fun s31:Qq1=>[(Zo (owAt w_ (Qq0 K)) s31),(Zf tyInt c),(Zf tyStr q1'),Zd])) (zqh_ (m := "reset") (ns:=Qn2) (w:=3) (Nat.le_of_ble_eq_true rfl) rfl (by decide) (by decide +kernel) (zN_ (zd_ (zi_ zb_) (zd_ (zi_ zb_) (zd_ (zi_ zb_) (zd_ (zi_ zD_) zp_))))) (zmi_ (zhX_ (ns:=Qn0) (by decide +kernel) (n:=3) rfl (ze3_ (ze3_ (ze3_ zle_))) (zeS_ (zby_ rfl))) (ze_ 1 rfl))) fun s31=>(at_ [(Zo (owAt w_ (Qq0 K)) s31),(Zf tyInt c),(Zf tyStr q1'),Zd] (zpr_ (i:=0) rfl zj_ (ze_ 2 rfl)))))))))
theorem zb6_ (e:En K mg) (g23:zat_ P w K mg base):zar_ P w K mg base :=
 zfc_ e.w1 e.f24 (okR (N:=["self", "outermost", "lines", "level"]) (O:=(Qq0 K)) (O2:=(Qq0 K)) (Or:=(owL tyStr)) (C:=(csLast tyInt)) (t:=fun E=>zcB_ K) (g:=fun x c=>zap_ x c) 1 2 zu_ (fun _ _ _ _ _ _ E nd hr=>(zf_ (pst 2 (zb4_ zl_)) (zf_ (zcI_ PassesOwn.never rfl (zmI_ (e.m.gb e.b0) (zc_ (zix_ zbl_ (e.m.gb e.b2) (zc_ (zJ_ e.w1.cls e.a4.no (za_ 0)) zl_)) (zc_ (zak_ zd0_ (za_ 1) zq_) (zc_ (zpn_ zq_) zl_)))) (pgn 3) (zm_ (zao_ (zg6_ zbv_ zR_ zP_ za6_ (za_ 2) (zc_ (zaM_ g23 (hm hr) (za_ 0) (zc_ (za_ 3) zl_)) zl_))))) (zm_ (zY_ (za_ 2)))))) fun w_ x c E=>at_ [(Zo (owAt w_ (Qq0 K)) x),(Zf tyInt c),Zd,Zd]
 (zbX_ (i:=2) rfl (zn_ zj_) (zcy_ tyStr) fun r1'=>(at_ [(Zo (owAt w_ (Qq0 K)) x),(Zf tyInt c),(Zo (owL tyStr) r1'),Zd] (zcD_ (LS:=(fun s_2:((List (List Nat))×Qq1)=>[(Zo (owAt w_ (Qq0 K)) s_2.2),(Zf tyInt c),(Zo (owL tyStr) s_2.1),Zd])) (zcH_ (L':=[(Zo (owAt w_ (Qq0 K)) x),(Zf tyInt c),(Zo (owL tyStr) r1'),Zd]) (S4 .nil) (zqm_ (LS:=(fun s_2:((List (List Nat))×Qq1)=>[(Zo (owAt w_ (Qq0 K)) s_2.2),(Zf tyInt c),(Zo (owL tyStr) s_2.1),Zd])) (s0:=(r1',x)) (eir_3 (zr_ (zjz_ zeJ_ (zk_ (za8_ (ns:=Qn0) (by decide +kernel) (n:=0) rfl at_0 (zbb_ (P:=(Qq10 K)) 0 rfl)))) (zr_ (zL_ zdV_ (ze_ 1 rfl) (zt_ 1)) (zk_ (zqw_ (zt_ 1)))))) (zab_ 3) fun s_2 w13=>at_ [(Zo (owAt w_ (Qq0 K)) s_2.2),(Zf tyInt c),(Zo (owL tyStr) s_2.1),(Zf tyInt w13)] (zc2_ (zqq_ (w:=2) rfl (by decide) (zaA_ (m := "close_level") (ns:=Qn0) (by decide +kernel) (zN_ (zd_ (zn_ (zo_ (zh_ zb_ (zg_ zb_)))) (zd_ (zn_ (zo_ (zh_ zb_ (zg_ zb_)))) (zd_ (zn_ (zo_ (zh_ zb_ (zg_ zb_)))) (zd_ (zs_ (zs_ (zN_ (zd_ (zi_ zb_) (zd_ (zi_ zb_) (zd_ (zi_ zb_) (zd_ (zi_ zD_) zp_))))))) (zd_ (zi_ (zay_ zj_)) (zd_ (zbF_ zD_) zp_))))))) (zi_ zj_) (zeS_ (zby_ rfl)) (zbW_ (zc7_ zb_ (ze_ 3 rfl)))) fun q17=>(at_ [(Zo (owAt w_ (Qq0 K)) q17.2),(Zf tyInt c),(Zo (owL tyStr) (s_2.1++[q17.1])),(Zf tyInt w13)] (zw_ (.same (.same (.same (.dead .nil)))))))))) fun s_2=>(at_ [(Zo (owAt w_ (Qq0 K)) s_2.2),(Zf tyInt c),(Zo (owL tyStr) s_2.1),Zd] (zlP_ (i:=0) (j:=2) (by decide) rfl rfl))))))
theorem zje_ (e:En K mg):zh8_ P w K mg base :=
 zf2_ e.m e.f25 (okC (N:=["card"]) (C:=(csLast tyStr)) (O:=(owF tyStr)) (t:=fun E=>zkZ_ K) (g:=fun c=>zfF_ c) 1 0 zu_ (fun _ _ _ _ _ _ E nd hr=>(zm_ (zY_ (zdC_ sl_M (za_ 0) (po_M (znq_ (e.m.gv e.c0))) zhZ_)))) fun c E=>at_ [(Zf tyStr c)]
 (zb9_ (zi_ zj_) (EvF.ow (znC_ (ze_ 0 rfl) (zlR_ (zt_ 36)) zo5_))))
theorem zjf_ (e:En K mg):zhS_ P w K mg base :=
 zf2_ e.m e.f26 (okC (N:=["card", "column"]) (C:=(csCons tyStr (csLast tyInt))) (O:=(owF tyStr)) (t:=fun E=>zkF_ K) (g:=fun c=>zf0_ c.1 c.2) 2 0 (zQ_ zu_) (fun _ _ _ _ _ _ E nd hr=>(zm_ (zY_ (zd3_ ix_M (za_ 0) (zak_ zd0_ (za_ 1) zq_) (fun _ _=>rfl))))) fun c E=>at_ [(Zf tyStr c.1),(Zf tyInt c.2)]
 (zb9_ (zi_ zj_) (EvF.ow (zL_ zn0_ (ze_ 0 rfl) (zL_ zdV_ (ze_ 1 rfl) (zt_ 1))))))
theorem zjs_ (e:En K mg) (g26:zhS_ P w K mg base):zhE_ P w K mg base :=
 zf2_ e.m e.f27 (okC (N:=["card", "board", "signs", "wire"]) (C:=(csCons tyStr (csLast (tyL Qq2)))) (O:=(owF tyStr)) (t:=fun E=>zkE_ K) (g:=fun c=>zfQ_ c.1 c.2) 2 2 (zQ_ zu_) (fun _ _ _ _ _ _ E nd hr=>(zf_ (zeO_ (cl:=[]) (lv:=["column"]) (fr:=[]) rfl (csm rfl fr0) (zcS_ (e.m.gb e.b0) (zc_ (znq_ (e.m.gv e.c0)) zl_)) (fun _ _ _ _=>(pgc 0)) (fun _ _ _ _=>zcu_) (fun _ _ _ _=>(zba_ (l:=[32]))) (pgn 2)) (zf_ (zcI_ PassesOwn.never rfl (zdv_ (za_ 1)) (pgn 3) (zm_ (zmr_ (zC_ g26 (hm hr) (zc_ (za_ 0) (zc_ (zd3_ ix_M (za_ 3) zq_ (fun _ _=>rfl)) zl_))) (zoR_ (za_ 2) (zak_ zd0_ (zd3_ ix_M (za_ 3) zq_ (fun _ _=>rfl)) zq_) set_M)))) (zm_ (zY_ (znl_ zdx_ zdB_ zkf_ (zba_ (l:=[])) (zc_ (za_ 2) zl_))))))) fun c E=>at_ [(Zf tyStr c.1),(Zf (tyL Qq2) c.2),Zd,Zd]
 (zbX_ (i:=2) rfl (zn_ zj_) (zcx_ (zeF_ (zk_ (zt_ 36))) (zab_ 0) (fun _=>dead1) (fun x_3=>zcr_) (fun x_3=>(zaX_ [32]))) fun u1''=>(at_ [(Zf tyStr c.1),(Zf (tyL Qq2) c.2),(Zo (owL tyStr) u1''),Zd] (zcD_ (LS:=(fun s_5:(List (List Nat))=>[(Zf tyStr c.1),(Zf (tyL Qq2) c.2),(Zo (owL tyStr) s_5),Zd])) (zcH_ (L':=[(Zf tyStr c.1),(Zf (tyL Qq2) c.2),(Zo (owL tyStr) u1''),Zd]) (S4 .nil) (zia_ (LS:=(fun s_5:(List (List Nat))=>[(Zf tyStr c.1),(Zf (tyL Qq2) c.2),(Zo (owL tyStr) s_5),Zd])) (s0:=u1'') (ei_l (ze_ 1 rfl)) (zab_ 3) fun s_5 t6=>at_ [(Zf tyStr c.1),(Zf (tyL Qq2) c.2),(Zo (owL tyStr) s_5),(Zf Qq2 t6)] (zc2_ (zoA_ (i:=2) rfl zj_ (zH_ (zr_ (ze_ 0 rfl) (zk_ (zfG_ (i:=0) at_0 (ze_ 3 rfl))))) (zL_ zdV_ (zfG_ (i:=1) (at_s zjM_) (ze_ 3 rfl)) (zt_ 1)) fun s20=>(at_ [(Zf tyStr c.1),(Zf (tyL Qq2) c.2),(Zo (owL tyStr) s20),(Zf Qq2 t6)] (zw_ (.same (.same (.same (.dead .nil)))))))))) fun s_5=>(at_ [(Zf tyStr c.1),(Zf (tyL Qq2) c.2),(Zo (owL tyStr) s_5),Zd] (zb9_ (zi_ zj_) (EvF.ow (znj_ zko_ (zaX_ []) (zk_ (zhK_ 2 rfl))))))))))
theorem zbV_ (e:En K mg) (g19:zec_ P w K mg base):zaU_ P w K mg base :=
 zfc_ e.w1 e.f28 (okC (N:=["self", "card", "place", "field"]) (C:=(csCons (Qq4 K) (csLast tyStr))) (O:=(owF tyInt)) (t:=fun E=>zb8_ K) (g:=fun c=>zaf_ c.1 c.2) 2 2 (zQ_ zu_) (fun _ _ _ _ _ _ E nd hr=>(zf_ (zcI_ PassesOwn.never rfl (zfN_ (by rfl) (e.m.gb e.b3) (zc_ (zJ_ e.w1.cls e.a4.no (za_ 0)) zl_)) (zga_ (n:=2) rfl (zas_ (pgn 2) (zas_ (pgn 3) zdI_))) (zm_ (zbG_ (zaJ_ (zlj_ hr.u60) (zC_ g19 (hm hr) (zc_ (za_ 1) (zc_ (za_ 3) zl_))) (zC_ g19 (hm hr) (zc_ (zJ_ e.w1.cls e.a8.no (za_ 0)) (zc_ (za_ 3) zl_)))) (zm_ (zY_ (zak_ z0_ (za_ 2) zq_))) zaz_))) (zm_ (zY_ (zak_ z0_ (zix_ zbl_ (e.m.gb e.b2) (zc_ (zJ_ e.w1.cls e.a4.no (za_ 0)) zl_)) zq_))))) fun c E=>at_ [(Zf (Qq4 K) c.1),(Zf tyStr c.2),Zd,Zd]
 (zcD_ (LS:=(fun _:Unit=>[(Zf (Qq4 K) c.1),(Zf tyStr c.2),Zd,Zd])) (zcH_ (L':=[(Zf (Qq4 K) c.1),(Zf tyStr c.2),Zd,Zd]) (S4 .nil) (zia_ (LS:=(fun _:Unit=>[(Zf (Qq4 K) c.1),(Zf tyStr c.2),Zd,Zd])) (s0:=()) (zfT_ (zk_ (za8_ (ns:=Qn0) (by decide +kernel) (n:=0) rfl at_0 (ze_ 0 rfl)))) (zjt_ (zZ_ zav_) (zgA_ 2 (zf9_ (zab_ 3)))) fun _ x_4=>at_ [(Zf (Qq4 K) c.1),(Zf tyStr c.2),(Zf tyInt x_4.1),(Zf Qq2 x_4.2)] (s_if (zaT_ (zL_ zor_ (zH_ (zr_ (ze_ 1 rfl) (zk_ (ze_ 3 rfl)))) (zH_ (zr_ (zjZ_ (za8_ (ns:=Qn0) (by decide +kernel) (n:=4) rfl (at_s (at_s (at_s (at_s at_0)))) (ze_ 0 rfl))) (zk_ (ze_ 3 rfl)))))) (zb9_ (zi_ zb_) (EvF.ow (zL_ zai_ (ze_ 2 rfl) (zt_ 1)))) (zw_ (.same (.same (.dead (.dead .nil)))))))) fun _=>(at_ [(Zf (Qq4 K) c.1),(Zf tyStr c.2),Zd,Zd] (zb9_ (zi_ zb_) (EvF.ow (zL_ zai_ (zjz_ zeJ_ (zk_ (za8_ (ns:=Qn0) (by decide +kernel) (n:=0) rfl at_0 (ze_ 0 rfl)))) (zt_ 1)))))))
theorem zhq_ (e:En K mg):zfr_ P w K mg base :=
 zf2_ e.m e.f29 (okC (N:=["figures", "value", "figure"]) (C:=(csLast tyStr)) (O:=(owF tyInt)) (t:=fun E=>zie_ K) (g:=fun c=>zdG_ c) 1 2 zu_ (fun _ _ _ _ _ _ E nd hr=>(zf_ (pst 1 zq_) (zf_ (zcI_ PassesOwn.never rfl (zdv_ (za_ 0)) (pgn 2) (zm_ (pst 1 (zak_ z0_ (zak_ zdh_ (za_ 1) zq_) (znl_ zgZ_ zhc_ zmA_ (znq_ (e.m.gv e.c1)) (zc_ (za_ 2) zl_)))))) (zm_ (zY_ (za_ 1)))))) fun c E=>at_ [(Zf tyStr c),Zd,Zd]
 (zd4_ (i:=1) rfl zb_ (zt_ 0) fun w1''=>(at_ [(Zf tyStr c),(Zf tyInt w1''),Zd] (zcD_ (LS:=(fun s_2:Int=>[(Zf tyStr c),(Zf tyInt s_2),Zd])) (zcH_ (L':=[(Zf tyStr c),(Zf tyInt w1''),Zd]) (.same (.same (.same .nil))) (zia_ (LS:=(fun s_2:Int=>[(Zf tyStr c),(Zf tyInt s_2),Zd])) (s0:=w1'') (znS_ (ze_ 0 rfl)) (zab_ 2) fun s_2 x_4=>at_ [(Zf tyStr c),(Zf tyInt s_2),(Zf tyStr x_4)] (zc2_ (zd4_ (i:=1) rfl zb_ (zL_ zai_ (zL_ zco_ (ze_ 1 rfl) (zt_ 10)) (znj_ zl9_ (zaX_ [48,49,50,51,52,53,54,55,56,57]) (zk_ (ze_ 2 rfl)))) fun u5'=>(at_ [(Zf tyStr c),(Zf tyInt u5'),(Zf tyStr x_4)] (zw_ (.same (.same (.dead .nil))))))))) fun s_2=>(at_ [(Zf tyStr c),(Zf tyInt s_2),Zd] (zb9_ (zi_ zb_) (EvF.ow (ze_ 1 rfl))))))))
theorem zhd_ (e:En K mg) (g19:zec_ P w K mg base) (g29:zfr_ P w K mg base):zfh_ P w K mg base :=
 zf2_ e.m e.f30 (okC (N:=["card", "field", "figures"]) (C:=(csCons tyStr (csLast Qq2))) (O:=(owF tyInt)) (t:=fun E=>ziC_ K) (g:=fun c=>zdD_ c.1 c.2) 2 1 (zQ_ zu_) (fun _ _ _ _ _ _ E nd hr=>(zf_ (zeO_ (cl:=[]) (lv:=["sign"]) (fr:=[]) rfl (csm rfl fr0) (zdv_ (zC_ g19 (hm hr) (zc_ (za_ 0) (zc_ (za_ 1) zl_)))) (fun _ _ _ _=>(pgc 0)) (fun _ _ _ _=>zcu_) (fun _ _ _ _=>(zpI_ (zaJ_ zpL_ (za_ 0) (znq_ (e.m.gv e.c1))) (za_ 0) (zba_ (l:=[48])))) (pgn 2)) (zm_ (zY_ (zC_ g29 (hm hr) (zc_ (znl_ zdx_ zdB_ zkf_ (zba_ (l:=[])) (zc_ (za_ 2) zl_)) zl_)))))) fun c E=>at_ [(Zf tyStr c.1),(Zf Qq2 c.2),Zd]
 (zbX_ (i:=2) rfl (zn_ zj_) (zcx_ (znS_ (zH_ (zr_ (ze_ 0 rfl) (zk_ (ze_ 1 rfl))))) (zab_ 0) (fun _=>dead1) (fun t6=>zcr_) (fun t6=>(ev_if (zaT_ (zL_ zqk_ (ze_ 0 rfl) (zaX_ [48,49,50,51,52,53,54,55,56,57]))) (ze_ 0 rfl) (zaX_ [48])))) fun z1'=>zng_ (i:=2) rfl (at_ [(Zf tyStr c.1),(Zf Qq2 c.2),(Zf (tyL tyStr) z1')] (zb9_ (zi_ zb_) (EvF.ow (zH_ (zk_ (znj_ zko_ (zaX_ []) (zk_ (ze_ 2 rfl))))))))))
theorem ze4_ (e:En K mg) (g24:zar_ P w K mg base) (g28:zaU_ P w K mg base) (g25:zh8_ P w K mg base) (g27:zhE_ P w K mg base) (g17:zax_ P w K mg base) (g30:zfh_ P w K mg base):zbP_ P w K mg base :=
 zfc_ e.w1 e.f31 (okR (N:=["self", "card", "lines", "mark", "laid"]) (O:=(Qq0 K)) (O2:=(Qq0 K)) (Or:=(owL tyStr)) (C:=(csLast tyStr)) (t:=fun E=>zft_ K) (g:=fun x c=>zbT_ x c) 1 3 zu_ (fun _ _ _ _ _ _ E nd hr=>(zf_ (pst 2 (zb4_ zl_)) (zf_ (zbG_ (zaJ_ zfs_ (zJ_ e.w1.cls e.a8.no (za_ 0)) zjL_) (zm_ (pst 2 (zaM_ g24 (hm hr) (za_ 0) (zc_ (zaM_ g28 (hm hr) (za_ 0) (zc_ (za_ 1) zl_)) zl_)))) zaz_) (zf_ (pst 3 (zC_ g25 (hm hr) (zc_ (za_ 1) zl_))) (zf_ (pst 4 (zC_ g27 (hm hr) (zc_ (za_ 1) (zc_ (zJ_ e.w1.cls e.a6.no (za_ 0)) zl_)))) (zf_ (zao_ (zg6_ zbv_ zR_ zP_ za6_ (za_ 2) (zc_ (zld_ (zkn_ (znY_ (za_ 3)) (zkn_ (zba_ (l:=[32])) (zkn_ (znY_ (za_ 4)) zpO_)))) zl_))) (zf_ (zao_ (zaM_ g17 (hm hr) (za_ 0) (zc_ (zix_ zbl_ (e.m.gb e.b2) (zc_ (zJ_ e.w1.cls e.a4.no (za_ 0)) zl_)) (zc_ (zdK_ (cl:=_) (lv:=["field"]) (fr:=[("card",1)]) rfl (csm rfl (frc fr0)) (zdv_ (zJ_ e.w1.cls e.a5.no (za_ 0))) (fun _ _ _ _=>(pgc 0)) (fun _ _ _ _=>zcu_) (fun _ _ _ _=>(zC_ g30 (hm hr) (zc_ (za_ 1) (zc_ (za_ 0) zl_))))) zl_)))) (zf_ (zaF_ e.w1.cls e.a8.no (za_ 0) (za_ 1)) (zm_ (zY_ (za_ 2))))))))))) fun w_ x c E=>at_ [(Zo (owAt w_ (Qq0 K)) x),(Zf tyStr c),Zd,Zd,Zd]
 (zbX_ (i:=2) rfl (zn_ zj_) (zcy_ tyStr) fun r1'=>(at_ [(Zo (owAt w_ (Qq0 K)) x),(Zf tyStr c),(Zo (owL tyStr) r1'),Zd,Zd] (zcD_ (LS:=(fun z6:((List (List Nat))×Qq1)=>[(Zo (owAt w_ (Qq0 K)) z6.2),(Zf tyStr c),(Zo (owL tyStr) z6.1),Zd,Zd])) (s_if (zaT_ (zL_ zmz_ (za8_ (ns:=Qn0) (by decide +kernel) (n:=4) rfl (at_s (at_s (at_s (at_s at_0)))) (zbb_ (P:=(Qq10 K)) 0 rfl)) zkI_)) (zc2_ (zqi_ (w:=2) rfl (by decide) (zaA_ (m := "close_levels") (ns:=Qn0) (by decide +kernel) (zN_ (zd_ (zn_ (zo_ (zh_ zb_ (zg_ zb_)))) (zd_ (zn_ (zo_ (zh_ zb_ (zg_ zb_)))) (zd_ (zn_ (zo_ (zh_ zb_ (zg_ zb_)))) (zd_ (zs_ (zs_ (zN_ (zd_ (zi_ zb_) (zd_ (zi_ zb_) (zd_ (zi_ zb_) (zd_ (zi_ zD_) zp_))))))) (zd_ (zi_ (zay_ zj_)) (zd_ (zbF_ zD_) zp_))))))) (zn_ zj_) (zeS_ (zby_ rfl)) (zbW_ (zc7_ zb_ (zjB_ (m := "changed_level") (ns:=Qn0) (by decide +kernel) (zbb_ (P:=(Qq10 K)) 0 rfl) (zk_ (ze_ 1 rfl)))))) fun q12=>(at_ [(Zo (owAt w_ (Qq0 K)) q12.2),(Zf tyStr c),(Zo (owL tyStr) q12.1),Zd,Zd] (zw_ (S4 (.same .nil)))))) (zw_ (S4 (.same .nil)))) fun z6=>(at_ [(Zo (owAt w_ (Qq0 K)) z6.2),(Zf tyStr c),(Zo (owL tyStr) z6.1),Zd,Zd] (zd4_ (i:=3) rfl zj_ (zH_ (zk_ (ze_ 1 rfl))) fun m13=>(at_ [(Zo (owAt w_ (Qq0 K)) z6.2),(Zf tyStr c),(Zo (owL tyStr) z6.1),(Zf tyStr m13),Zd] (zd4_ (i:=4) rfl zj_ (zH_ (zr_ (ze_ 1 rfl) (zk_ (za8_ (ns:=Qn0) (by decide +kernel) (n:=2) rfl (at_s (at_s at_0)) (zbb_ (P:=(Qq10 K)) 0 rfl))))) fun l15=>(at_ [(Zo (owAt w_ (Qq0 K)) z6.2),(Zf tyStr c),(Zo (owL tyStr) z6.1),(Zf tyStr m13),(Zf tyStr l15)] (zfx_ (i:=2) rfl zj_ (zk9_ (zjU_ (zlx_ (ze_ 3 rfl)) (zjU_ (zaX_ [32]) (zjU_ (zlx_ (ze_ 4 rfl)) zqv_)))) fun a28=>(at_ [(Zo (owAt w_ (Qq0 K)) z6.2),(Zf tyStr c),(Zo (owL tyStr) (z6.1++[a28])),(Zf tyStr m13),(Zf tyStr l15)] (ziQ_ (zaA_ (m := "raise_level") (ns:=Qn0) (by decide +kernel) (zN_ (zd_ (zn_ (zo_ (zh_ zb_ (zg_ zb_)))) (zd_ (zn_ (zo_ (zh_ zb_ (zg_ zb_)))) (zd_ (zn_ (zo_ (zh_ zb_ (zg_ zb_)))) (zd_ (zs_ (zs_ (zN_ (zd_ (zi_ zb_) (zd_ (zi_ zb_) (zd_ (zi_ zb_) (zd_ (zi_ zD_) zp_))))))) (zd_ (zi_ (zay_ zj_)) (zd_ (zbF_ zD_) zp_))))))) (zi_ zgm_) (zeS_ (zby_ rfl)) (zj1_ (zc7_ zb_ (zjz_ zeJ_ (zk_ (za8_ (ns:=Qn0) (by decide +kernel) (n:=0) rfl at_0 (zbb_ (P:=(Qq10 K)) 0 rfl))))) (zbW_ (zlV_ (zn_ zb_) (zcx_ (ei_l (za8_ (ns:=Qn0) (by decide +kernel) (n:=1) rfl (at_s at_0) (zbb_ (P:=(Qq10 K)) 0 rfl))) (zab_ 0) (fun _=>dead1) (fun x32=>zcr_) (fun x32=>(zH_ (zr_ (ze_ 1 rfl) (zk_ (ze_ 0 rfl)))))))))) fun q42=>(at_ [(Zo (owAt w_ (Qq0 K)) q42.2),(Zf tyStr c),(Zo (owL tyStr) (z6.1++[a28])),(Zf tyStr m13),(Zf tyStr l15)] (zf7_ (i:=0) (n:=4) (by decide +kernel) rfl (by decide) (zdc_ (zdc_ (zdc_ (zdc_ ziw_)))) (zay_ zj_) (znD_ (fun _ _ _=>zpx_) (ze_ 1 rfl)) (zet_ (zbZ_ rfl)) fun x44=>(at_ [(Zo (owAt w_ (Qq0 K)) x44),(Zf tyStr c),(Zo (owL tyStr) (z6.1++[a28])),(Zf tyStr m13),(Zf tyStr l15)] (zlP_ (i:=0) (j:=2) (by decide) rfl rfl))))))))))))))))
theorem zd2_ (e:En K mg) (g23:zat_ P w K mg base) (g24:zar_ P w K mg base):zbu_ P w K mg base :=
 zfc_ e.w1 e.f32 (okR (N:=["self"]) (O:=(Qq0 K)) (O2:=(Qq0 K)) (Or:=(owL tyStr)) (C:=csNil) (t:=fun E=>zeL_ K) (g:=fun x c=>zbr_ x) 0 0 zfb_ (fun _ _ _ _ _ _ E nd hr=>(zf_ (zbG_ (zaJ_ zp6_ (zJ_ e.w1.cls e.a8.no (za_ 0)) zjL_) (zm_ (zY_ (zb4_ (zc_ (zaM_ g23 (hm hr) (za_ 0) (zc_ zq_ zl_)) zl_)))) zaz_) (zm_ (zY_ (zaM_ g24 (hm hr) (za_ 0) (zc_ zq_ zl_)))))) fun w_ x c E=>at_ [(Zo (owAt w_ (Qq0 K)) x)]
 (zcD_ (LS:=(fun _:Unit=>[(Zo (owAt w_ (Qq0 K)) x)])) (s_if (zaT_ (zL_ zof_ (za8_ (ns:=Qn0) (by decide +kernel) (n:=4) rfl (at_s (at_s (at_s (at_s at_0)))) (zbb_ (P:=(Qq10 K)) 0 rfl)) zkI_)) (zmk_ (i:=0) (Nat.le_of_ble_eq_true rfl) (zaA_ (m := "close_level") (ns:=Qn0) (by decide +kernel) (zN_ (zd_ (zn_ (zo_ (zh_ zb_ (zg_ zb_)))) (zd_ (zn_ (zo_ (zh_ zb_ (zg_ zb_)))) (zd_ (zn_ (zo_ (zh_ zb_ (zg_ zb_)))) (zd_ (zs_ (zs_ (zN_ (zd_ (zi_ zb_) (zd_ (zi_ zb_) (zd_ (zi_ zb_) (zd_ (zi_ zD_) zp_))))))) (zd_ (zi_ (zay_ zj_)) (zd_ (zbF_ zD_) zp_))))))) (zi_ zj_) (zeS_ (zby_ rfl)) (zbW_ (zc7_ zb_ (zt_ 0))))) (zw_ (.same .nil))) fun _=>(at_ [(Zo (owAt w_ (Qq0 K)) x)] (zn2_ (i:=0) (Nat.le_of_ble_eq_true rfl) (zaA_ (m := "close_levels") (ns:=Qn0) (by decide +kernel) (zN_ (zd_ (zn_ (zo_ (zh_ zb_ (zg_ zb_)))) (zd_ (zn_ (zo_ (zh_ zb_ (zg_ zb_)))) (zd_ (zn_ (zo_ (zh_ zb_ (zg_ zb_)))) (zd_ (zs_ (zs_ (zN_ (zd_ (zi_ zb_) (zd_ (zi_ zb_) (zd_ (zi_ zb_) (zd_ (zi_ zD_) zp_))))))) (zd_ (zi_ (zay_ zj_)) (zd_ (zbF_ zD_) zp_))))))) (zn_ zj_) (zeS_ (zby_ rfl)) (zbW_ (zc7_ zb_ (zt_ 0))))))))
theorem zd6_ (e:En K mg) (g32:zbu_ P w K mg base):zcn_ P w K mg base :=
 zfc_ e.w2 e.f33 (okU (N:=["self"]) (O:=(Qq3 K)) (O2:=(Qq3 K)) (C:=csNil) (t:=fun E=>zez_ K) (g:=fun x c=>zbw_ x) (LS:=fun w_=>(fun x':Qq6=>[(Zo (owAt w_ (Qq3 K)) x')])) 0 0 zfb_ (fun _ _ _ _ _ _ E nd hr=>(zm_ (zao_ (zg6_ zbv_ zaK_ zaS_ zdi_ (zJ_ e.w2.cls e.a13.no (za_ 0)) (zc_ (z2_ g32 (hm hr) (zJ_ e.w2.cls e.a12.no (za_ 0))) zl_))))) fun w_ x c E=>at_ [(Zo (owAt w_ (Qq3 K)) x)]
 (zc2_ (zls_ (n:=3) (Pv:=fun v_1=>(psO (owLO (owL tyStr)) (psO (owL tyInt) (psO (Qq0 K) (psO (owAt v_1 (owL tyStr)) psNil))))) (pr:=fun c=>c.2.2.2.1) (st:=fun c a=>(c.1,(c.2.1,(c.2.2.1,(a,c.2.2.2.2))))) rfl (by decide +kernel) rfl (znk_ (znk_ (znk_ pin_0))) (znm_ (znm_ (znm_ unp_0))) (fun _=>(ze3_ (ze3_ (ze3_ zle_)))) (fun v_1=>(zaA_ (m := "finish") (ns:=Qn0) (by decide +kernel) (zN_ (zd_ (zn_ (zo_ (zh_ zb_ (zg_ zb_)))) (zd_ (zn_ (zo_ (zh_ zb_ (zg_ zb_)))) (zd_ (zn_ (zo_ (zh_ zb_ (zg_ zb_)))) (zd_ (zs_ (zs_ (zN_ (zd_ (zi_ zb_) (zd_ (zi_ zb_) (zd_ (zi_ zb_) (zd_ (zi_ zD_) zp_))))))) (zd_ (zi_ (zay_ zj_)) (zd_ (zbF_ zD_) zp_))))))) (zn_ zj_) (zhX_ (ns:=Qn1) (by decide +kernel) (n:=2) rfl (ze3_ (ze3_ zle_)) (zeS_ (zby_ rfl))) zjJ_)) fun y6=>(at_ [(Zo (owAt w_ (Qq3 K)) (y6.2.1,(y6.2.2.1,(y6.2.2.2.1,(y6.2.2.2.2.1++y6.1,y6.2.2.2.2.2)))))] (zw_ (.same .nil))))))
theorem zd7_ (e:En K mg):zce_ P w K mg base :=
 zfc_ e.w2 e.f34 (okC (N:=["self"]) (C:=(csLast (Qq7 K))) (O:=(owL tyStr)) (t:=fun E=>zeu_ K) (g:=fun c=>zbo_ c) 1 0 zu_ (fun _ _ _ _ _ _ E nd hr=>(zm_ (zY_ (zkq_ "list" (za9_ rfl) (e.m.gb e.b1) (zc_ (zd3_ ix_M (zJ_ e.w2.cls e.a10.no (za_ 0)) zq_ (fun _ _=>rfl)) zl_))))) fun c E=>at_ [(Zf (Qq7 K) c)]
 (zb9_ (zn_ zj_) (zfL_ zdZ_ (zk_ (zL_ zfD_ (za8_ (ns:=Qn1) (by decide +kernel) (n:=0) rfl at_0 (ze_ 0 rfl)) (zt_ 0))))))
theorem zfM_ (e:En K mg):zd1_ P w K mg base :=
 zf2_ e.m e.f35 (okC (N:=["_law_found", "_law_due", "_law_card_here", "_law_other"]) (C:=(csCons (tyL tyStr) (csLast (tyL tyStr)))) (O:=(owF tyBl)) (t:=fun E=>zgH_ K) (g:=fun c=>zcb_ c.1 c.2) 2 2 (zQ_ zu_) (fun _ _ _ _ _ _ E nd hr=>(zf_ (zbG_ (PW.pt (ziz_ (zgL_ (zdb_ (zix_ zjm_ (e.m.gb e.b6) (zc_ (za_ 0) (zc_ (pe_ty "list" (e.m.gb e.b1)) zl_))))) (zii_ (zaJ_ (zlj_ hr.u60) (zix_ zbl_ (e.m.gb e.b2) (zc_ (za_ 0) zl_)) (zix_ zbl_ (e.m.gb e.b2) (zc_ (za_ 1) zl_)))))) (zm_ (zY_ ziF_)) zaz_) (zf_ (zcI_ PassesOwn.never rfl (zqf_ (e.m.gb e.b7) (zc_ (za_ 0) (zc_ (za_ 1) zl_))) (zga_ (n:=2) rfl (zas_ (pgn 2) (zas_ (pgn 3) zdI_))) (zm_ (zbG_ (PW.pt (ziz_ (zgL_ (zdb_ (zix_ zjm_ (e.m.gb e.b6) (zc_ (za_ 2) (zc_ (pe_ty "str" (e.m.gb e.b4)) zl_))))) (zii_ (zaJ_ (zlj_ hr.u60) (za_ 2) (za_ 3))))) (zm_ (zY_ ziF_)) zaz_))) (zm_ (zY_ ziF_))))) fun c E=>at_ [(Zf (tyL tyStr) c.1),(Zf (tyL tyStr) c.2),Zd,Zd]
 (zcD_ (LS:=(fun _:Unit=>[(Zf (tyL tyStr) c.1),(Zf (tyL tyStr) c.2),Zd,Zd])) (s_if (zo4_ (zgl_ (zaT_ (zoK_ tn_l (ze_ 0 rfl)))) (zaT_ (zL_ zqe_ (zjz_ zeJ_ (zk_ (ze_ 0 rfl))) (zjz_ zeJ_ (zk_ (ze_ 1 rfl)))))) (zb9_ (zi_ zD_) (EvF.ow (zh5_ false))) (zw_ (S4 .nil))) fun _=>(at_ [(Zf (tyL tyStr) c.1),(Zf (tyL tyStr) c.2),Zd,Zd] (zcD_ (LS:=(fun _:Unit=>[(Zf (tyL tyStr) c.1),(Zf (tyL tyStr) c.2),Zd,Zd])) (zcH_ (L':=[(Zf (tyL tyStr) c.1),(Zf (tyL tyStr) c.2),Zd,Zd]) (S4 .nil) (zia_ (LS:=(fun _:Unit=>[(Zf (tyL tyStr) c.1),(Zf (tyL tyStr) c.2),Zd,Zd])) (s0:=()) (zpl_ (zr_ (ze_ 0 rfl) (zk_ (ze_ 1 rfl)))) (zjt_ (zZ_ zav_) (zgA_ 2 (zf9_ (zab_ 3)))) fun _ x15=>at_ [(Zf (tyL tyStr) c.1),(Zf (tyL tyStr) c.2),(Zf tyStr x15.1),(Zf tyStr x15.2)] (s_if (zo4_ (zgl_ (zaT_ (zoK_ zpP_ (ze_ 2 rfl)))) (zaT_ (zL_ zor_ (ze_ 2 rfl) (ze_ 3 rfl)))) (zb9_ (zi_ zD_) (EvF.ow (zh5_ false))) (zw_ (.same (.same (.dead (.dead .nil)))))))) fun _=>(at_ [(Zf (tyL tyStr) c.1),(Zf (tyL tyStr) c.2),Zd,Zd] (zb9_ (zi_ zD_) (EvF.ow (zh5_ true))))))))
theorem zks_ (e:En K mg):zjC_ P w K mg base :=
 zf2_ e.m e.f36 (okC (N:=["some", "deck", "pocket"]) (C:=(csLast (tyL (tyL tyStr)))) (O:=(owL tyStr)) (t:=fun E=>zmE_ K) (g:=fun c=>zg2_ c) 1 2 zu_ (fun _ _ _ _ _ _ E nd hr=>(zf_ (pst 1 (zb4_ zl_)) (zf_ (zcI_ PassesOwn.never rfl (zdv_ (za_ 0)) (pgn 2) (zm_ (zao_ (zg6_ zbv_ zaK_ zaS_ zdi_ (za_ 1) (zc_ (za_ 2) zl_))))) (zm_ (zY_ (za_ 1)))))) fun c E=>at_ [(Zf (tyL (tyL tyStr)) c),Zd,Zd]
 (zbX_ (i:=1) rfl (zn_ zj_) (zcy_ tyStr) fun v1'=>(at_ [(Zf (tyL (tyL tyStr)) c),(Zo (owL tyStr) v1'),Zd] (zcD_ (LS:=(fun s_2:(List (List Nat))=>[(Zf (tyL (tyL tyStr)) c),(Zo (owL tyStr) s_2),Zd])) (zcH_ (L':=[(Zf (tyL (tyL tyStr)) c),(Zo (owL tyStr) v1'),Zd]) (.same (.same (.same .nil))) (zia_ (LS:=(fun s_2:(List (List Nat))=>[(Zf (tyL (tyL tyStr)) c),(Zo (owL tyStr) s_2),Zd])) (s0:=v1') (ei_l (ze_ 0 rfl)) (zab_ 2) fun s_2 x_3=>at_ [(Zf (tyL (tyL tyStr)) c),(Zo (owL tyStr) s_2),(Zf (tyL tyStr) x_3)] (zc2_ (zg5_ (i:=1) rfl zj_ (ze_ 2 rfl) fun w4=>(at_ [(Zf (tyL (tyL tyStr)) c),(Zo (owL tyStr) (s_2++w4)),(Zf (tyL tyStr) x_3)] (zw_ (.same (.same (.dead .nil))))))))) fun s_2=>(at_ [(Zf (tyL (tyL tyStr)) c),(Zo (owL tyStr) s_2),Zd] (zlk_ (i:=1) rfl))))))
theorem zcO_ (e:En K mg) (g36:zjC_ P w K mg base):zbA_ P w K mg base :=
 zfc_ e.w2 e.f37 (okC (N:=["self"]) (C:=(csLast (Qq7 K))) (O:=(owL tyStr)) (t:=fun E=>zcT_ K) (g:=fun c=>zaD_ c) 1 0 zu_ (fun _ _ _ _ _ _ E nd hr=>(zm_ (zY_ (zC_ g36 (hm hr) (zc_ (zdC_ sl_M (zJ_ e.w2.cls e.a10.no (za_ 0)) (po_M zq_) zhZ_) zl_))))) fun c E=>at_ [(Zf (Qq7 K) c)]
 (zb9_ (zn_ zj_) (zbQ_ (zk_ (EvO.fr (zmC_ (za8_ (ns:=Qn1) (by decide +kernel) (n:=0) rfl at_0 (ze_ 0 rfl)) (zlR_ (zt_ 1)) zo5_))))))
theorem zd9_ (e:En K mg):zcf_ P w K mg base :=
 zfc_ e.w2 e.f38 (okU (N:=["self", "card", "number"]) (O:=(Qq3 K)) (O2:=(Qq3 K)) (C:=(csCons tyStr (csLast tyInt))) (t:=fun E=>zeP_ K) (g:=fun x c=>zbz_ x c.1 c.2) (LS:=fun w_=>(fun x':Qq6=>[(Zo (owAt w_ (Qq3 K)) x'),Zd,Zd])) 2 0 (zQ_ zu_) (fun _ _ _ _ _ _ E nd hr=>(zf_ (zao_ (zg6_ zbv_ zR_ zP_ za6_ (zd3_ ix_M (zJ_ e.w2.cls e.a10.no (za_ 0)) (za_ 2) (fun _ _=>rfl)) (zc_ (za_ 1) zl_))) (zm_ (zao_ (zg6_ zbv_ zR_ zP_ za6_ (zJ_ e.w2.cls e.a11.no (za_ 0)) (zc_ (za_ 2) zl_)))))) fun w_ x c E=>at_ [(Zo (owAt w_ (Qq3 K)) x),(Zf tyStr c.1),(Zf tyInt c.2)]
 (zgv_ (i:=0) (zqr_ (ziJ_ (ns:=Qn1) (by decide +kernel) (n:=0) rfl zle_ (zet_ (zbZ_ rfl))) (ze_ 2 rfl)) zj_ (ze_ 1 rfl) fun x8=>(at_ [(Zo (owAt w_ (Qq3 K)) x8),(Zf tyStr c.1),(Zf tyInt c.2)] (zc2_ (zgv_ (i:=0) (ziJ_ (ns:=Qn1) (by decide +kernel) (n:=1) rfl (ze3_ zle_) (zet_ (zbZ_ rfl))) zb_ (ze_ 2 rfl) fun x12=>(at_ [(Zo (owAt w_ (Qq3 K)) x12),(Zf tyStr c.1),(Zf tyInt c.2)] (zw_ (.same (.dead (.dead .nil))))))))))
theorem ze5_ (e:En K mg) (g31:zbP_ P w K mg base) (g38:zcf_ P w K mg base):zdr_ P w K mg base :=
 zfc_ e.w2 e.f39 (okU (N:=["self", "card"]) (O:=(Qq3 K)) (O2:=(Qq3 K)) (C:=(csLast tyStr)) (t:=fun E=>zfU_ K) (g:=fun x c=>zbS_ x c) (LS:=fun w_=>(fun x':Qq6=>[(Zo (owAt w_ (Qq3 K)) x'),Zd])) 1 0 zu_ (fun _ _ _ _ _ _ E nd hr=>(zf_ (zao_ (zg6_ zbv_ zaK_ zaS_ zdi_ (zJ_ e.w2.cls e.a13.no (za_ 0)) (zc_ (zaM_ g31 (hm hr) (zJ_ e.w2.cls e.a12.no (za_ 0)) (zc_ (za_ 1) zl_)) zl_))) (zm_ (zao_ (zaM_ g38 (hm hr) (za_ 0) (zc_ (za_ 1) (zc_ zq_ zl_))))))) fun w_ x c E=>at_ [(Zo (owAt w_ (Qq3 K)) x),(Zf tyStr c)]
 (zls_ (n:=3) (Pv:=fun v_1=>(psO (owLO (owL tyStr)) (psO (owL tyInt) (psO (Qq0 K) (psO (owAt v_1 (owL tyStr)) psNil))))) (pr:=fun c=>c.2.2.2.1) (st:=fun c a=>(c.1,(c.2.1,(c.2.2.1,(a,c.2.2.2.2))))) rfl (by decide +kernel) rfl (znk_ (znk_ (znk_ pin_0))) (znm_ (znm_ (znm_ unp_0))) (fun _=>(ze3_ (ze3_ (ze3_ zle_)))) (fun v_1=>(zaA_ (m := "feed") (ns:=Qn0) (by decide +kernel) (zN_ (zd_ (zn_ (zo_ (zh_ zb_ (zg_ zb_)))) (zd_ (zn_ (zo_ (zh_ zb_ (zg_ zb_)))) (zd_ (zn_ (zo_ (zh_ zb_ (zg_ zb_)))) (zd_ (zs_ (zs_ (zN_ (zd_ (zi_ zb_) (zd_ (zi_ zb_) (zd_ (zi_ zb_) (zd_ (zi_ zD_) zp_))))))) (zd_ (zi_ (zay_ zj_)) (zd_ (zbF_ zD_) zp_))))))) (zn_ zj_) (zhX_ (ns:=Qn1) (by decide +kernel) (n:=2) rfl (ze3_ (ze3_ zle_)) (zeS_ (zby_ rfl))) (zbW_ (zc7_ zj_ (ze_ 1 rfl))))) fun y6=>(at_ [(Zo (owAt w_ (Qq3 K)) (y6.2.1,(y6.2.2.1,(y6.2.2.2.1,(y6.2.2.2.2.1++y6.1,y6.2.2.2.2.2))))),(Zf tyStr c)] (zc2_ (zg1_ (i:=0) (m := "lay_in") (ns:=Qn1) (by decide +kernel) (zN_ (zd_ (zs_ (zn_ zj_)) (zd_ (zn_ zb_) (zd_ (zN_ (zd_ (zn_ (zo_ (zh_ zb_ (zg_ zb_)))) (zd_ (zn_ (zo_ (zh_ zb_ (zg_ zb_)))) (zd_ (zn_ (zo_ (zh_ zb_ (zg_ zb_)))) (zd_ (zs_ (zs_ (zN_ (zd_ (zi_ zb_) (zd_ (zi_ zb_) (zd_ (zi_ zb_) (zd_ (zi_ zD_) zp_))))))) (zd_ (zi_ (zay_ zj_)) (zd_ (zbF_ zD_) zp_))))))) (zd_ (zn_ zj_) zp_))))) (zet_ (zbZ_ rfl)) (zh_ zj_ (zg_ zb_)) (zr_ (ze_ 1 rfl) (zk_ (zt_ 0))) fun x12=>(at_ [(Zo (owAt w_ (Qq3 K)) x12),(Zf tyStr c)] (zw_ (.same (.dead .nil)))))))))
theorem zcW_ (e:En K mg):zbC_ P w K mg base :=
 zfc_ e.w2 e.f40 (okC (N:=["self"]) (C:=(csLast (Qq7 K))) (O:=(owL tyStr)) (t:=fun E=>zds_ K) (g:=fun c=>zbB_ c) 1 0 zu_ (fun _ _ _ _ _ _ E nd hr=>(zm_ (zY_ (zkq_ "list" (za9_ rfl) (e.m.gb e.b1) (zc_ (zJ_ e.w2.cls e.a13.no (za_ 0)) zl_))))) fun c E=>at_ [(Zf (Qq7 K) c)]
 (zb9_ (zn_ zj_) (zfL_ zdZ_ (zk_ (za8_ (ns:=Qn1) (by decide +kernel) (n:=3) rfl (at_s (at_s (at_s at_0))) (ze_ 0 rfl))))))
theorem zir_ (e:En K mg):zgi_ P w K mg base :=
 zf2_ e.m e.f41 (okC (N:=["some", "numbers", "taken", "deck", "number"]) (C:=(csCons (tyL (tyL tyStr)) (csLast (tyL tyInt)))) (O:=(owL tyStr)) (t:=fun E=>zjI_ K) (g:=fun c=>zeK_ c.1 c.2) 2 3 (zQ_ zu_) (fun _ _ _ _ _ _ E nd hr=>(zf_ (zeO_ (cl:=[]) (lv:=["pocket"]) (fr:=[]) rfl (csm rfl fr0) (zdv_ (za_ 0)) (fun _ _ _ _=>(pgc 0)) (fun _ _ _ _=>zcu_) (fun _ _ _ _=>zq_) (pgn 2)) (zf_ (pst 3 (zb4_ zl_)) (zf_ (zcI_ PassesOwn.never rfl (zdv_ (za_ 1)) (pgn 4) (zf_ (zao_ (zg6_ zbv_ zR_ zP_ za6_ (za_ 3) (zc_ (zd3_ ix_M (zd3_ ix_M (za_ 0) (za_ 4) (fun _ _=>rfl)) (zd3_ ix_M (za_ 2) (za_ 4) (fun _ _=>rfl)) (fun _ _=>rfl)) zl_))) (zm_ (zmr_ (zak_ z0_ (zd3_ ix_M (za_ 2) (za_ 4) (fun _ _=>rfl)) zq_) (zoR_ (za_ 2) (za_ 4) set_M))))) (zm_ (zY_ (za_ 3))))))) fun c E=>at_ [(Zf (tyL (tyL tyStr)) c.1),(Zf (tyL tyInt) c.2),Zd,Zd,Zd]
 (zbX_ (i:=2) rfl (zn_ zb_) (zcx_ (ei_l (ze_ 0 rfl)) (zab_ 0) (fun _=>dead1) (fun x_2=>zcr_) (fun x_2=>(zt_ 0))) fun v1''=>(at_ [(Zf (tyL (tyL tyStr)) c.1),(Zf (tyL tyInt) c.2),(Zo (owL tyInt) v1''),Zd,Zd] (zbX_ (i:=3) rfl (zn_ zj_) (zcy_ tyStr) fun u4'=>(at_ [(Zf (tyL (tyL tyStr)) c.1),(Zf (tyL tyInt) c.2),(Zo (owL tyInt) v1''),(Zo (owL tyStr) u4'),Zd] (zcD_ (LS:=(fun s_5:((List (List Nat))×(List Int))=>[(Zf (tyL (tyL tyStr)) c.1),(Zf (tyL tyInt) c.2),(Zo (owL tyInt) s_5.2),(Zo (owL tyStr) s_5.1),Zd])) (zcH_ (L':=[(Zf (tyL (tyL tyStr)) c.1),(Zf (tyL tyInt) c.2),(Zo (owL tyInt) v1''),(Zo (owL tyStr) u4'),Zd]) (S4 (.same .nil)) (zia_ (LS:=(fun s_5:((List (List Nat))×(List Int))=>[(Zf (tyL (tyL tyStr)) c.1),(Zf (tyL tyInt) c.2),(Zo (owL tyInt) s_5.2),(Zo (owL tyStr) s_5.1),Zd])) (s0:=(u4',v1'')) (ei_l (ze_ 1 rfl)) (zab_ 4) fun s_5 t6=>at_ [(Zf (tyL (tyL tyStr)) c.1),(Zf (tyL tyInt) c.2),(Zo (owL tyInt) s_5.2),(Zo (owL tyStr) s_5.1),(Zf tyInt t6)] (zfx_ (i:=3) rfl zj_ (zL_ zfD_ (zL_ zfD_ (ze_ 0 rfl) (ze_ 4 rfl)) (zL_ zfD_ (zhK_ 2 rfl) (ze_ 4 rfl))) fun v13=>(at_ [(Zf (tyL (tyL tyStr)) c.1),(Zf (tyL tyInt) c.2),(Zo (owL tyInt) s_5.2),(Zo (owL tyStr) (s_5.1++[v13])),(Zf tyInt t6)] (zc2_ (zoA_ (i:=2) rfl zb_ (zL_ zai_ (zL_ zfD_ (zhK_ 2 rfl) (ze_ 4 rfl)) (zt_ 1)) (ze_ 4 rfl) fun t24=>(at_ [(Zf (tyL (tyL tyStr)) c.1),(Zf (tyL tyInt) c.2),(Zo (owL tyInt) t24),(Zo (owL tyStr) (s_5.1++[v13])),(Zf tyInt t6)] (zw_ (S4 (.dead .nil)))))))))) fun s_5=>(at_ [(Zf (tyL (tyL tyStr)) c.1),(Zf (tyL tyInt) c.2),(Zo (owL tyInt) s_5.2),(Zo (owL tyStr) s_5.1),Zd] (zlk_ (i:=3) rfl))))))))
theorem ze6_ (e:En K mg) (g41:zgi_ P w K mg base):zc3_ P w K mg base :=
 zfc_ e.w2 e.f42 (okC (N:=["self"]) (C:=(csLast (Qq7 K))) (O:=(owL tyStr)) (t:=fun E=>zfC_ K) (g:=fun c=>zbO_ c) 1 0 zu_ (fun _ _ _ _ _ _ E nd hr=>(zm_ (zY_ (zC_ g41 (hm hr) (zc_ (zJ_ e.w2.cls e.a10.no (za_ 0)) (zc_ (zJ_ e.w2.cls e.a11.no (za_ 0)) zl_)))))) fun c E=>at_ [(Zf (Qq7 K) c)]
 (zb9_ (zn_ zj_) (zbQ_ (zr_ (za8_ (ns:=Qn1) (by decide +kernel) (n:=0) rfl at_0 (ze_ 0 rfl)) (zk_ (za8_ (ns:=Qn1) (by decide +kernel) (n:=1) rfl (at_s at_0) (ze_ 0 rfl)))))))
end
end K59
namespace K59
open PySem PySem.Spec PyProof.Rows L2
open Mo renaming bind→Mb,ok→Mq
open Sl renaming fz→Zf,dead→Zd,ow→Zo
local macro_rules | `(tactic| walk_at "mo") => `(tactic| simp only [Mo.okB, Mo.exB, Mo.noB, Mo.noexO, Mo.optS, zi1_, znb_, zmg_, zmj_, zql_, zmR_, zoZ_, zoI_, zfA_, grd_T, Bool.not_true, Bool.not_false, if_true, if_false, Bool.false_eq_true, Option.map_some, Option.map_none, ite_true, ite_false, Int.reduceLT, Int.reduceLE, Int.reduceNeg, Int.reduceSub, Int.reduceAdd, Int.reduceMul, Nat.reduceAdd, Nat.reduceLT, decide_true, decide_false, Option.isSome_none, Option.isSome_some, Option.isNone_none, Option.isNone_some, Bool.and_true, Bool.and_false])
theorem zi3_ (ns:List Int) (k:Int) (h:0≤k):∃ c,zaE_ ns k=.ok c:=by
 unfold zaE_ zcl_
 walk_at "mo"
 by_cases hk:k<(ns.length:Int)
 ·obtain ⟨x,e,_⟩:=zfw_ h hk
  rw [decide_eq_true hk,if_pos rfl,e]
  exact ⟨x,rfl⟩
 ·rw [decide_eq_false hk,if_neg (by decide)]
  exact ⟨0,rfl⟩
theorem fold10 {α:Type}:∀ (xs:List α) (a:Int),xs.foldl (fun s _=>10*s) a=10 ^ xs.length*a
 | [],a=>by simp
 | x::xs,a=>by rw [List.foldl_cons,fold10 xs,List.length_cons,Int.pow_succ,Int.mul_assoc]
theorem zkW_ {n:Int}(h0:0≤n) (h1:n≤1000):zf1_ n=.ok (10 ^ n.toNat):=by
 unfold zf1_ zgU_
 simp only [Mo.okB]
 rw [Mo.grd_ok ⟨by lia,by lia⟩,Mo.okB,zeo_ (fun s _=>10*s) (fun s x _=>by rw [zjY_ (by decide) (by decide)]; simp [Int.mul_comm]),fold10,zbH_]
 simp
theorem zeh_ (n:Nat):(0:Int)<10 ^ n:=Int.pow_pos (by decide)
theorem zjG_ {v:Int}{n:Nat}(h0:0≤v) (h1:v<10 ^ n) (hn:n≤100):v.natAbs.log2<1920:=by
 have h2:v.natAbs<10 ^ n:=by
  have e1:(10:Int) ^ n=((10 ^ n:Nat):Int):=by rw [Int.natCast_pow]; rfl
  rw [e1] at h1; lia
 have h3:10 ^ n≤10 ^ 100:=Nat.pow_le_pow_right (by decide) hn
 have h4:(10:Nat) ^ 100<2 ^ 1000:=by decide
 rcases log2_lt (Nat.lt_of_lt_of_le (Nat.lt_of_lt_of_le h2 h3) (Nat.le_of_lt h4)) with q | q
 ·lia
 ·rw [q]; decide
theorem zjx_ {w:Nat}{v:Int}(hw:1≤w) (h0:0≤v) (h1:v<10 ^ w):zfL (strI v) (w:Int)=digs w v.toNat:=by
 obtain ⟨m,rfl⟩:=Int.eq_ofNat_of_zero_le h0
 rw [ziU_]
 have h2:m<10 ^ w:=by
  have e1:(10:Int) ^ w=((10 ^ w:Nat):Int):=by rw [Int.natCast_pow]; rfl
  rw [e1] at h1; lia
 exact zjv_ hw h2
theorem zpa_ (v:Int) {j w:Nat}(h:j<w):((v % 10 ^ w).toNat / 10 ^ j % 10:Nat)=(v / 10 ^ j % 10).toNat:=by
 have hp:=zeh_ j
 have hw:=zeh_ w
 obtain ⟨d,rfl⟩:∃ d,w=j+(d+1):=⟨w-j-1,by lia⟩
 have e0:v=v % 10 ^ (j+(d+1))+10 ^ j*(10*(10 ^ d*(v / 10 ^ (j+(d+1))))):=by
  have:=Int.emod_add_mul_ediv v (10 ^ (j+(d+1)))
  rw [← Int.mul_assoc 10,← Int.mul_assoc (10 ^ j),show (10:Int) ^ j*(10*10 ^ d)=10 ^ (j+(d+1)) by rw [Int.pow_add,Int.pow_succ]; simp [Int.mul_comm,Int.mul_left_comm,Int.mul_assoc]]
  lia
 have h0:0≤v % 10 ^ (j+(d+1)):=Int.emod_nonneg v (Int.ne_of_gt hw)
 generalize v % 10 ^ (j+(d+1))=m at *
 generalize (10 ^ d*(v / 10 ^ (j+(d+1))))=q at *
 subst e0
 rw [Int.add_mul_ediv_left _ _ (Int.ne_of_gt hp),Int.add_mul_emod_self_left]
 obtain ⟨n,rfl⟩:=Int.eq_ofNat_of_zero_le h0
 rw [Int.toNat_natCast,show (10:Int) ^ j=((10 ^ j:Nat):Int) by rw [Int.natCast_pow]; rfl]
 lia
theorem zo1_ {d:Int}(h0:0≤d) (h1:d<10):strI d=[48+d.toNat]:=by
 obtain ⟨m,rfl⟩:=Int.eq_ofNat_of_zero_le h0
 rw [ziU_,zp3_ (by lia)]
 rfl
def isF (f:Int×Int):Prop:=1≤f.1∧f.1≤f.2∧f.2≤36
def prt (c:List Nat) (f:Int×Int):List Nat:=cutG c (some (f.1-1)) (some f.2)
def num (c:List Nat) (f:Int×Int):Int:=numL ((prt c f).map fig)
def wd (f:Int×Int):Nat:=(f.2-f.1+1).toNat
def pun (c:List Nat) (f:Int×Int) (v:Int):List Nat:=cutG c none (some (f.1-1))++digs (wd f) (v % 10 ^ wd f).toNat++cutG c (some f.2) none
theorem zgK_ (c:List Nat) (f:Int×Int) (h:c.length≤100000):za5_ c f=.ok (prt c f):=by
 unfold za5_ zf3_
 walk_at "mo"
 rw [Mo.lim_ok h]
 rfl
theorem zg8_ (l:List Nat) (h:∀ c∈l,48≤c∧c≤57):zcF_ l=.ok (numL l):=by
 unfold zcF_ zdG_
 walk_at "mo"
 rw [zeo_ (fun (s:Int) (x:List Nat)=>s*10+((x.headD 0:Nat)-48))]
 ·rw [List.foldl_map]
  rfl
 ·intro s x hx
  obtain ⟨c,hc,rfl⟩:=List.mem_map.mp hx
  rw [zjY_ (by decide) (by decide)]
  walk_at "mo"
  have:=h c hc
  rw [ziK_ this,Mo.grd_ok (by lia)]
  rfl
theorem zgy_ (l:List Nat):joinS [] (strsL (l.map fun c=>[c]))=l:=by
 have:=L2.zkU_ l
 unfold strsL
 rw [List.map_map]
 exact this
theorem zlf_ (c:List Nat) (f:Int×Int) (h:c.length≤1000):zbM_ c f=.ok (num c f):=by
 unfold zbM_ zdD_
 walk_at "mo"
 have hp:(prt c f).length≤1000:=Nat.le_trans (zeq_ _ _ _) h
 rw [zgK_ c f (by lia)]
 walk_at "mo"
 rw [zaN_ (g:=fun x=>[fig (x.headD 0)]) (fun x hx=>?_) (by rw [List.length_map]; simp; lia)]
 ·walk_at "mo"
  have e:List.map (fun x:List Nat=>[fig (x.headD 0)]) (List.map (fun c=>[c]) (prt c f))=((prt c f).map fig).map fun c=>[c]:=by
   rw [List.map_map,List.map_map]; rfl
  rw [List.nil_append,e,zgy_,Mo.grd_ok,Mo.okB,zg8_ _ (fun c hc=>?_)]
  ·rfl
  ·obtain ⟨b,_,rfl⟩:=List.mem_map.mp hc
   exact zhC_ b
  ·refine zeY_ ?_ ?_
   ·unfold strsL; simp [Str.length]; lia
   ·intro z hz
    unfold strsL at hz
    rw [List.map_map] at hz
    obtain ⟨b,_,rfl⟩:=List.mem_map.mp hz
    exact Nat.le_refl 1
 ·obtain ⟨d,hd,rfl⟩:=List.mem_map.mp hx
  rw [zkT_]
  unfold fig cond1
  by_cases q:48≤d∧d≤57
  ·simp [q]
  ·simp [q]
theorem zlU_:∀ (l:List Nat) (a:Int),(∀ c∈l,48≤c∧c≤57)→0≤a→0≤l.foldl (fun (v:Int) (c:Nat)=>v*10+((c:Int)-48)) a∧l.foldl (fun (v:Int) (c:Nat)=>v*10+((c:Int)-48)) a<(a+1)*10 ^ l.length
 | [],a,_,h=>by simp; lia
 | c::l,a,hc,h=>by
  have h1:=hc c (List.mem_cons_self ..)
  have:=zlU_ l (a*10+((c:Int)-48)) (fun d hd=>hc d (List.mem_cons_of_mem _ hd)) (by lia)
  rw [List.foldl_cons,List.length_cons]
  refine ⟨this.1,Int.lt_of_lt_of_le this.2 ?_⟩
  rw [Int.pow_succ,Int.mul_comm (10 ^ l.length) 10,← Int.mul_assoc]
  exact Int.mul_le_mul_of_nonneg_right (by lia) (Int.pow_nonneg (by decide))
theorem num_lt (c:List Nat) (f:Int×Int) (h:c.length≤40):0≤num c f∧num c f<10 ^ 40:=by
 have h1:=zlU_ ((prt c f).map fig) 0 (fun c hc=>by obtain ⟨b,_,rfl⟩:=List.mem_map.mp hc; exact zhC_ b) (by decide)
 refine ⟨h1.1,Int.lt_of_lt_of_le h1.2 ?_⟩
 have h2:((prt c f).map fig).length≤40:=by rw [List.length_map]; exact Nat.le_trans (zeq_ _ _ _) h
 rw [show (0:Int)+1=1 from rfl,Int.one_mul]
 have h3:10 ^ ((prt c f).map fig).length≤10 ^ 40:=Nat.pow_le_pow_right (by decide) h2
 have e1:∀ n:Nat,(10:Int) ^ n=((10 ^ n:Nat):Int):=fun n=>by rw [Int.natCast_pow]; rfl
 rw [e1,e1]
 exact Int.ofNat_le.mpr h3
theorem zoX_ {lo:Int}{n:Nat}{d r:List Int}{x:Int}(h:rngI lo n=d++x::r):x=lo+d.length∧d.length<n:=by
 have hl:=congrArg List.length h
 rw [zbH_,List.length_append,List.length_cons] at hl
 have hd:d.length<n:=by lia
 have h1:(rngI lo n)[d.length]?=some x:=by rw [h]; simp
 unfold rngI at h1
 rw [List.getElem?_map,List.getElem?_range hd] at h1
 simp at h1
 exact ⟨h1.symm,hd⟩
abbrev Wr:=Int×Int
def okW (w:Wr):Prop:=1≤w.1∧w.1≤40∧1≤w.2∧w.2≤36
def sgn (c:List Nat) (B:List Wr) (col:Int):Nat:=B.foldl (fun s w=>if w.2=col then c.getD (w.1-1).toNat 0 else s) 32
def laid (c:List Nat) (B:List Wr):List Nat:=(List.range 36).map fun i:Nat=>sgn c B (i+1)
theorem zmF_ (c:List Nat) (B:List Wr) (w:Wr) (col:Int):sgn c (B++[w]) col=if w.2=col then c.getD (w.1-1).toNat 0 else sgn c B col:=by
 unfold sgn; rw [List.foldl_append]; rfl
theorem zoM_ {c:List Nat}(hc:c.length=40) {k:Int}(h1:1≤k) (h2:k≤40):atI c (k-1)=some (c.getD (k-1).toNat 0):=by
 rw [ziv_ (by lia),List.getD_eq_getElem?_getD,List.getElem?_eq_getElem (by lia)]
 rfl
theorem zi6_ {c:List Nat}(hc:c.length=40) {k:Int}(h1:1≤k) (h2:k≤40):zei_ c k=.ok [c.getD (k-1).toNat 0]:=by
 unfold zei_ zf0_
 walk_at "mo"
 rw [Mo.lim_ok (by lia),zoM_ hc h1 h2]
 rfl
theorem zpE_ {c:List Nat}(hc:c.length=40) {B:List Wr}(hB:∀ w∈B,okW w):zeb_ c B=.ok (laid c B):=by
 unfold zeb_ zfQ_
 walk_at "mo"
 rw [Mo.grd_ok (by decide)]
 walk_at "mo"
 rw [zaN_ (f:=fun x_3=>cond1 (Mq true) (Mq [32])) (g:=fun _=>[32]) (fun x hx=>rfl) (by decide)]
 walk_at "mo"
 refine za4_ (G:=fun m=>fnO (thenO m _)=_) (fun d (s:List (List Nat))=>s=(List.range 36).map fun i:Nat=>[sgn c d (i+1)]) rfl (fun d w s hx hs=>?_) (fun s hs=>?_)
 ·obtain ⟨r,hr⟩:=hx
  obtain ⟨a1,a2,a3,a4⟩:=hB w (by rw [hr]; simp)
  subst hs
  rw [zi6_ hc a1 a2]
  walk_at "mo"
  rw [zg7_ (by lia) (by rw [List.length_map,List.length_range]; lia)]
  refine ⟨_,rfl,?_⟩
  apply List.ext_getElem?
  intro i
  rw [List.getElem?_set,List.getElem?_map,List.getElem?_map]
  by_cases hi:i<36
  ·rw [List.getElem?_range hi]
   simp only [Option.map_some,zmF_,List.length_map,List.length_range]
   by_cases e:(w.2-1).toNat=i
   ·rw [if_pos e,if_pos (by lia),if_pos (by lia)]
   ·rw [if_neg e,if_neg (by lia)]
  ·rw [List.getElem?_eq_none (by rw [List.length_range]; lia),if_neg (by lia)]
   rfl
 ·subst hs
  walk_at "mo"
  have e:((List.range 36).map fun i:Nat=>[sgn c B (i+1)])=(laid c B).map fun x=>[x]:=by unfold laid; rw [List.map_map]; rfl
  rw [e,zgy_,Mo.grd_ok]
  ·rfl
  ·refine zeY_ ?_ ?_
   ·unfold strsL laid; simp [Str.length]
   ·intro z hz
    unfold strsL at hz
    rw [List.map_map] at hz
    obtain ⟨b,_,rfl⟩:=List.mem_map.mp hz
    exact Nat.le_refl 1
abbrev Whl:=Int×(Int×(Int×(Bool×Unit)))
def whl (f:Nat) (k:Int) (o:Bool):Whl:=((f:Int),10 ^ f,k,o,())
theorem zoc_ {f:Nat}(h:f≤100):zI_ () f=.ok ((),whl f 0 false):=by
 unfold zI_ zbx_
 walk_at "mo"
 rw [zkW_ (by lia) (by lia)]
 rfl
theorem znN_ {f:Nat}{k v:Int}{o:Bool}:zbR_ (whl f k o) v=.ok ((),whl f ((k+v) % 10 ^ f) (o || decide ((10:Int) ^ f≤k+v))):=by
 unfold zbR_ zc1_
 walk_at "mo"
 have e1:(whl f k o).snd.fst=(10:Int) ^ f:=rfl
 have e2:(whl f k o).snd.snd.fst=k:=rfl
 rw [e1,e2]
 by_cases c:(10:Int) ^ f≤k+v
 ·rw [decide_eq_true c]
  walk_at "mo"
  rw [Mo.grd_ok (zeh_ f),Bool.or_true]
  rfl
 ·rw [decide_eq_false c]
  walk_at "mo"
  rw [e1,Mo.grd_ok (zeh_ f),Bool.or_false]
  rfl
theorem zl4_ {f:Nat}{k:Int}{o:Bool}:z5_ (whl f k o)=.ok ((),whl f 0 false):=rfl
theorem zpS_ {f:Nat}(h:f≤12):PadOk (f:Int)=true:=by
 have:∀ n:Nat,n≤12→PadOk (n:Int)=true:=by decide
 exact this f h
theorem ziR_ {f:Nat}{k:Int}{o:Bool}(h1:1≤f) (h2:f≤12) (h0:0≤k) (hk:k<10 ^ f):z6_ (whl f k o)=.ok (digs f k.toNat):=by
 unfold z6_ zcs_
 walk_at "mo"
 have e1:(whl f k o).fst=(f:Int):=rfl
 have e2:(whl f k o).snd.snd.fst=k:=rfl
 rw [e1,e2,Mo.grd_ok (zjG_ h0 hk (by lia)),Mo.okB,Mo.grd_ok (zpS_ h2),zjx_ h1 h0 hk]
 rfl
abbrev Ctr:=(List (Int×Int))×((List (Int×Int))×((List (Int×Int))×((List (List Whl))×((Option (List Nat))×((List (Int×Bool))×Unit)))))
def u1 {α:Type}(g:Nat→α) (i:Nat) (v:α):Nat→α:=fun j=>if j=i then v else g j
theorem zhD_ {α:Type}{n i:Nat}(g:Nat→α) (x:α):((List.range n).map g).set i x=(List.range n).map (u1 g i x):=by
 apply List.ext_getElem?
 intro j
 rw [List.getElem?_set,List.getElem?_map,List.getElem?_map,List.length_map,List.length_range]
 unfold u1
 by_cases hj:j<n
 ·rw [List.getElem?_range hj]
  by_cases e:i=j
  ·subst e; simp [hj]
  ·rw [if_neg e]; simp [Ne.symm e]
 ·rw [List.getElem?_eq_none (l:=List.range n) (by simp; lia)]
  by_cases e:i=j
  ·subst e; simp [hj]
  ·rw [if_neg e]; rfl
def wrow (F n:Nat) (k:Nat→Int) (o:Nat→Bool):List Whl:=(List.range n).map fun p=>whl F (k p) (o p)
def lvls (F m n:Nat) (kf:Nat→Nat→Int) (of:Nat→Nat→Bool):List (List Whl):=(List.range (m+1)).map fun l=>wrow F n (kf l) (of l)
theorem zg4_ (F n:Nat) (k:Nat→Int) (o:Nat→Bool):(wrow F n k o).length=n:=by unfold wrow; simp
theorem ziI_ (F m n:Nat) (kf:Nat→Nat→Int) (of:Nat→Nat→Bool):(lvls F m n kf of).length=m+1:=by unfold lvls; simp
theorem zl0_ {F n p:Nat}(k:Nat→Int) (o:Nat→Bool) (h:p<n):(wrow F n k o)[p]?=some (whl F (k p) (o p)):=by unfold wrow; rw [List.getElem?_map,List.getElem?_range h]; rfl
theorem zg0_ {F m n l:Nat}(kf:Nat→Nat→Int) (of:Nat→Nat→Bool) (h:l≤m):(lvls F m n kf of)[l]?=some (wrow F n (kf l) (of l)):=by unfold lvls; rw [List.getElem?_map,List.getElem?_range (by lia)]; rfl
theorem zmc_ (F n p:Nat) (k:Nat→Int) (o:Nat→Bool) (x:Int) (y:Bool):(wrow F n k o).set p (whl F x y)=wrow F n (u1 k p x) (u1 o p y):=by
 unfold wrow; rw [zhD_]; refine List.map_congr_left fun j _=>?_; unfold u1; split<;>rfl
theorem zj4_ (F m n l:Nat) (kf:Nat→Nat→Int) (of:Nat→Nat→Bool) (k:Nat→Int) (o:Nat→Bool):(lvls F m n kf of).set l (wrow F n k o)=lvls F m n (u1 kf l k) (u1 of l o):=by
 unfold lvls; rw [zhD_]; refine List.map_congr_left fun j _=>?_; unfold u1; split<;>rfl
theorem u1_u1 {α:Type}(g:Nat→α) (i:Nat) (v w:α):u1 (u1 g i v) i w=u1 g i w:=by funext j; unfold u1; split<;>rfl
theorem zqp_ {α:Type}(g:Nat→α) (i:Nat) (v:α):u1 g i v i=v:=if_pos rfl
theorem u1_ne {α:Type}(g:Nat→α) {i j:Nat}(v:α) (h:j≠i):u1 g i v j=g j:=if_neg h
theorem zlQ_ {α:Type}(g:Nat→α) (i:Nat):u1 g i (g i)=g:=by funext j; unfold u1; split<;>rename_i h<;>first | rw [h] | rfl
def mkC (K S Bd:List (Int×Int)) (F:Nat) (kf:Nat→Nat→Int) (of:Nat→Nat→Bool) (bf:Option (List Nat)) (ro:List (Int×Bool)):Ctr:=(K,S,Bd,lvls F K.length S.length kf of,bf,ro,())
def rsK (F:Nat) (k:Nat→Int) (vs:List Int) (d:Nat):Nat→Int:=fun p=>if p<d then (k p+vs.getD p 0) % 10 ^ F else k p
def rsO (F:Nat) (k:Nat→Int) (o:Nat→Bool) (vs:List Int) (d:Nat):Nat→Bool:=fun p=>if p<d then (o p || decide ((10:Int) ^ F≤k p+vs.getD p 0)) else o p
def rsR (F:Nat) (k:Nat→Int) (o:Nat→Bool) (vs:List Int) (ro:List (Int×Bool)):Nat→List (Int×Bool)
 | 0=>ro
 | d+1=>if (o d || decide ((10:Int) ^ F≤k d+vs.getD d 0))=true then putA (rsR F k o vs ro d) (d:Int) true else rsR F k o vs ro d
theorem zjy_ (F:Nat) (k:Nat→Int) (o:Nat→Bool) (vs:List Int) (ro:List (Int×Bool)) (d:Nat):(rsR F k o vs ro d).length≤ro.length+d:=by
 induction d with
 | zero=>exact Nat.le_refl _
 | succ d ih =>
  unfold rsR
  split
  ·exact Nat.le_trans (zjn_ _ _ _) (by lia)
  ·lia
theorem rsK_0 (F:Nat) (k:Nat→Int) (vs:List Int):rsK F k vs 0=k:=by funext p; unfold rsK; simp
theorem rsO_0 (F:Nat) (k:Nat→Int) (o:Nat→Bool) (vs:List Int):rsO F k o vs 0=o:=by funext p; unfold rsO; simp
theorem rsK_s (F:Nat) (k:Nat→Int) (vs:List Int) (d:Nat):u1 (rsK F k vs d) d ((k d+vs.getD d 0) % 10 ^ F)=rsK F k vs (d+1):=by
 funext p; unfold u1 rsK
 by_cases h:p=d
 ·subst h; rw [if_pos rfl,if_pos (by lia)]
 ·rw [if_neg h]
  by_cases q:p<d
  ·rw [if_pos q,if_pos (by lia)]
  ·rw [if_neg q,if_neg (by lia)]
theorem rsO_s (F:Nat) (k:Nat→Int) (o:Nat→Bool) (vs:List Int) (d:Nat):u1 (rsO F k o vs d) d (o d || decide ((10:Int) ^ F≤k d+vs.getD d 0))=rsO F k o vs (d+1):=by
 funext p; unfold u1 rsO
 by_cases h:p=d
 ·subst h; rw [if_pos rfl,if_pos (by lia)]
 ·rw [if_neg h]
  by_cases q:p<d
  ·rw [if_pos q,if_pos (by lia)]
  ·rw [if_neg q,if_neg (by lia)]
theorem zeV_ {α:Type}{xs:List α}{d r:List (Int×α)}{q:Int×α}(h:enumL xs=d++q::r):q.1=d.length∧xs[d.length]?=some q.2∧d.length<xs.length:=by
 have h1:(enumL xs)[d.length]?=some q:=by rw [h]; simp
 rw [zfB_] at h1
 obtain ⟨x,h2,h3⟩:=Option.map_eq_some_iff.mp h1
 subst h3
 exact ⟨rfl,h2,(List.getElem?_eq_some_iff.mp h2).1⟩
theorem zjP_ {K S Bd:List (Int×Int)}{F l:Nat}{kf:Nat→Nat→Int}{of:Nat→Nat→Bool}{bf:Option (List Nat)}{ro:List (Int×Bool)}{vs:List Int}(hl:l≤K.length) (hv:vs.length=S.length) (hn:S.length≤100) (hro:ro.length≤50000) :
  zM_ (mkC K S Bd F kf of bf ro) l vs=.ok ((),mkC K S Bd F (u1 kf l (rsK F (kf l) vs S.length)) (u1 of l (rsO F (kf l) (of l) vs S.length)) bf (rsR F (kf l) (of l) vs ro S.length)):=by
 unfold zM_ zau_
 walk_at "mo"
 refine za4_ (G:=fun m=>fnMU (thenO m _)=_) (fun d (s:Ctr)=>s=mkC K S Bd F (u1 kf l (rsK F (kf l) vs d.length)) (u1 of l (rsO F (kf l) (of l) vs d.length)) bf (rsR F (kf l) (of l) vs ro d.length)) (by rw [List.length_nil,rsK_0,rsO_0,zlQ_,zlQ_]; rfl) (fun d x s hx hs=>?_) (fun s hs=>?_)
 ·obtain ⟨r,hr⟩:=hx
  obtain ⟨x1,x2,hd⟩:=zeV_ hr
  rw [hv] at hd
  subst hs
  have ev:vs.getD d.length 0=x.2:=by rw [List.getD_eq_getElem?_getD,x2]; rfl
  have hrl:=zjy_ F (kf l) (of l) vs ro d.length
  unfold mkC
  walk_at "mo"
  rw [ziI_,zg7_ (by lia) (by lia),x1]
  walk_at "mo"
  rw [show ((l:Int)).toNat=l from rfl,zg0_ _ _ hl,zqp_,zqp_]
  walk_at "mo"
  rw [zg4_,zg7_ (by lia) (by lia)]
  walk_at "mo"
  rw [show ((d.length:Int)).toNat=d.length from rfl,zl0_ _ _ hd]
  walk_at "mo"
  have k0:rsK F (kf l) vs d.length d.length=kf l d.length:=if_neg (Nat.lt_irrefl _)
  have o0:rsO F (kf l) (of l) vs d.length d.length=of l d.length:=if_neg (Nat.lt_irrefl _)
  rw [znN_,k0,o0]
  walk_at "mo"
  rw [← ev]
  have eov:zbp_ (whl F ((kf l d.length+vs.getD d.length 0) % 10 ^ F) (of l d.length || decide ((10:Int) ^ F≤kf l d.length+vs.getD d.length 0)))=.ok (of l d.length || decide ((10:Int) ^ F≤kf l d.length+vs.getD d.length 0)):=rfl
  rw [eov]
  walk_at "mo"
  rw [zmc_,zj4_,u1_u1,u1_u1,rsK_s,rsO_s]
  cases ho:(of l d.length || decide ((10:Int) ^ F≤kf l d.length+vs.getD d.length 0)) with
  | true =>
   walk_at "mo"
   rw [Mo.lim_ok (by lia)]
   walk_at "mo"
   refine ⟨_,rfl,?_⟩
   rw [List.length_append,List.length_singleton]
   rw [show rsR F (kf l) (of l) vs ro (d.length+1)=putA (rsR F (kf l) (of l) vs ro d.length) (d.length:Int) true from if_pos ho]
  | false =>
   walk_at "mo"
   refine ⟨_,rfl,?_⟩
   rw [List.length_append,List.length_singleton]
   rw [show rsR F (kf l) (of l) vs ro (d.length+1)=rsR F (kf l) (of l) vs ro d.length from if_neg (by rw [ho]; decide)]
 ·subst hs
  rw [zdj_,hv]
  rfl
theorem zh9_ {ws:List (List Nat)}(h1:ws.length≤100) (h2:∀ w∈ws,w.length≤100):JoinOk ⟨#[32]⟩ (strsL ws)=true:=by
 unfold JoinOk
 have key:∀ (l:List Str) (acc:Nat),(∀ z∈l,z.length≤100)→l.foldl (fun x1 x2=>x1+x2.length+1) acc≤acc+l.length*101:=by
  intro l
  induction l with
  | nil=>intro acc _; simp
  | cons z r ih =>
   intro acc hz
   have h2:=ih (acc+z.length+1) fun y hy=>hz y (List.mem_cons_of_mem _ hy)
   have h3:=hz z List.mem_cons_self
   rw [List.foldl_cons,List.length_cons]
   lia
 have hz:∀ z∈strsL ws,z.length≤100:=fun z hz=>by
  unfold strsL at hz
  obtain ⟨p,hp,rfl⟩:=List.mem_map.mp hz
  exact h2 p hp
 have q:=key _ 0 hz
 have ql:(strsL ws).length=ws.length:=by unfold strsL; simp
 rw [List.foldl_toArray]
 unfold Builtin.Str.tooLong
 simp only [Bool.not_eq_true',decide_eq_false_iff_not]
 have hs:(100000:Nat)≤sizeLine:=by rw [sizeLine_eq]; lia
 have:(strsL ws).foldl (fun x1 x2=>x1+x2.length+Str.length ⟨#[32]⟩) 0≤100000:=Nat.le_trans q (by lia)
 lia
def tlw (F n:Nat) (k:Nat→Int):List (List Nat):=(List.range n).map fun p=>digs F (k p).toNat
theorem zhw_ (F n:Nat) (k:Nat→Int):(tlw F n k).length=n:=by unfold tlw; simp
theorem zhH_ {F n:Nat}(h1:1≤F) (h2:F≤12) {k:Nat→Int}(o:Nat→Bool) (hk:∀ p,0≤k p∧k p<10 ^ F) (hn:n≤100):compM (fun x27=>cond1 (Mq true) (z6_ x27).noex) (wrow F n k o) []=.ok (tlw F n k):=by
 rw [zaN_ (f:=fun x27=>cond1 (Mq true) (z6_ x27).noex) (g:=fun x=>match z6_ x with | .ok v=>v | _=>[]) (fun x hx=>by
  unfold wrow at hx
  obtain ⟨p,_,rfl⟩:=List.mem_map.mp hx
  rw [ziR_ h1 h2 (hk p).1 (hk p).2]; rfl) (by rw [zg4_]; simp; lia)]
 unfold wrow tlw
 rw [List.map_map,List.nil_append]
 refine congrArg Mq (List.map_congr_left fun p _=>?_)
 show (match z6_ (whl F (k p) (o p)) with | .ok v=>v | _=>[])=_
 rw [ziR_ h1 h2 (hk p).1 (hk p).2]
theorem zjD_ {F n:Nat}(k:Nat→Int) (o:Nat→Bool) (hn:n≤100):compM (fun w13=>cond1 (Mq true) (zbj_ w13).noex) (wrow F n k o) []=.ok ((List.range n).map k):=by
 rw [zaN_ (f:=fun w13=>cond1 (Mq true) (zbj_ w13).noex) (g:=fun x=>x.2.2.1) (fun x hx=>rfl) (by rw [zg4_]; simp; lia)]
 unfold wrow
 rw [List.map_map]
 rfl
theorem zhz_ (F:Nat) (g:Nat→Int) (o:Nat→Bool):∀ (ps:List Nat),mapX (fun z28=>(z5_ z28).noex.bind fun q29=>Mq q29.snd) (ps.map fun p=>whl F (g p) (o p))=.ok (ps.map fun p=>whl F 0 false)
 | []=>rfl
 | p::ps=>by
  rw [List.map_cons]
  show ((z5_ (whl F (g p) (o p))).noex.bind fun q29=>Mq q29.snd).bind _=_
  rw [zl4_]
  show (mapX (fun z28=>(z5_ z28).noex.bind fun q29=>Mq q29.snd) (ps.map fun p=>whl F (g p) (o p))).bind _=_
  rw [zhz_ F g o ps]
  rfl
section
variable {K S Bd:List (Int×Int)}{F l:Nat}{T:Nat→Int}{kf:Nat→Nat→Int}{of:Nat→Nat→Bool}{bf:Option (List Nat)}{ro:List (Int×Bool)}
theorem atL (h:l≤K.length):atI (lvls F K.length S.length kf of) (l:Int)=some (wrow F S.length (kf l) (of l)):=by rw [ziv_ (by lia)]; exact zg0_ kf of h
def lineOf (K S:List (Int×Int)) (F l:Nat) (ps:List (List Nat)) (k:Nat→Int):List Nat:=joinL [32] ([repL [42] (1+(K.length:Int)-l)]++ps++tlw F S.length k)
theorem zk0_ (h1:1≤F) (h2:F≤12) (hK:K.length≤10) (hS:S.length≤10) (hl:l≤K.length) (hb:l=0∨∃ b,bf=some b∧b.length=40) (hk:∀ l p,0≤kf l p∧kf l p<10 ^ F) :
  ∃ ps,(l=0→ps=[])∧zz_ (mkC K S Bd F kf of bf ro) l=.ok (lineOf K S F l ps (kf l)):=by
 have hp:∃ ps:List (List Nat),compM (fun x16=>cond1 (Mq true) (((Mo.opt bf).bind fun a19=>Mq (a19,x16)).bind fun c21=>(za5_ c21.fst c21.snd).noex)) (K.take l) []=.ok ps∧ps.length≤10∧(∀ w∈ps,w.length≤40)∧(l=0→ps=[]):=by
  rcases hb with rfl | ⟨b,rfl,hbl⟩
  ·exact ⟨[],rfl,by simp,by simp,fun _=>rfl⟩
  ·refine ⟨[]++(K.take l).map (prt b),zaN_ (fun x _=>?_) (by simp; lia),by simp; lia,fun w hw=>?_,fun h=>by subst h; rfl⟩
   ·unfold cond1
    walk_at "mo"
    rw [zgK_ b x (by lia)]
    rfl
   ·rw [List.nil_append] at hw
    obtain ⟨f,_,rfl⟩:=List.mem_map.mp hw
    have:=zeq_ b (some (f.1-1)) (some f.2)
    unfold prt; lia
 obtain ⟨ps,ep,hp1,hp2,hp3⟩:=hp
 refine ⟨ps,hp3,?_⟩
 have hrl:(repL [42] (1+(K.length:Int)-l)).length≤11:=by unfold repL; simp; lia
 unfold zz_ z8_ mkC
 walk_at "mo"
 rw [Mo.grd_ok (show CRep [42].length (1+(K.length:Int)-l) by unfold CRep; simp; lia)]
 walk_at "mo"
 rw [ziN_ (by lia),show ((l:Int)).toNat=l from rfl,ep]
 walk_at "mo"
 rw [Mo.lim_ok (by simp; lia),atL hl]
 walk_at "mo"
 rw [zhH_ h1 h2 (of l) (hk l) (by lia)]
 walk_at "mo"
 rw [Mo.lim_ok (by simp [zhw_]; lia),Mo.grd_ok,zfp_]
 ·rfl
 ·refine zh9_ (by simp [zhw_]; lia) fun w hw=>?_
  rcases List.mem_append.mp hw with hw | hw
  ·rcases List.mem_append.mp hw with hw | hw
   ·rw [List.mem_singleton.mp hw]; lia
   ·have:=hp2 w hw; lia
  ·unfold tlw at hw
   obtain ⟨p,_,rfl⟩:=List.mem_map.mp hw
   rw [zcG_]; lia
theorem zmX_ {b:List Nat}(h1:1≤F) (h2:F≤12) (hK:K.length≤10) (hS:S.length≤10) (hl:l≤K.length) (hbl:b.length=40) (hk:∀ l p,0≤kf l p∧kf l p<10 ^ F) :
  zz_ (mkC K S Bd F kf of (some b) ro) l=.ok (lineOf K S F l ((K.take l).map (prt b)) (kf l)):=by
 have ep:compM (fun x16=>cond1 (Mq true) (((Mo.opt (some b)).bind fun a19=>Mq (a19,x16)).bind fun c21=>(za5_ c21.fst c21.snd).noex)) (K.take l) []=.ok ((K.take l).map (prt b)):=by
  have:=zaN_ (f:=fun x16=>cond1 (Mq true) (((Mo.opt (some b)).bind fun a19=>Mq (a19,x16)).bind fun c21=>(za5_ c21.fst c21.snd).noex)) (g:=prt b) (xs:=K.take l) (acc:=[]) (fun x _=>by
   unfold cond1
   walk_at "mo"
   rw [zgK_ b x (by lia)]
   rfl) (by simp; lia)
  rw [this,List.nil_append]
 have hp1:((K.take l).map (prt b)).length≤10:=by simp; lia
 have hp2:∀ w∈(K.take l).map (prt b),w.length≤40:=fun w hw=>by
  obtain ⟨f,_,rfl⟩:=List.mem_map.mp hw
  have:=zeq_ b (some (f.1-1)) (some f.2)
  unfold prt; lia
 generalize (K.take l).map (prt b)=ps at ep hp1 hp2 ⊢
 simp only [Mo.optS,Mo.okB] at ep
 have hrl:(repL [42] (1+(K.length:Int)-l)).length≤11:=by unfold repL; simp; lia
 unfold zz_ z8_ mkC
 walk_at "mo"
 rw [Mo.grd_ok (show CRep [42].length (1+(K.length:Int)-l) by unfold CRep; simp; lia)]
 walk_at "mo"
 rw [ziN_ (by lia),show ((l:Int)).toNat=l from rfl,ep]
 walk_at "mo"
 rw [Mo.lim_ok (by simp; lia),atL hl]
 walk_at "mo"
 rw [zhH_ h1 h2 (of l) (hk l) (by lia)]
 walk_at "mo"
 rw [Mo.lim_ok (by simp [zhw_]; lia),Mo.grd_ok,zfp_]
 ·rfl
 ·refine zh9_ (by simp [zhw_]; lia) fun w hw=>?_
  rcases List.mem_append.mp hw with hw | hw
  ·rcases List.mem_append.mp hw with hw | hw
   ·rw [List.mem_singleton.mp hw]; lia
   ·have:=hp2 w hw; lia
  ·unfold tlw at hw
   obtain ⟨p,_,rfl⟩:=List.mem_map.mp hw
   rw [zcG_]; lia
theorem zjT_ (hl:l≤K.length) (line:List Nat):fnMR (thenO (S:=Ctr) (S':=Unit) (B:=Unit) (ρ:=List Nat×Ctr) (((Mo.opt (ixN (mkC K S Bd F kf of bf ro).2.2.2.1.length (l:Int))).bind fun n25=>(Mo.opt ((mkC K S Bd F kf of bf ro).2.2.2.1[n25]?)).bind fun z26=>Mq (z26,fun z'=>((mkC K S Bd F kf of bf ro).1,(mkC K S Bd F kf of bf ro).2.1,(mkC K S Bd F kf of bf ro).2.2.1,(mkC K S Bd F kf of bf ro).2.2.2.1.set n25 z',(mkC K S Bd F kf of bf ro).2.2.2.2))).bind fun y27=>(mapX (fun z28=>(z5_ z28).noex.bind fun q29=>Mq q29.snd) y27.1).bind fun x30=>Mq (Out.nx (y27.2 x30))) (fun s=>Mq (Out.rt (line,s))))=.ok (line,mkC K S Bd F (u1 kf l fun _=>0) (u1 of l fun _=>false) bf ro):=by
 show fnMR (thenO (((Mo.opt (ixN (lvls F K.length S.length kf of).length (l:Int))).bind fun n25=>(Mo.opt ((lvls F K.length S.length kf of)[n25]?)).bind fun z26=>Mq (z26,fun z'=>(K,S,Bd,(lvls F K.length S.length kf of).set n25 z',bf,ro,()))).bind fun y27=>(mapX (fun z28=>(z5_ z28).noex.bind fun q29=>Mq q29.snd) y27.1).bind fun x30=>Mq (Out.nx (y27.2 x30))) _)=_
 rw [ziI_,zg7_ (by lia) (by lia)]
 walk_at "mo"
 rw [show ((l:Int)).toNat=l from rfl,zg0_ _ _ hl]
 walk_at "mo"
 rw [show wrow F S.length (kf l) (of l)=(List.range S.length).map fun p=>whl F (kf l p) (of l p) from rfl,zhz_]
 walk_at "mo"
 rw [show (List.range S.length).map (fun p=>whl F 0 false)=wrow F S.length (fun _=>0) (fun _=>false) from rfl,zj4_]
 rfl
theorem zh3_ (h1:1≤F) (h2:F≤12) (hK:K.length≤10) (hS:S.length≤10) (hk:∀ l p,0≤kf l p∧kf l p<10 ^ F):zv_ (mkC K S Bd F kf of bf ro) 0=.ok (lineOf K S F 0 [] (kf 0),mkC K S Bd F (u1 kf 0 fun _=>0) (u1 of 0 fun _=>false) bf ro):=by
 obtain ⟨ps,e1,e2⟩:=zk0_ (bf:=bf) (of:=of) (ro:=ro) h1 h2 hK hS (Nat.zero_le K.length) (.inl rfl) hk
 rw [e1 rfl] at e2
 have e3:zz_ (mkC K S Bd F kf of bf ro) 0=.ok (lineOf K S F 0 [] (kf 0)):=e2
 unfold zv_ z1_
 walk_at "mo"
 rw [e3]
 walk_at "mo"
 exact zjT_ (l:=0) (Nat.zero_le _) _
abbrev noO:Nat→Nat→Bool:=fun _ _=>false
theorem zoJ_ {k k':Nat→Int}(ps:List (List Nat)) (h:∀ p,p<S.length→k p=k' p):lineOf K S F l ps k=lineOf K S F l ps k':=by
 unfold lineOf tlw
 rw [show (List.range S.length).map (fun p=>digs F (k p).toNat)=(List.range S.length).map (fun p=>digs F (k' p).toNat) from List.map_congr_left fun p hp=>by rw [h p (List.mem_range.mp hp)]]
theorem zjd_ {a:Int}{n:Nat}{d r:List Int}{x:Int}(h:rngD a n=d++x::r):x=a-d.length∧d.length<n:=by
 have h1:(rngD a n)[d.length]?=some x:=by rw [h]; simp
 unfold rngD at h1
 rw [List.getElem?_map] at h1
 obtain ⟨y,h2,h3⟩:=Option.map_eq_some_iff.mp h1
 obtain ⟨h4,h5⟩:=List.getElem?_eq_some_iff.mp h2
 rw [List.getElem_range] at h5
 rw [List.length_range] at h4
 subst h5
 exact ⟨by lia,h4⟩
theorem zf4_ (a:Int) (n:Nat):(rngD a n).length=n:=by unfold rngD; simp
theorem zkX_ {α S B ρ:Type}{step:S→α→Mo (Out ρ S S)}{xs:List α}{s:S}{G:Mo (Out ρ B S)→Prop}(P:List α→S→Prop) (h0:P [] s)
  (hs:∀ d x s,(∃ r,xs=d++x::r)→P d s→(∃ s',step s x=.ok (.nx s')∧P (d++[x]) s')∨∃ a,step s x=.ok (.rt a)∧G (.ok (.rt a))) (hk:∀ s',P xs s'→G (.ok (.nx s'))):G (forO step xs s):=by
 have all:∀ (r d:List α) (s:S),xs=d++r→P d s→G (forO step r s):=by
  intro r
  induction r with
  | nil=>intro d s e p; rw [List.append_nil] at e; subst e; exact hk s p
  | cons x r ih =>
   intro d s e p
   rcases hs d x s ⟨r,e⟩ p with ⟨s',e1,p'⟩ | ⟨a,e1,g⟩
   ·show G ((step s x).bind _)
    rw [e1]
    exact ih (d++[x]) s' (by rw [e]; simp) p'
   ·show G ((step s x).bind _)
    rw [e1]
    exact g
 exact all xs [] s rfl h0
theorem rngI_at {n:Nat}{dn r:List Int}{x:Int}(h:rngI 0 n=dn++x::r):x=(dn.length:Int)∧dn.length<n:=by
 have h1:(rngI 0 n)[dn.length]?=some x:=by rw [h]; simp
 have h2:dn.length<n:=by have:=congrArg List.length h; rw [zbH_,List.length_append] at this; simp at this; lia
 unfold rngI at h1
 rw [List.getElem?_map,List.getElem?_range h2] at h1
 have:(0:Int)+(dn.length:Int)=x:=Option.some.inj h1
 exact ⟨by lia,h2⟩
theorem zoT_ {c:List Nat}(hc:c.length=40):zef_ c=.ok (c.drop 36):=by
 unfold zef_ zfF_
 walk_at "mo"
 rw [Mo.lim_ok (by lia),zhJ_ (by decide)]
 rfl
theorem zna_ (c:List Nat) (B:List Wr):(laid c B).length=36:=by unfold laid; simp
def brk (b c:List Nat):List (Int×Int)→Nat
 | []=>1
 | f::K=>if prt c f=prt b f then brk b c K+1 else 1
theorem zmv_ (b c:List Nat):∀ K,1≤brk b c K∧brk b c K≤K.length+1
 | []=>⟨Nat.le_refl _,Nat.le_refl _⟩
 | f::K=>by have:=zmv_ b c K; unfold brk; split<;>simp<;>lia
theorem znV_ {b c:List Nat}:∀ {K:List (Int×Int)}{i:Nat}{f:Int×Int},K[i]?=some f→prt c f≠prt b f→(∀ j,j<i→∀ f,K[j]?=some f→prt c f=prt b f)→brk b c K=i+1
 | [],i,f,h,_,_=>by simp at h
 | g::K,0,f,h,hn,_=>by cases h; unfold brk; rw [if_neg hn]
 | g::K,i+1,f,h,hn,hs=>by
  unfold brk
  rw [if_pos (hs 0 (by lia) g rfl),znV_ (K:=K) (i:=i) (f:=f) (by simpa using h) hn fun j hj f' hf=>hs (j+1) (by lia) f' (by simpa using hf)]
theorem zlE_ {b c:List Nat}:∀ {K:List (Int×Int)},(∀ j,j<K.length→∀ f,K[j]?=some f→prt c f=prt b f)→brk b c K=K.length+1
 | [],_=>rfl
 | g::K,hs=>by
  unfold brk
  rw [if_pos (hs 0 (by simp) g rfl),zlE_ (K:=K) fun j hj f' hf=>hs (j+1) (by simp; lia) f' (by simpa using hf)]
  rfl
theorem ziW_ {b c:List Nat}{of:Nat→Nat→Bool}{ro:List (Int×Bool)}(hb:b.length=40) (hc:c.length=40):zE_ (mkC K S Bd F kf of (some b) ro) c=.ok (brk b c K:Int):=by
 unfold zE_ zaf_ mkC
 walk_at "mo"
 refine zkX_ (G:=fun z=>fnO (thenO z _)=.ok (brk b c K:Int)) (fun dn _=>∀ j,j<dn.length→∀ f,K[j]?=some f→prt c f=prt b f) (fun j hj=>by simp at hj) ?_ ?_
 ·rintro dn x s ⟨r,hr⟩ w
  obtain ⟨x1,x2,x3⟩:=zeV_ hr
  rw [zgK_ c x.2 (by lia),zgK_ b x.2 (by lia)]
  walk_at "mo"
  by_cases he:prt c x.2=prt b x.2
  ·rw [decide_eq_true he]
   refine .inl ⟨_,rfl,fun j hj f hf=>?_⟩
   rw [List.length_append,List.length_singleton] at hj
   by_cases hjd:j=dn.length
   ·subst hjd; rw [x2] at hf; cases hf; exact he
   ·exact w j (by lia) f hf
  ·rw [decide_eq_false he]
   refine .inr ⟨_,rfl,?_⟩
   rw [znV_ x2 he w,x1]
   rfl
 ·intro s w
  rw [zdj_] at w
  rw [zlE_ w]
  rfl
theorem zon_ (h2:F≤12) (hK:K.length≤10) (hS:S.length≤10):zG_ () K S F Bd=.ok ((),mkC K S Bd F (fun _ _=>0) noO none []):=by
 unfold zG_ za1_
 walk_at "mo"
 rw [Mo.grd_ok (by lia),show ((K.length:Int)+1).toNat=K.length+1 by lia]
 walk_at "mo"
 have e:compM (fun x18:Int×Int=>cond1 (Mq true) ((zI_ () F).noex.bind fun q20=>Mq q20.snd)) S []=.ok (wrow F S.length (fun _=>0) (fun _=>false)):=by
  have e12:zI_ () F=.ok ((),whl F 0 false):=zoc_ (by lia)
  rw [zaN_ (f:=fun x18:Int×Int=>cond1 (Mq true) ((zI_ () F).noex.bind fun q20=>Mq q20.snd)) (g:=fun _=>whl F 0 false) (fun x hx=>by rw [e12]; rfl) (by simp; lia)]
  unfold wrow
  rw [List.nil_append,List.map_const',List.map_const',List.length_range]
 rw [zaN_ (f:=fun x17:Int=>cond1 (Mq true) (compM (fun x18:Int×Int=>cond1 (Mq true) ((zI_ () F).noex.bind fun q20=>Mq q20.snd)) S [])) (g:=fun _=>wrow F S.length (fun _=>0) (fun _=>false)) (fun x hx=>by rw [e]; rfl) (by rw [zbH_]; simp; lia)]
 have e2:(rngI 0 (K.length+1)).map (fun _=>wrow F S.length (fun _=>0) (fun _=>false))=lvls F K.length S.length (fun _ _=>0) (fun _ _=>false):=by
  unfold lvls rngI; simp
 unfold mkC
 rw [← e2]
 rfl
abbrev cLine (c:List Nat) (Bd:List (Int×Int)):List Nat:=c.drop 36++32::laid c Bd
abbrev nums (S:List (Int×Int)) (c:List Nat):Nat→Int:=fun p=>(S.map (num c)).getD p 0
def md (F:Nat) (sn:Nat→Nat→Int):Nat→Nat→Int:=fun l p=>sn l p % 10 ^ F
theorem zmJ_ (F:Nat) (sn:Nat→Nat→Int) (l p:Nat):0≤md F sn l p∧md F sn l p<10 ^ F:=⟨Int.emod_nonneg _ (Int.ne_of_gt (Int.pow_pos (by decide))),Int.emod_lt_of_pos _ (Int.pow_pos (by decide))⟩
def snC (F:Nat) (sn:Nat→Nat→Int) (l:Nat):Nat→Nat→Int:=fun j p=>if j=l then 0 else if j+1=l then sn j p+sn l p % 10 ^ F else sn j p
theorem zhp_ {kf':Nat→Nat→Int}(h:∀ l p,l≤K.length→p<S.length→kf l p=kf' l p):mkC K S Bd F kf of bf ro=mkC K S Bd F kf' of bf ro:=by
 unfold mkC lvls wrow
 have:(List.range (K.length+1)).map (fun l=>(List.range S.length).map fun p=>whl F (kf l p) (of l p))=(List.range (K.length+1)).map (fun l=>(List.range S.length).map fun p=>whl F (kf' l p) (of l p)) :=
  List.map_congr_left fun l hl=>List.map_congr_left fun p hp=>by rw [h l p (by have:=List.mem_range.mp hl; lia) (List.mem_range.mp hp)]
 rw [this]
theorem closeG {b:List Nat}{sn:Nat→Nat→Int}(h1:1≤F) (h2:F≤12) (hK:K.length≤10) (hS:S.length≤10) (hl:l≤K.length) (hbl:b.length=40) (hro:ro.length≤40000) :
  ∃ of' ro',ro'.length≤ro.length+10∧zv_ (mkC K S Bd F (md F sn) of (some b) ro) l=.ok (lineOf K S F l ((K.take l).map (prt b)) (md F sn l),mkC K S Bd F (md F (snC F sn l)) of' (some b) ro'):=by
 by_cases hl0:l=0
 ·subst hl0
  refine ⟨u1 of 0 fun _=>false,ro,by lia,?_⟩
  have e:=zh3_ (Bd:=Bd) (of:=of) (bf:=some b) (ro:=ro) h1 h2 hK hS (zmJ_ F sn)
  rw [show zv_ (mkC K S Bd F (md F sn) of (some b) ro) ((0:Nat):Int)=_ from e]
  refine congrArg Mq (Prod.ext rfl (zhp_ fun j p _ _=>?_))
  unfold u1 md snC
  by_cases hj:j=0
  ·subst hj; simp
  ·rw [if_neg hj,if_neg hj,if_neg (by lia)]
 ·have gd:∀ p,p<S.length→((List.range S.length).map (md F sn l)).getD p 0=md F sn l p:=fun p hp=>by
   rw [List.getD_eq_getElem?_getD,List.getElem?_map,List.getElem?_range hp]; rfl
  have et:=zmX_ (Bd:=Bd) (of:=of) (ro:=ro) (b:=b) h1 h2 hK hS hl hbl (zmJ_ F sn)
  have hrl:=zjy_ F (md F sn (l-1)) (of (l-1)) ((List.range S.length).map (md F sn l)) ro S.length
  refine ⟨u1 (u1 of (l-1) (rsO F (md F sn (l-1)) (of (l-1)) ((List.range S.length).map (md F sn l)) S.length)) l fun _=>false,_,Nat.le_trans hrl (by lia),?_⟩
  unfold zv_ z1_
  walk_at "mo"
  rw [et,decide_eq_true (show (0:Int)<l by lia)]
  walk_at "mo"
  rw [show (mkC K S Bd F (md F sn) of (some b) ro).snd.snd.snd.fst=lvls F K.length S.length (md F sn) of from rfl,atL hl]
  walk_at "mo"
  rw [zjD_ _ _ (by lia)]
  walk_at "mo"
  rw [show ((l:Int)-1)=((l-1:Nat):Int) by lia,zjP_ (by lia) (by simp) (by lia) (by lia)]
  walk_at "mo"
  rw [zjT_ hl]
  refine congrArg Mq (Prod.ext rfl (zhp_ fun j p _ hp=>?_))
  unfold u1
  by_cases hj:j=l
  ·subst hj; rw [if_pos rfl]; unfold md snC; simp
  ·rw [if_neg hj]
   by_cases hj2:j=l-1
   ·subst hj2
    rw [if_pos rfl]
    unfold rsK
    rw [if_pos hp,gd p hp]
    unfold md snC
    rw [if_neg hj,if_pos (by lia),Int.emod_add_emod]
   ·rw [if_neg hj2]; unfold md snC; rw [if_neg hj,if_neg (by lia)]
def runC (K S:List (Int×Int)) (F:Nat) (b:List Nat):(Nat→Nat→Int)→List Int→List (List Nat)×(Nat→Nat→Int)
 | sn,[]=>([],sn)
 | sn,x::xs=>(lineOf K S F x.toNat ((K.take x.toNat).map (prt b)) (md F sn x.toNat)::(runC K S F b (snC F sn x.toNat) xs).1,(runC K S F b (snC F sn x.toNat) xs).2)
theorem zeW_ (b:List Nat):∀ (sn:Nat→Nat→Int) (xs:List Int),(runC K S F b sn xs).1.length=xs.length
 | sn,[]=>rfl
 | sn,x::xs=>by show (runC K S F b (snC F sn x.toNat) xs).1.length+1=_; rw [zeW_ b _ xs]; rfl
theorem zhT_ (b:List Nat) (x:Int):∀ (xs:List Int) (sn:Nat→Nat→Int),runC K S F b sn (xs++[x])=((runC K S F b sn xs).1++[lineOf K S F x.toNat ((K.take x.toNat).map (prt b)) (md F (runC K S F b sn xs).2 x.toNat)],snC F (runC K S F b sn xs).2 x.toNat)
 | [],sn=>rfl
 | y::xs,sn=>by
  show (_::(runC K S F b (snC F sn y.toNat) (xs++[x])).1,(runC K S F b (snC F sn y.toNat) (xs++[x])).2)=_
  rw [zhT_ b x xs]; rfl
theorem closesG {b:List Nat}{o:Nat}{sn:Nat→Nat→Int}(h1:1≤F) (h2:F≤12) (hK:K.length≤10) (hS:S.length≤10) (ho:o≤K.length+1) (hbl:b.length=40) (hro:ro.length≤30000) :
  ∃ of' ro',ro'.length≤ro.length+110∧zy_ (mkC K S Bd F (md F sn) of (some b) ro) o=.ok ((runC K S F b sn (rngD K.length (K.length+1-o))).1,mkC K S Bd F (md F (runC K S F b sn (rngD K.length (K.length+1-o))).2) of' (some b) ro'):=by
 unfold zy_ zap_
 walk_at "mo"
 rw [show (mkC K S Bd F (md F sn) of (some b) ro).fst=K from rfl,Mo.grd_ok (by refine ⟨by first | rfl | trivial,?_,?_,?_,?_⟩<;>first | lia | (simp only; lia) | (dsimp only; lia))]
 walk_at "mo"
 rw [show ((K.length:Int)-((o:Int)-1)).toNat=K.length+1-o by lia]
 refine za4_ (G:=fun z=>∃ of' ro',ro'.length≤ro.length+110∧fnMR (thenO z _)=.ok ((runC K S F b sn (rngD K.length (K.length+1-o))).1,mkC K S Bd F (md F (runC K S F b sn (rngD K.length (K.length+1-o))).2) of' (some b) ro'))
  (fun d (s:List (List Nat)×Ctr)=>∃ of' ro',ro'.length≤ro.length+10*d.length∧s=((runC K S F b sn d).1,mkC K S Bd F (md F (runC K S F b sn d).2) of' (some b) ro')) ?_ ?_ ?_
 ·exact ⟨of,ro,by lia,rfl⟩
 ·rintro d x s ⟨r,hr⟩ ⟨of1,ro1,hr1,rfl⟩
  obtain ⟨x1,hd⟩:=zjd_ hr
  have hln:=zeW_ (K:=K) (S:=S) (F:=F) b sn d
  obtain ⟨of2,ro2,hr2,e⟩:=closeG (Bd:=Bd) (of:=of1) (ro:=ro1) (l:=K.length-d.length) (sn:=(runC K S F b sn d).2) h1 h2 hK hS (by lia) hbl (by lia)
  have ex:x=((K.length-d.length:Nat):Int):=by lia
  rw [ex,e]
  walk_at "mo"
  rw [Mo.lim_ok (by lia)]
  refine ⟨_,rfl,of2,ro2,by rw [List.length_append,List.length_singleton]; lia,?_⟩
  rw [zhT_]
  rfl
 ·rintro s ⟨of1,ro1,hr1,rfl⟩
  rw [zf4_] at hr1
  exact ⟨of1,ro1,by lia,rfl⟩
def snA (m:Nat) (sn:Nat→Nat→Int) (v:Nat→Int):Nat→Nat→Int:=u1 sn m fun p=>sn m p+v p
def clo (K S:List (Int×Int)) (F:Nat) (bf:Option (List Nat)) (sn:Nat→Nat→Int) (c:List Nat):List (List Nat)×(Nat→Nat→Int):=match bf with | none=>([],sn) | some b=>runC K S F b sn (rngD K.length (K.length+1-brk b c K))
theorem feedG {c:List Nat}{sn:Nat→Nat→Int}(h1:1≤F) (h2:F≤12) (hK:K.length≤10) (hS:S.length≤10) (hc:c.length=40) (hB:∀ w∈Bd,okW w) (hb:∀ b,bf=some b→b.length=40) (hro:ro.length≤30000) :
  ∃ of' ro',ro'.length≤ro.length+120∧zaa_ (mkC K S Bd F (md F sn) of bf ro) c=.ok ((clo K S F bf sn c).1++[cLine c Bd],mkC K S Bd F (md F (snA K.length (clo K S F bf sn c).2 (nums S c))) of' (some c) ro'):=by
 have hd:(c.drop 36).length=4:=by simp [hc]
 have hll:=zna_ c Bd
 obtain ⟨of1,ro1,hr1,hlen,ek⟩:∃ of' ro',ro'.length≤ro.length+110∧(clo K S F bf sn c).1.length≤11∧(if (mkC K S Bd F (md F sn) of bf ro).snd.snd.snd.snd.fst.isSome=true then
     ((zE_ (mkC K S Bd F (md F sn) of bf ro) c).noex.bind fun c10 =>
        (zy_ (mkC K S Bd F (md F sn) of bf ro) c10).noex.bind fun q11=>Mq (q11.fst,q11.snd)).bind
      fun q12=>(Mq (Out.nx (q12.fst,q12.snd)):Mo (Out ((List (List Nat))×Ctr) Unit ((List (List Nat))×Ctr)))
    else Mq (Out.nx ([],mkC K S Bd F (md F sn) of bf ro)))=Mq (Out.nx ((clo K S F bf sn c).1,mkC K S Bd F (md F (clo K S F bf sn c).2) of' bf ro')):=by
  cases bf with
  | none=>exact ⟨of,ro,by lia,by unfold clo; simp,rfl⟩
  | some b =>
   have hbk:=zmv_ b c K
   obtain ⟨of1,ro1,hr1,e⟩:=closesG (Bd:=Bd) (of:=of) (ro:=ro) (b:=b) (o:=brk b c K) (sn:=sn) h1 h2 hK hS hbk.2 (hb b rfl) (by lia)
   refine ⟨of1,ro1,hr1,by unfold clo; rw [zeW_,zf4_]; lia,?_⟩
   rw [show (mkC K S Bd F (md F sn) of (some b) ro).snd.snd.snd.snd.fst.isSome=true from rfl,if_pos rfl,ziW_ (hb b rfl) hc]
   walk_at "mo"
   rw [e]
   rfl
 generalize clo K S F bf sn c=q at *
 have hrl:=zjy_ F (md F q.2 K.length) (of1 K.length) (S.map (num c)) ro1 S.length
 refine ⟨u1 of1 K.length (rsO F (md F q.2 K.length) (of1 K.length) (S.map (num c)) S.length),_,Nat.le_trans hrl (by lia),?_⟩
 unfold zaa_ zbT_
 walk_at "mo"
 rw [ek,zi1_,zoT_ hc]
 walk_at "mo"
 rw [show (mkC K S Bd F (md F q.2) of1 bf ro1).snd.snd.fst=Bd from rfl,show (mkC K S Bd F (md F q.2) of1 bf ro1).snd.fst=S from rfl,show (mkC K S Bd F (md F q.2) of1 bf ro1).fst=K from rfl,zpE_ hc hB]
 walk_at "mo"
 rw [Mo.lim_ok (by lia),Mo.lim_ok (by lia)]
 walk_at "mo"
 rw [Mo.grd_ok (by lia),Mo.grd_ok (by decide),Mo.grd_ok (by lia)]
 walk_at "mo"
 rw [Mo.lim_ok (by lia),zaN_ (f:=fun x32=>cond1 (Mq true) (zbM_ c x32).noex) (g:=num c) (fun x hx=>by rw [zlf_ c x (by lia)]; rfl) (by simp; lia)]
 walk_at "mo"
 rw [List.nil_append,zjP_ (Nat.le_refl _) (by simp) (by lia) (by lia),List.append_nil]
 refine congrArg Mq (Prod.ext rfl (zhp_ (bf:=some c) fun j p _ hp=>?_))
 have hp:p<S.length:=hp
 unfold u1
 by_cases hj:j=K.length
 ·subst hj
  rw [if_pos rfl]
  unfold rsK snA
  rw [if_pos hp]
  unfold md
  rw [zqp_,Int.emod_add_emod]
 ·rw [if_neg hj]; unfold md snA; rw [u1_ne _ _ hj]
def fin_ (K S:List (Int×Int)) (F:Nat) (bf:Option (List Nat)) (sn:Nat→Nat→Int):List (List Nat):=match bf with | none=>[lineOf K S F 0 [] (md F sn 0)] | some b=>(runC K S F b sn (rngD K.length (K.length+1))).1
theorem finG {sn:Nat→Nat→Int}(h1:1≤F) (h2:F≤12) (hK:K.length≤10) (hS:S.length≤10) (hb:∀ b,bf=some b→b.length=40) (hro:ro.length≤30000) :
  ∃ C,zT_ (mkC K S Bd F (md F sn) of bf ro)=.ok (fin_ K S F bf sn,C):=by
 unfold zT_ zbr_
 walk_at "mo"
 cases bf with
 | none =>
  rw [show (mkC K S Bd F (md F sn) of none ro).snd.snd.snd.snd.fst=none from rfl]
  walk_at "mo"
  rw [zh3_ h1 h2 hK hS (zmJ_ F sn)]
  exact ⟨_,rfl⟩
 | some b =>
  rw [show (mkC K S Bd F (md F sn) of (some b) ro).snd.snd.snd.snd.fst=some b from rfl]
  walk_at "mo"
  obtain ⟨of1,ro1,hr1,e⟩:=closesG (Bd:=Bd) (of:=of) (ro:=ro) (b:=b) (o:=0) (sn:=sn) h1 h2 hK hS (by lia) (hb b rfl) hro
  rw [show zy_ (mkC K S Bd F (md F sn) of (some b) ro) 0=_ from e]
  exact ⟨_,rfl⟩
def wk (K S Bd:List (Int×Int)) (F:Nat):Option (List Nat)→(Nat→Nat→Int)→List (List Nat)→List (List Nat)
 | bf,sn,[]=>fin_ K S F bf sn
 | bf,sn,c::r=>(clo K S F bf sn c).1++([cLine c Bd]++wk K S Bd F (some c) (snA K.length (clo K S F bf sn c).2 (nums S c)) r)
abbrev zz:Nat→Nat→Int:=fun _ _=>0
theorem md_zz (F:Nat):md F zz=zz:=by funext l p; unfold md; simp
abbrev wk0 (K S Bd:List (Int×Int)) (F:Nat) (deck:List (List Nat)):List (List Nat):=wk K S Bd F none zz deck
theorem zoq_ (bf:Option (List Nat)) (sn:Nat→Nat→Int) (c:List Nat):(clo K S F bf sn c).1.length≤K.length:=by
 unfold clo
 cases bf with
 | none=>simp
 | some b=>simp only; rw [zeW_,zf4_]; have:=zmv_ b c K; lia
theorem zn3_ (bf:Option (List Nat)) (sn:Nat→Nat→Int):(fin_ K S F bf sn).length≤K.length+1:=by
 unfold fin_
 cases bf with
 | none=>simp
 | some b=>simp only; rw [zeW_,zf4_]; lia
end
section
variable {K S Bd:List (Int×Int)}{F:Nat}{deck:List (List Nat)}{cn:Ctr}{acc:List (List Nat)}{d:Nat}
def WI (K S Bd:List (Int×Int)) (F:Nat) (deck:List (List Nat)) (d:Nat) (cn:Ctr) (acc:List (List Nat)):Prop :=
 ∃ bf sn of ro,cn=mkC K S Bd F (md F sn) of bf ro∧(∀ b,bf=some b→b.length=40)∧ro.length≤120*d∧acc.length≤12*d∧acc++wk K S Bd F bf sn (deck.drop d)=wk0 K S Bd F deck
structure Bas (K S Bd:List (Int×Int)) (F:Nat) (deck:List (List Nat)):Prop where
 f1:1≤F
 f2:F≤12
 k:K.length≤10
 s:S.length≤10
 b:∀ w∈Bd,okW w
 bl:Bd.length≤36
 c40:∀ c∈deck,c.length=40
 dl:deck.length≤70
theorem Bas.init (X:Bas K S Bd F deck):∃ cn,zG_ () K S F Bd=.ok ((),cn)∧WI K S Bd F deck 0 cn []:=by
 refine ⟨_,zon_ X.f2 X.k X.s,none,zz,noO,[],?_,fun b h=>(by cases h),Nat.le_refl _,Nat.le_refl _,rfl⟩
 rw [md_zz]
theorem Bas.step (X:Bas K S Bd F deck) (W:WI K S Bd F deck d cn acc) {c:List Nat}{dn r:List (List Nat)}(e:deck=dn++c::r) (hd:dn.length=d):∃ L cn',zaa_ cn c=.ok (L,cn')∧L.length≤11∧WI K S Bd F deck (d+1) cn' (acc++L):=by
 obtain ⟨bf,sn,of,ro,rfl,hb,hro,ha,hw⟩:=W
 have hdl:=X.dl
 have hd2:d<deck.length:=by rw [e,List.length_append,List.length_cons]; lia
 obtain ⟨of1,ro1,hr1,ef⟩:=feedG (K:=K) (S:=S) (Bd:=Bd) (F:=F) (c:=c) (bf:=bf) (sn:=sn) (of:=of) (ro:=ro) X.f1 X.f2 X.k X.s (X.c40 c (by rw [e]; simp)) X.b hb (by lia)
 have hc:=zoq_ (K:=K) (S:=S) (F:=F) bf sn c
 have hk:=X.k
 refine ⟨_,_,ef,by rw [List.length_append,List.length_singleton]; lia,some c,_,of1,ro1,rfl,fun b h=>by cases h; exact X.c40 c (by rw [e]; simp),by lia,by rw [List.length_append,List.length_append,List.length_singleton]; lia,?_⟩
 have ed:deck.drop d=c::deck.drop (d+1):=by
  rw [e,← hd,List.drop_left,List.drop_append]
  simp
 rw [ed] at hw
 rw [← hw,List.append_assoc,List.append_assoc]
 rfl
theorem Bas.fin (X:Bas K S Bd F deck) (W:WI K S Bd F deck deck.length cn acc):∃ L C,zT_ cn=.ok (L,C)∧L.length≤11∧acc++L=wk0 K S Bd F deck:=by
 obtain ⟨bf,sn,of,ro,rfl,hb,hro,ha,hw⟩:=W
 have hdl:=X.dl
 obtain ⟨C,e⟩:=finG (K:=K) (S:=S) (Bd:=Bd) (F:=F) (bf:=bf) (sn:=sn) (of:=of) (ro:=ro) X.f1 X.f2 X.k X.s hb (by lia)
 have hk:=X.k
 have hl:=zn3_ (K:=K) (S:=S) (F:=F) bf sn
 refine ⟨_,C,e,by lia,?_⟩
 rw [List.drop_length] at hw
 exact hw
theorem WI.len (W:WI K S Bd F deck d cn acc):acc.length≤12*d:=by obtain ⟨bf,sn,of,ro,rfl,hb,hro,ha,hw⟩:=W; exact ha
end
theorem zis_ {ps:List (Crd×Nat)}{n:Nat}(hn:∀ q∈ps,q.2<n) (hl:ps.length≤1000) (h2:n≤1000):zc5_ (pkts n ps) (logs ps)=.ok (ps.map Prod.fst):=by
 unfold zc5_ zeK_
 walk_at "mo"
 rw [zaN_ (f:=fun _=>cond1 (Mq true) (Mq 0)) (g:=fun _=>(0:Int)) (fun x _=>rfl) (by rw [znf_]; simp; lia)]
 have e0:([]:List Int)++(pkts n ps).map (fun _=>(0:Int))=cnts n []:=by
  rw [List.nil_append]; unfold pkts cnts; rw [List.map_map]; rfl
 rw [e0]
 walk_at "mo"
 refine za4_ (G:=fun m=>fnO (thenO m _)=.ok (ps.map Prod.fst)) (fun d (s:List Crd×List Int)=>s=((ps.take d.length).map Prod.fst,cnts n (ps.take d.length))) rfl ?_ ?_
 ·rintro d x s ⟨r,hr⟩ rfl
  have hlt:d.length<ps.length:=by
   have:=congrArg List.length hr
   unfold logs at this
   rw [List.length_map,List.length_append] at this; simp at this; lia
  obtain ⟨⟨c,m⟩,hcm⟩:∃ q,ps[d.length]=q:=⟨_,rfl⟩
  have hx:x=(m:Int):=by
   have:=congrArg (fun l=>l[d.length]?) hr
   unfold logs at this
   simp only [List.getElem?_map] at this
   rw [List.getElem?_append_right (Nat.le_refl _),Nat.sub_self,List.getElem?_eq_getElem hlt,hcm] at this
   injection this with this
   exact this.symm
  subst hx
  have hm:m<n:=by have:=hn _ (List.getElem_mem hlt); rw [hcm] at this; exact this
  have hsp:ps=ps.take d.length++(c,m)::ps.drop (d.length+1):=by
   rw [← hcm,← List.drop_eq_getElem_cons hlt,List.take_append_drop]
  have htk:ps.take (d.length+1)=ps.take d.length++[(c,m)]:=by rw [List.take_succ,List.getElem?_eq_getElem hlt,hcm]; rfl
  rw [ziv_ (by lia),Int.toNat_natCast,zmV_ _ hm,ziv_ (by lia),Int.toNat_natCast,zgN_ _ hm]
  walk_at "mo"
  have ha:=znW_ (d:=ps.take d.length) (r:=ps.drop (d.length+1)) (c:=c) (m:=m)
  rw [← hsp] at ha
  rw [ziv_ (by lia),Int.toNat_natCast,ha]
  walk_at "mo"
  rw [Mo.lim_ok (by rw [List.length_map,List.length_take]; lia),zfZ_,zg7_ (by lia) (by lia)]
  walk_at "mo"
  refine ⟨_,rfl,?_⟩
  rw [List.length_append,List.length_singleton,htk,Int.toNat_natCast,zla_ _ c hm,List.map_append]
  rfl
 ·rintro s rfl
  have:(logs ps).length=ps.length:=by unfold logs; rw [List.length_map]
  rw [this,List.take_length]
  rfl
theorem zkJ_ {xss:List (List Crd)}(hl:xss.flatten.length≤1000):zfR_ xss=.ok xss.flatten:=by
 unfold zfR_ zg2_
 walk_at "mo"
 refine za4_ (G:=fun m=>fnO (thenO m _)=.ok xss.flatten) (fun dn s=>s=dn.flatten) rfl ?_ ?_
 ·rintro dn x s ⟨r,hr⟩ rfl
  have:dn.flatten.length+x.length≤1000:=by
   have:=congrArg (fun l=>(List.flatten l).length) hr
   simp only [List.flatten_append,List.flatten_cons,List.length_append] at this
   lia
  rw [Mo.lim_ok (by lia)]
  exact ⟨_,rfl,by simp⟩
 ·rintro s rfl
  rfl
theorem zm0_:zdw_=.ok SG:=rfl
theorem zn4_ (n:Int) {menu mark:List Nat}(h1:0<menu.length) (h2:menu.length≤100) (hm:mark.length=4):∃ c,zcm_ n menu mark=.ok c∧c.length=40:=by
 unfold zcm_ zeI_
 walk_at "mo"
 rw [Mo.grd_ok (by decide)]
 walk_at "mo"
 have n0:0≤n % 2147483647:=Int.emod_nonneg _ (by decide)
 have n1:n % 2147483647<2147483647:=Int.emod_lt_of_pos _ (by decide)
 refine za4_ (G:=fun z=>∃ c:List Nat,fnO (thenO z _)=.ok c∧c.length=40) (fun dn (s:Int×List Nat)=>s.2.length=dn.length∧0≤s.1∧s.1<3000000000) ⟨rfl,by simp only; lia,by simp only; lia⟩ ?_ ?_
 ·rintro dn x s ⟨r,hr⟩ ⟨hs,s0,s1⟩
  have hdn:dn.length<36:=by have:=congrArg List.length hr; rw [zbH_,List.length_append,List.length_cons] at this; have e:Int.toNat 36=36:=rfl; lia
  rw [zfA_ (by lia) (by lia)]
  walk_at "mo"
  have a0:0≤(s.1*s.1+17*x+5) % 2147483629:=Int.emod_nonneg _ (by decide)
  have a1:(s.1*s.1+17*x+5) % 2147483629<2147483629:=Int.emod_lt_of_pos _ (by decide)
  generalize (s.1*s.1+17*x+5) % 2147483629=m at a0 a1 ⊢
  rw [Mo.lim_ok (by lia)]
  walk_at "mo"
  rw [Mo.grd_ok (by lia)]
  walk_at "mo"
  obtain ⟨y,ey,_⟩:=zfw_ (xs:=menu) (k:=m / 3 % (menu.length:Int)) (Int.emod_nonneg _ (by lia)) (Int.emod_lt_of_pos _ (by lia))
  rw [ey,Mo.lim_ok (by lia)]
  walk_at "mo"
  rw [Mo.lim_ok (by simp; lia)]
  exact ⟨_,rfl,by simp [hs],by simp only; lia,by simp only; lia⟩
 ·rintro s ⟨hs,_,_⟩
  rw [zbH_] at hs
  have e:Int.toNat 36=36:=rfl
  walk_at "mo"
  rw [Mo.lim_ok (by lia)]
  exact ⟨_,rfl,by simp [hs,hm]⟩
theorem zf4 {k:Int}(h0:0≤k) (h1:k<10000):k.natAbs.log2<1920∧(zfL (strI k) 4).length=4:=by
 refine ⟨zjG_ (n:=4) h0 (by lia) (by decide),?_⟩
 have e:=zjx_ (w:=4) (v:=k) (by decide) h0 (by lia)
 rw [show ((4:Nat):Int)=4 from rfl] at e
 rw [e,zcG_]
theorem zoG_ (cells:List Int) (way:Int) (hl:cells.length≤100):∃ d:List (List Nat),zdk_ cells way=.ok d∧(∀ c∈d,c.length=40)∧d.length=cells.length:=by
 unfold zdk_ zeD_
 walk_at "mo"
 rw [zm0_]
 walk_at "mo"
 obtain ⟨menu,em,hm⟩:=zfw_ (xs:=[([65,32]:List Nat),[48,90,57],[66,53,65,32,48],SG]) (k:=way % 4) (Int.emod_nonneg _ (by decide)) (Int.emod_lt_of_pos _ (by decide))
 have hml:0<menu.length∧menu.length≤100:=by
  simp only [List.mem_cons,List.not_mem_nil,or_false] at hm
  rcases hm with rfl | rfl | rfl | rfl<;>decide
 rw [em]
 walk_at "mo"
 refine za4_ (G:=fun z=>∃ d:List (List Nat),fnO (thenO z _)=.ok d∧(∀ c∈d,c.length=40)∧d.length=cells.length) (fun dn (s:List (List Nat))=>(∀ c∈s,c.length=40)∧s.length=dn.length) ⟨fun c h=>(by cases h),rfl⟩ ?_ ?_
 ·rintro dn x s ⟨r,hr⟩ ⟨w1,w2⟩
  have hx:x.1=dn.length∧dn.length<cells.length:=by
   have h1:(enumL cells)[dn.length]?=some x:=by rw [hr]; simp
   rw [zfB_] at h1
   obtain ⟨y,h2,h3⟩:=Option.map_eq_some_iff.mp h1
   subst h3
   exact ⟨rfl,(List.getElem?_eq_some_iff.mp h2).1⟩
  obtain ⟨z1,z2⟩:=zf4 (k:=x.1) (by lia) (by lia)
  rw [Mo.grd_ok z1]
  walk_at "mo"
  rw [Mo.grd_ok (zim_ (by lia) (by lia))]
  walk_at "mo"
  have key:∀ mark:List Nat,mark.length=4→∃ s',((zcm_ x.2 menu mark).noex.bind fun a=>Mo.lim (s.length+1) (Mq (Out.nx (s++[a]))))=(Mq (Out.nx s'):Mo (Out (List (List Nat)) (List (List Nat)) (List (List Nat))))∧(∀ c∈s',c.length=40)∧s'.length=(dn++[x]).length:=fun mark h4=>by
   obtain ⟨c,ec,hc⟩:=zn4_ x.2 hml.1 hml.2 h4
   rw [ec]
   walk_at "mo"
   rw [Mo.lim_ok (by lia)]
   refine ⟨_,rfl,fun q hq=>?_,by simp [w2]⟩
   rcases List.mem_append.mp hq with h | h
   ·exact w1 q h
   ·rw [List.mem_singleton.mp h]; exact hc
  by_cases q:way / 4 % 4=1
  ·rw [decide_eq_true q,if_pos rfl]
   walk_at "mo"
   exact key _ rfl
  ·rw [decide_eq_false q,if_neg (by decide)]
   walk_at "mo"
   exact key _ z2
 ·rintro s ⟨w1,w2⟩
  rw [zdj_] at w2
  exact ⟨s,rfl,w1,w2⟩
theorem zbK_ (d:List (List Nat)):zW_ d d=.ok true:=by
 unfold zW_ zcb_
 walk_at "mo"
 rw [zke_ (fun x hx=>by
  have:x.1=x.2:=by
   obtain ⟨i,hi,e⟩:=List.mem_iff_getElem.mp hx
   rw [← e,List.getElem_zip]
  rw [decide_eq_true this]; rfl)]
 rfl
abbrev Pri:=List (List (List Nat))×(List Int×(Ctr×(List (List Nat)×Unit)))
def mkM (ds:List (List Nat)) (C:Ctr) (ls:List (List Nat)):Pri:=([ds],List.replicate ds.length 0,C,ls,())
section
variable {K S Bd:List (Int×Int)}{F:Nat}{cn C C':Ctr}{ds ls L:List (List Nat)}{c:List Nat}
theorem zjQ_ (h:zG_ () K S F Bd=.ok ((),cn)):z3_ () K S F Bd=.ok ((),mkM [] cn []):=by
 unfold z3_ za2_
 walk_at "mo"
 have e1:zA_ ()=.ok ((),(([]:List (List (List Nat))),([]:List Int),())):=by
  unfold zA_ zO_
  walk_at "mo"
  rw [Mo.lim_ok (by decide)]
  rfl
 rw [e1]
 walk_at "mo"
 have e2:zV_ (([]:List (List (List Nat))),([]:List Int),()) 1=.ok ((),([[]],[],())):=by
  unfold zV_ zaq_
  walk_at "mo"
  rw [Mo.grd_ok (by decide)]
  rfl
 rw [e2]
 walk_at "mo"
 rw [h]
 rfl
theorem zkw_ (hl:ds.length≤100):z4_ (mkM ds C ls) c 0=.ok ((),mkM (ds++[c]) C ls):=by
 unfold z4_ zbz_ mkM
 walk_at "mo"
 rw [zg7_ (by lia) (show (0:Int)<(([ds].length:Nat):Int) by simp)]
 walk_at "mo"
 rw [show [ds][Int.toNat 0]?=some ds from rfl]
 walk_at "mo"
 rw [Mo.lim_ok (by lia),Mo.lim_ok (by simp; lia)]
 rw [List.length_append,List.length_singleton,List.replicate_succ']
 rfl
theorem zm8_ (h:zaa_ C c=.ok (L,C')) (hl:ds.length≤100) (h2:ls.length+L.length≤10000):zbn_ (mkM ds C ls) c=.ok ((),mkM (ds++[c]) C' (ls++L)):=by
 unfold zbn_ zbS_
 walk_at "mo"
 rw [show (mkM ds C ls).2.2.1=C from rfl,h]
 walk_at "mo"
 rw [Mo.lim_ok (by show ls.length+_≤_; lia)]
 have e:z4_ (mkM ds C' (ls++L)) c 0=_:=zkw_ hl
 show fnMU ((z4_ (mkM ds C' (ls++L)) c 0).noex.bind fun q11=>Mq (Out.nx q11.snd))=_
 rw [e]
 rfl
theorem zkl_ (h:zT_ C=.ok (L,C')) (h2:ls.length+L.length≤10000):zaH_ (mkM ds C ls)=.ok ((),mkM ds C' (ls++L)):=by
 unfold zaH_ zbw_
 walk_at "mo"
 rw [show (mkM ds C ls).2.2.1=C from rfl,h]
 walk_at "mo"
 rw [Mo.lim_ok (by show ls.length+_≤_; lia)]
 rfl
theorem zea_:zK_ (mkM ds C ls)=.ok ls:=rfl
theorem zkc_ (hl:ds.length≤100):zaP_ (mkM ds C ls)=.ok ds:=by
 unfold zaP_ zbO_
 walk_at "mo"
 have e:=zis_ (ps:=ds.map fun c=>(c,0)) (n:=1) (fun q hq=>by obtain ⟨c,_,rfl⟩:=List.mem_map.mp hq; exact Nat.one_pos) (by simp; lia) (by decide)
 have e1:pkts 1 (ds.map fun c=>(c,0))=(mkM ds C ls).1:=by
  unfold pkts mkM
  show [((ds.map fun c=>(c,0)).filter fun q=>decide (q.2=0)).map Prod.fst]=[ds]
  rw [List.filter_eq_self.mpr (fun q hq=>by obtain ⟨c,_,rfl⟩:=List.mem_map.mp hq; rfl),List.map_map,show (Prod.fst∘fun c:List Nat=>(c,0))=id from rfl,List.map_id]
 have e2:logs (ds.map fun c=>(c,0))=(mkM ds C ls).2.1:=by
  unfold logs mkM
  rw [List.map_map]
  show ds.map (fun _=>((0:Nat):Int))=_
  rw [List.map_const']
  rfl
 rw [← e1,← e2,e,List.map_map]
 show fnO _=_
 walk_at "mo"
 rw [show (Prod.fst∘fun c:List Nat=>(c,0))=id from rfl,List.map_id]
theorem zkk_:zal_ (mkM ds C ls)=.ok ds:=by
 unfold zal_ zbo_ mkM
 walk_at "mo"
 rw [show atI [ds] 0=some ds from rfl]
 rfl
theorem zlb_:z9_ (mkM ds C ls)=.ok []:=by
 unfold z9_ zaD_ mkM
 walk_at "mo"
 rw [zkD_,zkJ_ (by simp)]
 rfl
end
theorem zhx_ (n:Int) {many:Int}(h0:0≤many) (h1:many<10):∃ fs:List (Int×Int),zbt_ n many=.ok fs∧fs.length≤10:=by
 unfold zbt_ zcX_
 walk_at "mo"
 rw [Mo.grd_ok (by lia)]
 walk_at "mo"
 have n0:0≤n % 2147483647:=Int.emod_nonneg _ (by decide)
 have n1:n % 2147483647<2147483647:=Int.emod_lt_of_pos _ (by decide)
 refine za4_ (G:=fun z=>∃ fs:List (Int×Int),fnO (thenO z _)=.ok fs∧fs.length≤10) (fun dn (s:Int×List (Int×Int))=>s.2.length=dn.length∧0≤s.1∧s.1<3000000000) ⟨rfl,by simp only; lia,by simp only; lia⟩ ?_ ?_
 ·rintro dn x s ⟨r,hr⟩ ⟨hs,s0,s1⟩
  have hdn:dn.length<many.toNat:=by have:=congrArg List.length hr; rw [zbH_,List.length_append,List.length_cons] at this; lia
  rw [zfA_ (by lia) (by lia)]
  walk_at "mo"
  have a0:0≤(s.1*s.1+31*x+5) % 2147483629:=Int.emod_nonneg _ (by decide)
  have a1:(s.1*s.1+31*x+5) % 2147483629<2147483629:=Int.emod_lt_of_pos _ (by decide)
  generalize (s.1*s.1+31*x+5) % 2147483629=m at a0 a1 ⊢
  have b0:0≤m / 3 % 4:=Int.emod_nonneg _ (by decide)
  have b1:m / 3 % 4<4:=Int.emod_lt_of_pos _ (by decide)
  rw [Mo.grd_ok (by lia)]
  walk_at "mo"
  rw [Mo.lim_ok (by lia)]
  exact ⟨_,rfl,by simp [hs],by simp only; lia,by simp only; lia⟩
 ·rintro s ⟨hs,_,_⟩
  rw [zbH_] at hs
  exact ⟨s.2,rfl,by lia⟩
theorem zmd_ {m:List (Int×Int)}{k v:Int}(h:getA m k=some v):(k,v)∈m:=by
 unfold getA at h
 obtain ⟨q,h1,h2⟩:=Option.map_eq_some_iff.mp h
 have h3:=List.find?_some h1
 have h4:=List.mem_of_find?_eq_some h1
 have e:q.1=k:=of_decide_eq_true h3
 rw [← e,← h2]; exact h4
theorem zky_ {m:List (Int×Int)}{k:Int}(h:k∈m.map fun x=>x.1):∃ v,getA m k=some v:=by
 obtain ⟨q,hq,rfl⟩:=List.mem_map.mp h
 unfold getA
 cases e:m.find? (fun p=>decide (p.1=q.1)) with
 | none=>exact absurd (decide_eq_true rfl) (List.find?_eq_none.mp e q hq)
 | some p=>exact ⟨_,rfl⟩
theorem zmN_ {m:List (Int×Int)}{k v:Int}{q:Int×Int}(h:q∈putA m k v):q=(k,v)∨q∈m:=by
 unfold putA at h
 split at h
 ·obtain ⟨p,hp,e⟩:=List.mem_map.mp h
  split at e
  ·rename_i e2; left; rw [← e,e2]
  ·right; rw [← e]; exact hp
 ·rcases List.mem_append.mp h with h | h
  ·exact .inr h
  ·exact .inl (List.mem_singleton.mp h)
theorem zl6_ (n:Int):∃ B:List (Int×Int),zcE_ n=.ok B∧(∀ w∈B,okW w)∧B.length≤36:=by
 have m0:0≤n % 9:=Int.emod_nonneg _ (by decide)
 have m1:n % 9<9:=Int.emod_lt_of_pos _ (by decide)
 have n0:0≤n % 2147483647:=Int.emod_nonneg _ (by decide)
 have n1:n % 2147483647<2147483647:=Int.emod_lt_of_pos _ (by decide)
 unfold zcE_ zdF_
 walk_at "mo"
 rw [Mo.grd_ok (by lia)]
 walk_at "mo"
 refine za4_ (G:=fun z=>∃ B:List (Int×Int),fnO (thenO z _)=.ok B∧(∀ w∈B,okW w)∧B.length≤36) (fun dn (s:Int×List (Int×Int))=>s.2.length≤dn.length∧(0≤s.1∧s.1<3000000000)∧∀ q∈s.2,okW (q.2,q.1)) ⟨Nat.le_refl _,⟨by simp only; lia,by simp only; lia⟩,fun q h=>(by cases h)⟩ ?_ ?_
 ·rintro dn x s ⟨r,hr⟩ ⟨hs,⟨s0,s1⟩,hq⟩
  have hdn:dn.length<(n % 9).toNat:=by have:=congrArg List.length hr; rw [zbH_,List.length_append,List.length_cons] at this; lia
  rw [zfA_ (by lia) (by lia)]
  walk_at "mo"
  have a0:0≤(s.1*s.1+13*x+7) % 2147483629:=Int.emod_nonneg _ (by decide)
  have a1:(s.1*s.1+13*x+7) % 2147483629<2147483629:=Int.emod_lt_of_pos _ (by decide)
  generalize (s.1*s.1+13*x+7) % 2147483629=m at a0 a1 ⊢
  have b0:0≤m / 5 % 36:=Int.emod_nonneg _ (by decide)
  have b1:m / 5 % 36<36:=Int.emod_lt_of_pos _ (by decide)
  have d0:0≤m / 180 % 40:=Int.emod_nonneg _ (by decide)
  have d1:m / 180 % 40<40:=Int.emod_lt_of_pos _ (by decide)
  rw [Mo.lim_ok (by lia)]
  refine ⟨_,rfl,Nat.le_trans (zjn_ _ _ _) (by simp; lia),⟨by simp only; lia,by simp only; lia⟩,fun q hm=>?_⟩
  rcases zmN_ hm with rfl | h
  ·refine ⟨?_,?_,?_,?_⟩<;>simp only<;>lia
  ·exact hq q h
 ·rintro s ⟨hs,_,hq⟩
  rw [zbH_] at hs
  walk_at "mo"
  rw [Mo.grd_ok (by lia)]
  walk_at "mo"
  have hpm:=zh1_ (lt:=ltI) (s.2.map fun x=>x.1)
  obtain ⟨B,e,hB⟩:=ziG_ (f:=fun x39=>cond1 (Mq true) ((Mo.opt (getA s.2 x39)).bind fun a42=>Mq (a42,x39))) (P:=fun _ w=>okW w) (xs:=srtL ltI (s.2.map fun x=>x.1)) (acc:=[]) (fun x hx=>by
   obtain ⟨v,ev⟩:=zky_ (m:=s.2) (k:=x) (hpm.mem_iff.mp hx)
   refine ⟨(v,x),by rw [ev]; rfl,hq (x,v) (zmd_ ev)⟩) (by rw [hpm.length_eq,List.length_map]; simp; lia)
  rw [e]
  refine ⟨_,rfl,fun w hw=>?_,?_⟩
  ·rw [List.nil_append] at hw
   obtain ⟨_,_,h⟩:=zjg_ hB hw
   exact h
  ·rw [List.nil_append]
   have:=hB.length
   rw [hpm.length_eq,List.length_map] at this
   lia
theorem zmx_ (ns:List Int) (hl:ns.length≤63):f_law ns=.ok true:=by
 obtain ⟨c0,e0⟩:=zi3_ ns 0 (by lia)
 obtain ⟨c1,e1⟩:=zi3_ ns 1 (by lia)
 obtain ⟨c2,e2⟩:=zi3_ ns 2 (by lia)
 have hns:(cutG ns (some 3) (some 63)).length≤63:=Nat.le_trans (zeq_ _ _ _) hl
 obtain ⟨d,ed,hd,hdl⟩:=zoG_ (cutG ns (some 3) (some 63)) c0 (by lia)
 obtain ⟨K,eK,hK⟩:=zhx_ c1 (many:=c1 % 4) (Int.emod_nonneg _ (by decide)) (by have:=Int.emod_lt_of_pos c1 (show (0:Int)<4 by decide); lia)
 obtain ⟨S,eS,hS⟩:=zhx_ (c1 / 4+1) (many:=c1 / 4 % 4) (Int.emod_nonneg _ (by decide)) (by have:=Int.emod_lt_of_pos (c1 / 4) (show (0:Int)<4 by decide); lia)
 obtain ⟨Bd,eB,hB,hBl⟩:=zl6_ c2
 have f0:0≤c2 / 2 % 12:=Int.emod_nonneg _ (by decide)
 have f1:c2 / 2 % 12<12:=Int.emod_lt_of_pos _ (by decide)
 obtain ⟨F,hF⟩:∃ F:Nat,1+c2 / 2 % 12=(F:Int):=⟨(1+c2 / 2 % 12).toNat,by lia⟩
 have X:Bas K S Bd F d:=⟨by lia,by lia,hK,hS,hB,hBl,hd,by lia⟩
 obtain ⟨cn,ei,W⟩:=X.init
 obtain ⟨word,ew,hw⟩:=zfw_ (xs:=[([99,108,97,115,115]:List Nat),[103,111,105,110,103]]) (k:=c2 % 2) (Int.emod_nonneg _ (by decide)) (Int.emod_lt_of_pos _ (by decide))
 simp only [List.mem_cons,List.not_mem_nil,or_false] at hw
 have em:zdt_ word [K,S,Bd] F=.ok (mkM [] cn []):=by
  unfold zdt_ zeT_
  walk_at "mo"
  rw [show tri [K,S,Bd]=some (K,S,Bd) from rfl]
  walk_at "mo"
  rw [zjQ_ ei]
  walk_at "mo"
  have eg:zbU_ ([99,111,117,110,116],[97],K,S,(F:Int),Bd) []=.ok (mkM [] cn []):=by
   unfold zbU_ zcV_
   walk_at "mo"
   rw [zjQ_ ei]
   rfl
  rw [eg]
  rcases hw with rfl | rfl<;>rfl
 unfold f_law zpz_
 walk_at "mo"
 rw [e0,e1,e2]
 walk_at "mo"
 rw [ed,eK,eS,eB]
 walk_at "mo"
 rw [Mo.lim_ok (by simp),ew,hF]
 walk_at "mo"
 rw [em]
 walk_at "mo"
 rw [show eqL (eqL fun a b:Int×Int=>decide (a.fst=b.fst) && decide (a.snd=b.snd)) [K,S,Bd] [K,S,Bd]=true from zhn_ (fun a=>zhn_ (fun a=>by simp) a) _]
 walk_at "mo"
 rw [show zck_ [K,S,Bd]=.ok ((),[[],[],[]]) from rfl,ei]
 walk_at "mo"
 refine za4_ (G:=fun z=>fnO (thenO z _)=.ok true) (fun dn s=>∃ C acc,WI K S Bd F d dn.length C acc∧s=(acc,C,mkM (d.take dn.length) C acc)) ⟨cn,[],W,rfl⟩ ?_ ?_
 ·rintro dn x s ⟨r,hr⟩ ⟨C,acc,W,rfl⟩
  obtain ⟨x1,x2,hdn⟩:=zeV_ hr
  have hsp:d=d.take dn.length++x.2::d.drop (dn.length+1):=by
   have:d[dn.length]'hdn=x.2:=by rw [List.getElem?_eq_getElem hdn] at x2; exact Option.some.inj x2
   rw [← this,← List.drop_eq_getElem_cons hdn,List.take_append_drop]
  obtain ⟨L,C',e,hl,W'⟩:=X.step W hsp (by rw [List.length_take]; lia)
  have hwl:=W.len
  have htk:d.take (dn.length+1)=d.take dn.length++[x.2]:=by rw [List.take_succ,x2]; rfl
  rw [e]
  walk_at "mo"
  rw [Mo.lim_ok (by lia)]
  walk_at "mo"
  rw [zm8_ e (by rw [List.length_take]; lia) (by lia)]
  walk_at "mo"
  rw [zea_]
  walk_at "mo"
  rw [zbK_]
  walk_at "mo"
  rw [zea_]
  walk_at "mo"
  rw [Mo.lim_ok (by rw [List.length_append]; lia),zkc_ (by rw [List.length_append,List.length_take]; simp; lia)]
  walk_at "mo"
  rw [x1,ziN_ (by lia),show ((dn.length:Int)+1).toNat=dn.length+1 by lia,htk,zbK_]
  walk_at "mo"
  exact ⟨_,rfl,C',acc++L,by rw [List.length_append,List.length_singleton]; exact W',by rw [List.length_append,List.length_singleton,htk]⟩
 ·rintro s ⟨C,acc,W,rfl⟩
  rw [zdj_] at W ⊢
  obtain ⟨L,C',e,hl,hw⟩:=X.fin W
  have hwl:=W.len
  rw [List.take_length]
  walk_at "mo"
  rw [zea_]
  walk_at "mo"
  rw [zbK_]
  walk_at "mo"
  rw [zkc_ (by lia)]
  walk_at "mo"
  rw [zbK_]
  walk_at "mo"
  rw [zkl_ e (by lia),e]
  walk_at "mo"
  rw [zea_]
  walk_at "mo"
  rw [Mo.lim_ok (by lia)]
  walk_at "mo"
  rw [zbK_]
  walk_at "mo"
  rw [zkk_]
  walk_at "mo"
  rw [Mo.lim_ok (by lia),zbK_]
  walk_at "mo"
  rw [zlb_]
  rfl
end K59
namespace K59
open PySem PySem.Spec PyProof.Rows L2
open Mo renaming bind→Mb,ok→Mq
open Sl renaming fz→Zf,dead→Zd,ow→Zo
theorem zpK_ {l:PySem.W.OpenLaw}{w:World}{K:Fgg}{mg:Str→Option Value}{base:Heap}{f:Addr}{fd:FuncData}(e:En K mg) (g5:zgf_ l.prog w K mg base) (g6:zdW_ l.prog w K mg base) (g7:zew_ l.prog w K mg base) (g8:zfg_ l.prog w K mg base) (g13:zgd_ l.prog w K mg base) (g14:zdX_ l.prog w K mg base) (g2:zaW_ l.prog w K mg base) (g31:zbP_ l.prog w K mg base) (g39:zdr_ l.prog w K mg base) (g35:zd1_ l.prog w K mg base) (g40:zbC_ l.prog w K mg base) (g42:zc3_ l.prog w K mg base) (g33:zcn_ l.prog w K mg base) (g32:zbu_ l.prog w K mg base) (g34:zce_ l.prog w K mg base) (g37:zbA_ l.prog w K mg base) (F:Fun K "law" "law" zpt_ f fd):FnOk l.prog w K mg base CX0 10 f fd ["_law_script"] (spL K) :=
 okL (l:=l) (w:=w) (K:=K) (mg:=mg) (base:=base) (k:=9) (st:=zpt_) (x := "_law_script") (N:=["_law_script", "_law_deck_here", "_law_second", "_law_third", "_law_breaks", "_law_sums", "_law_figures", "_law_board_here", "_law_handed", "_law_machine", "_law_beside", "_law_due", "_law_k", "_law_card_here"]) (t:=fun E=>t_law K) (g:=zpz_) 13 (fun _ _ _ _ _ _ E nd hr=>(zf_ (pst 1 (zC_ g5 (hm hr) (zc_ (zdC_ sl_M (za_ 0) (po_M zq_) (po_M zq_)) (zc_ (zC_ g6 (hm hr) (zc_ (za_ 0) (zc_ zq_ zl_))) zl_)))) (zf_ (pst 2 (zC_ g6 (hm hr) (zc_ (za_ 0) (zc_ zq_ zl_)))) (zf_ (pst 3 (zC_ g6 (hm hr) (zc_ (za_ 0) (zc_ zq_ zl_)))) (zf_ (pst 4 (zC_ g7 (hm hr) (zc_ (za_ 2) (zc_ (zak_ zaI_ (za_ 2) zq_) zl_)))) (zf_ (pst 5 (zC_ g7 (hm hr) (zc_ (zak_ z0_ (zak_ zdp_ (za_ 2) zq_) zq_) (zc_ (zak_ zaI_ (zak_ zdp_ (za_ 2) zq_) zq_) zl_)))) (zf_ (pst 6 (zak_ z0_ zq_ (zak_ zaI_ (zak_ zdp_ (za_ 3) zq_) zq_))) (zf_ (pst 7 (zC_ g8 (hm hr) (zc_ (za_ 3) zl_))) (zf_ (pst 8 (zb4_ (zc_ (zkq_ "list" (za9_ rfl) (e.m.gb e.b1) (zc_ (za_ 4) zl_)) (zc_ (zkq_ "list" (za9_ rfl) (e.m.gb e.b1) (zc_ (za_ 5) zl_)) (zc_ (zkq_ "list" (za9_ rfl) (e.m.gb e.b1) (zc_ (za_ 7) zl_)) zl_))))) (zf_ (pst 9 (zC_ g13 (hm hr) (zc_ (zd3_ ix_M (zb4_ (zc_ (zba_ (l:=[99,108,97,115,115])) (zc_ (zba_ (l:=[103,111,105,110,103])) zl_))) (zak_ zaI_ (za_ 3) zq_) (fun _ _=>rfl)) (zc_ (za_ 8) (zc_ (za_ 6) zl_))))) (zf_ (zbG_ (PW.pt (ziz_ (zaJ_ (zlj_ hr.u60) (za_ 8) (zb4_ (zc_ (za_ 4) (zc_ (za_ 5) (zc_ (za_ 7) zl_))))) (zii_ (zgL_ (zdb_ (zix_ zk2_ (e.m.gb e.b6) (zc_ (za_ 9) (zc_ (znq_ (e.m.gkc e.k0)) zl_)))))))) (zm_ (zY_ ziF_)) zaz_) (zf_ (zao_ (zC_ g14 (hm hr) (zc_ (za_ 8) zl_))) (zf_ (pst 10 (ze2_ g2 (hm hr) (zc_ (za_ 4) (zc_ (za_ 5) (zc_ (za_ 6) (zc_ (za_ 7) zl_)))))) (zf_ (pst 11 (zb4_ zl_)) (zf_ (zcI_ PassesOwn.never rfl (zfN_ (by rfl) (e.m.gb e.b3) (zc_ (za_ 1) zl_)) (zga_ (n:=2) rfl (zas_ (pgn 12) (zas_ (pgn 13) zdI_))) (zf_ (pst 11 (zak_ z0_ (za_ 11) (zaM_ g31 (hm hr) (za_ 10) (zc_ (za_ 13) zl_)))) (zf_ (zbG_ (PW.pt (ziz_ (zaJ_ zfs_ (zaM_ g39 (hm hr) (za_ 9) (zc_ (za_ 13) zl_)) zjL_) (zii_ (zgL_ (zdb_ (zC_ g35 (hm hr) (zc_ (z2_ g40 (hm hr) (za_ 9)) (zc_ (za_ 11) zl_)))))))) (zm_ (zY_ ziF_)) zaz_) (zf_ (zao_ (zg6_ zbv_ zR_ zP_ za6_ (z2_ g40 (hm hr) (za_ 9)) (zc_ (zba_ (l:=[])) zl_))) (zm_ (zbG_ (zgL_ (zdb_ (zC_ g35 (hm hr) (zc_ (z2_ g42 (hm hr) (za_ 9)) (zc_ (zdC_ sl_M (za_ 1) zhZ_ (po_M (zak_ z0_ (za_ 12) zq_))) zl_))))) (zm_ (zY_ ziF_)) zaz_)))))) (zf_ (zbG_ (PW.pt (ziz_ (zgL_ (zdb_ (zC_ g35 (hm hr) (zc_ (z2_ g40 (hm hr) (za_ 9)) (zc_ (za_ 11) zl_))))) (zii_ (zgL_ (zdb_ (zC_ g35 (hm hr) (zc_ (z2_ g42 (hm hr) (za_ 9)) (zc_ (za_ 1) zl_)))))))) (zm_ (zY_ ziF_)) zaz_) (zf_ (zbG_ (PW.pt (ziz_ (zaJ_ zfs_ (z2_ g33 (hm hr) (za_ 9)) zjL_) (zii_ (zgL_ (zdb_ (zC_ g35 (hm hr) (zc_ (z2_ g40 (hm hr) (za_ 9)) (zc_ (zak_ z0_ (za_ 11) (z2_ g32 (hm hr) (za_ 10))) zl_)))))))) (zm_ (zY_ ziF_)) zaz_) (zf_ (zao_ (zg6_ zbv_ zR_ zP_ za6_ (z2_ g34 (hm hr) (za_ 9)) (zc_ (zba_ (l:=[])) zl_))) (zm_ (zY_ (zov_ (zC_ g35 (hm hr) (zc_ (z2_ g34 (hm hr) (za_ 9)) (zc_ (za_ 1) zl_))) (zqn_ (znE_ (zgp_ hr.u60) (z2_ g37 (hm hr) (za_ 9)) (zb4_ zl_)))))))))))))))))))))))) (fun ns hl hb=>zmx_ ns hl) (fun c E=>at_ [(Zf (tySc K) c),Zd,Zd,Zd,Zd,Zd,Zd,Zd,Zd,Zd,Zd,Zd,Zd,Zd]
 (zbX_ (i:=1) rfl (zn_ zj_) (zbQ_ (zr_ (EvO.fr (znA_ (ze_ 0 rfl) (zlR_ (zt_ 3)) (zlR_ (zt_ 63)))) (zk_ (zH_ (zr_ (ze_ 0 rfl) (zk_ (zt_ 0))))))) fun w1'=>zng_ (i:=1) rfl (at_ [(Zf (tySc K) c),(Zf (tyL tyStr) w1'),Zd,Zd,Zd,Zd,Zd,Zd,Zd,Zd,Zd,Zd,Zd,Zd] (zd4_ (i:=2) rfl zb_ (zH_ (zr_ (ze_ 0 rfl) (zk_ (zt_ 1)))) fun s13=>(at_ [(Zf (tySc K) c),(Zf (tyL tyStr) w1'),(Zf tyInt s13),Zd,Zd,Zd,Zd,Zd,Zd,Zd,Zd,Zd,Zd,Zd] (zd4_ (i:=3) rfl zb_ (zH_ (zr_ (ze_ 0 rfl) (zk_ (zt_ 2)))) fun t17=>(at_ [(Zf (tySc K) c),(Zf (tyL tyStr) w1'),(Zf tyInt s13),(Zf tyInt t17),Zd,Zd,Zd,Zd,Zd,Zd,Zd,Zd,Zd,Zd] (zbX_ (i:=4) rfl (zn_ (zo_ (zh_ zb_ (zg_ zb_)))) (zbQ_ (zr_ (ze_ 2 rfl) (zk_ (zL_ zaL_ (ze_ 2 rfl) (zt_ 4))))) fun v21=>zng_ (i:=4) rfl (at_ [(Zf (tySc K) c),(Zf (tyL tyStr) w1'),(Zf tyInt s13),(Zf tyInt t17),(Zf (tyL Qq2) v21),Zd,Zd,Zd,Zd,Zd,Zd,Zd,Zd,Zd] (zbX_ (i:=5) rfl (zn_ (zo_ (zh_ zb_ (zg_ zb_)))) (zbQ_ (zr_ (zL_ zai_ (zL_ zbN_ (ze_ 2 rfl) (zt_ 4)) (zt_ 1)) (zk_ (zL_ zaL_ (zL_ zbN_ (ze_ 2 rfl) (zt_ 4)) (zt_ 4))))) fun s27=>zng_ (i:=5) rfl (at_ [(Zf (tySc K) c),(Zf (tyL tyStr) w1'),(Zf tyInt s13),(Zf tyInt t17),(Zf (tyL Qq2) v21),(Zf (tyL Qq2) s27),Zd,Zd,Zd,Zd,Zd,Zd,Zd,Zd] (zd4_ (i:=6) rfl zb_ (zL_ zai_ (zt_ 1) (zL_ zaL_ (zL_ zbN_ (ze_ 3 rfl) (zt_ 2)) (zt_ 12))) fun v39=>(at_ [(Zf (tySc K) c),(Zf (tyL tyStr) w1'),(Zf tyInt s13),(Zf tyInt t17),(Zf (tyL Qq2) v21),(Zf (tyL Qq2) s27),(Zf tyInt v39),Zd,Zd,Zd,Zd,Zd,Zd,Zd] (zbX_ (i:=7) rfl (zn_ (zo_ (zh_ zb_ (zg_ zb_)))) (zbQ_ (zk_ (ze_ 3 rfl))) fun b46=>zng_ (i:=7) rfl (at_ [(Zf (tySc K) c),(Zf (tyL tyStr) w1'),(Zf tyInt s13),(Zf tyInt t17),(Zf (tyL Qq2) v21),(Zf (tyL Qq2) s27),(Zf tyInt v39),(Zf (tyL Qq2) b46),Zd,Zd,Zd,Zd,Zd,Zd] (zbX_ (i:=8) rfl (zs_ (zn_ (zo_ (zh_ zb_ (zg_ zb_))))) (zlw_ (zhb_ (zfL_ zdZ_ (zk_ (ze_ 4 rfl))) (zhb_ (zfL_ zdZ_ (zk_ (ze_ 5 rfl))) (zhb_ (zfL_ zdZ_ (zk_ (ze_ 7 rfl))) zlG_)))) fun h48=>(at_ [(Zf (tySc K) c),(Zf (tyL tyStr) w1'),(Zf tyInt s13),(Zf tyInt t17),(Zf (tyL Qq2) v21),(Zf (tyL Qq2) s27),(Zf tyInt v39),(Zf (tyL Qq2) b46),(Zo (owLO (owL Qq2)) h48),Zd,Zd,Zd,Zd,Zd] (zbX_ (i:=9) rfl (zN_ (zd_ (zs_ (zn_ zj_)) (zd_ (zn_ zb_) (zd_ (zN_ (zd_ (zn_ (zo_ (zh_ zb_ (zg_ zb_)))) (zd_ (zn_ (zo_ (zh_ zb_ (zg_ zb_)))) (zd_ (zn_ (zo_ (zh_ zb_ (zg_ zb_)))) (zd_ (zs_ (zs_ (zN_ (zd_ (zi_ zb_) (zd_ (zi_ zb_) (zd_ (zi_ zb_) (zd_ (zi_ zD_) zp_))))))) (zd_ (zi_ (zay_ zj_)) (zd_ (zbF_ zD_) zp_))))))) (zd_ (zn_ zj_) zp_))))) (zbQ_ (zr_ (zL_ zfD_ (EvO.fr (zlg_ (zZ_ zav_) (zdy_ zfP_) (zr_ (zaX_ [99,108,97,115,115]) (zk_ (zaX_ [103,111,105,110,103]))))) (zL_ zaL_ (ze_ 3 rfl) (zt_ 2))) (zr_ (zfd_ (O:=(owLO (owL Qq2))) 8 rfl) (zk_ (ze_ 6 rfl))))) fun m59=>(at_ [(Zf (tySc K) c),(Zf (tyL tyStr) w1'),(Zf tyInt s13),(Zf tyInt t17),(Zf (tyL Qq2) v21),(Zf (tyL Qq2) s27),(Zf tyInt v39),(Zf (tyL Qq2) b46),(Zo (owLO (owL Qq2)) h48),(Zo (Qq3 K) m59),Zd,Zd,Zd,Zd] (zcD_ (LS:=(fun _:Unit=>[(Zf (tySc K) c),(Zf (tyL tyStr) w1'),(Zf tyInt s13),(Zf tyInt t17),(Zf (tyL Qq2) v21),(Zf (tyL Qq2) s27),(Zf tyInt v39),(Zf (tyL Qq2) b46),(Zo (owLO (owL Qq2)) h48),(Zo (Qq3 K) m59),Zd,Zd,Zd,Zd])) (s_if (zo4_ (zaT_ (zL_ (zpw_ (zpF_ (zpF_ (znZ_ (znc_ zly_ (zmZ_ zly_)))))) (zfd_ (O:=(owLO (owL Qq2))) 8 rfl) (EvO.fr (zlg_ (zZ_ (zZ_ zav_)) (zdy_ (zdy_ zfP_)) (zr_ (ze_ 4 rfl) (zr_ (ze_ 5 rfl) (zk_ (ze_ 7 rfl)))))))) (zgl_ (zaT_ (zoU_ e.fx.isi_Printer_Machine (zcQ_ (P:=(Qq13 K)) 9 rfl))))) (zb9_ (zi_ zD_) (EvF.ow (zh5_ false))) (zw_ (S4 (S4 (S4 (.same (.same .nil))))))) fun _=>(at_ [(Zf (tySc K) c),(Zf (tyL tyStr) w1'),(Zf tyInt s13),(Zf tyInt t17),(Zf (tyL Qq2) v21),(Zf (tyL Qq2) s27),(Zf tyInt v39),(Zf (tyL Qq2) b46),(Zo (owLO (owL Qq2)) h48),(Zo (Qq3 K) m59),Zd,Zd,Zd,Zd] (zmT_ (i:=8) (zs_ (zn_ (zo_ (zh_ zb_ (zg_ zb_))))) (zbZ_ rfl) ziX_ zlh_ fun x88=>(at_ [(Zf (tySc K) c),(Zf (tyL tyStr) w1'),(Zf tyInt s13),(Zf tyInt t17),(Zf (tyL Qq2) v21),(Zf (tyL Qq2) s27),(Zf tyInt v39),(Zf (tyL Qq2) b46),(Zo (owLO (owL Qq2)) x88),(Zo (Qq3 K) m59),Zd,Zd,Zd,Zd] (zbX_ (i:=10) rfl (zN_ (zd_ (zn_ (zo_ (zh_ zb_ (zg_ zb_)))) (zd_ (zn_ (zo_ (zh_ zb_ (zg_ zb_)))) (zd_ (zn_ (zo_ (zh_ zb_ (zg_ zb_)))) (zd_ (zs_ (zs_ (zN_ (zd_ (zi_ zb_) (zd_ (zi_ zb_) (zd_ (zi_ zb_) (zd_ (zi_ zD_) zp_))))))) (zd_ (zi_ (zay_ zj_)) (zd_ (zbF_ zD_) zp_))))))) (zgo_ (zr_ (ze_ 4 rfl) (zr_ (ze_ 5 rfl) (zr_ (ze_ 6 rfl) (zk_ (ze_ 7 rfl)))))) fun b89=>(at_ [(Zf (tySc K) c),(Zf (tyL tyStr) w1'),(Zf tyInt s13),(Zf tyInt t17),(Zf (tyL Qq2) v21),(Zf (tyL Qq2) s27),(Zf tyInt v39),(Zf (tyL Qq2) b46),(Zo (owLO (owL Qq2)) x88),(Zo (Qq3 K) m59),(Zo (Qq0 K) b89),Zd,Zd,Zd] (zbX_ (i:=11) rfl (zn_ zj_) (zcy_ tyStr) fun d98=>zng_ (i:=11) rfl (at_ [(Zf (tySc K) c),(Zf (tyL tyStr) w1'),(Zf tyInt s13),(Zf tyInt t17),(Zf (tyL Qq2) v21),(Zf (tyL Qq2) s27),(Zf tyInt v39),(Zf (tyL Qq2) b46),(Zo (owLO (owL Qq2)) x88),(Zo (Qq3 K) m59),(Zo (Qq0 K) b89),(Zf (tyL tyStr) d98),Zd,Zd] (zcD_ (LS:=(fun s99:((List (List Nat))×(Qq1×Qq6))=>[(Zf (tySc K) c),(Zf (tyL tyStr) w1'),(Zf tyInt s13),(Zf tyInt t17),(Zf (tyL Qq2) v21),(Zf (tyL Qq2) s27),(Zf tyInt v39),(Zf (tyL Qq2) b46),(Zo (owLO (owL Qq2)) x88),(Zo (Qq3 K) s99.2.2),(Zo (Qq0 K) s99.2.1),(Zf (tyL tyStr) s99.1),Zd,Zd])) (zcH_ (L':=[(Zf (tySc K) c),(Zf (tyL tyStr) w1'),(Zf tyInt s13),(Zf tyInt t17),(Zf (tyL Qq2) v21),(Zf (tyL Qq2) s27),(Zf tyInt v39),(Zf (tyL Qq2) b46),(Zo (owLO (owL Qq2)) x88),(Zo (Qq3 K) m59),(Zo (Qq0 K) b89),(Zf (tyL tyStr) d98),Zd,Zd]) (S4 (S4 (S4 (.same (.same .nil))))) (zia_ (LS:=(fun s99:((List (List Nat))×(Qq1×Qq6))=>[(Zf (tySc K) c),(Zf (tyL tyStr) w1'),(Zf tyInt s13),(Zf tyInt t17),(Zf (tyL Qq2) v21),(Zf (tyL Qq2) s27),(Zf tyInt v39),(Zf (tyL Qq2) b46),(Zo (owLO (owL Qq2)) x88),(Zo (Qq3 K) s99.2.2),(Zo (Qq0 K) s99.2.1),(Zf (tyL tyStr) s99.1),Zd,Zd])) (s0:=(d98,b89,m59)) (zfT_ (zk_ (ze_ 1 rfl))) (zjt_ (zZ_ zav_) (zgA_ 12 (zf9_ (zab_ 13)))) fun s99 x101=>at_ [(Zf (tySc K) c),(Zf (tyL tyStr) w1'),(Zf tyInt s13),(Zf tyInt t17),(Zf (tyL Qq2) v21),(Zf (tyL Qq2) s27),(Zf tyInt v39),(Zf (tyL Qq2) b46),(Zo (owLO (owL Qq2)) x88),(Zo (Qq3 K) s99.2.2),(Zo (Qq0 K) s99.2.1),(Zf (tyL tyStr) s99.1),(Zf tyInt x101.1),(Zf tyStr x101.2)] (by refine zox_ (w:=11) (j:=11) (tc:=(tMeth (gA K "Counter") "feed" (za3_ K) [] E0 (mVar 10) (tCons (mVar 13) tNil))) (te2:=(tOp mAdd (mVar 11) (mVar 14))) (Has.fz rfl) (fun _=>rfl) (zn_ zj_) (zaA_ (m := "feed") (ns:=Qn0) (by decide +kernel) (zN_ (zd_ (zn_ (zo_ (zh_ zb_ (zg_ zb_)))) (zd_ (zn_ (zo_ (zh_ zb_ (zg_ zb_)))) (zd_ (zn_ (zo_ (zh_ zb_ (zg_ zb_)))) (zd_ (zs_ (zs_ (zN_ (zd_ (zi_ zb_) (zd_ (zi_ zb_) (zd_ (zi_ zb_) (zd_ (zi_ zD_) zp_))))))) (zd_ (zi_ (zay_ zj_)) (zd_ (zbF_ zD_) zp_))))))) (zn_ zj_) (zby_ rfl) (zbW_ (zc7_ zj_ (ze_ 13 rfl)))) (fun q105=>atO [(Zf (tySc K) c),(Zf (tyL tyStr) w1'),(Zf tyInt s13),(Zf tyInt t17),(Zf (tyL Qq2) v21),(Zf (tyL Qq2) s27),(Zf tyInt v39),(Zf (tyL Qq2) b46),(Zo (owLO (owL Qq2)) x88),(Zo (Qq3 K) s99.2.2),(Zo (Qq0 K) q105.2),(Zf (tyL tyStr) s99.1),(Zf tyInt x101.1),(Zf tyStr x101.2),(Zf (tyL tyStr) q105.1)] (znI_ zlv_ (ze_ 11 rfl) (ze_ 14 rfl))) ?_ (fun q105 d106=>at_ [(Zf (tySc K) c),(Zf (tyL tyStr) w1'),(Zf tyInt s13),(Zf tyInt t17),(Zf (tyL Qq2) v21),(Zf (tyL Qq2) s27),(Zf tyInt v39),(Zf (tyL Qq2) b46),(Zo (owLO (owL Qq2)) x88),(Zo (Qq3 K) s99.2.2),(Zo (Qq0 K) q105.2),(Zo (owL tyStr) d106),(Zf tyInt x101.1),(Zf tyStr x101.2)] (zng_ (i:=11) rfl (at_ [(Zf (tySc K) c),(Zf (tyL tyStr) w1'),(Zf tyInt s13),(Zf tyInt t17),(Zf (tyL Qq2) v21),(Zf (tyL Qq2) s27),(Zf tyInt v39),(Zf (tyL Qq2) b46),(Zo (owLO (owL Qq2)) x88),(Zo (Qq3 K) s99.2.2),(Zo (Qq0 K) q105.2),(Zf (tyL tyStr) d106),(Zf tyInt x101.1),(Zf tyStr x101.2)] (zcD_ (LS:=(fun s109:Qq6=>[(Zf (tySc K) c),(Zf (tyL tyStr) w1'),(Zf tyInt s13),(Zf tyInt t17),(Zf (tyL Qq2) v21),(Zf (tyL Qq2) s27),(Zf tyInt v39),(Zf (tyL Qq2) b46),(Zo (owLO (owL Qq2)) x88),(Zo (Qq3 K) s109),(Zo (Qq0 K) q105.2),(Zf (tyL tyStr) d106),(Zf tyInt x101.1),(Zf tyStr x101.2)])) (by refine zlD_ (tc:=(tMeth (gA K "Printer") "feed" (zbI_ K) [] E0 (mVar 9) (tCons (mVar 13) tNil))) (c2:=(mTest (tOp mIsNot (mVar 14) (tC .non)))) (zaA_ (m := "feed") (ns:=Qn1) (by decide +kernel) (zN_ (zd_ (zs_ (zn_ zj_)) (zd_ (zn_ zb_) (zd_ (zN_ (zd_ (zn_ (zo_ (zh_ zb_ (zg_ zb_)))) (zd_ (zn_ (zo_ (zh_ zb_ (zg_ zb_)))) (zd_ (zn_ (zo_ (zh_ zb_ (zg_ zb_)))) (zd_ (zs_ (zs_ (zN_ (zd_ (zi_ zb_) (zd_ (zi_ zb_) (zd_ (zi_ zb_) (zd_ (zi_ zD_) zp_))))))) (zd_ (zi_ (zay_ zj_)) (zd_ (zbF_ zD_) zp_))))))) (zd_ (zn_ zj_) zp_))))) (zi_ zgm_) (zby_ rfl) (zbW_ (zc7_ zj_ (ze_ 13 rfl)))) (fun q110=>atT [(Zf (tySc K) c),(Zf (tyL tyStr) w1'),(Zf tyInt s13),(Zf tyInt t17),(Zf (tyL Qq2) v21),(Zf (tyL Qq2) s27),(Zf tyInt v39),(Zf (tyL Qq2) b46),(Zo (owLO (owL Qq2)) x88),(Zo (Qq3 K) q110.2),(Zo (Qq0 K) q105.2),(Zf (tyL tyStr) d106),(Zf tyInt x101.1),(Zf tyStr x101.2),(Zf tyNon q110.1)] (zaT_ (zL_ zhU_ (ze_ 14 rfl) zkI_))) ?_ (fun q110=>at_ [(Zf (tySc K) c),(Zf (tyL tyStr) w1'),(Zf tyInt s13),(Zf tyInt t17),(Zf (tyL Qq2) v21),(Zf (tyL Qq2) s27),(Zf tyInt v39),(Zf (tyL Qq2) b46),(Zo (owLO (owL Qq2)) x88),(Zo (Qq3 K) q110.2),(Zo (Qq0 K) q105.2),(Zf (tyL tyStr) d106),(Zf tyInt x101.1),(Zf tyStr x101.2)] (zb9_ (zi_ zD_) (EvF.ow (zh5_ false)))) (fun q110=>at_ [(Zf (tySc K) c),(Zf (tyL tyStr) w1'),(Zf tyInt s13),(Zf tyInt t17),(Zf (tyL Qq2) v21),(Zf (tyL Qq2) s27),(Zf tyInt v39),(Zf (tyL Qq2) b46),(Zo (owLO (owL Qq2)) x88),(Zo (Qq3 K) q110.2),(Zo (Qq0 K) q105.2),(Zf (tyL tyStr) d106),(Zf tyInt x101.1),(Zf tyStr x101.2)] (s_if (zgl_ (zaT_ (zH_ (zr_ (EvO.fr (zbh_ (m := "lines_out") (ns:=Qn1) (by decide +kernel) (zcQ_ (P:=(Qq13 K)) 9 rfl))) (zk_ (ze_ 11 rfl)))))) (zb9_ (zi_ zD_) (EvF.ow (zh5_ false))) (zw_ (S4 (S4 (S4 (.same (.same .nil)))))))); intro σ hσ H Q z; exact match σ,hσ,z with | [o0,o1,o2,o3,o4,o5,o6,o7,o8,o9,o10,o11,o12,o13],_,z=>z) fun s109=>(at_ [(Zf (tySc K) c),(Zf (tyL tyStr) w1'),(Zf tyInt s13),(Zf tyInt t17),(Zf (tyL Qq2) v21),(Zf (tyL Qq2) s27),(Zf tyInt v39),(Zf (tyL Qq2) b46),(Zo (owLO (owL Qq2)) x88),(Zo (Qq3 K) s109),(Zo (Qq0 K) q105.2),(Zf (tyL tyStr) d106),(Zf tyInt x101.1),(Zf tyStr x101.2)] (ziV_ (zbh_ (m := "lines_out") (ns:=Qn1) (by decide +kernel) (zcQ_ (P:=(Qq13 K)) 9 rfl)) (zaX_ []) (at_ [(Zf (tySc K) c),(Zf (tyL tyStr) w1'),(Zf tyInt s13),(Zf tyInt t17),(Zf (tyL Qq2) v21),(Zf (tyL Qq2) s27),(Zf tyInt v39),(Zf (tyL Qq2) b46),(Zo (owLO (owL Qq2)) x88),(Zo (Qq3 K) s109),(Zo (Qq0 K) q105.2),(Zf (tyL tyStr) d106),(Zf tyInt x101.1),(Zf tyStr x101.2)] (s_if (zgl_ (zaT_ (zH_ (zr_ (EvO.fr (zbh_ (m := "back") (ns:=Qn1) (by decide +kernel) (zcQ_ (P:=(Qq13 K)) 9 rfl))) (zk_ (EvO.fr (zmC_ (ze_ 1 rfl) zo5_ (zlR_ (zL_ zai_ (ze_ 12 rfl) (zt_ 1)))))))))) (zb9_ (zi_ zD_) (EvF.ow (zh5_ false))) (zw_ (S4 (S4 (S4 (.dead (.dead .nil)))))))))))))); intro σ hσ v0 hv0 H Q z; exact match σ,hσ,hv0,z with | [o0,o1,o2,o3,o4,o5,o6,o7,o8,o9,o10,o11,o12,o13],_,hv0,z=>(by cases Option.some.inj hv0; exact z)))) fun s99=>(at_ [(Zf (tySc K) c),(Zf (tyL tyStr) w1'),(Zf tyInt s13),(Zf tyInt t17),(Zf (tyL Qq2) v21),(Zf (tyL Qq2) s27),(Zf tyInt v39),(Zf (tyL Qq2) b46),(Zo (owLO (owL Qq2)) x88),(Zo (Qq3 K) s99.2.2),(Zo (Qq0 K) s99.2.1),(Zf (tyL tyStr) s99.1),Zd,Zd] (zcD_ (LS:=(fun _:Unit=>[(Zf (tySc K) c),(Zf (tyL tyStr) w1'),(Zf tyInt s13),(Zf tyInt t17),(Zf (tyL Qq2) v21),(Zf (tyL Qq2) s27),(Zf tyInt v39),(Zf (tyL Qq2) b46),(Zo (owLO (owL Qq2)) x88),(Zo (Qq3 K) s99.2.2),(Zo (Qq0 K) s99.2.1),(Zf (tyL tyStr) s99.1),Zd,Zd])) (s_if (zo4_ (zgl_ (zaT_ (zH_ (zr_ (EvO.fr (zbh_ (m := "lines_out") (ns:=Qn1) (by decide +kernel) (zcQ_ (P:=(Qq13 K)) 9 rfl))) (zk_ (ze_ 11 rfl)))))) (zgl_ (zaT_ (zH_ (zr_ (EvO.fr (zbh_ (m := "back") (ns:=Qn1) (by decide +kernel) (zcQ_ (P:=(Qq13 K)) 9 rfl))) (zk_ (ze_ 1 rfl))))))) (zb9_ (zi_ zD_) (EvF.ow (zh5_ false))) (zw_ (S4 (S4 (S4 (.same (.same .nil))))))) fun _=>(at_ [(Zf (tySc K) c),(Zf (tyL tyStr) w1'),(Zf tyInt s13),(Zf tyInt t17),(Zf (tyL Qq2) v21),(Zf (tyL Qq2) s27),(Zf tyInt v39),(Zf (tyL Qq2) b46),(Zo (owLO (owL Qq2)) x88),(Zo (Qq3 K) s99.2.2),(Zo (Qq0 K) s99.2.1),(Zf (tyL tyStr) s99.1),Zd,Zd] (zcD_ (LS:=(fun s156:(Qq6×Qq1)=>[(Zf (tySc K) c),(Zf (tyL tyStr) w1'),(Zf tyInt s13),(Zf tyInt t17),(Zf (tyL Qq2) v21),(Zf (tyL Qq2) s27),(Zf tyInt v39),(Zf (tyL Qq2) b46),(Zo (owLO (owL Qq2)) x88),(Zo (Qq3 K) s156.1),(Zo (Qq0 K) s156.2),(Zf (tyL tyStr) s99.1),Zd,Zd])) (by refine zlD_ (tc:=(tMeth (gA K "Printer") "finish" (zbd_ K) [] E0 (mVar 9) tNil)) (c2:=(mTest (tOp mIsNot (mVar 14) (tC .non)))) (zaA_ (m := "finish") (ns:=Qn1) (by decide +kernel) (zN_ (zd_ (zs_ (zn_ zj_)) (zd_ (zn_ zb_) (zd_ (zN_ (zd_ (zn_ (zo_ (zh_ zb_ (zg_ zb_)))) (zd_ (zn_ (zo_ (zh_ zb_ (zg_ zb_)))) (zd_ (zn_ (zo_ (zh_ zb_ (zg_ zb_)))) (zd_ (zs_ (zs_ (zN_ (zd_ (zi_ zb_) (zd_ (zi_ zb_) (zd_ (zi_ zb_) (zd_ (zi_ zD_) zp_))))))) (zd_ (zi_ (zay_ zj_)) (zd_ (zbF_ zD_) zp_))))))) (zd_ (zn_ zj_) zp_))))) (zi_ zgm_) (zby_ rfl) zjJ_) (fun q157=>atT [(Zf (tySc K) c),(Zf (tyL tyStr) w1'),(Zf tyInt s13),(Zf tyInt t17),(Zf (tyL Qq2) v21),(Zf (tyL Qq2) s27),(Zf tyInt v39),(Zf (tyL Qq2) b46),(Zo (owLO (owL Qq2)) x88),(Zo (Qq3 K) q157.2),(Zo (Qq0 K) s99.2.1),(Zf (tyL tyStr) s99.1),Zd,Zd,(Zf tyNon q157.1)] (zaT_ (zL_ zhU_ (ze_ 14 rfl) zkI_))) ?_ (fun q157=>at_ [(Zf (tySc K) c),(Zf (tyL tyStr) w1'),(Zf tyInt s13),(Zf tyInt t17),(Zf (tyL Qq2) v21),(Zf (tyL Qq2) s27),(Zf tyInt v39),(Zf (tyL Qq2) b46),(Zo (owLO (owL Qq2)) x88),(Zo (Qq3 K) q157.2),(Zo (Qq0 K) s99.2.1),(Zf (tyL tyStr) s99.1),Zd,Zd] (zb9_ (zi_ zD_) (EvF.ow (zh5_ false)))) (fun q157=>at_ [(Zf (tySc K) c),(Zf (tyL tyStr) w1'),(Zf tyInt s13),(Zf tyInt t17),(Zf (tyL Qq2) v21),(Zf (tyL Qq2) s27),(Zf tyInt v39),(Zf (tyL Qq2) b46),(Zo (owLO (owL Qq2)) x88),(Zo (Qq3 K) q157.2),(Zo (Qq0 K) s99.2.1),(Zf (tyL tyStr) s99.1),Zd,Zd] (by refine zpY_ (w:=11) (te1:=(tMeth (gA K "Printer") "lines_out" (zF_ K) [] E0 (mVar 9) tNil)) (tc:=(tMeth (gA K "Counter") "finish" (zaB_ K) [] E0 (mVar 10) tNil)) (c2:=(tNot (mTest (tCall (zX_ K) [] E0 (tCons (mVar 14) (tCons (tOp mAdd (mVar 11) (mVar 15)) tNil)))))) (Has.fz rfl) (Nat.le_of_ble_eq_true rfl) (zn_ zj_) (zbh_ (m := "lines_out") (ns:=Qn1) (by decide +kernel) (zcQ_ (P:=(Qq13 K)) 9 rfl)) (fun a166=>(zaA_ (m := "finish") (ns:=Qn0) (by decide +kernel) (zN_ (zd_ (zn_ (zo_ (zh_ zb_ (zg_ zb_)))) (zd_ (zn_ (zo_ (zh_ zb_ (zg_ zb_)))) (zd_ (zn_ (zo_ (zh_ zb_ (zg_ zb_)))) (zd_ (zs_ (zs_ (zN_ (zd_ (zi_ zb_) (zd_ (zi_ zb_) (zd_ (zi_ zb_) (zd_ (zi_ zD_) zp_))))))) (zd_ (zi_ (zay_ zj_)) (zd_ (zbF_ zD_) zp_))))))) (zn_ zj_) (zby_ rfl) zjJ_)) (fun a166 q167=>atT [(Zf (tySc K) c),(Zf (tyL tyStr) w1'),(Zf tyInt s13),(Zf tyInt t17),(Zf (tyL Qq2) v21),(Zf (tyL Qq2) s27),(Zf tyInt v39),(Zf (tyL Qq2) b46),(Zo (owLO (owL Qq2)) x88),(Zo (Qq3 K) q157.2),(Zo (Qq0 K) q167.2),(Zf (tyL tyStr) s99.1),Zd,Zd,(Zf (tyL tyStr) a166),(Zf (tyL tyStr) q167.1)] (zgl_ (zaT_ (zH_ (zr_ (ze_ 14 rfl) (zk_ (EvO.fr (znI_ zlv_ (ze_ 11 rfl) (ze_ 15 rfl))))))))) ?_ (fun q167=>at_ [(Zf (tySc K) c),(Zf (tyL tyStr) w1'),(Zf tyInt s13),(Zf tyInt t17),(Zf (tyL Qq2) v21),(Zf (tyL Qq2) s27),(Zf tyInt v39),(Zf (tyL Qq2) b46),(Zo (owLO (owL Qq2)) x88),(Zo (Qq3 K) q157.2),(Zo (Qq0 K) q167.2),(Zf (tyL tyStr) s99.1),Zd,Zd] (zb9_ (zi_ zD_) (EvF.ow (zh5_ false)))) (fun q167=>at_ [(Zf (tySc K) c),(Zf (tyL tyStr) w1'),(Zf tyInt s13),(Zf tyInt t17),(Zf (tyL Qq2) v21),(Zf (tyL Qq2) s27),(Zf tyInt v39),(Zf (tyL Qq2) b46),(Zo (owLO (owL Qq2)) x88),(Zo (Qq3 K) q157.2),(Zo (Qq0 K) q167.2),(Zf (tyL tyStr) s99.1),Zd,Zd] (zw_ (S4 (S4 (S4 (.same (.same .nil))))))); intro σ hσ v0 hv0 H Q z; exact match σ,hσ,hv0,z with | [o0,o1,o2,o3,o4,o5,o6,o7,o8,o9,o10,o11,o12,o13],_,hv0,z=>(by cases Option.some.inj hv0; exact z))); intro σ hσ H Q z; exact match σ,hσ,z with | [o0,o1,o2,o3,o4,o5,o6,o7,o8,o9,o10,o11,o12,o13],_,z=>z) fun s156=>(at_ [(Zf (tySc K) c),(Zf (tyL tyStr) w1'),(Zf tyInt s13),(Zf tyInt t17),(Zf (tyL Qq2) v21),(Zf (tyL Qq2) s27),(Zf tyInt v39),(Zf (tyL Qq2) b46),(Zo (owLO (owL Qq2)) x88),(Zo (Qq3 K) s156.1),(Zo (Qq0 K) s156.2),(Zf (tyL tyStr) s99.1),Zd,Zd] (ziV_ (zbh_ (m := "stayed") (ns:=Qn1) (by decide +kernel) (zcQ_ (P:=(Qq13 K)) 9 rfl)) (zaX_ []) (at_ [(Zf (tySc K) c),(Zf (tyL tyStr) w1'),(Zf tyInt s13),(Zf tyInt t17),(Zf (tyL Qq2) v21),(Zf (tyL Qq2) s27),(Zf tyInt v39),(Zf (tyL Qq2) b46),(Zo (owLO (owL Qq2)) x88),(Zo (Qq3 K) s156.1),(Zo (Qq0 K) s156.2),(Zf (tyL tyStr) s99.1),Zd,Zd] (zb9_ (zi_ zD_) (EvF.ow (zpy_ (zH_ (zr_ (EvO.fr (zbh_ (m := "stayed") (ns:=Qn1) (by decide +kernel) (zcQ_ (P:=(Qq13 K)) 9 rfl))) (zk_ (ze_ 1 rfl)))) (zL_ (zps_ (zpF_ zny_)) (EvO.fr (zbh_ (m := "laid_aside") (ns:=Qn1) (by decide +kernel) (zcQ_ (P:=(Qq13 K)) 9 rfl))) (EvO.fr (zcy_ tyStr))))))))))))))))))))))))))))))))))))))))) f fd F
theorem all_mk {l:PySem.W.OpenLaw}{w:World}{K:Fgg}{h:Heap}{mg:Str→Option Value}{fa:Addr}(X:K.In h) (G:h.Ns mainGlobals mg) (hfa:mg "law" = some (.ref fa)) (k:Ek K) :
  ∃ fd:FuncData,(∀ (s:Shared) (v:Value),BindsTo s fd ⟨[v],[]⟩ [("_law_script",v)])∧∀ base:Heap,K.In base→base.Ns mainGlobals mg→FnOk l.prog w K mg base CX0 10 fa fd ["_law_script"] (spL K):=by
 have e:En K mg:=⟨k,_,X,G⟩
 refine okLaw e.m e.f43 hfa (fun _ _ _ _ _ _ _ _=>rfl) fun base f fd F=>?_
 have g0:=zku_ (P:=l.prog) (w:=w) (base:=base) e
 have g1:=zd5_ (P:=l.prog) (w:=w) (base:=base) e g0
 have g2:=zda_ (P:=l.prog) (w:=w) (base:=base) e g1
 have g3:=zhi_ (P:=l.prog) (w:=w) (base:=base) e
 have g4:=zil_ (P:=l.prog) (w:=w) (base:=base) e
 have g5:=ziy_ (P:=l.prog) (w:=w) (base:=base) e g3 g4
 have g6:=zfE_ (P:=l.prog) (w:=w) (base:=base) e
 have g7:=zgE_ (P:=l.prog) (w:=w) (base:=base) e
 have g8:=zgQ_ (P:=l.prog) (w:=w) (base:=base) e
 have g9:=zbc_ (P:=l.prog) (w:=w) (base:=base) e
 have g10:=zb7_ (P:=l.prog) (w:=w) (base:=base) e
 have g11:=zdu_ (P:=l.prog) (w:=w) (base:=base) e g9 g10 g2
 have g12:=zgn_ (P:=l.prog) (w:=w) (base:=base) e g11
 have g13:=ziE_ (P:=l.prog) (w:=w) (base:=base) e g11 g12
 have g14:=zfJ_ (P:=l.prog) (w:=w) (base:=base) e
 have g15:=zgs_ (P:=l.prog) (w:=w) (base:=base) e
 have g16:=zd8_ (P:=l.prog) (w:=w) (base:=base) e
 have g17:=zcv_ (P:=l.prog) (w:=w) (base:=base) e g15 g16
 have g18:=zfK_ (P:=l.prog) (w:=w) (base:=base) e
 have g19:=zjX_ (P:=l.prog) (w:=w) (base:=base) e
 have g20:=zcK_ (P:=l.prog) (w:=w) (base:=base) e g19 g18
 have g21:=zfz_ (P:=l.prog) (w:=w) (base:=base) e
 have g22:=ze8_ (P:=l.prog) (w:=w) (base:=base) e
 have g23:=zcc_ (P:=l.prog) (w:=w) (base:=base) e g20 g17 g22 g21
 have g24:=zb6_ (P:=l.prog) (w:=w) (base:=base) e g23
 have g25:=zje_ (P:=l.prog) (w:=w) (base:=base) e
 have g26:=zjf_ (P:=l.prog) (w:=w) (base:=base) e
 have g27:=zjs_ (P:=l.prog) (w:=w) (base:=base) e g26
 have g28:=zbV_ (P:=l.prog) (w:=w) (base:=base) e g19
 have g29:=zhq_ (P:=l.prog) (w:=w) (base:=base) e
 have g30:=zhd_ (P:=l.prog) (w:=w) (base:=base) e g19 g29
 have g31:=ze4_ (P:=l.prog) (w:=w) (base:=base) e g24 g28 g25 g27 g17 g30
 have g32:=zd2_ (P:=l.prog) (w:=w) (base:=base) e g23 g24
 have g33:=zd6_ (P:=l.prog) (w:=w) (base:=base) e g32
 have g34:=zd7_ (P:=l.prog) (w:=w) (base:=base) e
 have g35:=zfM_ (P:=l.prog) (w:=w) (base:=base) e
 have g36:=zks_ (P:=l.prog) (w:=w) (base:=base) e
 have g37:=zcO_ (P:=l.prog) (w:=w) (base:=base) e g36
 have g38:=zd9_ (P:=l.prog) (w:=w) (base:=base) e
 have g39:=ze5_ (P:=l.prog) (w:=w) (base:=base) e g31 g38
 have g40:=zcW_ (P:=l.prog) (w:=w) (base:=base) e
 have g41:=zir_ (P:=l.prog) (w:=w) (base:=base) e
 have g42:=ze6_ (P:=l.prog) (w:=w) (base:=base) e g41
 exact zpK_ (l:=l) (w:=w) (base:=base) e g5 g6 g7 g8 g13 g14 g2 g31 g39 g35 g40 g42 g33 g32 g34 g37 F
theorem walk {l:PySem.W.OpenLaw}{q:Program}{loose:List Str}{XP:(Str→Option Value)→Heap→Prop}{YP:World→Heap→Prop}{d:DefRec}{K:Params→Fgg}(hn:l.most=some 63) (hdf:d.params.defaults=[])
  (hY:∀ (w:World) (h:Heap),YP w h→(K w.params).In h)
  (F:∀ (w:World) (mg:Str→Option Value) (fa:Addr) (h:Heap),(K w.params).In h→h.Ns mainGlobals mg→mg d.name=some (.ref fa) →
   ∃ fd:FuncData,(∀ (s:Shared) (u:Value),BindsTo s fd ⟨[u],[]⟩ [("_law_script",u)])∧∀ base:Heap,(K w.params).In base→base.Ns mainGlobals mg→FnOk l.prog w (K w.params) mg base CX0 10 fa fd ["_law_script"] (spL (K w.params))) :
  PySem.W.WalkO q loose XP YP l.row.toRowW d [] (fun f vs=>PySem.call f vs) :=
 L2.zmB_ (n:=63) (k:=10) (x := "_law_script") (CX:=fun _=>CX0) (sp:=fun w=>spL (K w.params)) hn (by decide) hdf ⟨rfl,by decide,by decide⟩ hY F (fun _ _ a ns hl hb _ hS=>⟨a,ns,rfl,hS,hl,hb,fun _=>rfl⟩) fun _ _ _ _ _ z=>z
end K59
open PySem PySem.W PyProof.Rows
set_option maxRecDepth 100000 in
set_option maxHeartbeats 0 in
theorem PySem.Challenge.cw_cardshop_k59_printer_holds : PySem.Challenge.rw_cardshop_k59_printer.Holds := by
 w_on; o_law; k_head; (case hw=>w_witness2)
 k_fill
 refine K59.walk (l:=PySem.Challenge.rw_cardshop_k59_printer) rfl rfl (fun w h Y=>PySem.W.kIn_of Y) ?F
 case F =>
  intro w mg fa h KX G hmg
  refine K59.all_mk KX G hmg ?_
  constructor
  all_goals first | (refine' L2.Fg.mk_ ?x0 ?x1 ?x2 ?x3; (case x0=>k_is); (case x1=>k_is); (case x2=>k_is); (case x3=>k_is)) | (refine' L2.Fm.mk_ ?x0 ?x1 ?x2 ?x3 ?x4 ?x5; (case x0=>k_is); (case x1=>k_is); (case x2=>k_is); (case x3=>k_is); (case x4=>k_is); (case x5=>k_is)) | (refine' L2.Fs.mk_ ?x0 ?x1 ?x2 ?x3 ?x4 ?x5 ?x6; (case x0=>k_is); (case x1=>k_is); (case x2=>k_is); (case x3=>k_is); (case x4=>k_is); (case x5=>k_is); (case x6=>k_is)) | (refine' L2.Fc.mk_ ?x0 ?x1 ?x2 ?x3 ?x4 ?x5 ?x6; (case x0=>k_is); (case x1=>k_is); (case x2=>k_is); (case x3=>k_is); (case x4=>k_is); (case x5=>k_is); (case x6=>k_is)) | (refine' L2.Fa.mk_ ?x0 ?x1; (case x0=>k_is); (case x1=>k_is)) | (delta L2.Fb; k_is) | (refine' L2.Fv.mk_ ?x0 ?x1; (case x0=>k_is); (case x1=>exact ⟨_,rfl⟩)) | (refine' L2.Fk.mk_ ?x0; (case x0=>k_is)) | (refine' L2.Fe1.mk_ ?x0 ?x1; (case x0=>k_is); (case x1=>(show _=_; kernel_rfl!))) | (refine' L2.Fe2.mk_ ?x0 ?x1 ?x2; (case x0=>k_is); (case x1=>k_is); (case x2=>(show _=_; kernel_rfl!)))
#print axioms PySem.Challenge.cw_cardshop_k59_printer_holds
