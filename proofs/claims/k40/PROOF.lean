import PyProof.Rows.All
import Wide.All
import OpenK.AllK
import Wide.FinOn
import Lean
import PyProof.EqAt
import PyProof.EqKinds
import PyProof.TupleCall
import PyProof.StrLawsRepr
import PyProof.NeKinds
import PyProof.Rows.TupIter
import PyProof.InstStoreFacts
import PyProof.ExcInit
import KE.KEqDict
import KE.KDictOf
import KE.KPairComp
import PySem.Challenge.RW_cardshop_k40_an_asking
set_option Elab.async false
set_option compiler.extract_closed false
set_option linter.all false
set_option maxRecDepth 100000
set_option maxHeartbeats 4000000
namespace PySem.W.Fast
def tw750607959370891643:Unit:=()
def tw16693416444716791717:Unit:=()
def tw14995526252373264320:Unit:=()
def tw4808611015899787360:Unit:=()
def tw6542975435606938628:Unit:=()
def tw11772595884228801031:Unit:=()
def tw1916161158553527540:Unit:=()
def tw16914321121937096102:Unit:=()
def tw9787587377229150223:Unit:=()
def tw4470247026562630462:Unit:=()
def tw16578240471294672073:Unit:=()
def tw1940186186544466174:Unit:=()
def tw7536101643830272803:Unit:=()
def tw16131766506470509198:Unit:=()
def tw10137980289138958836:Unit:=()
def tw4840745088257285636:Unit:=()
def tw14026886074738325369:Unit:=()
def tw4305780845000433993:Unit:=()
def tw5215499416747011992:Unit:=()
def tw7449378284553791492:Unit:=()
def tw18434522597516557064:Unit:=()
def tw6419811095988397246:Unit:=()
def tw11326067847038085695:Unit:=()
def tw16529549140594804997:Unit:=()
def tw9171886177349605710:Unit:=()
end PySem.W.Fast
noncomputable section
namespace L2
open PySem PySem.Spec PyProof.Rows
theorem sN.{u}{α:Type u}(a:α):some a≠none:=Option.some_ne_none a
abbrev Fgg:=W.Frag
abbrev Pnn:=List (Addr×Obj)
abbrev Key:=Sum Int Str
def keyIs:Key->Value->Bool
 | .inl k,v=>Value.isInt k v
 | .inr x,v=>Value.isStrOf x v
def keyH (w:World):Key->Int
 | .inl k=>hashInt k
 | .inr x=>hashStr w x
theorem zX_:∀ {k:Key}{v:Value},keyIs k v=true->(∃ i t,k=Sum.inl i/\v=Value.int i t)\/(∃ x t,k=Sum.inr x/\v=Value.str x t)
 | .inl i,v,h=>by
  obtain ⟨t,e⟩:=Value.isInt_shape (k:=i) (v:=v) h
  exact .inl ⟨i,t,rfl,e⟩
 | .inr x,v,h=>by
  obtain ⟨t,e⟩:=Value.isStrOf_shape (x:=x) (v:=v) h
  exact .inr ⟨x,t,rfl,e⟩
theorem zkA_ (i:Int)(t:Tok):keyIs (.inl i) (.int i t)=true:=by simp [keyIs,Value.isInt]
theorem zkz_ (x:Str)(t:Tok):keyIs (.inr x) (.str x t)=true:=by simp [keyIs,Value.isStrOf]
theorem zp2_ (a b:Int):decide ((Sum.inl a:Key)=Sum.inl b)=(a == b):=by
 by_cases e:a=b
 ·subst e; simp
 ·have h:¬ (Sum.inl a:Key)=Sum.inl b:=fun q=>e (Sum.inl.inj q)
  rw [decide_eq_false h]
  exact (beq_eq_false_iff_ne.mpr e).symm
theorem zqX_ (a b:Str):decide ((Sum.inr a:Key)=Sum.inr b)=decide (a=b):=by
 by_cases e:a=b
 ·subst e; simp
 ·have h:¬ (Sum.inr a:Key)=Sum.inr b:=fun q=>e (Sum.inr.inj q)
  rw [decide_eq_false h,decide_eq_false e]
theorem zqs_ (a:Int)(b:Str):decide ((Sum.inl a:Key)=Sum.inr b)=false:=decide_eq_false (fun q=>nomatch q)
theorem zqc_ (a:Str)(b:Int):decide ((Sum.inr a:Key)=Sum.inl b)=false:=decide_eq_false (fun q=>nomatch q)
def mixKind (prog:Program)(w:World):PySem.KeyKind prog w Key where
 is:=keyIs
 hash:=keyH w
 inj:=fun v a b ha hb=>by
  rcases zX_ ha with ⟨i,t,rfl,rfl⟩ | ⟨x,t,rfl,rfl⟩
  ·rcases zX_ hb with ⟨j,u,rfl,e⟩ | ⟨y,u,rfl,e⟩
   ·injection e with e1 _; rw [e1]
   ·exact nomatch e
  ·rcases zX_ hb with ⟨j,u,rfl,e⟩ | ⟨y,u,rfl,e⟩
   ·exact nomatch e
   ·injection e with e1 _; rw [e1]
 byValue:=fun k v h=>by
  rcases zX_ h with ⟨i,t,rfl,rfl⟩ | ⟨x,t,rfl,rfl⟩<;>rfl
 pyHash:=fun hv h=>by
  rcases zX_ hv with ⟨i,t,rfl,rfl⟩ | ⟨x,t,rfl,rfl⟩
  ·exact wpAny_pyHash_int h
  ·exact wpAny_pyHash_str h
 eqBool:=fun hu hv h=>by
  rcases zX_ hu with ⟨i,t,rfl,rfl⟩ | ⟨x,t,rfl,rfl⟩
  ·rcases zX_ hv with ⟨j,u,rfl,rfl⟩ | ⟨y,u,rfl,rfl⟩
   ·rw [zp2_] at h; exact wpAny_eqBool_int h
   ·rw [zqs_] at h; exact SeqAt.EqAt.int_str i t y u _ _ _ _ h
  ·rcases zX_ hv with ⟨j,u,rfl,rfl⟩ | ⟨y,u,rfl,rfl⟩
   ·rw [zqc_] at h; exact SeqAt.EqAt.str_int x t j u _ _ _ _ h
   ·rw [zqX_] at h; exact wpAny_eqBool_str h
 «strs»:=fun k x t v h=>by
  rcases zX_ h with ⟨i,u,rfl,e⟩ | ⟨y,u,rfl,e⟩
  ·exact nomatch e
  ·injection e with e1 _
   subst e1
   cases v<;>rfl
theorem zjg_ (prog:Program)(w:World)(k:Key)(v:Value):(mixKind prog w).is k v=keyIs k v:=rfl
theorem zh2_ (prog:Program)(w:World)(i:Int)(t:Tok):(mixKind prog w).is (.inl i) (.int i t)=true:=zkA_ i t
theorem zh4_ (prog:Program)(w:World)(x:Str)(t:Tok):(mixKind prog w).is (.inr x) (.str x t)=true:=zkz_ x t
inductive V where
 | non | bl (b:Bool) | int (i:Int) | str (x:Str) | byt (b:Array UInt8) | flt (b:UInt64) | ref (a:Addr) | ty (n:String)
 deriving DecidableEq
def RelV:V->Value->Prop
 | .non,u=>u=Value.none
 | .bl b,u=>u=Value.bool b
 | .int i,u=>∃ t,u=Value.int i t
 | .str x,u=>∃ t,u=Value.str x t
 | .byt b,u=>∃ t,u=Value.bytes b t
 | .flt b,u=>∃ t,u=Value.float b t
 | .ref a,u=>u=Value.ref a
 | .ty n,u=>u=Value.type n
abbrev Vals:List V->List Value->Prop:=Paired RelV
theorem Vals.length {xs:List V}{us:List Value}(r:Vals xs us):xs.length=us.length:=Paired.length r
theorem Vals.get:∀ {xs:List V}{us:List Value}{i:Nat}{x:V},Vals xs us->xs[i]?=some x->∃ u,us[i]?=some u/\RelV x u
 | _,_,_,_,.nil,e=>by simp at e
 | _,_,0,_,.cons r _,e=>by simp at e; subst e; exact ⟨_,rfl,r⟩
 | _,_,i+1,x,.cons _ t,e=>by
  obtain ⟨u,h1,h2⟩:=Vals.get (i:=i) (x:=x) t (by simpa using e)
  exact ⟨u,by simpa using h1,h2⟩
theorem Vals.set {x:V}{u:Value}(r:RelV x u):∀ {xs:List V}{us:List Value}(i:Nat),Vals xs us->Vals (xs.set i x) (us.set i u)
 | _,_,_,.nil=>.nil
 | _,_,0,.cons _ t=>.cons r t
 | _,_,i+1,.cons q t=>.cons q (Vals.set r i t)
theorem Vals.append:∀ {xs ys:List V}{us ws:List Value},Vals xs us->Vals ys ws->Vals (xs++ys) (us++ws)
 | _,_,_,_,.nil,s=>s
 | _,_,_,_,.cons r t,s=>.cons r (Vals.append t s)
theorem Vals.take:∀ {xs:List V}{us:List Value}(n:Nat),Vals xs us->Vals (xs.take n) (us.take n)
 | _,_,0,_=>.nil
 | _,_,_+1,.nil=>.nil
 | _,_,n+1,.cons r t=>.cons r (Vals.take n t)
theorem Vals.drop:∀ {xs:List V}{us:List Value}(n:Nat),Vals xs us->Vals (xs.drop n) (us.drop n)
 | _,_,0,r=>r
 | _,_,_+1,.nil=>.nil
 | _,_,n+1,.cons _ t=>Vals.drop n t
def RelO:Option V->Option Value->Prop
 | some v,some u=>RelV v u
 | none,none=>True
 | _,_=>False
def KV {κ:Type}:List (κ×V)->List (κ×Value)->Prop:=Paired fun (p:κ×V) (q:κ×Value)=>p.1=q.1/\RelV p.2 q.2
def kV:Key->V
 | .inl i=>.int i
 | .inr x=>.str x
inductive HO where
 | lst (xs:List V)
 | tup (xs:List V)
 | dK (kvs:List (Key×V)) | dT (kvs:List (List Key×V))
 | set (S:Int->Bool) (n:Nat)
 | ins (C dx:Addr) (fs:List (Str×V))
 | own (x:Addr)
 | xd (fs:List (Str×V))
 | met (f x:Addr)
 | rng (lo hi:Int)
 | frz (o:Obj) (u:HO)
 | tbl (ps:Array Value)
 | ext (φ:Heap->Prop)
abbrev Hp:=Addr->Option HO
def upd (H:Hp)(a:Addr)(o:HO):Hp:=fun b=>if b=a then some o else H b
theorem zD_ {H:Hp}{a:Addr}{o:HO}:upd H a o a=some o:=by unfold upd; rw [if_pos rfl]
theorem zZ_ {H:Hp}{a b:Addr}{o:HO}(h:b≠a):upd H a o b=H b:=by unfold upd; rw [if_neg h]
theorem ne_of {H:Hp}{a b:Addr}{o u:HO}(h:H a=some o)(h':H b=some u)(d:o≠u):a≠b:=by
 intro e; subst e; rw [h] at h'; exact d (Option.some.inj h')
theorem zba_ {H:Hp}{a b:Addr}{o:HO}(h:H a=some o)(h':H b=none):a≠b:=by
 intro e; subst e; rw [h] at h'; cases h'
section
variable (P:Program)(w:World)
def ObjOk (H:Hp)(h:Heap)(a:Addr):HO->Prop
 | .lst xs=>xs.length<=sizeLine/\∃ (aa:List Value) (n:Nat),Vals xs aa/\h.get? a=some { cls:=.type "list",data:=.seq aa.toArray n }
 | .tup xs=>xs.length<=sizeLine/\∃ aa:List Value,Vals xs aa/\IsTup h a aa.toArray
 | .dK kvs=>kvs.length<=sizeLine/\(a == sysModules)=false/\∃ vs,KV kvs vs/\h.DictOf (mixKind P w) a vs
 | .dT kvs=>kvs.length<=sizeLine/\(a == sysModules)=false/\∃ xs:List (List Key×Addr×Value),
   Paired (fun (p:List Key×V) (q:List Key×Addr×Value)=>p.1=q.1/\H q.2.1=some (.tup (p.1.map kV))/\RelV p.2 q.2.2) kvs xs /\
   ∃ o es ep,h.get? a=some o/\o.ExactDict/\o.data=.dict es ep/\es.toList=xs.map (entryOfKey (tupleKind (mixKind P w)))/\(xs.map (·.1)).Nodup
 | .set S n=>h.SetOf (intKind P w) a S n
 | .ins C dx fs=>H dx=some (.own a)/\fs.length<=1000/\dx≠a/\h.get? a=some (W.instObj C dx) /\
   ∃ mA,h.Ns1 dx mA/\(∀ f,RelO (fs.lookup f) (mA f))/\PySem.Within mA (fs.map (·.1))
 | .own _=>∃ o,h.get? a=some o
 | .xd fs=>∃ mA,h.Ns1 a mA/\∀ f,RelO (fs.lookup f) (mA f)
 | .rng lo hi=>∃ t u v,h.get? a=some { cls:=.type "range",data:=.fields #[.int lo t,.int hi u,.int 1 v] }
 | .frz o u=>h.get? a=some o/\ObjOk H h a u
 | .tbl ps=>h.get? a=some { cls:=.none,data:=.fields ps }
 | .met f x=>h.get? a=some (W.methodObj (.ref f) (.ref x))
 | .ext φ=>φ h/\(∃ o,h.get? a=some o)/\∀ h1 h2:Heap,φ h1->(∀ o,h1.get? a=some o->h2.get? a=some o)->φ h2
def HOk (H:Hp)(h:Heap):Prop:=∀ a o,H a=some o->ObjOk P w H h a o
end
section
variable {P:Program}{w:World}{H H':Hp}{h h':Heap}{a:Addr}{o:HO}
theorem ObjOk.lt (x:ObjOk P w H h a o):a<h.objs.size:=by
 cases o with
 | lst xs=>obtain ⟨_,_,_,_,e⟩:=x; exact Heap.lt_size e
 | tup xs=>obtain ⟨_,_,_,p⟩:=x; exact p.lt
 | dK kvs=>obtain ⟨_,_,_,_,o,_,_,e,_⟩:=x; exact Heap.lt_size e
 | dT kvs=>obtain ⟨_,_,_,_,o,_,_,e,_⟩:=x; exact Heap.lt_size e
 | set S n=>obtain ⟨o,_,_,_,e,_⟩:=x; exact Heap.lt_size e
 | ins C dx fs=>obtain ⟨_,_,_,e,_⟩:=x; exact Heap.lt_size e
 | own y=>obtain ⟨_,e⟩:=x; exact Heap.lt_size e
 | xd fs=>obtain ⟨_,⟨_,_,_,e,_⟩,_⟩:=x; exact Heap.lt_size e
 | rng lo hi=>obtain ⟨_,_,_,e⟩:=x; exact Heap.lt_size e
 | frz ob u=>obtain ⟨e,_⟩:=x; exact Heap.lt_size e
 | tbl ps=>exact Heap.lt_size (show h.get? a=some _ from x)
 | met f y=>exact Heap.lt_size (show h.get? a=some _ from x)
 | ext φ=>obtain ⟨_,⟨_,e⟩,_⟩:=x; exact Heap.lt_size e
theorem Paired.mapP {α β:Type}{F G:α->β->Prop}:∀ {gL:List α}{gK:List β},Paired F gL gK->(∀ a b,F a b->G a b)->Paired G gL gK
 | _,_,.nil,_=>.nil
 | _,_,.cons r t,f=>.cons (f _ _ r) (Paired.mapP t f)
theorem ObjOk.stay (x:ObjOk P w H h a o)(k:∀ b u,(b=a\/H b=some (.own a))->h.get? b=some u->h'.get? b=some u)
  (ho:∀ b,H b=some (.own a)->H' b=some (.own a)) (ht:∀ b xs,H b=some (.tup xs)->H' b=some (.tup xs)):ObjOk P w H' h' a o:=by
 induction o with
 | lst xs=>obtain ⟨z,aa,n,r,e⟩:=x; exact ⟨z,aa,n,r,k _ _ (.inl rfl) e⟩
 | tup xs=>obtain ⟨z,aa,r,ob,e,c⟩:=x; exact ⟨z,aa,r,ob,k _ _ (.inl rfl) e,c⟩
 | dK kvs=>obtain ⟨z,y,vs,r,ob,es,ep,e,c⟩:=x; exact ⟨z,y,vs,r,ob,es,ep,k _ _ (.inl rfl) e,c⟩
 | dT kvs =>
  obtain ⟨z,y,xs,r,ob,es,ep,e,c⟩:=x
  exact ⟨z,y,xs,Paired.mapP r fun p q z=>⟨z.1,ht _ _ z.2.1,z.2.2⟩,ob,es,ep,k _ _ (.inl rfl) e,c⟩
 | set S n=>obtain ⟨ob,es,ep,t,e,c⟩:=x; exact ⟨ob,es,ep,t,k _ _ (.inl rfl) e,c⟩
 | ins C dx fs =>
  obtain ⟨d,z,ne,e,mA,⟨od,es,ep,e2,c⟩,r⟩:=x
  exact ⟨ho _ d,z,ne,k _ _ (.inl rfl) e,mA,⟨od,es,ep,k _ _ (.inr d) e2,c⟩,r⟩
 | own y=>obtain ⟨ob,e⟩:=x; exact ⟨ob,k _ _ (.inl rfl) e⟩
 | xd fs=>obtain ⟨mA,⟨od,es,ep,e,c⟩,r⟩:=x; exact ⟨mA,⟨od,es,ep,k _ _ (.inl rfl) e,c⟩,r⟩
 | rng lo hi=>obtain ⟨t,u,v,e⟩:=x; exact ⟨t,u,v,k _ _ (.inl rfl) e⟩
 | frz ob u ih=>obtain ⟨e,q⟩:=x; exact ⟨k _ _ (.inl rfl) e,ih q⟩
 | tbl ps =>
  have e:h.get? a=some { cls:=.none,data:=.fields ps }:=x
  show h'.get? a=some { cls:=.none,data:=.fields ps }
  exact k a _ (.inl rfl) e
 | met f y =>
  have e:h.get? a=some (W.methodObj (.ref f) (.ref y)):=x
  show h'.get? a=some (W.methodObj (.ref f) (.ref y))
  exact k a _ (.inl rfl) e
 | ext φ=>obtain ⟨p,⟨o,e⟩,st⟩:=x; exact ⟨st _ _ p fun o q=>k _ _ (.inl rfl) q,⟨o,k _ _ (.inl rfl) e⟩,st⟩
theorem HOk.lt (x:HOk P w H h)(e:H a=some o):a<h.objs.size:=(x a o e).lt
theorem HOk.fresh (x:HOk P w H h)(e:h.objs.size<=a):H a=none:=by
 cases q:H a with
 | none=>rfl
 | some u=>exact absurd (Nat.lt_of_lt_of_le (x.lt q) e) (Nat.lt_irrefl _)
theorem HOk.kept (x:HOk P w H h)(k:∀ b u,h.get? b=some u->h'.get? b=some u):HOk P w H h':=fun a o e =>
 (x a o e).stay (fun b u _ q=>k b u q) (fun _ q=>q) fun _ _ q=>q
theorem HOk.laid (x:HOk P w H h)(k:∀ b u,h.get? b=some u->h'.get? b=some u)(hp:h.objs.size<=a)(new:ObjOk P w (upd H a o) h' a o):HOk P w (upd H a o) h':=fun b u e=>by
 have hn:=x.fresh hp
 by_cases hb:b=a
 ·subst hb; rw [zD_] at e; cases e; exact new
 ·rw [zZ_ hb] at e
  exact (x b u e).stay (fun c v _ q=>k c v q) (fun c q=>by rw [zZ_ (zba_ q hn)]; exact q) fun c xs q=>by rw [zZ_ (zba_ q hn)]; exact q
end
def Rd (H:Hp)(a:Addr)(u:HO):Prop:=H a=some u\/∃ o,H a=some (.frz o u)
theorem Rd.ok {P:Program}{w:World}{H:Hp}{h:Heap}{a:Addr}{u:HO}(r:Rd H a u)(x:HOk P w H h):ObjOk P w H h a u:=by
 rcases r with r | ⟨o,r⟩
 ·exact x a u r
 ·obtain ⟨_,q⟩:=x a _ r
  exact q
def Mut:Option HO->Prop
 | some (.lst _)=>True
 | some (.dK _)=>True
 | some (.dT _)=>True
 | some (.set _ _)=>True
 | some (.ins _ _ _)=>True
 | some (.ext _)=>True
 | _=>False
section
variable {P:Program}{w:World}{H:Hp}{h h':Heap}{x e:Addr}{o':HO}
theorem HOk.write (ok:HOk P w H h)(mu:Mut (H x))(he:e=x\/H e=some (.own x))(k:∀ b u,b≠e->h.get? b=some u->h'.get? b=some u)(dD:∃ u,h'.get? e=some u)
  (new:ObjOk P w (upd H x o') h' x o'):HOk P w (upd H x o') h':=fun b u q=>by
 have gy:∀ c y,H c=some (.own y)->c≠x:=fun c y r z=>by subst z; rw [r] at mu; exact mu
 have jo:∀ c xs,H c=some (.tup xs)->c≠x:=fun c xs r z=>by subst z; rw [r] at mu; exact mu
 by_cases hb:b=x
 ·subst hb; rw [zD_] at q; cases q; exact new
 ·rw [zZ_ hb] at q
  by_cases hbe:b=e
  ·have q':H b=some (.own x):=by
    rcases he with z | z
    ·exact absurd (hbe.trans z) hb
    ·rw [hbe]; exact z
   rw [q] at q'; cases q'
   obtain ⟨v,hv⟩:=dD
   exact ⟨v,by rw [hbe]; exact hv⟩
  ·refine (ok b u q).stay (fun c v hc r=>k c v ?_ r) (fun c r=>by rw [zZ_ (gy c b r)]; exact r) fun c xs r=>by rw [zZ_ (jo c xs r)]; exact r
   rcases hc with rfl | hc
   ·exact hbe
   ·rintro rfl
    rcases he with z | z
    ·exact gy c b hc z
    ·rw [hc] at z; cases z; exact hb rfl
end
structure Un (fs ex:List Addr)(H H':Hp)(h h':Heap):Prop where
 keep:∀ b o,h.get? b=some o->H b=none->b∉fs->b∉ex->h'.get? b=some o
 slot:∀ b o,h.get? b=some o->H b=none->b∈fs->b∉ex->∃ sl,h'.get? b=some { o with slots:=sl }
 free:∀ b o,h.get? b=some o->H b=none->b∉ex->H' b=none
 there:∀ b o,h.get? b=some o->b∉ex->∃ o',h'.get? b=some o'
 tups:∀ b xs,H b=some (.tup xs)->H' b=some (.tup xs)
 frzs:∀ b o u,H b=some (.frz o u)->H' b=some (.frz o u)
 tbls:∀ b ps,H b=some (.tbl ps)->∃ more,H' b=some (.tbl (ps++more))
section
variable {fs ex:List Addr}{H H1:Hp}{h h1 h':Heap}{a x e:Addr}{o:HO}
theorem Un.any (u:Un fs ex H H1 h h1){b:Addr}{ob:Obj}(q:h.get? b=some ob)(n:H b=none)(hx:b∉ex):∃ sl,h1.get? b=some { ob with slots:=sl }:=by
 by_cases hb:b∈fs
 ·exact u.slot b ob q n hb hx
 ·exact ⟨ob.slots,u.keep b ob q n hb hx⟩
theorem Un.kept (k:∀ b u,h.get? b=some u->h'.get? b=some u):Un fs ex H H h h':=
 ⟨fun b ob q _ _ _=>k b ob q,fun b ob q _ _ _=>⟨ob.slots,k b ob q⟩,fun _ _ _ n _=>n,fun b ob q _=>⟨ob,k b ob q⟩,fun _ _ q=>q,fun _ _ _ q=>q,fun _ ps q=>⟨#[],by rw [q]; simp⟩⟩
theorem Un.refl:Un fs ex H H h h:=Un.kept fun _ _ q=>q
theorem Un.laid (k:∀ b u,h.get? b=some u->h'.get? b=some u)(hp:h.objs.size<=a)(hn:H a=none):Un fs ex H (upd H a o) h h' where
 keep:=fun b u q _ _ _=>k b u q
 slot:=fun b u q _ _ _=>⟨u.slots,k b u q⟩
 free:=fun b u q n _=>by rw [zZ_ (Nat.ne_of_lt (Nat.lt_of_lt_of_le (Heap.lt_size q) hp))]; exact n
 there:=fun b u q _=>⟨u,k b u q⟩
 tups:=fun b xs q=>by rw [zZ_ (zba_ q hn)]; exact q
 frzs:=fun b u xs q=>by rw [zZ_ (zba_ q hn)]; exact q
 tbls:=fun b ps q=>⟨#[],by rw [zZ_ (zba_ q hn),q]; simp⟩
theorem Un.write (mu:Mut (H x))(he:e=x\/H e=some (.own x))(k:∀ b u,b≠e->h.get? b=some u->h'.get? b=some u)(dD:∃ u,h'.get? e=some u):Un fs ex H (upd H x o) h h':=by
 have hx:∀ b,H b=none->b≠x:=fun b n z=>by subst z; rw [n] at mu; exact mu
 have hb:∀ b,H b=none->b≠e:=fun b n z=>by
  subst z
  rcases he with r | r
  ·exact hx b n r
  ·rw [n] at r; cases r
 have hm:∀ b u,H b=some u->¬ Mut (some u)->b≠x:=fun b u q nm z=>by subst z; rw [q] at mu; exact nm mu
 refine ⟨fun b u q n _ _=>k b u (hb b n) q,fun b u q n _ _=>⟨u.slots,k b u (hb b n) q⟩,fun b u q n _=>by rw [zZ_ (hx b n)]; exact n,fun b u q _=>?_,
  fun b xs q=>by rw [zZ_ (hm b _ q fun z=>z)]; exact q,fun b u xs q=>by rw [zZ_ (hm b _ q fun z=>z)]; exact q,fun b ps q=>⟨#[],by rw [zZ_ (hm b _ q fun z=>z),q]; simp⟩⟩
 by_cases hbe:b=e
 ·subst hbe; exact dD
 ·exact ⟨u,k b u hbe q⟩
end
def trk (h:Heap)(H:Hp):List Addr:=(List.range h.objs.size).filter fun a=>(H a).isSome
def hidT (h:Heap)(H:Hp):Heap:=W.hideAll h (trk h H)
theorem zkJ_ (h:Heap)(H:Hp):(hidT h H).objs.size=h.objs.size:=W.hideAll_size _ _
theorem zmn_ {h:Heap}{H:Hp}{b:Addr}{o:Obj}(e:h.get? b=some o)(n:H b=none):(hidT h H).get? b=some o:=
 W.hideAll_get _ e fun hm=>by
  have q:(H b).isSome=true:=(List.mem_filter.mp hm).2
  rw [n] at q; simp at q
theorem znZ_ {h:Heap}{H:Hp}{b:Addr}{o:Obj}(e:(hidT h H).get? b=some o):h.get? b=some o/\H b=none:=by
 have e':h.get? b=some o:=W.of_hideAll (trk h H) e
 refine ⟨e',?_⟩
 cases q:H b with
 | none=>rfl
 | some x =>
  have hm:b∈trk h H:=List.mem_filter.mpr ⟨List.mem_range.mpr (Heap.lt_size e'),by simp [q]⟩
  have z:(hidT h H).get? b=none:=W.hideAll_none (trk h H) hm
  rw [z] at e; cases e
def allNews (g h:Heap)(L:Addr):Pnn:=(List.range h.objs.size).filterMap fun a=>if a=L\/(g.get? a).isSome=true then none else (h.get? a).map fun o=>(a,o)
def rest (g h:Heap)(L d:Addr):Pnn:=(allNews g h L).filter fun p=>decide (p.1≠d)
structure Mod (K:Fgg)(mg:Str->Option Value)(base:Heap):Prop where
 kin:K.In base
 glob:base.Ns mainGlobals mg
 blt:∃ mb,base.Ns builtinsNs mb/\∀ x:Str,x ≠ "__name__" -> mb x=bootBuiltins x
 nolimit:base.NoLimit
structure Cx where
 prog:Program
 w:World
 K:Fgg
 mg:Str->Option Value
 base:Heap
 A:Around
 N:List Str
 s₀:Shared
 H₀:Hp
 env:Env
 outer:List Env
 stack:List Env
 ex:List Addr
 fn:Str->Bool
 calm:Bool
 pn:Pnn
 xe:Value->Shared->Prop
def frs (l:List Env):List Addr:=l.filterMap (·.frame)
abbrev Cx.fs (X:Cx):List Addr:=frs X.outer
def Vis (sc:Scope)(x:Str):Prop:=sc.names.lookup x=some .local\/sc.names.lookup x=some .cell\/sc.names.lookup x=some .free
def Loc (sc:Scope)(x:Str):Prop:=sc.names.lookup x=some .local\/sc.names.lookup x=some .cell
def Look (env:Env)(h:Heap)(m:Str->Option Value)(x:Str)(u:Value):Prop:=
 (env.kindOf x=some .local/\m x=some u)\/((env.kindOf x=some .cell\/env.kindOf x=some .free)/\∃ c,env.cells.lookup x=some c/\h.IsCell c (some u))
structure Cx.Ok (X:Cx):Prop where
 mod:Mod X.K X.mg X.base
 kind:X.env.scope.kind=.function
 glob:X.env.globals=mainGlobals
 blt:X.env.builtins=builtinsNs
 above:X.s₀.heap.objs.size<=X.env.locals
 inj:∀ x y c,X.env.cells.lookup x=some c->X.env.cells.lookup y=some c->x=y
 has:∀ x,(X.env.kindOf x=some .cell\/X.env.kindOf x=some .free)->∃ c,X.env.cells.lookup x=some c
 cab:∀ x c,X.fn x=true->X.env.cells.lookup x=some c->X.s₀.heap.objs.size<=c
 hd:X.calm=true->X.A.handled=none
 frames:X.A.frames=some X.stack
 stk:X.stack=X.outer\/(X.stack=X.env::X.outer/\X.env.frame=some X.env.locals)
 exf:∀ b∈X.ex,b≠X.env.locals/\∀ x c,X.env.cells.lookup x=some c->c≠b
 bs:∀ b o,X.base.get? b=some o->X.s₀.heap.get? b=some o/\X.H₀ b=none
 bsz:X.base.objs.size<=X.s₀.heap.objs.size
 noex:∀ b o,X.base.get? b=some o->b∉X.ex
 exfs:∀ b∈X.ex,b∉X.fs
 funs:X.s₀.heap.FunFrames X.base X.outer
 frf:∀ b∈X.fs,X.H₀ b=none
structure Inv (X:Cx)(pins:Pnn)(σ:List (Option V))(H:Hp)(s:Shared):Prop where
 ok:X.Ok
 os:s.os=X.s₀.os
 bare:AllBare s.gens
 base:Un X.fs X.ex X.H₀ H X.s₀.heap s.heap
 loc:∃ m,s.heap.Ns X.env.locals m/\∀ (i:Nat) (x:Str) (v:V),X.N[i]?=some x->σ[i]?=some (some v)->Vis X.env.scope x->∃ u,RelV v u/\Look X.env s.heap m x u
 cell:∀ x c,X.env.cells.lookup x=some c->∃ v,s.heap.IsCell c v
 free:H X.env.locals=none
 freeC:∀ x c,X.env.cells.lookup x=some c->H c=none
 pin:∀ p∈X.pn++pins,s.heap.get? p.1=some p.2/\H p.1=none/\p.1≠X.env.locals/\p.1∉X.fs/\∀ v,p.2.data≠.cell v
 hok:HOk X.prog X.w H s.heap
 len:σ.length=X.N.length
section
variable {X:Cx}{pins:Pnn}{σ:List (Option V)}{H H':Hp}{s:Shared}{h':Heap}
theorem Cx.Ok.nofr (ok:X.Ok){b:Addr}{o:Obj}(e:X.base.get? b=some o):b∉X.fs:=fun hb=>by
 have:=(ok.funs.mem hb).1
 rw [e] at this; cases this
theorem Inv.bs (I:Inv X pins σ H s):∀ b o,X.base.get? b=some o->s.heap.get? b=some o/\H b=none:=fun b o e =>
 ⟨I.base.keep b o (I.ok.bs b o e).1 (I.ok.bs b o e).2 (I.ok.nofr e) (I.ok.noex b o e),I.base.free b o (I.ok.bs b o e).1 (I.ok.bs b o e).2 (I.ok.noex b o e)⟩
theorem Inv.bk (I:Inv X pins σ H s):∀ b o,X.base.get? b=some o->s.heap.get? b=some o:=fun b o e=>(I.bs b o e).1
theorem Inv.mod (I:Inv X pins σ H s):Mod X.K X.mg X.base:=I.ok.mod
theorem Inv.kIn (I:Inv X pins σ H s):X.K.In s.heap:=I.ok.mod.kin.keeps I.bk
theorem Inv.lt (I:Inv X pins σ H s):X.env.locals<s.heap.objs.size:=let ⟨_,hn,_⟩:=I.loc; hn.lt
theorem Inv.sz (I:Inv X pins σ H s):X.s₀.heap.objs.size<=s.heap.objs.size:=Nat.le_trans I.ok.above (Nat.le_of_lt I.lt)
theorem Inv.nofs (I:Inv X pins σ H s){a:Addr}(h:s.heap.objs.size<=a):a∉X.fs:=fun hb=>by
 obtain ⟨_,o,ho,_⟩:=I.ok.funs.mem hb
 exact absurd (Nat.lt_of_lt_of_le (Heap.lt_size ho) (Nat.le_trans I.sz h)) (Nat.lt_irrefl _)
theorem Inv.cne (I:Inv X pins σ H s):∀ x c,X.env.cells.lookup x=some c->c≠X.env.locals:=fun x c e z=>by
 obtain ⟨v,o,ho,hd⟩:=I.cell x c e
 obtain ⟨m,⟨o',es,ep,bS,hd',_⟩,_⟩:=I.loc
 rw [z,bS] at ho; cases ho; rw [hd'] at hd; cases hd
theorem Inv.funs (I:Inv X pins σ H s):s.heap.FunFrames X.base X.outer:=by
 have all:∀ (l:List Env),(∀ b∈frs l,b∈X.fs)->X.s₀.heap.FunFrames X.base l->s.heap.FunFrames X.base l:=by
  intro l
  induction l with
  | nil=>intro _ _; trivial
  | cons env r ih =>
   intro hs hl
   obtain ⟨hk,⟨L,o,hf,hn,ho,hd⟩,hr⟩:=hl
   have hL:L∈X.fs:=hs L (by unfold frs; rw [List.filterMap_cons,hf]; exact List.mem_cons_self)
   obtain ⟨sl,e⟩:=I.base.slot L o ho (I.ok.frf L hL) hL fun z=>I.ok.exfs L z hL
   exact ⟨hk,⟨L,_,hf,hn,e,hd⟩,ih (fun b hb=>hs b (by unfold frs; rw [List.filterMap_cons,hf]; exact List.mem_cons_of_mem _ hb)) hr⟩
 exact all X.outer (fun _ hb=>hb) I.ok.funs
theorem Inv.stack (I:Inv X pins σ H s):s.heap.FunFrames X.base X.stack:=by
 rcases I.ok.stk with e | ⟨e,hf⟩
 ·rw [e]; exact I.funs
 ·rw [e]
  obtain ⟨m,hn,_⟩:=I.loc
  refine .cons (by rw [I.ok.kind]; decide) hf hn ?_ I.funs
  exact Heap.get?_none_of_le (Nat.le_trans I.ok.bsz I.ok.above)
theorem Inv.stkSub (I:Inv X pins σ H s):∀ b∈frs X.stack,b∈X.env.locals::X.fs:=fun b hb=>by
 rcases I.ok.stk with e | ⟨e,hf⟩
 ·rw [e] at hb; exact List.mem_cons_of_mem _ hb
 ·rw [e] at hb
  unfold frs at hb
  rw [List.filterMap_cons,hf] at hb
  exact hb
theorem Inv.stkFree (I:Inv X pins σ H s):∀ b∈frs X.stack,H b=none:=fun b hb=>by
 rcases List.mem_cons.mp (I.stkSub b hb) with e | hb
 ·rw [e]; exact I.free
 ·obtain ⟨_,o,ho,_⟩:=I.ok.funs.mem hb
  exact I.base.free b o ho (I.ok.frf b hb) fun z=>I.ok.exfs b z hb
theorem Inv.step {g':Array GenState}{t':Nat}{d':Drawn}{ch:List Addr}(I:Inv X pins σ H s)
  (dE:∀ b∈ch,(b∈X.ex\/X.s₀.heap.objs.size<=b)/\b≠X.env.locals/\(∀ x c,X.env.cells.lookup x=some c->c≠b)/\∀ p∈X.pn++pins,p.1≠b)
  (keep:∀ b o,b≠X.env.locals->b∉X.fs->b∉ch->s.heap.get? b=some o->H b=none->h'.get? b=some o)
  (slot:∀ b o,b≠X.env.locals->b∈X.fs->b∉ch->s.heap.get? b=some o->H b=none->∃ sl,h'.get? b=some { o with slots:=sl }) (free:∀ b o,b∉ch->s.heap.get? b=some o->H b=none->H' b=none)
  (there:∀ b o,b∉ch->s.heap.get? b=some o->∃ o',h'.get? b=some o')
  (tups:∀ b xs,H b=some (.tup xs)->H' b=some (.tup xs)) (frzs:∀ b o u,H b=some (.frz o u)->H' b=some (.frz o u)) (tbls:∀ b ps,H b=some (.tbl ps)->∃ more,H' b=some (.tbl (ps++more)))
  (ns:∀ m,s.heap.Ns X.env.locals m->h'.Ns X.env.locals m) (hok:HOk X.prog X.w H' h') (hg:AllBare g'):
  Inv X pins σ H' { s with heap:=h',gens:=g',drawn:=d',toks:=t' }:=by
 have k9:∀ b o,X.s₀.heap.get? b=some o->b≠X.env.locals:=fun b o e=>Nat.ne_of_lt (Nat.lt_of_lt_of_le (Heap.lt_size e) I.ok.above)
 have iR:∀ b o,X.s₀.heap.get? b=some o->b∉X.ex->b∉ch:=fun b o e hx hb=>by
  rcases (dE b hb).1 with z | z
  ·exact hx z
  ·exact absurd (Nat.lt_of_lt_of_le (Heap.lt_size e) z) (Nat.lt_irrefl _)
 have cellK:∀ x c,X.env.cells.lookup x=some c->∀ v,s.heap.IsCell c v->h'.IsCell c v:=fun x c e v ⟨o,ho,hd⟩=>by
  have gE:c∉ch:=fun z=>(dE c z).2.2.1 x c e rfl
  by_cases hc:c∈X.fs
  ·obtain ⟨sl,q⟩:=slot c o (I.cne x c e) hc gE ho (I.freeC x c e)
   exact ⟨_,q,hd⟩
  ·exact ⟨o,keep c o (I.cne x c e) hc gE ho (I.freeC x c e),hd⟩
 refine ⟨I.ok,I.os,hg,⟨fun b o e n hb hx=>?_,fun b o e n hb hx=>?_,fun b o e n hx=>?_,fun b o e hx=>?_,fun b xs e=>tups b xs (I.base.tups b xs e),fun b o xs e=>frzs b o xs (I.base.frzs b o xs e),fun b ps e=>?_⟩,?_,fun x c e=>?_,?_,fun x c e=>?_,fun p hp=>?_,hok,I.len⟩
 ·exact keep b o (k9 b o e) hb (iR b o e hx) (I.base.keep b o e n hb hx) (I.base.free b o e n hx)
 ·obtain ⟨sl,e1⟩:=I.base.slot b o e n hb hx
  obtain ⟨dG,e2⟩:=slot b _ (k9 b o e) hb (iR b o e hx) e1 (I.base.free b o e n hx)
  exact ⟨dG,e2⟩
 ·obtain ⟨o',e1⟩:=I.base.there b o e hx
  exact free b o' (iR b o e hx) e1 (I.base.free b o e n hx)
 ·obtain ⟨o',e1⟩:=I.base.there b o e hx
  exact there b o' (iR b o e hx) e1
 ·obtain ⟨m1,e1⟩:=I.base.tbls b ps e
  obtain ⟨m2,e2⟩:=tbls b _ e1
  exact ⟨m1++m2,by rw [e2,Array.append_assoc]⟩
 ·obtain ⟨m,hn,hl⟩:=I.loc
  refine ⟨m,ns m hn,fun i x v e1 e2 e3=>?_⟩
  obtain ⟨u,r,l⟩:=hl i x v e1 e2 e3
  refine ⟨u,r,?_⟩
  rcases l with l | ⟨k,c,e,z⟩
  ·exact .inl l
  ·exact .inr ⟨k,c,e,cellK x c e _ z⟩
 ·obtain ⟨v,z⟩:=I.cell x c e
  exact ⟨v,cellK x c e v z⟩
 ·obtain ⟨m,⟨o,_,_,ho,_⟩,_⟩:=I.loc
  exact free _ o (fun z=>(dE _ z).2.1 rfl) ho I.free
 ·obtain ⟨v,o,ho,hd⟩:=I.cell x c e
  exact free c o (fun z=>(dE c z).2.2.1 x c e rfl) ho (I.freeC x c e)
 ·obtain ⟨e,n,ne,nf,d⟩:=I.pin p hp
  have gE:p.1∉ch:=fun z=>(dE p.1 z).2.2.2 p hp rfl
  exact ⟨keep p.1 p.2 ne nf gE e n,free p.1 p.2 gE e n,ne,nf,d⟩
theorem Inv.un {t':Nat}(I:Inv X pins σ H s)(u:Un X.fs [] H H' s.heap h')(hok:HOk X.prog X.w H' h'):Inv X pins σ H' { s with heap:=h',toks:=t' }:=by
 obtain ⟨m,⟨o,es,ep,ho,r⟩,_⟩:=id I.loc
 obtain ⟨sl,hL⟩:=u.any ho I.free (by simp)
 exact I.step (g':=s.gens) (d':=s.drawn) (ch:=[]) (fun _ z=>nomatch z) (fun b o _ hb _ e n=>u.keep b o e n hb (by simp)) (fun b o _ hb _ e n=>u.slot b o e n hb (by simp)) (fun b o _ e n=>u.free b o e n (by simp)) (fun b o _ e=>u.there b o e (by simp)) u.tups u.frzs u.tbls (fun m' hm=>by
  obtain ⟨o',es',ep',bS,r'⟩:=hm
  rw [ho] at bS; cases bS
  exact ⟨_,es',ep',hL,r'⟩) hok I.bare
theorem Inv.call {g':Array GenState}{t':Nat}{d':Drawn}{ch:List Addr}(I:Inv X pins σ H s)(u:Un (frs X.stack) ch H H' s.heap h')(hok:HOk X.prog X.w H' h')(hg:AllBare g')
  (dE:∀ b∈ch,(b∈X.ex\/X.s₀.heap.objs.size<=b)/\b≠X.env.locals/\(∀ x c,X.env.cells.lookup x=some c->c≠b)/\∀ p∈X.pn++pins,p.1≠b):
  Inv X pins σ H' { s with heap:=h',gens:=g',drawn:=d',toks:=t' }:=by
 obtain ⟨m,⟨o,es,ep,ho,r⟩,_⟩:=id I.loc
 obtain ⟨sl,hL⟩:=u.any ho I.free fun z=>(dE _ z).2.1 rfl
 exact I.step (ch:=ch) dE (fun b o hL hb hc e n=>u.keep b o e n (fun z=>(List.mem_cons.mp (I.stkSub b z)).elim hL hb) hc) (fun b o _ _ hc e n=>u.any e n hc) (fun b o hc e n=>u.free b o e n hc) (fun b o hc e=>u.there b o e hc) u.tups u.frzs u.tbls (fun m' hm=>by
  obtain ⟨o',es',ep',bS,r'⟩:=hm
  rw [ho] at bS; cases bS
  exact ⟨_,es',ep',hL,r'⟩) hok hg
theorem Inv.turned {t':Nat}{it:Addr}(I:Inv X pins σ H s)(k:∀ b o,b≠it->s.heap.get? b=some o->h'.get? b=some o)(hn:H it=none)(hL:it≠X.env.locals)
  (h1:it∈X.ex\/X.s₀.heap.objs.size<=it) (h2:∀ x c,X.env.cells.lookup x=some c->c≠it) (h3:∀ p∈X.pn++pins,p.1≠it):Inv X pins σ H { s with heap:=h',toks:=t' }:=by
 have gC:∀ b u,H b=some u->b≠it:=fun b u e z=>by rw [z,hn] at e; cases e
 refine I.step (g':=s.gens) (d':=s.drawn) (ch:=[it]) (fun b hb=>?_) (fun b o _ _ hc e _=>k b o (fun z=>hc (by simp [z])) e) (fun b o _ _ hc e _=>⟨o.slots,k b o (fun z=>hc (by simp [z])) e⟩) (fun _ _ _ _ n=>n)
  (fun b o hc e=>⟨o,k b o (fun z=>hc (by simp [z])) e⟩) (fun _ _ e=>e) (fun _ _ _ e=>e) (fun b ps e=>⟨#[],by rw [e]; simp⟩) (fun m hm=>?_) (fun b u e=>?_) I.bare
 ·have e:b=it:=by simpa using hb
  subst e
  exact ⟨h1,hL,h2,h3⟩
 ·obtain ⟨o,es,ep,ho,r⟩:=hm
  exact ⟨o,es,ep,k _ o (Ne.symm hL) ho,r⟩
 ·refine (I.hok b u e).stay (fun c v hc q=>k c v ?_ q) (fun _ q=>q) fun _ _ q=>q
  rcases hc with z | z
  ·rw [z]; exact gC b u e
  ·exact gC c _ z
theorem Inv.tok (I:Inv X pins σ H s)(t:Nat):Inv X pins σ H { s with toks:=t }:=I.un (h':=s.heap) (t':=t) Un.refl I.hok
theorem Inv.kept {t':Nat}(I:Inv X pins σ H s)(k:∀ b u,s.heap.get? b=some u->h'.get? b=some u):Inv X pins σ H { s with heap:=h',toks:=t' }:=I.un (Un.kept k) (I.hok.kept k)
theorem Inv.laid {a:Addr}{o:HO}{t':Nat}(I:Inv X pins σ H s)(k:∀ b u,s.heap.get? b=some u->h'.get? b=some u)(hp:s.heap.objs.size<=a)(new:ObjOk X.prog X.w (upd H a o) h' a o):
  Inv X pins σ (upd H a o) { s with heap:=h',toks:=t' }:=I.un (Un.laid k hp (I.hok.fresh hp)) (I.hok.laid k hp new)
theorem Inv.write {x e:Addr}{o:HO}{t':Nat}(I:Inv X pins σ H s)(mu:Mut (H x))(he:e=x\/H e=some (.own x))(k:∀ b u,b≠e->s.heap.get? b=some u->h'.get? b=some u)(dD:∃ u,h'.get? e=some u)
  (new:ObjOk X.prog X.w (upd H x o) h' x o):Inv X pins σ (upd H x o) { s with heap:=h',toks:=t' }:=I.un (Un.write mu he k dD) (I.hok.write mu he k dD new)
theorem Inv.pins_of {er:Pnn}(I:Inv X pins σ H s)(h:∀ p∈er,s.heap.get? p.1=some p.2/\H p.1=none/\p.1≠X.env.locals/\p.1∉X.fs/\∀ v,p.2.data≠.cell v):Inv X er σ H s:=
 ⟨I.ok,I.os,I.bare,I.base,I.loc,I.cell,I.free,I.freeC,fun p hp=>(List.mem_append.mp hp).elim (fun z=>I.pin p (List.mem_append_left _ z)) (h p),I.hok,I.len⟩
theorem zjU_ {N:List Str}(hN:N.Nodup){i j:Nat}{x:Str}(a:N[i]?=some x)(b:N[j]?=some x):i=j:=by
 obtain ⟨h1,e1⟩:=List.getElem?_eq_some_iff.mp a
 obtain ⟨h2,e2⟩:=List.getElem?_eq_some_iff.mp b
 exact (List.getElem_inj hN).mp (e1.trans e2.symm)
theorem zk3_ {M:Model}{A:Around}{E:Value->Shared->Prop}{i:Nat}{x:Str}{v:V}{u:Value}{Q:Unit->Shared->Prop}(I:Inv X pins σ H s)(hN:X.N.Nodup)(hi:X.N[i]?=some x)(hx:Loc X.env.scope x)(r:RelV v u)
  (h:∀ s',Inv X pins (σ.set i (some v)) H s'->(∃ a,Heap.SameBut a s.heap s'.heap/\(a=X.env.locals\/X.env.cells.lookup x=some a))->Q () s') (hf:X.fn x=true\/X.env.scope.names.lookup x=some .local:=by first | exact .inl rfl | exact .inr rfl | assumption):wpAny M A (storeName X.env x u) Q E s:=by
 obtain ⟨m,hn,hl⟩:=id I.loc
 have jZ:(X.env.scope.kind == .class || (X.env.scope.kind == .module && X.env.locals != X.env.globals))=false:=by rw [I.ok.kind]; rfl
 have hV:i<σ.length:=by rw [I.len]; exact (List.getElem?_eq_some_iff.mp hi).1
 have cne:=I.cne
 have tracked:∀ {a:Addr}{h':Heap},(∃ o,s.heap.get? a=some o/\H a=none)->Heap.SameBut a s.heap h'->HOk X.prog X.w H h':=fun {a h'} ha hs b ob e=>by
  obtain ⟨_,_,hfree⟩:=ha
  refine (I.hok b ob e).stay (fun c w' hc q=>(hs.2 c ?_).trans q) (fun _ q=>q) fun _ _ q=>q
  rintro rfl
  rcases hc with rfl | hc
  ·rw [hfree] at e; cases e
  ·rw [hfree] at hc; cases hc
 rcases hx with hk | hk
 ·refine wpAny_storeName_local hk hn (fun h' jP hs=>?_) jZ
  obtain ⟨oL,_,_,fD,_⟩:=id hn
  refine h _ ⟨I.ok,I.os,I.bare,⟨fun b o e n hb hx=>?_,fun b o e n hb hx=>?_,I.base.free,fun b o e hx=>?_,I.base.tups,I.base.frzs,I.base.tbls⟩,⟨_,jP,fun j y v' e1 e2 e3=>?_⟩,fun y c e=>?_,I.free,I.freeC,fun p hp=>?_,tracked ⟨oL,fD,I.free⟩ hs,by simpa using I.len⟩ ⟨_,hs,.inl rfl⟩
  ·exact (hs.2 b (Nat.ne_of_lt (Nat.lt_of_lt_of_le (Heap.lt_size e) I.ok.above))).trans (I.base.keep b o e n hb hx)
  ·obtain ⟨sl,e1⟩:=I.base.slot b o e n hb hx
   exact ⟨sl,(hs.2 b (Nat.ne_of_lt (Nat.lt_of_lt_of_le (Heap.lt_size e) I.ok.above))).trans e1⟩
  ·obtain ⟨o',e1⟩:=I.base.there b o e hx
   exact ⟨o',(hs.2 b (Nat.ne_of_lt (Nat.lt_of_lt_of_le (Heap.lt_size e) I.ok.above))).trans e1⟩
  ·by_cases hj:j=i
   ·subst hj
    rw [hi] at e1; cases e1
    rw [List.getElem?_set_self hV] at e2
    cases e2
    exact ⟨u,r,.inl ⟨hk,by simp⟩⟩
   ·rw [List.getElem?_set_ne (Ne.symm hj)] at e2
    obtain ⟨u',r',q⟩:=hl j y v' e1 e2 e3
    refine ⟨u',r',?_⟩
    rcases q with ⟨k,e⟩ | ⟨k,c,e,z⟩
    ·refine .inl ⟨k,?_⟩
     have:y≠x:=fun e=>hj (zjU_ hN e1 (e ▸ hi))
     simp [this,e]
    ·exact .inr ⟨k,c,e,z.sameBut hs (cne y c e)⟩
  ·obtain ⟨w',z⟩:=I.cell y c e
   exact ⟨w',z.sameBut hs (cne y c e)⟩
  ·obtain ⟨e,n,ne,nf,d⟩:=I.pin p hp
   exact ⟨(hs.2 p.1 ne).trans e,n,ne,nf,d⟩
 ·have hX:X.fn x=true:=by
   rcases hf with z | z
   ·exact z
   ·rw [z] at hk; cases hk
  obtain ⟨c,hc⟩:=I.ok.has x (.inl hk)
  obtain ⟨w',z⟩:=I.cell x c hc
  refine wpAny_storeName_cell I.ok.kind hk hc z (fun h' dF hs=>?_)
  obtain ⟨oc,hoc,hocd⟩:=id z
  refine h { s with heap:=h' } ⟨I.ok,I.os,I.bare,⟨fun b o e n hb hx=>?_,fun b o e n hb hx=>?_,I.base.free,fun b o e hx=>?_,I.base.tups,I.base.frzs,I.base.tbls⟩,⟨m,hn.sameBut hs (Ne.symm (cne x c hc)),fun j y v' e1 e2 e3=>?_⟩,fun y c' e=>?_,I.free,I.freeC,fun p hp=>?_,tracked ⟨oc,hoc,I.freeC x c hc⟩ hs,by simpa using I.len⟩ ⟨c,hs,.inr hc⟩
  ·exact (hs.2 b (Nat.ne_of_lt (Nat.lt_of_lt_of_le (Heap.lt_size e) (I.ok.cab x c hX hc)))).trans (I.base.keep b o e n hb hx)
  ·obtain ⟨sl,e1⟩:=I.base.slot b o e n hb hx
   exact ⟨sl,(hs.2 b (Nat.ne_of_lt (Nat.lt_of_lt_of_le (Heap.lt_size e) (I.ok.cab x c hX hc)))).trans e1⟩
  ·obtain ⟨o',e1⟩:=I.base.there b o e hx
   exact ⟨o',(hs.2 b (Nat.ne_of_lt (Nat.lt_of_lt_of_le (Heap.lt_size e) (I.ok.cab x c hX hc)))).trans e1⟩
  ·by_cases hj:j=i
   ·subst hj
    rw [hi] at e1; cases e1
    rw [List.getElem?_set_self hV] at e2
    cases e2
    exact ⟨u,r,.inr ⟨.inl hk,c,hc,dF⟩⟩
   ·rw [List.getElem?_set_ne (Ne.symm hj)] at e2
    obtain ⟨u',r',q⟩:=hl j y v' e1 e2 e3
    refine ⟨u',r',?_⟩
    rcases q with q | ⟨k,c',e,z'⟩
    ·exact .inl q
    ·refine .inr ⟨k,c',e,z'.sameBut hs ?_⟩
     rintro rfl
     exact hj (zjU_ hN e1 (I.ok.inj _ _ _ e hc ▸ hi))
  ·by_cases j4:c'=c
   ·subst j4; exact ⟨_,dF⟩
   ·obtain ⟨w2,z2⟩:=I.cell y c' e
    exact ⟨w2,z2.sameBut hs j4⟩
  ·obtain ⟨e,n,ne,nf,d⟩:=I.pin p hp
   refine ⟨(hs.2 p.1 ?_).trans e,n,ne,nf,d⟩
   intro q
   rw [q,hoc] at e
   have q':oc=p.2:=Option.some.inj e
   exact d w' (by rw [<- q']; exact hocd)
theorem zjk_ {M:Model}{A:Around}{E:Value->Shared->Prop}{i:Nat}{x:Str}{v:V}{u:Value}{Q:Unit->Shared->Prop}(I:Inv X pins σ H s)(hN:X.N.Nodup)(hi:X.N[i]?=some x)(hx:Loc X.env.scope x)(r:RelV v u)
  (h:∀ s',Inv X pins (σ.set i (some v)) H s'->Q () s') (hf:X.fn x=true\/X.env.scope.names.lookup x=some .local:=by first | exact .inl rfl | exact .inr rfl | assumption):wpAny M A (storeName X.env x u) Q E s:=
 zk3_ I hN hi hx r (fun s' I' _=>h s' I') hf
theorem Inv.call' {s':Shared}{ch:List Addr}(I:Inv X pins σ H s)(ho:s'.os=s.os)(u:Un (frs X.stack) ch H H' s.heap s'.heap)(hok:HOk X.prog X.w H' s'.heap)(hg:AllBare s'.gens)
  (dE:∀ b∈ch,(b∈X.ex\/X.s₀.heap.objs.size<=b)/\b≠X.env.locals/\(∀ x c,X.env.cells.lookup x=some c->c≠b)/\∀ p∈X.pn++pins,p.1≠b):Inv X pins σ H' s':=by
 obtain ⟨h',g',d',t',o'⟩:=s'
 have e:o'=s.os:=ho
 subst e
 exact I.call (g':=g') (t':=t') (d':=d') u hok hg dE
end
abbrev XK:=Value->Option Addr->Hp->Prop
abbrev St:=List (Option V)
abbrev VK:=V->Hp->Prop
abbrev TE:=St->Hp->VK->Prop
abbrev TT:=St->Hp->(Bool->Hp->Prop)->Prop
abbrev TA:=St->Hp->(List V->Hp->Prop)->Prop
structure Ends where
 nx:St->Hp->Prop
 rt:VK
 bk:St->Hp->Prop:=fun _ _=>False
 ct:St->Hp->Prop:=fun _ _=>False
abbrev TS:=Ends->St->Hp->Prop
def EP (X:Cx)(pins:Pnn)(σ:St)(Q:VK)(u:Value)(s':Shared):Prop:=∃ v H',Inv X pins σ H' s'/\RelV v u/\Q v H'
def TP (X:Cx)(pins:Pnn)(σ:St)(Q:Bool->Hp->Prop)(b:Bool)(s':Shared):Prop:=∃ H',Inv X pins σ H' s'/\Q b H'
def AP (X:Cx)(pins:Pnn)(σ:St)(Q:List V->Hp->Prop)(us:List Value)(s':Shared):Prop:=∃ vs H',Inv X pins σ H' s'/\Vals vs us/\Q vs H'
def SP (X:Cx)(pins:Pnn)(D:Ends)(f:Flow)(s':Shared):Prop:=
 match f with
 | .next=>∃ ai H',Inv X pins ai H' s'/\D.nx ai H'
 | .brk=>∃ ai H',Inv X pins ai H' s'/\D.bk ai H'
 | .cont=>∃ ai H',Inv X pins ai H' s'/\D.ct ai H'
 | .ret u=>∃ v ai H',Inv X pins ai H' s'/\RelV v u/\D.rt v H'
def PE (X:Cx)(e:Expr)(t:TE):Prop:=
 ∀ (pins:Pnn) (s:Shared) (σ:St) (H:Hp) (Q:VK),Inv X pins σ H s->t σ H Q->wpAny (model X.prog X.w) X.A (eval e X.env) (EP X pins σ Q) X.xe s
def PT (X:Cx)(e:Expr)(t:TT):Prop:=
 ∀ (pins:Pnn) (s:Shared) (σ:St) (H:Hp) (Q:Bool->Hp->Prop),Inv X pins σ H s->t σ H Q->wpAny (model X.prog X.w) X.A (isTrue e X.env (eval e X.env)) (TP X pins σ Q) X.xe s
def PW (X:Cx)(e:Expr)(t:TT):Prop:=
 ∀ (whole:Sem Value) (pins:Pnn) (s:Shared) (σ:St) (H:Hp) (Q:Bool->Hp->Prop),Inv X pins σ H s->t σ H Q->wpAny (model X.prog X.w) X.A (isTrue e X.env whole) (TP X pins σ Q) X.xe s
theorem PW.pt {X:Cx}{e:Expr}{t:TT}(h:PW X e t):PT X e t:=h _
def PA (X:Cx)(es:List Expr)(t:TA):Prop:=
 ∀ (pos:Pos) (pins:Pnn) (s:Shared) (σ:St) (H:Hp) (Q:List V->Hp->Prop),Inv X pins σ H s->t σ H Q->wpAny (model X.prog X.w) X.A (spliced (backTo pos (starEach es X.env))) (AP X pins σ Q) X.xe s
def PS (X:Cx)(st:Stmt)(t:TS):Prop:=
 ∀ (pins:Pnn) (s:Shared) (σ:St) (H:Hp) (D:Ends),Inv X pins σ H s->t D σ H->wpAny (model X.prog X.w) X.A (exec st X.env) (SP X pins D) X.xe s
def PSs (X:Cx)(st:List Stmt)(t:TS):Prop:=
 ∀ (pins:Pnn) (s:Shared) (σ:St) (H:Hp) (D:Ends),Inv X pins σ H s->t D σ H->wpAny (model X.prog X.w) X.A (execs st X.env) (SP X pins D) X.xe s
theorem thn {α:Type}{t:Sem α}{Q Q':α->Shared->Prop}{M:Model}{A:Around}{E:Value->Shared->Prop}{s:Shared}(h:wpAny M A t Q E s)(hQ:∀ a s,Q a s->Q' a s):wpAny M A t Q' E s:=wpAny_mono h hQ fun _ _ x=>x
section
variable {X:Cx}
theorem bin {a b:Expr}{ta tb:TE}(ha:PE X a ta)(hb:PE X b tb){pins:Pnn}{s:Shared}{σ:St}{H:Hp}{R:V->V->Hp->Prop}(I:Inv X pins σ H s)(h:ta σ H fun x H1=>tb σ H1 fun y H2=>R x y H2)
  {α:Type}{Q:α->Shared->Prop}{f:Value->Value->Sem α}
  (hf:∀ v u s2 x y H2,Inv X pins σ H2 s2->RelV x v->RelV y u->R x y H2->wpAny (model X.prog X.w) X.A (f v u) Q X.xe s2):
  wpAny (model X.prog X.w) X.A (eval a X.env) (fun v ag=>wpAny (model X.prog X.w) X.A (eval b X.env) (fun u aH=>wpAny (model X.prog X.w) X.A (f v u) Q X.xe aH) X.xe ag) X.xe s:=by
 refine thn (ha pins s σ H _ I h) fun v s1 af=>?_
 obtain ⟨x,H1,I1,r1,q1⟩:=af
 refine thn (hb pins s1 σ H1 _ I1 q1) fun u s2 af=>?_
 obtain ⟨y,H2,I2,r2,q2⟩:=af
 exact hf v u s2 x y H2 I2 r1 r2 q2
def tVar (i:Nat):TE:=fun σ H Q=>∃ v,σ[i]?=some (some v)/\Q v H
def tC (v:V):TE:=fun _ H Q=>Q v H
theorem zp9_ {i:Nat}{x:Str}{pos:Pos}(hN:X.N[i]?=some x)(hv:Vis X.env.scope x)(hd:(x==("__debug__":Str))=false:=by decide)(bT:(x==("__classdict__":Str))=false:=by decide):PE X (.Name x pos) (tVar i):=by
 intro pins s σ H Q I h
 obtain ⟨v,e,h⟩:=h
 obtain ⟨m,hn,hl⟩:=I.loc
 obtain ⟨u,r,l⟩:=hl i x v hN e hv
 have fin:EP X pins σ Q u s:=⟨v,H,I,r,h⟩
 rcases l with ⟨hk,hm⟩ | ⟨hk,c,hc,cB⟩
 ·exact wpAny_Name (wpAny_loadName_local I.ok.kind hk hn hm fin) hd
 ·rcases hk with hk | hk
  ·exact wpAny_Name (wpAny_loadName_cell I.ok.kind hk hc cB fin) hd
  ·exact wpAny_Name (wpAny_loadName_free I.ok.kind hk hc cB fin bT) hd
theorem zf_ {i j pos}:PE X (.Constant (.int i) j pos) (tC (.int i)):=fun _ _ _ H _ I h=>wpAny_Constant_int ⟨.int i,H,I.tok _,⟨_,rfl⟩,h⟩
theorem znt_ {b j pos}:PE X (.Constant (.bool b) j pos) (tC (.bl b)):=fun _ _ _ H _ I h=>Constant_bool ⟨.bl b,H,I,rfl,h⟩
theorem zcU_ {j pos}:PE X (.Constant .none j pos) (tC .non):=fun _ _ _ H _ I h=>Constant_none ⟨.non,H,I,rfl,h⟩
theorem zqE_ {x j pos}:PE X (.Constant (.str x) j pos) (tC (.str x)):=fun _ _ _ H _ I h=>Calls.Constant_str ⟨.str x,H,I.tok _,⟨_,rfl⟩,h⟩
def Gl (X:Cx)(x:Str):Prop:=X.env.kindOf x=some .globalImplicit
theorem zgq_ {E:Value->Shared->Prop}{pins:Pnn}{s:Shared}{σ:St}{H:Hp}{x:Str}{u:Value}{pos:Pos}{Q:Value->Shared->Prop}(I:Inv X pins σ H s)(hg:Gl X x)(hm:X.mg x=some u)(h:Q u s)
  (hd:(x==("__debug__":Str))=false:=by decide):wpAny (model X.prog X.w) X.A (eval (.Name x pos) X.env) Q E s:=
 Calls.Name_function_global I.ok.kind hg (Calls.loadGlobal_global (by rw [I.ok.glob]; exact I.mod.glob.keeps I.bk) hm h) hd
theorem zhd_ {E:Value->Shared->Prop}{pins:Pnn}{s:Shared}{σ:St}{H:Hp}{x:Str}{u:Value}{pos:Pos}{Q:Value->Shared->Prop}(I:Inv X pins σ H s)(hg:Gl X x)(hm:X.mg x=none)(hv:bootBuiltins x=some u)(h:Q u s)
  (hn:x ≠ "__name__":=by decide) (hd:(x==("__debug__":Str))=false:=by decide):wpAny (model X.prog X.w) X.A (eval (.Name x pos) X.env) Q E s:=by
 obtain ⟨mb,h1,h2⟩:=I.mod.blt
 exact Calls.Name_function_global I.ok.kind hg (Calls.loadGlobal_builtin (by rw [I.ok.glob]; exact I.mod.glob.keeps I.bk) hm (by rw [I.ok.blt]; exact h1.keeps I.bk) ((h2 x hn).trans hv) h) hd
theorem zps_ {x:Str}{v:V}{u:Value}{pos:Pos}(hg:Gl X x)(hm:X.mg x=some u)(r:RelV v u)(hd:(x==("__debug__":Str))=false:=by decide):PE X (.Name x pos) (tC v):=
 fun _ _ _ H _ I h=>zgq_ I hg hm ⟨v,H,I,r,h⟩ hd
theorem znA_ {x:Str}{v:V}{u:Value}{pos:Pos}(hg:Gl X x)(hm:X.mg x=none)(hv:bootBuiltins x=some u)(r:RelV v u)(hn:x ≠ "__name__":=by decide)(hd:(x==("__debug__":Str))=false:=by decide):PE X (.Name x pos) (tC v):=
 fun _ _ _ H _ I h=>zhd_ I hg hm hv ⟨v,H,I,r,h⟩ hn hd
variable {a b:Expr}{pos:Pos}
def PC (X:Cx)(op:CmpOp)(a b:Expr)(t:TE):Prop:=
 ∀ (pins:Pnn) (s:Shared) (σ:St) (H:Hp) (Q:VK),Inv X pins σ H s->t σ H Q ->
  wpAny (model X.prog X.w) X.A (eval a X.env) (fun v ag=>wpAny (model X.prog X.w) X.A (eval b X.env) (fun u aH=>wpAny (model X.prog X.w) X.A (compareOp op v u) (EP X pins σ Q) X.xe aH) X.xe ag) X.xe s
theorem nobehind (b:Expr){op:CmpOp}(h:op≠.In)(h2:op≠.NotIn):behindInMarks op b=false:=by
 have e1:(op == CmpOp.In)=false:=by cases op<;>first | rfl | exact absurd rfl h
 have e2:(op == CmpOp.NotIn)=false:=by cases op<;>first | rfl | exact absurd rfl h2
 cases b<;>simp [behindInMarks,e1,e2]
variable {tA:TT}
def tNot (t:TT):TT:=fun σ H Q=>t σ H fun c H1=>Q (!c) H1
theorem zlE_ (ha:PT X a tA):PW X (.BoolOp .And [a] pos) tA:=by
 intro wh pins s σ H Q I h
 refine isTrue_and (thn (ha pins s σ H Q I h) fun c s1 e=>?_)
 cases c with
 | true=>exact isTrue_and_nil e
 | false=>exact e
theorem zmo_ (ha:PT X a tA):PW X (.BoolOp .Or [a] pos) tA:=by
 intro wh pins s σ H Q I h
 refine isTrue_or (thn (ha pins s σ H Q I h) fun c s1 e=>?_)
 cases c with
 | false=>exact isTrue_or_nil e
 | true=>exact e
theorem zej_ (ha:PT X a tA):PT X (.UnaryOp .Not a pos) (tNot tA):=by
 intro pins s σ H Q I h
 exact isTrue_not (ha pins s σ H (fun c H1=>Q (!c) H1) I h)
theorem zdq_ {op}{t:TE}(h:PE X a t):PE X (.BoolOp op [a] pos) t:=fun pins s σ H Q I hw=>BoolOp_one (h pins s σ H Q I hw)
end
def SqL (K:Fgg)(H:Hp)(a:Addr)(xs:List V):Prop:=
 Rd H a (.lst xs) \/
  ∃ (o:Obj) (aa:Array Value) (n:Nat),K.lookup a=some o/\o.cls=.type "list" /\ o.dict=none/\o.data=.seq aa n/\aa.size<=sizeLine/\Vals xs aa.toList
def SqT (K:Fgg)(H:Hp)(a:Addr)(xs:List V):Prop:=
 Rd H a (.tup xs) \/
  ∃ (o:Obj) (aa:Array Value) (n:Nat),K.lookup a=some o/\o.cls=.type "tuple" /\ o.data=.seq aa n/\aa.size<=sizeLine/\Vals xs aa.toList
def absV:Value->Option V
 | .none=>some .non
 | .bool b=>some (.bl b)
 | .int i _=>some (.int i)
 | .str x _=>some (.str x)
 | .bytes b _=>some (.byt b)
 | .float b _=>some (.flt b)
 | .ref a=>some (.ref a)
 | .type n=>some (.ty n)
 | _=>none
theorem RelV.abs {x:V}{u:Value}(r:RelV x u):absV u=some x:=by
 cases x with
 | non=>cases r; rfl
 | bl _=>cases r; rfl
 | int _=>obtain ⟨t,rfl⟩:=r; rfl
 | str _=>obtain ⟨t,rfl⟩:=r; rfl
 | byt _=>obtain ⟨t,rfl⟩:=r; rfl
 | flt _=>obtain ⟨t,rfl⟩:=r; rfl
 | ref _=>cases r; rfl
 | ty _=>cases r; rfl
theorem RelV.inj {x y:V}{u:Value}(r:RelV x u)(q:RelV y u):x=y:=Option.some.inj (r.abs.symm.trans q.abs)
theorem Vals.inj:∀ {xs ys:List V}{us:List Value},Vals xs us->Vals ys us->xs=ys
 | _,_,_,.nil,.nil=>rfl
 | _,_,_,.cons r t,.cons r' t'=>by rw [r.inj r',Vals.inj t t']
section
variable {X:Cx}{pins:Pnn}{σ:St}{H:Hp}{s:Shared}{a:Addr}{xs ys:List V}
theorem SqL.of {K:Fgg}(h:H a=some (.lst xs)):SqL K H a xs:=.inl (.inl h)
theorem SqT.of {K:Fgg}(h:H a=some (.tup xs)):SqT K H a xs:=.inl (.inl h)
theorem Inv.list (I:Inv X pins σ H s)(h:SqL X.K H a xs):∃ aa:List Value,Vals xs aa/\PlainL s.heap a aa.toArray/\xs.length<=sizeLine:=by
 rcases h with h | ⟨o,aa,n,hk,hc,hd,hs,hz,r⟩
 ·obtain ⟨z,aa,n,r,e⟩:=h.ok I.hok
  exact ⟨aa,r,⟨_,n,e,rfl,rfl,rfl⟩,z⟩
 ·refine ⟨aa.toList,r,⟨o,n,I.kIn a o hk,hc,hd,by simpa using hs⟩,?_⟩
  have e:=r.length
  simp only [Array.length_toList] at e
  lia
theorem Inv.tuple (I:Inv X pins σ H s)(h:SqT X.K H a xs):∃ aa:List Value,Vals xs aa/\IsTup s.heap a aa.toArray/\xs.length<=sizeLine:=by
 rcases h with h | ⟨o,aa,n,hk,hc,hs,hz,r⟩
 ·obtain ⟨z,aa,r,p⟩:=h.ok I.hok
  exact ⟨aa,r,p,z⟩
 ·refine ⟨aa.toList,r,⟨o,I.kIn a o hk,hc,n,by simpa using hs⟩,?_⟩
  have e:=r.length
  simp only [Array.length_toList] at e
  lia
theorem Inv.list_inj (I:Inv X pins σ H s)(h:SqL X.K H a xs)(h':SqL X.K H a ys):xs=ys:=by
 obtain ⟨aa,r,⟨o,n,e,_,_,d⟩,_⟩:=I.list h
 obtain ⟨its',r',⟨o',n',e',_,_,d'⟩,_⟩:=I.list h'
 rw [e] at e'; cases e'
 rw [d] at d'
 injection d' with d1 _
 have:aa=its':=by simpa using congrArg Array.toList d1
 subst this
 exact r.inj r'
theorem Inv.tuple_inj (I:Inv X pins σ H s)(h:SqT X.K H a xs)(h':SqT X.K H a ys):xs=ys:=by
 obtain ⟨aa,r,⟨o,e,_,n,d⟩,_⟩:=I.tuple h
 obtain ⟨its',r',⟨o',e',_,n',d'⟩,_⟩:=I.tuple h'
 rw [e] at e'; cases e'
 rw [d] at d'
 injection d' with d1 _
 have:aa=its':=by simpa using congrArg Array.toList d1
 subst this
 exact r.inj r'
end
abbrev Cx.wish (X:Cx)(E:Value->Shared->Prop):Cx:={ X with xe:=E }
abbrev Cx.nox (X:Cx):Cx:=X.wish fun _ _=>False
theorem Cx.Ok.wish {X:Cx}(ok:X.Ok)(E:Value->Shared->Prop):(X.wish E).Ok:=
 ⟨ok.mod,ok.kind,ok.glob,ok.blt,ok.above,ok.inj,ok.has,ok.cab,ok.hd,ok.frames,ok.stk,ok.exf,ok.bs,ok.bsz,ok.noex,ok.exfs,ok.funs,ok.frf⟩
theorem Cx.Ok.unwish {X:Cx}{E:Value->Shared->Prop}(ok:(X.wish E).Ok):X.Ok:=
 ⟨ok.mod,ok.kind,ok.glob,ok.blt,ok.above,ok.inj,ok.has,ok.cab,ok.hd,ok.frames,ok.stk,ok.exf,ok.bs,ok.bsz,ok.noex,ok.exfs,ok.funs,ok.frf⟩
section
variable {X:Cx}{pins:Pnn}{σ:St}{H:Hp}{s:Shared}{E:Value->Shared->Prop}
theorem Inv.wish (I:Inv X pins σ H s)(E:Value->Shared->Prop):Inv (X.wish E) pins σ H s:=⟨I.ok.wish E,I.os,I.bare,I.base,I.loc,I.cell,I.free,I.freeC,I.pin,I.hok,I.len⟩
theorem Inv.unwish (I:Inv (X.wish E) pins σ H s):Inv X pins σ H s:=⟨I.ok.unwish,I.os,I.bare,I.base,I.loc,I.cell,I.free,I.freeC,I.pin,I.hok,I.len⟩
theorem SP.unwish {D:Ends}{f:Flow}{s':Shared}(h:SP (X.wish E) pins D f s'):SP X pins D f s':=by
 cases f with
 | next=>obtain ⟨ai,H',I,q⟩:=h; exact ⟨ai,H',I.unwish,q⟩
 | brk=>obtain ⟨ai,H',I,q⟩:=h; exact ⟨ai,H',I.unwish,q⟩
 | cont=>obtain ⟨ai,H',I,q⟩:=h; exact ⟨ai,H',I.unwish,q⟩
 | ret u=>obtain ⟨v,ai,H',I,r,q⟩:=h; exact ⟨v,ai,H',I.unwish,r,q⟩
theorem PSs.nox {st:List Stmt}{t:TS}(h:PSs X.nox st t):PSs X st t:=fun pins s σ H D I hw =>
 wpAny_mono (h pins s σ H D (I.wish _) hw) (fun _ _ q=>q.unwish) fun _ _ z=>False.elim z
end
section
variable {X:Cx}{st:Stmt}{rest:List Stmt}{t u:TS}{e:Expr}{te:TE}{pos:Pos}
def tNext:TS:=fun D σ H=>D.nx σ H
def tSeq (t u:TS):TS:=fun D σ H=>t { D with nx:=u D } σ H
theorem zI_:PSs X [] tNext:=fun _ _ σ H _ I h=>wpAny_execs_nil ⟨σ,H,I,h⟩
theorem zg_ (h1:PS X st t)(h2:PSs X rest u):PSs X (st::rest) (tSeq t u):=by
 intro pins s σ H D I h
 refine wpAny_execs_cons (thn (h1 pins s σ H { D with nx:=u D } I h) fun f s1 q=>?_)
 cases f with
 | next =>
  obtain ⟨ai,H',I',q⟩:=q
  exact h2 pins s1 ai H' D I' q
 | ret v=>exact q
 | brk=>exact q
 | cont=>exact q
theorem zl_ (h1:PS X st t):PSs X [st] t:=by
 intro pins s σ H D I h
 refine wpAny_execs_cons (thn (h1 pins s σ H D I h) fun f s1 q=>?_)
 cases f with
 | next=>exact wpAny_execs_nil q
 | ret v=>exact q
 | brk=>exact q
 | cont=>exact q
def tCont:TS:=fun D σ H=>D.ct σ H
theorem zh9_:PS X (.Continue pos) tCont:=fun _ _ σ H _ I h=>wpAny_Continue ⟨σ,H,I,h⟩
theorem Inv.quiet {pins:Pnn}{σ:St}{H:Hp}{s:Shared}(I:Inv X pins σ H s):interactive X.env=false:=by simp [interactive,I.ok.kind]
def tDrop (te:TE):TS:=fun D σ H=>te σ H fun _ H1=>D.nx σ H1
theorem zv_ (he:PE X e te)(hs:swapsWith e none pos.line X.env=pure false:=by rfl):PS X (.Expr e pos) (tDrop te):=by
 intro pins s σ H D I h
 exact wpAny_Expr_any (thn (he pins s σ H _ I h) fun v s1 ⟨x,H1,I1,r1,q1⟩=>⟨σ,H1,I1,q1⟩) I.quiet hs
def tRet (te:TE):TS:=fun D σ H=>te σ H D.rt
theorem zJ_ (he:PE X e te):PS X (.Return (some e) pos) (tRet te):=by
 intro pins s σ H D I h
 exact wpAny_Return_some (thn (he pins s σ H _ I h) fun v s1 ⟨x,H1,I1,r1,q1⟩=>⟨x,σ,H1,I1,r1,q1⟩)
def tRetN:TS:=fun D _ H=>D.rt .non H
theorem zoW_:PS X (.Return none pos) tRetN:=fun _ _ σ H _ I h=>wpAny_Return_none ⟨.non,σ,H,I,rfl,h⟩
def tNever:TS:=fun _ _ _=>False
theorem zjO_:PS X st tNever:=fun _ _ _ _ _ _ h=>h.elim
end
abbrev TG:=V->St->Hp->(St->Hp->Prop)->Prop
abbrev TGs:=List V->St->Hp->(St->Hp->Prop)->Prop
def PG (X:Cx)(target:Expr)(t:TG):Prop:=
 ∀ (pins:Pnn) (s:Shared) (σ:St) (H:Hp) (v:V) (u:Value) (Q:St->Hp->Prop),Inv X pins σ H s->RelV v u->t v σ H Q ->
  wpAny (model X.prog X.w) X.A (assign target X.env u) (fun _ s'=>∃ ai H',Inv X pins ai H' s'/\Q ai H') X.xe s
def PGs (X:Cx)(ts:List Expr)(t:TGs):Prop:=
 ∀ (pins:Pnn) (s:Shared) (σ:St) (H:Hp) (vs:List V) (us:List Value) (Q:St->Hp->Prop),Inv X pins σ H s->Vals vs us->t vs σ H Q ->
  wpAny (model X.prog X.w) X.A (assignInOrder ((assignEach ts X.env).map (·.2)) us) (fun _ s'=>∃ ai H',Inv X pins ai H' s'/\Q ai H') X.xe s
abbrev TSet:=V->V->V->Hp->(Hp->Prop)->Prop
def PSet (X:Cx)(t:TSet):Prop:=
 ∀ (pins:Pnn) (s:Shared) (σ:St) (H:Hp) (o i v:V) (ov iv u:Value) (Q:Hp->Prop),Inv X pins σ H s->RelV o ov->RelV i iv->RelV v u->t o i v H Q ->
  wpAny (model X.prog X.w) X.A (setItem ov iv u) (fun _ s'=>∃ H',Inv X pins σ H' s'/\Q H') X.xe s
section
variable {X:Cx}{pos:Pos}
def gName (i:Nat):TG:=fun v σ H Q=>Q (σ.set i (some v)) H
theorem zle_ {i:Nat}{x:Str}(hN:X.N.Nodup)(hi:X.N[i]?=some x)(hx:Loc X.env.scope x)(hf:X.fn x=true\/X.env.scope.names.lookup x=some .local:=by first | exact .inl rfl | exact .inr rfl | assumption):PG X (.Name x pos) (gName i):=by
 intro pins s σ H v u Q I r h
 exact wpAny_assign_Name (zjk_ I hN hi hx r (fun s' I'=>⟨_,H,I',h⟩) hf)
def gNil:TGs:=fun vs σ H Q=>vs=[]/\Q σ H
def gCons (t:TG)(u:TGs):TGs:=fun vs σ H Q=>∃ v r,vs=v::r/\t v σ H fun ai H'=>u r ai H' Q
theorem zpo_:PGs X [] gNil:=by
 intro pins s σ H vs us Q I r h
 obtain ⟨e,h⟩:=h
 subst e
 cases r
 exact assignInOrder_nil ⟨σ,H,I,h⟩
theorem zmJ_ {e:Expr}{es:List Expr}{t:TG}{u:TGs}(h1:PG X e t)(h2:PGs X es u)
  (hs:(assignEach (e::es) X.env).map (·.2)=assign e X.env::(assignEach es X.env).map (·.2):=by rfl):PGs X (e::es) (gCons t u):=by
 intro pins s σ H vs us Q I r h
 obtain ⟨v,vr,e1,h⟩:=h
 subst e1
 cases r with
 | cons r rr =>
  rw [hs]
  refine assignInOrder_cons (thn (h1 pins s σ H _ _ _ I r h) fun _ s1 af=>?_)
  obtain ⟨l8,H1,I1,q1⟩:=af
  exact h2 pins s1 l8 H1 _ _ Q I1 rr q1
def gTup (K:Fgg)(n:Nat)(t:TGs):TG:=fun v σ H Q=>∃ a xs,v=.ref a/\SqT K H a xs/\xs.length=n/\t xs σ H Q
theorem zqN_ {es:List Expr}{k:Nat}{t:TGs}{n:Nat}(hc:X.calm=true)(h:PGs X es t)
  (hn:(assignEach es X.env).length=n:=by rfl) (bQ:(assignEach es X.env).findIdx? (·.1)=none:=by rfl):PG X (.Tuple es k pos) (gTup X.K n t):=by
 intro pins s σ H v u Q I r hw
 obtain ⟨a,xs,e1,hq,hl,hw⟩:=hw
 subst e1
 cases r
 obtain ⟨aa,rv,ht,hz⟩:=I.tuple hq
 refine assign_Tuple_tuple (I.ok.hd hc) ht (by simp [hn,<- hl,rv.length]) bQ fun h' hx=>?_
 have I1:Inv X pins σ H { s with heap:=h' }:=I.kept (t':=s.toks) fun b o e=>hx b o (Nat.ne_of_lt (Heap.lt_size e)) e
 exact h pins _ σ H xs _ Q I1 (by simpa using rv) hw
def gSub (to ti:TE)(t:TSet):TG:=fun v σ H Q=>to σ H fun o H1=>ti σ H1 fun i H2=>t o i v H2 fun H3=>Q σ H3
theorem zqd_ {o i:Expr}{to ti:TE}{t:TSet}(ho:PE X o to)(hi:PE X i ti)(hs:PSet X t)
  (ha:∀ v,assign (.Subscript o i pos) X.env v=(do
   let ov <- holding [v] (eval o X.env)
   let iv <- holding [v,ov] (eval i X.env)
   standAt pos
   holding [v,ov,iv] (setItem ov iv v)
   release [v,ov,iv] []):=by intro _; rfl):PG X (.Subscript o i pos) (gSub to ti t):=by
 intro pins s σ H v u Q I r h
 rw [ha]
 refine wpAny_bind (wpAny_holding (thn (ho pins s σ H _ I h) fun ov s1 af=>?_))
 obtain ⟨x,H1,I1,r1,q1⟩:=af
 refine wpAny_bind (wpAny_holding (thn (hi pins s1 σ H1 _ I1 q1) fun iv s2 af=>?_))
 obtain ⟨y,H2,I2,r2,q2⟩:=af
 refine wpAny_bind (wpAny_standAt (wpAny_bind (wpAny_holding (thn (hs pins s2 σ H2 x y v ov iv u _ I2 r1 r2 r q2) fun _ s3 af=>?_))))
 obtain ⟨H3,I3,q3⟩:=af
 exact wpAny_release ⟨σ,H3,I3,q3⟩
def tAsg (te:TE)(g:TG):TS:=fun D σ H=>te σ H fun x H1=>g x σ H1 D.nx
theorem zoS_ {tg e:Expr}{te:TE}{g:TG}(he:PE X e te)(hg:PG X tg g)(hs:swapsWithSole [tg] e pos.line X.env=pure false:=by rfl)(hw:swappedStores [tg] e X.env=pure none:=by rfl)
  (h1:(assignEach [tg] X.env).map (·.2)=[assign tg X.env]:=by rfl):PS X (.Assign [tg] e pos) (tAsg te g):=by
 intro pins s σ H D I h
 refine wpAny_Assign_stores (thn (he pins s σ H _ I h) fun v s1 af=>?_) hs hw
 obtain ⟨x,H1,I1,r1,q1⟩:=af
 rw [h1]
 exact thn (hg pins s1 σ H1 x v _ I1 r1 q1) fun _ s2 q=>q
theorem zqV_ {i:Nat}{x:Str}{e:Expr}{te:TE}{pos':Pos}(hN:X.N.Nodup)(hi:X.N[i]?=some x)(hx:Loc X.env.scope x)(he:PE X e te)(hs:swapsWith e (some (.Name x pos')) pos.line X.env=pure false:=by rfl)(hf:X.fn x=true\/X.env.scope.names.lookup x=some .local:=by first | exact .inl rfl | exact .inr rfl | assumption):
  PS X (.Assign [.Name x pos'] e pos) (tAsg te (gName i)):=by
 intro pins s σ H D I h
 refine wpAny_Assign_Name (thn (he pins s σ H _ I h) fun v s1 af=>?_) hs
 obtain ⟨y,H1,I1,r1,q1⟩:=af
 exact zjk_ I1 hN hi hx r1 (fun s2 I2=>⟨_,H1,I2,q1⟩) hf
end
structure It where
 go:Nat->Hp->Prop
 yld:Nat->Hp->V->Hp->Prop
 stop:Nat->Hp->Prop
def FpOk (X:Cx)(pins:Pnn)(H:Hp)(b:Addr):Prop:=
 H b=none/\b≠X.env.locals/\b∉X.fs/\(b∈X.ex\/X.s₀.heap.objs.size<=b)/\(∀ x c,X.env.cells.lookup x=some c->c≠b)/\∀ p∈X.pn++pins,p.1≠b
theorem Inv.fpOk {X:Cx}{pins:Pnn}{σ:St}{H H':Hp}{s:Shared}{b:Addr}(I:Inv X pins σ H s)(hb:s.heap.objs.size<=b)(hn:H' b=none):FpOk X pins H' b:=by
 refine ⟨hn,Nat.ne_of_gt (Nat.lt_of_lt_of_le I.lt hb),I.nofs hb,.inr (Nat.le_trans I.sz hb),fun x c e z=>?_,fun p hp z=>?_⟩
 ·obtain ⟨v,q⟩:=I.cell x c e
  exact absurd (Nat.lt_of_lt_of_le q.lt (by rw [z]; exact hb)) (Nat.lt_irrefl _)
 ·exact absurd (Nat.lt_of_lt_of_le (Heap.lt_size (I.pin p hp).1) (by rw [z]; exact hb)) (Nat.lt_irrefl _)
structure Turn (P:Program)(w:World)(K:Fgg)(tg:Expr)(J:It)(fp:List Addr)(it:Addr)(tn:Nat->Heap->Prop):Prop where
 mem:it∈fp
 obj:∀ i h,tn i h->∀ b∈fp,∃ o,h.get? b=some o/\∀ v,o.data≠.cell v
 keep:∀ i h h',tn i h->(∀ b∈fp,∀ o,h.get? b=some o->h'.get? b=some o)->tn i h'
 item:∀ (X:Cx),X.prog=P->X.w=w->X.K=K->X.calm=true->∀ (i:Nat) (pins:Pnn) (s:Shared) (σ:St) (H:Hp) (E:Value->Shared->Prop),Inv X pins σ H s->(∀ b∈fp,FpOk X pins H b)->tn i s.heap->J.go i H ->
  wpAny (model P w) X.A (pyNext (.ref it)) (fun r s1=>∃ u,r=some u /\
   wpAny (model P w) X.A (letOwnedTupleGo tg (.ref it) u) (fun _ s2=>∃ x H',Inv X pins σ H' s2/\RelV x u/\J.yld i H x H'/\tn (i+1) s2.heap/\∀ b∈fp,H' b=none) E s1) E s
 done:∀ (X:Cx),X.prog=P->X.w=w->X.K=K->X.calm=true->∀ (i:Nat) (pins:Pnn) (s:Shared) (σ:St) (H:Hp) (E:Value->Shared->Prop),Inv X pins σ H s->(∀ b∈fp,FpOk X pins H b)->tn i s.heap->J.stop i H ->
  wpAny (model P w) X.A (pyNext (.ref it)) (fun r s1=>r=none/\Inv X pins σ H s1) E s
 self:∀ (A:Around) (i:Nat) (s:Shared) (Q:Value->Shared->Prop) (E:Value->Shared->Prop),tn i s.heap->Q (.ref it) s->wpAny (model P w) A (pyIter (.ref it)) Q E s
abbrev TI:=St->Hp->(It->Hp->Prop)->Prop
def PIE (X:Cx)(pins:Pnn)(σ:St)(tg:Expr)(R:It->Hp->Prop)(iU:Value)(s2:Shared):Prop:=
 ∃ (it:Addr) (fp:List Addr) (tn:Nat->Heap->Prop) (J:It) (H':Hp),iU=.ref it/\Inv X pins σ H' s2/\Turn X.prog X.w X.K tg J fp it tn/\tn 0 s2.heap/\(∀ b∈fp,FpOk X pins H' b)/\R J H'
def PI (X:Cx)(tg iter:Expr)(wi:TI):Prop:=
 ∀ (pins:Pnn) (s:Shared) (σ:St) (H:Hp) (R:It->Hp->Prop),Inv X pins σ H s->wi σ H R ->
  wpAny (model X.prog X.w) X.A (eval iter X.env) (fun v s1=>wpAny (model X.prog X.w) X.A (pyIter v) (PIE X pins σ tg R) X.xe s1) X.xe s
theorem zpS_ {M:Model}{A:Around}{E:Value->Shared->Prop}{s:Shared}{tg:Expr}{it:Addr}{u:Value}{o:Obj}{n:String}{vs:Array Value}{Q:Unit->Shared->Prop}(ho:s.heap.get? it=some o)(hc:o.cls=.type n)(hd:o.data=.fields vs)
  (hn:["enumerate", "zip", "dict_itemiterator", "dict_reverseitemiterator", "odict_iterator", "itertools.zip_longest", "itertools.pairwise"].contains n=false) (hQ:Q () s):wpAny M A (letOwnedTupleGo tg (.ref it) u) Q E s:=by
 unfold letOwnedTupleGo
 cases tg<;>first
  | exact wpAny_pure hQ
  | (cases u<;>first
    | exact wpAny_pure hQ
    | (refine wpAny_bind (wpAny_load ho ?_)
       rw [hc,hd]
       show wpAny M A (if (["enumerate", "zip", "dict_itemiterator", "dict_reverseitemiterator", "odict_iterator", "itertools.zip_longest", "itertools.pairwise"].contains n && vs[0]?==some (rawInt _))=true then _ else _) Q E s
       rw [if_neg (by intro h; rw [hn,Bool.false_and] at h; cases h)]
       exact wpAny_pure hQ))
def Itl (K:Fgg)(a:Addr):It:=
 ⟨fun i H=>∃ xs x,SqL K H a xs/\xs[i]?=some x,fun i H x H'=>H'=H/\∀ xs,SqL K H a xs->xs[i]?=some x,fun i H=>∃ xs,SqL K H a xs/\xs.length<=i⟩
def Itt (K:Fgg)(a:Addr):It:=
 ⟨fun i H=>∃ xs x,SqT K H a xs/\xs[i]?=some x,fun i H x H'=>H'=H/\∀ xs,SqT K H a xs->xs[i]?=some x,fun i H=>∃ xs,SqT K H a xs/\xs.length<=i⟩
def Itr (lo:Int)(n:Nat):It:=⟨fun i _=>i<n,fun i H x H'=>H'=H/\x=.int (lo+i),fun i _=>n<=i⟩
theorem zkx_ {P:Program}{w:World}{K:Fgg}{tg:Expr}(a it:Addr):Turn P w K tg (Itl K a) [it] it (fun i h=>h.IsListIter it a i) where
 mem:=by simp
 obj:=fun i h st b hb=>by
  have e:b=it:=by simpa using hb
  subst e
  obtain ⟨o,e,c,d⟩:=st
  exact ⟨o,e,fun v z=>by rw [d] at z; cases z⟩
 keep:=fun i h h' st k=>st.at fun o e=>k it (by simp) o e
 item:=by
  intro X hP hw hK hc i pins s σ H E I hf st hg
  subst hP hw hK
  obtain ⟨xs,x,hq,hx⟩:=hg
  obtain ⟨aa,rv,p,hz⟩:=I.list hq
  obtain ⟨u,hu,ru⟩:=rv.get hx
  obtain ⟨f0,f1,f2,f3,f4,f5⟩:=hf it (by simp)
  refine wpAny_pyNext_list_item st p.isList (x:=u) (by simpa using hu) fun h' aK sb=>?_
  have I1:Inv X pins σ H { s with heap:=h' }:=I.turned (t':=s.toks) (fun b o hb e=>(sb.2 b hb).trans e) f0 f1 f3 f4 f5
  obtain ⟨o,e,c,d⟩:=id aK
  exact ⟨u,rfl,zpS_ (s:={ s with heap:=h' }) e c d (by decide) ⟨x,H,I1,ru,⟨rfl,fun ys hy=>by rw [I.list_inj hy hq]; exact hx⟩,aK,fun b hb=>(hf b hb).1⟩⟩
 done:=by
  intro X hP hw hK hc i pins s σ H E I hf st hg
  subst hP hw hK
  obtain ⟨xs,hq,hx⟩:=hg
  obtain ⟨aa,rv,p,hz⟩:=I.list hq
  obtain ⟨f0,f1,f2,f3,f4,f5⟩:=hf it (by simp)
  have hl:=rv.length
  exact wpAny_pyNext_list_end (I.ok.hd hc) st p.isList (by simp; lia) fun h' eb=>⟨rfl,I.turned (t':=s.toks) (fun b o hb e=>eb b o hb e) f0 f1 f3 f4 f5⟩
 self:=fun _ _ _ _ _ st h=>wpAny_pyIter_listiter st h
theorem zjw_ {P:Program}{w:World}{K:Fgg}{tg:Expr}(a it:Addr):Turn P w K tg (Itt K a) [it] it (fun i h=>h.IsTupleIter it a i) where
 mem:=by simp
 obj:=fun i h st b hb=>by
  have e:b=it:=by simpa using hb
  subst e
  obtain ⟨o,e,c,d⟩:=st
  exact ⟨o,e,fun v z=>by rw [d] at z; cases z⟩
 keep:=fun i h h' st k=>st.at fun o e=>k it (by simp) o e
 item:=by
  intro X hP hw hK hc i pins s σ H E I hf st hg
  subst hP hw hK
  obtain ⟨xs,x,hq,hx⟩:=hg
  obtain ⟨aa,rv,p,hz⟩:=I.tuple hq
  obtain ⟨u,hu,ru⟩:=rv.get hx
  obtain ⟨f0,f1,f2,f3,f4,f5⟩:=hf it (by simp)
  refine wpAny_pyNext_tuple_item st (show s.heap.IsTuple a aa.toArray from p) (x:=u) (by simpa using hu) fun h' aK sb=>?_
  have I1:Inv X pins σ H { s with heap:=h' }:=I.turned (t':=s.toks) (fun b o hb e=>(sb.2 b hb).trans e) f0 f1 f3 f4 f5
  obtain ⟨o,e,c,d⟩:=id aK
  exact ⟨u,rfl,zpS_ (s:={ s with heap:=h' }) e c d (by decide) ⟨x,H,I1,ru,⟨rfl,fun ys hy=>by rw [I.tuple_inj hy hq]; exact hx⟩,aK,fun b hb=>(hf b hb).1⟩⟩
 done:=by
  intro X hP hw hK hc i pins s σ H E I hf st hg
  subst hP hw hK
  obtain ⟨xs,hq,hx⟩:=hg
  obtain ⟨aa,rv,p,hz⟩:=I.tuple hq
  obtain ⟨f0,f1,f2,f3,f4,f5⟩:=hf it (by simp)
  have hl:=rv.length
  exact wpAny_pyNext_tuple_end (I.ok.hd hc) st (show s.heap.IsTuple a aa.toArray from p) (by simp; lia) fun h' eb=>⟨rfl,I.turned (t':=s.toks) (fun b o hb e=>eb b o hb e) f0 f1 f3 f4 f5⟩
 self:=fun _ _ _ _ _ st h=>wpAny_pyIter_tupleiter st h
theorem zi8_ {P:Program}{w:World}{K:Fgg}{tg:Expr}(it:Addr)(lo:Int)(n:Nat):Turn P w K tg (Itr lo n) [it] it (fun i h=>IsRangeIter h it (lo+(i:Nat)*1) ((n:Int)-(i:Nat)) 1) where
 mem:=by simp
 obj:=fun i h st b hb=>by
  have e:b=it:=by simpa using hb
  subst e
  exact ⟨_,st,fun v z=>by
   have z':Data.fields _=Data.cell v:=z
   cases z'⟩
 keep:=fun i h h' st k=>k it (by simp) _ st
 item:=by
  intro X hP hw hK hc i pins s σ H E I hf st hg
  subst hP hw hK
  obtain ⟨f0,f1,f2,f3,f4,f5⟩:=hf it (by simp)
  have W:=Walks.range (prog:=X.prog) (w:=X.w) (I.ok.hd hc) it lo 1 n
  refine W.item i s _ _ hg st fun v h' tk hv aK kk=>?_
  obtain ⟨t,rfl⟩:=hv
  have I1:Inv X pins σ H { s with heap:=h',toks:=tk }:=I.turned (fun b o hb e=>kk b o (by simpa using hb) e) f0 f1 f3 f4 f5
  refine ⟨_,rfl,zpS_ (s:={ s with heap:=h',toks:=tk }) (n:="range_iterator") aK rfl rfl (by decide) ⟨.int (lo+i),H,I1,⟨t,?_⟩,⟨rfl,rfl⟩,aK,fun b hb=>(hf b hb).1⟩⟩
  rw [Int.mul_one]
 done:=by
  intro X hP hw hK hc i pins s σ H E I hf st hg
  subst hP hw hK
  obtain ⟨f0,f1,f2,f3,f4,f5⟩:=hf it (by simp)
  exact wpAny_pyNext_range_end (I.ok.hd hc) st (by have:n<=i:=hg; lia) fun h' eb=>⟨rfl,I.turned (t':=s.toks) (fun b o hb e=>eb b o hb e) f0 f1 f3 f4 f5⟩
 self:=fun _ _ _ _ _ st h=>wpAny_pyIter_rangeiter st h
section
variable {X:Cx}{tg:Expr}
theorem ziM_ {pins:Pnn}{σ:St}{H:Hp}{s:Shared}{R:It->Hp->Prop}{E:Value->Shared->Prop}{lo hi:Int}{t u v:Tok}{tk:Nat}(I:Inv X pins σ H s)(h1 : -(2 ^ 62)<=lo)(h2:lo<2 ^ 62)(h3 : -(2 ^ 62)<=hi)(h4:hi<2 ^ 62)
  (q:R (Itr lo (hi-lo).toNat) H):wpAny (model X.prog X.w) X.A (pyIter (.ref s.heap.objs.size)) (PIE X pins σ tg R) E { s with heap:=s.heap.push { cls:=.type "range",data:=.fields #[.int lo t,.int hi u,.int 1 v] },toks:=tk }:=by
 refine wpAny_pyIter_range (IsRange.new ..) (small_one h1 h2 h3 h4) ?_
 have I1:Inv X pins σ H { s with heap:=s.heap.push { cls:=.type "range",data:=.fields #[.int lo t,.int hi u,.int 1 v] },toks:=tk }:=I.kept fun b o e=>Heap.get?_push_of_some _ e
 refine ⟨(s.heap.push { cls:=.type "range",data:=.fields #[.int lo t,.int hi u,.int 1 v] }).objs.size,[(s.heap.push { cls:=.type "range",data:=.fields #[.int lo t,.int hi u,.int 1 v] }).objs.size],_,_,H,rfl,
  I1.kept (t':=tk) fun b o e=>Heap.get?_push_of_some _ e,zi8_ _ lo (hi-lo).toNat,?_,fun b hb=>?_,q⟩
 ·have e1:lo+((0:Nat):Int)*1=lo:=by simp
  have e2:(((hi-lo).toNat:Nat):Int)-((0:Nat):Int)=Builtin.Range.rangeSize lo hi 1:=by rw [rangeSize_one]; split<;>omega
  show IsRangeIter _ _ (lo+((0:Nat):Int)*1) ((((hi-lo).toNat:Nat):Int)-((0:Nat):Int)) 1
  rw [e1,e2]
  exact Heap.get?_push_size _ rfl
 ·have e:b=(s.heap.push { cls:=.type "range",data:=.fields #[.int lo t,.int hi u,.int 1 v] }).objs.size:=by simpa using hb
  subst e
  exact I1.fpOk (Nat.le_refl _) (I1.hok.fresh (Nat.le_refl _))
def tFor (wi:TI)(g:TG)(tb:TS):TS:=fun D σ H=>wi σ H fun J H1=>∃ W:Nat->Nat->St->Hp->Prop,(∃ m,W 0 m σ H1)/\∀ i m σ H,W i m σ H ->
 (J.stop i H/\D.nx σ H)\/(J.go i H/\∃ N:St->Hp->Prop,(∀ ai H',N ai H'->∃ m',m'<m/\W (i+1) m' ai H')/\∀ x H',J.yld i H x H'->g x σ H' fun fN H2=>tb { D with nx:=N,ct:=N,bk:=D.nx } fN H2)
def pinsAt (fp:List Addr)(h:Heap):Pnn:=fp.filterMap fun b=>(h.get? b).map fun o=>(b,o)
theorem zcJ_ {fp:List Addr}{h:Heap}{b:Addr}{o:Obj}(hb:b∈fp)(e:h.get? b=some o):(b,o)∈pinsAt fp h:=List.mem_filterMap.mpr ⟨b,hb,by rw [e]; rfl⟩
theorem zkj_ {fp:List Addr}{h:Heap}{p:Addr×Obj}(hp:p∈pinsAt fp h):p.1∈fp/\h.get? p.1=some p.2:=by
 obtain ⟨b,hb,e⟩:=List.mem_filterMap.mp hp
 cases q:h.get? b with
 | none=>rw [q] at e; cases e
 | some o =>
  rw [q] at e
  have e':(b,o)=p:=Option.some.inj e
  subst e'
  exact ⟨hb,q⟩
theorem Inv.pinned {pins:Pnn}{σ:St}{H:Hp}{s:Shared}{fp:List Addr}(I:Inv X pins σ H s)(hf:∀ b∈fp,FpOk X pins H b)(ho:∀ b∈fp,∃ o,s.heap.get? b=some o/\∀ v,o.data≠.cell v):Inv X (pins++pinsAt fp s.heap) σ H s:=
 I.pins_of fun p hp=>(List.mem_append.mp hp).elim (fun z=>I.pin p (List.mem_append_right _ z)) fun z=>by
  obtain ⟨hb,e⟩:=zkj_ z
  obtain ⟨f0,f1,f2,_⟩:=hf p.1 hb
  obtain ⟨o,e',d⟩:=ho p.1 hb
  rw [e] at e'; cases e'
  exact ⟨e,f0,f1,f2,d⟩
theorem Inv.unpinned {pins pl:Pnn}{σ:St}{H:Hp}{s:Shared}(I:Inv X (pins++pl) σ H s):Inv X pins σ H s:=I.pins_of fun p hp=>I.pin p (List.mem_append_right _ (List.mem_append_left _ hp))
theorem zcg_ {iter:Expr}{body:List Stmt}{wi:TI}{g:TG}{tb:TS}{pos:Pos}(hp:PassesOwn (model X.prog X.w) X.A X.env X.xe)(hc:X.calm=true)(hi:PI X tg iter wi)(hg:PG X tg g)(hb:PSs X body tb)
  (hs:∀ x,foldedSetIterable iter X.env x=pure x:=by intro _; rfl):PS X (.For tg iter body [] pos) (tFor wi g tb):=by
 intro pins s σ H D I h
 refine wpAny_For (thn (hi pins s σ H _ I h) fun v s1 h1=>thn h1 fun iU s2 h2=>?_) hs
 obtain ⟨it,fp,tn,J,H2,e,I2,T,cD,f2,W,⟨m0,w0⟩,turn⟩:=h2
 subst e
 have cb:∀ {H':Hp},(∀ b∈fp,H' b=none)->∀ b∈fp,FpOk X pins H' b:=fun hn b hb=>⟨hn b hb,(f2 b hb).2⟩
 refine codeAny_forLoop_any (fun n s'=>∃ i ai H',Inv X pins ai H' s'/\tn i s'.heap/\(∀ b∈fp,H' b=none)/\W i n ai H') ?_ m0 ⟨0,σ,H2,I2,cD,fun b hb=>(f2 b hb).1,w0⟩
 rintro n s3 ⟨i,cJ,H3,I3,st3,fr3,w3⟩
 rcases turn i n cJ H3 w3 with ⟨stop,qn⟩ | ⟨go,N,hN,step⟩
 ·refine wpAny_passesOwn hp (thn (T.done X rfl rfl rfl hc i pins s3 cJ H3 X.xe I3 (cb fr3) st3 stop) fun r s4 af=>?_)
  obtain ⟨hr,I4⟩:=af
  subst hr
  exact wpAny_execs_nil ⟨cJ,H3,I4,qn⟩
 ·refine wpAny_passesOwn hp (thn (T.item X rfl rfl rfl hc i pins s3 cJ H3 X.xe I3 (cb fr3) st3 go) fun r s4 af=>?_)
  obtain ⟨u,hr,h4⟩:=af
  subst hr
  refine wpAny_passesOwn hp (thn h4 fun _ s5 af=>?_)
  obtain ⟨x,H5,I5,r5,y5,st5,fr5⟩:=af
  have kK:=I5.pinned (cb fr5) (T.obj _ _ st5)
  refine wpAny_passesOwn hp (thn (hg _ s5 cJ H5 x u _ kK r5 (step x H5 y5)) fun _ s6 af=>?_)
  obtain ⟨dv,H6,I6,q6⟩:=af
  refine wpAny_passesOwn hp (thn (hb _ s6 dv H6 _ I6 q6) fun f s7 q7=>?_)
  have again:∀ {cT:St}{H7:Hp},Inv X (pins++pinsAt fp s5.heap) cT H7 s7->N cT H7->∃ m,m<n/\∃ i ai H',Inv X pins ai H' s7/\tn i s7.heap/\(∀ b∈fp,H' b=none)/\W i m ai H':=fun {cT H7} I7 n7=>by
   obtain ⟨m',hm,w7⟩:=hN cT H7 n7
   refine ⟨m',hm,i+1,cT,H7,I7.unpinned,T.keep _ _ _ st5 fun b hb o e=>(I7.pin (b,o) (List.mem_append_right _ (List.mem_append_right _ (zcJ_ hb e)))).1,fun b hb=>?_,w7⟩
   obtain ⟨o,e,d⟩:=T.obj _ _ st5 b hb
   exact (I7.pin (b,o) (List.mem_append_right _ (List.mem_append_right _ (zcJ_ hb e)))).2.1
  cases f with
  | next=>obtain ⟨cT,H7,I7,n7⟩:=q7; exact again I7 n7
  | cont=>obtain ⟨cT,H7,I7,n7⟩:=q7; exact again I7 n7
  | brk=>obtain ⟨cT,H7,I7,q7⟩:=q7; exact ⟨cT,H7,I7.unpinned,q7⟩
  | ret v=>obtain ⟨x7,cT,H7,I7,r7,q7⟩:=q7; exact ⟨x7,cT,H7,I7.unpinned,r7,q7⟩
end
abbrev R2:=V->V->Hp->VK->Prop
def OpR (X:Cx)(f:Value->Value->Sem Value)(r:R2):Prop:=
 ∀ (pins:Pnn) (s:Shared) (σ:St) (H:Hp) (x y:V) (v u:Value) (Q:VK),Inv X pins σ H s->RelV x v->RelV y u->r x y H Q ->
  wpAny (model X.prog X.w) X.A (f v u) (EP X pins σ Q) X.xe s
def UnR (X:Cx)(f:Value->Sem Value)(r:V->Hp->VK->Prop):Prop:=
 ∀ (pins:Pnn) (s:Shared) (σ:St) (H:Hp) (x:V) (v:Value) (Q:VK),Inv X pins σ H s->RelV x v->r x H Q ->
  wpAny (model X.prog X.w) X.A (f v) (EP X pins σ Q) X.xe s
def CallR (X:Cx)(f:Value)(r:List V->Hp->VK->Prop):Prop:=
 ∀ (pins:Pnn) (s:Shared) (σ:St) (H:Hp) (xs:List V) (us:List Value) (Q:VK),Inv X pins σ H s->Vals xs us->r xs H Q ->
  wpAny (model X.prog X.w) X.A (call f us) (EP X pins σ Q) X.xe s
def tOp (r:R2)(ta tb:TE):TE:=fun σ H Q=>ta σ H fun x H1=>tb σ H1 fun y H2=>r x y H2 Q
def rI (C:Int->Int->Prop)(g:Int->Int->V):R2:=fun x y H Q=>∃ i j,x=.int i/\y=.int j/\C i j/\Q (g i j) H
def rI0 (g:Int->Int->V):R2:=fun x y H Q=>∃ i j,x=.int i/\y=.int j/\Q (g i j) H
def rU (g:Int->V):V->Hp->VK->Prop:=fun x H Q=>∃ i,x=.int i/\Q (g i) H
section
variable {X:Cx}{a b:Expr}{ta tb:TE}{pos:Pos}
theorem binT (ha:PE X a ta)(hb:PE X b tb){pins:Pnn}{s:Shared}{σ:St}{H:Hp}{R:V->V->Hp->Prop}(I:Inv X pins σ H s)
  (h:ta σ H fun x H1=>tb σ H1 fun y H2=>R x y H2) {Q:Value->Shared->Prop}{f:Value->Value->Sem Value}
  (hf:∀ v u s2 x y H2,Inv X pins σ H2 s2->RelV x v->RelV y u->R x y H2->wpAny (model X.prog X.w) X.A (f v u) Q X.xe s2):
  wpAny (model X.prog X.w) X.A (eval a X.env) (fun v ag=>wpAny (model X.prog X.w) X.A (eval b X.env) (fun u aH=>wpAny (model X.prog X.w) X.A (f v u) Q X.xe aH) X.xe ag) X.xe s:=by
 refine thn (ha pins s σ H _ I h) fun v s1 af=>?_
 obtain ⟨x,H1,I1,r1,q1⟩:=af
 refine thn (hb pins s1 σ H1 _ I1 q1) fun u s2 af=>?_
 obtain ⟨y,H2,I2,r2,q2⟩:=af
 exact hf v u s2 x y H2 I2 r1 r2 q2
theorem zF_ {op:Operator}{r:R2}(ho:OpR X (binaryOp op) r)(ha:PE X a ta)(hb:PE X b tb):PE X (.BinOp a op b pos) (tOp r ta tb):=by
 intro pins s σ H Q I h
 exact wpAny_BinOp (binT ha hb I h fun v u s2 x y H2 I2 rx ry q=>ho pins s2 σ H2 x y v u Q I2 rx ry q)
theorem opI {f:Value->Value->Sem Value}{C:Int->Int->Prop}{g:Int->Int->Int}
  (rule:∀ (i j:Int) (t u:Tok) (s:Shared) (Q:Value->Shared->Prop) (E:Value->Shared->Prop),C i j->Q (.int (g i j) s.toks) { s with toks:=s.toks+1 }->wpAny (model X.prog X.w) X.A (f (.int i t) (.int j u)) Q E s):
  OpR X f (rI C fun i j=>.int (g i j)):=by
 intro pins s σ H x y v u Q I rx ry h
 obtain ⟨i,j,rfl,rfl,hc,q⟩:=h
 obtain ⟨t,rfl⟩:=rx
 obtain ⟨t',rfl⟩:=ry
 exact rule i j t t' s _ _ hc ⟨.int (g i j),H,I.tok _,⟨_,rfl⟩,q⟩
theorem opI0 {f:Value->Value->Sem Value}{g:Int->Int->Int}
  (rule:∀ (i j:Int) (t u:Tok) (s:Shared) (Q:Value->Shared->Prop) (E:Value->Shared->Prop),Q (.int (g i j) s.toks) { s with toks:=s.toks+1 }->wpAny (model X.prog X.w) X.A (f (.int i t) (.int j u)) Q E s):
  OpR X f (rI0 fun i j=>.int (g i j)):=by
 intro pins s σ H x y v u Q I rx ry h
 obtain ⟨i,j,rfl,rfl,q⟩:=h
 obtain ⟨t,rfl⟩:=rx
 obtain ⟨t',rfl⟩:=ry
 exact rule i j t t' s _ _ ⟨.int (g i j),H,I.tok _,⟨_,rfl⟩,q⟩
theorem opB0 {f:Value->Value->Sem Value}{g:Int->Int->Bool}
  (rule:∀ (i j:Int) (t u:Tok) (s:Shared) (Q:Value->Shared->Prop) (E:Value->Shared->Prop),Q (.bool (g i j)) s->wpAny (model X.prog X.w) X.A (f (.int i t) (.int j u)) Q E s):
  OpR X f (rI0 fun i j=>.bl (g i j)):=by
 intro pins s σ H x y v u Q I rx ry h
 obtain ⟨i,j,rfl,rfl,q⟩:=h
 obtain ⟨t,rfl⟩:=rx
 obtain ⟨t',rfl⟩:=ry
 exact rule i j t t' s _ _ ⟨.bl (g i j),H,I,rfl,q⟩
def CDiv (i j:Int):Prop:=0<j/\j<1073741824
def CPow (i j:Int):Prop:=0<=j/\j<=1000000/\i.natAbs<2 ^ 64
def CMul (i j:Int):Prop:=(-(2 ^ 64)<i/\i<2 ^ 64)\/(-(2 ^ 64)<j/\j<2 ^ 64)
theorem CMul.ok {i j:Int}(h:CMul i j):IntMulOk i j:=by
 rcases h with ⟨h1,h2⟩ | ⟨h1,h2⟩
 ·exact .of_left (intBits_le_64 h1 h2)
 ·exact .of_right (intBits_le_64 h1 h2)
theorem zqS_:OpR X (binaryOp .Add) (rI0 fun i j=>.int (i+j)):=opI0 fun _ _ _ _ _ _ _ q=>add_int q
theorem zp7_:OpR X (binaryOp .Sub) (rI0 fun i j=>.int (i-j)):=opI0 fun _ _ _ _ _ _ _ q=>sub_int q
theorem zqI_:OpR X (binaryOp .Mod) (rI (fun _ j=>0<j) fun i j=>.int (i % j)):=opI fun i j _ _ _ _ _ hc q=>by
 have h1:(0:Int)<j:=hc
 exact mod_int' (by lia) (by rw [Int.fmod_eq_emod_of_nonneg i (by lia)]; exact q)
theorem unI {f:Value->Sem Value}{g:Int->Int}
  (rule:∀ (i:Int) (t:Tok) (s:Shared) (Q:Value->Shared->Prop) (E:Value->Shared->Prop),Q (.int (g i) s.toks) { s with toks:=s.toks+1 }->wpAny (model X.prog X.w) X.A (f (.int i t)) Q E s):
  UnR X f (rU fun i=>.int (g i)):=by
 intro pins s σ H x v Q I rx h
 obtain ⟨i,rfl,q⟩:=h
 obtain ⟨t,rfl⟩:=rx
 exact rule i t s _ _ ⟨.int (g i),H,I.tok _,⟨_,rfl⟩,q⟩
theorem zqF_:UnR X (unaryOp .USub) (rU fun i=>.int (-i)):=unI fun _ _ _ _ _ q=>neg_int q
theorem zks_ {pins:Pnn}{σ:St}{H:Hp}{s:Shared}{Q:VK}{k k':Bool}(I:Inv X pins σ H s)(q:Q (.bl k) H)(e:k=k'):EP X pins σ Q (.bool k') s:=by
 subst e
 exact ⟨.bl k,H,I,rfl,q⟩
theorem op_lt:OpR X (compareOp .Lt) (rI0 fun i j=>.bl (decide (i<j))):=opB0 fun _ _ _ _ _ _ _ q=>lt_int q
theorem op_le:OpR X (compareOp .LtE) (rI0 fun i j=>.bl (decide (i<=j))):=opB0 fun _ _ _ _ _ _ _ q=>le_int q
theorem op_gt:OpR X (compareOp .Gt) (rI0 fun i j=>.bl (decide (j<i))):=opB0 fun _ _ _ _ _ _ _ q=>gt_int q
theorem op_ge:OpR X (compareOp .GtE) (rI0 fun i j=>.bl (decide (j<=i))):=opB0 fun _ _ _ _ _ _ _ q=>ge_int q
theorem zkF_:OpR X (compareOp .In) (fun x y H Q=>∃ i j,x=.str i/\y=.str j/\Q (.bl (!(Builtin.Str.occurrences j i 0 j.length 1).isEmpty)) H):=by
 intro pins s σ H x y v u Q I rx ry h
 obtain ⟨i,j,rfl,rfl,q⟩:=h
 obtain ⟨t,rfl⟩:=rx
 obtain ⟨t',rfl⟩:=ry
 exact in_str (zks_ I q rfl)
theorem zqM_:OpR X (compareOp .Is) (fun x y H Q=>y=.non/\Q (.bl (decide (x=.non))) H):=by
 intro pins s σ H x y v u Q I rx ry h
 obtain ⟨rfl,q⟩:=h
 cases ry
 refine is_none_gen (zks_ I q ?_)
 cases x<;>first
  | (cases rx; rfl)
  | (obtain ⟨t,rfl⟩:=rx; rfl)
theorem zok_:OpR X (compareOp .IsNot) (fun x y H Q=>y=.non/\Q (.bl (!decide (x=.non))) H):=by
 intro pins s σ H x y v u Q I rx ry h
 obtain ⟨rfl,q⟩:=h
 cases ry
 refine isnot_none_gen (zks_ I q ?_)
 cases x<;>first
  | (cases rx; rfl)
  | (obtain ⟨t,rfl⟩:=rx; rfl)
theorem zgZ_:OpR X (compareOp .NotIn) (fun x y H Q=>∃ i j,x=.str i/\y=.str j/\Q (.bl (!(!(Builtin.Str.occurrences j i 0 j.length 1).isEmpty))) H):=by
 intro pins s σ H x y v u Q I rx ry h
 obtain ⟨i,j,rfl,rfl,q⟩:=h
 obtain ⟨t,rfl⟩:=rx
 obtain ⟨t',rfl⟩:=ry
 exact notIn_str (zks_ I q rfl)
theorem znC_ {op:CmpOp}{r:R2}(ho:OpR X (compareOp op) r)(ha:PE X a ta)(hb:PE X b tb)(hm:behindInMarks op b=false):PE X (.Compare a [op] [b] pos) (tOp r ta tb):=by
 intro pins s σ H Q I h
 exact wpAny_Compare1 (binT ha hb I h fun v u s2 x y H2 I2 rx ry q=>ho pins s2 σ H2 x y v u Q I2 rx ry q) hm
theorem line63:(sizeLine:Nat)<2 ^ 63:=by rw [sizeLine_eq]; decide
theorem ziz_:OpR X (binaryOp .Add) (fun x y H Q=>∃ i j,x=.str i/\y=.str j/\i.length+j.length<=sizeLine/\Q (.str (i++j)) H):=by
 intro pins s σ H x y v u Q I rx ry h
 obtain ⟨i,j,rfl,rfl,hz,q⟩:=h
 obtain ⟨t,rfl⟩:=rx
 obtain ⟨t',rfl⟩:=ry
 exact add_str (fun t' tk=>⟨.str (i++j),H,I.tok _,⟨_,rfl⟩,q⟩) hz
theorem vals1 {x:V}{us:List Value}(r:Vals [x] us):∃ u,us=[u]/\RelV x u:=by
 cases r with
 | cons r1 r2=>cases r2; exact ⟨_,rfl,r1⟩
theorem vals2 {x y:V}{us:List Value}(r:Vals [x,y] us):∃ u w',us=[u,w']/\RelV x u/\RelV y w':=by
 cases r with
 | cons r1 r2 =>
  cases r2 with
  | cons r3 r4=>cases r4; exact ⟨_,_,rfl,r1,r3⟩
theorem zkI_ (hc:X.calm=true):CallR X (.builtin "min") (fun xs H Q=>∃ i j,xs=[.int i,.int j]/\Q (.int (if j<i then j else i)) H):=by
 intro pins s σ H xs us Q I r h
 obtain ⟨i,j,rfl,q⟩:=h
 obtain ⟨u,w',rfl,⟨t,rfl⟩,⟨t',rfl⟩⟩:=vals2 r
 refine min_two_ints (I.ok.hd hc) fun h' tk k=>⟨_,H,I.kept k,?_,q⟩
 by_cases hj:j<i
 ·rw [if_pos hj,if_pos hj]; exact ⟨_,rfl⟩
 ·rw [if_neg hj,if_neg hj]; exact ⟨_,rfl⟩
end
structure ObjM (h:Heap)(x dx C:Addr)(mA:Str->Option Value):Prop where
 obj:h.get? x=some (W.instObj C dx)
 ns:h.Ns1 dx mA
 ne:dx≠x
theorem zk7_ {h:Heap}{dx:Addr}{mA:Str->Option Value}(n:h.Ns1 dx mA):∃ od,h.get? dx=some od/\∀ name,W.lookIn name od=some (mA name):=by
 obtain ⟨o,es,ep,ho,hd,hk,_,hm⟩:=n
 refine ⟨o,ho,fun name=>?_⟩
 have e:=hm name
 unfold nsFind findBy at e
 rw [<- Array.find?_toList] at e
 unfold W.lookIn
 rw [hd]
 dsimp only
 split
 ·rename_i y q
  rw [q] at e
  exact congrArg some e
 ·rename_i q
  rw [q] at e
  have a:es.toList.any (·.refKey)=false:=by
   rw [List.any_eq_false]
   intro y hy
   obtain ⟨z,t,hkey⟩:=hk y (Array.mem_toList_iff.mp hy)
   simp [DictEntry.refKey,hkey]
  have a':¬ es.toList.any (·.refKey)=true:=by rw [a]; exact Bool.false_ne_true
  rw [if_neg a']
  exact congrArg some e
theorem ObjM.look {h:Heap}{x dx C:Addr}{mA:Str->Option Value}(I:ObjM h x dx C mA):∃ od,W.InstAt h x (W.instObj C dx) C (some od)/\∀ name,W.lookIn name od=some (mA name):=
 let ⟨od,ho,hl⟩:=zk7_ I.ns
 ⟨od,⟨I.obj,rfl,rfl,ho⟩,hl⟩
section
variable {prog:Program}{w:World}{A:Around}{E:Value->Shared->Prop}{s:Shared}{K:Fgg}{x dx C f:Addr}{mA:Str->Option Value}{name:Str}{v:Value}
theorem zn9_ {expr:Bool}{Q:Value->Shared->Prop}(X:K.In s.heap)(I:ObjM s.heap x dx C mA)(hg:W.plainGet K C name=true)(hh:W.hasDictIn K C=true)
  (ha:W.findIn K (.ref C) name=some none) (hv:mA name=some v) (eB:W.handedIn v=true) (h:Q v { s with toks:=s.toks+1 }):
  wpAny (model prog w) A (getAttr (.ref x) name expr) Q E s:=by
 obtain ⟨od,J,hl⟩:=I.look
 exact W.get_value X J (W.plainGet_of hg).1 (W.findObj_own hh ha rfl (by rw [hl,hv])) eB h
theorem zoz_ {ns:List Str}{Q:Unit->Shared->Prop}(X:K.In s.heap)(I:ObjM s.heap x dx C mA)
  (hs:W.findIn K (.ref C) "__setattr__"=some (some (.builtin "object.__setattr__"))) (hp:W.plainOver K C=true) (ht:W.takerIn K C name=some none) (hh:W.hasDictIn K C=true)
  (hw:PySem.Within mA ns) (hsz:ns.length<=sizeLine)
  (h:∀ h',ObjM h' x dx C (fun y=>if y=name then some v else mA y)->Heap.SameBut dx s.heap h'->Q () { s with heap:=h',toks:=s.toks+2 }):
  wpAny (model prog w) A (setAttr (.ref x) name v) Q E s:=by
 obtain ⟨od,J,hl⟩:=I.look
 refine W.set_plain X J hs (W.osa_open (s:={ s with toks:=s.toks+1 }) (r:=none) X J hp ht fun b=>?_)
 obtain ⟨cd,hc,hd'⟩:=W.any_some hh
 have hx:s.heap.get? x=some ⟨.ref C,some dx,.plain,#[]⟩:=I.obj
 refine wpAny_bind (wpAny_pure (wpAny_bind (wpAny_bind (wpAny_loadPart hx (wpAny_bind (W.Looks.here (s:={ s with toks:=s.toks+1 }) (W.looks_clsIn X hc) ?_))))))
 rw [hd']
 refine wpAny_pure (a:=some dx) (wpAny_bind (wpAny_pure (wpAny_bind ?_)))
 refine wpAny_nsSet1 (s:={ s with toks:=s.toks+1 }) I.ns fun h' cA bE=>?_
 obtain ⟨oD,esD,epD,hoD,hdD,hcD⟩:=cA.count (PySem.Within.cons name v hw)
 refine wpAny_bind (wpAny_lookBehind hoD (by rw [hdD]; exact pastItsLine_dict (Nat.le_trans hcD (by rw [List.length_cons]; lia))) ?_)
 exact wpAny_pure (h _ ⟨(bE.2 _ (Ne.symm I.ne)).trans I.obj,cA,I.ne⟩ bE)
theorem ziB_ {R:Result->Shared->Prop}{vs:List Value}{kw:List (Str×Value)}(X:K.In s.heap)(hm:W.makesIn K C=true)
  (hi:W.findIn K (.ref C) "__init__"=some (some (.ref f))) (hf:W.typeIn K (.ref f)=some (.type "function"))
  (h:codeAny (model prog w) (A.under (.builtin "type.__call__" ⟨.ref C::vs,kw⟩)) (.call (.ref f) ⟨.ref (s.heap.objs.size+1)::vs,kw⟩) (W.InitBack (s.heap.objs.size+1) R)
   { s with heap:=(s.heap.push W.emptyDict).push (W.instObj C s.heap.objs.size) }):
  codeAny (model prog w) A (.call (.ref C) ⟨vs,kw⟩) R s:=by
 obtain ⟨hh,g,d,t,os⟩:=s
 exact W.make_core (W.makes_of X hm) (W.looks_findIn X hi) (fun self=>W.bind_fn X self hf) (.inl rfl) h
end
def putF (f:Str)(v:V):List (Str×V)->List (Str×V)
 | []=>[(f,v)]
 | (g,x)::r=>if g=f then (g,v)::r else (g,x)::putF f v r
theorem zfm_ (f g:Str)(v:V):∀ fs:List (Str×V),(putF f v fs).lookup g=if g=f then some v else fs.lookup g
 | []=>by
  show List.lookup g [(f,v)]=_
  by_cases h:g=f
  ·have hb:(g == f)=true:=beq_iff_eq.mpr h
   simp only [List.lookup,hb,if_pos h]
  ·have hb:(g == f)=false:=beq_eq_false_iff_ne.mpr h
   simp only [List.lookup,hb,if_neg h]
 | (k,x)::r=>by
  have ih:=zfm_ f g v r
  rw [show putF f v ((k,x)::r)=(if k=f then (k,v)::r else (k,x)::putF f v r) from rfl]
  by_cases hk:k=f
  ·rw [if_pos hk]
   by_cases h:g=k
   ·have hb:(g == k)=true:=beq_iff_eq.mpr h
    simp only [List.lookup,hb,if_pos (h.trans hk)]
   ·have hb:(g == k)=false:=beq_eq_false_iff_ne.mpr h
    simp only [List.lookup,hb,if_neg (fun e:g=f=>h (e.trans hk.symm))]
  ·rw [if_neg hk]
   by_cases h:g=k
   ·have hb:(g == k)=true:=beq_iff_eq.mpr h
    simp only [List.lookup,hb,if_neg (fun e:g=f=>hk (h.symm.trans e))]
   ·have hb:(g == k)=false:=beq_eq_false_iff_ne.mpr h
    simp only [List.lookup,hb]
    exact ih
theorem zfG_ (f:Str)(v:V):∀ fs:List (Str×V),f∈(putF f v fs).map (·.1)/\∀ g,g∈fs.map (·.1)->g∈(putF f v fs).map (·.1)
 | []=>⟨by simp [putF],fun g h=>by simp at h⟩
 | (k,x)::r=>by
  obtain ⟨i1,i2⟩:=zfG_ f v r
  rw [show putF f v ((k,x)::r)=(if k=f then (k,v)::r else (k,x)::putF f v r) from rfl]
  by_cases hk:k=f
  ·rw [if_pos hk]
   subst hk
   exact ⟨by simp,fun g h=>by simpa using h⟩
  ·rw [if_neg hk]
   refine ⟨?_,fun g h=>?_⟩
   ·rw [List.map_cons]
    exact List.mem_cons_of_mem _ i1
   ·rw [List.map_cons] at h ⊢
    rcases List.mem_cons.mp h with e | e
    ·exact List.mem_cons.mpr (.inl e)
    ·exact List.mem_cons_of_mem _ (i2 g e)
theorem zeU_ (f:Str)(v:V):∀ fs:List (Str×V),(putF f v fs).length<=fs.length+1
 | []=>by simp [putF]
 | (k,x)::r=>by
  have ih:=zeU_ f v r
  rw [show putF f v ((k,x)::r)=(if k=f then (k,v)::r else (k,x)::putF f v r) from rfl]
  by_cases hk:k=f
  ·rw [if_pos hk,List.length_cons,List.length_cons]; lia
  ·rw [if_neg hk,List.length_cons,List.length_cons]; lia
theorem RelO.some_of {v:V}{o:Option Value}(r:RelO (some v) o):∃ u,o=some u/\RelV v u:=by
 cases o with
 | none=>exact (show False from r).elim
 | some u=>exact ⟨u,rfl,r⟩
theorem zkU_ {v:V}{u:Value}(r:RelV v u):W.handedIn u=true:=by
 cases v with
 | non=>cases (show u=Value.none from r); rfl
 | bl b=>cases (show u=Value.bool b from r); rfl
 | int i=>obtain ⟨t,e⟩:=(show ∃ t,u=Value.int i t from r); cases e; rfl
 | str x=>obtain ⟨t,e⟩:=(show ∃ t,u=Value.str x t from r); cases e; rfl
 | byt b=>obtain ⟨t,e⟩:=(show ∃ t,u=Value.bytes b t from r); cases e; rfl
 | flt b=>obtain ⟨t,e⟩:=(show ∃ t,u=Value.float b t from r); cases e; rfl
 | ref a=>cases (show u=Value.ref a from r); rfl
 | ty n=>cases (show u=Value.type n from r); rfl
section
variable {P:Program}{w:World}{H:Hp}{h:Heap}{a C dx:Addr}{fs:List (Str×V)}
theorem zjT_ (hok:HOk P w H h)(e:H a=some (.ins C dx fs)):∃ mA,ObjM h a dx C mA/\(∀ f,RelO (fs.lookup f) (mA f))/\PySem.Within mA (fs.map (·.1))/\fs.length<=1000/\H dx=some (.own a):=by
 obtain ⟨d,z,ne,ob,mA,n,r,q⟩:=(show ObjOk P w H h a (.ins C dx fs) from hok a _ e)
 exact ⟨mA,⟨ob,n,ne⟩,r,q,z,d⟩
end
structure Cls (K:Fgg)(C:Addr):Prop where
 pg:W.plainGet K C Str.empty=true
 hd:W.hasDictIn K C=true
 po:W.plainOver K C=true
 sa:W.findIn K (.ref C) "__setattr__"=some (some (.builtin "object.__setattr__"))
theorem Cls.get {K:Fgg}{C:Addr}(c:Cls K C)(f:Str):W.plainGet K C f=true:=c.pg
def NoAttr (K:Fgg)(C:Addr)(f:Str):Prop:=W.findIn K (.ref C) f=some none
theorem NoAttr.taker {K:Fgg}{C:Addr}{f:Str}(n:NoAttr K C f):W.takerIn K C f=some none:=by
 unfold W.takerIn
 rw [show W.findIn K (.ref C) f=some none from n]
 rfl
section
variable {X:Cx}{pins:Pnn}{σ:St}{H:Hp}{s:Shared}{a C dx:Addr}{fs:List (Str×V)}{f:Str}{v:V}{A:Around}{E:Value->Shared->Prop}
theorem ziI_ {b:Bool}{Q:Value->Shared->Prop}(I:Inv X pins σ H s)(e:H a=some (.ins C dx fs))(c:Cls X.K C)(n:NoAttr X.K C f)(l:fs.lookup f=some v)
  (h:∀ u s',Inv X pins σ H s'->RelV v u->Q u s'):wpAny (model X.prog X.w) A (getAttr (.ref a) f b) Q E s:=by
 obtain ⟨mA,O,r,_,_,_⟩:=zjT_ I.hok e
 obtain ⟨u,hu,ru⟩:=RelO.some_of (v:=v) (o:=mA f) (by rw [<- l]; exact r f)
 exact zn9_ I.kIn O (c.get f) c.hd n hu (zkU_ ru) (h u _ (I.tok _) ru)
theorem zjF_ {y:V}{u:Value}{Q:Unit->Shared->Prop}(I:Inv X pins σ H s)(e:H a=some (.ins C dx fs))(c:Cls X.K C)(n:NoAttr X.K C f)(hl:fs.length<1000)(ry:RelV y u)
  (h:∀ s',Inv X pins σ (upd H a (.ins C dx (putF f y fs))) s'->Q () s'):wpAny (model X.prog X.w) A (setAttr (.ref a) f u) Q E s:=by
 obtain ⟨mA,O,r,wi,_,ho⟩:=zjT_ I.hok e
 have hz:(fs.map (·.1)).length<=sizeLine:=by rw [List.length_map,sizeLine_eq]; lia
 refine zoz_ I.kIn O c.sa c.po n.taker c.hd wi hz fun h' O' sb=>h _ ?_
 have hd:∃ o,h'.get? dx=some o:=let ⟨o,_,_,e',_⟩:=O'.ns; ⟨o,e'⟩
 refine I.write (x:=a) (e:=dx) (by rw [e]; exact True.intro) (.inr ho) (fun b q hb z=>(sb.2 b hb).trans z) hd ?_
 refine ⟨by rw [zZ_ O.ne]; exact ho,?_,O.ne,O'.obj,_,O'.ns,fun g=>?_,fun g hg=>?_⟩
 ·have:=zeU_ f y fs; lia
 ·show RelO ((putF f y fs).lookup g) (if g=f then some u else mA g)
  rw [zfm_]
  by_cases q:g=f
  ·rw [if_pos q,if_pos q]; exact ry
  ·rw [if_neg q,if_neg q]; exact r g
 ·by_cases q:g=f
  ·rw [q]; exact (zfG_ f y fs).1
  ·refine (zfG_ f y fs).2 g (wi g fun z=>hg ?_)
   show (if g=f then some u else mA g)=none
   rw [if_neg q]; exact z
theorem Inv.made (I:Inv X pins σ H s):Inv X pins σ (upd (upd H s.heap.objs.size (.own (s.heap.objs.size+1))) (s.heap.objs.size+1) (.ins C s.heap.objs.size []))
  { s with heap:=(s.heap.push W.emptyDict).push (W.instObj C s.heap.objs.size) }:=by
 have e1:(s.heap.push W.emptyDict).get? s.heap.objs.size=some W.emptyDict:=Heap.get?_push_size s.heap rfl
 have e2:((s.heap.push W.emptyDict).push (W.instObj C s.heap.objs.size)).get? (s.heap.objs.size+1)=some (W.instObj C s.heap.objs.size):=by
  have:=Heap.get?_push_size (s.heap.push W.emptyDict) (o:=W.instObj C s.heap.objs.size) rfl
  rwa [Heap.size_push] at this
 have e3:(s.heap.push W.emptyDict).Ns s.heap.objs.size (fun _=>none):=⟨W.emptyDict,#[],_,e1,rfl,(fun e he=>absurd he (by simp)),fun _=>rfl⟩
 have I1:=I.laid (a:=s.heap.objs.size) (o:=.own (s.heap.objs.size+1)) (h':=s.heap.push W.emptyDict) (t':=s.toks) (fun b u q=>Heap.get?_push_of_some _ q) (Nat.le_refl _) ⟨_,e1⟩
 refine I1.laid (a:=s.heap.objs.size+1) (o:=.ins C s.heap.objs.size []) (t':=s.toks) (fun b u q=>Heap.get?_push_of_some _ q) (Nat.le_of_eq (Heap.size_push _ _)) ?_
 have ne:s.heap.objs.size≠s.heap.objs.size+1:=Nat.ne_of_lt (Nat.lt_succ_self _)
 refine ⟨by rw [zZ_ ne,zD_],Nat.zero_le _,ne,e2,fun _=>none,(Heap.Ns1.of_empty e3).at fun o q=>Heap.get?_push_of_some _ q,fun _=>True.intro,fun y hy=>absurd rfl hy⟩
theorem znN_ {prog:Program}{w:World}{env:Env}{e:Expr}{f:Str}{pos:Pos}{s:Shared}{Q:Value->Shared->Prop}(hb:attributeBase e f env (eval e env)=eval e env)
  (h:wpAny (model prog w) A (eval e env) (fun o ag=>wpAny (model prog w) A (getAttr o f true) Q E ag) E s):wpAny (model prog w) A (eval (.Attribute e f pos) env) Q E s:=
 Attribute_any_ h (by rw [arm_eval_Attribute,hb])
end
section
variable {X:Cx}{pins:Pnn}{σ:St}{H:Hp}{s:Shared}{A:Around}{E Q:Value->Shared->Prop}{c:Value}{b:Bool}
inductive TyOf (K:Fgg) (H:Hp):V->Value->Prop where
 | non:TyOf K H .non (.type "NoneType")
 | bl (x:Bool):TyOf K H (.bl x) (.type "bool")
 | int (i:Int):TyOf K H (.int i) (.type "int")
 | str (x:Str):TyOf K H (.str x) (.type "str")
 | flt (x:UInt64):TyOf K H (.flt x) (.type "float")
 | lst {a:Addr}{xs:List V}(e:H a=some (.lst xs)):TyOf K H (.ref a) (.type "list")
 | frz {a:Addr}{o:Obj}{xs:List V}(e:H a=some (.frz o (.lst xs))):TyOf K H (.ref a) (.type "list")
 | tup {a:Addr}{xs:List V}(e:H a=some (.tup xs)):TyOf K H (.ref a) (.type "tuple")
 | dK {a:Addr}{kvs:List (Key×V)}(e:H a=some (.dK kvs)):TyOf K H (.ref a) (.type "dict")
 | dT {a:Addr}{kvs:List (List Key×V)}(e:H a=some (.dT kvs)):TyOf K H (.ref a) (.type "dict")
 | ins {a C dx:Addr}{fs:List (Str×V)}(e:H a=some (.ins C dx fs)) (cl:Cls K C) (ha:W.findIn K (.ref C) "__class__"=some (some (.builtin "object.__class__")))
   (hn:W.specialIn K (.builtin "object.__class__") "__get__"=some (some (.builtin "getset_descriptor.__get__"))) (lu:W.takesIn K (.builtin "object.__class__")=some true)
   (hm:W.mroIn K C (.type "object")=some true):TyOf K H (.ref a) (.ref C)
theorem zkB_ {x:V}{u t:Value}(I:Inv X pins σ H s)(rx:RelV x u)(ty:TyOf X.K H x t)(e:W.kitOne X.K t c=some b)(h:∀ tk,Q (.bool b) { s with toks:=tk }):
  wpAny (model X.prog X.w) A (call (.builtin "isinstance") [u,c]) Q E s:=by
 cases ty with
 | non=>cases (show u=Value.none from rx); exact W.kia_one W.kitx_none I.kIn True.intro e (fun z=>nomatch z) h
 | bl y=>cases (show u=Value.bool y from rx); exact W.kia_one W.kitx_bool I.kIn True.intro e (fun z=>nomatch z) h
 | int i=>obtain ⟨t,q⟩:=(show ∃ t,u=Value.int i t from rx); cases q; exact W.kia_one W.kitx_int I.kIn True.intro e (fun z=>nomatch z) h
 | str y=>obtain ⟨t,q⟩:=(show ∃ t,u=Value.str y t from rx); cases q; exact W.kia_one W.kitx_str I.kIn True.intro e (fun z=>nomatch z) h
 | flt y=>obtain ⟨t,q⟩:=(show ∃ t,u=Value.float y t from rx); cases q; exact W.kia_one W.kitx_float I.kIn True.intro e (fun z=>nomatch z) h
 | @lst a xs ea =>
  cases (show u=Value.ref a from rx)
  obtain ⟨_,_,n,_,h1⟩:=(show ObjOk X.prog X.w H s.heap a (.lst xs) from I.hok a _ ea)
  exact W.kia_one W.kitx_list I.kIn ⟨_,h1,rfl⟩ e (fun z=>nomatch z) h
 | @frz a ob xs ea =>
  cases (show u=Value.ref a from rx)
  obtain ⟨_,_,_,n,_,h1⟩:=(show ObjOk X.prog X.w H s.heap a (.frz ob (.lst xs)) from I.hok a _ ea)
  exact W.kia_one W.kitx_list I.kIn ⟨_,h1,rfl⟩ e (fun z=>nomatch z) h
 | @tup a xs ea =>
  cases (show u=Value.ref a from rx)
  obtain ⟨_,_,_,p⟩:=(show ObjOk X.prog X.w H s.heap a (.tup xs) from I.hok a _ ea)
  obtain ⟨o,h1,h2,_⟩:=p
  exact W.kia_one W.kitx_tuple I.kIn ⟨o,h1,h2⟩ e (fun z=>nomatch z) h
 | @dK a kvs ea =>
  cases (show u=Value.ref a from rx)
  obtain ⟨_,_,vs,_,p⟩:=(show ObjOk X.prog X.w H s.heap a (.dK kvs) from I.hok a _ ea)
  obtain ⟨o,es,ep,h1,h2,_⟩:=p
  exact W.kia_one W.kitx_dict I.kIn ⟨o,h1,h2.1⟩ e (fun z=>nomatch z) h
 | @dT a kvs ea =>
  cases (show u=Value.ref a from rx)
  obtain ⟨_,_,xs,_,o,es,ep,h1,h2,_⟩:=(show ObjOk X.prog X.w H s.heap a (.dT kvs) from I.hok a _ ea)
  exact W.kia_one W.kitx_dict I.kIn ⟨o,h1,h2.1⟩ e (fun z=>nomatch z) h
 | @ins a C dx fs ea cl ha hn lu hm =>
  cases (show u=Value.ref a from rx)
  obtain ⟨mA,O,_⟩:=zjT_ I.hok ea
  obtain ⟨od,J,_⟩:=O.look
  exact W.kia_one (W.kitx_own (cl.get _) cl.hd ha hn lu hm) I.kIn J e (fun z=>nomatch z) h
end
structure Room (k:Nat)(A:Around):Prop where
 hd:A.handled=none
 dp:A.depth+3*k+5<recursionLimit
 un:A.units+16*k+200<cLine
theorem Room.mono {j k:Nat}{A:Around}(r:Room k A)(h:j<=k):Room j A:=⟨r.hd,by have:=r.dp; lia,by have:=r.un; lia⟩
theorem Room.deeper {k:Nat}{A:Around}(r:Room (k+1) A)(env:Env):Room k (A.deeper env):=
 ⟨r.hd,by have:=r.dp; show A.depth+1+3*k+5<_; lia,by have:=r.un; show A.units+3+16*k+200<_; lia⟩
theorem zjm_ {A:Around}{C:Addr}{us:List Value}{kw:List (Str×Value)}:(A.under (.builtin "type.__call__" ⟨.ref C::us,kw⟩)).depth=A.depth+1:=by
 first | rfl | simp [Around.under,Code.weight,Code.isCreation,Code.isGuard,Code.isCaller,Code.frames,Code.isFrame,guardIds]
theorem zix_ {A:Around}{C:Addr}{us:List Value}{kw:List (Str×Value)}:(A.under (.builtin "type.__call__" ⟨.ref C::us,kw⟩)).units=A.units+1:=by
 first | rfl | simp [Around.under,Code.cUnits,Code.frames,Code.isFrame]
theorem Room.make {k:Nat}{A:Around}(r:Room (k+1) A)(C:Addr)(us:List Value)(kw:List (Str×Value)):Room k (A.under (.builtin "type.__call__" ⟨.ref C::us,kw⟩)):=
 ⟨r.hd,by have:=r.dp; rw [zjm_]; lia,by have:=r.un; rw [zix_]; lia⟩
theorem Room.depth {k:Nat}{A:Around}(r:Room k A):A.depth<recursionLimit:=by have:=r.dp; lia
theorem Room.units {k:Nat}{A:Around}(r:Room k A):A.units+64<cLine:=by have:=r.un; lia
def tNil:TA:=fun _ H Q=>Q [] H
def tCons (ta:TE)(tr:TA):TA:=fun σ H Q=>ta σ H fun x H1=>tr σ H1 fun xs H2=>Q (x::xs) H2
section
variable {X:Cx}{e:Expr}{es:List Expr}{te:TE}{t:TA}{pos:Pos}
theorem zh_:PA X [] tNil:=fun _ _ _ _ H Q I h=>Calls.spliced_nil ⟨[],H,I,.nil,h⟩
theorem zb_ (ha:PE X e te)(hr:PA X es t)(hs:starEach (e::es) X.env=(false,eval e X.env)::starEach es X.env:=by rfl):PA X (e::es) (tCons te t):=by
 intro pos pins s σ H Q I h
 rw [hs]
 show wpAny _ _ (spliced ((false,eval e X.env)::backTo pos (starEach es X.env))) _ _ s
 refine Calls.spliced_cons (thn (ha pins s σ H _ I h) fun u s1 af=>?_)
 obtain ⟨x,H1,I1,r1,q1⟩:=af
 exact thn (hr pos pins s1 σ H1 _ I1 q1) fun us s2 ⟨xs,H2,I2,r2,q2⟩=>⟨x::xs,H2,I2,.cons r1 r2,q2⟩
def tTup (t:TA):TE:=fun σ H Q=>t σ H fun xs H1=>xs.length<=sizeLine/\∀ p,H1 p=none->Q (.ref p) (upd H1 p (.tup xs))
def tLst (t:TA):TE:=fun σ H Q=>t σ H fun xs H1=>xs.length<=sizeLine/\∀ p,H1 p=none->Q (.ref p) (upd H1 p (.lst xs))
theorem zbO_ {x1}(h:PA X es t):PE X (.Tuple es x1 pos) (tTup t):=by
 intro pins s σ H Q I hq
 refine wpAny_Tuple_spliced (thn (h pos pins s σ H _ I hq) fun us s1 ⟨xs,H1,I1,r,z,q⟩=>⟨by rw [<- r.length]; exact z,?_⟩)
 have hf:H1 s1.heap.objs.size=none:=I1.hok.fresh (Nat.le_refl _)
 refine ⟨.ref s1.heap.objs.size,upd H1 s1.heap.objs.size (.tup xs),I1.laid (t':=s1.toks) (fun b u e=>Heap.get?_push_of_some _ e) (Nat.le_refl _) ?_,rfl,q _ hf⟩
 exact ⟨z,us,r,⟨_,Heap.get?_push_size _ rfl,rfl,_,rfl⟩⟩
theorem zS_ (h:PA X es t):PE X (.List es pos) (tLst t):=by
 intro pins s σ H Q I hq
 refine wpAny_List_spliced (thn (h pos pins s σ H _ I hq) fun us s1 ⟨xs,H1,I1,r,z,q⟩=>⟨by rw [<- r.length]; exact z,?_⟩)
 have hf:H1 s1.heap.objs.size=none:=I1.hok.fresh (Nat.le_refl _)
 refine ⟨.ref s1.heap.objs.size,upd H1 s1.heap.objs.size (.lst xs),I1.laid (t':=s1.toks) (fun b u e=>Heap.get?_push_of_some _ e) (Nat.le_refl _) ?_,rfl,q _ hf⟩
 exact ⟨z,us,0,r,Heap.get?_push_size _ rfl⟩
end
abbrev Sp:=List V->Hp->VK->XK->Prop
abbrev CXT:=List Env->Hp->Shared->XK->Value->Shared->Prop
structure Env0 (P:Program)(w:World)(K:Fgg)(mg:Str->Option Value)(base:Heap)(A:Around)(outer:List Env)(s:Shared)(H:Hp):Prop where
 frames:A.frames=some outer
 mod:Mod K mg base
 bs:∀ b o,base.get? b=some o->s.heap.get? b=some o/\H b=none
 bsz:base.objs.size<=s.heap.objs.size
 funs:s.heap.FunFrames base outer
 frf:∀ b∈frs outer,H b=none
 hok:HOk P w H s.heap
 bare:AllBare s.gens
def CE (outer:List Env)(P:Program)(w:World)(H:Hp)(s:Shared)(Q:VK)(u:Value)(s':Shared):Prop:=
 ∃ v H',s'.os=s.os/\AllBare s'.gens/\Un (frs outer) [] H H' s.heap s'.heap/\HOk P w H' s'.heap/\RelV v u/\Q v H'
def CR (CX:CXT)(outer:List Env)(P:Program)(w:World)(H:Hp)(s:Shared)(Q:VK)(E:XK)(r:Result)(s':Shared):Prop:=
 match r with
 | .ok (.ret u)=>CE outer P w H s Q u s'
 | .ok _=>False
 | .error e=>CX outer H s E e s'
structure FnOk (P:Program)(w:World)(K:Fgg)(mg:Str->Option Value)(base:Heap)(CX:CXT)(k:Nat)(f:Addr)(fd:FuncData)(ps:List Str)(sp:Sp):Prop where
 len:∀ vs H Q E,sp vs H Q E->vs.length=ps.length
 run:∀ (A:Around) (outer:List Env) (s:Shared) (H:Hp) (args:Args) (us:List Value) (vs:List V) (Q:VK) (E:XK),Room k A->Env0 P w K mg base A outer s H->BindsTo s fd args (ps.zip us)->Vals vs us->sp vs H Q E ->
  codeAny (model P w) A (.call (.ref f) args) (CR CX outer P w H s Q E) s
theorem Env0.make {P:Program}{w:World}{K:Fgg}{mg:Str->Option Value}{base:Heap}{A:Around}{outer:List Env}{s:Shared}{H:Hp}(e:Env0 P w K mg base A outer s H)(C:Addr)(us:List Value)(kw:List (Str×Value)):
  Env0 P w K mg base (A.under (.builtin "type.__call__" ⟨.ref C::us,kw⟩)) outer s H:=⟨by first | exact e.frames | (simpa [Around.under,Code.envs,Code.isFrame,pushEnvs] using e.frames),e.mod,e.bs,e.bsz,e.funs,e.frf,e.hok,e.bare⟩
section
variable {X:Cx}{pins:Pnn}{σ:St}{H:Hp}{s s':Shared}
theorem Inv.env0 (I:Inv X pins σ H s):Env0 X.prog X.w X.K X.mg X.base X.A X.stack s H:=
 ⟨I.ok.frames,I.ok.mod,I.bs,Nat.le_trans I.ok.bsz I.sz,I.stack,I.stkFree,I.hok,I.bare⟩
theorem Inv.after {Q:VK}{u:Value}(I:Inv X pins σ H s)(h:CE X.stack X.prog X.w H s Q u s'):EP X pins σ Q u s':=by
 obtain ⟨v,H',os,bare,un,hok,r,q⟩:=h
 obtain ⟨hh,g,d,t,os'⟩:=s'
 obtain rfl:os'=s.os:=os
 exact ⟨v,H',I.call (h':=hh) (g':=g) (d':=d) (t':=t) (ch:=[]) un hok bare (fun b z=>absurd z (by simp)),r,q⟩
end
def tCall (sp:Sp)(ar:List V)(E:XK)(t:TA):TE:=fun σ H Q=>t σ H fun vs H1=>sp (vs++ar) H1 Q E
def tMake (C:Addr)(sp:Sp)(ar:List V)(E:XK)(t:TA):TE:=fun σ H Q=>t σ H fun vs H1=>∀ x dx,H1 x=none->H1 dx=none->dx≠x ->
 sp (.ref x::(vs++ar)) (upd (upd H1 dx (.own x)) x (.ins C dx [])) (fun v H2=>v=.non/\Q (.ref x) H2) E
def Binds (K:Fgg)(fd:FuncData)(ps:List Str)(ds:List Value):Prop:=
 ∀ (s:Shared) (us:List Value),K.In s.heap->(us++ds).length=ps.length->BindsTo s fd ⟨us,[]⟩ (ps.zip (us++ds))
theorem Binds.all {K:Fgg}{fd:FuncData}{ps:List Str}(h:∀ us:List Value,us.length=ps.length->bindArgs fd ⟨us,[]⟩=pure (ps.zip us)):Binds K fd ps []:=fun s us _ hl=>by
 rw [List.append_nil] at hl ⊢
 exact .of_eq (h us hl)
def Passes (CX:CXT)(X:Cx)(E:XK):Prop:=∀ (pins:Pnn) (σ:St) (H:Hp) (s:Shared) (e:Value) (s':Shared),Inv X pins σ H s->CX X.stack H s E e s'->X.xe e s'
section
variable {X:Cx}{CX:CXT}{k:Nat}{f C:Addr}{fd:FuncData}{ps:List Str}{sp:Sp}{ar:List V}{ds:List Value}{E:XK}{x:Str}{p pos:Pos}{e:Expr}{es:List Expr}{t:TA}
theorem zqH_ {pins:Pnn}{σ:St}{H:Hp}{s:Shared}{Q:VK}{us:List Value}{vs:List V}(F:FnOk X.prog X.w X.K X.mg X.base CX k f fd ps sp)(hr:Room k X.A)(hb:Binds X.K fd ps ds)(hd:Vals ar ds)(hx:Passes CX X E)
  (I:Inv X pins σ H s) (r:Vals vs us) (h:sp (vs++ar) H Q E):wpAny (model X.prog X.w) X.A (call (.ref f) us) (EP X pins σ Q) X.xe s:=by
 have r2:Vals (vs++ar) (us++ds):=r.append hd
 have hl:(us++ds).length=ps.length:=by rw [<- r2.length]; exact F.len _ _ _ _ h
 refine wpAny_call (codeAny_mono (F.run X.A X.stack s H ⟨us,[]⟩ (us++ds) (vs++ar) Q E hr I.env0 (hb s us I.kIn hl) r2 h) fun r s' hq=>?_)
 cases r with
 | error e=>exact hx pins σ H s e s' I hq
 | ok fl =>
  cases fl with
  | ret u=>exact I.after hq
  | next=>exact False.elim hq
  | brk=>exact False.elim hq
  | cont=>exact False.elim hq
theorem zlp_ (F:FnOk X.prog X.w X.K X.mg X.base CX k f fd ps sp)(hr:Room k X.A)(hg:Gl X x)(hm:X.mg x=some (.ref f))(hk:W.keepIn X.K (.ref f)=true)(hb:Binds X.K fd ps ds)(hd:Vals ar ds)(hx:Passes CX X E)
  (ha:PA X (e::es) t) (bp:(x==("__debug__":Str))=false:=by decide) (he:starEach (e::es) X.env=(false,eval e X.env)::starEach es X.env:=by rfl) (aB:(backTo pos (starEach es X.env)).any (·.1)=false:=by rfl):
  PE X (.Call (.Name x p) (e::es) [] pos) (tCall sp ar E t):=by
 intro pins s σ H Q I h
 refine wpAny_Call_Name_kw (zgq_ I hg hm ?_ bp)
 refine W.callWith_K (h₀:=X.base) I.ok.mod.kin hk (thn (ha pos pins s σ H _ I h) fun us s1 ⟨vs,H1,I1,r,q⟩=>⟨I1.kIn,?_⟩) he aB
 exact zqH_ F hr hb hd hx I1 r q
structure Mk (K:Fgg)(C f:Addr):Prop where
 makes:W.makesIn K C=true
 init:W.findIn K (.ref C) "__init__"=some (some (.ref f))
 fn:W.isFn K (.ref f)=true
 kp:W.keepIn K (.ref C)=true
theorem zmt_ {pins:Pnn}{σ:St}{H:Hp}{s:Shared}{Q:VK}{us:List Value}{vs:List V}(M:Mk X.K C f)(F:FnOk X.prog X.w X.K X.mg X.base CX k f fd ps sp)(hr:Room (k+1) X.A)(hb:Binds X.K fd ps ds)(hd:Vals ar ds)
  (hx:Passes CX X E) (I:Inv X pins σ H s) (r:Vals vs us)
  (h:∀ x dx,H x=none->H dx=none->dx≠x->sp (.ref x::(vs++ar)) (upd (upd H dx (.own x)) x (.ins C dx [])) (fun v H2=>v=.non/\Q (.ref x) H2) E):
  wpAny (model X.prog X.w) X.A (call (.ref C) us) (EP X pins σ Q) X.xe s:=by
 have hq:=h (s.heap.objs.size+1) s.heap.objs.size (I.hok.fresh (Nat.le_succ _)) (I.hok.fresh (Nat.le_refl _)) (Nat.ne_of_lt (Nat.lt_succ_self _))
 have I2:=Inv.made (C:=C) I
 have r2:Vals (V.ref (s.heap.objs.size+1)::(vs++ar)) (Value.ref (s.heap.objs.size+1)::(us++ds)):=.cons rfl (r.append hd)
 have hl:(Value.ref (s.heap.objs.size+1)::us++ds).length=ps.length:=by
  have e:=r2.length
  rw [F.len _ _ _ _ hq] at e
  exact e.symm
 refine wpAny_call (ziB_ (f:=f) I.kIn M.makes M.init (beq_iff_eq.mp M.fn) (codeAny_mono (F.run _ X.stack _ _ ⟨Value.ref (s.heap.objs.size+1)::us,[]⟩ (Value.ref (s.heap.objs.size+1)::(us++ds)) _ _ E (hr.make C us [])
  (I2.env0.make C us []) (hb _ (Value.ref (s.heap.objs.size+1)::us) I2.kIn hl) r2 hq) fun r s' cz=>?_))
 cases r with
 | error e=>exact hx pins σ _ _ e s' I2 cz
 | ok fl =>
  cases fl with
  | ret u =>
   obtain ⟨v,H',I3,rv,ev,q3⟩:=I2.after cz
   subst ev
   exact ⟨rv,⟨V.ref (s.heap.objs.size+1),H',I3,rfl,q3⟩⟩
  | next=>exact False.elim cz
  | brk=>exact False.elim cz
  | cont=>exact False.elim cz
theorem zo2_ (M:Mk X.K C f)(F:FnOk X.prog X.w X.K X.mg X.base CX k f fd ps sp)(hr:Room (k+1) X.A)(hg:Gl X x)(hm:X.mg x=some (.ref C))(hb:Binds X.K fd ps ds)(hd:Vals ar ds)(hx:Passes CX X E)
  (ha:PA X (e::es) t) (bp:(x==("__debug__":Str))=false:=by decide) (he:starEach (e::es) X.env=(false,eval e X.env)::starEach es X.env:=by rfl) (aB:(backTo pos (starEach es X.env)).any (·.1)=false:=by rfl):
  PE X (.Call (.Name x p) (e::es) [] pos) (tMake C sp ar E t):=by
 intro pins s σ H Q I h
 refine wpAny_Call_Name_kw (zgq_ I hg hm ?_ bp)
 refine W.callWith_K (h₀:=X.base) I.ok.mod.kin M.kp (thn (ha pos pins s σ H _ I h) fun us s1 ⟨vs,H1,I1,r,q⟩=>⟨I1.kIn,?_⟩) he aB
 exact zmt_ M F hr hb hd hx I1 r q
end
def PK (X:Cx)(c_:List Keyword)(t:TA):Prop:=
 ∀ (pos:Pos) (pins:Pnn) (s:Shared) (σ:St) (H:Hp) (Q:List V->Hp->Prop),Inv X pins σ H s->t σ H Q->wpAny (model X.prog X.w) X.A (evalAll ((backToKw pos (keywordEach c_ X.env)).map (·.2))) (AP X pins σ Q) X.xe s
section
variable {X:Cx}{x:Str}{pos jy:Pos}{e:Expr}{c_:List Keyword}{te:TE}{t:TA}{nm:Option Str}
theorem zqY_:PK X [] tNil:=fun _ _ _ _ H Q I h=>wpAny_evalAll_nil ⟨[],H,I,.nil,h⟩
theorem zjf_ (ha:PE X e te)(hr:PK X c_ t):PK X (⟨nm,e,jy⟩::c_) (tCons te t):=by
 intro pos pins s σ H Q I h
 show wpAny _ _ (evalAll ((do let v <- eval e X.env; standAt pos; pure v)::(backToKw pos (keywordEach c_ X.env)).map (·.2))) _ _ s
 refine wpAny_evalAll_cons (wpAny_bind (thn (ha pins s σ H _ I h) fun u s1 ⟨x,H1,I1,r1,q1⟩=>wpAny_bind (wpAny_standAt (wpAny_pure ?_))))
 exact thn (hr pos pins s1 σ H1 _ I1 q1) fun us s2 ⟨xs,H2,I2,r2,q2⟩=>⟨x::xs,H2,I2,.cons r1 r2,q2⟩
end
structure FnScope (N P:List Str)(sc:Scope):Prop where
 kind:sc.kind=.function
 co:sc.isCoroutine=false
 gen:sc.isGenerator=false
 nd:N.Nodup
 pre:N.take P.length=P
 par:∀ x∈P,sc.names.lookup x=some .local\/sc.names.lookup x=some .cell
 nofree:∀ y∈sc.names,y.2≠.free
theorem zhG_ {kindOf:Str->Option NameKind}{x:Str}:∀ {binds:List (Str×Value)}{m:Str->Option Value},(∀ v,(x,v)∉binds)->bindL kindOf binds m x=m x
 | [],_,_=>rfl
 | (n,v)::r,m,h=>by
  unfold bindL
  rw [zhG_ fun w hw=>h w (List.mem_cons_of_mem _ hw)]
  split
  ·have:x≠n:=by rintro rfl; exact h v List.mem_cons_self
   simp [this]
  ·rfl
theorem zhn_ {kindOf:Str->Option NameKind}{x:Str}:∀ {binds:List (Str×Value)}{m:Str->Option Value},(∀ v,(x,v)∉binds)->bindC kindOf binds m x=m x
 | [],_,_=>rfl
 | (n,v)::r,m,h=>by
  unfold bindC
  rw [zhn_ fun w hw=>h w (List.mem_cons_of_mem _ hw)]
  split
  ·rfl
  ·have:x≠n:=by rintro rfl; exact h v List.mem_cons_self
   simp [this]
theorem zhR_ {kindOf:Str->Option NameKind}{x:Str}{v:Value}:∀ {P:List Str}{vs:List Value}{i:Nat}{m:Str->Option Value},P.Nodup->P[i]?=some x->vs[i]?=some v->kindOf x=some .local ->
  bindL kindOf (P.zip vs) m x=some v
 | [],_,_,_,_,h,_,_=>by simp at h
 | _::_,[],_,_,_,_,h,_=>by simp at h
 | p::P,w::vs,0,m,nd,h1,h2,hk=>by
  simp at h1 h2; subst h1; subst h2
  show bindL kindOf ((p,w)::P.zip vs) m p=_
  unfold bindL
  rw [zhG_ fun v hv=>(List.nodup_cons.mp nd).1 (List.of_mem_zip hv).1,if_pos hk]
  simp
 | p::P,w::vs,i+1,m,nd,h1,h2,hk=>by
  show bindL kindOf ((p,w)::P.zip vs) m x=_
  unfold bindL
  exact zhR_ (i:=i) (List.nodup_cons.mp nd).2 (by simpa using h1) (by simpa using h2) hk
theorem zhW_ {kindOf:Str->Option NameKind}{x:Str}{v:Value}:∀ {P:List Str}{vs:List Value}{i:Nat}{m:Str->Option Value},P.Nodup->P[i]?=some x->vs[i]?=some v->kindOf x≠some .local ->
  bindC kindOf (P.zip vs) m x=some v
 | [],_,_,_,_,h,_,_=>by simp at h
 | _::_,[],_,_,_,_,h,_=>by simp at h
 | p::P,w::vs,0,m,nd,h1,h2,hk=>by
  simp at h1 h2; subst h1; subst h2
  show bindC kindOf ((p,w)::P.zip vs) m p=_
  unfold bindC
  rw [zhn_ fun v hv=>(List.nodup_cons.mp nd).1 (List.of_mem_zip hv).1,if_neg hk]
  simp
 | p::P,w::vs,i+1,m,nd,h1,h2,hk=>by
  show bindC kindOf ((p,w)::P.zip vs) m x=_
  unfold bindC
  exact zhW_ (i:=i) (List.nodup_cons.mp nd).2 (by simpa using h1) (by simpa using h2) hk
def start (N:List Str)(vs:List V):St:=vs.map some++List.replicate (N.length-vs.length) none
def cxOf (CX:CXT)(P:Program)(w:World)(K:Fgg)(mg:Str->Option Value)(base:Heap)(N:List Str)(qual:Str)(scope:Scope)(f:Addr)(cd:Value)(A:Around)(outer:List Env)(s:Shared)(H:Hp)(E:XK):Cx where
 prog:=P
 w:=w
 K:=K
 mg:=mg
 base:=base
 A:=A.deeper (envOfC qual scope s.heap.objs.size f cd)
 N:=N
 s₀:=s
 H₀:=H
 env:=envOfC qual scope s.heap.objs.size f cd
 outer:=outer
 stack:=envOfC qual scope s.heap.objs.size f cd::outer
 ex:=[]
 calm:=true
 fn:=fun _=>true
 pn:=[]
 xe:=fun e s'=>wpAny (model P w) (A.deeper (envOfC qual scope s.heap.objs.size f cd)) (leaving (envOfC qual scope s.heap.objs.size f cd) e) (fun _ eN=>CX outer H s E e eN) (fun e' eN=>CX outer H s E e' eN) s'
theorem zjP_ {sc:Scope}{n:Nat}{x:Str}(h:sc.names.lookup x=some .cell):∃ c,(cellsFrom n sc.names []).lookup x=some c:=by
 have q:=W.cellsFrom_some sc.names n [] (.inl h)
 exact Option.isSome_iff_exists.mp q
theorem zk0_ {CX:CXT}{P:Program}{w:World}{K:Fgg}{mg:Str->Option Value}{base:Heap}{N ps:List Str}{qual:Str}{scope:Scope}{f:Addr}{cd:Value}{A:Around}{outer:List Env}{s s1:Shared}{H:Hp}{E:XK}{us:List Value}{vs:List V}
  (S:FnScope N ps scope) (hd:A.handled=none) (e0:Env0 P w K mg base A outer s H) (hl:vs.length=ps.length) (r:Vals vs us)
  (x:InCallC s s.heap.objs.size (bindL (envOfC qual scope s.heap.objs.size f cd).kindOf (ps.zip us) fun _=>none) (cellsFrom (s.heap.objs.size+1) scope.names []) (bindC (envOfC qual scope s.heap.objs.size f cd).kindOf (ps.zip us) fun _=>none) s1):
  Inv (cxOf CX P w K mg base N qual scope f cd A outer s H E) [] (start N vs) H s1:=by
 have aB:ps.length<=N.length:=by have:=congrArg List.length S.pre; rw [List.length_take] at this; lia
 obtain ⟨h1,tk,rfl,hk⟩:=x.done
 have gB:∀ b:Addr,b∉(cxOf CX P w K mg base N qual scope f cd A outer s H E).ex:=fun b z=>absurd (show b∈([]:List Addr) from z) (by simp)
 refine ⟨⟨e0.mod,S.kind,rfl,rfl,Nat.le_refl _,fun y z c h1 h2=>?_,fun y hy=>?_,fun y c _ h=>?_,fun _=>hd,Around.frames_deeper e0.frames,.inr ⟨rfl,rfl⟩,fun b z=>absurd z (gB b),e0.bs,e0.bsz,fun b _ _=>gB b,fun b z=>absurd z (gB b),e0.funs,e0.frf⟩,
  rfl,e0.bare,Un.kept hk,⟨_,x.toInCall.ns,fun i y v h1 h2 h3=>?_⟩,fun y c h=>⟨_,x.cell y c h⟩,e0.hok.fresh (Nat.le_refl _),fun y c h=>?_,fun p hp=>absurd (show p∈([]:Pnn) from hp) (by simp),e0.hok.kept hk,?_⟩
 ·exact name_of_addr x.apart (PySem.mem_of_lookup h1) (PySem.mem_of_lookup h2)
 ·have hy:scope.names.lookup y=some .cell\/scope.names.lookup y=some .free:=hy
  rcases hy with hy | hy
  ·exact zjP_ hy
  ·exact absurd rfl (S.nofree _ (PySem.mem_of_lookup hy))
 ·exact Nat.le_of_lt (x.above y c (PySem.mem_of_lookup h))
 ·have hi:i<vs.length:=by
   unfold start at h2
   by_cases hi:i<vs.length
   ·exact hi
   ·rw [List.getElem?_append_right (by simpa using hi)] at h2
    rw [List.getElem?_replicate] at h2
    split at h2<;>cases h2
  have ha:vs[i]?=some v:=by
   unfold start at h2
   rw [List.getElem?_append_left (by simpa using hi),List.getElem?_map] at h2
   cases e:vs[i]? with
   | none=>rw [e] at h2; cases h2
   | some a=>rw [e] at h2; cases h2; rfl
  obtain ⟨u,hu,rv⟩:=r.get ha
  have hp:ps[i]?=some y:=by
   rw [<- S.pre,List.getElem?_take_of_lt (by lia)]; exact h1
  have k_:ps.Nodup:=by rw [<- S.pre]; exact S.nd.sublist (List.take_sublist _ _)
  refine ⟨u,rv,?_⟩
  rcases S.par y (List.mem_of_getElem? hp) with k | k
  ·exact .inl ⟨k,zhR_ k_ hp hu k⟩
  ·obtain ⟨c,e⟩:=zjP_ (n:=s.heap.objs.size+1) k
   refine .inr ⟨.inl k,c,e,?_⟩
   have q:=x.cell y c e
   rw [zhW_ k_ hp hu (by show scope.names.lookup y≠_; rw [k]; decide)] at q
   exact q
 ·exact e0.hok.fresh (Nat.le_of_lt (x.above y c (PySem.mem_of_lookup h)))
 ·unfold start
  show _=N.length
  rw [List.length_append,List.length_map,List.length_replicate]
  lia
theorem zqU_ {CX:CXT}{P:Program}{w:World}{K:Fgg}{mg:Str->Option Value}{base:Heap}{k:Nat}{f:Addr}{name qual:Str}{params:Arguments}{body:List Stmt}{scope:Scope}{dV kV doc pm ah ct oc:Value}{an od:Option Addr}
  {aj:Array (Option Value)}{N ps:List Str}{sp:Sp}(lk:K.lookup f=some ⟨oc,od,.func (W.fnOf name qual params body scope dV kV doc pm an ah ct),aj⟩) (bT:W.codeIn K ah qual=true) (S:FnScope N ps scope)
  (len:∀ vs H Q E,sp vs H Q E->vs.length=ps.length)
  (aW:∀ (A:Around) (outer:List Env) (s:Shared) (H:Hp) (vs:List V) (Q:VK) (E:XK),Room k (A.deeper (envOfC qual scope s.heap.objs.size f ah))->sp vs H Q E ->
   ∃ t,PSs (cxOf CX P w K mg base N qual scope f ah A outer s H E) body t/\t { nx:=fun _ H'=>Q .non H',rt:=Q } (start N vs) H):
  FnOk P w K mg base CX (k+1) f (W.fnOf name qual params body scope dV kV doc pm an ah ct) ps sp:=by
 refine ⟨len,fun A outer s H args us vs Q E hr e0 hb r cM=>?_⟩
 have hl:=len _ _ _ _ cM
 have KX:K.In s.heap:=e0.mod.kin.keeps fun b o e=>(e0.bs b o e).1
 have lim:s.heap.NoLimit:=e0.mod.nolimit.keeps fun b o e=>(e0.bs b o e).1
 have g_:∀ y∈ps.zip us,scope.names.lookup y.1=some .local\/(scope.names.lookup y.1=some .cell/\((cellsFrom (s.heap.objs.size+1) scope.names []).lookup y.1).isSome=true):=fun ⟨n,v⟩ hy=>by
  rcases S.par n (List.of_mem_zip hy).1 with q | q
  ·exact .inl q
  ·exact .inr ⟨q,W.cellsFrom_some _ _ _ (.inl q)⟩
 refine codeAny_call_function hr.depth (KX _ _ lk) rfl S.co S.gen rfl (W.codeRec_of KX bT) (hb _ _ _ _ ?_)
 refine wpAny_newFunctionEnv_cells S.kind g_ fun env he s1 x=>?_
 subst he
 refine ⟨lim.keeps x.toInCall.keep,codeAny_func ?_⟩
 obtain ⟨t,ht,hq⟩:=aW A outer s H vs Q E (hr.deeper _) cM
 have I:Inv (cxOf CX P w K mg base N qual scope f ah A outer s H E) [] (start N vs) H s1:=zk0_ S hr.hd e0 hl r x
 refine wpAny_mono (ht [] s1 (start N vs) H _ I hq) (fun fl s' hs=>?_) fun e s' hs=>hs
 have fin:∀ {ai:St}{H':Hp}{v:V}{u:Value},Inv (cxOf CX P w K mg base N qual scope f ah A outer s H E) [] ai H' s'->RelV v u->Q v H'->CE outer P w H s Q u s':=
  fun {ai H' v u} J rv q=>⟨v,H',J.os,J.bare,J.base,J.hok,rv,q⟩
 cases fl with
 | ret u =>
  obtain ⟨v,ai,H',J,rv,q⟩:=hs
  exact fin J rv q
 | next =>
  obtain ⟨ai,H',J,q⟩:=hs
  exact fin (v:=V.non) (u:=Value.none) J rfl q
 | brk =>
  obtain ⟨_,_,_,q⟩:=hs
  exact False.elim q
 | cont =>
  obtain ⟨_,_,_,q⟩:=hs
  exact False.elim q
section
variable {X:Cx}{x:Str}{p pos:Pos}{e:Expr}{es:List Expr}{t:TA}{id T:String}{r:List V->Hp->VK->Prop}
def tCB (r:List V->Hp->VK->Prop)(t:TA):TE:=fun σ H Q=>t σ H fun vs H1=>r vs H1 Q
theorem zng_ (hc:CallR X (.builtin id) r)(hg:Gl X x)(hm:X.mg x=none)(hv:bootBuiltins x=some (.builtin id))(ha:PA X (e::es) t)(hn:x ≠ "__name__":=by decide)(bp:(x==("__debug__":Str))=false:=by decide)
  (he:starEach (e::es) X.env=(false,eval e X.env)::starEach es X.env:=by rfl) (aB:(backTo pos (starEach es X.env)).any (·.1)=false:=by rfl):PE X (.Call (.Name x p) (e::es) [] pos) (tCB r t):=by
 intro pins s σ H Q I h
 refine wpAny_Call_Name_kw (zhd_ I hg hm hv ?_ hn bp)
 exact PyProof.Rows.callWith_builtin1 (thn (ha pos pins s σ H _ I h) fun us s1 ⟨vs,H1,I1,r1,q1⟩=>hc pins s1 σ H1 vs us Q I1 r1 q1) he aB
theorem zkM_ (hc:CallR X (.type T) r)(hg:Gl X x)(hm:X.mg x=none)(hv:bootBuiltins x=some (.type T))(ha:PA X (e::es) t)(hn:x ≠ "__name__":=by decide)(bp:(x==("__debug__":Str))=false:=by decide)
  (he:starEach (e::es) X.env=(false,eval e X.env)::starEach es X.env:=by rfl) (aB:(backTo pos (starEach es X.env)).any (·.1)=false:=by rfl):PE X (.Call (.Name x p) (e::es) [] pos) (tCB r t):=by
 intro pins s σ H Q I h
 refine wpAny_Call_Name_kw (zhd_ I hg hm hv ?_ hn bp)
 exact PyProof.Rows.callWith_type1 (thn (ha pos pins s σ H _ I h) fun us s1 ⟨vs,H1,I1,r1,q1⟩=>hc pins s1 σ H1 vs us Q I1 r1 q1) he aB
end
end L2
namespace HT
open PySem PyProof.Rows
section
open PySem.SeqAt
open PySem.AutoSeq1 (wpAny_loadPart')
open PySem.MeetsSeq PySem.MeetsSeq2 PySem.MeetsSeq3
end
section
variable {prog:Program}{w:World}{A:Around}{E:Value->Shared->Prop}{s:Shared}
theorem cat_tup {t b:Addr}{vs ws:List Value}{Q:Value->Shared->Prop}(ht:IsTup s.heap t vs.toArray)(hb:IsTup s.heap b ws.toArray)(hv:vs≠[])
  (h1:ws=[]->Q (.ref t) s) (h2:ws≠[]->Q (.ref s.heap.objs.size) { s with heap:=s.heap.push { cls:=.type "tuple",data:=.seq (vs++ws).toArray } })
  (hsz:vs.length+ws.length<=sizeLine):wpAny (model prog w) A (binaryOp .Add (.ref t) (.ref b)) Q E s:=by
 obtain ⟨⟨cls,dd,data,sl⟩,ho,hc,n,hd⟩:=id ht
 obtain ⟨⟨nB,dd2,data2,sl2⟩,ho2,hc2,n2,hd2⟩:=id hb
 simp only at hc hd hc2 hd2
 subst hc hd hc2 hd2
 have e:vs.toArray++ws.toArray=(vs++ws).toArray:=by simp
 by_cases hw:ws=[]
 ·exact concat_meets ⟨_,ho,rfl⟩ ⟨_,ho2,rfl⟩ noFill_tuple_add seq_tuple_add PySem.F.slot_tuple_add PySem.F.entry_tuple_add (PySem.F.args_tuple_add_2 _ _)
   (tuple_addW1 t b vs.toArray ws.toArray n n2 dd dd2 sl sl2 (by simpa using hv) (by simp [hw])) ⟨ho,ho2,h1 hw⟩
 ·refine concat_meets ⟨_,ho,rfl⟩ ⟨_,ho2,rfl⟩ noFill_tuple_add seq_tuple_add PySem.F.slot_tuple_add PySem.F.entry_tuple_add (PySem.F.args_tuple_add_2 _ _)
   (tuple_addW2 t b vs.toArray ws.toArray n n2 dd dd2 sl sl2 (by simpa using hv) (by simpa using hw) (by rw [List.size_toArray,List.size_toArray]; exact hsz)) ⟨ho,ho2,?_⟩
  rw [e]
  exact h2 hw
def sIx (n d:Nat):Option Int->Nat
 | none=>d
 | some v=>if v<0 then (v+(n:Int)).toNat else min v.toNat n
theorem sIx_le (n d:Nat)(hd:d<=n)(o:Option Int):sIx n d o<=n:=by
 cases o with
 | none=>exact hd
 | some v =>
  show (if v<0 then (v+(n:Int)).toNat else min v.toNat n)<=n
  by_cases hv:v<0
  ·rw [if_pos hv]; lia
  ·rw [if_neg hv]; exact Nat.min_le_right _ _
theorem zli_ (v:Int)(n d:Nat):(if v<0 then max (v+(n:Int)) 0 else min v (n:Int))=((sIx n d (some v):Nat):Int):=by
 show (if v<0 then max (v+(n:Int)) 0 else min v (n:Int))=(((if v<0 then (v+(n:Int)).toNat else min v.toNat n):Nat):Int)
 by_cases hv:v<0
 ·simp only [if_pos hv]; lia
 ·simp only [if_neg hv]; lia
theorem ziW_ (lo hi:Option Int)(n:Nat):Builtin.Slice.sliceAdjust lo hi 1 (n:Int)=(((sIx n 0 lo:Nat):Int),((sIx n n hi:Nat):Int)):=by
 have h1:¬ ((1:Int)<0):=by lia
 unfold Builtin.Slice.sliceAdjust
 simp only [h1,if_false]
 refine Prod.ext ?_ ?_
 ·cases lo with
  | none=>rfl
  | some v=>exact zli_ v n 0
 ·cases hi with
  | none=>rfl
  | some v=>exact zli_ v n n
theorem zjo_ (i j:Nat):Builtin.Slice.slicePlaces (i:Int) (j:Int) 1=j-i:=by
 unfold Builtin.Slice.slicePlaces
 have h1:(1:Int) > 0:=by lia
 simp only [h1,if_true,Int.ediv_one]
 split<;>lia
theorem zgG_ {v:Value}{o:Option Int}{Q:Option Int->Shared->Prop}(p:IsPart v o)(h:Q o s):wpAny (model prog w) A (Builtin.Slice.slicePartIndex v) Q E s:=by
 cases p with
 | none=>exact slicePart_none h
 | int i t=>exact slicePart_int h
theorem zeA_ {sl:Addr}{vl vu:Value}{lo hi:Option Int}{n:Nat}{Q:Int×Int×Nat->Shared->Prop}(hs:s.heap.IsSliceOf sl vl vu .none)(pl:IsPart vl lo)(pu:IsPart vu hi)
  (h:Q (((sIx n 0 lo:Nat):Int),1,sIx n n hi-sIx n 0 lo) s):wpAny (model prog w) A (Builtin.Slice.sliceApplied (.ref sl) (pure (n:Int))) Q E s:=by
 obtain ⟨os,hos,hcs,hds⟩:=id hs
 unfold Builtin.Slice.sliceApplied Builtin.Slice.sliceFields
 refine wpAny_bind (wpAny_bind (wpAny_field hos hds (x:=vl) rfl (wpAny_bind (wpAny_field hos hds (x:=vu) rfl (wpAny_bind (wpAny_field hos hds (x:=.none) rfl (wpAny_pure ?_)))))))
 refine wpAny_bind (slicePart_none ?_)
 show wpAny _ _ (if ((1:Int) == 0)=true then _ else _) _ _ s
 rw [if_neg (by decide)]
 refine wpAny_bind (zgG_ pl (wpAny_bind (zgG_ pu (wpAny_bind (wpAny_pure ?_)))))
 show wpAny _ _ (match Builtin.Slice.sliceAdjust lo hi 1 (n:Int) with | (lo,hi)=>pure (lo,(1:Int),Builtin.Slice.slicePlaces lo hi 1)) _ _ s
 rw [ziW_ lo hi n]
 show wpAny _ _ (pure (((sIx n 0 lo:Nat):Int),(1:Int),Builtin.Slice.slicePlaces ((sIx n 0 lo:Nat):Int) ((sIx n n hi:Nat):Int) 1)) _ _ s
 rw [zjo_]
 exact wpAny_pure h
theorem znb_ (xs:Array Value)(i k:Nat):((List.range k).filterMap fun (m:Nat)=>xs[((i:Int)+(m:Int)*1).toNat]?).toArray=((xs.toList.drop i).take k).toArray:=by
 have e:(fun (m:Nat)=>xs[((i:Int)+(m:Int)*1).toNat]?)=fun m=>xs[i+m]?:=by
  funext m
  have:((i:Int)+(m:Int)*1).toNat=i+m:=by lia
  rw [this]
 rw [e]
 have:=pick_run xs i k
 rw [List.filterMap_map] at this
 have e2:((fun x=>xs[x]?)∘fun x=>i+x)=fun m=>xs[i+m]?:=rfl
 rw [e2] at this
 rw [this]
theorem getItem_tuple_cut {t sl:Addr}{items:Array Value}{vl vu:Value}{lo hi:Option Int}{Q:Value->Shared->Prop}(ht:IsTup s.heap t items)(hs:s.heap.IsSliceOf sl vl vu .none)(pl:IsPart vl lo)(pu:IsPart vu hi)
  (hw:¬ (sIx items.size 0 lo=0/\sIx items.size items.size hi=items.size))
  (h:Q (.ref s.heap.objs.size) { s with heap:=s.heap.push { cls:=.type "tuple",data:=.seq ((items.toList.drop (sIx items.size 0 lo)).take (sIx items.size items.size hi-sIx items.size 0 lo)).toArray } })
  (hsz:items.size<=sizeLine):wpAny (model prog w) A (getItem (.ref t) (.ref sl)) Q E s:=by
 have cy:sizeOk (.seq ((items.toList.drop (sIx items.size 0 lo)).take (sIx items.size items.size hi-sIx items.size 0 lo)).toArray):=by
  show ((items.toList.drop (sIx items.size 0 lo)).take (sIx items.size items.size hi-sIx items.size 0 lo)).toArray.size<=sizeLine
  rw [List.size_toArray,List.length_take,List.length_drop,Array.length_toList]
  lia
 have hj:sIx items.size items.size hi<=items.size:=sIx_le _ _ (Nat.le_refl _) hi
 obtain ⟨os,hos,hcs,hds⟩:=id hs
 have nc:s.TypeIs (.ref sl) "slice":=⟨os,hos,hcs⟩
 unfold getItem
 try with_reducible refine wpAny_holding ?_
 first | refine wpAny_bind (wpAny_pure ?_) | skip
 refine wpAny_bind (wpAny_sequenceKey ht.typeIs (by decide) ?_)
 refine wpAny_bind (wpAny_callSpecial?_slot (name:=Str.ofString "__getitem__") ht.typeIs PyProof.Rows.slot_tuple_getitem
  (wpAny_call_entry PyProof.Rows.slot_tuple_getitem ht.typeIs entry_tuple_getitem ?_ (args_tuple_getitem _ _)))
 show wpAny _ _ (Builtin.Tuple.tupleItemsOf (.ref t)>>=_) _ _ s
 refine wpAny_bind (tupleItemsOf_ ht ?_)
 refine wpAny_bind (wpAny_typeOf nc ?_)
 rw [if_pos (by decide)]
 refine wpAny_bind (zeA_ hs pl pu ?_)
 have mS:¬ ((((sIx items.size 0 lo:Nat):Int) == 0 && (1:Int) == 1 && (sIx items.size items.size hi-sIx items.size 0 lo) == items.size)=true):=by
  intro q
  rw [Bool.and_eq_true,Bool.and_eq_true] at q
  have q1:((sIx items.size 0 lo:Nat):Int)=0:=eq_of_beq q.1.1
  have q2:sIx items.size items.size hi-sIx items.size 0 lo=items.size:=eq_of_beq q.2
  exact hw ⟨by lia,by lia⟩
 show wpAny _ _ (if (((sIx items.size 0 lo:Nat):Int) == 0 && (1:Int) == 1 && (sIx items.size items.size hi-sIx items.size 0 lo) == items.size)=true then _ else _) _ _ s
 rw [if_neg mS,znb_]
 first
  | exact wpAny_bind (m:=Builtin.Tuple.tupleExact _) (wpAny_newObj_type (wpAny_pure ⟨_,rfl,wpAny_pure h⟩) cy)
  | exact wpAny_bind (m:=Builtin.Tuple.tupleExact _) (wpAny_newObj_type (wpAny_bind (wpAny_pure (wpAny_pure ⟨_,rfl,wpAny_pure h⟩))) cy)
  | exact wpAny_bind (wpAny_bind (m:=Builtin.Tuple.tupleExact _) (wpAny_newObj_type (wpAny_pure (wpAny_pure ⟨_,rfl,wpAny_pure h⟩)) cy))
  | exact wpAny_bind (wpAny_bind (m:=Builtin.Tuple.tupleExact _) (wpAny_newObj_type (wpAny_pure ⟨_,rfl,wpAny_pure h⟩) cy))
end
end HT
namespace L2
open PySem PySem.Spec PyProof.Rows
abbrev TO:=St->Hp->(Option Int->Hp->Prop)->Prop
def PO (X:Cx)(e:Option Expr)(t:TO):Prop:=
 ∀ (pins:Pnn) (s:Shared) (σ:St) (H:Hp) (Q:Option Int->Hp->Prop),Inv X pins σ H s->t σ H Q ->
  wpAny (model X.prog X.w) X.A (evalPart e X.env) (fun u s'=>∃ o H',Inv X pins σ H' s'/\IsPart u o/\Q o H') X.xe s
def tNoPart:TO:=fun _ H Q=>Q none H
section
variable {X:Cx}{e:Expr}{te:TE}{lo hi:Option Expr}{tl th:TO}{pos p2:Pos}
theorem zcM_:PO X none tNoPart:=by
 intro pins s σ H Q I h
 rw [evalPart_none]
 exact wpAny_pure ⟨none,H,I,.none,h⟩
def SlR (X:Cx)(r:V->Option Int->Option Int->Hp->VK->Prop):Prop:=
 ∀ (pins:Pnn) (s:Shared) (σ:St) (H:Hp) (x:V) (v vl vu:Value) (lo hi:Option Int) (sl:Addr) (Q:VK),Inv X pins σ H s->RelV x v->s.heap.IsSliceOf sl vl vu .none->IsPart vl lo->IsPart vu hi->r x lo hi H Q ->
  ∃ T id,typeLookup (.type T) "__getitem__"=pure (some (.builtin id))/\s.TypeIs v T/\wpAny (model X.prog X.w) X.A (getItem v (.ref sl)) (EP X pins σ Q) X.xe s
def tSl (r:V->Option Int->Option Int->Hp->VK->Prop)(te:TE)(tl th:TO):TE:=fun σ H Q=>te σ H fun x H1=>tl σ H1 fun l H2=>th σ H2 fun u H3=>r x l u H3 Q
theorem za8_ {r:V->Option Int->Option Int->Hp->VK->Prop}(hr:SlR X r)(he:PE X e te)(hl:PO X lo tl)(hu:PO X hi th):PE X (.Subscript e (.Slice lo hi none p2) pos) (tSl r te tl th):=by
 intro pins s σ H Q I h
 refine Subscript_ (thn (he pins s σ H _ I h) fun v s1 af=>?_)
 obtain ⟨x,H1,I1,r1,q1⟩:=af
 refine wpAny_Slice (thn (hl pins s1 σ H1 _ I1 q1) fun vl s2 ⟨l,H2,I2,pl,q2⟩=>thn (hu pins s2 σ H2 _ I2 q2) fun vu s3 af=>?_)
 obtain ⟨u,H3,I3,pu,q3⟩:=af
 rw [evalPart_none]
 refine wpAny_pure ?_
 have I4:Inv X pins σ H3 { s3 with heap:=s3.heap.push { cls:=.type "slice",data:=.fields #[vl,vu,.none] } }:=I3.kept (t':=s3.toks) fun b ob q=>Heap.get?_push_of_some _ q
 obtain ⟨T,id,hT,ht,hg⟩:=hr pins { s3 with heap:=s3.heap.push { cls:=.type "slice",data:=.fields #[vl,vu,.none] } } σ H3 x v vl vu l u s3.heap.objs.size Q I4 r1 (Heap.IsSliceOf.new ..) pl pu q3
 show wpAny (model X.prog X.w) X.A (subscriptTail e (.Slice lo hi none p2) v (.ref s3.heap.objs.size)) (EP X pins σ Q) X.xe { s3 with heap:=s3.heap.push { cls:=.type "slice",data:=.fields #[vl,vu,.none] } }
 exact tail_any (ops:=[.ref s3.heap.objs.size,v]) ht hT hg (by with_unfolding_all rfl)
def cutV (xs:List V)(lo hi:Option Int):List V:=(xs.drop (HT.sIx xs.length 0 lo)).take (HT.sIx xs.length xs.length hi-HT.sIx xs.length 0 lo)
theorem zfd_ (xs:List V)(lo hi:Option Int):(cutV xs lo hi).length<=xs.length:=by
 unfold cutV
 rw [List.length_take,List.length_drop]
 lia
def rSlT (K:Fgg):V->Option Int->Option Int->Hp->VK->Prop:=fun x lo hi H Q=>∃ a xs,x=.ref a/\SqT K H a xs /\
 ¬ (HT.sIx xs.length 0 lo=0/\HT.sIx xs.length xs.length hi=xs.length)/\∀ p,H p=none->Q (.ref p) (upd H p (.tup (cutV xs lo hi)))
theorem zl4_:SlR X (rSlT X.K):=by
 intro pins s σ H x v vl vu lo hi sl Q I rx hs pl pu h
 obtain ⟨a,xs,rfl,hx,hw,q⟩:=h
 cases rx
 obtain ⟨aa,r,ht,hz⟩:=I.tuple hx
 have hlen:aa.toArray.size=xs.length:=by rw [List.size_toArray]; exact r.length.symm
 refine ⟨"tuple",_,PyProof.Rows.slot_tuple_getitem.lookup,ht.typeIs,?_⟩
 refine HT.getItem_tuple_cut ht hs pl pu (by rw [hlen]; exact hw) ?_ (by rw [hlen]; exact hz)
 rw [hlen]
 refine ⟨.ref s.heap.objs.size,_,I.laid (t':=s.toks) (o:=.tup (cutV xs lo hi)) (fun b ob q=>Heap.get?_push_of_some _ q) (Nat.le_refl _) ?_,rfl,q _ (I.hok.fresh (Nat.le_refl _))⟩
 exact ⟨Nat.le_trans (zfd_ xs lo hi) hz,_,(r.drop (HT.sIx xs.length 0 lo)).take (HT.sIx xs.length xs.length hi-HT.sIx xs.length 0 lo),IsTup.new _ _⟩
def rCatT (K:Fgg):R2:=fun x y H Q=>∃ a b xs ys,x=.ref a/\y=.ref b/\SqT K H a xs/\SqT K H b ys/\xs≠[]/\xs.length+ys.length<=sizeLine /\
 (ys=[]->Q (.ref a) H)/\(ys≠[]->∀ p,H p=none->Q (.ref p) (upd H p (.tup (xs++ys))))
theorem Vals.nil_iff {xs:List V}{us:List Value}(r:Vals xs us):us=[]↔xs=[]:=by
 cases r with
 | nil=>simp
 | cons _ _=>simp
theorem zll_:OpR X (binaryOp .Add) (rCatT X.K):=by
 intro pins s σ H x y v u Q I rx ry h
 obtain ⟨a,b,xs,ys,rfl,rfl,ha,hb,hx,hz,q1,q2⟩:=h
 cases rx
 cases ry
 obtain ⟨aa,r1,p1,_⟩:=I.tuple ha
 obtain ⟨aq,r2,p2,_⟩:=I.tuple hb
 refine HT.cat_tup p1 p2 (fun z=>hx (r1.nil_iff.mp z)) (fun z=>⟨.ref a,H,I,rfl,q1 (r2.nil_iff.mp z)⟩) (fun z=>?_) (by rw [<- r1.length,<- r2.length]; exact hz)
 refine ⟨.ref s.heap.objs.size,_,I.laid (t':=s.toks) (o:=.tup (xs++ys)) (fun b ob q=>Heap.get?_push_of_some _ q) (Nat.le_refl _) ?_,rfl,q2 (fun w=>z (r2.nil_iff.mpr w)) _ (I.hok.fresh (Nat.le_refl _))⟩
 exact ⟨by rw [List.length_append]; exact hz,_,r1.append r2,IsTup.new _ _⟩
end
def ixN (n:Nat)(i:Int):Option Nat:=if 0<=i then (if i<n then some i.toNat else none) else if -(n:Int)<=i then some (i+n).toNat else none
def atI {α:Type}(xs:List α)(i:Int):Option α:=(ixN xs.length i).bind fun j=>xs[j]?
theorem zlf_ {n:Nat}{i:Int}{j:Nat}(h:ixN n i=some j):seqIndex? i n=some j/\j<n /\ -(n:Int)<=i/\i<n:=by
 unfold ixN at h
 by_cases h0:0<=i
 ·rw [if_pos h0] at h
  by_cases h1:i<n
  ·rw [if_pos h1] at h
   have e:i.toNat=j:=Option.some.inj h
   exact ⟨by rw [seqIndex_of h0 h1,e],by lia,by lia,h1⟩
  ·rw [if_neg h1] at h; cases h
 ·rw [if_neg h0] at h
  by_cases h1 : -(n:Int)<=i
  ·rw [if_pos h1] at h
   have e:(i+n).toNat=j:=Option.some.inj h
   exact ⟨by rw [seqIndex_neg (by lia) h1,e],by lia,h1,by lia⟩
  ·rw [if_neg h1] at h; cases h
theorem zjp_ {α:Type}{xs:List α}{i:Int}{v:α}(h:atI xs i=some v):∃ j,seqIndex? i xs.length=some j/\xs[j]?=some v/\j<xs.length /\ -(xs.length:Int)<=i/\i<xs.length:=by
 unfold atI at h
 cases e:ixN xs.length i with
 | none=>rw [e] at h; cases h
 | some j =>
  rw [e] at h
  obtain ⟨h1,h2,h3,h4⟩:=zlf_ e
  exact ⟨j,h1,h,h2,h3,h4⟩
theorem atI_nat {α:Type}{xs:List α}{j:Nat}{v:α}(h:xs[j]?=some v):atI xs (j:Int)=some v:=by
 have hj:j<xs.length:=(List.getElem?_eq_some_iff.mp h).1
 have e:ixN xs.length (j:Int)=some j:=by
  unfold ixN
  rw [if_pos (by lia),if_pos (by lia)]; simp
 unfold atI; rw [e]; exact h
def PlainIx (b:Expr):Prop:=∀ o i,subscripted b false o i=operate [o,i] (getItem o i)
def IxR (X:Cx)(r:R2):Prop:=
 ∀ (value slice:Expr) (pins:Pnn) (s:Shared) (σ:St) (H:Hp) (x y:V) (v u:Value) (Q:VK),Inv X pins σ H s->RelV x v->RelV y u->r x y H Q ->
  subscripted slice false v u=operate [v,u] (getItem v u)->wpAny (model X.prog X.w) X.A (subscriptTail value slice v u) (EP X pins σ Q) X.xe s
def MtR (X:Cx)(id:String)(r:V->List V->Hp->VK->Prop):Prop:=
 ∀ (pins:Pnn) (s:Shared) (σ:St) (H:Hp) (x:V) (xs:List V) (v:Value) (us:List Value) (Q:VK),Inv X pins σ H s->RelV x v->Vals xs us->r x xs H Q ->
  wpAny (model X.prog X.w) X.A (call (.builtin id) (v::us)) (EP X pins σ Q) X.xe s
section
variable {X:Cx}{a b:Expr}{ta tb:TE}{pos:Pos}
theorem zC_ {r:R2}(hr:IxR X r)(ha:PE X a ta)(hb:PE X b tb)(hs:PlainIx b):PE X (.Subscript a b pos) (tOp r ta tb):=by
 intro pins s σ H Q I h
 exact Subscript_ (binT ha hb I h fun v u s2 x y H2 I2 rx ry q=>hr a b pins s2 σ H2 x y v u Q I2 rx ry q (hs _ _))
def rIxL (K:Fgg):R2:=fun x y H Q=>∃ p xs i v,x=.ref p/\y=.int i/\SqL K H p xs/\atI xs i=some v/\Q v H
def rIxT (K:Fgg):R2:=fun x y H Q=>∃ p xs i v,x=.ref p/\y=.int i/\SqT K H p xs/\atI xs i=some v/\Q v H
def rIxS:R2:=fun x y H Q=>∃ z i c,x=.str z/\y=.int i/\z.length<=sizeLine/\atI z.cps.toList i=some c/\Q (.str ⟨#[c]⟩) H
theorem znX_:IxR X (rIxL X.K):=by
 intro value slice pins s σ H x y v u Q I rx ry h hs
 obtain ⟨p,xs,i,z,rfl,rfl,hq,he,q⟩:=h
 cases rx
 obtain ⟨t,rfl⟩:=ry
 obtain ⟨aa,r,pl,hz⟩:=I.list hq
 obtain ⟨j,h1,h2,h3,h4,h5⟩:=zjp_ he
 obtain ⟨w,ew,aN⟩:=r.get h2
 have hl:=r.length
 have hn:=line63
 have fin:EP X pins σ Q w s:=⟨z,H,I,aN,q⟩
 by_cases h0:0<=i
 ·have hj:i.toNat=j:=by
   rw [seqIndex_of h0 h5] at h1
   exact Option.some.inj h1
  exact item_listR pl.isList h0 (by lia) (by rw [hj]; simpa using ew) fin hs
 ·have hj:(i+(aa.toArray.size:Int)).toNat=j:=by
   rw [seqIndex_neg (by lia) h4] at h1
   rw [List.size_toArray,<- hl]
   exact Option.some.inj h1
  exact subscriptTail_builtinR (x:=w) pl.isList.typeIs slot_list_getitem.lookup
   (wpAny_getItem_list_neg (Q:=fun r s'=>r=w/\EP X pins σ Q r s') pl.isList (by lia) (by rw [List.size_toArray]<;>lia) (by lia) (by rw [hj]; simpa using ew) ⟨rfl,fin⟩) hs
theorem zqA_:IxR X (rIxT X.K):=by
 intro value slice pins s σ H x y v u Q I rx ry h hs
 obtain ⟨p,xs,i,z,rfl,rfl,hq,he,q⟩:=h
 cases rx
 obtain ⟨t,rfl⟩:=ry
 obtain ⟨aa,r,pl,hz⟩:=I.tuple hq
 obtain ⟨j,h1,h2,h3,h4,h5⟩:=zjp_ he
 obtain ⟨w,ew,aN⟩:=r.get h2
 have hl:=r.length
 have hn:=line63
 have fin:EP X pins σ Q w s:=⟨z,H,I,aN,q⟩
 exact subscriptTail_builtinR (x:=w) pl.typeIs slot_tuple_getitem.lookup
  (getItem_tuple (j:=j) (Q:=fun r s'=>r=w/\EP X pins σ Q r s') pl (by lia) (by lia) (by rw [List.size_toArray,<- hl]; exact h1) (by simpa using ew) ⟨rfl,fin⟩) hs
theorem zq5_:IxR X rIxS:=by
 intro value slice pins s σ H x y v u Q I rx ry h hs
 obtain ⟨z,i,c,rfl,rfl,hz,he,q⟩:=h
 obtain ⟨t,rfl⟩:=rx
 obtain ⟨t',rfl⟩:=ry
 obtain ⟨j,h1,h2,h3,h4,h5⟩:=zjp_ he
 have hl:z.cps.toList.length=z.length:=by simp [Str.length]
 rw [hl] at h1 h4 h5
 have hn:=line63
 exact tail_any (typeIs_str s z t) slot_str_getitem.lookup (getItem_str (c:=c) (by
  have e1:decide (i < -(2 ^ 63:Int))=false:=decide_eq_false (by lia)
  have e2:decide (i ≥ 2 ^ 63)=false:=decide_eq_false (by lia)
  rw [e1,e2,Bool.or_false]) (by rw [h1]; simpa using h2) ⟨.str ⟨#[c]⟩,H,I.tok _,⟨_,rfl⟩,q⟩) hs
theorem ziN_ (aa:List Value)(n j:Nat)(u:Value):Obj.mapSeq (·.setIfInBounds j u) { cls:=.type "list",data:=.seq aa.toArray n }={ cls:=.type "list",data:=.seq (aa.set j u).toArray n }:=by
 simp [Obj.mapSeq]
theorem Inv.lst {pins:Pnn}{σ:St}{H:Hp}{s:Shared}{p:Addr}{xs:List V}(I:Inv X pins σ H s)(h:H p=some (.lst xs)):
  ∃ (aa:List Value) (n:Nat),Vals xs aa/\s.heap.get? p=some { cls:=.type "list",data:=.seq aa.toArray n }/\xs.length<=sizeLine:=by
 obtain ⟨z,aa,n,r,e⟩:=I.hok p _ h
 exact ⟨aa,n,r,e,z⟩
theorem Inv.lstUpd {pins:Pnn}{σ:St}{H:Hp}{s:Shared}{p:Addr}{xs ys:List V}{aa its':List Value}{n n':Nat}{f:Obj->Obj}(I:Inv X pins σ H s)(h:H p=some (.lst xs))
  (ho:s.heap.get? p=some { cls:=.type "list",data:=.seq aa.toArray n }) (hf:f { cls:=.type "list",data:=.seq aa.toArray n }={ cls:=.type "list",data:=.seq its'.toArray n' }) (r:Vals ys its') (hz:ys.length<=sizeLine) (t:Nat):
  Inv X pins σ (upd H p (.lst ys)) { s with heap:=s.heap.update p f,toks:=t }:=by
 have e:(s.heap.update p f).get? p=some { cls:=.type "list",data:=.seq its'.toArray n' }:=by
  rw [Heap.get?_update_self f ho (by rw [hf]<;>rfl),hf]
 refine I.write (x:=p) (e:=p) (by rw [h]; trivial) (.inl rfl) (fun b u hb q=>(Heap.get?_update_other _ _ (Ne.symm hb)).trans q) ⟨_,e⟩ ?_
 exact ⟨hz,its',n',r,e⟩
def rSetL:V->V->V->Hp->(Hp->Prop)->Prop:=fun o i v H Q=>∃ p xs k j,o=.ref p/\i=.int k/\H p=some (.lst xs)/\ixN xs.length k=some j/\Q (upd H p (.lst (xs.set j v)))
theorem zlR_:PSet X rSetL:=by
 intro pins s σ H o i v ov iv u Q I ro ri rv h
 obtain ⟨p,xs,k,j,rfl,rfl,hp,hj,q⟩:=h
 cases ro
 obtain ⟨t,rfl⟩:=ri
 obtain ⟨aa,n,r,ho,hz⟩:=I.lst hp
 obtain ⟨h1,h2,h3,h4⟩:=zlf_ hj
 have hl:=r.length
 have hn:=line63
 have I':Inv X pins σ (upd H p (.lst (xs.set j v))) { s with heap:=s.heap.update p (Obj.mapSeq (·.setIfInBounds j u)) }:=
  I.lstUpd hp ho (ziN_ aa n j u) (r.set rv j) (by rw [List.length_set]; exact hz) s.toks
 by_cases h0:0<=k
 ·have hk:k.toNat=j:=by
   rw [seqIndex_of h0 h4] at h1
   exact Option.some.inj h1
  exact W.ki_setAt ho h0 (by lia) (by rw [List.size_toArray,<- hl]; exact h4) (by rw [hk]; exact ⟨_,I',q⟩)
 ·have hk:(k+(aa.toArray.size:Int)).toNat=j:=by
   rw [seqIndex_neg (by lia) h3] at h1
   rw [List.size_toArray,<- hl]
   exact Option.some.inj h1
  exact W.ki_setBack ho (by lia) (by rw [List.size_toArray,<- hl]; exact h3) (by lia) (by rw [hk]; exact ⟨_,I',q⟩)
theorem zg0_ (lo hi:Option Int)(n:Nat):(sliceBounds lo hi none n).1=((HT.sIx n 0 lo:Nat):Int)/\(sliceBounds lo hi none n).2.1=((HT.sIx n n hi:Nat):Int)/\(sliceBounds lo hi none n).2.2=1:=by
 refine ⟨?_,?_,rfl⟩
 ·cases lo with
  | none=>simp [sliceBounds,HT.sIx]
  | some i =>
   simp only [sliceBounds,HT.sIx,Option.getD_none,show (1:Int) > 0 by decide,if_true]
   by_cases h:i<0
   ·simp only [h,if_true]<;>lia
   ·simp only [h,if_false]<;>lia
 ·cases hi with
  | none=>simp [sliceBounds,HT.sIx]
  | some i =>
   simp only [sliceBounds,HT.sIx,Option.getD_none,show (1:Int) > 0 by decide,if_true]
   by_cases h:i<0
   ·simp only [h,if_true]<;>lia
   ·simp only [h,if_false]<;>lia
theorem zgA_ (aa:List Value)(lo hi:Option Int):slicePick aa.toArray lo hi none=((aa.drop (HT.sIx aa.length 0 lo)).take (HT.sIx aa.length aa.length hi-HT.sIx aa.length 0 lo)).toArray:=by
 obtain ⟨h1,h2,h3⟩:=zg0_ lo hi aa.toArray.size
 unfold slicePick
 rw [h1,h2,h3]
 simp only [sliceRange_one,pick_run,List.size_toArray]<;>rfl
def rSlL (K:Fgg):V->Option Int->Option Int->Hp->VK->Prop:=fun x lo hi H Q=>∃ a xs,x=.ref a/\SqL K H a xs/\∀ p,H p=none->Q (.ref p) (upd H p (.lst (cutV xs lo hi)))
theorem zoQ_:SlR X (rSlL X.K):=by
 intro pins s σ H x v vl vu lo hi sl Q I rx hs pl pu h
 obtain ⟨a,xs,rfl,hx,q⟩:=h
 cases rx
 obtain ⟨aa,r,ht,hz⟩:=I.list hx
 have hlen:=r.length
 refine ⟨"list",_,slot_list_getitem.lookup,ht.isList.typeIs,?_⟩
 refine wpAny_getItem_list_slice ht.isList hs pl pu .none (by simp) ?_ (by rw [List.size_toArray]<;>lia)
 rw [zgA_,<- hlen]
 refine ⟨.ref s.heap.objs.size,_,I.laid (t':=s.toks) (o:=.lst (cutV xs lo hi)) (fun b ob q=>Heap.get?_push_of_some _ q) (Nat.le_refl _) ?_,rfl,q _ (I.hok.fresh (Nat.le_refl _))⟩
 exact ⟨Nat.le_trans (zfd_ xs lo hi) hz,_,0,(r.drop (HT.sIx xs.length 0 lo)).take (HT.sIx xs.length xs.length hi-HT.sIx xs.length 0 lo),Heap.get?_push_size _ rfl⟩
def flatV:V->Bool
 | .non=>true
 | .bl _=>true
 | .int _=>true
 | .str _=>true
 | _=>false
def eqV:V->V->Bool
 | .non,.non=>true
 | .bl a,.bl b=>a == b
 | .bl a,.int b=>(if a then 1 else 0) == b
 | .int a,.bl b=>a == (if b then 1 else 0)
 | .int a,.int b=>a == b
 | .str a,.str b=>a == b
 | _,_=>false
theorem zos_ {A:Around}{s:Shared}{y x:V}{u v:Value}(ry:RelV y u)(rx:RelV x v)(fy:flatV y=true)(fx:flatV x=true):SeqAt.EqAt A s u v (eqV y x):=by
 cases y with
 | non =>
  cases ry
  cases x with
  | non=>cases rx; exact SeqAt.EqAt.same _
  | bl b=>cases rx; exact SeqAt.EqAt.none_bool b
  | int b=>obtain ⟨t,rfl⟩:=rx; exact SeqAt.EqAt.none_int b t
  | str b=>obtain ⟨t,rfl⟩:=rx; exact SeqAt.EqAt.none_str b t
  | _=>exact absurd (show false=true from fx) Bool.false_ne_true
 | bl a =>
  cases ry
  cases x with
  | non=>cases rx; exact SeqAt.EqAt.bool_none a
  | bl b=>cases rx; exact SeqAt.EqAt.bool_bool a b
  | int b=>obtain ⟨t,rfl⟩:=rx; exact SeqAt.EqAt.bool_int a b t
  | str b=>obtain ⟨t,rfl⟩:=rx; exact SeqAt.EqAt.bool_str a b t
  | _=>exact absurd (show false=true from fx) Bool.false_ne_true
 | int a =>
  obtain ⟨t',rfl⟩:=ry
  cases x with
  | non=>cases rx; exact SeqAt.EqAt.int_none a t'
  | bl b=>cases rx; exact SeqAt.EqAt.int_bool a t' b
  | int b=>obtain ⟨t,rfl⟩:=rx; exact SeqAt.EqAt.int_int a t' b t
  | str b=>obtain ⟨t,rfl⟩:=rx; exact SeqAt.EqAt.int_str a t' b t
  | _=>exact absurd (show false=true from fx) Bool.false_ne_true
 | str a =>
  obtain ⟨t',rfl⟩:=ry
  cases x with
  | non=>cases rx; exact SeqAt.EqAt.str_none a t'
  | bl b=>cases rx; exact SeqAt.EqAt.str_bool a t' b
  | int b=>obtain ⟨t,rfl⟩:=rx; exact SeqAt.EqAt.str_int a t' b t
  | str b=>obtain ⟨t,rfl⟩:=rx; exact SeqAt.EqAt.str_str a t' b t
  | _=>exact absurd (show false=true from fx) Bool.false_ne_true
 | _=>exact absurd (show false=true from fy) Bool.false_ne_true
def eqU (x:V)(u:Value):Bool:=match u with
 | .none=>eqV .non x
 | .bool b=>eqV (.bl b) x
 | .int i _=>eqV (.int i) x
 | .str z _=>eqV (.str z) x
 | _=>false
theorem zoU_ {x y:V}{u:Value}(r:RelV y u)(f:flatV y=true):eqU x u=eqV y x:=by
 cases y with
 | non=>cases r; rfl
 | bl b=>cases r; rfl
 | int i=>obtain ⟨t,rfl⟩:=r; rfl
 | str z=>obtain ⟨t,rfl⟩:=r; rfl
 | _=>exact absurd (show false=true from f) Bool.false_ne_true
theorem zgn_ {x:V}:∀ {xs:List V}{us:List Value},Vals xs us->xs.all flatV=true->us.any (eqU x)=xs.any fun y=>eqV y x
 | _,_,.nil,_=>rfl
 | y::xs,u::us,.cons r t,f=>by
  rw [List.all_cons,Bool.and_eq_true] at f
  rw [List.any_cons,List.any_cons,zoU_ r f.1,zgn_ t f.2]
theorem zec_ {A:Around}{s:Shared}{x:V}{v:Value}(rx:RelV x v)(fx:flatV x=true):∀ {xs:List V}{us:List Value},Vals xs us->xs.all flatV=true->∀ u∈us,SeqAt.EqAt A s u v (eqU x u)
 | _,_,.nil,_=>fun u hu=>by cases hu
 | y::xs,u::us,.cons r t,f=>fun u' hu=>by
  rw [List.all_cons,Bool.and_eq_true] at f
  rcases List.mem_cons.mp hu with rfl | hu
  ·rw [zoU_ r f.1]; exact zos_ r rx f.1 fx
  ·exact zec_ rx fx t f.2 u' hu
def inV (x:V)(xs:List V):Bool:=xs.any fun y=>eqV y x
def rIn (K:Fgg)(neg:Bool):R2:=fun x y H Q=>∃ p xs,y=.ref p/\(SqL K H p xs\/SqT K H p xs)/\flatV x=true/\xs.all flatV=true/\Q (.bl (if neg then !inV x xs else inV x xs)) H
theorem zkC_:OpR X (compareOp .In) (rIn X.K false):=by
 intro pins s σ H x y v u Q I rx ry h
 obtain ⟨p,xs,rfl,hq,fx,fs,q⟩:=h
 cases ry
 rcases hq with hq | hq
 ·obtain ⟨aa,r,pl,hz⟩:=I.list hq
  refine SeqAt.in_listAt (eqU x) pl.isList (fun w hw=>zec_ rx fx r fs w (by simpa using hw)) ⟨.bl _,H,I,rfl,?_⟩
  rw [show aa.toArray.any (eqU x)=aa.any (eqU x) by simp,zgn_ r fs]
  exact q
 ·obtain ⟨aa,r,pl,hz⟩:=I.tuple hq
  refine SeqAt.in_tupleAt (eqU x) pl (fun w hw=>zec_ rx fx r fs w (by simpa using hw)) ⟨.bl _,H,I,rfl,?_⟩
  rw [show aa.toArray.any (eqU x)=aa.any (eqU x) by simp,zgn_ r fs]
  exact q
theorem zgK_:OpR X (compareOp .NotIn) (rIn X.K true):=by
 intro pins s σ H x y v u Q I rx ry h
 obtain ⟨p,xs,rfl,hq,fx,fs,q⟩:=h
 cases ry
 rcases hq with hq | hq
 ·obtain ⟨aa,r,pl,hz⟩:=I.list hq
  refine SeqAt.notIn_listAt (eqU x) pl.isList (fun w hw=>zec_ rx fx r fs w (by simpa using hw)) ⟨.bl _,H,I,rfl,?_⟩
  rw [show aa.toArray.any (eqU x)=aa.any (eqU x) by simp,zgn_ r fs]
  exact q
 ·obtain ⟨aa,r,pl,hz⟩:=I.tuple hq
  refine SeqAt.notIn_tupleAt (eqU x) pl (fun w hw=>zec_ rx fx r fs w (by simpa using hw)) ⟨.bl _,H,I,rfl,?_⟩
  rw [show aa.toArray.any (eqU x)=aa.any (eqU x) by simp,zgn_ r fs]
  exact q
theorem zhe_:CallR X (.builtin "len") (fun xs H Q=>∃ p ys,xs=[.ref p]/\(SqL X.K H p ys\/SqT X.K H p ys)/\Q (.int ys.length) H):=by
 intro pins s σ H xs us Q I r h
 obtain ⟨p,ys,rfl,hq,q⟩:=h
 obtain ⟨u,rfl,rx⟩:=vals1 r
 cases rx
 have hn:=line63
 rcases hq with hq | hq
 ·obtain ⟨aa,r',pl,hz⟩:=I.list hq
  have hlen:=r'.length
  exact Calls.call_len_list pl.isList (by simp only [List.size_toArray]<;>lia) ⟨.int ys.length,H,I.tok _,⟨s.toks+1,by rw [List.size_toArray,hlen]⟩,q⟩
 ·obtain ⟨aa,r',pl,hz⟩:=I.tuple hq
  have hlen:=r'.length
  exact len_tuple pl (by simp only [List.size_toArray]<;>lia) ⟨.int ys.length,H,I.tok _,⟨s.toks+1,by rw [List.size_toArray,hlen]⟩,q⟩
theorem zg4_:CallR X (.builtin "len") (fun xs H Q=>∃ z,xs=[.str z]/\z.length<=sizeLine/\Q (.int z.length) H):=by
 intro pins s σ H xs us Q I r h
 obtain ⟨z,rfl,hz,q⟩:=h
 obtain ⟨u,rfl,t,rfl⟩:=vals1 r
 have hn:=line63
 exact len_str (by lia) ⟨.int z.length,H,I.tok _,⟨_,rfl⟩,q⟩
theorem zhf_:CallR X (.type "list") (fun xs H Q=>∃ p ys,xs=[.ref p]/\(SqL X.K H p ys\/SqT X.K H p ys)/\∀ l,H l=none->Q (.ref l) (upd H l (.lst ys))):=by
 intro pins s σ H xs us Q I r h
 obtain ⟨p,ys,rfl,hq,q⟩:=h
 obtain ⟨u,rfl,rx⟩:=vals1 r
 cases rx
 have fin:∀ (aa:List Value),Vals ys aa->ys.length<=sizeLine->∀ (h':Heap) (c':Nat),(∀ b o',s.heap.get? b=some o'->h'.get? b=some o') ->
   h'.get? s.heap.objs.size=some { cls:=.type "list",dict:=none,data:=.seq aa.toArray c',slots:=#[] }->EP X pins σ Q (.ref s.heap.objs.size) { s with heap:=h' }:=fun aa r' hz h' c' kp e =>
  ⟨.ref s.heap.objs.size,_,I.laid (t':=s.toks) kp (Nat.le_refl _) (show ObjOk X.prog X.w _ h' _ (.lst ys) from ⟨hz,aa,c',r',e⟩),rfl,q _ (I.hok.fresh (Nat.le_refl _))⟩
 rcases hq with hq | hq
 ·obtain ⟨aa,r',pl,hz⟩:=I.list hq
  have hlen:=r'.length
  obtain ⟨o,ho,hc,n,hd⟩:=pl.isList
  exact call_list_seq p (.inl rfl) ho hc hd (fun h' c' kp e=>fin aa r' hz h' c' kp e) (by simp only [List.size_toArray]<;>lia)
 ·obtain ⟨aa,r',pl,hz⟩:=I.tuple hq
  have hlen:=r'.length
  obtain ⟨o,ho,hc,n,hd⟩:=pl
  exact call_list_seq p (.inr rfl) ho hc hd (fun h' c' kp e=>fin aa r' hz h' c' kp e) (by simp only [List.size_toArray]<;>lia)
def tyV (K:Fgg)(T:String)(x:V)(H:Hp):Prop:=match x with
 | .str _=>T="str"
 | .int _=>T="int"
 | .ref p=>(T="list" /\ ∃ xs,SqL K H p xs)\/(T="tuple" /\ ∃ o,K.lookup p=some o/\o.cls=.type "tuple" /\ o.dict=none) \/
   (T="dict" /\ ((∃ kvs,H p=some (.dK kvs))\/∃ kvs,H p=some (.dT kvs)))\/(T="set" /\ ∃ S n,H p=some (.set S n))
 | _=>False
theorem zql_ {pins:Pnn}{σ:St}{H:Hp}{s:Shared}{T:String}{x:V}{v:Value}(I:Inv X pins σ H s)(r:RelV x v)(ty:tyV X.K T x H):
  s.TypeIs v T/\∀ a,v=.ref a->∃ ob,s.heap.get? a=some ob/\ob.dict=none:=by
 cases x with
 | str z =>
  obtain ⟨t,rfl⟩:=r
  cases (show T="str" from ty)
  exact ⟨typeIs_str s z t,fun _ e=>nomatch e⟩
 | int i =>
  obtain ⟨t,rfl⟩:=r
  cases (show T="int" from ty)
  exact ⟨typeIs_int s i t,fun _ e=>nomatch e⟩
 | ref p =>
  cases r
  rcases ty with ⟨rfl,xs,hq⟩ | ⟨rfl,o,hk,hc,hd⟩ | ⟨rfl,hk⟩ | ⟨rfl,S,n,hk⟩
  ·obtain ⟨aa,_,pl,_⟩:=I.list hq
   refine ⟨pl.isList.typeIs,fun a e=>?_⟩
   cases e
   obtain ⟨o,n,e,c,hd,_⟩:=pl
   exact ⟨o,e,hd⟩
  ·refine ⟨⟨o,I.kIn p o hk,hc⟩,fun a e=>?_⟩
   cases e
   exact ⟨o,I.kIn _ o hk,hd⟩
  ·have z:∃ o,s.heap.get? p=some o/\o.ExactDict:=by
    rcases hk with ⟨kvs,hk⟩ | ⟨kvs,hk⟩
    ·obtain ⟨_,_,_,_,o,_,_,e,ex,_⟩:=I.hok p _ hk
     exact ⟨o,e,ex⟩
    ·obtain ⟨_,_,_,_,o,_,_,e,ex,_⟩:=I.hok p _ hk
     exact ⟨o,e,ex⟩
   obtain ⟨o,e,ex⟩:=z
   refine ⟨⟨o,e,ex.1⟩,fun a e2=>?_⟩
   cases e2
   exact ⟨o,e,ex.2.1⟩
  ·obtain ⟨o,_,_,_,e,ex,_⟩:=I.hok p _ hk
   refine ⟨⟨o,e,ex.1⟩,fun a e2=>?_⟩
   cases e2
   exact ⟨o,e,ex.2.1⟩
 | _=>exact False.elim ty
def tBM (K:Fgg)(T:String)(r:V->List V->Hp->VK->Prop)(to:TE)(t:TA):TE:=fun σ H Q=>to σ H fun x H1=>tyV K T x H1/\t σ H1 fun xs H2=>r x xs H2 Q
variable {o e:Expr}{es:List Expr}{to:TE}{t:TA}{name:Str}{apos ak:Pos}{T id:String}{r:V->List V->Hp->VK->Prop}
theorem ziv_ (pa:PlainAttrs T)(slot:Slot T name id)(jF:typeOf (.builtin id)=pure (.type "method_descriptor"))(hm:MtR X id r)(ho:PE X o to)(ha:PA X (e::es) t)
  (ij:attributeBase o name X.env (eval o X.env)=eval o X.env:=by rfl)
  (jW:((backTo ak (starEach (e::es) X.env)).all (fun x=>!x.1) && (backToKw ak (keywordEach [] X.env)).all (fun x=>x.1.isSome)
   && decide ((e::es).length+([]:List Keyword).length+(if ([]:List Keyword).isEmpty then 0 else 1)<30))=true:=by rfl)
  (gZ:(apos.endLine == ak.line)=true:=by rfl) (hs:starEach (e::es) X.env=(false,eval e X.env)::starEach es X.env:=by rfl) (fu:(backTo ak (starEach es X.env)).any (·.1)=false:=by rfl):
  PE X (.Call (.Attribute o name apos) (e::es) [] ak) (tBM X.K T r to t):=by
 intro pins s σ H Q I h
 refine wpAny_Call_method_late ij jW gZ rfl (thn (ho pins s σ H _ I h) fun v s1 af=>?_)
 obtain ⟨x,H1,I1,r1,ty,q1⟩:=af
 obtain ⟨h1,h2⟩:=zql_ I1 r1 ty
 refine ⟨T,id,pa,slot,jF,h1,h2,?_⟩
 have hA:=ha ak pins s1 σ H1 _ I1 q1
 rw [hs] at hA ⊢
 refine Calls.callWith_builtin (by show (false || (backTo ak (starEach es X.env)).any (·.1))=false; rw [fu]<;>rfl) (Calls.evalArgs_plain ?_)
 exact thn hA fun us s2 ⟨vs,H2,I2,r2,q2⟩=>hm pins s2 σ H2 x vs v us Q I2 r1 r2 q2
end
def MtM (X:Cx)(id:String)(r:V->List V->Hp->VK->Prop):Prop:=
 ∀ (pins:Pnn) (s:Shared) (σ:St) (H:Hp) (x:V) (xs:List V) (v:Value) (us:List Value) (Q:VK),Inv X pins σ H s->RelV x v->Vals xs us->r x xs H Q ->
  wpAny (model X.prog X.w) X.A (call (.builtin id) (v::us)) (EP X pins σ Q) X.xe s
theorem Vals.one:∀ {x:V}{us:List Value},Vals [x] us->∃ u,us=[u]/\RelV x u
 | _,_,.cons r .nil=>⟨_,rfl,r⟩
theorem Vals.dropLast {xs:List V}{us:List Value}(h:Vals xs us):Vals xs.dropLast us.dropLast:=by
 induction h with
 | nil=>exact .nil
 | cons r t ih =>
  cases t with
  | nil=>exact .nil
  | cons q t'=>exact .cons r ih
theorem Vals.rep {xs:List V}{us:List Value}(h:Vals xs us):∀ k:Nat,Vals (List.replicate k xs).flatten (List.replicate k us).flatten
 | 0=>.nil
 | k+1=>by
  rw [List.replicate_succ,List.replicate_succ,List.flatten_cons,List.flatten_cons]
  exact Vals.append h (Vals.rep h k)
theorem zpn_ {α:Type}(l:List α):l.eraseIdx (l.length-1)=l.dropLast:=by
 induction l with
 | nil=>rfl
 | cons a r ih =>
  cases r with
  | nil=>rfl
  | cons b r =>
   have e:(a::b::r).length-1=((b::r).length-1)+1:=by
    have h1:(a::b::r).length=r.length+2:=rfl
    have h2:(b::r).length=r.length+1:=rfl
    lia
   rw [e,List.eraseIdx_cons_succ,ih]
   all_goals rfl
theorem zhC_ (aa:List Value):∀ (k:Nat) (acc:List Value),
  List.foldl (fun x1 x2=>x1++x2) acc.toArray (List.replicate k aa.toArray)=(acc++(List.replicate k aa).flatten).toArray
 | 0,acc=>by simp
 | k+1,acc=>by
  have e:acc.toArray++aa.toArray=(acc++aa).toArray:=by simp
  have e2:(acc++aa)++(List.replicate k aa).flatten=acc++(List.replicate (k+1) aa).flatten:=by
   rw [List.replicate_succ,List.flatten_cons,List.append_assoc]
  rw [<- e2,<- zhC_ aa k (acc++aa),<- e,List.replicate_succ,List.foldl_cons]
section
variable {X:Cx}{pins:Pnn}{σ:St}{H:Hp}{s:Shared}{l:Addr}{xs ys:List V}
theorem Inv.lset {aa its':List Value}{n:Nat}{f:Array Value->Array Value}{t':Nat}(I:Inv X pins σ H s)(hH:H l=some (.lst xs))
  (e:s.heap.get? l=some { cls:=.type "list",data:=.seq aa.toArray n }) (hf:f aa.toArray=its'.toArray) (hv:Vals ys its') (hz:ys.length<=sizeLine):
  Inv X pins σ (upd H l (.lst ys)) { s with heap:=s.heap.update l (Obj.mapSeq f),toks:=t' }:=by
 have q:=PySem.IsL.update e f
 rw [hf] at q
 refine I.write (x:=l) (e:=l) (by rw [hH]; exact trivial) (.inl rfl) (fun b' u hb hu=>(Heap.get?_update_other s.heap (Obj.mapSeq f) (Ne.symm hb)).trans hu) ⟨_,q⟩ ?_
 exact ⟨hz,its',_,hv,q⟩
theorem Inv.lnew {aa:List Value}{t':Nat}(I:Inv X pins σ H s)(hv:Vals ys aa)(hz:ys.length<=sizeLine):
  Inv X pins σ (upd H s.heap.objs.size (.lst ys)) { s with heap:=s.heap.push { cls:=.type "list",data:=.seq aa.toArray },toks:=t' }:=
 I.laid (fun _ _ q=>Heap.get?_push_of_some _ q) (Nat.le_refl _) ⟨hz,aa,0,hv,Heap.get?_push_size _ rfl⟩
theorem Inv.fresh (I:Inv X pins σ H s):H s.heap.objs.size=none:=I.hok.fresh (Nat.le_refl _)
theorem Inv.lstM (I:Inv X pins σ H s)(hH:H l=some (.lst xs)):xs.length<=sizeLine/\∃ (aa:List Value) (n:Nat),Vals xs aa/\xs.length=aa.length/\s.heap.get? l=some { cls:=.type "list",data:=.seq aa.toArray n }:=by
 obtain ⟨z,aa,n,r,e⟩:=I.hok l _ hH
 exact ⟨z,aa,n,r,r.length,e⟩
theorem notLongL {n:Nat}(h:n<=sizeLine):Builtin.List.listTooLong n=false:=by
 unfold Builtin.List.listTooLong
 exact decide_eq_false (by lia)
end
section
variable {X:Cx}
def rAppend:V->List V->Hp->VK->Prop:=fun x vs H Q=>∃ l xs y,x=.ref l/\vs=[y]/\H l=some (.lst xs)/\xs.length<sizeLine/\Q .non (upd H l (.lst (xs++[y])))
theorem zaC_:MtM X "list.append" rAppend:=by
 intro pins s σ H x vs v us Q I rx rv h
 obtain ⟨l,xs,y,rfl,rfl,hH,hz,q⟩:=h
 cases rx
 obtain ⟨u,rfl,ru⟩:=rv.one
 obtain ⟨z,aa,n,r,hl,e⟩:=I.lstM hH
 refine call_meets F.slot_list_append ⟨_,e,rfl⟩ F.entry_list_append (F.args_list_append_2 _ _) (PySem.list_append l aa.toArray n u (by rw [List.size_toArray]; lia)) ⟨e,?_⟩
 refine ⟨.non,_,I.lset (its':=aa++[u]) hH e (by simp) (r.append (.cons ru .nil)) ?_,rfl,q⟩
 rw [List.length_append,List.length_singleton]
 lia
def rExtend:V->List V->Hp->VK->Prop:=fun x vs H Q=>∃ l b xs zs,x=.ref l/\vs=[.ref b]/\H l=some (.lst xs)/\H b=some (.lst zs)/\xs.length+zs.length<=sizeLine/\Q .non (upd H l (.lst (xs++zs)))
theorem zfB_:MtM X "list.extend" rExtend:=by
 intro pins s σ H x vs v us Q I rx rv h
 obtain ⟨l,b,xs,zs,rfl,rfl,hH,hB,hz,q⟩:=h
 cases rx
 obtain ⟨u,rfl,ru⟩:=rv.one
 cases ru
 obtain ⟨z,aa,n,r,hl,e⟩:=I.lstM hH
 obtain ⟨z2,aq,n2,r2,fY,e2⟩:=I.lstM hB
 have hsz:aa.toArray.size+aq.toArray.size<=sizeLine:=by rw [List.size_toArray,List.size_toArray]; lia
 have di:¬ (!aa.toArray.isEmpty && Builtin.List.listTooLong (aa.toArray.size+aq.toArray.size))=true:=by
  rw [notLongL hsz,Bool.and_false]
  exact Bool.false_ne_true
 refine call_meets F.slot_list_extend ⟨_,e,rfl⟩ F.entry_list_extend (F.args_list_extend_2 _ _)
  (AutoSeq1.list_extend_list_list_0 l aa.toArray n b aq.toArray n2 di (by rw [List.size_toArray]; lia) (by lia)) ⟨e,e2,?_⟩
 refine ⟨.non,_,I.lset (its':=aa++aq) hH e (by simp) (r.append r2) ?_,rfl,q⟩
 rw [List.length_append]
 lia
def rCat:R2:=fun x y H Q=>∃ l b xs zs,x=.ref l/\y=.ref b/\H l=some (.lst xs)/\H b=some (.lst zs)/\xs.length+zs.length<=sizeLine/\∀ p,H p=none->Q (.ref p) (upd H p (.lst (xs++zs)))
theorem zqT_:OpR X (binaryOp .Add) rCat:=by
 intro pins s σ H x y v u Q I rx ry h
 obtain ⟨l,b,xs,zs,rfl,rfl,hH,hB,hz,q⟩:=h
 cases rx
 cases ry
 obtain ⟨z,aa,n,r,hl,e⟩:=I.lstM hH
 obtain ⟨z2,aq,n2,r2,fY,e2⟩:=I.lstM hB
 refine PySem.P.add_list e e2 ?_ (by rw [List.size_toArray,List.size_toArray]; lia)
 have ea:aa.toArray++aq.toArray=(aa++aq).toArray:=by simp
 rw [ea]
 exact ⟨.ref _,_,I.lnew (t':=s.toks) (r.append r2) (by rw [List.length_append]; lia),rfl,q _ I.fresh⟩
def rRep:R2:=fun x y H Q=>∃ l k xs,x=.ref l/\y=.int k/\H l=some (.lst xs) /\ -(2 ^ 63)<=k/\k<2 ^ 63/\xs.length*k.toNat<=sizeLine /\
 ∀ p,H p=none->Q (.ref p) (upd H p (.lst (List.replicate k.toNat xs).flatten))
theorem zlw_ {α:Type}(xs:List α)(k:Nat):(List.replicate k xs).flatten.length=k*xs.length:=by
 induction k with
 | zero=>simp
 | succ k ih=>rw [List.replicate_succ,List.flatten_cons,List.length_append,ih,Nat.succ_mul,Nat.add_comm]
theorem zqu_:OpR X (binaryOp .Mult) rRep:=by
 intro pins s σ H x y v u Q I rx ry h
 obtain ⟨l,k,xs,rfl,rfl,hH,h1,h2,hz,q⟩:=h
 cases rx
 obtain ⟨t,rfl⟩:=ry
 obtain ⟨z,aa,n,r,hl,e⟩:=I.lstM hH
 have hlen:aa.toArray.size*k.toNat<=sizeLine:=by rw [List.size_toArray,<- hl]; exact hz
 have j5:¬ aa.toArray.size*k.toNat > (2 ^ 63-1) / 8:=by
  have:(sizeLine:Nat)<=(2 ^ 63-1) / 8:=by decide
  lia
 have jV:¬ (!Builtin.List.listFitsIndex k)=true:=by
  rw [fitsIndex_both h1 h2]
  exact Bool.false_ne_true
 have di:¬ Builtin.List.listTooLong (aa.toArray.size*k.toNat)=true:=by
  rw [notLongL hlen]
  exact Bool.false_ne_true
 have jO:List.foldl (fun x1 x2=>x1++x2) #[] (List.replicate (if aa.toArray.isEmpty=true then 0 else k.toNat) aa.toArray)=(List.replicate k.toNat aa).flatten.toArray:=by
  have f0:∀ m:Nat,List.foldl (fun x1 x2=>x1++x2) #[] (List.replicate m aa.toArray)=(List.replicate m aa).flatten.toArray:=fun m=>by
   have:=zhC_ aa m []
   rw [List.nil_append] at this
   exact this
  rw [f0]
  cases aa with
  | nil=>simp
  | cons a r'=>rw [if_neg (by simp)]
 refine wpAny_binaryOp_repeat_ref (T:="list") (U:="int") (by decide) ⟨_,e,rfl⟩ (fun s'=>typeIs_int s' k t) noFill_list_mul F.fills_int_mul F.slot_int_rmul repeat_list F.slot_int_index.lookup
  (call_meets F.slot_int_rmul (typeIs_int s k t) F.entry_int_rmul (F.args_int_rmul_2 _ _) (int___rmul___int_list k t l aa.toArray n)
   ⟨e,rfl,⟨_,e,rfl⟩,call_meets F.slot_list_mul ⟨_,e,rfl⟩ F.entry_list_mul (F.args_list_mul_2 _ _) (AutoListH.list___mul___list_int_3 l aa.toArray n k t jV j5 di) ⟨e,?_⟩⟩)
 rw [jO]
 exact ⟨.ref _,_,I.lnew (t':=s.toks) (r.rep k.toNat) (by rw [zlw_,Nat.mul_comm]; exact hz),rfl,q _ I.fresh⟩
end
end L2
namespace Att
open PySem PySem.W PySem.Calls PyProof.Rows
theorem zeO_ {P:Params}{h:Heap}:∀ (ns:List Int) (vs:List Value),WellAll P h vs (ns.map WData.int)->IntsAre vs ns:=by
 intro ns
 induction ns with
 | nil =>
  intro vs w
  rw [List.map_nil] at w
  cases w
  exact .nil
 | cons n ns ih =>
  intro vs w
  rw [List.map_cons] at w
  cases w with
  | cons a b =>
   cases a
   exact .cons _ _ (ih _ b)
theorem zku_ {l:OpenLaw}{n:Nat}(hn:l.most=some n){P:Params}{h:Heap}{args:List WData}{vals:List Value}
  (dY:l.row.toRowW.claim.pre args=true) (jC:WellAll P h vals args):
  ∃ a vs ns,vals=[Value.ref a]/\args=[WData.list (ns.map WData.int)]/\h.get? a=some { cls:=.type "list",data:=.seq vs.toArray }/\IntsAre vs ns/\ns.length<=n:=by
 have mO:WShape.hasAll [] args [.list .int]=true:=(pre_splitW dY).1
 have hc:l.pre.holds [] { args:=args }=true:=(pre_splitW dY).2
 obtain ⟨d,r,rfl,h1,h2⟩:=hasAllW_cons mO
 obtain rfl:=hasAllW_nil h2
 obtain ⟨xs,rfl,h3⟩:=hasW_list h1
 obtain ⟨ns,rfl⟩:=items_int h3
 have hlen:ns.length<=n:=by
  unfold OpenLaw.pre at hc
  have h4:(WTm.not (.lt (.lit (.int (n:Int))) (.len (.arg 0)))).holds [] { args:=[.list (ns.map .int)] }=true:=by
   have h4:=(holds_andW hc).1
   rw [hn] at h4
   exact h4
  have h5:=condW_of h4 (w_not (w_lt w_lit (w_len_list (w_arg rfl))))
  rw [List.length_map] at h5
  refine Nat.le_of_not_lt fun q=>?_
  have q':(n:Int)<((ns.length:Nat):Int):=by lia
  first
   | (rw [decide_eq_true q'] at h5; exact absurd h5 (by decide))
   | (simp at h5; lia)
 cases jC with
 | cons w1 w2 =>
  cases w2
  cases w1 with
  | list ho aw=>exact ⟨_,_,ns,rfl,rfl,ho,zeO_ ns _ aw,hlen⟩
theorem zkT_ (l:OpenLaw)(args:List WData):l.row.toRowW.claim.post args (.bool true) args=true:=
 postW_of (r:=l.row.toRowW) (X:=(true == true))
  (show WShape.has [] (.bool true) .bool=true by first | rfl | decide | simp [WShape.has,WShape.arms,WShape.armsAll])
  (show (WTm.eq .res (.lit (.bool true))).value [] { args:=args,res:=some (.bool true),after:=args }=some (.bool (true == true)) from w_eq_bool (w_res rfl) w_lit) rfl
section
end
end Att
namespace L2
open PySem PySem.Spec PyProof.Rows
theorem zhQ_:∀ {vs:List Value}{ns:List Int},IntsAre vs ns->Vals (ns.map V.int) vs
 | _,_,.nil=>.nil
 | _,_,.cons n t h=>.cons ⟨t,rfl⟩ (zhQ_ h)
def Only (H:Hp):Prop:=∀ b,H b=none\/∃ o xs,H b=some (.frz o (.lst xs))
theorem zmb_ {P:Program}{w:World}{K:Fgg}{mg mb:Str->Option Value}{CX:CXT}{k:Nat}{fa a:Addr}{fd:FuncData}{x:Str}{sp:Sp}{ag:Shared}{vs:List Value}{ns:List Int}
  (KX:K.In ag.heap) (gV:ag.heap.Ns mainGlobals mg) (hb:ag.heap.Ns builtinsNs mb) (m_:∀ x:Str,x ≠ "__name__" -> mb x=bootBuiltins x) (jQ:ag.heap.NoLimit) (hg:ag.gens=#[])
  (ha:ag.heap.get? a=some { cls:=.type "list",data:=.seq vs.toArray }) (hi:IntsAre vs ns) (hl:ns.length<=sizeLine) (hr:Room k callerA)
  (F:∀ base:Heap,K.In base->base.Ns mainGlobals mg->FnOk P w K mg base CX k fa fd [x] sp) (ig:∀ (s:Shared) (u:Value),BindsTo s fd ⟨[u],[]⟩ [(x,u)])
  (cM:∀ H:Hp,Only H->SqL K H a (ns.map V.int)->sp [.ref a] H (fun v _=>v=.bl true) fun _ _ _=>False)
  (j8:∀ H e s',CX [] H ag (fun _ _ _=>False) e s'->False):
  codeAny (model P w) callerA (.call (.ref fa) ⟨[.ref a],[]⟩) (fun r s'=>r=.ok (.ret (.bool true))/\OldK ag.heap s'.heap/\s'.os=ag.os/\AllBare s'.gens) ag:=by
 have rv:=zhQ_ hi
 have jt:=hi.length
 have core:∀ H:Hp,Only H->SqL K H a (ns.map V.int)->HOk P w H ag.heap->(∀ b,H b≠none->b=a)->(H a≠none->K.lookup a=none) ->
   codeAny (model P w) callerA (.call (.ref fa) ⟨[.ref a],[]⟩) (fun r s'=>r=.ok (.ret (.bool true))/\OldK ag.heap s'.heap/\s'.os=ag.os/\AllBare s'.gens) ag:=by
  intro H hO hS hok hA hK
  have cC:∀ {b:Addr}{o:Obj},ag.heap.get? b=some o->H b=none->(hidT ag.heap H).get? b=some o:=fun e n=>zmn_ e n
  have gB:∀ {b:Addr}{o:Obj}{es:Array DictEntry}{ep:Nat},ag.heap.get? b=some o->o.data=.dict es ep->H b=none:=fun {b o es ep} e d=>by
   cases q:H b with
   | none=>rfl
   | some u =>
    have e':b=a:=hA b (by rw [q]; simp)
    subst e'
    rw [ha] at e; cases e
    have d':Data.seq vs.toArray _=Data.dict es ep:=d
    cases d'
  have iQ:∀ {b:Addr}{m:Str->Option Value},ag.heap.Ns b m->(hidT ag.heap H).Ns b m:=fun {b m} ⟨o,es,ep,e,d,r⟩=>⟨o,es,ep,cC e (gB e d),d,r⟩
  have lG:K.In (hidT ag.heap H):=fun b o e=>cC (KX b o e) (by
   cases q:H b with
   | none=>rfl
   | some u =>
    have e':b=a:=hA b (by rw [q]; simp)
    subst e'
    rw [hK (by rw [q]; simp)] at e; cases e)
  have hM:Mod K mg (hidT ag.heap H):=⟨lG,iQ gV,⟨mb,iQ hb,m_⟩,let ⟨mc,h1,h2⟩:=jQ; ⟨mc,iQ h1,h2⟩⟩
  have e0:Env0 P w K mg (hidT ag.heap H) callerA [] ag H:=⟨rfl,hM,fun b o e=>znZ_ e,Nat.le_of_eq (zkJ_ _ _),trivial,fun b hb=>absurd (show b∈([]:List Addr) from hb) (by simp),hok,.of_eq hg⟩
  refine codeAny_mono ((F _ lG (iQ gV)).run callerA [] ag H ⟨[.ref a],[]⟩ [.ref a] [.ref a] _ _ hr e0 (ig ag (.ref a)) (.cons rfl .nil) (cM H hO hS)) fun r s' h=>?_
  cases r with
  | error e=>exact (j8 H e s' h).elim
  | ok fl =>
   cases fl with
   | next=>exact False.elim h
   | brk=>exact False.elim h
   | cont=>exact False.elim h
   | ret u =>
    obtain ⟨v,H',os,bare,un,hok',r',q⟩:=h
    have q':v=.bl true:=q
    subst q'
    obtain rfl:u=Value.bool true:=r'
    refine ⟨rfl,OldK.of_keep fun b o e=>?_,os,bare⟩
    cases q:H b with
    | none=>exact un.keep b o e q (by intro z; exact absurd (show b∈([]:List Addr) from z) (by simp)) (by simp)
    | some u =>
     rcases hO b with z | ⟨ob,xs,z⟩
     ·rw [q] at z; cases z
     ·have z2:=un.frzs b ob _ z
      obtain ⟨e1,_⟩:=hok b _ z
      obtain ⟨e2,_⟩:=hok' b _ z2
      rw [e] at e1; cases e1
      exact e2
 cases hk:K.lookup a with
 | some o =>
  have e:=KX a o hk
  rw [ha] at e
  cases e
  refine core (fun _=>none) (fun _=>.inl rfl) (.inr ⟨_,vs.toArray,_,hk,rfl,rfl,rfl,by rw [List.size_toArray,jt]; exact hl,by simpa using rv⟩) (fun b u z=>by have z':(none:Option HO)=some u:=z; cases z') (fun b z=>absurd rfl z) fun z=>absurd rfl z
 | none =>
  refine core (fun b=>if b=a then some (.frz { cls:=.type "list",data:=.seq vs.toArray } (.lst (ns.map V.int))) else none) (fun b=>?_) (.inl (.inr ⟨{ cls:=.type "list",data:=.seq vs.toArray },if_pos rfl⟩)) (fun b u z=>?_) (fun b z=>?_) fun _=>hk
  ·by_cases hb:b=a
   ·exact .inr ⟨_,_,if_pos hb⟩
   ·exact .inl (if_neg hb)
  ·by_cases hb:b=a
   ·have z':=(if_pos hb).symm.trans z
    cases z'
    subst hb
    exact ⟨ha,by rw [List.length_map]; exact hl,vs,_,rv,ha⟩
   ·have z':=(if_neg hb).symm.trans z
    cases z'
  ·by_cases hb:b=a
   ·exact hb
   ·exact absurd (if_neg hb) z
def inClass (s:Stmt)(j:Nat):Stmt:=match s with
 | .ClassDef _ _ _ body _ _ _ _ _ _ _=>body.getD j (.Pass ⟨0,0,0,0⟩)
 | _=>.Pass ⟨0,0,0,0⟩
def defArgs (s:Stmt):Arguments:=match s with
 | .FunctionDef _ a _ _ _ _ _ _ _ _=>a
 | _=>{ posonlyargs:=[],args:=[],vararg:=none,kwonlyargs:=[],kw_defaults:=[],kwarg:=none,defaults:=[] }
def defBody (s:Stmt):List Stmt:=match s with
 | .FunctionDef _ _ b _ _ _ _ _ _ _=>b
 | _=>[]
def defScope (s:Stmt):Scope:=match s with
 | .FunctionDef _ _ _ _ _ _ sc _ _ _=>sc
 | _=>{ kind:=.function,names:=[],isGenerator:=false,isCoroutine:=false }
abbrev CX0:CXT:=fun _ _ _ _ _ _=>False
abbrev E0:XK:=fun _ _ _=>False
theorem pass0 {X:Cx}:Passes CX0 X E0:=fun _ _ _ _ _ _ _ h=>h.elim
structure Fun (K:Fgg)(x qual:Str)(st:Stmt)(f:Addr)(fd:FuncData):Prop where
 ex:∃ (oc:Value) (od:Option Addr) (kV doc pm:Value) (an:Option Addr) (ah ct:Value) (aj:Array (Option Value)),
  fd=W.fnOf x qual (defArgs st) (defBody st) (defScope st) .none kV doc pm an ah ct/\K.lookup f=some ⟨oc,od,.func fd,aj⟩/\W.codeIn K ah qual=true
 kp:W.keepIn K (.ref f)=true
section
variable {P:Program}{w:World}{K:Fgg}{mg:Str->Option Value}{base:Heap}
theorem Fun.ok {x qual:Str}{st:Stmt}{f:Addr}{fd:FuncData}{N ps:List Str}{k:Nat}{sp:Sp}(F:Fun K x qual st f fd)(S:FnScope N ps (defScope st))(len:∀ vs H Q E,sp vs H Q E->vs.length=ps.length)
  (aW:∀ (ah:Value) (A:Around) (outer:List Env) (s:Shared) (H:Hp) (vs:List V) (Q:VK) (E:XK),Room k (A.deeper (envOfC qual (defScope st) s.heap.objs.size f ah))->sp vs H Q E ->
   ∃ t,PSs (cxOf CX0 P w K mg base N qual (defScope st) f ah A outer s H E).nox (defBody st) t/\t { nx:=fun _ H'=>Q .non H',rt:=Q } (start N vs) H):FnOk P w K mg base CX0 (k+1) f fd ps sp:=by
 obtain ⟨oc,od,kV,doc,pm,an,ah,ct,aj,rfl,lk,bT⟩:=F.ex
 refine zqU_ lk bT S len fun A outer s H vs Q E hr cM=>?_
 obtain ⟨t,h,q⟩:=aW ah A outer s H vs Q E hr cM
 exact ⟨t,h.nox,q⟩
theorem Fun.binds {x qual:Str}{st:Stmt}{f:Addr}{fd:FuncData}{ps:List Str}(F:Fun K x qual st f fd)
  (h:∀ (kV doc pm:Value) (an:Option Addr) (ah ct:Value) (us:List Value),us.length=ps.length->bindArgs (W.fnOf x qual (defArgs st) (defBody st) (defScope st) .none kV doc pm an ah ct) ⟨us,[]⟩=pure (ps.zip us)):Binds K fd ps []:=by
 obtain ⟨oc,od,kV,doc,pm,an,ah,ct,aj,rfl,lk,bT⟩:=F.ex
 exact .all (h kV doc pm an ah ct)
theorem zoo_ {x qual:Str}{st:Stmt}{f:Addr}{oc:Value}{od an:Option Addr}{aj:Array (Option Value)}{kV doc pm ah ct:Value}(l:K.lookup f=some ⟨oc,od,.func (W.fnOf x qual (defArgs st) (defBody st) (defScope st) .none kV doc pm an ah ct),aj⟩)
  (c:W.codeIn K ah qual=true) (k:W.keepIn K (.ref f)=true):Fun K x qual st f (W.fnOf x qual (defArgs st) (defBody st) (defScope st) .none kV doc pm an ah ct):=⟨⟨oc,od,kV,doc,pm,an,ah,ct,aj,rfl,l,c⟩,k⟩
end
def Same (H H':Hp):Prop:=∀ b o,H b=some o->H' b=some o
theorem Same.refl (H:Hp):Same H H:=fun _ _ h=>h
theorem Same.trans {H H1 H2:Hp}(a:Same H H1)(b:Same H1 H2):Same H H2:=fun c o h=>b c o (a c o h)
theorem Same.free {H H':Hp}(e:Same H H'){l:Addr}(h:H' l=Option.none):H l=Option.none:=by
 cases q:H l with
 | none=>rfl
 | some o =>
  rw [e l o q] at h
  cases h
theorem Same.seq {K:Fgg}{H H':Hp}{a:Addr}{xs:List V}(e:Same H H')(h:SqL K H a xs):SqL K H' a xs:=by
 rcases h with (h | ⟨o,h⟩) | h
 ·exact .inl (.inl (e _ _ h))
 ·exact .inl (.inr ⟨o,e _ _ h⟩)
 ·exact .inr h
def Itp (n:Nat)(f:Nat->V):It:=⟨fun i _=>i<n,fun i H x H'=>H'=H/\x=f i,fun i _=>n<=i⟩
def ownTups:List String:=["enumerate", "zip", "dict_itemiterator", "dict_reverseitemiterator", "odict_iterator", "itertools.zip_longest", "itertools.pairwise"]
theorem zkh_ {P:Program}{w:World}{K:Fgg}{tg:Expr}{it:Addr}{n:Nat}{f:Nat->V}{Pw:Nat->Value->Prop}{St:Nat->Heap->Prop}
  (W:∀ A:Around,A.handled=none->Walks P w A it [it] [it] n Pw St) (hv:∀ i v,i<n->Pw i v->RelV (f i) v)
  (ho:∀ i h,St i h->∃ o nm vs,h.get? it=some o/\o.cls=.type nm/\o.data=.fields vs/\ownTups.contains nm=false)
  (gS:∀ (A:Around) (i:Nat) (s:Shared) (Q:Value->Shared->Prop) (E:Value->Shared->Prop),St i s.heap->Q (.ref it) s->wpAny (model P w) A (pyIter (.ref it)) Q E s)
  (hJ:∀ i h h',St i h->(∀ b∈[it],∀ o,h.get? b=some o->h'.get? b=some o)->St i h'):
  Turn P w K tg (Itp n f) [it] it (fun i h=>i<=n/\St i h) where
 mem:=by simp
 obj:=fun i h st b hb=>by
  have e:b=it:=by simpa using hb
  subst e
  obtain ⟨o,nm,vs,e,c,d,_⟩:=ho i h st.2
  exact ⟨o,e,fun v z=>by rw [d] at z; cases z⟩
 keep:=fun i h h' st k=>⟨st.1,hJ i h h' st.2 k⟩
 item:=by
  intro X hP hw hK hc i pins s σ H E I hf st hg
  subst hP hw hK
  obtain ⟨f0,f1,f2,f3,f4,f5⟩:=hf it (by simp)
  have hi:i<n:=hg
  refine (W X.A (I.ok.hd hc)).item i s _ _ hi st.2 fun v h' tk eB aK kk=>?_
  have I1:Inv X pins σ H { s with heap:=h',toks:=tk }:=I.turned (fun b o hb e=>kk b o (by simpa using hb) e) f0 f1 f3 f4 f5
  obtain ⟨o,nm,vs,e,c,d,hn⟩:=ho _ _ aK
  exact ⟨_,rfl,zpS_ (s:={ s with heap:=h',toks:=tk }) (n:=nm) e c d hn ⟨f i,H,I1,hv i v hi eB,⟨rfl,rfl⟩,⟨hi,aK⟩,fun b hb=>(hf b hb).1⟩⟩
 done:=by
  intro X hP hw hK hc i pins s σ H E I hf st hg
  subst hP hw hK
  obtain ⟨f0,f1,f2,f3,f4,f5⟩:=hf it (by simp)
  have hi:n<=i:=hg
  have e:i=n:=Nat.le_antisymm st.1 hi
  subst e
  exact (W X.A (I.ok.hd hc)).done s _ _ st.2 fun h' tk kk=>⟨rfl,I.turned (fun b o hb e=>kk b o (by simpa using hb) e) f0 f1 f3 f4 f5⟩
 self:=fun A i s Q E st h=>gS A i s Q E st.2 h
def sgn (x:Str)(i:Nat):V:=.str ⟨#[x.cps.getD i 0]⟩
theorem zj6_ {P:Program}{w:World}{it:Addr}{x:Str}{t:Tok}(A:Around)(hA:A.handled=none):Walks P w A it [it] [it] x.cps.size (SignAt x) (fun i h=>h.IsStrIter it (strIterType x) x t i):=by
 cases ha:x.cps.all (·<128)
 ·have e:strIterType x="str_iterator":=by simp [strIterType,ha]
  rw [e]; exact Walks.strWide hA it x t
 ·have e:strIterType x="str_ascii_iterator":=by simp [strIterType,ha]
  rw [e]; exact Walks.strAscii hA it x t
theorem zf3_ {x:Str}{i:Nat}{v:Value}(h:SignAt x i v):RelV (sgn x i) v:=by
 obtain ⟨c,u,e,rfl⟩:=h
 refine ⟨u,?_⟩
 have:x.cps.getD i 0=c:=by simp [Array.getD_eq_getD_getElem?,e]
 rw [this]
theorem zfz_ (x:Str):ownTups.contains (strIterType x)=false:=by
 unfold strIterType; split<;>decide
theorem zmV_ {P:Program}{w:World}{K:Fgg}{tg:Expr}(it:Addr)(x:Str)(t:Tok):Turn P w K tg (Itp x.cps.size (sgn x)) [it] it (fun i h=>i<=x.cps.size/\h.IsStrIter it (strIterType x) x t i):=by
 refine zkh_ (Pw:=SignAt x) (fun A hA=>zj6_ A hA) (fun i v _ h=>zf3_ h) (fun i h st=>?_) (fun A i s Q E st h=>?_) (fun i h h' st k=>?_)
 ·obtain ⟨o,e,c,d⟩:=st
  exact ⟨o,_,_,e,c,d,zfz_ x⟩
 ·cases ha:x.cps.all (·<128)
  ·have e:strIterType x="str_iterator":=by simp [strIterType,ha]
   rw [e] at st; exact wpAny_pyIter_striter_wide st h
  ·have e:strIterType x="str_ascii_iterator":=by simp [strIterType,ha]
   rw [e] at st; exact wpAny_pyIter_striter_ascii st h
 ·obtain ⟨o,e,r⟩:=st
  exact ⟨o,k it (by simp) o e,r⟩
section
end
theorem Inv.turnedL {X:Cx}{pins:Pnn}{σ:St}{H:Hp}{s:Shared}{h':Heap}{t':Nat}{ch:List Addr}(I:Inv X pins σ H s)(k:∀ b o,b∉ch->s.heap.get? b=some o->h'.get? b=some o)
  (hf:∀ b∈ch,FpOk X pins H b):Inv X pins σ H { s with heap:=h',toks:=t' }:=by
 have gC:∀ b u,H b=some u->b∉ch:=fun b u e z=>by rw [(hf b z).1] at e; cases e
 refine I.step (g':=s.gens) (d':=s.drawn) (ch:=ch) (fun b hb=>?_) (fun b o _ _ hc e _=>k b o hc e) (fun b o _ _ hc e _=>⟨o.slots,k b o hc e⟩) (fun _ _ _ _ n=>n)
  (fun b o hc e=>⟨o,k b o hc e⟩) (fun _ _ e=>e) (fun _ _ _ e=>e) (fun b ps e=>⟨#[],by rw [e]; simp⟩) (fun m hm=>?_) (fun b u e=>?_) I.bare
 ·obtain ⟨f0,f1,f2,f3,f4,f5⟩:=hf b hb
  exact ⟨f3,f1,f4,f5⟩
 ·obtain ⟨o,es,ep,ho,r⟩:=hm
  exact ⟨o,es,ep,k _ o (fun z=>(hf _ z).2.1 rfl) ho,r⟩
 ·refine (I.hok b u e).stay (fun c v hc q=>k c v ?_ q) (fun _ q=>q) fun _ _ q=>q
  rcases hc with z | z
  ·rw [z]; exact gC b u e
  ·exact gC c _ z
theorem zk9_ {X:Cx}{pins:Pnn}{σ:St}{H:Hp}{s:Shared}{h1:Heap}{tk:Nat}{iE:Tok}{e it:Addr}{i:Nat}{x:Value}{y:V}{St:Heap->Prop}{elts:List Expr}{kk:Nat}{pos:Pos}{E:Value->Shared->Prop}
  (I:Inv X pins σ H s) (hf:∀ b∈[e,it],FpOk X pins H b) (he:e<s.heap.objs.size) (hit:it<s.heap.objs.size) (eD:e≠it) (dD:IsEnumOut h1 e it ((i:Int)+1) x s.heap.objs.size) (ry:RelV y x)
  (ht:h1.get? s.heap.objs.size=some { cls:=.type "tuple",data:=.seq #[.int i iE,x] }) (hz:h1.objs.size=s.heap.objs.size+1) (hk:∀ b o,b≠e->b≠it->s.heap.get? b=some o->h1.get? b=some o)
  (ng:∀ h2,Heap.SameBut e h1 h2->St h2):
  wpAny (model X.prog X.w) X.A (letOwnedTupleGo (.Tuple elts kk pos) (.ref e) (.ref s.heap.objs.size)) (fun _ s2=>∃ z H',Inv X pins σ H' s2/\RelV z (.ref s.heap.objs.size) /\
   (∃ p,H p=none/\z=.ref p/\H'=upd H p (.tup [.int i,y]))/\(IsEnum s2.heap e it ((i+1:Nat):Int) x/\St s2.heap)/\∀ b∈[e,it],H' b=none) E { s with heap:=h1,toks:=tk }:=by
 refine wpAny_letOwnedTupleGo_enum dD fun h2 h_ bE=>?_
 replace bE:Heap.SameBut e h1 h2:=bE
 have hp:H s.heap.objs.size=none:=I.hok.fresh (Nat.le_refl _)
 have bH:s.heap.objs.size≠e:=Nat.ne_of_gt he
 have jN:s.heap.objs.size≠it:=Nat.ne_of_gt hit
 have I1:Inv X pins σ (upd H s.heap.objs.size (.tup [.int i,y])) { s with heap:=s.heap.push { cls:=.type "tuple",data:=.seq #[.int i iE,x] },toks:=tk }:=by
  refine I.laid (fun b u q=>Heap.get?_push_of_some _ q) (Nat.le_refl _) ⟨?_,[.int i iE,x],.cons ⟨_,rfl⟩ (.cons ry .nil),⟨_,Heap.get?_push_size _ rfl,rfl,_,rfl⟩⟩
  show 2<=sizeLine
  decide
 have eC:∀ b∈[e,it],FpOk X pins (upd H s.heap.objs.size (.tup [.int i,y])) b:=fun b hb=>by
  obtain ⟨f0,r⟩:=hf b hb
  refine ⟨?_,r⟩
  rw [zZ_ (by rcases List.mem_cons.mp hb with rfl | hb; exact bH.symm; rcases List.mem_cons.mp hb with rfl | hb; exact jN.symm; cases hb)]
  exact f0
 have I2:Inv X pins σ (upd H s.heap.objs.size (.tup [.int i,y])) { s with heap:=h2,toks:=tk }:=by
  refine Inv.turnedL (s:={ s with heap:=s.heap.push { cls:=.type "tuple",data:=.seq #[.int i iE,x] },toks:=tk }) (ch:=[e,it]) I1 (fun b o hb q=>?_) eC
  have lg:b≠e:=fun z=>hb (by simp [z])
  have mz:b≠it:=fun z=>hb (by simp [z])
  refine (bE.2 b lg).trans ?_
  rcases Heap.get?_push_cases q with ⟨rfl,rfl⟩ | q'
  ·exact ht
  ·exact hk b o lg mz q'
 refine ⟨.ref s.heap.objs.size,_,I2,rfl,⟨s.heap.objs.size,hp,rfl,rfl⟩,⟨?_,ng h2 bE⟩,fun b hb=>(eC b hb).1⟩
 have:((i+1:Nat):Int)=(i:Int)+1:=by push_cast; rfl
 rw [this]; exact h_
def Ite (K:Fgg)(l:Addr):It:=
 ⟨fun i H=>∃ xs x,SqL K H l xs/\xs[i]?=some x,fun i H y H'=>∃ p x,(∀ xs,SqL K H l xs->xs[i]?=some x)/\H p=none/\y=.ref p/\H'=upd H p (.tup [.int i,x]),fun i H=>∃ xs,SqL K H l xs/\xs.length<=i⟩
theorem zjS_ {P:Program}{w:World}{K:Fgg}{elts:List Expr}{kk:Nat}{pos:Pos}(e it l:Addr)(eD:e≠it):
  Turn P w K (.Tuple elts kk pos) (Ite K l) [e,it] e (fun i h=>(∃ old,IsEnum h e it (i:Nat) old)/\h.IsListIter it l i) where
 mem:=by simp
 obj:=fun i h st b hb=>by
  obtain ⟨⟨old,he⟩,o,ho,c,d⟩:=st
  rcases List.mem_cons.mp hb with rfl | hb
  ·exact ⟨_,he,fun v z=>by cases z⟩
  ·have e:b=it:=by simpa using hb
   subst e
   exact ⟨o,ho,fun v z=>by rw [d] at z; cases z⟩
 keep:=fun i h h' st k=>by
  obtain ⟨⟨old,he⟩,hit⟩:=st
  exact ⟨⟨old,k e (by simp) _ he⟩,hit.at fun o q=>k it (by simp) o q⟩
 item:=by
  intro X hP hw hK hc i pins s σ H E I hf st hg
  subst hP hw hK
  obtain ⟨xs,x,hq,hx⟩:=hg
  obtain ⟨aa,rv,p,hz⟩:=I.list hq
  obtain ⟨u,hu,ru⟩:=rv.get hx
  obtain ⟨⟨old,he⟩,hit⟩:=st
  refine wpAny_pyNext_enum_item he hit p.isList (x:=u) (by simpa using hu) eD fun h1 dD jT lx mD jS=>?_
  refine ⟨_,rfl,?_⟩
  have m4:e<s.heap.objs.size:=Heap.lt_size he
  have jU:it<s.heap.objs.size:=by obtain ⟨o,ho,_⟩:=id hit; exact Heap.lt_size ho
  refine thn (zk9_ (St:=fun h2=>h2.IsListIter it l (i+1)) I hf m4 jU eD dD ru lx mD jS fun h2 hs=>jT.extBut hs.extBut eD.symm) fun _ s2 q=>?_
  obtain ⟨z,H',I2,rz,⟨p,hp,rfl,rfl⟩,⟨h_,hit2⟩,fr⟩:=q
  exact ⟨.ref p,_,I2,rz,⟨p,x,fun ys hy=>by rw [I.list_inj hy hq]; exact hx,hp,rfl,rfl⟩,⟨⟨u,h_⟩,hit2⟩,fr⟩
 done:=by
  intro X hP hw hK hc i pins s σ H E I hf st hg
  subst hP hw hK
  obtain ⟨xs,hq,hx⟩:=hg
  obtain ⟨aa,rv,p,hz⟩:=I.list hq
  obtain ⟨⟨old,he⟩,hit⟩:=st
  have hl:=rv.length
  obtain ⟨f0,f1,f2,f3,f4,f5⟩:=hf it (by simp)
  exact wpAny_pyNext_enum_end (I.ok.hd hc) he hit p.isList (by simp; lia) fun h' eb=>⟨rfl,I.turned (t':=s.toks) (fun b o hb e=>eb b o hb e) f0 f1 f3 f4 f5⟩
 self:=fun _ _ _ _ _ st h=>by
  obtain ⟨⟨old,he⟩,_⟩:=st
  exact wpAny_pyIter_enum he h
theorem zhz_ {P:Program}{w:World}{it:Addr}{x:Str}{t:Tok}(A:Around)(hA:A.handled=none):Draws P w A it [it] x.cps.size (fun i v=>∃ c u,x.cps[i]?=some c/\v=.str ⟨#[c]⟩ u) (fun i h=>h.IsStrIter it (strIterType x) x t i):=by
 cases ha:x.cps.all (·<128)
 ·have e:strIterType x="str_iterator":=by simp [strIterType,ha]
  rw [e]; exact Draws.strWide hA it x t
 ·have e:strIterType x="str_ascii_iterator":=by simp [strIterType,ha]
  rw [e]; exact Draws.strAscii hA it x t
section
variable {X:Cx}{elts:List Expr}{kk:Nat}{eM:Pos}
def iEnumL (K:Fgg)(ta:TA):TI:=fun σ H R=>ta σ H fun vs H1=>∃ a,vs=[.ref a]/\(∃ xs,SqL K H1 a xs)/\R (Ite K a) H1
theorem zjR_ {a:Expr}{ta:TA}{p pos:Pos}(hg:Gl X "enumerate")(hm:X.mg "enumerate"=none)(ha:PA X [a] ta)(hs:starEach [a] X.env=[(false,eval a X.env)]:=by rfl):
  PI X (.Tuple elts kk eM) (.Call (.Name "enumerate" p) [a] [] pos) (iEnumL X.K ta):=by
 intro pins s σ H R I h
 refine Call_ (zhd_ I hg hm (u:=.type "enumerate") (by rfl) (PyProof.Rows.callWith_type1 (thn (ha pos pins s σ H _ I h) fun us s1 af=>?_) hs rfl))
 obtain ⟨vs,H1,I1,r1,q1⟩:=af
 obtain ⟨l,e,⟨xs,hq⟩,q⟩:=q1
 subst e
 cases r1 with
 | cons r rr =>
  cases rr
  cases r
  obtain ⟨aa,rv,p,hz⟩:=I1.list hq
  refine call_enumerate_list p.isList fun h' he hit hsz hk=>?_
  refine wpAny_pyIter_enum (s:={ s1 with heap:=h' }) he ?_
  have I2:Inv X pins σ H1 { s1 with heap:=h' }:=I1.kept (t':=s1.toks) hk
  refine ⟨s1.heap.objs.size+1,[s1.heap.objs.size+1,s1.heap.objs.size],_,_,H1,rfl,I2,zjS_ _ _ l (by simp),⟨⟨_,he⟩,hit⟩,fun b hb=>?_,q⟩
  have lC:s1.heap.objs.size<=b:=by
   rcases List.mem_cons.mp hb with rfl | hb
   ·exact Nat.le_succ _
   ·have e:b=s1.heap.objs.size:=by simpa using hb
    subst e; exact Nat.le_refl _
  exact I1.fpOk lC (I1.hok.fresh lC)
variable {prog:Program}{w:World}{A:Around}{R:Result->Shared->Prop}{s:Shared}
theorem zik_ {elt target iter:Expr}{ifs:List Expr}{scope:Scope}{pos:Pos}{it acc:Value}{env:Env}(I:Nat->Shared->Prop)
  (turn:∀ n s,I n s->wpAny (model prog w) A (pyNext it) (fun r ag=>match r with
   | none=>R (.ok .next) ag
   | some v=>wpAny (model prog w) A (letOwnedTupleGo target it v) (fun _ aH=>wpAny (model prog w) A (assign target env v) (fun _ aM =>
     wpAny (model prog w) A (forIn ifs true fun c r=>if r=true then do let ok <- isTrue c env (eval c env); pure (ForInStep.yield ok) else pure (ForInStep.yield r)) (fun ok cV =>
      if ok=true then wpAny (model prog w) A (eval elt env) (fun x gp =>
       wpAny (model prog w) A (call (.builtin "list.append") [acc,x]) (fun _ gm=>∃ m,m<n/\I m gm) (fun _ _=>False) gp) (fun _ _=>False) cV
      else ∃ m,m<n/\I m cV) (fun _ _=>False) aM) (fun _ _=>False) aH) (fun _ _=>False) ag) (fun _ _=>False) s)
  (n:Nat) (h:I n s):
  codeAny (model prog w) A (.compLoop (.ListComp elt [⟨target,iter,ifs,0⟩] scope pos) 0 it acc env) R s:=by
 refine codeAny_loop rfl I (fun n s hI=>?_) n h
 show wpAny _ A ((compTurn (.ListComp elt [⟨target,iter,ifs,0⟩] scope pos) 0 it acc env).onRaise (fun x=>do noteFrame x env; theTreesLotGoes x)) _ _ s
 refine wpAny_noted ?_
 rw [compTurn_list]
 refine wpAny_bind (wpAny_standAt (wpAny_bind (wpAny_mono (turn n s hI) (fun r ag bj=>?_) fun _ _ h'=>h'.elim)))
 cases r with
 | none=>exact wpAny_pure bj
 | some v =>
  refine wpAny_bind (wpAny_mono bj (fun _ aH da=>?_) fun _ _ h'=>h'.elim)
  refine wpAny_bind (wpAny_mono da (fun _ aM fj=>wpAny_bind (wpAny_mono fj (fun ok cV gM=>?_) fun _ _ h'=>h'.elim)) fun _ _ h'=>h'.elim)
  cases ok with
  | false=>exact wpAny_pure ⟨rfl,gM⟩
  | true =>
   exact wpAny_bind (wpAny_bind (wpAny_mono gM (fun x gp jB=>wpAny_bind (wpAny_mono jB (fun _ gm jA=>wpAny_pure (wpAny_pure ⟨rfl,jA⟩)) fun _ _ h'=>h'.elim)) fun _ _ h'=>h'.elim))
end
def closeL (cells:List (Str×Addr)):List (Str×NameKind)->List (Str×Addr)->Option (List (Str×Addr))
 | [],acc=>some acc
 | (n,k)::r,acc=>if (k == .free)=true then (match cells.lookup n with | some c=>closeL cells r ((n,c)::acc) | none=>none) else closeL cells r acc
theorem zd7_ {env:Env}{f:Str×NameKind->List (Str×Addr)->Sem (ForInStep (List (Str×Addr)))}
  (hf:∀ n k cs,f (n,k) cs=if (k == NameKind.free)=true then (do let c <- cellOf env n; pure (ForInStep.yield ((n,c)::cs))) else pure (ForInStep.yield cs)):
  ∀ (names:List (Str×NameKind)) (acc cl:List (Str×Addr)),closeL env.cells names acc=some cl->(forIn names acc f:Sem (List (Str×Addr)))=pure cl
 | [],acc,cl,h=>by cases h; rfl
 | (n,k)::r,acc,cl,h=>by
  rw [List.forIn_cons,hf]
  unfold closeL at h
  by_cases hk:(k == NameKind.free)=true
  ·rw [if_pos hk] at h
   rw [if_pos hk]
   cases hc:env.cells.lookup n with
   | none=>rw [hc] at h; cases h
   | some c =>
    rw [hc] at h
    have e:cellOf env n=pure c:=by unfold cellOf; rw [hc]
    rw [e]
    simp only [pure_bind]
    exact zd7_ hf r _ cl h
  ·rw [if_neg hk] at h
   rw [if_neg hk]
   simp only [pure_bind]
   exact zd7_ hf r _ cl h
theorem zhO_ {env:Env}{scope:Scope}{cl:List (Str×Addr)}(h:closeL env.cells scope.names []=some cl):closureFor scope env=pure cl:=by
 unfold closureFor
 dsimp only
 rw [zd7_ (env:=env) (fun n k cs=>rfl) scope.names [] cl h]
 rfl
theorem zcN_ {cells:List (Str×Addr)}:∀ (names:List (Str×NameKind)) (acc cl:List (Str×Addr)),closeL cells names acc=some cl->(∀ x c,acc.lookup x=some c->cells.lookup x=some c) ->
  (∀ x c,cl.lookup x=some c->cells.lookup x=some c)
 | [],acc,cl,h,ha=>by cases h; exact ha
 | (n,k)::r,acc,cl,h,ha=>by
  unfold closeL at h
  by_cases hk:(k == NameKind.free)=true
  ·rw [if_pos hk] at h
   cases hc:cells.lookup n with
   | none=>rw [hc] at h; cases h
   | some c =>
    rw [hc] at h
    refine zcN_ r _ cl h fun x c' e=>?_
    rw [List.lookup_cons] at e
    cases hx:x == n with
    | true=>rw [hx] at e; cases e; rw [eq_of_beq hx]; exact hc
    | false=>rw [hx] at e; exact ha x c' e
  ·rw [if_neg hk] at h
   exact zcN_ r _ cl h ha
theorem zei_ {cells:List (Str×Addr)}:∀ (names:List (Str×NameKind)) (acc cl:List (Str×Addr)),closeL cells names acc=some cl->∀ x,((x,NameKind.free)∈names\/∃ c,acc.lookup x=some c)->∃ c,cl.lookup x=some c
 | [],acc,cl,h,x,hx=>by
  cases h
  rcases hx with hx | hx
  ·cases hx
  ·exact hx
 | (n,k)::r,acc,cl,h,x,hx=>by
  unfold closeL at h
  by_cases hk:(k == NameKind.free)=true
  ·rw [if_pos hk] at h
   cases hc:cells.lookup n with
   | none=>rw [hc] at h; cases h
   | some c =>
    rw [hc] at h
    refine zei_ r _ cl h x ?_
    rcases hx with hx | ⟨c',e⟩
    ·rcases List.mem_cons.mp hx with e | hx
     ·cases e; exact .inr ⟨c,by rw [List.lookup_cons,beq_self_eq_true]⟩
     ·exact .inl hx
    ·refine .inr ?_
     rw [List.lookup_cons]
     cases hxn:x == n with
     | true=>exact ⟨c,rfl⟩
     | false=>exact ⟨c',e⟩
  ·rw [if_neg hk] at h
   refine zei_ r _ cl h x ?_
   rcases hx with hx | hx
   ·rcases List.mem_cons.mp hx with e | hx
    ·cases e; exact absurd rfl hk
    ·exact .inl hx
   ·exact .inr hx
theorem ze7_ {scope:Scope}{env:Env}{x:Str}{k:NameKind}(h:(relabel scope env).names.lookup x=some k)(hk:k=.cell\/k=.free)(cB:∀ y∈scope.names,y.2≠.cell):(x,NameKind.free)∈scope.names:=by
 have m:=PySem.mem_of_lookup h
 obtain ⟨⟨n,k0⟩,hm,e⟩:=List.mem_map.mp m
 dsimp only at e
 split at e
 ·rename_i hc
  cases e
  have:k0=.free:=by
   simp only [Bool.and_eq_true,beq_iff_eq] at hc
   exact hc.1.1
  subst this; exact hm
 ·cases e
  rcases hk with rfl | rfl
  ·exact absurd rfl (cB _ hm)
  ·exact hm
def cxComp (X:Cx)(scope:Scope)(cl:List (Str×Addr))(C:Addr)(N:List Str)(fp:List Addr)(s2:Shared)(H2:Hp):Cx where
 prog:=X.prog
 w:=X.w
 K:=X.K
 mg:=X.mg
 base:=X.base
 A:=X.A
 N:=N
 s₀:=s2
 H₀:=H2
 env:=compEnvC scope cl C X.env
 outer:=X.stack
 stack:=X.stack
 ex:=fp
 fn:=fun _=>false
 calm:=X.calm
 pn:=[]
 xe:=fun _ _=>False
structure CScope (X:Cx)(scope:Scope)(cl:List (Str×Addr))(lv:List Str)(fr:List (Str×Nat)):Prop where
 clos:closeL X.env.cells scope.names []=some cl
 cell:∀ y∈scope.names,y.2≠.cell
 kind:scope.kind=.function
 names:∀ z∈scope.names,z.2=.local->scope.names.lookup z.1=some .local
 fr:∀ q∈fr,X.N[q.2]?=some q.1/\(q.1,NameKind.free)∈scope.names/\(X.env.kindOf q.1=some .cell\/X.env.kindOf q.1=some .free) /\
  ((relabel scope X.env).names.lookup q.1=some .cell\/(relabel scope X.env).names.lookup q.1=some .free)
def cN (lv:List Str)(fr:List (Str×Nat)):List Str:=lv++fr.map (·.1)
def cS (lv:List Str)(fr:List (Str×Nat))(σ:St):St:=lv.map (fun _=>none)++fr.map fun q=>(σ[q.2]?).join
theorem zlS_ {X:Cx}{pins:Pnn}{σ:St}{H2:Hp}{s2:Shared}{scope:Scope}{cl:List (Str×Addr)}{lv:List Str}{fr:List (Str×Nat)}{fp:List Addr}{h4:Heap}{tk:Nat}{m:Str->Option Value}{n:Nat}
  (I:Inv X pins σ H2 s2) (S:CScope X scope cl lv fr) (hf:∀ b∈fp,FpOk X pins H2 b) (ay:∀ b∈fp,b<s2.heap.objs.size) (hC:h4.Ns (s2.heap.objs.size+1) m) (hD:h4.get? s2.heap.objs.size=some { cls:=.type "list",data:=.seq #[] n })
  (hk:∀ b o,s2.heap.get? b=some o->h4.get? b=some o):
  Inv (cxComp X scope cl (s2.heap.objs.size+1) (cN lv fr) fp s2 H2) [] (cS lv fr σ) (upd H2 s2.heap.objs.size (.lst [])) { s2 with heap:=h4,toks:=tk }:=by
 have d8:=zcN_ scope.names [] cl S.clos (fun x c e=>by cases e)
 have hW:=zei_ scope.names [] cl S.clos
 have nj:H2 s2.heap.objs.size=none:=I.hok.fresh (Nat.le_refl _)
 have iY:H2 (s2.heap.objs.size+1)=none:=I.hok.fresh (Nat.le_succ _)
 have nq:s2.heap.objs.size+1≠s2.heap.objs.size:=Nat.ne_of_gt (Nat.lt_succ_self _)
 have nr:∀ b∈fp,(b∈X.ex\/X.s₀.heap.objs.size<=b):=fun b hb=>(hf b hb).2.2.2.1
 have fL:∀ x c,cl.lookup x=some c->c<s2.heap.objs.size:=fun x c e=>by
  obtain ⟨v,o,ho,_⟩:=I.cell x c (d8 x c e)
  exact Heap.lt_size ho
 refine ⟨⟨I.ok.mod,S.kind,I.ok.glob,I.ok.blt,Nat.le_succ _,fun x y c h1 h2=>I.ok.inj x y c (d8 x c h1) (d8 y c h2),fun x hx=>?_,fun x c hX=>(by cases hX),I.ok.hd,I.ok.frames,.inl rfl,fun b hb=>?_,I.bs,Nat.le_trans I.ok.bsz I.sz,fun b o e hb=>?_,fun b hb z=>?_,I.stack,I.stkFree⟩,
  rfl,I.bare,?_,⟨m,hC,fun i x v h1 h2 h3=>?_⟩,fun x c e=>?_,?_,fun x c e=>?_,fun p hp=>absurd (show p∈([]:Pnn) from hp) (by simp),?_,?_⟩
 ·-- has
  have mG:(relabel scope X.env).names.lookup x=some .cell\/(relabel scope X.env).names.lookup x=some .free:=hx
  have hm:(x,NameKind.free)∈scope.names:=mG.elim (fun z=>ze7_ z (.inl rfl) S.cell) fun z=>ze7_ z (.inr rfl) S.cell
  exact hW x (.inl hm)
 ·-- exf
  obtain ⟨f0,f1,f2,f3,f4,f5⟩:=hf b hb
  refine ⟨fun z=>?_,fun x c e=>f4 x c (d8 x c e)⟩
  have z':b=s2.heap.objs.size+1:=z
  have:=ay b hb
  rw [z'] at this
  exact absurd this (Nat.not_lt.mpr (Nat.le_succ _))
 ·rcases nr b hb with z | z
  ·exact I.ok.noex b o e z
  ·exact absurd (Nat.lt_of_lt_of_le (Nat.lt_of_lt_of_le (Heap.lt_size e) I.ok.bsz) z) (Nat.lt_irrefl _)
 ·obtain ⟨f0,f1,f2,_⟩:=hf b hb
  rcases List.mem_cons.mp (I.stkSub b z) with q | q
  ·exact f1 q
  ·exact f2 q
 ·exact Un.laid hk (Nat.le_refl _) nj
 ·-- loc
  have h1':(lv++fr.map (·.1))[i]?=some x:=h1
  have d9:(lv.map (fun _=>none)++fr.map fun q=>(σ[q.2]?).join:St)[i]?=some (some v):=h2
  by_cases hi:i<lv.length
  ·rw [List.getElem?_append_left (by simpa using hi),List.getElem?_map] at d9
   cases hq:lv[i]? with
   | none=>rw [hq] at d9; cases d9
   | some z=>rw [hq] at d9; cases d9
  ·rw [List.getElem?_append_right (by simpa using hi),List.getElem?_map] at d9
   rw [List.getElem?_append_right (by lia),List.getElem?_map] at h1'
   simp only [List.length_map] at d9
   cases hq:fr[i-lv.length]? with
   | none=>rw [hq] at h1'; cases h1'
   | some q =>
    rw [hq] at h1' d9
    have e1:q.1=x:=Option.some.inj h1'
    have e2:(σ[q.2]?).join=some v:=Option.some.inj d9
    have e3:σ[q.2]?=some (some v):=by
     cases hz:σ[q.2]? with
     | none=>rw [hz] at e2; cases e2
     | some z=>rw [hz] at e2; exact congrArg some e2
    obtain ⟨g1,g2,g3,g4⟩:=S.fr q (List.mem_of_getElem? hq)
    obtain ⟨m0,hn0,hl0⟩:=I.loc
    have mr:Vis X.env.scope q.1:=by
     rcases g3 with g3 | g3
     ·exact .inr (.inl g3)
     ·exact .inr (.inr g3)
    obtain ⟨u,r,l⟩:=hl0 q.2 q.1 v g1 e3 mr
    refine ⟨u,r,.inr ⟨?_,?_⟩⟩
    ·rw [<- e1]; exact g4
    ·rcases l with ⟨lk,_⟩ | ⟨_,c,ec,ic⟩
     ·rcases g3 with g3 | g3<;>(rw [lk] at g3; cases g3)
     ·obtain ⟨c',ec'⟩:=hW q.1 (.inl g2)
      have:c'=c:=by
       have:=d8 q.1 c' ec'
       rw [ec] at this; exact (Option.some.inj this).symm
      subst this
      obtain ⟨o,ho,hd⟩:=ic
      exact ⟨c',by rw [<- e1]; exact ec',o,hk _ _ ho,hd⟩
 ·obtain ⟨v,o,ho,hd⟩:=I.cell x c (d8 x c e)
  exact ⟨v,o,hk _ _ ho,hd⟩
 ·show upd H2 _ _ (s2.heap.objs.size+1)=none
  rw [zZ_ nq]; exact iY
 ·have:=fL x c e
  rw [zZ_ (Nat.ne_of_lt this)]
  exact I.freeC x c (d8 x c e)
 ·exact I.hok.laid hk (Nat.le_refl _) ⟨Nat.zero_le _,[],n,.nil,hD⟩
 ·show (cS lv fr σ).length=(cN lv fr).length
  simp [cS,cN]
def PIf (X:Cx)(ifs:List Expr)(t:TT):Prop:=
 ∀ (pins:Pnn) (s:Shared) (σ:St) (H:Hp) (Q:Bool->Hp->Prop),Inv X pins σ H s->t σ H Q ->
  wpAny (model X.prog X.w) X.A (forIn ifs true fun c r=>if r=true then do let ok <- isTrue c X.env (eval c X.env); pure (ForInStep.yield ok) else pure (ForInStep.yield r)) (TP X pins σ Q) X.xe s
def tTrue:TT:=fun _ H Q=>Q true H
theorem zaJ_ {X:Cx}:PIf X [] tTrue:=fun pins s σ H Q I h=>wpAny_tests_nil ⟨H,I,h⟩
def tCompR (J:It)(g:TG)(tt:TT)(te:TE)(l9:St)(H1:Hp)(Q:VK):Prop:=
 ∀ D,H1 D=none->∃ W:Nat->Nat->List V->St->Hp->Prop,(∃ m,W 0 m [] l9 (upd H1 D (.lst [])))/\∀ i m ys σ H,W i m ys σ H ->
  (J.stop i H/\Q (.ref D) H)\/(J.go i H/\∃ N:List V->St->Hp->Prop,(∀ fO ai H',N fO ai H'->∃ m',m'<m/\W (i+1) m' fO ai H') /\
   ∀ x H',J.yld i H x H'->g x σ H' fun fN H2=>tt fN H2 fun b H3=>if b=true then te fN H3 fun v H4=>H4 D=some (.lst ys)/\ys.length<sizeLine/\N (ys++[v]) fN (upd H4 D (.lst (ys++[v]))) else N ys fN H3)
section
variable {X:Cx}{scope:Scope}{cl:List (Str×Addr)}{lv:List Str}{fr:List (Str×Nat)}{elt tg iter:Expr}{ifs:List Expr}{pos:Pos}{g:TG}{tt:TT}{te:TE}
theorem zgj_ {pins:Pnn}{σ:St}{H2:Hp}{s2:Shared}{it:Addr}{fp:List Addr}{tn:Nat->Heap->Prop}{J:It}{Q:VK}{E:Value->Shared->Prop}{use:Option (Value->Sem Unit)}{Q':Value->Shared->Prop}
  (I:Inv X pins σ H2 s2) (S:CScope X scope cl lv fr) (T:Turn X.prog X.w X.K tg J fp it tn) (st:tn 0 s2.heap) (hf:∀ b∈fp,FpOk X pins H2 b) (hc:X.calm=true)
  (hg:∀ C fp s2 H2,PG (cxComp X scope cl C (cN lv fr) fp s2 H2) tg g) (ht:∀ C fp s2 H2,PIf (cxComp X scope cl C (cN lv fr) fp s2 H2) ifs tt) (he:∀ C fp s2 H2,PE (cxComp X scope cl C (cN lv fr) fp s2 H2) elt te)
  (hq:tCompR J g tt te (cS lv fr σ) H2 Q)
  (fin:∀ D C oC H' s',Inv X (pins++[(C,oC)]) σ H' s'->(∀ h:Heap,h.get? C=some oC->∃ m,h.Ns C m)->FpOk X pins H' C->Q (.ref D) H'->compPost (model X.prog X.w) X.A E use Q' (.ref D) C (.ok .next) s'):
  wpAny (model X.prog X.w) X.A (newList []) (fun acc aM=>wpAny (model X.prog X.w) X.A (newFunctionEnv scope X.env.globals cl [] X.env.qual none .none (some X.env)) (fun il cV =>
   codeAny (model X.prog X.w) X.A (.compStart (.ListComp elt [⟨tg,iter,ifs,0⟩] scope pos) 0 (.ref it) acc { il with scope:=relabel scope X.env }) (compPost (model X.prog X.w) X.A E use Q' acc il.locals) cV) E aM) E s2:=by
 have ay:∀ b∈fp,b<s2.heap.objs.size:=fun b hb=>by
  obtain ⟨o,ho,_⟩:=T.obj 0 _ st b hb
  exact Heap.lt_size ho
 refine wpAny_newList (wpAny_newFunctionEnv S.cell (by intro y hy; simp at hy) (fun bj cq bD=>?_) S.kind)
 dsimp only at cq bD ⊢
 have hsz:(s2.heap.push { cls:=.type "list",data:=.seq ([]:List Value).toArray }).objs.size=s2.heap.objs.size+1:=Heap.size_push ..
 rw [hsz] at cq bD ⊢
 have old:∀ b o,s2.heap.get? b=some o->bj.get? b=some o:=fun b o e=>bD.extBut b o (Nat.ne_of_lt (Nat.lt_succ_of_lt (Heap.lt_size e))) (Heap.get?_push_of_some _ (Heap.get?_push_of_some _ e))
 have bq:bj.get? s2.heap.objs.size=some { cls:=.type "list",data:=.seq #[] }:=bD.extBut _ _ (Nat.ne_of_lt (Nat.lt_succ_self _)) (Heap.get?_push_of_some _ (Heap.get?_push_size _ rfl))
 have I4:Inv (cxComp X scope cl (s2.heap.objs.size+1) (cN lv fr) fp s2 H2) [] (cS lv fr σ) (upd H2 s2.heap.objs.size (.lst [])) { s2 with heap:=bj,toks:=s2.toks+([]:List (Str×Value)).length }:=
  zlS_ I S hf ay cq bq old
 generalize bX:cxComp X scope cl (s2.heap.objs.size+1) (cN lv fr) fp s2 H2=X' at I4
 have eP:X'.prog=X.prog:=by rw [<- bX]; rfl
 have ew:X'.w=X.w:=by rw [<- bX]; rfl
 have eK:X'.K=X.K:=by rw [<- bX]; rfl
 have eA:X'.A=X.A:=by rw [<- bX]; rfl
 have ec:X'.calm=true:=by rw [<- bX]; exact hc
 have ex:X'.xe=fun _ _=>False:=by rw [<- bX]; rfl
 have fI:X'.env=compEnvC scope cl (s2.heap.objs.size+1) X.env:=by rw [<- bX]; rfl
 have m3:PG X' tg g:=bX ▸ hg _ _ _ _
 have fo:PIf X' ifs tt:=bX ▸ ht _ _ _ _
 have m5:PE X' elt te:=bX ▸ he _ _ _ _
 obtain ⟨W,⟨m0,w0⟩,turn⟩:=hq s2.heap.objs.size (I.hok.fresh (Nat.le_refl _))
 have dy:tn 0 bj:=T.keep _ _ _ st fun b _ o e=>old b o e
 have f4:∀ b∈fp,FpOk X' [] (upd H2 s2.heap.objs.size (.lst [])) b:=fun b hb=>by
  obtain ⟨f0,f1,f2,f3,f4,f5⟩:=hf b hb
  have:=ay b hb
  refine ⟨?_,?_,?_,.inl ?_,?_,?_⟩
  ·rw [zZ_ (Nat.ne_of_lt this)]; exact f0
  ·rw [fI]; exact Nat.ne_of_lt (Nat.lt_succ_of_lt this)
  ·intro z
   have z':b∈frs X.stack:=by rw [<- bX] at z; exact z
   rcases List.mem_cons.mp (I.stkSub b z') with q | q
   ·exact f1 q
   ·exact f2 q
  ·rw [<- bX]; exact hb
  ·intro x c e
   rw [fI] at e
   exact f4 x c (zcN_ scope.names [] cl S.clos (fun x c e=>by cases e) x c e)
  ·intro p hp
   rw [<- bX] at hp
   exact absurd (show p∈([]:Pnn) from hp) (by simp)
 have cb:∀ {H':Hp},(∀ b∈fp,H' b=none)->∀ b∈fp,FpOk X' [] H' b:=fun hn b hb=>⟨hn b hb,(f4 b hb).2⟩
 have loop:∀ aM:Shared,aM={ s2 with heap:=bj,toks:=s2.toks+([]:List (Str×Value)).length } ->
   codeAny (model X.prog X.w) X.A (.compLoop (.ListComp elt [⟨tg,iter,ifs,0⟩] scope pos) 0 (.ref it) (.ref s2.heap.objs.size) (compEnvC scope cl (s2.heap.objs.size+1) X.env))
    (compPost (model X.prog X.w) X.A E use Q' (.ref s2.heap.objs.size) (s2.heap.objs.size+1)) aM:=by
  rintro aM rfl
  refine zik_ (fun n s'=>∃ i ys ai H',Inv X' [] ai H' s'/\tn i s'.heap/\(∀ b∈fp,H' b=none)/\W i n ys ai H') ?_ m0 ⟨0,[],_,_,I4,dy,fun b hb=>(f4 b hb).1,w0⟩
  rintro n s3 ⟨i,ys,cJ,H3,I3,st3,fr3,w3⟩
  rcases turn i n ys cJ H3 w3 with ⟨stop,qn⟩ | ⟨go,N,hN,step⟩
  ·have a0:=T.done X' eP ew eK ec i [] s3 cJ H3 (fun _ _=>False) I3 (cb fr3) st3 stop
   rw [eA] at a0
   refine thn a0 fun r s4 af=>?_
   obtain ⟨hr,I4'⟩:=af
   subst hr
   have un:Un (frs X.stack) fp H2 H3 s2.heap s4.heap:=by
    have:=I4'.base
    rw [<- bX] at this
    exact this
   have os:s4.os=s2.os:=by
    have:=I4'.os
    rw [<- bX] at this
    exact this
   have hok:HOk X.prog X.w H3 s4.heap:=by
    have:=I4'.hok
    rw [<- bX] at this
    exact this
   have J1:Inv X pins σ H3 s4:=I.call' os un hok I4'.bare fun b hb=>by
    obtain ⟨f0,f1,f2,f3,f4,f5⟩:=hf b hb
    exact ⟨f3,f1,f4,f5⟩
   obtain ⟨m,hn,_⟩:=I4'.loc
   have jP:s4.heap.Ns (s2.heap.objs.size+1) m:=by rw [fI] at hn; exact hn
   have iY:H3 (s2.heap.objs.size+1)=none:=by
    have:=I4'.free
    rw [fI] at this; exact this
   have fC:FpOk X pins H3 (s2.heap.objs.size+1):=I.fpOk (Nat.le_succ _) iY
   obtain ⟨oC,es,ep,hoC,hdC,rC⟩:=id jP
   have J2:Inv X (pins++[(s2.heap.objs.size+1,oC)]) σ H3 s4:=J1.pins_of fun p hp=>by
    rcases List.mem_append.mp hp with hp | hp
    ·exact J1.pin p (List.mem_append_right _ hp)
    ·have e:p=(s2.heap.objs.size+1,oC):=by simpa using hp
     subst e
     exact ⟨hoC,iY,fC.2.1,fC.2.2.1,fun v z=>by rw [hdC] at z; cases z⟩
   exact fin _ _ oC H3 s4 J2 (fun h e=>⟨m,oC,es,ep,e,hdC,rC⟩) fC qn
  ·have a0:=T.item X' eP ew eK ec i [] s3 cJ H3 (fun _ _=>False) I3 (cb fr3) st3 go
   rw [eA] at a0
   refine thn a0 fun r s4 af=>?_
   obtain ⟨u,hr,h4⟩:=af
   subst hr
   refine thn h4 fun _ s5 af=>?_
   obtain ⟨x,H5,I5,r5,y5,st5,fr5⟩:=af
   have kK:=I5.pinned (cb fr5) (T.obj _ _ st5)
   have a1:=m3 _ s5 cJ H5 x u _ kK r5 (step x H5 y5)
   rw [eP,ew,eA,fI,ex] at a1
   refine thn a1 fun _ s6 af=>?_
   obtain ⟨dv,H6,I6,q6⟩:=af
   have a2:=fo _ s6 dv H6 _ I6 q6
   rw [eP,ew,eA,fI,ex] at a2
   refine thn a2 fun ok s7 af=>?_
   obtain ⟨H7,I7,q7⟩:=af
   have again:∀ {iy:List V}{H7:Hp}{s7:Shared},Inv X' ([]++pinsAt fp s5.heap) dv H7 s7->N iy dv H7->∃ m,m<n/\∃ i ys ai H',Inv X' [] ai H' s7/\tn i s7.heap/\(∀ b∈fp,H' b=none)/\W i m ys ai H':=fun {iy H7 s7} I7 n7=>by
    obtain ⟨m',hm,w7⟩:=hN iy dv H7 n7
    refine ⟨m',hm,i+1,iy,dv,H7,I7.unpinned,T.keep _ _ _ st5 fun b hb o e=>(I7.pin (b,o) (List.mem_append_right _ (List.mem_append_right _ (zcJ_ hb e)))).1,fun b hb=>?_,w7⟩
    obtain ⟨o,e,d⟩:=T.obj _ _ st5 b hb
    exact (I7.pin (b,o) (List.mem_append_right _ (List.mem_append_right _ (zcJ_ hb e)))).2.1
   cases ok with
   | false=>exact again I7 q7
   | true =>
    have a3:=m5 _ s7 dv H7 _ I7 q7
    rw [eP,ew,eA,fI,ex] at a3
    refine thn a3 fun y s8 af=>?_
    obtain ⟨v,H8,I8,r8,hD8,hl8,n8⟩:=af
    have a4:=zaC_ (X:=X') _ s8 dv H8 (.ref s2.heap.objs.size) [v] (.ref s2.heap.objs.size) [y] (fun _ H9=>N (ys++[v]) dv H9) I8 rfl (.cons r8 .nil) ⟨_,_,_,rfl,rfl,hD8,hl8,n8⟩
    rw [eP,ew,eA,ex] at a4
    refine thn a4 fun _ s9 af=>?_
    obtain ⟨v9,H9,I9,_,n9⟩:=af
    exact again I9 n9
 exact codeAny_compStart_list (loop _ rfl) (T.self _ 0 _ _ _ dy (loop _ rfl))
def tComp (lv:List Str)(fr:List (Str×Nat))(wi:TI)(g:TG)(tt:TT)(te:TE):TE:=fun σ H Q=>wi σ H fun J H1=>tCompR J g tt te (cS lv fr σ) H1 Q
theorem zcu_ {wi:TI}(hc:X.calm=true)(S:CScope X scope cl lv fr)(hi:PI X tg iter wi)
  (hg:∀ C fp s2 H2,PG (cxComp X scope cl C (cN lv fr) fp s2 H2) tg g) (ht:∀ C fp s2 H2,PIf (cxComp X scope cl C (cN lv fr) fp s2 H2) ifs tt) (he:∀ C fp s2 H2,PE (cxComp X scope cl C (cN lv fr) fp s2 H2) elt te)
  (hs:∀ x,foldedSetIterable iter X.env x=pure x:=by intro _; rfl):PE X (.ListComp elt [⟨tg,iter,ifs,0⟩] scope pos) (tComp lv fr wi g tt te):=by
 intro pins s σ H Q I h
 rw [eval_ListComp]
 refine wpAny_comprehension_free (use:=none) rfl hs (zhO_ S.clos) S.kind S.names ?_
 refine thn (hi pins s σ H _ I h) fun v s1 h1=>thn h1 fun iU s2 h2=>?_
 obtain ⟨it,fp,tn,J,H2,e,I2,T,cD,f2,q⟩:=h2
 subst e
 refine zgj_ I2 S T cD f2 hc hg ht he q fun D C oC H' s' J1 j6 fC qD=>?_
 have hp:=J1.pin (C,oC) (List.mem_append_right _ (List.mem_append_right _ (List.mem_singleton.mpr rfl)))
 obtain ⟨m,hm⟩:=j6 s'.heap hp.1
 refine ⟨m,hm,fun h' bR=>?_⟩
 exact ⟨.ref D,H',J1.unpinned.turned (t':=s'.toks) (fun b o hb e=>(bR.2 b hb).trans e) fC.1 fC.2.1 fC.2.2.2.1 fC.2.2.2.2.1 fC.2.2.2.2.2,rfl,qD⟩
theorem zb0_ {wi:TI}{j:Nat}{y:Str}{py gq:Pos}(hc:X.calm=true)(S:CScope X scope cl lv fr)(hi:PI X tg iter wi)
  (hg:∀ C fp s2 H2,PG (cxComp X scope cl C (cN lv fr) fp s2 H2) tg g) (ht:∀ C fp s2 H2,PIf (cxComp X scope cl C (cN lv fr) fp s2 H2) ifs tt) (he:∀ C fp s2 H2,PE (cxComp X scope cl C (cN lv fr) fp s2 H2) elt te)
  (hy:PG X (.Name y py) (gName j))
  (mL:swapsWith (.ListComp elt [⟨tg,iter,ifs,0⟩] scope pos) (some (.Name y py)) gq.line X.env=pure true:=by rfl)
  (hs:∀ x,foldedSetIterable iter X.env x=pure x:=by intro _; rfl):PS X (.Assign [.Name y py] (.ListComp elt [⟨tg,iter,ifs,0⟩] scope pos) gq) (tAsg (tComp lv fr wi g tt te) (gName j)):=by
 intro pins s σ H D I h
 rw [exec_Assign_Name_used _ _ _ _ mL]
 refine wpAny_bind (wpAny_standAt (wpAny_bind ?_))
 show wpAny _ X.A (do let _ <- comprehension (.ListComp elt [⟨tg,iter,ifs,0⟩] scope pos) scope X.env _ (newList []) false (eval iter X.env) (some (assign (.Name y py) X.env))) _ _ s
 refine wpAny_bind (wpAny_mono (wpAny_comprehension_free (use:=some (assign (.Name y py) X.env)) (Q:=fun _ s'=>SP X pins D .next s') rfl hs (zhO_ S.clos) S.kind S.names ?_) (fun _ s' hq=>wpAny_pure (wpAny_pure hq)) fun _ _ e=>e)
 refine thn (hi pins s σ H _ I h) fun v s1 h1=>thn h1 fun iU s2 h2=>?_
 obtain ⟨it,fp,tn,J,H2,e,I2,T,cD,f2,q⟩:=h2
 subst e
 refine zgj_ I2 S T cD f2 hc hg ht he q fun D' C oC H' s' J1 j6 fC qD=>?_
 show wpAny _ X.A (assign (.Name y py) X.env (.ref D')) _ _ _
 refine thn (hy _ s' σ H' (.ref D') (.ref D') _ J1 rfl qD) fun _ s3 af=>?_
 obtain ⟨cJ,H3,I3,q3⟩:=af
 have hp:=I3.pin (C,oC) (List.mem_append_right _ (List.mem_append_right _ (List.mem_singleton.mpr rfl)))
 obtain ⟨m,hm⟩:=j6 s3.heap hp.1
 refine ⟨m,hm,fun h' bR=>?_⟩
 have ik:FpOk X pins H3 C:=⟨hp.2.1,fC.2⟩
 exact ⟨cJ,H3,I3.unpinned.turned (t':=s3.toks) (fun b o hb e=>(bR.2 b hb).trans e) ik.1 ik.2.1 ik.2.2.2.1 ik.2.2.2.2.1 ik.2.2.2.2.2,q3⟩
end
abbrev tx (l:List Nat):V:=.str ⟨l.toArray⟩
def br (b:Bool)(A B:Prop):Prop:=(b=true->A)/\(b=false->B)
theorem znw_ (a b:Str):a++b=⟨(a.cps.toList++b.cps.toList).toArray⟩:=by
 cases a; cases b
 show Str.mk (_++_)=_
 simp
theorem zcp_ (a:Str):a=⟨a.cps.toList.toArray⟩:=by cases a; simp
def cutL (l:List Nat)(lo hi:Option Int):List Nat:=(l.drop (HT.sIx l.length 0 lo)).take (HT.sIx l.length l.length hi-HT.sIx l.length 0 lo)
theorem zew_ (lo hi:Option Int)(n:Nat):Builtin.Str.strSliceIndices lo hi 1 n=sliceRange ((HT.sIx n 0 lo:Nat):Int) ((HT.sIx n n hi:Nat):Int) 1:=by
 unfold Builtin.Str.strSliceIndices
 simp only [show (1:Int) > 0 by decide,if_true]
 congr 1
 ·cases lo with
  | none=>simp [HT.sIx]
  | some i =>
   simp only [HT.sIx]
   by_cases h:i<0
   ·simp only [h,if_true]<;>lia
   ·simp only [h,if_false]<;>lia
 ·cases hi with
  | none=>simp [HT.sIx]
  | some i =>
   simp only [HT.sIx]
   by_cases h:i<0
   ·simp only [h,if_true]<;>lia
   ·simp only [h,if_false]<;>lia
theorem ziV_ (x:Str)(lo hi:Option Int):(Builtin.Str.strSliceIndices lo hi 1 x.length).filterMap (x.cps[·]?)=cutL x.cps.toList lo hi:=by
 rw [zew_,sliceRange_one,pick_run]
 unfold cutL Str.length
 simp only [Array.length_toList]
theorem zfE_ (l:List Nat)(lo hi:Option Int):(cutL l lo hi).length<=l.length:=by
 unfold cutL
 rw [List.length_take,List.length_drop]
 lia
theorem zkw_ {l:List Nat}{lo hi:Option Int}(h:(cutL l lo hi).length=l.length):cutL l lo hi=l:=by
 unfold cutL at h ⊢
 rw [List.length_take,List.length_drop] at h
 have h1:HT.sIx l.length l.length hi<=l.length:=HT.sIx_le _ _ (Nat.le_refl _) _
 by_cases hl:l.length=0
 ·have:l=[]:=List.length_eq_zero_iff.mp hl
  subst this
  simp
 ·have h2:HT.sIx l.length 0 lo=0:=by lia
  rw [h2,List.drop_zero,List.take_of_length_le]
  lia
section
variable {X:Cx}
def rSlS:V->Option Int->Option Int->Hp->VK->Prop:=fun x lo hi H Q=>match x with | .str z=>z.length<=sizeLine/\Q (tx (cutL z.cps.toList lo hi)) H | _=>False
theorem zcB_ {v:Value}{o:Option Int}(p:IsPart v o):∃ l:Option (Int×Tok),v=partValue l/\l.map (·.1)=o:=by
 cases p with
 | none=>exact ⟨none,rfl,rfl⟩
 | int i t=>exact ⟨some (i,t),rfl,rfl⟩
theorem zpX_:SlR X rSlS:=by
 intro pins s σ H x v vl vu lo hi sl Q I rx hs pl pu h
 cases x with
 | str z =>
  obtain ⟨hz,q⟩:=h
  obtain ⟨t,rfl⟩:=rx
  obtain ⟨l,rfl,rfl⟩:=zcB_ pl
  obtain ⟨u,rfl,rfl⟩:=zcB_ pu
  refine ⟨"str",_,F.slot_str_getitem.lookup,typeIs_str _ _ _,?_⟩
  refine wpAny_getItem_str_slice (l:=l) (u:=u) (st:=none) hs rfl ?_
  unfold sliceMade
  have e:slicePicked z l u none=Builtin.Str.strSliceIndices (l.map (·.1)) (u.map (·.1)) 1 z.length:=rfl
  rw [e]
  have hlen:(Builtin.Str.strSliceIndices (l.map (·.1)) (u.map (·.1)) 1 z.length).length=(cutL z.cps.toList (l.map (·.1)) (u.map (·.1))).length:=by
   rw [zew_,sliceRange_one,List.length_map,List.length_range]
   unfold cutL
   rw [List.length_take,List.length_drop]
   have h1:HT.sIx z.length z.length (u.map (·.1))<=z.length:=HT.sIx_le _ _ (Nat.le_refl _) _
   have h2:z.cps.toList.length=z.length:=by simp [Str.length]
   rw [h2]
   lia
  split
  ·rename_i hc
   have dF:(cutL z.cps.toList (l.map (·.1)) (u.map (·.1))).length=z.cps.toList.length:=by
    rw [<- hlen]
    simpa [Str.length] using hc
   rw [zkw_ dF] at q
   have q':Q (.str z) H:=by rw [zcp_ z]; exact q
   exact ⟨.str z,H,I,⟨_,rfl⟩,q'⟩
  ·rw [ziV_]
   have h3:=zfE_ z.cps.toList (l.map (·.1)) (u.map (·.1))
   have h2:z.cps.toList.length=z.length:=by simp [Str.length]
   refine ⟨?_,tx (cutL z.cps.toList (l.map (·.1)) (u.map (·.1))),H,I.tok _,⟨_,rfl⟩,q⟩
   show (cutL z.cps.toList (l.map (·.1)) (u.map (·.1))).toArray.size<=sizeLine
   rw [List.size_toArray]
   exact Nat.le_trans h3 (by rw [h2]; exact hz)
 | _=>exact h.elim
end
def mVar (i:Nat):TE:=fun σ H Q=>match σ[i]? with | some (some v)=>Q v H | _=>False
section
variable {X:Cx}{a b c:Expr}{ta tb tc:TE}{pos:Pos}
theorem za_ (i:Nat){x:Str}{pos:Pos}(hN:X.N[i]?=some x:=by rfl)(hv:Vis X.env.scope x:=by first | exact Or.inl rfl | exact Or.inr (Or.inl rfl) | exact Or.inr (Or.inr rfl))(hd:(x==("__debug__":Str))=false:=by decide)
  (bT:(x==("__classdict__":Str))=false:=by decide):PE X (.Name x pos) (mVar i):=by
 intro pins s σ H Q I h
 unfold mVar at h
 cases e:σ[i]? with
 | none=>rw [e] at h; exact h.elim
 | some o =>
  rw [e] at h
  cases o with
  | none=>exact h.elim
  | some v=>exact zp9_ hN hv hd bT pins s σ H Q I ⟨v,e,h⟩
theorem zaa_ {x:Str}{l:List Nat}{j pos}(h:x=⟨l.toArray⟩:=by rfl):PE X (.Constant (.str x) j pos) (tC (tx l)):=h ▸ zqE_
def mAdd:R2:=fun x y H Q=>match x,y with
 | .int i,.int j=>Q (.int (i+j)) H
 | .str a,.str b=>a.cps.toList.length+b.cps.toList.length<=sizeLine/\Q (tx (a.cps.toList++b.cps.toList)) H
 | .ref a,.ref b=>∃ xs zs,H a=some (.lst xs)/\H b=some (.lst zs)/\xs.length+zs.length<=sizeLine/\∀ p,H p=none->Q (.ref p) (upd H p (.lst (xs++zs)))
 | _,_=>False
theorem zy_:OpR X (binaryOp .Add) mAdd:=by
 intro pins s σ H x y v u Q I rx ry h
 cases x<;>cases y<;>first
  | exact h.elim
  | exact zqS_ pins s σ H _ _ v u Q I rx ry ⟨_,_,rfl,rfl,h⟩
  | exact ziz_ pins s σ H _ _ v u Q I rx ry ⟨_,_,rfl,rfl,by simpa [Str.length] using h.1,by rw [znw_]; exact h.2⟩
  | (obtain ⟨xs,zs,h1,h2,h3,h4⟩:=h; exact zqT_ pins s σ H _ _ v u Q I rx ry ⟨_,_,xs,zs,rfl,rfl,h1,h2,h3,h4⟩)
def mI (C:Int->Int->Prop)(g:Int->Int->V):R2:=fun x y H Q=>match x,y with | .int i,.int j=>C i j/\Q (g i j) H | _,_=>False
def mI0 (g:Int->Int->V):R2:=fun x y H Q=>match x,y with | .int i,.int j=>Q (g i j) H | _,_=>False
theorem opM {f:Value->Value->Sem Value}{C:Int->Int->Prop}{g:Int->Int->V}(h:OpR X f (rI C g)):OpR X f (mI C g):=by
 intro pins s σ H x y v u Q I rx ry q
 cases x<;>cases y<;>first | exact q.elim | exact h pins s σ H _ _ v u Q I rx ry ⟨_,_,rfl,rfl,q.1,q.2⟩
theorem opM0 {f:Value->Value->Sem Value}{g:Int->Int->V}(h:OpR X f (rI0 g)):OpR X f (mI0 g):=by
 intro pins s σ H x y v u Q I rx ry q
 cases x<;>cases y<;>first | exact q.elim | exact h pins s σ H _ _ v u Q I rx ry ⟨_,_,rfl,rfl,q⟩
abbrev mSub:R2:=mI0 fun i j=>.int (i-j)
abbrev mMod:R2:=mI (fun _ j=>0<j) fun i j=>.int (i % j)
theorem zd5_:OpR X (binaryOp .Sub) mSub:=opM0 zp7_
theorem zU_:OpR X (binaryOp .Mod) mMod:=opM zqI_
abbrev mLt:R2:=mI0 fun i j=>.bl (decide (i<j))
abbrev mLe:R2:=mI0 fun i j=>.bl (decide (i<=j))
abbrev mGt:R2:=mI0 fun i j=>.bl (decide (j<i))
abbrev mGe:R2:=mI0 fun i j=>.bl (decide (j<=i))
theorem zlK_:OpR X (compareOp .Lt) mLt:=opM0 op_lt
theorem zbV_:OpR X (compareOp .LtE) mLe:=opM0 op_le
theorem znk_:OpR X (compareOp .Gt) mGt:=opM0 op_gt
theorem zp3_:OpR X (compareOp .GtE) mGe:=opM0 op_ge
def mIsB (x y:V):Option Bool:=match y with
 | .non=>some (decide (x=.non))
 | .bl b=>(match x with | .bl a=>some (decide (a=b)) | _=>none)
 | _=>none
def mIs:R2:=fun x y H Q=>match mIsB x y with | some b=>Q (.bl b) H | none=>False
def mIsNot:R2:=fun x y H Q=>match mIsB x y with | some b=>Q (.bl (!b)) H | none=>False
theorem zmh_ {M:Model}{A:Around}{E:Value->Shared->Prop}{s:Shared}{a b:Bool}{Q:Value->Shared->Prop}(h:Q (.bool (decide (a=b))) s):wpAny M A (compareOp .Is (.bool a) (.bool b)) Q E s:=by
 cases a<;>cases b<;>exact wpAny_pure h
theorem zii_ {M:Model}{A:Around}{E:Value->Shared->Prop}{s:Shared}{a b:Bool}{Q:Value->Shared->Prop}(h:Q (.bool (!decide (a=b))) s):wpAny M A (compareOp .IsNot (.bool a) (.bool b)) Q E s:=by
 cases a<;>cases b<;>exact wpAny_pure h
theorem zk8_:OpR X (compareOp .Is) mIs:=by
 intro pins s σ H x y v u Q I rx ry h
 unfold mIs mIsB at h
 cases y with
 | non=>exact zqM_ pins s σ H x _ v u Q I rx ry ⟨rfl,h⟩
 | bl b =>
  cases x with
  | bl a=>cases rx; cases ry; exact zmh_ ⟨.bl _,H,I,rfl,h⟩
  | _=>exact h.elim
 | _=>exact h.elim
theorem zft_:OpR X (compareOp .IsNot) mIsNot:=by
 intro pins s σ H x y v u Q I rx ry h
 unfold mIsNot mIsB at h
 cases y with
 | non=>exact zok_ pins s σ H x _ v u Q I rx ry ⟨rfl,h⟩
 | bl b =>
  cases x with
  | bl a=>cases rx; cases ry; exact zii_ ⟨.bl _,H,I,rfl,h⟩
  | _=>exact h.elim
 | _=>exact h.elim
def inS (l:List Nat)(t:List Nat):Bool:=match l with | [c]=>decide (c∈t) | _=>!(Builtin.Str.occurrences ⟨t.toArray⟩ ⟨l.toArray⟩ 0 t.length 1).isEmpty
theorem zls_ (a b:Str):(!(Builtin.Str.occurrences b a 0 b.length 1).isEmpty)=inS a.cps.toList b.cps.toList:=by
 have e:b.length=b.cps.toList.length:=by simp [Str.length]
 unfold inS
 split
 ·rename_i c hc
  have ea:a=⟨#[c]⟩:=by rw [zcp_ a,hc]
  rw [ea]
  exact StrLaws.found_one b c
 ·rw [<- zcp_,<- zcp_,e]
def mIn (K:Fgg)(neg:Bool):R2:=fun x y H Q=>match y with
 | .str b=>(match x with | .str a=>Q (.bl (if neg then !inS a.cps.toList b.cps.toList else inS a.cps.toList b.cps.toList)) H | _=>False)
 | .ref p=>∃ xs,(SqL K H p xs\/SqT K H p xs)/\flatV x=true/\xs.all flatV=true/\Q (.bl (if neg then !inV x xs else inV x xs)) H
 | _=>False
theorem zkV_:OpR X (compareOp .In) (mIn X.K false):=by
 intro pins s σ H x y v u Q I rx ry h
 unfold mIn at h
 cases y with
 | str b =>
  cases x with
  | str a=>exact zkF_ pins s σ H _ _ v u Q I rx ry ⟨_,_,rfl,rfl,by rw [zls_]; exact h⟩
  | _=>exact h.elim
 | ref p =>
  obtain ⟨xs,h1,h2,h3,h4⟩:=h
  exact zkC_ pins s σ H _ _ v u Q I rx ry ⟨_,xs,rfl,h1,h2,h3,h4⟩
 | _=>exact h.elim
theorem zkD_:OpR X (compareOp .NotIn) (mIn X.K true):=by
 intro pins s σ H x y v u Q I rx ry h
 unfold mIn at h
 cases y with
 | str b =>
  cases x with
  | str a=>exact zgZ_ pins s σ H _ _ v u Q I rx ry ⟨_,_,rfl,rfl,by rw [zls_]; exact h⟩
  | _=>exact h.elim
 | ref p =>
  obtain ⟨xs,h1,h2,h3,h4⟩:=h
  exact zgK_ pins s σ H _ _ v u Q I rx ry ⟨_,xs,rfl,h1,h2,h3,h4⟩
 | _=>exact h.elim
def mTest (t:TE):TT:=fun σ H Q=>t σ H fun x H'=>match x with | .bl k=>Q k H' | _=>False
def mAndV (ta tb:TE):TE:=fun σ H Q=>ta σ H fun x H1=>match x with | .bl c=>br c (tb σ H1 Q) (Q (.bl false) H1) | _=>False
def mOrV (ta tb:TE):TE:=fun σ H Q=>ta σ H fun x H1=>match x with | .bl c=>br c (Q (.bl true) H1) (tb σ H1 Q) | _=>False
def mNotV (ta:TE):TE:=fun σ H Q=>ta σ H fun x H1=>match x with | .bl c=>Q (.bl (!c)) H1 | _=>False
def mAnd (t u:TT):TT:=fun σ H Q=>t σ H fun c H1=>br c (u σ H1 Q) (Q false H1)
def mOr (t u:TT):TT:=fun σ H Q=>t σ H fun c H1=>br c (Q true H1) (u σ H1 Q)
variable {rest:List Expr}{tA iG:TT}
theorem zbz_ (ha:PE X a ta)(hb:PE X (.BoolOp .And (b::rest) pos) tb):PE X (.BoolOp .And (a::b::rest) pos) (mAndV ta tb):=by
 intro pins s σ H Q I h
 refine BoolOp_and (thn (ha pins s σ H _ I h) fun v s1 af=>?_)
 obtain ⟨x,H1,I1,r1,q1⟩:=af
 cases x with
 | bl c =>
  cases r1
  refine wpAny_truthy_bool ?_
  cases c with
  | true=>exact hb pins s1 σ H1 Q I1 (q1.1 rfl)
  | false=>exact ⟨.bl false,H1,I1,rfl,q1.2 rfl⟩
 | _=>exact q1.elim
theorem zms_ (ha:PE X a ta)(hb:PE X (.BoolOp .Or (b::rest) pos) tb):PE X (.BoolOp .Or (a::b::rest) pos) (mOrV ta tb):=by
 intro pins s σ H Q I h
 refine BoolOp_or (thn (ha pins s σ H _ I h) fun v s1 af=>?_)
 obtain ⟨x,H1,I1,r1,q1⟩:=af
 cases x with
 | bl c =>
  cases r1
  refine wpAny_truthy_bool ?_
  cases c with
  | false=>exact hb pins s1 σ H1 Q I1 (q1.2 rfl)
  | true=>exact ⟨.bl true,H1,I1,rfl,q1.1 rfl⟩
 | _=>exact q1.elim
theorem zly_ (ha:PE X a ta):PE X (.UnaryOp .Not a pos) (mNotV ta):=by
 intro pins s σ H Q I h
 refine UnaryOp_ (thn (ha pins s σ H _ I h) fun v s1 af=>?_)
 obtain ⟨x,H1,I1,r1,q1⟩:=af
 cases x with
 | bl c=>cases r1; exact not_of (wpAny_truthy_bool ⟨.bl (!c),H1,I1,rfl,q1⟩)
 | _=>exact q1.elim
theorem zlB_ (ha:PT X a tA)(hb:PW X (.BoolOp .And (b::rest) pos) iG):PW X (.BoolOp .And (a::b::rest) pos) (mAnd tA iG):=by
 intro wh pins s σ H Q I h
 refine isTrue_and (thn (ha pins s σ H _ I h) fun c s1 af=>?_)
 obtain ⟨H1,I1,q1⟩:=af
 cases c with
 | true=>exact hb wh pins s1 σ H1 Q I1 (q1.1 rfl)
 | false=>exact ⟨H1,I1,q1.2 rfl⟩
theorem zkR_ (ha:PT X a tA)(hb:PW X (.BoolOp .Or (b::rest) pos) iG):PW X (.BoolOp .Or (a::b::rest) pos) (mOr tA iG):=by
 intro wh pins s σ H Q I h
 refine isTrue_or (thn (ha pins s σ H _ I h) fun c s1 af=>?_)
 obtain ⟨H1,I1,q1⟩:=af
 cases c with
 | true=>exact ⟨H1,I1,q1.1 rfl⟩
 | false=>exact hb wh pins s1 σ H1 Q I1 (q1.2 rfl)
theorem zbb_ {e:Expr}{t:TE}(h:PE X e t)(he:∀ whole,isTrue e X.env whole=(do let v <- whole; standAt e.pos; holding [v] (truthy v)):=by intro _; rfl):PT X e (mTest t):=by
 intro pins s σ H Q I hw
 refine isTrue_plain (thn (h pins s σ H _ I hw) fun v s1 af=>?_) (he _)
 obtain ⟨x,H1,I1,r1,q1⟩:=af
 cases x with
 | bl c=>cases r1; exact wpAny_truthy_bool ⟨H1,I1,q1⟩
 | _=>exact q1.elim
theorem z5_ {op:CmpOp}{r:R2}(ho:OpR X (compareOp op) r)(ha:PE X a ta)(hb:PE X b tb)(hm:behindInMarks op b=false:=by first | exact nobehind _ (by decide) (by decide) | rfl):PT X (.Compare a [op] [b] pos) (mTest (tOp r ta tb)):=by
 intro pins s σ H Q I hw
 refine wpAny_isTrue_Compare1 (binT ha hb I hw fun v u s2 x y H2 I2 rx ry q=>?_) hm
 refine thn (ho pins s2 σ H2 x y v u _ I2 rx ry q) fun c s3 af=>?_
 obtain ⟨z,H3,I3,r3,q3⟩:=af
 cases z with
 | bl k=>cases r3; exact wpAny_truthy_bool ⟨H3,I3,q3⟩
 | _=>exact q3.elim
theorem z3_ {op:CmpOp}{r:R2}(ho:OpR X (compareOp op) r)(ha:PE X a ta)(hb:PE X b tb)(hm:behindInMarks op b=false:=by first | exact nobehind _ (by decide) (by decide) | rfl):PE X (.Compare a [op] [b] pos) (tOp r ta tb):=znC_ ho ha hb hm
def mIf (t:TT)(ta tb:TE):TE:=fun σ H Q=>t σ H fun c H1=>br c (ta σ H1 Q) (tb σ H1 Q)
theorem zjb_ {c:Expr}(hc:PT X c tA)(ha:PE X a ta)(hb:PE X b tb):PE X (.IfExp c a b pos) (mIf tA ta tb):=by
 intro pins s σ H Q I h
 refine wpAny_IfExp (thn (hc pins s σ H _ I h) fun d s1 af=>?_)
 obtain ⟨H1,I1,q1⟩:=af
 cases d with
 | true=>exact ha pins s1 σ H1 Q I1 (q1.1 rfl)
 | false=>exact hb pins s1 σ H1 Q I1 (q1.2 rfl)
def mIfS (c:TT)(t u:TS):TS:=fun D σ H=>c σ H fun b H1=>br b (t D σ H1) (u D σ H1)
theorem zan_ {c:Expr}{a b:List Stmt}{tc:TT}{t u:TS}(hc:PT X c tc)(ha:PSs X a t)(hb:PSs X b u):PS X (.If c a b pos) (mIfS tc t u):=by
 intro pins s σ H D I h
 refine wpAny_If (thn (hc pins s σ H _ I h) fun d s1 af=>?_)
 obtain ⟨H1,I1,q1⟩:=af
 cases d with
 | true=>exact ha pins s1 σ H1 D I1 (q1.1 rfl)
 | false=>exact hb pins s1 σ H1 D I1 (q1.2 rfl)
def mChain (r r':R2)(ta tb tc:TE):TE:=fun σ H Q=>ta σ H fun x H1=>tb σ H1 fun y H2=>r x y H2 fun z H3=>match z with | .bl k=>br k (tc σ H3 fun w H4=>r' y w H4 Q) (Q (.bl false) H3) | _=>False
theorem zdR_ {op eZ:CmpOp}{r r':R2}(ho:OpR X (compareOp op) r)(bS:OpR X (compareOp eZ) r')(ha:PE X a ta)(hb:PE X b tb)(hc:PE X c tc)
  (hm:lastMarks [op,eZ] [b,c]=false:=by with_unfolding_all rfl):PE X (.Compare a [op,eZ] [b,c] pos) (mChain r r' ta tb tc):=by
 intro pins s σ H Q I h
 refine Compare_chain (thn (ha pins s σ H _ I h) fun v s1 ⟨x,H1,I1,r1,q1⟩=>chain_link (thn (hb pins s1 σ H1 _ I1 q1) fun u s2 ⟨y,H2,I2,r2,q2⟩ =>
  thn (ho pins s2 σ H2 x y v u _ I2 r1 r2 q2) fun d s3 ⟨z,H3,I3,r3,q3⟩=>?_)) hm
 cases z with
 | bl k =>
  cases r3
  refine wpAny_truthy_bool ?_
  cases k with
  | false=>exact ite_ff ⟨.bl false,H3,I3,rfl,q3.2 rfl⟩
  | true=>exact ite_tt (chain_last (thn (hc pins s3 σ H3 _ I3 (q3.1 rfl)) fun w' s4 ⟨z',H4,I4,r4,q4⟩=>bS pins s4 σ H4 y z' u w' Q I4 r2 r4 q4))
 | _=>exact q3.elim
end
section
variable {X:Cx}{a b c e:Expr}{ta:TE}{t:TA}
def mIx (K:Fgg):R2:=fun x y H Q=>match y with
 | .int i=>(match x with
  | .ref p=>∃ xs,(SqL K H p xs\/SqT K H p xs)/\(match atI xs i with | some v=>Q v H | none=>False)
  | .str z=>z.cps.toList.length<=sizeLine/\(match atI z.cps.toList i with | some c=>Q (tx [c]) H | none=>False)
  | _=>False)
 | _=>False
theorem ix_M:IxR X (mIx X.K):=by
 intro value slice pins s σ H x y v u Q I rx ry h fW
 unfold mIx at h
 cases y with
 | int i =>
  cases x with
  | ref p =>
   obtain ⟨xs,hs,h⟩:=h
   cases ev:atI xs i with
   | none=>rw [ev] at h; exact h.elim
   | some w' =>
    rw [ev] at h
    rcases hs with hs | hs
    ·exact znX_ value slice pins s σ H _ _ v u Q I rx ry ⟨p,xs,i,w',rfl,rfl,hs,ev,h⟩ fW
    ·exact zqA_ value slice pins s σ H _ _ v u Q I rx ry ⟨p,xs,i,w',rfl,rfl,hs,ev,h⟩ fW
  | str z =>
   obtain ⟨hz,h⟩:=h
   cases ev:atI z.cps.toList i with
   | none=>rw [ev] at h; exact h.elim
   | some w' =>
    rw [ev] at h
    exact zq5_ value slice pins s σ H _ _ v u Q I rx ry ⟨z,i,w',rfl,rfl,by simpa [Str.length] using hz,ev,h⟩ fW
  | _=>exact h.elim
 | _=>exact h.elim
def mSl (K:Fgg):V->Option Int->Option Int->Hp->VK->Prop:=fun x lo hi H Q=>match x with
 | .str z=>z.cps.toList.length<=sizeLine/\Q (tx (cutL z.cps.toList lo hi)) H
 | .ref a=>∃ xs,SqL K H a xs/\∀ p,H p=none->Q (.ref p) (upd H p (.lst (cutV xs lo hi)))
 | _=>False
theorem sl_M:SlR X (mSl X.K):=by
 intro pins s σ H x v vl vu lo hi sl Q I rx hs pl pu h
 unfold mSl at h
 cases x with
 | str z=>exact zpX_ pins s σ H _ v vl vu lo hi sl Q I rx hs pl pu ⟨by simpa [Str.length] using h.1,h.2⟩
 | ref p =>
  obtain ⟨xs,h1,h2⟩:=h
  exact zoQ_ pins s σ H _ v vl vu lo hi sl Q I rx hs pl pu ⟨p,xs,rfl,h1,h2⟩
 | _=>exact h.elim
def mPart (t:TE):TO:=fun σ H Q=>t σ H fun x H1=>match x with | .int i=>Q (some i) H1 | _=>False
theorem po_M (h:PE X e ta):PO X (some e) (mPart ta):=by
 intro pins s σ H Q I hw
 rw [evalPart_some]
 refine thn (h pins s σ H _ I hw) fun u s1 af=>?_
 obtain ⟨x,H1,I1,r1,q1⟩:=af
 cases x with
 | int i=>obtain ⟨t,rfl⟩:=r1; exact ⟨some i,H1,I1,.int i t,q1⟩
 | _=>exact q1.elim
def mLen (K:Fgg):List V->Hp->VK->Prop:=fun xs H Q=>match xs with
 | [.str z]=>z.cps.toList.length<=sizeLine/\Q (.int z.cps.toList.length) H
 | [.ref p]=>∃ ys,(SqL K H p ys\/SqT K H p ys)/\Q (.int ys.length) H
 | _=>False
theorem zmH_ {K:Fgg}{xs:List V}{H:Hp}{Q:VK}(h:mLen K xs H Q):(∃ z,xs=[.str z]/\z.cps.toList.length<=sizeLine/\Q (.int z.cps.toList.length) H)\/∃ p ys,xs=[.ref p]/\(SqL K H p ys\/SqT K H p ys)/\Q (.int ys.length) H:=by
 rcases xs with _ | ⟨x,_ | ⟨y,t⟩⟩
 ·exact False.elim h
 ·cases x with
  | str z=>exact .inl ⟨z,rfl,h⟩
  | ref p=>obtain ⟨ys,h⟩:=h; exact .inr ⟨p,ys,rfl,h⟩
  | _=>exact False.elim h
 ·cases x<;>exact False.elim h
theorem zK_:CallR X (.builtin "len") (mLen X.K):=by
 intro pins s σ H xs us Q I r h
 rcases zmH_ h with ⟨z,rfl,h⟩ | ⟨p,ys,rfl,h1,h2⟩
 ·exact zg4_ pins s σ H _ us Q I r ⟨_,rfl,by simpa [Str.length] using h.1,by simpa [Str.length] using h.2⟩
 ·exact zhe_ pins s σ H _ us Q I r ⟨_,ys,rfl,h1,h2⟩
def mTwo (g:Int->Int->Int):List V->Hp->VK->Prop:=fun xs H Q=>match xs with | [.int i,.int j]=>Q (.int (g i j)) H | _=>False
theorem znl_ {g:Int->Int->Int}{xs:List V}{H:Hp}{Q:VK}(h:mTwo g xs H Q):∃ i j,xs=[.int i,.int j]/\Q (.int (g i j)) H:=by
 rcases xs with _ | ⟨x,_ | ⟨y,_ | ⟨w,t⟩⟩⟩
 ·exact False.elim h
 ·cases x<;>exact False.elim h
 ·cases x with
  | int i=>cases y with
   | int j=>exact ⟨i,j,rfl,h⟩
   | _=>exact False.elim h
  | _=>exact False.elim h
 ·cases x with
  | int i=>cases y<;>exact False.elim h
  | _=>exact False.elim h
theorem zhq_ (hc:X.calm=true):CallR X (.builtin "min") (mTwo min):=by
 intro pins s σ H xs us Q I r h
 obtain ⟨i,j,rfl,h⟩:=znl_ h
 refine zkI_ hc pins s σ H _ us Q I r ⟨i,j,rfl,?_⟩
 have e:(if j<i then j else i)=min i j:=by split<;>lia
 rw [e]; exact h
def tyS (K:Fgg)(H:Hp):V->String->Prop:=fun x T=>match x with
 | .non=>T="NoneType" | .bl _=>T="bool" | .int _=>T="int" | .str _=>T="str"
 | .ref p=>(T="list" /\ ∃ xs,H p=some (.lst xs))\/(T="tuple" /\ ∃ xs,H p=some (.tup xs))
 | _=>False
theorem zqa_ {K:Fgg}{H:Hp}{x:V}{T:String}(h:tyS K H x T):TyOf K H x (.type T):=by
 unfold tyS at h
 cases x with
 | non=>subst h; exact .non
 | bl b=>subst h; exact .bl b
 | int i=>subst h; exact .int i
 | str z=>subst h; exact .str z
 | ref p =>
  rcases h with ⟨rfl,xs,h⟩ | ⟨rfl,xs,h⟩
  ·exact .lst h
  ·exact .tup h
 | _=>exact h.elim
def isaB (T c:String):Option Bool:=
 if T=c then some true else if T="bool" /\ c="int" then some true
 else if (T="bool" \/ T="int" \/ T="str" \/ T="list" \/ T="tuple" \/ T="NoneType")/\(c="bool" \/ c="int" \/ c="str" \/ c="list" \/ c="tuple" \/ c="dict") then some false else none
theorem zpD_ {K:Fgg}{T c:String}{b:Bool}(h:isaB T c=some b):W.kitOne K (.type T) (.type c)=some b:=by
 unfold isaB at h
 split at h
 ·rename_i e; subst e; cases h
  unfold W.kitOne
  rw [if_pos (by simp)]
 ·split at h
  ·rename_i e; obtain ⟨rfl,rfl⟩:=e; cases h; rfl
  ·split at h
   ·rename_i h1 h2 e
    cases h
    obtain ⟨e1,e2⟩:=e
    rcases e1 with rfl | rfl | rfl | rfl | rfl | rfl<;>rcases e2 with rfl | rfl | rfl | rfl | rfl | rfl<;>first | rfl | exact absurd rfl h1 | exact absurd ⟨rfl,rfl⟩ h2
   ·cases h
def mIsa (K:Fgg):List V->Hp->VK->Prop:=fun xs H Q=>match xs with
 | [.int _,.ty c]=>(match isaB "int" c with | some b=>Q (.bl b) H | none=>False)
 | [.bl _,.ty c]=>(match isaB "bool" c with | some b=>Q (.bl b) H | none=>False)
 | [.str _,.ty c]=>(match isaB "str" c with | some b=>Q (.bl b) H | none=>False)
 | [.non,.ty c]=>(match isaB "NoneType" c with | some b=>Q (.bl b) H | none=>False)
 | [.ref p,.ty c]=>∃ T,tyS K H (.ref p) T/\(match isaB T c with | some b=>Q (.bl b) H | none=>False)
 | _=>False
theorem zdl_:CallR X (.builtin "isinstance") (mIsa X.K):=by
 intro pins s σ H xs us Q I r h
 have key:∀ (x:V) (T c:String),xs=[x,.ty c]->tyS X.K H x T->(match isaB T c with | some b=>Q (.bl b) H | none=>False)->wpAny (model X.prog X.w) X.A (call (.builtin "isinstance") us) (EP X pins σ Q) X.xe s:=by
  intro x T c e ht hq
  subst e
  obtain ⟨u,w',rfl,r1,r2⟩:=vals2 r
  cases r2
  cases eb:isaB T c with
  | none=>rw [eb] at hq; exact hq.elim
  | some b =>
   rw [eb] at hq
   exact zkB_ I r1 (zqa_ ht) (zpD_ eb) fun tk=>⟨.bl b,H,I.tok tk,rfl,hq⟩
 unfold mIsa at h
 split at h
 ·exact key _ "int" _ rfl rfl h
 ·exact key _ "bool" _ rfl rfl h
 ·exact key _ "str" _ rfl rfl h
 ·exact key _ "NoneType" _ rfl rfl h
 ·obtain ⟨T,h1,h2⟩:=h
  exact key _ T _ rfl h1 h2
 ·exact h.elim
def findS (l:List Nat)(t:List Nat):Int:=Txt.find ⟨l.toArray⟩ ⟨t.toArray⟩
theorem zma_ (l:List Nat)(c:Nat):findS l [c]=(match l.findIdx? (· == c) with | some i=>(i:Int) | none => -1):=by
 unfold findS
 rcases find_whole ⟨l.toArray⟩ ⟨[c].toArray⟩ with ⟨h1,h2⟩ | ⟨i,h1,h2,h3⟩
 ·rw [h1]
  have:l.findIdx? (· == c)=none:=by
   rw [List.findIdx?_eq_none_iff]
   intro x hx
   obtain ⟨j,hj⟩:=List.mem_iff_getElem?.mp hx
   by_cases hxc:x=c
   ·subst hxc
    exact absurd ((StrLaws.subAt_one ⟨l.toArray⟩ x j).mpr (by simpa using hj)) (h2 j)
   ·simpa using hxc
  rw [this]
 ·rw [h1]
  have hi:l[i]?=some c:=by simpa using (StrLaws.subAt_one ⟨l.toArray⟩ c i).mp h2
  have:l.findIdx? (· == c)=some i:=by
   obtain ⟨ay,hget⟩:=List.getElem?_eq_some_iff.mp hi
   rw [List.findIdx?_eq_some_iff_getElem]
   refine ⟨ay,by simp [hget],fun j hj=>?_⟩
   have mY:j<l.length:=Nat.lt_trans hj ay
   have hn:=h3 j hj
   intro hc
   have dF:l[j]=c:=by simpa using hc
   exact hn ((StrLaws.subAt_one ⟨l.toArray⟩ c j).mpr (by simp [mY,dF]))
  rw [this]
def mFind:V->List V->Hp->VK->Prop:=fun x xs H Q=>match x,xs with | .str l,[.str t]=>Q (.int (findS l.cps.toList t.cps.toList)) H | _,_=>False
theorem zkH_ {x:V}{xs:List V}{H:Hp}{Q:VK}(h:mFind x xs H Q):∃ l t,x=.str l/\xs=[.str t]/\Q (.int (findS l.cps.toList t.cps.toList)) H:=by
 cases x with
 | str l =>
  rcases xs with _ | ⟨y,_ | ⟨z,t⟩⟩
  ·exact False.elim h
  ·cases y with
   | str t=>exact ⟨l,t,rfl,rfl,h⟩
   | _=>exact False.elim h
  ·cases y<;>exact False.elim h
 | _=>exact False.elim h
theorem zn0_:MtR X "str.find" mFind:=by
 intro pins s σ H x xs v us Q I rx rv h
 obtain ⟨l,t,rfl,rfl,h⟩:=zkH_ h
 obtain ⟨k,rfl⟩:=rx
 obtain ⟨u,rfl,ru⟩:=rv.one
 obtain ⟨k',rfl⟩:=ru
 refine SC.find ?_
 have e:Txt.find l t=findS l.cps.toList t.cps.toList:=by unfold findS; rw [<- zcp_,<- zcp_]
 rw [e]
 exact ⟨.int _,H,I.tok _,⟨_,rfl⟩,h⟩
def strsOf:List V->Option (List Str)
 | []=>some []
 | .str z::r=>(strsOf r).map (z::·)
 | _::_=>none
theorem zjE_ {vs:List V}{zs:List Str}:strsOf vs=some zs->vs=zs.map V.str:=by
 induction vs generalizing zs with
 | nil=>intro h; cases h; rfl
 | cons v r ih =>
  intro h
  cases v with
  | str z =>
   unfold strsOf at h
   cases e:strsOf r with
   | none=>rw [e] at h; cases h
   | some y=>rw [e] at h; cases h; rw [ih e]; rfl
  | _=>cases h
def joinS (sep:List Nat)(zs:List Str):List Nat:=(Txt.join ⟨sep.toArray⟩ zs).cps.toList
def mJoin (K:Fgg):V->List V->Hp->VK->Prop:=fun x xs H Q=>match x,xs with
 | .str l,[.ref D]=>∃ vs,(SqL K H D vs)/\(match strsOf vs with | some zs=>JoinOk l zs=true/\Q (tx (joinS l.cps.toList zs)) H | none=>False)
 | _,_=>False
theorem zhP_:∀ {zs:List Str}{us:List Value},Vals (zs.map V.str) us->∃ l:List (Str×Tok),us=strValues l/\l.map (·.1)=zs
 | [],us,r=>by cases r; exact ⟨[],rfl,rfl⟩
 | z::zs,us,r=>by
  cases r with
  | cons r rr =>
   obtain ⟨t,rfl⟩:=r
   obtain ⟨l,rfl,hl⟩:=zhP_ rr
   exact ⟨(z,t)::l,rfl,by rw [List.map_cons,hl]⟩
theorem zkX_ {K:Fgg}{x:V}{xs:List V}{H:Hp}{Q:VK}(h:mJoin K x xs H Q):∃ l D,x=.str l/\xs=[.ref D]/\∃ vs,(SqL K H D vs)/\(match strsOf vs with | some zs=>JoinOk l zs=true/\Q (tx (joinS l.cps.toList zs)) H | none=>False):=by
 cases x with
 | str l =>
  rcases xs with _ | ⟨y,_ | ⟨z,t⟩⟩
  ·exact False.elim h
  ·cases y with
   | ref t=>exact ⟨l,t,rfl,rfl,h⟩
   | _=>exact False.elim h
  ·cases y<;>exact False.elim h
 | _=>exact False.elim h
theorem zlu_:MtR X "str.join" (mJoin X.K):=by
 intro pins s σ H x xs v us Q I rx rv h
 obtain ⟨l,D,rfl,rfl,h⟩:=zkX_ h
 ·obtain ⟨k,rfl⟩:=rx
  obtain ⟨u,rfl,ru⟩:=rv.one
  cases ru
  obtain ⟨vs,hs,h⟩:=h
  cases ez:strsOf vs with
  | none=>rw [ez] at h; exact h.elim
  | some zs =>
   rw [ez] at h
   have ev:=zjE_ ez
   subst ev
   obtain ⟨aa,r,p,hz⟩:=I.list hs
   obtain ⟨lz,e1,e2⟩:=zhP_ r
   subst e1
   refine SC.join p.isList e2 h.1 fun t' k'=>⟨tx (joinS l.cps.toList zs),H,I.tok _,⟨t',?_⟩,h.2⟩
   unfold joinS
   rw [<- zcp_,<- zcp_]
end
theorem zm2_ (zs:List Str):joinS [] zs=(zs.map fun z=>z.cps.toList).flatten:=by
 unfold joinS Txt.join Builtin.Str.glued
 cases zs with
 | nil=>rfl
 | cons z r =>
  show ((r.foldl (fun acc p=>acc++#[]++p.cps) z.cps)).toList=_
  have:∀ (acc:Array Nat),(r.foldl (fun acc p=>acc++#[]++p.cps) acc).toList=acc.toList++(r.map fun z=>z.cps.toList).flatten:=by
   induction r with
   | nil=>intro acc; simp
   | cons y r ih=>intro acc; rw [List.foldl_cons,ih]; simp
  rw [this]
  simp
def Gd (P:Program)(w:World)(K:Fgg)(mg:Str->Option Value)(base:Heap)(CX:CXT)(k:Nat)(x:Str)(ps:List Str)(sp:Sp):Prop:=
 ∃ f fd,FnOk P w K mg base CX k f fd ps sp/\mg x=some (.ref f)/\W.keepIn K (.ref f)=true/\Binds K fd ps []
def Gc (mg:Str->Option Value)(x:Str)(v:V):Prop:=∃ u,mg x=some u/\RelV v u
abbrev Gb (mg:Str->Option Value)(x:Str):Prop:=mg x=none
section
variable {X:Cx}{k:Nat}{x:Str}{ps:List Str}{sp:Sp}{p pos:Pos}{e:Expr}{es:List Expr}{t:TA}{tg:Expr}
theorem zk_ (G:Gd X.prog X.w X.K X.mg X.base CX0 k x ps sp)(hr:Room k X.A)(ha:PA X (e::es) t)(hg:Gl X x:=by rfl)(bp:(x==("__debug__":Str))=false:=by decide)
  (he:starEach (e::es) X.env=(false,eval e X.env)::starEach es X.env:=by rfl) (aB:(backTo pos (starEach es X.env)).any (·.1)=false:=by rfl):
  PE X (.Call (.Name x p) (e::es) [] pos) (tCall sp [] E0 t):=by
 obtain ⟨f,fd,F,hm,hk,hb⟩:=G
 exact zlp_ F hr hg hm hk hb .nil pass0 ha bp he aB
theorem zhp_ {v:V}(h:Gc X.mg x v)(hg:Gl X x:=by rfl)(hd:(x==("__debug__":Str))=false:=by decide):PE X (.Name x pos) (tC v):=by
 obtain ⟨u,hm,r⟩:=h
 exact zps_ hg hm r hd
theorem znq_ (T:String)(hm:Gb X.mg x)(hg:Gl X x:=by rfl)(hv:bootBuiltins x=some (.type T):=by rfl)(hn:x ≠ "__name__":=by decide)(hd:(x==("__debug__":Str))=false:=by decide):PE X (.Name x pos) (tC (.ty T)):=
 znA_ hg hm hv rfl hn hd
theorem zdc_ {id:String}{r:List V->Hp->VK->Prop}(hc:CallR X (.builtin id) r)(hm:Gb X.mg x)(ha:PA X (e::es) t)(hg:Gl X x:=by rfl)(hv:bootBuiltins x=some (.builtin id):=by rfl)(hn:x ≠ "__name__":=by decide)(bp:(x==("__debug__":Str))=false:=by decide)
  (hs:starEach (e::es) X.env=(false,eval e X.env)::starEach es X.env:=by rfl) (aB:(backTo pos (starEach es X.env)).any (·.1)=false:=by rfl):PE X (.Call (.Name x p) (e::es) [] pos) (tCB r t):=
 zng_ hc hg hm hv ha hn bp hs aB
theorem zqz_ {o:Expr}{to:TE}{name:Str}{id:String}{r:V->List V->Hp->VK->Prop}{apos ak:Pos}(slot:Slot "str" name id)(jF:typeOf (.builtin id)=pure (.type "method_descriptor"))(hm:MtR X id r)(ho:PE X o to)(ha:PA X (e::es) t)
  (h1:attributeBase o name X.env (eval o X.env)=eval o X.env:=by rfl) (h2:((((backTo ak (starEach (e::es) X.env)).all fun x=>!x.fst) && (backToKw ak (keywordEach [] X.env)).all fun x=>x.fst.isSome) && decide (((e::es).length+([]:List Keyword).length+if ([]:List Keyword).isEmpty=true then 0 else 1)<30))=true:=by rfl)
  (h3:(apos.endLine == ak.line)=true:=by rfl) (h4:starEach (e::es) X.env=(false,eval e X.env)::starEach es X.env:=by rfl) (h5:((backTo ak (starEach es X.env)).any fun x=>x.fst)=false:=by rfl):
  PE X (.Call (.Attribute o name apos) (e::es) [] ak) (tBM X.K "str" r to t):=ziv_ PySem.F.plainAttrs_str slot jF hm ho ha h1 h2 h3 h4 h5
def iAny (K:Fgg)(tl:TE):TI:=fun σ H R=>tl σ H fun x H1=>match x with
 | .str z=>R (Itp z.cps.toList.length (fun i=>tx [z.cps.toList.getD i 0])) H1
 | .ref a=>((∃ xs,SqL K H1 a xs)/\R (Itl K a) H1)\/((∃ xs,SqT K H1 a xs)/\R (Itt K a) H1)
 | _=>False
theorem zqp_ (z:Str):sgn z=fun i=>tx [z.cps.toList.getD i 0]:=by
 funext i
 unfold sgn
 simp [Array.getD_eq_getD_getElem?,List.getD_eq_getElem?_getD]
theorem zaw_ {l:Expr}{tl:TE}(hl:PE X l tl):PI X tg l (iAny X.K tl):=by
 intro pins s σ H R I h
 refine thn (hl pins s σ H _ I h) fun v s1 af=>?_
 obtain ⟨x,H1,I1,r1,q1⟩:=af
 have pt:∀ (v:V),PE X l (tC v)->PE X l (tC v):=fun _ h=>h
 cases x with
 | str z =>
  obtain ⟨t,rfl⟩:=r1
  refine wpAny_pyIter_strU ?_
  have q:R (Itp z.cps.size (sgn z)) H1:=by
   have e:z.cps.toList.length=z.cps.size:=by simp
   rw [zqp_,<- e]
   exact q1
  refine ⟨s1.heap.objs.size,[s1.heap.objs.size],_,_,H1,rfl,I1.kept (t':=s1.toks) fun b o e=>Heap.get?_push_of_some _ e,zmV_ _ z t,⟨Nat.zero_le _,⟨_,Heap.get?_push_size _ rfl,rfl,rfl⟩⟩,fun b hb=>?_,q⟩
  have e:b=s1.heap.objs.size:=by simpa using hb
  subst e
  exact I1.fpOk (Nat.le_refl _) (I1.hok.fresh (Nat.le_refl _))
 | ref a =>
  cases r1
  rcases q1 with ⟨⟨xs,hq⟩,q⟩ | ⟨⟨xs,hq⟩,q⟩
  ·obtain ⟨aa,rv,p,hz⟩:=I1.list hq
   refine wpAny_pyIter_list p.isList ?_
   refine ⟨s1.heap.objs.size,[s1.heap.objs.size],_,_,H1,rfl,I1.kept (t':=s1.toks) fun b o e=>Heap.get?_push_of_some _ e,zkx_ a _,⟨_,Heap.get?_push_size _ rfl,rfl,rfl⟩,fun b hb=>?_,q⟩
   have e:b=s1.heap.objs.size:=by simpa using hb
   subst e
   exact I1.fpOk (Nat.le_refl _) (I1.hok.fresh (Nat.le_refl _))
  ·obtain ⟨aa,rv,p,hz⟩:=I1.tuple hq
   refine wpAny_pyIter_tuple (show s1.heap.IsTuple a aa.toArray from p) ?_
   refine ⟨s1.heap.objs.size,[s1.heap.objs.size],_,_,H1,rfl,I1.kept (t':=s1.toks) fun b o e=>Heap.get?_push_of_some _ e,zjw_ a _,⟨_,Heap.get?_push_size _ rfl,rfl,rfl⟩,fun b hb=>?_,q⟩
   have e:b=s1.heap.objs.size:=by simpa using hb
   subst e
   exact I1.fpOk (Nat.le_refl _) (I1.hok.fresh (Nat.le_refl _))
 | _=>exact q1.elim
def mRng1 (ta:TA):TI:=fun σ H R=>ta σ H fun vs H1=>match vs with | [.int j] => -(2 ^ 62)<=j/\j<2 ^ 62/\R (Itr 0 j.toNat) H1 | _=>False
def mRng2 (ta:TA):TI:=fun σ H R=>ta σ H fun vs H1=>match vs with | [.int i,.int j]=>(-(2 ^ 62)<=i/\i<2 ^ 62 /\ -(2 ^ 62)<=j/\j<2 ^ 62)/\R (Itr i (j-i).toNat) H1 | _=>False
end
section
variable {X:Cx}{tg:Expr}
theorem zmp_ {a:Expr}{ta:TA}{p pos:Pos}(hm:Gb X.mg "range")(ha:PA X [a] ta)(hg:Gl X "range":=by rfl)(hs:starEach [a] X.env=[(false,eval a X.env)]:=by rfl):PI X tg (.Call (.Name "range" p) [a] [] pos) (mRng1 ta):=by
 intro pins s σ H R I h
 refine Call_ (zhd_ I hg hm boot_range (PyProof.Rows.callWith_type1 (thn (ha pos pins s σ H _ I h) fun us s1 af=>?_) hs rfl))
 obtain ⟨vs,H1,I1,r1,q1⟩:=af
 try dsimp only at q1
 split at q1
 ·obtain ⟨q2,q3,q⟩:=q1
  cases r1 with
  | cons r rr =>
   cases rr
   obtain ⟨t,rfl⟩:=r
   exact call_range_1 (ziM_ I1 (by lia) (by lia) q2 q3 (by simpa using q))
 ·exact q1.elim
theorem zlI_ {a b:Expr}{ta:TA}{p pos:Pos}(hm:Gb X.mg "range")(ha:PA X [a,b] ta)(hg:Gl X "range":=by rfl)(hs:starEach [a,b] X.env=[(false,eval a X.env),(false,eval b X.env)]:=by rfl)(bE:starEach [b] X.env=[(false,eval b X.env)]:=by rfl):
  PI X tg (.Call (.Name "range" p) [a,b] [] pos) (mRng2 ta):=by
 intro pins s σ H R I h
 refine Call_ (zhd_ I hg hm boot_range (PyProof.Rows.callWith_type1 (thn (ha pos pins s σ H _ I h) fun us s1 af=>?_) (by rw [hs,bE]) (by rw [bE]; rfl)))
 obtain ⟨vs,H1,I1,r1,q1⟩:=af
 try dsimp only at q1
 split at q1
 ·obtain ⟨⟨q1,q2,q3,q4⟩,q⟩:=q1
  cases r1 with
  | cons r rr =>
   cases rr with
   | cons r' rr =>
    cases rr
    obtain ⟨t,rfl⟩:=r
    obtain ⟨t',rfl⟩:=r'
    exact call_range_2 (ziM_ I1 q1 q2 q3 q4 q)
 ·exact q1.elim
def gNilM:TGs:=fun vs σ H Q=>match vs with | []=>Q σ H | _=>False
def gConsM (t:TG)(u:TGs):TGs:=fun vs σ H Q=>match vs with | v::r=>t v σ H fun ai H'=>u r ai H' Q | []=>False
theorem zcE_:PGs X [] gNilM:=by
 intro pins s σ H vs us Q I r h
 cases vs with
 | nil=>exact zpo_ pins s σ H [] us Q I r ⟨rfl,h⟩
 | cons _ _=>exact h.elim
theorem zB_ {e:Expr}{es:List Expr}{t:TG}{u:TGs}(h1:PG X e t)(h2:PGs X es u)
  (hs:(assignEach (e::es) X.env).map (·.2)=assign e X.env::(assignEach es X.env).map (·.2):=by rfl):PGs X (e::es) (gConsM t u):=by
 intro pins s σ H vs us Q I r h
 cases vs with
 | nil=>exact h.elim
 | cons v vr=>exact zmJ_ h1 h2 hs pins s σ H _ us Q I r ⟨v,vr,rfl,h⟩
def gTupM (K:Fgg)(n:Nat)(t:TGs):TG:=fun v σ H Q=>match v with | .ref a=>∃ xs,SqT K H a xs/\xs.length=n/\t xs σ H Q | _=>False
theorem zfk_ {es:List Expr}{k:Nat}{t:TGs}{n:Nat}{pos:Pos}(hc:X.calm=true)(h:PGs X es t)
  (hn:(assignEach es X.env).length=n:=by rfl) (bQ:(assignEach es X.env).findIdx? (·.1)=none:=by rfl):PG X (.Tuple es k pos) (gTupM X.K n t):=by
 intro pins s σ H v u Q I r hw
 cases v with
 | ref a =>
  obtain ⟨xs,h1,h2,h3⟩:=hw
  exact zqN_ hc h hn bQ pins s σ H _ u Q I r ⟨a,xs,rfl,h1,h2,h3⟩
 | _=>exact hw.elim
def mNeg (ta:TE):TE:=fun σ H Q=>ta σ H fun x H1=>match x with | .int i=>Q (.int (-i)) H1 | _=>False
theorem zm4_ {a:Expr}{ta:TE}{pos:Pos}(ha:PE X a ta):PE X (.UnaryOp .USub a pos) (mNeg ta):=by
 intro pins s σ H Q I h
 refine UnaryOp_ (thn (ha pins s σ H _ I h) fun v s1 af=>?_)
 obtain ⟨x,H1,I1,r1,q1⟩:=af
 cases x with
 | int i=>exact zqF_ pins s1 σ H1 _ v Q I1 r1 ⟨i,rfl,q1⟩
 | _=>exact q1.elim
end
theorem zeD_ {H:Hp}{p:Addr}(h:H p=none)(o:HO):Same H (upd H p o):=fun b u q=>by rw [zZ_ (zba_ q h)]; exact q
theorem Same.tup {K:Fgg}{H H':Hp}{a:Addr}{xs:List V}(e:Same H H')(h:SqT K H a xs):SqT K H' a xs:=by
 rcases h with (h | ⟨o,h⟩) | h
 ·exact .inl (.inl (e _ _ h))
 ·exact .inl (.inr ⟨o,e _ _ h⟩)
 ·exact .inr h
theorem zcK_ {n:Nat}(h:n<=100000):n<=sizeLine:=by rw [sizeLine_eq]; lia
theorem zhc_ {zs:List Str}{sep:Str}(h:zs.length*(sep.length+1)<=100000)(h1:∀ z∈zs,z.length<=1):JoinOk sep zs=true:=by
 unfold JoinOk
 have key:∀ (l:List Str) (acc:Nat),(∀ z∈l,z.length<=1)->l.foldl (fun x1 x2=>x1+x2.length+sep.length) acc<=acc+l.length*(sep.length+1):=by
  intro l
  induction l with
  | nil=>intro acc _; simp
  | cons z r ih =>
   intro acc hz
   rw [List.foldl_cons]
   have h2:=ih (acc+z.length+sep.length) fun y hy=>hz y (List.mem_cons_of_mem _ hy)
   have h3:=hz z List.mem_cons_self
   rw [List.length_cons,Nat.add_mul]
   omega
 have q:=key zs 0 h1
 rw [List.foldl_toArray]
 unfold Builtin.Str.tooLong
 simp only [Bool.not_eq_true',decide_eq_false_iff_not]
 have:zs.foldl (fun x1 x2=>x1+x2.length+sep.length) 0<=100000:=by omega
 have hl:(100000:Nat)<=sizeLine:=by rw [sizeLine_eq]; omega
 omega
section
variable {X:Cx}
def mSet:TSet:=fun o i v H Q=>match i with
 | .int k=>(match o with
  | .ref p=>∃ xs,H p=some (.lst xs)/\(match ixN xs.length k with | some j=>Q (upd H p (.lst (xs.set j v))) | none=>False)
  | _=>False)
 | _=>False
theorem set_M:PSet X mSet:=by
 intro pins s σ H o i v ov iv u Q I ro ri rv h
 unfold mSet at h
 cases i with
 | int k =>
  cases o with
  | ref p =>
   obtain ⟨xs,h1,h⟩:=h
   cases e:ixN xs.length k with
   | none=>rw [e] at h; exact h.elim
   | some j =>
    rw [e] at h
    exact zlR_ pins s σ H _ _ v ov iv u Q I ro ri rv ⟨p,xs,k,j,rfl,rfl,h1,e,h⟩
  | _=>exact h.elim
 | _=>exact h.elim
theorem zol_ {n:Nat}{k:Int}(h0:0<=k)(h1:k<n):ixN n k=some k.toNat:=by unfold ixN; rw [if_pos h0,if_pos h1]
variable {x:Str}{p pos:Pos}{e:Expr}{es:List Expr}{t:TA}
theorem zkK_ (T:String){r:List V->Hp->VK->Prop}(hc:CallR X (.type T) r)(hm:Gb X.mg x)(ha:PA X (e::es) t)(hg:Gl X x:=by rfl)(hv:bootBuiltins x=some (.type T):=by rfl)(hn:x ≠ "__name__":=by decide)(bp:(x==("__debug__":Str))=false:=by decide)
  (hs:starEach (e::es) X.env=(false,eval e X.env)::starEach es X.env:=by rfl) (aB:(backTo pos (starEach es X.env)).any (·.1)=false:=by rfl):PE X (.Call (.Name x p) (e::es) [] pos) (tCB r t):=
 zkM_ hc hg hm hv ha hn bp hs aB
end
theorem zkq_ (l:List Nat):joinS [] (l.map fun c=>(⟨#[c]⟩:Str))=l:=by
 rw [L2.zm2_,List.map_map]
 induction l with
 | nil=>rfl
 | cons c r ih=>rw [List.map_cons,List.flatten_cons,ih]; rfl
def Dc (x:Addr)(d:Option Addr)(h:Heap):Prop:=∃ o,h.get? x=some o/\o.dict=d/\∀ vs,o.data=.fields vs->vs[2]?=some .none
theorem zpK_ (o:Obj)(f):(o.mapFields f).dict=o.dict:=by obtain ⟨c,d,dt,sl⟩:=o; cases dt<;>rfl
section
variable {M:Model}{A:Around}{E:Value->Shared->Prop}{s:Shared}{base:Heap}{env:Env}{outer l:List Env}{L e:Addr}{cls a0 fl:Value}{d:Option Addr}{Q:Unit->Shared->Prop}
theorem ent_d {oe:Obj}{vs:Array Value}{head:Value}{nx:Bool}(dm:A.frames=some (env::outer))(hl:s.heap.FunFrames base (env::outer))(hf:env.frame=some L)(he:s.heap.get? e=some oe)(dk:base.StaysIn s.heap)(d7:base.get? e=none)(hd:oe.data=.fields vs)(hsz:1<vs.size)(h0:vs[0]?=some a0)(ck:vs[2]?=some .none)
  (k:∀ h',Heap.NotedW base (env::outer) e oe.cls a0 (rawInt L) s.heap h'->Dc e oe.dict h'->Q () { s with heap:=h' }):
  wpAny M A (do let a <- frameOf env; let pl <- entryPlaceOf L nx; let b <- EntryCells.newEntry head a .none (rawInt L) .none pl; setField (.ref e) 1 b) Q E s:=by
 have out:e∉(env::outer).filterMap (·.frame):=fun hm=>by obtain ⟨_,o,ho,aV⟩:=hl.mem hm; cases he.symm.trans ho; exact aV vs hd
 refine wpAny_bind (wpAny_frameOf_fun dm hl hf fun g1 so=>wpAny_bind (wpAny_entryPlaceOf fun pl aB=>?_))
 unfold EntryCells.newEntry newFields; refine wpAny_bind (wpAny_newObj_type ?_ (aB.sizeOk5 _ _ _ _ _))
 have e1:g1.get? e=some oe:=(so.2.1 e out).trans he
 have b1:base.StaysIn g1:=fun b o q=>(so.2.1 b fun hm=>by have:=(hl.mem hm).1; rw [q] at this; cases this).trans (dk b o q)
 have ne:g1.objs.size≠e:=Nat.ne_of_gt (Heap.lt_size e1)
 generalize nh:({ cls:=.type "traceback",dict:=none,data:=.fields ([head,.ref L,.none,rawInt L,.none]++(if pl.isEmpty then List.replicate 6 Value.none else pl)).toArray }:Obj)=ob
 have k7:ob.data=.fields ([head,.ref L,.none,rawInt L,.none]++(if pl.isEmpty then List.replicate 6 Value.none else pl)).toArray:=by rw [<- nh]
 have my:ob.isFreed=false:=Obj.isFreed_of_fields k7
 have e2:(g1.push ob).get? e=some oe:=Heap.get?_push_of_some ob e1
 have d3:=Obj.data_mapFields hd (·.setIfInBounds 1 (Value.ref g1.objs.size))
 have e3:=Heap.get?_update_self (Obj.mapFields (·.setIfInBounds 1 (Value.ref g1.objs.size))) e2 (Obj.isFreed_of_fields d3)
 have t3:((g1.push ob).update e (Obj.mapFields (·.setIfInBounds 1 (Value.ref g1.objs.size)))).get? g1.objs.size=some ob:=(Heap.get?_update_other _ _ ne.symm).trans (Heap.get?_push_size g1 my)
 have old:∀ b o,b≠e->g1.get? b=some o->((g1.push ob).update e (Obj.mapFields (·.setIfInBounds 1 (Value.ref g1.objs.size)))).get? b=some o:=fun b o hb q=>(Heap.get?_update_other _ _ hb.symm).trans (Heap.get?_push_of_some ob q)
 have bN:∀ b o,s.heap.get? b=some o->(∀ vs,o.data≠.fields vs)->b≠e:=fun b o q aV z=>by rw [z,he] at q; cases q; exact aV vs hd
 refine wpAny_setField e2 hd hsz (k _ ⟨fun b o q=>old b o (fun z=>by rw [z,d7] at q; cases q) (b1 b o q),hl.of_keeps fun b o q aV=>?_,?_,fun b o q aV=>?_⟩ ⟨_,e3,zpK_ _ _,fun ws q=>by cases d3.symm.trans q; rw [Array.getElem?_setIfInBounds_ne (by decide)]; exact ck⟩)
 ·obtain ⟨sl,z⟩:=so.2.2 b o q; exact ⟨_,old b _ (bN b o q aV) z,rfl⟩
 ·exact ⟨_,_,_,_,_,e3,⟨Obj.cls_mapFields _ _,by rw [Array.getElem?_setIfInBounds_ne (by decide)]; exact h0⟩,d3,by simp [hsz],b1.fresh,ne,t3,k7,by first | (simp; done) | (rcases aB with rfl | ⟨_,_,_,_,_,_,_,rfl⟩<;>simp)⟩
 ·obtain ⟨sl,z⟩:=so.2.2 b o q; exact ⟨sl,old b _ (bN b o q aV) z⟩
theorem fl_d (dk:base.StaysIn s.heap)(hl:s.heap.FunFrames base l)(ht:s.heap.TracedAtW base e cls a0 fl)(hD:Dc e d s.heap)
  (k:∀ h',base.StaysIn h'->h'.FunFrames base l->h'.TracedW base e cls a0->s.heap.UpToSlots h'->Dc e d h'->Q () { s with heap:=h' }):wpAny M A (setFlight (.ref e) none) Q E s:=by
 obtain ⟨oe,vs,T,oT,ts,he,hc,hd,h1,hnT,hTe,hT,hdT,h3⟩:=ht
 have lK:3<ts.size:=(Array.getElem?_eq_some_iff.mp h3).1
 have dB:∀ b,b≠T->(s.heap.update T (Obj.mapFields (·.setIfInBounds 3 ((none:Option Addr).elim Value.none fun f=>rawInt f)))).get? b=s.heap.get? b:=fun b z=>Heap.get?_update_other _ _ (Ne.symm z)
 have bN:∀ b o,s.heap.get? b=some o->(∀ vs,o.data≠.fields vs)->b≠T:=fun b o q aV z=>by rw [z,hT] at q; cases q; exact aV ts hdT
 unfold setFlight; refine wpAny_bind (wpAny_field he hd h1 ?_); rw [if_pos (show (Value.ref T != Value.none)=true by simp)]
 refine wpAny_setField hT hdT lK (k _ (fun b o q=>(dB b fun z=>by rw [z,hnT] at q; cases q).trans (dk b o q)) (hl.of_keeps fun b o q aV=>⟨o,(dB b (bN b o q aV)).trans q,rfl⟩) ?_ (fun b o q aV=>⟨o.slots,(dB b (bN b o q aV)).trans q⟩) ?_)
 ·exact ⟨oe,vs,T,_,_,(dB e hTe.symm).trans he,hc,hd,h1,hnT,hTe,Heap.get?_update_self _ hT (Obj.isFreed_of_fields (Obj.data_mapFields hdT _)),Obj.data_mapFields hdT _,by simp [lK]⟩
 ·obtain ⟨o,q,z⟩:=hD; exact ⟨o,(dB e hTe.symm).trans q,z⟩
theorem zov_ {oe:Obj}{vs:Array Value}(dm:A.frames=some (env::outer))(hl:s.heap.FunFrames base (env::outer))(hf:env.frame=some L)(he:s.heap.get? e=some oe)(dk:base.StaysIn s.heap)(d7:base.get? e=none)(hd:oe.data=.fields vs)(h1:vs[1]?=some .none)(h0:vs[0]?=some a0)(ck:vs[2]?=some .none)
  (k:∀ h',Heap.NotedW base (env::outer) e oe.cls a0 (rawInt L) s.heap h'->Dc e oe.dict h'->Q () { s with heap:=h' }):wpAny M A (noteFrame (.ref e) env) Q E s:=by
 unfold noteFrame; simp only [hf]; refine wpAny_bind (wpAny_field he hd h1 ?_); rw [if_neg (by decide)]
 exact ent_d dm hl hf he dk d7 hd (Array.getElem?_eq_some_iff.mp h1).1 h0 ck k
theorem zlr_ (dm:A.frames=some (env::outer))(hl:s.heap.FunFrames base (env::outer))(hf:env.frame=some L)(ht:s.heap.TracedW base e cls a0)(dk:base.StaysIn s.heap)(d7:base.get? e=none)(hD:Dc e d s.heap)
  (k:∀ h',Heap.NotedW base (env::outer) e cls a0 (rawInt L) s.heap h'->Dc e d h'->Q () { s with heap:=h' }):wpAny M A (noteFrame (.ref e) env) Q E s:=by
 obtain ⟨oe,vs,T,oT,ts,he,⟨rfl,h0⟩,hd,h1,hnT,hTe,hT,hdT,h3⟩:=ht
 obtain ⟨rfl,hx⟩:oe.dict=d/\vs[2]?=some .none:=by obtain ⟨o,q,z,z2⟩:=hD; cases he.symm.trans q; exact ⟨z,z2 _ hd⟩
 unfold noteFrame; simp only [hf]; refine wpAny_bind (wpAny_field he hd h1 ?_); rw [if_pos (show (Value.ref T != Value.none)=true by simp)]
 refine wpAny_bind (wpAny_field hT hdT h3 ?_); rw [if_neg (show ¬ ((Value.none == rawInt L)=true) by simp [rawInt])]; refine wpAny_bind (wpAny_setField hT hdT (Array.getElem?_eq_some_iff.mp h3).1 ?_)
 have dB:∀ b,b≠T->(s.heap.update T (Obj.mapFields (·.setIfInBounds 3 Value.none))).get? b=s.heap.get? b:=fun b z=>Heap.get?_update_other _ _ (Ne.symm z)
 have bN:∀ b o,s.heap.get? b=some o->(∀ vs,o.data≠.fields vs)->b≠T:=fun b o q aV z=>by rw [z,hT] at q; cases q; exact aV ts hdT
 refine ent_d (s:={ s with heap:=s.heap.update T (Obj.mapFields (·.setIfInBounds 3 Value.none)) }) dm (hl.of_keeps fun b o q aV=>⟨o,(dB b (bN b o q aV)).trans q,rfl⟩) hf ((dB e hTe.symm).trans he) (fun b o q=>(dB b fun z=>by rw [z,hnT] at q; cases q).trans (dk b o q)) d7 hd (Array.getElem?_eq_some_iff.mp h1).1 h0 hx
  fun h' ⟨x1,x2,x3,x4⟩ dd=>k h' ⟨x1,x2,x3,fun b o q aV=>x4 b o ((dB b (bN b o q aV)).trans q) aV⟩ dd
theorem zgb_ {h h1 h2:Heap}(n:Heap.NotedW base l e cls a0 fl h h1)(a:base.StaysIn h2)(b:h2.FunFrames base l)(c:h2.TracedW base e cls a0)(u:h1.UpToSlots h2):Heap.LeftW base l e cls a0 h h2:=
 ⟨a,b,c,fun x o q aV=>by obtain ⟨sl,z⟩:=n.2.2.2 x o q aV; obtain ⟨dG,z'⟩:=u x _ z aV; exact ⟨dG,z'⟩⟩
theorem zmf_ {oe:Obj}{vs:Array Value}(dm:A.frames=some (env::outer))(hl:s.heap.FunFrames base (env::outer))(hf:env.frame=some L)(he:s.heap.get? e=some oe)(dk:base.StaysIn s.heap)(d7:base.get? e=none)(hd:oe.data=.fields vs)(h1:vs[1]?=some .none)(h0:vs[0]?=some a0)(ck:vs[2]?=some .none)
  (k:∀ h',Heap.LeftW base (env::outer) e oe.cls a0 s.heap h'->Dc e oe.dict h'->Q () { s with heap:=h' }):wpAny M A (leaving env (.ref e)) Q E s:=by
 unfold leaving; refine wpAny_bind (zov_ dm hl hf he dk d7 hd h1 h0 ck fun h' n dd=>?_)
 exact fl_d n.1 n.2.1 n.2.2.1 dd fun h2 a b c u dd=>k h2 (zgb_ n a b c u) dd
theorem zm5_ (dm:A.frames=some (env::outer))(hl:s.heap.FunFrames base (env::outer))(hf:env.frame=some L)(ht:s.heap.TracedW base e cls a0)(dk:base.StaysIn s.heap)(d7:base.get? e=none)(hD:Dc e d s.heap)
  (k:∀ h',Heap.LeftW base (env::outer) e cls a0 s.heap h'->Dc e d h'->Q () { s with heap:=h' }):wpAny M A (leaving env (.ref e)) Q E s:=by
 unfold leaving; refine wpAny_bind (zlr_ dm hl hf ht dk d7 hD fun h' n dd=>?_)
 exact fl_d n.1 n.2.1 n.2.2.1 dd fun h2 a b c u dd=>k h2 (zgb_ n a b c u) dd
end
def XAt (x C:Addr)(d:Option Addr)(h:Heap):Prop:=∃ o vs,h.get? x=some o/\o.cls=.ref C/\o.dict=d/\o.data=.fields vs/\vs[2]?=some .none
abbrev XO (x C:Addr)(d:Option Addr):HO:=.ext (XAt x C d)
theorem xo_ok {P:Program}{w:World}{H:Hp}{x C:Addr}{d:Option Addr}{h:Heap}(q:XAt x C d h):ObjOk P w H h x (XO x C d):=by
 obtain ⟨o,vs,a,b⟩:=q
 exact ⟨⟨o,vs,a,b⟩,⟨o,a⟩,fun h1 h2 ⟨o,vs,z1,z2⟩ k=>⟨o,vs,k o z1,z2⟩⟩
def DAt (dx:Addr)(fs:List (Str×V))(h:Heap):Prop:=∃ mA,h.Ns1 dx mA/\(∀ f,RelO (fs.lookup f) (mA f))/\PySem.Within mA (fs.map (·.1))
abbrev XDO (dx:Addr)(fs:List (Str×V)):HO:=.ext (DAt dx fs)
structure FlyX (x T C:Addr)(d:Option Addr)(H:Hp)(hb h:Heap):Prop where
 obj:∃ oe vs a0 oT ts,h.get? x=some oe/\(oe.cls=.ref C/\vs[0]?=some a0)/\oe.data=.fields vs/\vs[1]?=some (.ref T)/\T≠x/\h.get? T=some oT/\oT.data=.fields ts/\ts[3]?=some .none
 dc:Dc x d h
 hx:H x=none
 hT:H T=none
 nx:hb.get? x=none
 nT:hb.get? T=none
def CXx (P:Program)(w:World):CXT:=fun outer H s E e s'=>∃ x T C d H',e=.ref x/\s'.os=s.os/\AllBare s'.gens/\Un (frs outer) [] H H' s.heap s'.heap/\HOk P w H' s'.heap /\
 FlyX x T C d H' s.heap s'.heap/\E (.ref C) d H'
theorem passX0 {P:Program}{w:World}{X:Cx}:Passes (CXx P w) X E0:=fun _ _ _ _ _ _ _ h=>by
 obtain ⟨_,_,_,_,_,_,_,_,_,_,_,h⟩:=h
 exact h.elim
theorem HOk.at_ {P:Program}{w:World}{H:Hp}{h:Heap}{a:Addr}{o:HO}(x:HOk P w H h)(e:H a=some o):∃ u,h.get? a=some u:=by
 have q:=x a o e
 clear e x
 induction o with
 | lst xs=>obtain ⟨_,_,_,_,e⟩:=q; exact ⟨_,e⟩
 | tup xs=>obtain ⟨_,_,_,o,e,_⟩:=q; exact ⟨_,e⟩
 | dK kvs=>obtain ⟨_,_,_,_,o,_,_,e,_⟩:=q; exact ⟨_,e⟩
 | dT kvs=>obtain ⟨_,_,_,_,o,_,_,e,_⟩:=q; exact ⟨_,e⟩
 | set S n=>obtain ⟨o,_,_,_,e,_⟩:=q; exact ⟨_,e⟩
 | ins C dx fs=>obtain ⟨_,_,_,e,_⟩:=q; exact ⟨_,e⟩
 | own y=>obtain ⟨_,e⟩:=q; exact ⟨_,e⟩
 | xd fs=>obtain ⟨_,⟨_,_,_,e,_⟩,_⟩:=q; exact ⟨_,e⟩
 | rng lo hi=>obtain ⟨_,_,_,e⟩:=q; exact ⟨_,e⟩
 | frz ob u _=>obtain ⟨e,_⟩:=q; exact ⟨_,e⟩
 | tbl ps=>exact ⟨_,(show h.get? a=some _ from q)⟩
 | met f y=>exact ⟨_,(show h.get? a=some _ from q)⟩
 | ext φ=>obtain ⟨_,⟨_,e⟩,_⟩:=q; exact ⟨_,e⟩
theorem HOk.none_at {P:Program}{w:World}{H:Hp}{h:Heap}{a:Addr}(x:HOk P w H h)(e:h.get? a=none):H a=none:=by
 cases q:H a with
 | none=>rfl
 | some o =>
  obtain ⟨u,z⟩:=x.at_ q
  rw [e] at z; cases z
section
variable {X:Cx}{pins:Pnn}{σ:St}{H:Hp}{s:Shared}
theorem zqi_ (bQ:X.stack=X.env::X.outer){b:Addr}(h:b∈X.fs):b∈frs X.stack:=by
 rw [bQ]
 unfold Cx.fs frs at *
 rw [List.filterMap_cons]
 split
 ·exact h
 ·exact List.mem_cons_of_mem _ h
theorem zhI_ (I:Inv X pins σ H s)(bQ:X.stack=X.env::X.outer)(hex:X.ex=[]){x C:Addr}{a0:Value}{ex:List Addr}{h2:Heap}(fU:∀ b∈ex,H b=none/\X.s₀.heap.get? b=none)(hx:x∈ex)
  {d:Option Addr}(L:Heap.LeftW (W.hideAll s.heap (frs X.stack++ex)) X.stack x (.ref C) a0 s.heap h2) (dd:Dc x d h2):
  ∃ T,Un (frs X.outer) [] X.H₀ H X.s₀.heap h2/\HOk X.prog X.w H h2/\FlyX x T C d H X.s₀.heap h2:=by
 obtain ⟨st,ff,⟨oe,vs,T,oT,ts,he,hc,hd,h1,hnT,hTe,hT,hdT,h3⟩,up⟩:=L
 have gD:∀ b:Addr,b∉X.ex:=fun b z=>by rw [hex] at z; cases z
 have aR:∀ b o,s.heap.get? b=some o->b∉frs X.stack->b∉ex->h2.get? b=some o:=fun b o q n1 n2=>st b o (W.hideAll_get _ q fun z=>(List.mem_append.mp z).elim n1 n2)
 have bu:∀ b o,s.heap.get? b=some o->b∈frs X.stack->∃ sl,h2.get? b=some { o with slots:=sl }:=fun b o q hb=>up b o q (by
  obtain ⟨_,o',q',d⟩:=I.stack.mem hb
  cases q.symm.trans q'
  exact d)
 have jq:∀ b o,X.s₀.heap.get? b=some o->b≠X.env.locals:=fun b o q=>Nat.ne_of_lt (Nat.lt_of_lt_of_le (Heap.lt_size q) I.ok.above)
 have gz:∀ b o,X.s₀.heap.get? b=some o->b∉ex:=fun b o q z=>by
  have:=(fU b z).2
  rw [q] at this; cases this
 have jr:∀ b o,X.s₀.heap.get? b=some o->b∉X.fs->b∉frs X.stack:=fun b o q n z=>by
  rcases List.mem_cons.mp (I.stkSub b z) with e | e
  ·exact jq b o q e
  ·exact n e
 have young:∀ b,s.heap.get? b=none->X.s₀.heap.get? b=none:=fun b q=>by
  cases e:X.s₀.heap.get? b with
  | none=>rfl
  | some o =>
   obtain ⟨o',z⟩:=I.base.there b o e (gD b)
   rw [q] at z; cases z
 refine ⟨T,⟨fun b o q n hb _=>?_,fun b o q n hb _=>?_,fun b o q n _=>I.base.free b o q n (gD b),fun b o q _=>?_,I.base.tups,I.base.frzs,I.base.tbls⟩,fun a o e=>?_,⟨oe,vs,a0,oT,ts,he,hc,hd,h1,hTe,hT,hdT,h3⟩,dd,(fU x hx).1,?_,(fU x hx).2,?_⟩
 ·exact aR b o (I.base.keep b o q n hb (gD b)) (jr b o q hb) (gz b o q)
 ·obtain ⟨sl,e⟩:=I.base.slot b o q n hb (gD b)
  obtain ⟨dG,e'⟩:=bu b _ e (zqi_ bQ hb)
  exact ⟨dG,e'⟩
 ·obtain ⟨o',e⟩:=I.base.there b o q (gD b)
  by_cases hb:b∈frs X.stack
  ·obtain ⟨dG,e'⟩:=bu b _ e hb
   exact ⟨_,e'⟩
  ·exact ⟨o',aR b o' e hb (gz b o q)⟩
 ·refine (I.hok a o e).stay (fun b u hb q=>?_) (fun _ q=>q) fun _ _ q=>q
  have tr:∃ o,H b=some o:=by
   rcases hb with rfl | hb
   ·exact ⟨_,e⟩
   ·exact ⟨_,hb⟩
  obtain ⟨ob,tr⟩:=tr
  refine aR b u q (fun z=>?_) fun z=>?_
  ·rw [I.stkFree b z] at tr; cases tr
  ·rw [(fU b z).1] at tr; cases tr
 all_goals
  by_cases hTx:T∈ex
  ·first | exact (fU T hTx).1 | exact (fU T hTx).2
  by_cases hTf:T∈frs X.stack
  ·obtain ⟨_,o',q',d⟩:=I.stack.mem hTf
   obtain ⟨sl,e'⟩:=bu T o' q' hTf
   rw [hT] at e'
   cases e'
   exact absurd hdT (d ts)
  have q:s.heap.get? T=none:=by
   cases e:s.heap.get? T with
   | none=>rfl
   | some o =>
    rw [W.hideAll_get _ e fun z=>(List.mem_append.mp z).elim hTf hTx] at hnT
    cases hnT
  first | exact I.hok.none_at q | exact young T q
end
section
variable {P:Program}{w:World}{K:Fgg}{mg:Str->Option Value}{base:Heap}{N:List Str}{qual:Str}{scope:Scope}{f:Addr}{cd:Value}{A:Around}{outer:List Env}{s0:Shared}{H0:Hp}{E:XK}
theorem zlM_ {l:List Env}{more:List Addr}:∀ env∈l,∀ a,env.frame=some a->a∈frs l++more:=fun env he a hf=>List.mem_append_left _ (List.mem_filterMap.mpr ⟨env,he,hf⟩)
def Takes (X:Cx)(E:XK):Prop:=∀ (pins:Pnn) (σ:St) (H:Hp) (s:Shared) (x C:Addr) (oe:Obj) (vs:Array Value) (a0:Value),Inv X pins σ H s->H x=none->X.s₀.heap.get? x=none->s.heap.get? x=some oe->oe.cls=.ref C->oe.data=.fields vs->vs[1]?=some .none->vs[0]?=some a0->vs[2]?=some .none->E (.ref C) oe.dict H->X.xe (.ref x) s
theorem zmC_:Takes (cxOf (CXx P w) P w K mg base N qual scope f cd A outer s0 H0 E) E:=by
 intro pins σ H s x C oe vs a0 I hx mF he hc hd h1 h0 ck hE
 show wpAny _ _ (leaving _ _) _ _ _
 refine zmf_ (base:=W.hideAll s.heap (frs (envOfC qual scope s0.heap.objs.size f cd::outer)++[x])) (a0:=a0) I.ok.frames (W.funFrames_hide I.stack zlM_) rfl he (fun b o q=>W.of_hideAll _ q)
  (W.hideAll_none _ (List.mem_append_right _ List.mem_cons_self)) hd h1 h0 ck fun h2 L dd=>?_
 rw [hc] at L
 obtain ⟨T,u,ok,bI⟩:=zhI_ (ex:=[x]) I rfl rfl (fun b hb=>by
  rw [List.mem_singleton.mp hb]
  exact ⟨hx,mF⟩) List.mem_cons_self L dd
 exact ⟨x,T,C,_,H,rfl,I.os,I.bare,u,ok,bI,hE⟩
theorem Takes.made {X:Cx}(hT:Takes X E){pins:Pnn}{σ:St}{H:Hp}{s:Shared}{h:Heap}{x C:Addr}{args:List Value}(I:Inv X pins σ H s)(hex:X.ex=[])(hx:Heap.MadeExcOf s.heap h x (.ref C) args)(hE:E (.ref C) none H):X.xe (.ref x) { s with heap:=h }:=by
 obtain ⟨t,he,htn,ht⟩:=hx.there
 refine hT pins σ H { s with heap:=h } x C _ _ _ (I.kept (t':=s.toks) hx.keeps) (I.hok.none_at hx.new) ?_ he rfl rfl rfl rfl rfl hE
 cases e:X.s₀.heap.get? x with
 | none=>rfl
 | some o =>
  obtain ⟨o',z⟩:=I.base.there x o e (fun z=>by rw [hex] at z; cases z)
  rw [hx.new] at z; cases z
theorem zs_:Passes (CXx P w) (cxOf (CXx P w) P w K mg base N qual scope f cd A outer s0 H0 E) E:=by
 intro pins σ H s e s' I h
 obtain ⟨x,T,C,d,H',rfl,os,bare,un,ok,bI,hE⟩:=h
 have I1:Inv (cxOf (CXx P w) P w K mg base N qual scope f cd A outer s0 H0 E) pins σ H' s':=I.call' (ch:=[]) os un ok bare (fun b z=>absurd z (by simp))
 obtain ⟨oe,vs,a0,oT,ts,he,hc,hd,h1,hTe,hT,hdT,h3⟩:=bI.obj
 show wpAny _ _ (leaving _ _) _ _ _
 refine zm5_ (base:=W.hideAll s'.heap (frs (envOfC qual scope s0.heap.objs.size f cd::outer)++[x,T])) (cls:=.ref C) (a0:=a0) I.ok.frames (W.funFrames_hide I1.stack zlM_) rfl
  ⟨oe,vs,T,oT,ts,he,hc,hd,h1,W.hideAll_none _ (List.mem_append_right _ (List.mem_cons_of_mem _ List.mem_cons_self)),hTe,hT,hdT,h3⟩ (fun b o q=>W.of_hideAll _ q)
  (W.hideAll_none _ (List.mem_append_right _ List.mem_cons_self)) bI.dc fun h2 L dd=>?_
 have old:∀ b,s.heap.get? b=none->s0.heap.get? b=none:=fun b q=>by
  cases e:s0.heap.get? b with
  | none=>rfl
  | some o =>
   obtain ⟨o',z⟩:=I.base.there b o e (fun z=>nomatch z)
   rw [q] at z; cases z
 obtain ⟨T2,u,ok2,fly2⟩:=zhI_ (ex:=[x,T]) I1 rfl rfl (fun b hb=>by
  rcases List.mem_cons.mp hb with rfl | hb
  ·exact ⟨bI.hx,old _ bI.nx⟩
  ·rw [List.mem_singleton.mp hb]
   exact ⟨bI.hT,old _ bI.nT⟩) List.mem_cons_self L dd
 exact ⟨x,T2,C,d,H',rfl,I1.os,I1.bare,u,ok2,fly2,hE⟩
end
abbrev bmV:List Value:=[.type "ValueError",.type "Exception",.type "BaseException",.type "object"]
def excK (K:Fgg)(C:Addr):Bool:=W.excIn K C bmV "ValueError.__new__"
def gA (K:Fgg)(x:Str):Addr:=match W.nsIn K mainGlobals x with | some (some (.ref c))=>c | _=>0
theorem zm6_ {K:Fgg}{x:Str}{c:Addr}(h:W.nsIn K mainGlobals x=some (some (.ref c))):gA K x=c:=by unfold gA; rw [h]
theorem zo5_ {K:Fgg}{h:Heap}{C:Addr}(kin:K.In h)(q:excK K C=true):
  ∃ nm qn N bs bm hd sn sub ab col dd k0 k1 k2 k3 k5 mN,h.get? C=some (excClassObj nm qn C N bs bm hd sn sub ab col dd k0 k1 k2 k3 k5 "ValueError.__new__")/\h.Ns N mN/\mN "__init__"=none/\OwnTail h bmV bm:=by
 unfold excK W.excIn at q
 split at q
 case h_2=>cases q
 case h_1 dx cx slx i9 =>
  split at q
  case h_2=>cases q
  case h_1 Cx tl y0 y1 y2 y3 yn y5 m1 m2 =>
   rw [Bool.and_eq_true,Bool.and_eq_true,Bool.and_eq_true,Bool.and_eq_true,Bool.and_eq_true] at q
   obtain ⟨⟨⟨⟨⟨q1,q2⟩,q3⟩,q4⟩,q5⟩,q6⟩:=q
   replace q1:=beq_iff_eq.mp q1
   replace q2:=beq_iff_eq.mp q2
   replace q6:=beq_iff_eq.mp q6
   replace q3:cx.hasDel=false:=by simpa using q3
   subst q1 q2
   cases cx
   dsimp only at m1 q3 q5 q6
   subst m1 q3
   cases slx
   dsimp only at m2
   subst m2
   exact ⟨_,_,_,_,tl,_,_,_,_,_,dx,y0,y1,y2,y3,y5,_,kin _ _ i9,.of_isNs (W.isNs_of_in kin q5),W.nsMap_none_of_in kin q5 q6,W.tail_of_in kin q4⟩
section
variable {X:Cx}{E:XK}{C:Addr}{x:Str}{e:Expr}{es:List Expr}{t:TA}{np ak pos:Pos}
def tRaise (C:Addr)(E:XK)(t:TA):TS:=fun _ σ H=>t σ H fun vs H1=>vs.length<=100/\E (.ref C) none H1
theorem zm9_ (hT:Takes X E)(m9:X.calm=true)(hq:excK X.K C=true)(hm:X.mg x=some (.ref C))(ha:PA X (e::es) t)(hg:Gl X x:=by rfl)(bp:(x==("__debug__":Str))=false:=by decide)
  (he:starEach (e::es) X.env=(false,eval e X.env)::starEach es X.env:=by rfl) (aB:(backTo ak (starEach es X.env)).any (·.1)=false:=by rfl) (hex:X.ex=[]:=by rfl):
  PS X (.Raise (some (.Call (.Name x np) (e::es) [] ak)) none pos) (tRaise C E t):=by
 intro pins s σ H D I h
 obtain ⟨nm,qn,N,bs,bm,hd,sn,sub,ab,col,dd,k0,k1,k2,k3,k5,mN,hC,hN,jN,TL⟩:=zo5_ I.ok.mod.kin hq
 refine wpAny_Raise_call_subU (C:=C) (nm:=nm) (q:=qn) (N:=N) (bs:=bs) (bm:=bm) (hdct:=hd) (sn:=sn) (sub:=sub) (ab:=ab) (col:=col) (dd:=dd) (k0:=k0) (k1:=k1) (k2:=k2) (k3:=k3) (k5:=k5)
  PySem.F.excBase_ValueError (by decide) PySem.F.excBase_ValueError (mN:=mN) (TL.hasType rfl) (I.ok.hd m9) (by rw [he]; show (false || (backTo ak (starEach es X.env)).any (·.1))=false; rw [aB]; rfl) jN (zgq_ I hg hm ⟨rfl,?_⟩ bp)
 have h2:=ha ak pins s σ H _ I h
 rw [he] at h2 ⊢
 refine Calls.evalArgs_plain (wpAny_mono h2 (fun us s1 q=>?_) fun _ _ y=>y)
 obtain ⟨vs,H1,I1,r,hl,q⟩:=q
 refine ⟨rfl,?_,I1.bk _ _ hC,hN.keeps I1.bk,TL.keeps I1.bk,fun h' a gY=>hT.made I1 hex gY q⟩
 show us.length<=sizeLine
 rw [<- r.length]
 exact Nat.le_trans hl (by rw [sizeLine_eq]; decide)
end
end L2
namespace LX
open PySem PySem.W PySem.Calls PyProof.Rows Builtin Builtin.ObjectAttr Builtin.Getset_descriptor
section
end
end LX
namespace L2
open PySem PySem.Spec PyProof.Rows
section
variable {X:Cx}{k:Nat}{x:Str}{ps:List Str}{sp:Sp}{E:XK}{p pos:Pos}{e:Expr}{es:List Expr}{t:TA}
theorem zw_ (G:Gd X.prog X.w X.K X.mg X.base (CXx X.prog X.w) k x ps sp)(hr:Room k X.A)(hx:Passes (CXx X.prog X.w) X E)(ha:PA X (e::es) t)(hg:Gl X x:=by rfl)(bp:(x==("__debug__":Str))=false:=by decide)
  (he:starEach (e::es) X.env=(false,eval e X.env)::starEach es X.env:=by rfl) (aB:(backTo pos (starEach es X.env)).any (·.1)=false:=by rfl):
  PE X (.Call (.Name x p) (e::es) [] pos) (tCall sp [] E t):=by
 obtain ⟨f,fd,F,hm,hk,hb⟩:=G
 exact zlp_ F hr hg hm hk hb .nil hx ha bp he aB
end
def XP (X:Cx)(pins:Pnn)(W:St->XK)(e:Value)(s':Shared):Prop:=∃ ai Hb sb,Inv X pins ai Hb sb/\CXx X.prog X.w X.stack Hb sb (W ai) e s'
abbrev TX:=Ends->(St->XK)->St->Hp->Prop
def PSx (X:Cx)(st:Stmt)(t:TX):Prop:=
 ∀ (pins:Pnn) (s:Shared) (σ:St) (H:Hp) (D:Ends) (W:St->XK),Inv X pins σ H s->t D W σ H->wpAny (model X.prog X.w) X.A (exec st X.env) (SP X pins D) (XP X pins W) s
def PSsx (X:Cx)(st:List Stmt)(t:TX):Prop:=
 ∀ (pins:Pnn) (s:Shared) (σ:St) (H:Hp) (D:Ends) (W:St->XK),Inv X pins σ H s->t D W σ H->wpAny (model X.prog X.w) X.A (execs st X.env) (SP X pins D) (XP X pins W) s
section
variable {X:Cx}{st:Stmt}{t:TX}
theorem zpV_ {t:TS}(h:PS X.nox st t):PSx X st (fun D _ σ H=>t D σ H):=fun pins s σ H D W I hw =>
 wpAny_mono (h pins s σ H D (I.wish _) hw) (fun _ _ q=>q.unwish) fun _ _ z=>False.elim z
theorem zmi_ (h1:PSx X st t):PSsx X [st] t:=by
 intro pins s σ H D W I h
 refine wpAny_execs_cons (thn (h1 pins s σ H D W I h) fun f s1 q=>?_)
 cases f with
 | next=>exact wpAny_execs_nil q
 | ret v=>exact q
 | brk=>exact q
 | cont=>exact q
variable {pins:Pnn}{σ:St}{Hb H':Hp}{sb s1:Shared}{x T C:Addr}{d:Option Addr}
theorem landed (Ib:Inv X pins σ Hb sb)(os:s1.os=sb.os)(bare:AllBare s1.gens)(un:Un (frs X.stack) [] Hb H' sb.heap s1.heap)(ok:HOk X.prog X.w H' s1.heap)(bI:FlyX x T C d H' sb.heap s1.heap){h':Heap}{a0:Value}
  (f:Heap.FlyingW (W.hideAll s1.heap (frs X.stack++[x,T])) X.stack x (.ref C) a0 h') (up:s1.heap.UpToSlots h') (dd:Dc x d h'):Inv X pins σ (upd H' x (XO x C d)) { s1 with heap:=h' }:=by
 have ne:∀ b o,sb.heap.get? b=some o->b≠x/\b≠T:=fun b o q=>⟨(fun z=>by rw [z,bI.nx] at q; cases q),(fun z=>by rw [z,bI.nT] at q; cases q)⟩
 have nt:∀ b o,H' b=some o->b≠x/\b≠T:=fun b o q=>⟨(fun z=>by rw [z,bI.hx] at q; cases q),(fun z=>by rw [z,bI.hT] at q; cases q)⟩
 have I1:Inv X pins σ H' s1:=Ib.call' (ch:=[]) os un ok bare (fun b z=>absurd z (by simp))
 have aR:∀ b o,s1.heap.get? b=some o->b∉frs X.stack->b≠x/\b≠T->h'.get? b=some o:=fun b o q n1 n2=>f.1 b o (W.hideAll_get _ q fun z=>by
  rcases List.mem_append.mp z with z | z
  ·exact n1 z
  ·rcases List.mem_cons.mp z with z | z
   ·exact n2.1 z
   ·exact n2.2 (List.mem_singleton.mp z))
 have bu:∀ b o,s1.heap.get? b=some o->b∈frs X.stack->∃ sl,h'.get? b=some { o with slots:=sl }:=fun b o q hb=>up b o q (by
  obtain ⟨_,o',q',d⟩:=I1.stack.mem hb
  cases q.symm.trans q'
  exact d)
 have old:∀ b,b≠x->upd H' x (XO x C d) b=H' b:=fun b h=>zZ_ h
 refine Ib.call' (s':={ s1 with heap:=h' }) (ch:=[]) os ⟨fun b o q n hb hx=>?_,fun b o q n hb hx=>?_,fun b o q n hx=>?_,fun b o q hx=>?_,fun b xs q=>?_,fun b o u q=>?_,fun b ps q=>?_⟩ (fun a o e=>?_) bare (fun b z=>absurd z (by simp))
 ·exact aR b o (un.keep b o q n hb hx) hb (ne b o q)
 ·obtain ⟨sl,e⟩:=un.slot b o q n hb hx
  obtain ⟨dG,e'⟩:=bu b _ e hb
  exact ⟨dG,e'⟩
 ·rw [old b (ne b o q).1]
  exact un.free b o q n hx
 ·obtain ⟨o',e⟩:=un.there b o q hx
  by_cases hb:b∈frs X.stack
  ·obtain ⟨dG,e'⟩:=bu b _ e hb
   exact ⟨_,e'⟩
  ·exact ⟨o',aR b o' e hb (ne b o q)⟩
 ·have z:=un.tups b xs q
  rw [old b (nt b _ z).1]
  exact z
 ·have z:=un.frzs b o u q
  rw [old b (nt b _ z).1]
  exact z
 ·obtain ⟨m,z⟩:=un.tbls b ps q
  exact ⟨m,by rw [old b (nt b _ z).1]; exact z⟩
 ·by_cases ha:a=x
  ·subst ha
   rw [zD_] at e
   cases e
   obtain ⟨ob,vs,q1,q2,q3,_⟩:=f.first; obtain ⟨o2,z1,z2,z3⟩:=dd; cases q1.symm.trans z1
   exact xo_ok ⟨ob,vs,q1,q2,z2,q3,z3 _ q3⟩
  ·rw [old a ha] at e
   refine (ok a o e).stay (fun b u hb q=>?_) (fun b q=>by rw [old b (nt b _ q).1]; exact q) fun b xs q=>by rw [old b (nt b _ q).1]; exact q
   have tr:∃ o,H' b=some o:=by
    rcases hb with rfl | hb
    ·exact ⟨_,e⟩
    ·exact ⟨_,hb⟩
   obtain ⟨ob,tr⟩:=tr
   refine aR b u q (fun z=>?_) (nt b ob tr)
   rw [I1.stkFree b z] at tr; cases tr
end
abbrev znS_ (X:Cx)(s1:Shared)(x T:Addr):Heap:=W.hideAll s1.heap (frs X.stack++[x,T])
section
variable {X:Cx}
abbrev TH:=Addr->Option Addr->Ends->St->Hp->Prop
def tH0:TH:=fun _ _ _ _ _=>False
def PH (X:Cx)(hs:List ExceptHandler)(t:TH):Prop:=∀ (pins:Pnn) (σ:St) (H:Hp) (D:Ends) (s:Shared) (x C:Addr) (d:Option Addr) (E:Value->Shared->Prop),Inv X pins σ (upd H x (XO x C d)) s->H x=none ->
 (∀ A' Q' E',(∀ h2,Inv X pins σ (upd H x (XO x C d)) { s with heap:=h2 }->Q' () { s with heap:=h2 })->wpAny (model X.prog X.w) A' (setFlight (.ref x) none) Q' E' s)->t C d D σ H->wpAny (model X.prog X.w) X.A (handleBy (.ref x) X.env hs) (SP X pins D) E s
variable {P:Program}{w:World}{K:Fgg}{mg:Str->Option Value}{base:Heap}
theorem Fun.okX {x qual:Str}{st:Stmt}{f:Addr}{fd:FuncData}{N ps:List Str}{k:Nat}{sp:Sp}(F:Fun K x qual st f fd)(S:FnScope N ps (defScope st))(len:∀ vs H Q E,sp vs H Q E->vs.length=ps.length)
  (aW:∀ (ah:Value) (A:Around) (outer:List Env) (s:Shared) (H:Hp) (vs:List V) (Q:VK) (E:XK),Room k (A.deeper (envOfC qual (defScope st) s.heap.objs.size f ah))->sp vs H Q E ->
   ∃ t,PSs (cxOf (CXx P w) P w K mg base N qual (defScope st) f ah A outer s H E) (defBody st) t/\t { nx:=fun _ H'=>Q .non H',rt:=Q } (start N vs) H):FnOk P w K mg base (CXx P w) (k+1) f fd ps sp:=by
 obtain ⟨oc,od,kV,doc,pm,an,ah,ct,aj,rfl,lk,bT⟩:=F.ex
 exact zqU_ lk bT S len fun A outer s H vs Q E hr cM=>aW ah A outer s H vs Q E hr cM
end
def SG:List Nat:=[32,48,49,50,51,52,53,54,55,56,57,65,66,67,68,69,70,71,72,73,74,75,76,77,78,79,80,81,82,83,84,85,86,87,88,89,90]
def rk (l:List Nat):Option Nat:=match l with | [c]=>SG.findIdx? (· == c) | _=>none
theorem zoa_ (c:Nat):c∈SG↔(SG.findIdx? (· == c)).isSome=true:=by
 rw [List.findIdx?_isSome,List.any_eq_true]
 constructor
 ·intro h; exact ⟨c,h,by simp⟩
 ·rintro ⟨d,h,e⟩; rw [beq_iff_eq] at e; rw [<- e]; exact h
section
variable {X:Cx}
def mAll (K:Fgg):List V->Hp->VK->Prop:=fun xs H Q=>match xs with | [.ref p]=>∃ bs:List Bool,SqL K H p (bs.map V.bl)/\Q (.bl (bs.all id)) H | _=>False
theorem zgh_:∀ {bs:List Bool}{us:List Value},Vals (bs.map V.bl) us->us=bs.map Value.bool
 | [],_,.nil=>rfl
 | b::bs,_,.cons r t=>by rw [zgh_ t]; cases r; rfl
theorem ziu_ {P:Program}{w:World}{A:Around}{bs:List Bool}:TruthOf P w A (fun i v=>(bs.map Value.bool).toArray[i]?=some v) (fun i=>bs.getD i false):=by
 intro i v s Q E h q
 have h':(bs.map Value.bool)[i]?=some v:=by simpa using h
 rw [List.getElem?_map] at h'
 cases e:bs[i]? with
 | none=>rw [e] at h'; cases h'
 | some b =>
  rw [e] at h'
  cases h'
  have:bs.getD i false=b:=by rw [List.getD_eq_getElem?_getD,e]; rfl
  have q:Q (bs.getD i false) s:=q
  rw [this] at q
  exact wpAny_truthy_bool q
theorem zfK_ (bs:List Bool):(List.range bs.length).all (fun i=>bs.getD i false)=bs.all id:=by
 rw [Bool.eq_iff_iff,List.all_eq_true,List.all_eq_true]
 constructor
 ·intro h b hb
  obtain ⟨i,hi,e⟩:=List.getElem_of_mem hb
  have:=h i (List.mem_range.mpr hi)
  rw [List.getD_eq_getElem?_getD,List.getElem?_eq_getElem hi] at this
  rw [<- e]; exact this
 ·intro h i hi
  have hi:=List.mem_range.mp hi
  rw [List.getD_eq_getElem?_getD,List.getElem?_eq_getElem hi]
  exact h _ (List.getElem_mem hi)
theorem zhl_ (hc:X.calm=true):CallR X (.builtin "all") (mAll X.K):=by
 intro pins s σ H xs us Q I r h
 unfold mAll at h
 split at h
 ·rename_i p
  obtain ⟨bs,hS,q⟩:=h
  obtain ⟨u,rfl,rx⟩:=vals1 r
  cases rx
  obtain ⟨aa,rv,pl,hz⟩:=I.list hS
  rw [zgh_ rv] at pl
  have hp:=Heap.lt_size pl.isList.choose_spec.1
  have bH:p≠s.heap.objs.size:=Nat.ne_of_lt hp
  refine call_all_walk (wpAny_pyIter_list pl.isList ⟨_,_,_,_,_,_,_,rfl,Walks.list (A:=X.A.in1) (I.ok.hd hc) _ p bH (bs.map Value.bool).toArray,⟨⟨_,Heap.get?_push_size _ rfl,rfl,rfl⟩,pl.isList.at fun o e=>Heap.get?_push_of_some _ e⟩,ziu_,fun h' tk kk=>?_⟩)
  refine ⟨.bl (bs.all id),H,I.kept (t':=tk) fun b o e=>kk b o (by simpa using Nat.ne_of_lt (Heap.lt_size e)) (Heap.get?_push_of_some _ e),?_,q⟩
  show Value.bool _=_
  rw [List.size_toArray,List.length_map,zfK_]
 ·exact h.elim
def mRange:List V->Hp->VK->Prop:=fun xs H Q=>match xs with
 | [.int j]=>∀ p,H p=none->Q (.ref p) (upd H p (.rng 0 j))
 | [.int i,.int j]=>∀ p,H p=none->Q (.ref p) (upd H p (.rng i j))
 | _=>False
theorem zhY_:CallR X (.type "range") mRange:=by
 intro pins s σ H xs us Q I r h
 unfold mRange at h
 split at h
 ·rename_i j
  obtain ⟨u,rfl,t,rfl⟩:=vals1 r
  refine call_range_1 ⟨.ref s.heap.objs.size,_,I.laid (o:=.rng 0 j) (fun b ob q=>Heap.get?_push_of_some _ q) (Nat.le_refl _) ?_,rfl,h _ (I.hok.fresh (Nat.le_refl _))⟩
  exact ⟨_,_,_,Heap.get?_push_size _ rfl⟩
 ·rename_i i j
  obtain ⟨u,u',rfl,⟨t,rfl⟩,⟨t',rfl⟩⟩:=vals2 r
  refine call_range_2 ⟨.ref s.heap.objs.size,_,I.laid (o:=.rng i j) (fun b ob q=>Heap.get?_push_of_some _ q) (Nat.le_refl _) ?_,rfl,h _ (I.hok.fresh (Nat.le_refl _))⟩
  exact ⟨_,_,_,Heap.get?_push_size _ rfl⟩
 ·exact h.elim
def intsV (lo hi:Int):List V:=(List.range (hi-lo).toNat).map fun (i:Nat)=>V.int (lo+i)
def mList (K:Fgg):List V->Hp->VK->Prop:=fun xs H Q=>match xs with
 | [.ref p]=>(∃ ys,(SqL K H p ys\/SqT K H p ys)/\∀ l,H l=none->Q (.ref l) (upd H l (.lst ys))) \/
   (∃ lo hi,H p=some (.rng lo hi)/\(-50000<=lo/\lo<=50000 /\ -50000<=hi/\hi<=50000)/\∀ l,H l=none->Q (.ref l) (upd H l (.lst (intsV lo hi))))
 | _=>False
theorem zlO_ {lo:Int}:∀ {n:Nat}{us:List Value},us.length=n->(∀ (j:Nat) (v:Value),us[j]?=some v->∃ t,v=Value.int (lo+j) t)->Vals ((List.range n).map fun (i:Nat)=>V.int (lo+i)) us
 | n,us,hl,h=>by
  refine paired_of (by rw [List.length_map,List.length_range,hl]) fun j x u hx hu=>?_
  rw [List.getElem?_map] at hx
  cases e:(List.range n)[j]? with
  | none=>rw [e] at hx; cases hx
  | some i =>
   rw [e] at hx; cases hx
   have:=List.getElem?_eq_some_iff.mp e
   obtain ⟨hj,ej⟩:=this
   rw [List.getElem_range] at ej
   subst ej
   exact h j u hu
 where paired_of:∀ {xs:List V}{us:List Value},xs.length=us.length->(∀ (j:Nat) x u,xs[j]?=some x->us[j]?=some u->RelV x u)->Vals xs us
 | [],[],_,_=>.nil
 | x::xs,u::us,hl,h=>.cons (h 0 x u rfl rfl) (paired_of (Nat.succ.inj hl) fun j x u a b=>h (j+1) x u a b)
theorem zaL_ (hc:X.calm=true):CallR X (.type "list") (mList X.K):=by
 intro pins s σ H xs us Q I r h
 have hv:∃ p,xs=[.ref p]:=by
  rcases xs with _ | ⟨y,_ | ⟨z,t⟩⟩
  ·exact False.elim h
  ·cases y with
   | ref p=>exact ⟨p,rfl⟩
   | _=>exact False.elim h
  ·cases y<;>exact False.elim h
 obtain ⟨p,rfl⟩:=hv
 ·rcases h with ⟨ys,hq,q⟩ | ⟨lo,hi,hp,⟨h1,h2,h3,h4⟩,q⟩
  ·exact zhf_ pins s σ H _ us Q I r ⟨p,ys,rfl,hq,q⟩
  ·obtain ⟨u,rfl,rx⟩:=vals1 r
   cases rx
   obtain ⟨t,u,v,e⟩:=I.hok p _ hp
   have hn:Builtin.Range.rangeSize lo hi 1=(((hi-lo).toNat:Nat):Int):=by rw [rangeSize_one]; split<;>lia
   refine call_list_range (I.ok.hd hc) e (small_one (by lia) (by lia) (by lia) (by lia)) hn (by lia) fun h' tk acc c' kp e' af=>?_
   obtain ⟨hs,cu⟩:=af
   refine ⟨.ref s.heap.objs.size,_,I.laid (o:=.lst (intsV lo hi)) (t':=tk) kp (Nat.le_refl _) ?_,rfl,q _ (I.hok.fresh (Nat.le_refl _))⟩
   refine ⟨?_,acc.toList,c',zlO_ (by simpa using hs) (fun j v hv=>?_),by simpa using e'⟩
   ·unfold intsV; rw [List.length_map,List.length_range]; exact zcK_ (by lia)
   ·obtain ⟨t,ht⟩:=cu j v (by simpa using hv)
    exact ⟨t,by rw [ht]; simp⟩
end
inductive EqD (K:Fgg) (H:Hp):Nat->V->V->Bool->Prop
 | flat {x y:V}(hx:flatV x=true) (hy:flatV y=true):EqD K H 0 x y (eqV x y)
 | lst {n:Nat}{p q:Addr}{xs ys:List V}(e:Nat->Bool) (hp:SqL K H p xs) (hq:SqL K H q ys) (hl:xs.length=ys.length) (h:∀ (i:Nat) x y,xs[i]?=some x->ys[i]?=some y->EqD K H n x y (e i)):EqD K H (n+1) (.ref p) (.ref q) ((List.range xs.length).all e)
 | lstN {n:Nat}{p q:Addr}{xs ys:List V}(hp:SqL K H p xs) (hq:SqL K H q ys) (hl:xs.length≠ys.length):EqD K H n (.ref p) (.ref q) false
 | tup {n:Nat}{p q:Addr}{xs ys:List V}(e:Nat->Bool) (hp:SqT K H p xs) (hq:SqT K H q ys) (h:∀ (i:Nat) x y,xs[i]?=some x->ys[i]?=some y->EqD K H n x y (e i)):EqD K H (n+1) (.ref p) (.ref q) ((List.range (min xs.length ys.length)).all e && xs.length == ys.length)
 | lt {n:Nat}{p q:Addr}{xs ys:List V}(hp:SqL K H p xs) (hq:SqT K H q ys):EqD K H n (.ref p) (.ref q) false
 | tl {n:Nat}{p q:Addr}{xs ys:List V}(hp:SqT K H p xs) (hq:SqL K H q ys):EqD K H n (.ref p) (.ref q) false
 | lf {n:Nat}{p:Addr}{xs:List V}{y:V}(hp:SqL K H p xs) (hy:flatV y=true):EqD K H n (.ref p) y false
 | fl {n:Nat}{p:Addr}{xs:List V}{y:V}(hp:SqL K H p xs) (hy:flatV y=true):EqD K H n y (.ref p) false
 | tf {n:Nat}{p:Addr}{xs:List V}{y:V}(hp:SqT K H p xs) (hy:flatV y=true):EqD K H n (.ref p) y false
 | ft {n:Nat}{p:Addr}{xs:List V}{y:V}(hp:SqT K H p xs) (hy:flatV y=true):EqD K H n y (.ref p) false
 | up {n:Nat}{x y:V}{b:Bool}(h:EqD K H n x y b):EqD K H (n+1) x y b
section
variable {X:Cx}{pins:Pnn}{σ:St}{H:Hp}{s:Shared}
theorem zdE_ {xs:List V}{us:List Value}(r:Vals xs us){i:Nat}(h:i<us.toArray.size):∃ x,xs[i]?=some x/\RelV x us.toArray[i]:=by
 have hi:i<us.length:=by simpa using h
 have hl:=r.length
 obtain ⟨u,hu,ru⟩:=r.get (List.getElem?_eq_getElem (show i<xs.length by lia))
 refine ⟨_,List.getElem?_eq_getElem (by lia),?_⟩
 rw [List.getElem?_eq_getElem hi] at hu
 cases hu
 simpa using ru
theorem zjQ_ (I:Inv X pins σ H s){n:Nat}{x y:V}{b:Bool}(h:EqD X.K H n x y b):x=y->b=true:=by
 induction h with
 | flat hx hy =>
  rename_i x y
  rintro rfl
  cases x<;>first | (cases hx; done) | (simp [eqV]; done) | rfl
 | lst e hp hq hl h ih =>
  rename_i n p q xs ys
  intro e0
  cases e0
  have fH:=I.list_inj hp hq
  subst fH
  rw [List.all_eq_true]
  intro i hi
  have hi:=List.mem_range.mp hi
  exact ih i _ _ (List.getElem?_eq_getElem hi) (List.getElem?_eq_getElem hi) rfl
 | lstN hp hq hl =>
  intro e0
  cases e0
  exact absurd (by rw [I.list_inj hp hq]) hl
 | tup e hp hq h ih =>
  rename_i n p q xs ys
  intro e0
  cases e0
  have fH:=I.tuple_inj hp hq
  subst fH
  rw [Bool.and_eq_true,List.all_eq_true]
  refine ⟨?_,by simp⟩
  intro i hi
  have hi:=List.mem_range.mp hi
  have hi:i<xs.length:=by lia
  exact ih i _ _ (List.getElem?_eq_getElem hi) (List.getElem?_eq_getElem hi) rfl
 | lt hp hq =>
  intro e0
  cases e0
  obtain ⟨aa,r1,p1,z1⟩:=I.list hp
  obtain ⟨aq,r2,p2,z2⟩:=I.tuple hq
  exact absurd rfl (SeqAt.ne_of_list_tuple p1.isList p2)
 | tl hp hq =>
  intro e0
  cases e0
  obtain ⟨aa,r1,p1,z1⟩:=I.tuple hp
  obtain ⟨aq,r2,p2,z2⟩:=I.list hq
  exact absurd rfl (SeqAt.ne_of_list_tuple p2.isList p1)
 | lf hp hy=>rintro rfl; cases hy
 | fl hp hy=>rintro rfl; cases hy
 | tf hp hy=>rintro rfl; cases hy
 | ft hp hy=>rintro rfl; cases hy
 | up h ih=>exact ih
theorem zhg_ (I:Inv X pins σ H s){n:Nat}{x y:V}{b:Bool}(h:EqD X.K H n x y b):∀ (A:Around) (v u:Value),A.units+n<cLine->RelV x v->RelV y u ->
  SeqAt.EqAt A s v u b/\(∀ p q,x=.ref p->y=.ref q->SeqAt.RcAt A s v u b):=by
 induction h with
 | flat hx hy =>
  intro A v u _ rx ry
  refine ⟨zos_ rx ry hx hy,fun p q e _=>?_⟩
  subst e; cases hx
 | lst e hp hq hl h ih =>
  rename_i n p q xs ys
  intro A v u hu rx ry
  cases rx; cases ry
  obtain ⟨aa,r1,p1,z1⟩:=I.list hp
  obtain ⟨aq,r2,p2,z2⟩:=I.list hq
  have l1:=r1.length
  have l2:=r2.length
  have rc:SeqAt.RcAt A s (.ref p) (.ref q) ((List.range xs.length).all e):=by
   have:=SeqAt.RcAt.lists (A:=A) (e:=e) p1.isList p2.isList (by simp only [List.size_toArray]; lia) (by lia) (fun j h1 h2=>by
    obtain ⟨x,ex,rx⟩:=zdE_ r1 h1
    obtain ⟨y,ey,ry⟩:=zdE_ r2 h2
    exact (ih j x y ex ey A.in1 _ _ (by show A.units+1+n<_; lia) rx ry).1)
   rw [List.size_toArray,<- l1] at this
   exact this
  refine ⟨?_,fun _ _ _ _=>rc⟩
  by_cases hpq:p=q
  ·subst hpq
   have fH:=I.list_inj hp hq
   subst fH
   have:(List.range xs.length).all e=true:=by
    rw [List.all_eq_true]
    intro i hi
    have hi:=List.mem_range.mp hi
    exact zjQ_ I (h i _ _ (List.getElem?_eq_getElem hi) (List.getElem?_eq_getElem hi)) rfl
   rw [this]
   exact SeqAt.EqAt.same _
  ·exact .of_refs hpq rc
 | lstN hp hq hl =>
  rename_i n p q xs ys
  intro A v u hu rx ry
  cases rx; cases ry
  obtain ⟨aa,r1,p1,z1⟩:=I.list hp
  obtain ⟨aq,r2,p2,z2⟩:=I.list hq
  have l1:=r1.length
  have l2:=r2.length
  have rc:SeqAt.RcAt A s (.ref p) (.ref q) false:=SeqAt.RcAt.lists_lengths p1.isList p2.isList (by simp only [List.size_toArray,bne_iff_ne,ne_eq]; lia) (by lia)
  refine ⟨.of_refs (fun e=>?_) rc,fun _ _ _ _=>rc⟩
  subst e
  exact hl (by rw [I.list_inj hp hq])
 | tup e hp hq h ih =>
  rename_i n p q xs ys
  intro A v u hu rx ry
  cases rx; cases ry
  obtain ⟨aa,r1,p1,z1⟩:=I.tuple hp
  obtain ⟨aq,r2,p2,z2⟩:=I.tuple hq
  have l1:=r1.length
  have l2:=r2.length
  have rc:SeqAt.RcAt A s (.ref p) (.ref q) ((List.range (min xs.length ys.length)).all e && xs.length == ys.length):=by
   have:=SeqAt.RcAt.tuples (A:=A) (e:=e) (show s.heap.IsTuple p aa.toArray from p1) (show s.heap.IsTuple q aq.toArray from p2) (by lia) (fun j h1 h2=>by
    obtain ⟨x,ex,rx⟩:=zdE_ r1 h1
    obtain ⟨y,ey,ry⟩:=zdE_ r2 h2
    exact (ih j x y ex ey A.in1 _ _ (by show A.units+1+n<_; lia) rx ry).1)
   rw [List.size_toArray,List.size_toArray,<- l1,<- l2] at this
   exact this
  refine ⟨?_,fun _ _ _ _=>rc⟩
  by_cases hpq:p=q
  ·subst hpq
   have fH:=I.tuple_inj hp hq
   subst fH
   have:((List.range (min xs.length xs.length)).all e && xs.length == xs.length)=true:=by
    rw [Bool.and_eq_true,List.all_eq_true]
    refine ⟨?_,by simp⟩
    intro i hi
    have hi:=List.mem_range.mp hi
    have hi:i<xs.length:=by lia
    exact zjQ_ I (h i _ _ (List.getElem?_eq_getElem hi) (List.getElem?_eq_getElem hi)) rfl
   rw [this]
   exact SeqAt.EqAt.same _
  ·exact .of_refs hpq rc
 | lt hp hq =>
  intro A v u hu rx ry
  cases rx; cases ry
  obtain ⟨aa,r1,p1,z1⟩:=I.list hp
  obtain ⟨aq,r2,p2,z2⟩:=I.tuple hq
  exact ⟨.list_tuple p1.isList p2 (by lia),fun _ _ _ _=>.list_tuple p1.isList p2 (by lia)⟩
 | tl hp hq =>
  intro A v u hu rx ry
  cases rx; cases ry
  obtain ⟨aa,r1,p1,z1⟩:=I.tuple hp
  obtain ⟨aq,r2,p2,z2⟩:=I.list hq
  exact ⟨.tuple_list p1 p2.isList (by lia),fun _ _ _ _=>.tuple_list p1 p2.isList (by lia)⟩
 | lf hp hy =>
  rename_i n p xs y
  intro A v u hu rx ry
  cases rx
  obtain ⟨aa,r1,p1,z1⟩:=I.list hp
  refine ⟨?_,fun _ _ _ e=>by subst e; cases hy⟩
  cases y with
  | non=>cases ry; exact .list_none p1.isList (by lia)
  | bl b=>cases ry; exact .list_bool b p1.isList (by lia)
  | int b=>obtain ⟨t,rfl⟩:=ry; exact .list_int b t p1.isList (by lia)
  | str b=>obtain ⟨t,rfl⟩:=ry; exact .list_str b t p1.isList (by lia)
  | _=>cases hy
 | fl hp hy =>
  rename_i n p xs y
  intro A v u hu rx ry
  cases ry
  obtain ⟨aa,r1,p1,z1⟩:=I.list hp
  refine ⟨?_,fun _ _ e _=>by subst e; cases hy⟩
  cases y with
  | non=>cases rx; exact .none_list p1.isList (by lia)
  | bl b=>cases rx; exact .bool_list b p1.isList (by lia)
  | int b=>obtain ⟨t,rfl⟩:=rx; exact .int_list b t p1.isList (by lia)
  | str b=>obtain ⟨t,rfl⟩:=rx; exact .str_list b t p1.isList (by lia)
  | _=>cases hy
 | tf hp hy =>
  rename_i n p xs y
  intro A v u hu rx ry
  cases rx
  obtain ⟨aa,r1,p1,z1⟩:=I.tuple hp
  refine ⟨?_,fun _ _ _ e=>by subst e; cases hy⟩
  cases y with
  | non=>cases ry; exact .tuple_none p1 (by lia)
  | bl b=>cases ry; exact .tuple_bool b p1 (by lia)
  | int b=>obtain ⟨t,rfl⟩:=ry; exact .tuple_int b t p1 (by lia)
  | str b=>obtain ⟨t,rfl⟩:=ry; exact .tuple_str b t p1 (by lia)
  | _=>cases hy
 | ft hp hy =>
  rename_i n p xs y
  intro A v u hu rx ry
  cases ry
  obtain ⟨aa,r1,p1,z1⟩:=I.tuple hp
  refine ⟨?_,fun _ _ e _=>by subst e; cases hy⟩
  cases y with
  | non=>cases rx; exact .none_tuple p1 (by lia)
  | bl b=>cases rx; exact .bool_tuple b p1 (by lia)
  | int b=>obtain ⟨t,rfl⟩:=rx; exact .int_tuple b t p1 (by lia)
  | str b=>obtain ⟨t,rfl⟩:=rx; exact .str_tuple b t p1 (by lia)
  | _=>cases hy
 | up h ih =>
  intro A v u hu rx ry
  exact ih A v u (by lia) rx ry
theorem zjl_ (I:Inv X pins σ H s){n:Nat}{x y:V}{b:Bool}(h:EqD X.K H n x y b):∀ (A:Around) (v u:Value),A.units+n<cLine->RelV x v->RelV y u->∀ p q,x=.ref p->y=.ref q->SeqAt.RcNeAt A s v u (!b):=by
 induction h with
 | flat hx hy=>intro A v u _ rx ry p q e _; subst e; cases hx
 | lst e hp hq hl h ih =>
  rename_i n p q xs ys
  intro A v u hu rx ry _ _ _ _
  cases rx; cases ry
  obtain ⟨aa,r1,p1,z1⟩:=I.list hp
  obtain ⟨aq,r2,p2,z2⟩:=I.list hq
  have l1:=r1.length
  have l2:=r2.length
  have:=SeqAt.RcNeAt.lists (A:=A) (e:=e) p1.isList p2.isList (by simp only [List.size_toArray]; lia) (by lia) (fun j h1 h2=>by
   obtain ⟨x,ex,rx⟩:=zdE_ r1 h1
   obtain ⟨y,ey,ry⟩:=zdE_ r2 h2
   exact (zhg_ I (h j x y ex ey) A.in1 _ _ (by show A.units+1+n<_; lia) rx ry).1)
  rw [List.size_toArray,<- l1] at this
  exact this
 | lstN hp hq hl =>
  intro A v u hu rx ry _ _ _ _
  cases rx; cases ry
  obtain ⟨aa,r1,p1,z1⟩:=I.list hp
  obtain ⟨aq,r2,p2,z2⟩:=I.list hq
  have l1:=r1.length
  have l2:=r2.length
  exact SeqAt.RcNeAt.lists_lengths p1.isList p2.isList (by simp only [List.size_toArray,bne_iff_ne,ne_eq]; lia) (by lia)
 | tup e hp hq h ih =>
  rename_i n p q xs ys
  intro A v u hu rx ry _ _ _ _
  cases rx; cases ry
  obtain ⟨aa,r1,p1,z1⟩:=I.tuple hp
  obtain ⟨aq,r2,p2,z2⟩:=I.tuple hq
  have l1:=r1.length
  have l2:=r2.length
  have:=SeqAt.RcNeAt.tuples (A:=A) (e:=e) (show s.heap.IsTuple p aa.toArray from p1) (show s.heap.IsTuple q aq.toArray from p2) (by lia) (fun j h1 h2=>by
   obtain ⟨x,ex,rx⟩:=zdE_ r1 h1
   obtain ⟨y,ey,ry⟩:=zdE_ r2 h2
   exact (zhg_ I (h j x y ex ey) A.in1 _ _ (by show A.units+1+n<_; lia) rx ry).1)
  rw [List.size_toArray,List.size_toArray,<- l1,<- l2] at this
  exact this
 | lt hp hq =>
  intro A v u hu rx ry _ _ _ _
  cases rx; cases ry
  obtain ⟨aa,r1,p1,z1⟩:=I.list hp
  obtain ⟨aq,r2,p2,z2⟩:=I.tuple hq
  exact .list_tuple p1.isList p2 (by lia)
 | tl hp hq =>
  intro A v u hu rx ry _ _ _ _
  cases rx; cases ry
  obtain ⟨aa,r1,p1,z1⟩:=I.tuple hp
  obtain ⟨aq,r2,p2,z2⟩:=I.list hq
  exact .tuple_list p1 p2.isList (by lia)
 | lf hp hy=>intro A v u hu rx ry _ _ _ e; subst e; cases hy
 | fl hp hy=>intro A v u hu rx ry _ _ e _; subst e; cases hy
 | tf hp hy=>intro A v u hu rx ry _ _ _ e; subst e; cases hy
 | ft hp hy=>intro A v u hu rx ry _ _ e _; subst e; cases hy
 | up h ih=>intro A v u hu rx ry; exact ih A v u (by lia) rx ry
end
theorem Room.u60 {k:Nat}{A:Around}(r:Room k A):A.units+60<cLine:=by have:=r.units; lia
end L2
namespace LX
open PySem Builtin Builtin.Str
section
end
end LX
namespace L2
open PySem PySem.Spec PyProof.Rows
section
variable {X:Cx}{a b c d:Expr}{ta tb tc td:TE}{pos:Pos}
def mChain3 (r r' iJ:R2)(ta tb tc td:TE):TE:=fun σ H Q=>ta σ H fun x H1=>tb σ H1 fun y H2=>r x y H2 fun z H3=>match z with
 | .bl k=>br k (tc σ H3 fun w H4=>r' y w H4 fun z' H5=>match z' with | .bl k'=>br k' (td σ H5 fun w' H6=>iJ w w' H6 Q) (Q (.bl false) H5) | _=>False) (Q (.bl false) H3)
 | _=>False
theorem zi9_ {op eZ eY:CmpOp}{r r' iJ:R2}(ho:OpR X (compareOp op) r)(bS:OpR X (compareOp eZ) r')(jL:OpR X (compareOp eY) iJ)(ha:PE X a ta)(hb:PE X b tb)(hc:PE X c tc)(hd:PE X d td)
  (hm:lastMarks [op,eZ,eY] [b,c,d]=false:=by with_unfolding_all rfl):PE X (.Compare a [op,eZ,eY] [b,c,d] pos) (mChain3 r r' iJ ta tb tc td):=by
 intro pins s σ H Q I h
 refine Compare_chain (thn (ha pins s σ H _ I h) fun v s1 ⟨x,H1,I1,r1,q1⟩=>chain_link (thn (hb pins s1 σ H1 _ I1 q1) fun u s2 ⟨y,H2,I2,r2,q2⟩ =>
  thn (ho pins s2 σ H2 x y v u _ I2 r1 r2 q2) fun d s3 ⟨z,H3,I3,r3,q3⟩=>?_)) hm
 cases z with
 | bl k =>
  cases r3
  refine wpAny_truthy_bool ?_
  cases k with
  | false=>exact ite_ff ⟨.bl false,H3,I3,rfl,q3.2 rfl⟩
  | true =>
   refine ite_tt (chain_link (thn (hc pins s3 σ H3 _ I3 (q3.1 rfl)) fun w' s4 ⟨z',H4,I4,r4,q4⟩=>thn (bS pins s4 σ H4 y z' u w' _ I4 r2 r4 q4) fun d' s5 af=>?_))
   obtain ⟨z2,H5,I5,r5,q5⟩:=af
   cases z2 with
   | bl k2 =>
    cases r5
    refine wpAny_truthy_bool ?_
    cases k2 with
    | false=>exact ite_ff ⟨.bl false,H5,I5,rfl,q5.2 rfl⟩
    | true=>exact ite_tt (chain_last (thn (hd pins s5 σ H5 _ I5 (q5.1 rfl)) fun w2 s6 ⟨z3,H6,I6,r6,q6⟩=>jL pins s6 σ H6 z' z3 w' w2 Q I6 r4 r6 q6))
   | _=>exact q5.elim
 | _=>exact q3.elim
end
section
variable {κ:Type}[DecidableEq κ]
def valV (kvs:List (κ×V))(k:κ):Option V:=(kvs.find? fun kv=>decide (kv.1=k)).map (·.2)
def putK (kvs:List (κ×V))(k:κ)(v:V):List (κ×V):=
 if (kvs.any fun kv=>decide (kv.1=k))=true then kvs.map (fun kv=>if kv.1=k then (kv.1,v) else kv) else kvs++[(k,v)]
theorem zhk_ {p:κ×V}{r:List (κ×V)}{k:κ}(e:p.1=k):valV (p::r) k=some p.2:=by simp [valV,List.find?_cons,e]
theorem zgT_ {p:κ×V}{r:List (κ×V)}{k:κ}(e:¬ p.1=k):valV (p::r) k=valV r k:=by simp [valV,List.find?_cons,e]
theorem zjq_ (k:κ):∀ kvs:List (κ×V),(kvs.any fun kv=>decide (kv.1=k))=(valV kvs k).isSome
 | []=>rfl
 | p::r=>by
  rw [List.any_cons]
  by_cases e:p.1=k
  ·simp only [zhk_ e,decide_eq_true e,Bool.true_or,Option.isSome_some]
  ·rw [zgT_ e,decide_eq_false e,Bool.false_or]; exact zjq_ k r
theorem zdh_ (kvs:List (κ×V))(k:κ)(v:V):(putK kvs k v).length<=kvs.length+1:=by
 unfold putK
 split
 ·rw [List.length_map]; lia
 ·rw [List.length_append,List.length_cons,List.length_nil]; lia
theorem RelO.isSome_eq {o:Option V}{u:Option Value}(r:RelO o u):o.isSome=u.isSome:=by
 cases o with
 | none=>cases u with
  | none=>rfl
  | some _=>exact (show False from r).elim
 | some _=>cases u with
  | none=>exact (show False from r).elim
  | some _=>rfl
theorem KV.val {kvs:List (κ×V)}{vs:List (κ×Value)}(r:KV kvs vs)(k:κ):RelO (valV kvs k) (valueAt vs k):=by
 unfold KV at r
 induction r with
 | nil=>exact True.intro
 | @cons p q ps qs h t ih =>
  obtain ⟨h1,h2⟩:=h
  by_cases e:p.1=k
  ·have e':q.1=k:=h1.symm.trans e
   have b:valueAt (q::qs) k=some q.2:=by simp [valueAt,List.find?_cons,e']
   rw [zhk_ e,b]; exact h2
  ·have e':¬ q.1=k:=fun z=>e (h1.trans z)
   have b:valueAt (q::qs) k=valueAt qs k:=by simp [valueAt,List.find?_cons,e']
   rw [zgT_ e,b]; exact ih
theorem KV.any {kvs:List (κ×V)}{vs:List (κ×Value)}(r:KV kvs vs)(k:κ):(kvs.any fun kv=>decide (kv.1=k))=vs.any fun kv=>decide (kv.1=k):=by
 unfold KV at r
 induction r with
 | nil=>rfl
 | cons h t ih=>rw [List.any_cons,List.any_cons,ih,h.1]
theorem KV.repl {kvs:List (κ×V)}{vs:List (κ×Value)}(r:KV kvs vs)(k:κ){y:V}{u:Value}(ry:RelV y u):
  KV (kvs.map fun kv=>if kv.1=k then (kv.1,y) else kv) (vs.map fun kv=>if kv.1=k then (kv.1,u) else kv):=by
 unfold KV at r ⊢
 induction r with
 | nil=>exact .nil
 | @cons p q ps qs h t ih =>
  rw [List.map_cons,List.map_cons]
  refine .cons ?_ ih
  obtain ⟨h1,h2⟩:=h
  by_cases e:p.1=k
  ·rw [if_pos e,if_pos (h1.symm.trans e)]; exact ⟨h1,ry⟩
  ·rw [if_neg e,if_neg (fun z=>e (h1.trans z))]; exact ⟨h1,h2⟩
theorem KV.put {kvs:List (κ×V)}{vs:List (κ×Value)}(r:KV kvs vs)(k:κ){y:V}{u:Value}(ry:RelV y u):KV (putK kvs k y) (stored vs k u):=by
 unfold putK stored
 rw [r.any k]
 by_cases e:(vs.any fun kv=>decide (kv.1=k))=true
 ·rw [if_pos e,if_pos e]; exact r.repl k ry
 ·rw [if_neg e,if_neg e]; exact Paired.snoc r ⟨rfl,ry⟩
theorem KV.length {kvs:List (κ×V)}{vs:List (κ×Value)}(r:KV kvs vs):kvs.length=vs.length:=Paired.length r
end
theorem zoV_ {P:Program}{w:World}{k:Key}{u:Value}(r:RelV (kV k) u):(mixKind P w).is k u=true:=by
 cases k with
 | inl i=>obtain ⟨t,e⟩:=(show ∃ t,u=Value.int i t from r); subst e; exact zh2_ P w i t
 | inr x=>obtain ⟨t,e⟩:=(show ∃ t,u=Value.str x t from r); subst e; exact zh4_ P w x t
theorem zhu_ {P:Program}{w:World}:∀ {ks:List Key}{us:List Value},Vals (ks.map kV) us->ItemsAre (mixKind P w) ks us
 | [],_,r=>by rw [List.map_nil] at r; cases r; exact .nil
 | k::ks,_,r=>by
  rw [List.map_cons] at r
  cases r with
  | cons h t=>exact .cons (zoV_ h) (zhu_ t)
abbrev KT (H:Hp):List (List Key×V)->List (List Key×Addr×Value)->Prop:=Paired fun p q=>p.1=q.1/\H q.2.1=some (.tup (p.1.map kV))/\RelV p.2 q.2.2
theorem KT.val {H:Hp}{kvs:List (List Key×V)}{xs:List (List Key×Addr×Value)}(r:KT H kvs xs)(k:List Key):RelO (valV kvs k) ((atKey xs k).map (·.2)):=by
 induction r with
 | nil=>exact True.intro
 | @cons p q ps qs h t ih =>
  obtain ⟨h1,_,h2⟩:=h
  by_cases e:p.1=k
  ·have e':q.1=k:=h1.symm.trans e
   have b:atKey (q::qs) k=some q.2:=by simp [atKey,List.find?_cons,e']
   rw [zhk_ e,b]; exact h2
  ·have e':¬ q.1=k:=fun z=>e (h1.trans z)
   have b:atKey (q::qs) k=atKey qs k:=by simp [atKey,List.find?_cons,e']
   rw [zgT_ e,b]; exact ih
theorem KT.repl {H:Hp}{kvs:List (List Key×V)}{xs:List (List Key×Addr×Value)}(r:KT H kvs xs)(k:List Key){y:V}{u:Value}(ry:RelV y u):
  KT H (kvs.map fun kv=>if kv.1=k then (kv.1,y) else kv) (xs.map (putAt k u)):=by
 induction r with
 | nil=>exact .nil
 | @cons p q ps qs h t ih =>
  rw [List.map_cons,List.map_cons]
  refine .cons ?_ ih
  obtain ⟨h1,h2,h3⟩:=h
  unfold putAt
  by_cases e:p.1=k
  ·rw [if_pos e,if_pos (h1.symm.trans e)]; exact ⟨h1,h2,ry⟩
  ·rw [if_neg e,if_neg (fun z=>e (h1.trans z))]; exact ⟨h1,h2,h3⟩
theorem KT.put {H:Hp}{kvs:List (List Key×V)}{xs:List (List Key×Addr×Value)}(r:KT H kvs xs)(k:List Key){b:Addr}{y:V}{u:Value}(hb:H b=some (.tup (k.map kV)))(ry:RelV y u):
  KT H (putK kvs k y) (storedH xs k b u):=by
 have e:(kvs.any fun kv=>decide (kv.1=k))=(atKey xs k).isSome:=by
  rw [zjq_,(r.val k).isSome_eq,Option.isSome_map]
 unfold putK storedH
 rw [e]
 by_cases q:(atKey xs k).isSome=true
 ·rw [if_pos q,if_pos q]; exact r.repl k ry
 ·rw [if_neg q,if_neg q]; exact Paired.snoc r ⟨rfl,hb,ry⟩
theorem KT.keeps {H H':Hp}{kvs:List (List Key×V)}{xs:List (List Key×Addr×Value)}(r:KT H kvs xs)(ht:∀ b ys,H b=some (.tup ys)->H' b=some (.tup ys)):KT H' kvs xs:=
 Paired.mapP r fun _ _ z=>⟨z.1,ht _ _ z.2.1,z.2.2⟩
section
variable {P:Program}{w:World}{H:Hp}{h:Heap}{a:Addr}
theorem rd_of {u:HO}(ok:HOk P w H h)(e:Rd H a u):ObjOk P w H h a u:=e.ok ok
theorem znp_ {kvs:List (Key×V)}(ok:HOk P w H h)(e:Rd H a (.dK kvs)):kvs.length<=sizeLine/\(a == sysModules)=false/\∃ vs,KV kvs vs/\h.DictOf (mixKind P w) a vs:=
 show ObjOk P w H h a (.dK kvs) from rd_of ok e
theorem dk_of {kvs:List (Key×V)}(ok:HOk P w H h)(e:H a=some (.dK kvs)):kvs.length<=sizeLine/\(a == sysModules)=false/\∃ vs,KV kvs vs/\h.DictOf (mixKind P w) a vs:=znp_ ok (.inl e)
theorem zkO_ {ks:List Key}(ok:HOk P w H h)(e:H a=some (.tup (ks.map kV))):(tupleKind (mixKind P w)).is h ks a:=by
 obtain ⟨_,aa,r,o,h1,h2,n,h3⟩:=(show ObjOk P w H h a (.tup (ks.map kV)) from ok a _ e)
 exact ⟨o,aa.toArray,n,h1,h2,h3,by simpa using zhu_ r⟩
theorem zoH_ {kvs:List (List Key×V)}(ok:HOk P w H h)(e:Rd H a (.dT kvs)):kvs.length<=sizeLine/\(a == sysModules)=false /\
  ∃ xs,KT H kvs xs/\h.DictOfH (tupleKind (mixKind P w)) a xs:=by
 obtain ⟨z,y,xs,r,o,es,ep,h1,h2,h3,h4,h5⟩:=(show ObjOk P w H h a (.dT kvs) from rd_of ok e)
 refine ⟨z,y,xs,r,o,es,ep,h1,h2,h3,h4,fun x hx=>?_,h5⟩
 have all:∀ {l:List (List Key×V)}{m:List (List Key×Addr×Value)},KT H l m->∀ x∈m,(tupleKind (mixKind P w)).is h x.1 x.2.1:=by
  intro l m q
  induction q with
  | nil=>intro x hx; exact nomatch hx
  | @cons p q ps qs hq t ih =>
   intro x hx
   rcases List.mem_cons.mp hx with e | hx
   ·subst e
    exact zkO_ ok (by rw [<- hq.1]; exact hq.2.1)
   ·exact ih x hx
 exact all r x hx
theorem dt_of {kvs:List (List Key×V)}(ok:HOk P w H h)(e:H a=some (.dT kvs)):kvs.length<=sizeLine/\(a == sysModules)=false /\
  ∃ xs,KT H kvs xs/\h.DictOfH (tupleKind (mixKind P w)) a xs:=zoH_ ok (.inl e)
end
def DGet (H:Hp)(a:Addr)(y:V)(r:Option V):Prop:=
 (∃ kvs k,Rd H a (.dK kvs)/\y=kV k/\r=valV kvs k)\/∃ kvs k b,Rd H a (.dT kvs)/\y=.ref b/\H b=some (.tup (k.map kV))/\r=valV kvs k
def DPut (H:Hp)(a:Addr)(y v:V)(H':Hp):Prop:=
 (∃ kvs k,H a=some (.dK kvs)/\y=kV k/\kvs.length<sizeLine/\H'=upd H a (.dK (putK kvs k v))) \/
 ∃ kvs k b,H a=some (.dT kvs)/\y=.ref b/\H b=some (.tup (k.map kV))/\kvs.length<sizeLine/\H'=upd H a (.dT (putK kvs k v))
theorem DGet.k {H:Hp}{a:Addr}{kvs:List (Key×V)}{k:Key}(e:H a=some (.dK kvs)):DGet H a (kV k) (valV kvs k):=.inl ⟨kvs,k,.inl e,rfl,rfl⟩
theorem DPut.k {H:Hp}{a:Addr}{kvs:List (Key×V)}{k:Key}{v:V}(e:H a=some (.dK kvs))(hl:kvs.length<sizeLine):DPut H a (kV k) v (upd H a (.dK (putK kvs k v))):=.inl ⟨kvs,k,e,rfl,hl,rfl⟩
section
variable {X:Cx}{pins:Pnn}{σ:St}{H:Hp}{s:Shared}{a:Addr}{y v:V}{u r:Value}{o:Option V}{A:Around}{E:Value->Shared->Prop}
theorem Inv.big (I:Inv X pins σ H s):sysModules<s.heap.objs.size:=by
 have h:mainGlobals<s.heap.objs.size:=(I.mod.glob.keeps I.bk).lt
 exact Nat.lt_trans (by decide) h
theorem zkW_ {Q:Value->Shared->Prop}(hu:A.units+1<cLine)(I:Inv X pins σ H s)(g:DGet H a y (some v))(ry:RelV y u)(h:∀ w' s',Inv X pins σ H s'->RelV v w'->Q w' s'):
  wpAny (model X.prog X.w) A (getItem (.ref a) u) Q E s:=by
 rcases g with ⟨kvs,k,e,ey,l⟩ | ⟨kvs,k,b,e,ey,eb,l⟩
 ·subst ey
  obtain ⟨z,hd,vs,rel,dd⟩:=znp_ I.hok e
  obtain ⟨w',hw,aN⟩:=RelO.some_of (v:=v) (o:=valueAt vs k) (by rw [l]; exact rel.val k)
  exact wpAny_getItem_of (zoV_ ry) dd.mapOf hw (h w' _ (I.tok _) aN)
 ·subst ey
  cases (show u=Value.ref b from ry)
  obtain ⟨z,hd,xs,rel,dd⟩:=zoH_ I.hok e
  obtain ⟨w',hw,aN⟩:=RelO.some_of (v:=v) (o:=(atKey xs k).map (·.2)) (by rw [l]; exact rel.val k)
  obtain ⟨p,hp,hp2⟩:=Option.map_eq_some_iff.mp hw
  refine wpAny_getItem_heap (tupleKind_room_in1 hu) (zkO_ I.hok eb) dd hp ?_
  rw [hp2]
  exact h w' _ (I.tok _) aN
theorem d_in {Q:Value->Shared->Prop}(hu:A.units+1<cLine)(I:Inv X pins σ H s)(g:DGet H a y o)(ry:RelV y u)(h:∀ s',Inv X pins σ H s'->Q (.bool o.isSome) s'):
  wpAny (model X.prog X.w) A (compareOp .In u (.ref a)) Q E s:=by
 rcases g with ⟨kvs,k,e,ey,l⟩ | ⟨kvs,k,b,e,ey,eb,l⟩
 ·subst ey
  obtain ⟨z,hd,vs,rel,dd⟩:=znp_ I.hok e
  refine wpAny_in_of (zoV_ ry) hd dd.mapOf ?_
  rw [<- (rel.val k).isSome_eq,<- l]
  exact h _ (I.tok _)
 ·subst ey
  cases (show u=Value.ref b from ry)
  obtain ⟨z,hd,xs,rel,dd⟩:=zoH_ I.hok e
  refine wpAny_in_heap (tupleKind_room_in1 hu) (zkO_ I.hok eb) hd dd ?_
  have q:=(rel.val k).isSome_eq
  rw [Option.isSome_map] at q
  rw [<- q,<- l]
  exact h _ (I.tok _)
theorem zjx_ {h':Heap}{t':Nat}{ob:HO}(I:Inv X pins σ H s)(mu:Mut (H a))(hs:Heap.SameBut a s.heap h')(he:∃ q,h'.get? a=some q)(new:ObjOk X.prog X.w (upd H a ob) h' a ob):
  Inv X pins σ (upd H a ob) { s with heap:=h',toks:=t' }:=
 I.write (x:=a) (e:=a) mu (.inl rfl) (fun b q hb z=>(hs.2 b hb).trans z) he new
theorem znP_ {P:Program}{w:World}{H':Hp}{h':Heap}{kvs:List (Key×V)}{vs:List (Key×Value)}(z:kvs.length<=sizeLine)(hd:(a == sysModules)=false)(rel:KV kvs vs)(dd:h'.DictOf (mixKind P w) a vs):
  ObjOk P w H' h' a (.dK kvs):=⟨z,hd,vs,rel,dd⟩
theorem zkg_ {H':Hp}{Q:Unit->Shared->Prop}(hu:A.units+1<cLine)(I:Inv X pins σ H s)(g:DPut H a y v H')(ry:RelV y u)(rv:RelV v r)(h:∀ s',Inv X pins σ H' s'->Q () s'):
  wpAny (model X.prog X.w) A (setItem (.ref a) u r) Q E s:=by
 rcases g with ⟨kvs,k,e,ey,l,eH⟩ | ⟨kvs,k,b,e,ey,eb,l,eH⟩
 ·subst ey eH
  obtain ⟨z,hd,vs,rel,dd⟩:=dk_of I.hok e
  have hz:vs.length<=sizeLine:=by rw [<- rel.length]; exact z
  have hl:(putK kvs k v).length<=sizeLine:=by have:=zdh_ kvs k v; lia
  refine wpAny_setItem_pairs (hsz:=hz) (zoV_ ry) dd fun h' fK hs=>h _ ?_
  have he:∃ q,h'.get? a=some q:=let ⟨q,_,_,hq,_⟩:=fK; ⟨q,hq⟩
  exact zjx_ I (by rw [e]; exact True.intro) hs he (znP_ hl hd (rel.put k rv) fK)
 ·subst ey eH
  cases (show u=Value.ref b from ry)
  obtain ⟨z,hd,xs,rel,dd⟩:=dt_of I.hok e
  have hz:xs.length<=sizeLine:=by rw [<- Paired.length rel]; exact z
  have hl:(putK kvs k v).length<=sizeLine:=by have:=zdh_ kvs k v; lia
  refine wpAny_setItem_heap (hsz:=hz) (tupleKind_room_in1 hu) (zkO_ I.hok eb) dd fun h' fK hs=>h _ ?_
  obtain ⟨q,es,ep,hq,h2,h3,h4,_,h5⟩:=fK
  refine zjx_ I (by rw [e]; exact True.intro) hs ⟨q,hq⟩ ⟨hl,hd,_,(rel.put k eb rv).keeps fun c ys ec=>?_,q,es,ep,hq,h2,h3,h4,h5⟩
  rw [zZ_ (ne_of ec e (fun z=>nomatch z))]
  exact ec
end
def NoSl (i:Expr):Prop:=∀ ov iv,subscripted i false ov iv=operate [ov,iv] (getItem ov iv)
theorem zoC_ {prog:Program}{w:World}{A:Around}{E:Value->Shared->Prop}{s:Shared}{env:Env}{value slice:Expr}{pos:Pos}{T id:String}{Q:Value->Shared->Prop}
  (hl:typeLookup (.type T) "__getitem__"=pure (some (.builtin id))) (hs:NoSl slice)
  (h:wpAny (model prog w) A (eval value env) (fun o ag=>wpAny (model prog w) A (eval slice env) (fun i aH=>aH.TypeIs o T/\wpAny (model prog w) A (getItem o i) Q E aH) E ag) E s):
  wpAny (model prog w) A (eval (.Subscript value slice pos) env) Q E s:=by
 refine Subscript_ (wpAny_mono h (fun o ag bj=>wpAny_mono bj (fun i aH da=>?_) fun _ _ x=>x) fun _ _ x=>x)
 obtain ⟨hT,da⟩:=da
 unfold subscriptTail
 refine wpAny_bind ?_
 rw [getitemInPython_of_ne hT.not_modules]
 refine wpAny_bind (wpAny_specialOf hT hl ?_)
 have fin:wpAny (model prog w) A (subscripted slice false o i) (fun r aM=>wpAny (model prog w) A (letTemporaryGo value o r>>=fun _=>pure r) Q E aM) E aH:=by
  rw [hs o i]
  exact wpAny_operating (wpAny_mono da (fun r aM fj=>wpAny_bind (wpAny_letTemporaryGo (wpAny_pure fj))) fun _ _ x=>x)
 first
  | exact wpAny_pure (wpAny_bind fin)
  | exact wpAny_bind (wpAny_pure (wpAny_bind fin))
  | exact wpAny_bind fin
theorem zic_ {X:Cx}{pins:Pnn}{σ:St}{H:Hp}{s:Shared}{a:Addr}{y:V}{o:Option V}(I:Inv X pins σ H s)(g:DGet H a y o):s.TypeIs (.ref a) "dict":=by
 rcases g with ⟨kvs,k,e,_,_⟩ | ⟨kvs,k,b,e,_,_,_⟩
 ·obtain ⟨_,_,vs,_,dd⟩:=znp_ I.hok e
  exact dd.typeIs
 ·obtain ⟨_,_,xs,_,dd⟩:=zoH_ I.hok e
  exact dd.typeIs
section
end
theorem zl8_ {P:Program}{w:World}{H:Hp}(h:Heap)(hb:sysModules<h.objs.size):ObjOk P w H (h.push { cls:=.type "dict",data:=.dict #[] }) h.objs.size (.dK []):=
 ⟨Nat.zero_le _,beq_eq_false_iff_ne.mpr (Ne.symm (Nat.ne_of_lt hb)),[],.nil,Heap.DictOf.new h⟩
def tDNewK:TE:=fun _ H Q=>∀ p,H p=none->Q (.ref p) (upd H p (.dK []))
section
variable {X:Cx}{pos:Pos}
theorem zjI_:PE X (.Dict [] [] pos) tDNewK:=fun pins s σ H Q I h =>
 wpAny_Dict_empty ⟨.ref s.heap.objs.size,_,I.laid (a:=s.heap.objs.size) (o:=.dK []) (t':=s.toks) (fun _ _ q=>Heap.get?_push_of_some _ q) (Nat.le_refl _) (zl8_ s.heap I.big),rfl,h _ (I.hok.fresh (Nat.le_refl _))⟩
end
structure M2 (X:Cx)(o:Expr)(m:Str)(apos:Pos)(e f:Expr)(ak:Pos):Prop where
 base:attributeBase o m X.env (eval o X.env)=eval o X.env
 few:((backTo ak (starEach [e,f] X.env)).all (fun x=>!x.1) && (backToKw ak (keywordEach [] X.env)).all (fun x=>x.1.isSome)
  && decide (([e,f]:List Expr).length+([]:List Keyword).length+(if ([]:List Keyword).isEmpty then 0 else 1)<30))=true
 line:(apos.endLine == ak.line)=true
 trees:backTo ak (starEach [e,f] X.env)=[(false,eval e X.env),(false,eval f X.env)]
def IsD (H:Hp)(a:Addr):Prop:=(∃ kvs,Rd H a (.dK kvs))\/∃ kvs,Rd H a (.dT kvs)
theorem zp1_ {X:Cx}{pins:Pnn}{σ:St}{H:Hp}{s:Shared}{a:Addr}(I:Inv X pins σ H s)(d:IsD H a):
  s.TypeIs (.ref a) "dict" /\ (∀ b,Value.ref a=.ref b->∃ ob,s.heap.get? b=some ob/\ob.dict=none)/\(a==sysModules)=false:=by
 rcases d with ⟨kvs,e⟩ | ⟨kvs,e⟩
 ·obtain ⟨_,hd,vs,_,dd⟩:=znp_ I.hok e
  refine ⟨dd.typeIs,fun b q=>?_,hd⟩
  cases q
  obtain ⟨ob,_,_,h1,h2,_⟩:=dd
  exact ⟨ob,h1,h2.2.1⟩
 ·obtain ⟨_,hd,xs,_,dd⟩:=zoH_ I.hok e
  refine ⟨dd.typeIs,fun b q=>?_,hd⟩
  cases q
  obtain ⟨ob,_,_,h1,h2,_⟩:=dd
  exact ⟨ob,h1,h2.2.1⟩
section
end
section
namespace L2
open PySem PySem.Spec PyProof.Rows
section
end
section
variable {κ:Type}[DecidableEq κ]
end
end L2
end
section
end
def Itz (K:Fgg)(l m:Addr):It:=
 ⟨fun i H=>∃ xs ys x y,SqL K H l xs/\SqL K H m ys/\xs[i]?=some x/\ys[i]?=some y,
  fun i H v H'=>∃ p x y,(∀ xs,SqL K H l xs->xs[i]?=some x)/\(∀ ys,SqL K H m ys->ys[i]?=some y)/\H p=none/\v=.ref p/\H'=upd H p (.tup [x,y]),
  fun i H=>∃ xs ys,SqL K H l xs/\SqL K H m ys/\(xs.length<=i\/ys.length<=i)⟩
theorem zmS_ {P:Program}{w:World}{K:Fgg}{elts:List Expr}{kk:Nat}{pos:Pos}(z TI TO i1 i2 l m:Addr)(D:ZipApart z TI TO i1 i2 l m):
  Turn P w K (.Tuple elts kk pos) (Itz K l m) [z,TI,TO,i1,i2] z (fun i h=>IsZip h z TI TO .none/\IsPair h TI (.ref i1) (.ref i2)/\(∃ a b,IsPair h TO a b)/\h.IsListIter i1 l i/\h.IsListIter i2 m i) where
 mem:=by simp
 obj:=fun i h st b hb=>by
  obtain ⟨hz,aX,⟨a,c,bt⟩,⟨o1,ho1,c1,d1⟩,⟨o2,ho2,c2,d2⟩⟩:=st
  rcases List.mem_cons.mp hb with rfl | hb
  ·exact ⟨_,hz,fun v z=>by cases z⟩
  rcases List.mem_cons.mp hb with rfl | hb
  ·exact ⟨_,aX,fun v z=>by cases z⟩
  rcases List.mem_cons.mp hb with rfl | hb
  ·exact ⟨_,bt,fun v z=>by cases z⟩
  rcases List.mem_cons.mp hb with rfl | hb
  ·exact ⟨o1,ho1,fun v z=>by rw [d1] at z; cases z⟩
  ·have e:b=i2:=by simpa using hb
   subst e
   exact ⟨o2,ho2,fun v z=>by rw [d2] at z; cases z⟩
 keep:=fun i h h' st k=>by
  obtain ⟨hz,aX,⟨a,c,bt⟩,h1,h2⟩:=st
  exact ⟨k z (by simp) _ hz,k TI (by simp) _ aX,⟨a,c,k TO (by simp) _ bt⟩,h1.at fun o q=>k i1 (by simp) o q,h2.at fun o q=>k i2 (by simp) o q⟩
 item:=by
  intro X hP hw hK hc i pins s σ H E I hf st hg
  subst hP hw hK
  obtain ⟨xs,ys,x,y,hq,dX,hx,hy⟩:=hg
  obtain ⟨aa,rv,p,hz0⟩:=I.list hq
  obtain ⟨aq,rv2,p2,hz2⟩:=I.list dX
  obtain ⟨u,hu,ru⟩:=rv.get hx
  obtain ⟨v,hv,aN⟩:=rv2.get hy
  obtain ⟨hz,aX,⟨a,c,bt⟩,h1,h2⟩:=st
  have lt:∀ {c o},s.heap.get? c=some o->c<s.heap.objs.size:=fun e=>Heap.lt_size e
  have lz:=lt hz
  have jv:=lt aX
  have ju:=lt bt
  have l1:i1<s.heap.objs.size:=by obtain ⟨o,e,_⟩:=id h1; exact lt e
  have l2:i2<s.heap.objs.size:=by obtain ⟨o,e,_⟩:=id h2; exact lt e
  refine wpAny_pyNext_zip_item D hz aX bt h1 h2 p.isList p2.isList (x:=u) (y:=v) (by simpa using hu) (by simpa using hv) fun h3 z3 kJ fe fb ji mw hU=>?_
  refine ⟨_,rfl,?_⟩
  refine wpAny_letOwnedTupleGo_zip z3 fun h4 z4 cn=>?_
  replace cn:Heap.SameBut z h3 h4:=cn
  have hp:H s.heap.objs.size=none:=I.hok.fresh (Nat.le_refl _)
  have I1:Inv X pins σ (upd H s.heap.objs.size (.tup [x,y])) { s with heap:=s.heap.push { cls:=.type "tuple",data:=.seq #[u,v] },toks:=s.toks }:=by
   refine I.laid (fun b u q=>Heap.get?_push_of_some _ q) (Nat.le_refl _) ⟨?_,[u,v],.cons ru (.cons aN .nil),⟨_,Heap.get?_push_size _ rfl,rfl,_,rfl⟩⟩
   show 2<=sizeLine
   decide
  have ay:∀ b∈[z,TI,TO,i1,i2],b<s.heap.objs.size:=fun b hb=>by
   rcases List.mem_cons.mp hb with rfl | hb
   ·exact lz
   rcases List.mem_cons.mp hb with rfl | hb
   ·exact jv
   rcases List.mem_cons.mp hb with rfl | hb
   ·exact ju
   rcases List.mem_cons.mp hb with rfl | hb
   ·exact l1
   ·have e:b=i2:=by simpa using hb
    rw [e]; exact l2
  have eC:∀ b∈[z,TI,TO,i1,i2],FpOk X pins (upd H s.heap.objs.size (.tup [x,y])) b:=fun b hb=>by
   obtain ⟨f0,r⟩:=hf b hb
   refine ⟨?_,r⟩
   rw [zZ_ (Nat.ne_of_lt (ay b hb))]
   exact f0
  have I2:Inv X pins σ (upd H s.heap.objs.size (.tup [x,y])) { s with heap:=h4,toks:=s.toks }:=by
   refine Inv.turnedL (s:={ s with heap:=s.heap.push { cls:=.type "tuple",data:=.seq #[u,v] },toks:=s.toks }) (ch:=[z,TI,TO,i1,i2]) I1 (fun b o hb q=>?_) eC
   have n1:b≠z:=fun e=>hb (by simp [e])
   have n2:b≠TO:=fun e=>hb (by simp [e])
   have n3:b≠i1:=fun e=>hb (by simp [e])
   have n4:b≠i2:=fun e=>hb (by simp [e])
   refine (cn.2 b n1).trans ?_
   rcases Heap.get?_push_cases q with ⟨rfl,rfl⟩ | q'
   ·exact ji
   ·exact hU b o n1 n2 n3 n4 q'
  refine ⟨.ref s.heap.objs.size,_,I2,rfl,⟨s.heap.objs.size,x,y,fun zs gQ=>by rw [I.list_inj gQ hq]; exact hx,fun zs gQ=>by rw [I.list_inj gQ dX]; exact hy,hp,rfl,rfl⟩,⟨z4,?_,⟨u,v,?_⟩,?_,?_⟩,fun b hb=>(eC b hb).1⟩
  ·exact (cn.2 TI D.TIz).trans (hU TI _ D.TIz D.TITO D.TIi1 D.TIi2 aX)
  ·exact (cn.2 TO D.TOz).trans kJ
  ·exact fe.extBut cn.extBut D.i1z
  ·exact fb.extBut cn.extBut D.i2z
 done:=by
  intro X hP hw hK hc i pins s σ H E I hf st hg
  subst hP hw hK
  obtain ⟨xs,ys,hq,dX,hx⟩:=hg
  obtain ⟨aa,rv,p,hz0⟩:=I.list hq
  obtain ⟨aq,rv2,p2,hz2⟩:=I.list dX
  obtain ⟨hz,aX,⟨a,c,bt⟩,h1,h2⟩:=st
  have hl:=rv.length
  have fY:=rv2.length
  refine wpAny_pyNext_zip_end (I.ok.hd hc) D hz aX bt h1 h2 p.isList p2.isList ?_ fun h' eb=>⟨rfl,?_⟩
  ·rcases hx with hx | hx
   ·exact .inl (by simp; lia)
   ·exact .inr (by simp; lia)
  ·refine Inv.turnedL (s:=s) (t':=s.toks) (ch:=[z,TI,TO,i1,i2]) I (fun b o hb q=>eb b o (fun e=>hb (by simp [e])) (fun e=>hb (by simp [e])) (fun e=>hb (by simp [e])) (fun e=>hb (by simp [e])) q) hf
 self:=fun _ _ _ _ _ st h=>wpAny_pyIter_zip st.1 h
theorem zka_ {N l m:Nat}(hl:l<N)(hm:m<N):ZipApart (N+4) (N+2) (N+3) N (N+1) l m:=by
 constructor<;>(intro e; have e':(_:Nat)=_:=congrArg (fun x:Nat=>x) e; lia)
section
end
theorem zc6_ {α β:Type}{f g:α->Option β}:∀ {l:List α},(∀ a∈l,f a=g a)->l.filterMap f=l.filterMap g
 | [],_=>rfl
 | a::l,h=>by rw [List.filterMap_cons,List.filterMap_cons,h a List.mem_cons_self,zc6_ fun b hb=>h b (List.mem_cons_of_mem _ hb)]
section
end
def keyV:V->Option Key
 | .int i=>some (.inl i)
 | .str z=>some (.inr z)
 | _=>none
theorem zpf_ {y:V}{k:Key}(h:keyV y=some k):y=kV k:=by
 cases y<;>first | (cases h; rfl) | cases h
def atD (x y:V)(H:Hp)(R:Addr->List (Key×V)->Key->Prop):Prop:=match x with
 | .ref a=>(match keyV y with | some k=>∃ kvs,H a=some (.dK kvs)/\R a kvs k | none=>False)
 | _=>False
theorem zke_ {x y:V}{H:Hp}{R:Addr->List (Key×V)->Key->Prop}(h:atD x y H R):∃ a kvs k,x=.ref a/\y=kV k/\H a=some (.dK kvs)/\R a kvs k:=by
 unfold atD at h
 cases x with
 | ref a =>
  cases e:keyV y with
  | none=>rw [e] at h; exact h.elim
  | some k =>
   rw [e] at h
   obtain ⟨kvs,h1,h2⟩:=h
   exact ⟨a,kvs,k,rfl,zpf_ e,h1,h2⟩
 | _=>exact h.elim
def mDGet (td ty:TE):TE:=fun σ H Q=>td σ H fun x H1=>ty σ H1 fun y H2=>atD x y H2 fun _ kvs k=>∃ v,valV kvs k=some v/\Q v H2
def mDIn (neg:Bool)(ty td:TE):TE:=fun σ H Q=>ty σ H fun y H1=>td σ H1 fun x H2=>atD x y H2 fun _ kvs k=>Q (.bl (if neg then !(valV kvs k).isSome else (valV kvs k).isSome)) H2
def mDPut (td ty tv:TE):TS:=fun D σ H=>tv σ H fun v H1=>td σ H1 fun x H2=>ty σ H2 fun y H3=>atD x y H3 fun a kvs k=>kvs.length<sizeLine/\D.nx σ (upd H3 a (.dK (putK kvs k v)))
section
variable {X:Cx}{o i value:Expr}{pos pos':Pos}{td ty tv:TE}
theorem zmB_ (hu:X.A.units+60<cLine)(ho:PE X o td)(hi:PE X i ty)(hs:NoSl i:=by exact fun _ _=>rfl):PE X (.Subscript o i pos) (mDGet td ty):=by
 intro pins s σ H Q I h
 refine zoC_ PySem.F.slot_dict_getitem.lookup hs (thn (ho pins s σ H _ I h) fun u s1 ⟨x,H1,I1,rx,q1⟩=>thn (hi pins s1 σ H1 _ I1 q1) fun iv s2 af=>?_)
 obtain ⟨y,H2,I2,ry,q2⟩:=af
 obtain ⟨a,kvs,k,rfl,rfl,hd,v,hv,q⟩:=zke_ q2
 obtain rfl:u=Value.ref a:=rx
 have g:DGet H2 a (kV k) (some v):=by rw [<- hv]; exact DGet.k hd
 exact ⟨zic_ I2 g,zkW_ (by lia) I2 g ry fun w' s3 I3 aN=>⟨v,H2,I3,aN,q⟩⟩
theorem zoN_ (hu:X.A.units+60<cLine)(hi:PE X i ty)(ho:PE X o td):PC X .In i o (mDIn false ty td):=by
 intro pins s σ H Q I h
 refine thn (hi pins s σ H _ I h) fun iv s1 ⟨y,H1,I1,ry,q1⟩=>thn (ho pins s1 σ H1 _ I1 q1) fun u s2 af=>?_
 obtain ⟨x,H2,I2,rx,q2⟩:=af
 obtain ⟨a,kvs,k,rfl,rfl,hd,q⟩:=zke_ q2
 obtain rfl:u=Value.ref a:=rx
 exact d_in (by lia) I2 (DGet.k (k:=k) hd) ry fun s3 I3=>⟨.bl (valV kvs k).isSome,H2,I3,rfl,q⟩
theorem zno_ (hu:X.A.units+60<cLine)(ho:PE X o td)(hi:PE X i ty)(hv:PE X value tv)(hs:swapsWith value (some (.Subscript o i pos')) pos.line X.env=pure false:=by rfl):
  PS X (.Assign [.Subscript o i pos'] value pos) (mDPut td ty tv):=by
 intro pins s σ H D I h
 refine wpAny_Assign_Subscript (thn (hv pins s σ H _ I h) fun r s1 ⟨v,H1,I1,rv,q1⟩=>thn (ho pins s1 σ H1 _ I1 q1) fun u s2 ⟨x,H2,I2,rx,q2⟩=>thn (hi pins s2 σ H2 _ I2 q2) fun iv s3 af=>?_) hs
 obtain ⟨y,H3,I3,ry,q3⟩:=af
 obtain ⟨a,kvs,k,rfl,rfl,hd,hl,q⟩:=zke_ q3
 obtain rfl:u=Value.ref a:=rx
 exact zkg_ (by lia) I3 (DPut.k hd hl) ry rv fun s4 I4=>⟨σ,_,I4,q⟩
theorem zlP_ {op:CmpOp}{a b:Expr}{t:TE}(h:PC X op a b t)(h1:behindInMarks op b=false):PT X (.Compare a [op] [b] pos) (mTest t):=by
 intro pins s σ H Q I hw
 refine wpAny_isTrue_Compare1 (thn (h pins s σ H _ I hw) fun v s1 q=>thn q fun u s2 q=>thn q fun c s3 af=>?_) h1
 obtain ⟨x,H1,I1,r,q⟩:=af
 cases x with
 | bl k=>cases r; exact wpAny_truthy_bool ⟨H1,I1,q⟩
 | _=>exact q.elim
theorem znD_ (hu:X.A.units+60<cLine)(hi:PE X i ty)(ho:PE X o td)(h1:behindInMarks .In o=false:=by rfl):PT X (.Compare i [.In] [o] pos) (mTest (mDIn false ty td)):=zlP_ (zoN_ hu hi ho) h1
end
inductive Av where
 | i (n:Int) | p (a b:Int)
inductive Xc where
 | pl (c:String) | at (c:String) (as:List (Str×Av))
instance:Coe String Xc:=⟨Xc.pl⟩
inductive Mo (α:Type) where
 | ok (a:α) | ex (c:Xc) | no
namespace Mo
variable {α β:Type}
def bind (x:Mo α)(f:α->Mo β):Mo β:=match x with | .ok a=>f a | .ex c=>.ex c | .no=>.no
theorem ok_bind (a:α)(f:α->Mo β):(Mo.ok a).bind f=f a:=rfl
def noex (x:Mo α):Mo α:=match x with | .ok a=>.ok a | _=>.no
def lim (n:Nat)(k:Mo α):Mo α:=if n<=sizeLine then k else .no
theorem lim_ok {n:Nat}{k:Mo α}(h:n<=100000):lim n k=k:=if_pos (zcK_ h)
def grd (p:Prop)[Decidable p](k:Mo α):Mo α:=if p then k else .no
theorem grd_ok {p:Prop}[Decidable p]{k:Mo α}(h:p):grd p k=k:=if_pos h
def opt (x:Option α):Mo α:=match x with | some a=>.ok a | none=>.no
end Mo
def un (F h:Hp):Hp:=fun p=>match F p with | some o=>some o | none=>h p
def Dj (F h:Hp):Prop:=∀ p,F p=none\/h p=none
def Jn (h1 h2 h:Hp):Prop:=∀ p,(h1 p=none/\h p=h2 p)\/(h2 p=none/\h p=h1 p)
def Ext (F H F' H':Hp):Prop:=Same F F'/\Same F' H'/\Same H H'/\∀ p,F p=none->F' p≠none->H p=none
theorem Ext.refl {F H:Hp}(h:Same F H):Ext F H F H:=⟨Same.refl _,h,Same.refl _,fun p a b=>absurd a b⟩
theorem Ext.trans {F H F1 H1 F2 H2:Hp}(a:Ext F H F1 H1)(b:Ext F1 H1 F2 H2):Ext F H F2 H2:=by
 obtain ⟨a1,a2,a3,a4⟩:=a
 obtain ⟨b1,b2,b3,b4⟩:=b
 refine ⟨a1.trans b1,b2,a3.trans b3,fun p hp hq=>?_⟩
 cases e:F1 p with
 | none=>exact a3.free (b4 p e hq)
 | some o=>exact a4 p hp (by rw [e]; exact sN _)
theorem Ext.heap {F H H':Hp}(h:Same F H)(g:Same H H'):Ext F H F H':=⟨Same.refl _,h.trans g,g,fun p a b=>absurd a b⟩
theorem Ext.new {F H:Hp}(h:Same F H){p:Addr}{o:HO}(hp:H p=none):Ext F H (upd F p o) (upd H p o):=by
 refine ⟨zeD_ (h.free hp) _,fun b u e=>?_,zeD_ hp _,fun q a b=>?_⟩
 ·unfold upd at e ⊢
  split
  ·rename_i z; rw [if_pos z] at e; exact e
  ·rename_i z; rw [if_neg z] at e; exact h _ _ e
 ·unfold upd at b
  split at b
  ·rename_i z; rw [z]; exact hp
  ·exact absurd a b
structure Ty (α:Type) where
 R:α->V->Hp->Prop
 mono:∀ {a v H H'},Same H H'->R a v H->R a v H'
def Tups (H H':Hp):Prop:=∀ p xs,H p=some (.tup xs)->H' p=some (.tup xs)
def Imm {α:Type}(T:Ty α):Prop:=∀ {a v H H'},Tups H H'->T.R a v H->T.R a v H'
abbrev tyInt:Ty Int:=⟨fun a v _=>v=.int a,fun _ h=>h⟩
abbrev tyStr:Ty (List Nat):=⟨fun a v _=>v=tx a,fun _ h=>h⟩
abbrev tyBl:Ty Bool:=⟨fun a v _=>v=.bl a,fun _ h=>h⟩
abbrev tyNon:Ty Unit:=⟨fun _ v _=>v=.non,fun _ h=>h⟩
theorem zW_:Imm tyInt:=fun _ h=>h
theorem z8_:Imm tyStr:=fun _ h=>h
theorem zbL_:Imm tyBl:=fun _ h=>h
theorem zoy_:Imm tyNon:=fun _ h=>h
abbrev tyOpt {α:Type}(T:Ty α):Ty (Option α):=⟨fun a v H=>match a with | none=>v=.non | some x=>T.R x v H/\v≠.non,fun {a v H H'} g h=>by cases a with | none=>exact h | some x=>exact ⟨T.mono g h.1,h.2⟩⟩
theorem zpx_ {α:Type}{T:Ty α}(i:Imm T):Imm (tyOpt T):=fun {a v H H'} g h=>by cases a with | none=>exact h | some x=>exact ⟨i g h.1,h.2⟩
structure Cs (γ:Type) where
 R:γ->List V->Hp->Prop
 mono:∀ {c vs H H'},Same H H'->R c vs H->R c vs H'
def ImmC {γ:Type}(C:Cs γ):Prop:=∀ {c vs H H'},Tups H H'->C.R c vs H->C.R c vs H'
abbrev csNil:Cs Unit:=⟨fun _ vs _=>vs=[],fun _ h=>h⟩
abbrev csLast {α:Type}(T:Ty α):Cs α:=⟨fun a vs H=>∃ v,vs=[v]/\T.R a v H,fun g ⟨v,e,h⟩=>⟨v,e,T.mono g h⟩⟩
abbrev csCons {α γ:Type}(T:Ty α)(C:Cs γ):Cs (α×γ):=⟨fun a vs H=>∃ v us,vs=v::us/\T.R a.1 v H/\C.R a.2 us H,fun g ⟨v,us,e,h,q⟩=>⟨v,us,e,T.mono g h,C.mono g q⟩⟩
theorem za2_ {α:Type}{T:Ty α}(i:Imm T):ImmC (csLast T):=fun g ⟨v,e,h⟩=>⟨v,e,i g h⟩
theorem z0_ {α γ:Type}{T:Ty α}{C:Cs γ}(i:Imm T)(j:ImmC C):ImmC (csCons T C):=fun g ⟨v,us,e,h,q⟩=>⟨v,us,e,i g h,j g q⟩
abbrev tyTup {γ:Type}(C:Cs γ):Ty γ:=⟨fun c v H=>∃ p us,v=.ref p/\H p=some (.tup us)/\C.R c us H,fun g ⟨p,us,e,h,q⟩=>⟨p,us,e,g _ _ h,C.mono g q⟩⟩
theorem zdr_ {γ:Type}{C:Cs γ}(i:ImmC C):Imm (tyTup C):=fun g ⟨p,us,e,h,q⟩=>⟨p,us,e,g _ _ h,i g q⟩
abbrev Prs {α:Type}(T:Ty α)(H:Hp)(xs:List α)(vs:List V):Prop:=Paired (fun x v=>T.R x v H) xs vs
theorem zbf_ {α β:Type}{R R':α->β->Prop}(h:∀ a b,R a b->R' a b):∀ {xs:List α}{ys:List β},Paired R xs ys->Paired R' xs ys
 | _,_,.nil=>.nil
 | _,_,.cons a t=>.cons (h _ _ a) (zbf_ h t)
theorem Prs.mono {α:Type}{T:Ty α}{H H':Hp}{xs:List α}{vs:List V}(g:Same H H')(h:Prs T H xs vs):Prs T H' xs vs:=zbf_ (fun _ _ r=>T.mono g r) h
theorem Prs.imm {α:Type}{T:Ty α}(i:Imm T){H H':Hp}{xs:List α}{vs:List V}(g:Tups H H')(h:Prs T H xs vs):Prs T H' xs vs:=zbf_ (fun _ _ r=>i g r) h
abbrev tyL {α:Type}(T:Ty α):Ty (List α):=⟨fun xs v H=>∃ p vs,v=.ref p/\H p=some (.lst vs)/\Prs T H xs vs,fun g ⟨p,vs,e,h,q⟩=>⟨p,vs,e,g _ _ h,q.mono g⟩⟩
abbrev tySc (K:Fgg):Ty (List Int):=⟨fun xs v H=>∃ p,v=.ref p/\SqL K H p (xs.map V.int),fun g ⟨p,e,h⟩=>⟨p,e,g.seq h⟩⟩
structure Own (α:Type) where
 O:α->V->Hp->Hp->Prop
 fr:Ty α
 mono:∀ {a v F F' h},Same F F'->O a v F h->O a v F' h
 frz:∀ {a v F h},Dj F h->O a v F h->fr.R a v (un F h)
 notup:∀ {a v F h},O a v F h->∀ p xs,h p≠some (.tup xs)
def ImmO {α:Type}(O:Own α):Prop:=∀ {a v F F' h},Tups F F'->O.O a v F h->O.O a v F' h
theorem zda_ {F h:Hp}:Same F (un F h):=fun p o e=>by unfold un; rw [e]
theorem zfQ_ {F h:Hp}(d:Dj F h):Same h (un F h):=fun p o e=>by
 unfold un
 rcases d p with z | z
 ·rw [z]; exact e
 ·rw [z] at e; cases e
abbrev owF {α:Type}(T:Ty α):Own α:=⟨fun a v F h=>(∀ p,h p=none)/\T.R a v F,T,fun g ⟨e,h⟩=>⟨e,T.mono g h⟩,fun _ ⟨_,h⟩=>T.mono zda_ h,fun ⟨e,_⟩ p xs z=>by rw [e] at z; cases z⟩
theorem zab_ {α:Type}{T:Ty α}(i:Imm T):ImmO (owF T):=fun g ⟨e,h⟩=>⟨e,i g h⟩
def one (p:Addr)(o:HO):Hp:=fun q=>if q=p then some o else none
theorem zx_ {p:Addr}{o:HO}:one p o p=some o:=if_pos rfl
abbrev owL {α:Type}(T:Ty α):Own (List α):=⟨fun xs v F h=>∃ p vs,v=.ref p/\h=one p (.lst vs)/\Prs T F xs vs,tyL T,fun g ⟨p,vs,e,z,q⟩=>⟨p,vs,e,z,q.mono g⟩,
 fun d ⟨p,vs,e,z,q⟩=>⟨p,vs,e,zfQ_ d _ _ (by rw [z]; exact zx_),q.mono zda_⟩,
 fun ⟨p,vs,e,z,q⟩ b xs y=>by rw [z] at y; unfold one at y; split at y<;>cases y⟩
theorem zag_ {α:Type}{T:Ty α}(i:Imm T):ImmO (owL T):=fun g ⟨p,vs,e,z,q⟩=>⟨p,vs,e,z,q.imm i g⟩
inductive Sl:Type 1 where
 | dead
 | fz {α:Type}(T:Ty α) (a:α)
 | ow {α:Type}(O:Own α) (a:α)
def Sl.P:Sl->Option V->Hp->Hp->Prop
 | .dead,_,_,_=>True
 | .fz T a,o,F,_=>∃ v,o=some v/\T.R a v F
 | .ow O a,o,F,h=>∃ v,o=some v/\O.O a v F h
def Sl.Z:Sl->Option V->Hp->Prop
 | .dead,_,_=>True
 | .fz T a,o,F=>∃ v,o=some v/\T.R a v F
 | .ow O a,o,F=>∃ v,o=some v/\O.fr.R a v F
def Sl.cold:Sl->Sl
 | .ow _ _=>.dead
 | s=>s
def Hold:List Sl->St->Hp->Hp->Prop
 | [],[],_,_=>True
 | s::L,o::σ,F,h=>∃ h1 h2,Jn h1 h2 h/\s.P o F h1/\Hold L σ F h2
 | _,_,_,_=>False
def HoldF (L:List Sl)(σ:St)(F:Hp):Prop:=∀ (i:Nat) (s:Sl),L[i]?=some s->s.Z (σ[i]?.join) F
theorem Sl.P.mono {s:Sl}{o:Option V}{F F' h:Hp}(g:Same F F')(q:s.P o F h):s.P o F' h:=by
 cases s with
 | dead=>exact q
 | fz T a=>obtain ⟨v,e,r⟩:=q; exact ⟨v,e,T.mono g r⟩
 | ow O a=>obtain ⟨v,e,r⟩:=q; exact ⟨v,e,O.mono g r⟩
theorem Sl.Z.mono {s:Sl}{o:Option V}{F F':Hp}(g:Same F F')(q:s.Z o F):s.Z o F':=by
 cases s with
 | dead=>exact q
 | fz T a=>obtain ⟨v,e,r⟩:=q; exact ⟨v,e,T.mono g r⟩
 | ow O a=>obtain ⟨v,e,r⟩:=q; exact ⟨v,e,O.fr.mono g r⟩
theorem HoldF.mono {L:List Sl}{σ:St}{F F':Hp}(g:Same F F')(q:HoldF L σ F):HoldF L σ F':=fun i s e=>(q i s e).mono g
theorem Hold.mono:∀ {L:List Sl}{σ:St}{F F' h:Hp},Same F F'->Hold L σ F h->Hold L σ F' h
 | [],[],_,_,_,_,q=>q
 | s::L,o::σ,F,F',h,g,⟨h1,h2,j,p,r⟩=>⟨h1,h2,j,p.mono g,r.mono g⟩
 | [],_::_,_,_,_,_,q=>q.elim
 | _::_,[],_,_,_,_,q=>q.elim
theorem Hold.len:∀ {L:List Sl}{σ:St}{F h:Hp},Hold L σ F h->L.length=σ.length
 | [],[],_,_,_=>rfl
 | s::L,o::σ,F,h,⟨h1,h2,j,p,r⟩=>by rw [List.length_cons,List.length_cons,r.len]
 | [],_::_,_,_,q=>q.elim
 | _::_,[],_,_,q=>q.elim
theorem Jn.l {h1 h2 h:Hp}(j:Jn h1 h2 h):Same h1 h:=fun p o e=>by
 rcases j p with ⟨a,b⟩ | ⟨a,b⟩
 ·rw [a] at e; cases e
 ·rw [b]; exact e
theorem Jn.r {h1 h2 h:Hp}(j:Jn h1 h2 h):Same h2 h:=fun p o e=>by
 rcases j p with ⟨a,b⟩ | ⟨a,b⟩
 ·rw [b]; exact e
 ·rw [a] at e; cases e
theorem Jn.dj {h1 h2 h:Hp}(j:Jn h1 h2 h):Dj h1 h2:=fun p=>by
 rcases j p with ⟨a,b⟩ | ⟨a,b⟩
 ·exact .inl a
 ·exact .inr a
theorem zfO_ {h1 h2:Hp}(d:Dj h1 h2):Jn h1 h2 (un h1 h2):=fun p=>by
 unfold un
 rcases d p with a | a
 ·rw [a]; exact .inl ⟨rfl,rfl⟩
 ·refine .inr ⟨a,?_⟩
  cases h1 p with
  | none=>exact a
  | some o=>rfl
theorem Hold.at:∀ {L:List Sl}{σ:St}{F h:Hp}(i:Nat) {s:Sl},Hold L σ F h->L[i]?=some s ->
  ∃ o h1 h2,σ[i]?=some o/\Jn h1 h2 h/\s.P o F h1/\∀ s' o' h1' h',Jn h1' h2 h'->s'.P o' F h1'->Hold (L.set i s') (σ.set i o') F h'
 | [],_,_,_,_,_,_,e=>by cases e
 | s::L,[],_,_,_,_,q,_=>q.elim
 | s::L,o::σ,F,h,0,t,⟨h1,h2,j,p,r⟩,e=>by
  cases e
  exact ⟨o,h1,h2,rfl,j,p,fun s' o' h1' h' j' p'=>⟨h1',h2,j',p',r⟩⟩
 | s::L,o::σ,F,h,i+1,t,⟨h1,h2,j,p,r⟩,e=>by
  obtain ⟨o1,k1,k2,e1,j1,p1,f⟩:=Hold.at i r (by simpa using e)
  have d1:Dj h1 k1:=fun p=>by
   rcases j.dj p with a | a
   ·exact .inl a
   ·exact .inr (j1.l.free a)
  have d2:Dj h1 k2:=fun p=>by
   rcases j.dj p with a | a
   ·exact .inl a
   ·exact .inr (j1.r.free a)
  refine ⟨o1,k1,un h1 k2,by simpa using e1,fun p=>?_,p1,fun s' o' av h' j' p'=>?_⟩
  ·rcases j p with ⟨a,b⟩ | ⟨a,b⟩
   ·rcases j1 p with ⟨c,d⟩ | ⟨c,d⟩
    ·refine .inl ⟨c,?_⟩; unfold un; rw [a,b,d]
    ·refine .inr ⟨?_,by rw [b,d]⟩; unfold un; rw [a,c]
   ·refine .inl ⟨j1.l.free a,?_⟩
    have:k2 p=none:=j1.r.free a
    unfold un; rw [b]
    cases h1 p with
    | none=>rw [this]
    | some u=>rfl
  ·have dd:Dj av k2:=fun p=>by
    rcases j' p with ⟨a,b⟩ | ⟨a,b⟩
    ·exact .inl a
    ·right; unfold un at a
     cases z:h1 p with
     | none=>rw [z] at a; exact a
     | some u=>rw [z] at a; cases a
   refine ⟨h1,un av k2,fun p=>?_,p,f s' o' av _ (zfO_ dd) p'⟩
   rcases j' p with ⟨a,b⟩ | ⟨a,b⟩
   ·unfold un at b ⊢
    cases z:h1 p with
    | none=>rw [z] at b; exact .inl ⟨rfl,by rw [b,a]⟩
    | some u =>
     rw [z] at b
     refine .inr ⟨?_,b⟩
     rw [a]
     rcases d2 p with y | y
     ·rw [y] at z; cases z
     ·exact y
   ·unfold un at a
    cases z:h1 p with
    | some u=>rw [z] at a; cases a
    | none =>
     rw [z] at a
     refine .inl ⟨rfl,?_⟩
     unfold un; rw [b]
     cases av p with
     | none=>exact a.symm
     | some u=>rfl
theorem Hold.froz {L:List Sl}{σ:St}{F h:Hp}(d:Dj F h)(q:Hold L σ F h):HoldF L σ (un F h):=by
 intro i s e
 obtain ⟨o,h1,h2,e1,j,p,_⟩:=q.at i e
 rw [e1]
 have d1:Dj F h1:=fun p=>by
  rcases d p with a | a
  ·exact .inl a
  ·exact .inr (j.l.free a)
 cases s with
 | dead=>trivial
 | fz T a=>obtain ⟨v,e2,r⟩:=p; exact ⟨v,e2,T.mono zda_ r⟩
 | ow O a =>
  obtain ⟨v,e2,r⟩:=p
  refine ⟨v,e2,O.fr.mono (fun p u z=>?_) (O.frz d1 r)⟩
  unfold un at z ⊢
  cases y:F p with
  | some w=>rw [y] at z; exact z
  | none=>rw [y] at z; exact j.l _ _ z
theorem Hold.coldF {L:List Sl}{σ:St}{F h:Hp}(q:Hold L σ F h):HoldF (L.map Sl.cold) σ F:=by
 intro i s e
 rw [List.getElem?_map] at e
 cases e1:L[i]? with
 | none=>rw [e1] at e; cases e
 | some t =>
  rw [e1] at e
  cases e
  obtain ⟨o,h1,h2,e2,j,p,_⟩:=q.at i e1
  rw [e2]
  cases t with
  | dead=>trivial
  | fz T a=>obtain ⟨v,e2,r⟩:=p; exact ⟨v,e2,r⟩
  | ow O a=>trivial
end L2
namespace L2
open PySem PySem.Spec PyProof.Rows
def Av.R:Av->V->Hp->Prop
 | .i n,v,_=>v=.int n
 | .p a b,v,H=>∃ q,v=.ref q/\H q=some (.tup [.int a,.int b])
theorem Av.imm {x:Av}{v:V}{H H':Hp}(g:Tups H H')(h:x.R v H):x.R v H':=by
 cases x with
 | i n=>exact h
 | p a b=>obtain ⟨q,e,z⟩:=h; exact ⟨q,e,g _ _ z⟩
def AtR (as:List (Str×Av))(fs:List (Str×V))(F:Hp):Prop:=Paired (fun a f=>a.1=f.1/\a.2.R f.2 F) as fs
theorem AtR.imm {as:List (Str×Av)}{fs:List (Str×V)}{H H':Hp}(g:Tups H H')(h:AtR as fs H):AtR as fs H':=zbf_ (fun _ _ r=>⟨r.1,Av.imm g r.2⟩) h
def Tell (K:Fgg)(E:XK)(x:Xc)(H0 F H:Hp):Prop:=match x with
 | .pl c=>E (.ref (gA K c)) none H
 | .at c as=>∀ dx fs,H0 dx=none->F dx=some (XDO dx fs)->AtR as fs F->E (.ref (gA K c)) (some dx) H
theorem Tell.up {K:Fgg}{E:XK}{x:Xc}{H0 H1 F H:Hp}(s:Same H0 H1)(h:Tell K E x H0 F H):Tell K E x H1 F H:=by
 cases x with
 | pl c=>exact h
 | «at» c as=>exact fun dx fs e=>h dx fs (s.free e)
def After {α:Type}(K:Fgg)(r:Mo α)(E:XK)(F H:Hp)(k:α->Hp->Hp->Prop):Prop:=match r with
 | .ok a=>∀ F' H',Ext F H F' H'->k a F' H'
 | .ex c=>∀ F' H',Ext F H F' H'->Tell K E c H F' H'
 | .no=>False
section
variable {K:Fgg}{E:XK}{α β γ ρ:Type}{F H:Hp}
theorem After.bind {r:Mo α}{f:α->Mo β}{k:β->Hp->Hp->Prop}(h:After K (r.bind f) E F H k):After K r E F H fun a F1 H1=>After K (f a) E F1 H1 k:=by
 cases r with
 | ok a =>
  intro F1 H1 x
  have h':After K (f a) E F H k:=h
  cases e:f a with
  | ok b=>rw [e] at h'; exact fun F2 H2 y=>h' F2 H2 (x.trans y)
  | ex c=>rw [e] at h'; exact fun F2 H2 y=>(h' F2 H2 (x.trans y)).up x.2.2.1
  | no=>rw [e] at h'; exact h'
 | ex c=>exact h
 | no=>exact h
theorem After.imp {r:Mo α}{k k':α->Hp->Hp->Prop}(h:After K r E F H k)(g:∀ a F' H',Ext F H F' H'->k a F' H'->k' a F' H'):After K r E F H k':=by
 cases r with
 | ok a=>exact fun F' H' x=>g a F' H' x (h F' H' x)
 | ex c=>exact h
 | no=>exact h
theorem After.ok {a:α}{k:α->Hp->Hp->Prop}(hs:Same F H)(h:After K (.ok a) E F H k):k a F H:=h F H (.refl hs)
theorem After.noex {r:Mo α}{k:α->Hp->Hp->Prop}(h:After K r.noex E F H k):After K r E0 F H k:=by
 cases r with
 | ok a=>exact h
 | ex c=>exact h.elim
 | no=>exact h
theorem After.lim {n:Nat}{r:Mo α}{k:α->Hp->Hp->Prop}(h:After K (Mo.lim n r) E F H k):n<=sizeLine/\After K r E F H k:=by
 unfold Mo.lim at h
 split at h
 ·exact ⟨by assumption,h⟩
 ·exact h.elim
theorem After.grd {p:Prop}[Decidable p]{r:Mo α}{k:α->Hp->Hp->Prop}(h:After K (Mo.grd p r) E F H k):p/\After K r E F H k:=by
 unfold Mo.grd at h
 split at h
 ·exact ⟨by assumption,h⟩
 ·exact h.elim
theorem After.opt {x:Option α}{k:α->Hp->Hp->Prop}(h:After K (Mo.opt x) E F H k):∃ a,x=some a/\After K (.ok a) E F H k:=by
 cases x with
 | none=>exact h.elim
 | some a=>exact ⟨a,rfl,h⟩
def EvF (K:Fgg)(e:TE)(E:XK)(L:List Sl)(r:Mo α)(T:Ty α):Prop:=
 ∀ σ F H (Q:VK),HoldF L σ F->Same F H->After K r E F H (fun a F' H'=>∀ v,T.R a v F'->Q v H')->e σ H Q
def OwnK (O:Own α)(H:Hp)(Q:VK)(a:α)(F' H':Hp):Prop:=∀ v h,(∀ p,h p≠none->H p=none)->Dj F' h->Same h H'->O.O a v F' h->Q v H'
def EvO (K:Fgg)(e:TE)(E:XK)(L:List Sl)(r:Mo α)(O:Own α):Prop:=
 ∀ σ F H (Q:VK),HoldF L σ F->Same F H->After K r E F H (OwnK O H Q)->e σ H Q
def EvT (K:Fgg)(t:TT)(E:XK)(L:List Sl)(r:Mo Bool):Prop:=
 ∀ σ F H (Q:Bool->Hp->Prop),HoldF L σ F->Same F H->After K r E F H (fun b _ H'=>Q b H')->t σ H Q
def EvA (K:Fgg)(t:TA)(E:XK)(L:List Sl)(r:Mo γ)(C:Cs γ):Prop:=
 ∀ σ F H (Q:List V->Hp->Prop),HoldF L σ F->Same F H->After K r E F H (fun c F' H'=>∀ vs,C.R c vs F'->Q vs H')->t σ H Q
variable {L:List Sl}{e e1 e2:TE}{T:Ty α}{r:Mo α}
theorem EvO.fr {O:Own α}(h:EvO K e E L r O):EvF K e E L r O.fr:=by
 intro σ F H Q hL hs q
 refine h σ F H Q hL hs ?_
 cases r with
 | ok a =>
  intro F' H' x v h' fresh d s o
  refine q (un F' h') H' ⟨x.1.trans zda_,fun p o e=>?_,x.2.2.1,fun p a b=>?_⟩ v (O.frz d o)
  ·unfold un at e
   cases z:F' p with
   | some w=>rw [z] at e; cases e; exact x.2.1 _ _ z
   | none=>rw [z] at e; exact s _ _ e
  ·unfold un at b
   cases z:F' p with
   | some w=>exact x.2.2.2 p a (by rw [z]; exact sN _)
   | none=>rw [z] at b; exact fresh p b
 | ex c=>exact q
 | no=>exact q
theorem EvF.ow (h:EvF K e E L r T):EvO K e E L r (owF T):=by
 intro σ F H Q hL hs q
 refine h σ F H Q hL hs (q.imp fun a F' H' x k v hv=>?_)
 exact k v (fun _=>none) (fun p z=>absurd rfl z) (fun p=>.inr rfl) (fun p o z=>by cases z) ⟨fun _=>rfl,hv⟩
theorem ev_c {v:V}{a:α}(h:∀ F,T.R a v F):EvF K (tC v) E L (.ok a) T:=fun σ F H Q hL hs q=>q.ok hs v (h F)
theorem zj_ (i:Int):EvF K (tC (.int i)) E L (.ok i) tyInt:=ev_c fun _=>rfl
theorem z7_ (l:List Nat):EvF K (tC (tx l)) E L (.ok l) tyStr:=ev_c fun _=>rfl
theorem znu_ (b:Bool):EvF K (tC (.bl b)) E L (.ok b) tyBl:=ev_c fun _=>rfl
theorem zfM_:EvF K (tC .non) E L (.ok ()) tyNon:=ev_c fun _=>rfl
theorem ze1_ {β:Type}{T:Ty β}:EvF K (tC .non) E L (.ok (none:Option β)) (tyOpt T):=ev_c fun _=>rfl
theorem ziD_ (hn:∀ a v F,T.R a v F->v≠.non)(h:EvF K e E L r T):EvF K e E L (r.bind fun a=>.ok (some a)) (tyOpt T):=by
 intro σ F H Q hL hs q
 exact h σ F H Q hL hs (q.bind.imp fun a F1 H1 x k v hv=>k.ok x.2.1 v ⟨hv,hn _ _ _ hv⟩)
theorem zc_ (i:Nat){a:α}(h:L[i]?=some (.fz T a)):EvF K (mVar i) E L (.ok a) T:=by
 intro σ F H Q hL hs q
 obtain ⟨v,e,r⟩:=hL i _ h
 unfold mVar
 cases z:σ[i]? with
 | none=>rw [z] at e; cases e
 | some o =>
  rw [z] at e
  cases (show o=some v from e)
  exact q.ok hs v r
theorem zhM_ (i:Nat){O:Own α}{a:α}(h:L[i]?=some (.ow O a)):EvF K (mVar i) E L (.ok a) O.fr:=by
 intro σ F H Q hL hs q
 obtain ⟨v,e,r⟩:=hL i _ h
 unfold mVar
 cases z:σ[i]? with
 | none=>rw [z] at e; cases e
 | some o =>
  rw [z] at e
  cases (show o=some v from e)
  exact q.ok hs v r
def Op2 (K:Fgg)(m:R2)(E:XK)(T1:Ty α)(T2:Ty β)(g:α->β->Mo γ)(T:Ty γ):Prop:=
 ∀ a b x y F H (Q:VK),Same F H->T1.R a x F->T2.R b y F->After K (g a b) E F H (fun c F' H'=>∀ v,T.R c v F'->Q v H')->m x y H Q
def Op2O (K:Fgg)(m:R2)(E:XK)(T1:Ty α)(T2:Ty β)(g:α->β->Mo γ)(O:Own γ):Prop:=
 ∀ a b x y F H (Q:VK),Same F H->T1.R a x F->T2.R b y F->After K (g a b) E F H (OwnK O H Q)->m x y H Q
theorem OwnK.back {O:Own α}{H H1:Hp}{Q:VK}{a:α}{F' H':Hp}(g:Same H H1)(h:OwnK O H Q a F' H'):OwnK O H1 Q a F' H':=
 fun v k fresh d s o=>h v k (fun p z=>g.free (fresh p z)) d s o
theorem zr_ {m:R2}{T1:Ty α}{T2:Ty β}{T:Ty γ}{g:α->β->Mo γ}{r1:Mo α}{r2:Mo β}(dZ:Op2 K m E T1 T2 g T)(h1:EvF K e1 E L r1 T1)(h2:EvF K e2 E L r2 T2):
  EvF K (tOp m e1 e2) E L (r1.bind fun a=>r2.bind fun b=>g a b) T:=by
 intro σ F H Q hL hs q
 refine h1 σ F H _ hL hs (q.bind.imp fun a F1 H1 x1 k1 v1 bP=>?_)
 refine h2 σ F1 H1 _ (hL.mono x1.1) x1.2.1 (k1.bind.imp fun b F2 H2 x2 k2 v2 aT=>?_)
 exact dZ a b v1 v2 F2 H2 Q x2.2.1 (T1.mono x2.1 bP) aT k2
theorem zgy_ {m:R2}{T1:Ty α}{T2:Ty β}{O:Own γ}{g:α->β->Mo γ}{r1:Mo α}{r2:Mo β}(dZ:Op2O K m E T1 T2 g O)(h1:EvF K e1 E L r1 T1)(h2:EvF K e2 E L r2 T2):
  EvO K (tOp m e1 e2) E L (r1.bind fun a=>r2.bind fun b=>g a b) O:=by
 intro σ F H Q hL hs q
 refine h1 σ F H _ hL hs (q.bind.imp fun a F1 H1 x1 k1 v1 bP=>?_)
 refine h2 σ F1 H1 _ (hL.mono x1.1) x1.2.1 (k1.bind.imp fun b F2 H2 x2 k2 v2 aT=>?_)
 exact dZ a b v1 v2 F2 H2 Q x2.2.1 (T1.mono x2.1 bP) aT (k2.imp fun c F3 H3 x3 k3=>k3.back (x1.2.2.1.trans x2.2.2.1))
theorem zoP_ {g:Int->Int->V}{f:Int->Int->α}(h:∀ i j F,T.R (f i j) (g i j) F):Op2 K (mI0 g) E tyInt tyInt (fun i j=>.ok (f i j)) T:=by
 intro a b x y F H Q hs hx hy q
 cases hx; cases hy
 exact q.ok hs _ (h a b F)
theorem op_i {C:Int->Int->Prop}[∀ i j,Decidable (C i j)]{g:Int->Int->V}{f:Int->Int->α}(h:∀ i j F,T.R (f i j) (g i j) F):Op2 K (mI C g) E tyInt tyInt (fun i j=>.grd (C i j) (.ok (f i j))) T:=by
 intro a b x y F H Q hs hx hy q
 cases hx; cases hy
 obtain ⟨c,q⟩:=q.grd
 exact ⟨c,q.ok hs _ (h a b F)⟩
instance (i j:Int):Decidable (CMul i j):=inferInstanceAs (Decidable (_\/_))
instance (i j:Int):Decidable (CDiv i j):=inferInstanceAs (Decidable (_/\_))
instance (i j:Int):Decidable (CPow i j):=inferInstanceAs (Decidable (_/\_/\_))
theorem zR_:Op2 K mAdd E tyInt tyInt (fun i j=>.ok (i+j)) tyInt:=by
 intro a b x y F H Q hs hx hy q
 cases hx; cases hy
 exact q.ok hs _ rfl
theorem zdZ_:Op2 K mSub E tyInt tyInt (fun i j=>.ok (i-j)) tyInt:=zoP_ fun _ _ _=>rfl
theorem zV_:Op2 K mMod E tyInt tyInt (fun i j=>.grd (0<j) (.ok (i % j))) tyInt:=op_i (C:=fun _ j=>0<j) fun _ _ _=>rfl
theorem zme_:Op2 K mLt E tyInt tyInt (fun i j=>.ok (decide (i<j))) tyBl:=zoP_ fun _ _ _=>rfl
theorem zbK_:Op2 K mLe E tyInt tyInt (fun i j=>.ok (decide (i<=j))) tyBl:=zoP_ fun _ _ _=>rfl
theorem zm0_:Op2 K mGt E tyInt tyInt (fun i j=>.ok (decide (j<i))) tyBl:=zoP_ fun _ _ _=>rfl
theorem zq4_:Op2 K mGe E tyInt tyInt (fun i j=>.ok (decide (j<=i))) tyBl:=zoP_ fun _ _ _=>rfl
theorem zlo_:Op2 K mAdd E tyStr tyStr (fun i j=>.lim (i.length+j.length) (.ok (i++j))) tyStr:=by
 intro a b x y F H Q hs hx hy q
 cases hx; cases hy
 obtain ⟨c,q⟩:=q.lim
 exact ⟨c,q.ok hs _ rfl⟩
theorem Prs.append {xs ys:List α}{vs us:List V}(a:Prs T H xs vs)(b:Prs T H ys us):Prs T H (xs++ys) (vs++us):=by
 induction a with
 | nil=>exact b
 | cons r t ih=>exact .cons r ih
theorem Prs.len {xs:List α}{vs:List V}(a:Prs T H xs vs):xs.length=vs.length:=Paired.length a
theorem Prs.get {xs:List α}{vs:List V}(a:Prs T H xs vs)(i:Nat):(xs[i]?=none/\vs[i]?=none)\/∃ x v,xs[i]?=some x/\vs[i]?=some v/\T.R x v H:=by
 induction a generalizing i with
 | nil=>exact .inl ⟨rfl,rfl⟩
 | cons r t ih =>
  cases i with
  | zero=>exact .inr ⟨_,_,rfl,rfl,r⟩
  | succ i=>simpa using ih i
theorem Prs.take {xs:List α}{vs:List V}(a:Prs T H xs vs)(n:Nat):Prs T H (xs.take n) (vs.take n):=by
 induction a generalizing n with
 | nil=>rw [List.take_nil,List.take_nil]; exact .nil
 | cons r t ih =>
  cases n with
  | zero=>exact .nil
  | succ n=>exact .cons r (ih n)
theorem Prs.drop {xs:List α}{vs:List V}(a:Prs T H xs vs)(n:Nat):Prs T H (xs.drop n) (vs.drop n):=by
 induction a generalizing n with
 | nil=>rw [List.drop_nil,List.drop_nil]; exact .nil
 | cons r t ih =>
  cases n with
  | zero=>exact .cons r t
  | succ n=>exact ih n
theorem zlh_ {vs:List V}{xs:List α}{p:Addr}{F' H':Hp}{Q:VK}(hp:H p=none)(h2:H' p=some (.lst vs))(hf:F' p=none)(hr:Prs T F' xs vs)(q:OwnK (owL T) H Q xs F' H'):Q (.ref p) H':=by
 refine q (.ref p) (one p (.lst vs)) (fun b z=>?_) (fun b=>?_) (fun b o z=>?_) ⟨p,vs,rfl,rfl,hr⟩
 ·unfold one at z; split at z
  ·rename_i e; rw [e]; exact hp
  ·exact absurd rfl z
 ·unfold one; split
  ·rename_i e; rw [e]; exact .inl hf
  ·exact .inr rfl
 ·unfold one at z; split at z
  ·rename_i e; rw [e]; cases z; exact h2
  ·cases z
theorem zby_ {vs:List V}{xs:List α}{p:Addr}{Q:VK}(hs:Same F H)(hp:H p=none)(hr:Prs T F xs vs)(q:After K (.ok xs) E F H (OwnK (owL T) H Q)):Q (.ref p) (upd H p (.lst vs)):=
 zlh_ hp zD_ (hs.free hp) hr (q F _ (.heap hs (zeD_ hp _)))
theorem zds_:Op2O K mAdd E (tyL T) (tyL T) (fun i j=>.lim (i.length+j.length) (.ok (i++j))) (owL T):=by
 rintro a b x y F H Q hs ⟨p,vs,rfl,h1,r1⟩ ⟨p2,us,rfl,h2,r2⟩ q
 obtain ⟨c,q⟩:=q.lim
 exact ⟨vs,us,hs _ _ h1,hs _ _ h2,by rw [<- r1.len,<- r2.len]; exact c,fun p hp=>zby_ hs hp (r1.append r2) q⟩
theorem zd_ (h:EvF K e E L r T):EvA K (tCons e tNil) E L r (csLast T):=by
 intro σ F H Q hL hs q
 exact h σ F H _ hL hs (q.imp fun a F1 H1 x k v hv=>k [v] ⟨v,rfl,hv⟩)
theorem ze_ {ta:TA}{r2:Mo γ}{C:Cs γ}(h:EvF K e E L r T)(h2:EvA K ta E L r2 C):EvA K (tCons e ta) E L (r.bind fun a=>r2.bind fun c=>.ok (a,c)) (csCons T C):=by
 intro σ F H Q hL hs q
 refine h σ F H _ hL hs (q.bind.imp fun a F1 H1 x1 k1 v1 bP=>?_)
 refine h2 σ F1 H1 _ (hL.mono x1.1) x1.2.1 (k1.bind.imp fun c F2 H2 x2 k2 vs aS=>?_)
 exact k2.ok x2.2.1 (v1::vs) ⟨v1,vs,rfl,T.mono x2.1 bP,aS⟩
def Ct (K:Fgg)(C:Cs γ)(f:γ->Mo ρ)(O:Own ρ):Sp:=fun vs H Q E=>∃ F c,Same F H/\C.R c vs F/\After K (f c) E F H (OwnK O H Q)
theorem zon_ {C:Cs γ}{f:γ->Mo ρ}{O:Own ρ}{ta:TA}{r:Mo γ}(h:EvA K ta E L r C):EvO K (tCall (Ct K C f O) [] E ta) E L (r.bind f) O:=by
 intro σ F H Q hL hs q
 refine h σ F H _ hL hs (q.bind.imp fun c F1 H1 x1 k1 vs aS=>?_)
 rw [List.append_nil]
 exact ⟨F1,c,x1.2.1,aS,k1.imp fun r F2 H2 x2 k2=>k2.back x1.2.2.1⟩
theorem z9_ {C:Cs γ}{f:γ->Mo ρ}{O:Own ρ}{ta:TA}{r:Mo γ}(h:EvA K ta E L r C):EvO K (tCall (Ct K C f O) [] E0 ta) E L (r.bind fun c=>(f c).noex) O:=by
 intro σ F H Q hL hs q
 refine h σ F H _ hL hs (q.bind.imp fun c F1 H1 x1 k1 vs aS=>?_)
 rw [List.append_nil]
 exact ⟨F1,c,x1.2.1,aS,k1.noex.imp fun r F2 H2 x2 k2=>k2.back x1.2.2.1⟩
def Bl (K:Fgg)(m:List V->Hp->VK->Prop)(E:XK)(C:Cs γ)(g:γ->Mo α)(T:Ty α):Prop:=
 ∀ c vs F H (Q:VK),Same F H->C.R c vs F->After K (g c) E F H (fun c F' H'=>∀ v,T.R c v F'->Q v H')->m vs H Q
def BlO (K:Fgg)(m:List V->Hp->VK->Prop)(E:XK)(C:Cs γ)(g:γ->Mo α)(O:Own α):Prop:=
 ∀ c vs F H (Q:VK),Same F H->C.R c vs F->After K (g c) E F H (OwnK O H Q)->m vs H Q
theorem zeH_ {m:List V->Hp->VK->Prop}{C:Cs γ}{g:γ->Mo α}{ta:TA}{r:Mo γ}(hb:Bl K m E C g T)(h:EvA K ta E L r C):EvF K (tCB m ta) E L (r.bind g) T:=by
 intro σ F H Q hL hs q
 exact h σ F H _ hL hs (q.bind.imp fun c F1 H1 x1 k1 vs aS=>hb c vs F1 H1 Q x1.2.1 aS k1)
theorem zfF_ {m:List V->Hp->VK->Prop}{C:Cs γ}{g:γ->Mo α}{O:Own α}{ta:TA}{r:Mo γ}(hb:BlO K m E C g O)(h:EvA K ta E L r C):EvO K (tCB m ta) E L (r.bind g) O:=by
 intro σ F H Q hL hs q
 exact h σ F H _ hL hs (q.bind.imp fun c F1 H1 x1 k1 vs aS=>hb c vs F1 H1 Q x1.2.1 aS (k1.imp fun a F2 H2 x2 k2=>k2.back x1.2.2.1))
theorem ziw_:Bl K (mLen K) E (csLast tyStr) (fun l=>.lim l.length (.ok (l.length:Int))) tyInt:=by
 rintro c vs F H Q hs ⟨v,rfl,rfl⟩ q
 obtain ⟨z,q⟩:=q.lim
 exact ⟨z,q.ok hs _ rfl⟩
theorem zc7_:Bl K (mLen K) E (csLast (tyL T)) (fun l=>.ok (l.length:Int)) tyInt:=by
 rintro c vs F H Q hs ⟨v,rfl,p,us,rfl,h,r⟩ q
 exact ⟨us,.inl (.of (hs _ _ h)),q.ok hs _ (by rw [r.len])⟩
theorem zl1_:Bl K (mLen K) E (csLast (tySc K)) (fun l=>.ok (l.length:Int)) tyInt:=by
 rintro c vs F H Q hs ⟨v,rfl,p,rfl,h⟩ q
 exact ⟨_,.inl (hs.seq h),q.ok hs _ (by rw [List.length_map])⟩
theorem zoR_:Bl K (mTwo min) E (csCons tyInt (csLast tyInt)) (fun c=>.ok (min c.1 c.2)) tyInt:=by
 rintro c vs F H Q hs ⟨v,us,rfl,rfl,w,rfl,rfl⟩ q
 exact q.ok hs _ rfl
theorem zgE_:BlO K (mList K) E (csLast (tyL T)) (fun l=>.ok l) (owL T):=by
 rintro c vs F H Q hs ⟨v,rfl,p,us,rfl,h,r⟩ q
 exact .inl ⟨us,.inl (.of (hs _ _ h)),fun l hl=>zby_ hs hl r q⟩
theorem zjd_ {xs:List Int}:Prs tyInt H xs (xs.map V.int):=by
 induction xs with
 | nil=>exact .nil
 | cons x xs ih=>exact .cons rfl ih
theorem zj8_:Op2 K (mIx K) E tyStr tyInt (fun l i=>.lim l.length (.opt ((atI l i).map fun c=>[c]))) tyStr:=by
 rintro a b x y F H Q hs rfl rfl q
 obtain ⟨z,q⟩:=q.lim
 obtain ⟨l,e,q⟩:=q.opt
 refine ⟨z,?_⟩
 show (match atI a b with | some c=>Q (tx [c]) H | none=>False)
 cases e1:atI a b with
 | none=>rw [e1] at e; cases e
 | some c=>rw [e1] at e; cases e; exact q.ok hs _ rfl
theorem ziH_ {xs:List α}{vs:List V}(r:Prs T H xs vs){i:Int}{x:α}(e:atI xs i=some x):∃ v,atI vs i=some v/\T.R x v H:=by
 unfold atI at e ⊢
 rw [<- r.len]
 cases e1:ixN xs.length i with
 | none=>rw [e1] at e; cases e
 | some j =>
  rw [e1] at e
  rcases r.get j with ⟨a,b⟩ | ⟨y,v,a,b,c⟩
  ·have:xs[j]?=some x:=e
   rw [a] at this; cases this
  ·have:xs[j]?=some x:=e
   rw [a] at this; cases this
   exact ⟨v,b,c⟩
theorem zae_:Op2 K (mIx K) E (tyL T) tyInt (fun l i=>.opt (atI l i)) T:=by
 rintro a b x y F H Q hs ⟨p,vs,rfl,h,r⟩ rfl q
 obtain ⟨l,e,q⟩:=q.opt
 refine ⟨vs,.inl (.of (hs _ _ h)),?_⟩
 obtain ⟨v,e2,rv⟩:=ziH_ r e
 rw [e2]
 exact q.ok hs v rv
theorem zpG_:Op2 K (mIx K) E (tySc K) tyInt (fun l i=>.opt (atI l i)) tyInt:=by
 rintro a b x y F H Q hs ⟨p,rfl,h⟩ rfl q
 obtain ⟨l,e,q⟩:=q.opt
 refine ⟨_,.inl (hs.seq h),?_⟩
 obtain ⟨v,e2,rv⟩:=ziH_ (H:=F) zjd_ e
 rw [e2]
 exact q.ok hs v rv
def CsAt (C:Cs γ)(i:Nat)(T:Ty α)(pr:γ->α):Prop:=∀ {c vs H},C.R c vs H->∃ v,vs[i]?=some v/\T.R (pr c) v H
theorem zpc_:CsAt (csLast T) 0 T id:=fun ⟨v,e,h⟩=>⟨v,by rw [e]; rfl,h⟩
theorem at_0 {C:Cs γ}:CsAt (csCons T C) 0 T Prod.fst:=fun ⟨v,us,e,h,q⟩=>⟨v,by rw [e]; rfl,h⟩
theorem at_s {C:Cs γ}{i:Nat}{pr:γ->α}{T':Ty β}(h:CsAt C i T pr):CsAt (csCons T' C) (i+1) T (fun c=>pr c.2):=fun ⟨v,us,e,_,q⟩=>by
 obtain ⟨w,e2,r⟩:=h q
 exact ⟨w,by rw [e]; exact e2,r⟩
theorem zP_ {C:Cs γ}{i:Nat}{pr:γ->α}{r:Mo γ}(ha:CsAt C i T pr)(h:EvF K e E L r (tyTup C)):EvF K (tOp (mIx K) e (tC (.int i))) E L (r.bind fun c=>.ok (pr c)) T:=by
 intro σ F H Q hL hs q
 refine h σ F H _ hL hs (q.bind.imp fun c F1 H1 x1 k1 v1 af=>?_)
 obtain ⟨p,us,ev,hp,hc⟩:=af
 subst ev
 obtain ⟨w,e2,aN⟩:=ha hc
 refine ⟨us,.inr (.of (x1.2.1 _ _ hp)),?_⟩
 have e3:atI us (i:Int)=some w:=by
  unfold atI
  rw [zol_ (by lia) (by have:=(List.getElem?_eq_some_iff.mp e2).1; lia)]
  simpa using e2
 rw [e3]
 exact k1.ok x1.2.1 w aN
end
section
variable {K:Fgg}{E:XK}{α β γ:Type}{F H:Hp}{L:List Sl}{e e1 e2:TE}{T:Ty α}{r:Mo α}
variable {t t1 t2:TT}{b b1 b2:Mo Bool}
theorem z1_ (h:EvF K e E L b tyBl):EvT K (mTest e) E L b:=by
 intro σ F H Q hL hs q
 refine h σ F H _ hL hs (q.imp fun a F1 H1 x k v hv=>?_)
 cases hv
 exact k
theorem zeF_ (h:EvT K t E L b):EvT K (tNot t) E L (b.bind fun c=>.ok (!c)):=by
 intro σ F H Q hL hs q
 exact h σ F H _ hL hs (q.bind.imp fun a F1 H1 x k=>k.ok x.2.1)
theorem zpH_ (h1:EvT K t1 E L b1)(h2:EvT K t2 E L b2):EvT K (mAnd t1 t2) E L (b1.bind fun c=>if c then b2 else .ok false):=by
 intro σ F H Q hL hs q
 refine h1 σ F H _ hL hs (q.bind.imp fun a F1 H1 x k=>⟨fun c=>?_,fun c=>?_⟩)
 ·rw [if_pos c] at k; exact h2 σ F1 H1 _ (hL.mono x.1) x.2.1 k
 ·rw [if_neg (by rw [c]; decide)] at k; exact k.ok x.2.1
theorem zpU_ (h1:EvT K t1 E L b1)(h2:EvT K t2 E L b2):EvT K (mOr t1 t2) E L (b1.bind fun c=>if c then .ok true else b2):=by
 intro σ F H Q hL hs q
 refine h1 σ F H _ hL hs (q.bind.imp fun a F1 H1 x k=>⟨fun c=>?_,fun c=>?_⟩)
 ·rw [if_pos c] at k; exact k.ok x.2.1
 ·rw [if_neg (by rw [c]; decide)] at k; exact h2 σ F1 H1 _ (hL.mono x.1) x.2.1 k
theorem zeP_ (h1:EvF K e1 E L b1 tyBl)(h2:EvF K e2 E L b2 tyBl):EvF K (mAndV e1 e2) E L (b1.bind fun c=>if c then b2 else .ok false) tyBl:=by
 intro σ F H Q hL hs q
 refine h1 σ F H _ hL hs (q.bind.imp fun a F1 H1 x k v hv=>?_)
 cases hv
 refine ⟨fun c=>?_,fun c=>?_⟩
 ·rw [if_pos c] at k; exact h2 σ F1 H1 _ (hL.mono x.1) x.2.1 k
 ·rw [if_neg (by rw [c]; decide)] at k; exact k.ok x.2.1 _ rfl
theorem zqK_ (h1:EvF K e1 E L b1 tyBl)(h2:EvF K e2 E L b2 tyBl):EvF K (mOrV e1 e2) E L (b1.bind fun c=>if c then .ok true else b2) tyBl:=by
 intro σ F H Q hL hs q
 refine h1 σ F H _ hL hs (q.bind.imp fun a F1 H1 x k v hv=>?_)
 cases hv
 refine ⟨fun c=>?_,fun c=>?_⟩
 ·rw [if_pos c] at k; exact k.ok x.2.1 _ rfl
 ·rw [if_neg (by rw [c]; decide)] at k; exact h2 σ F1 H1 _ (hL.mono x.1) x.2.1 k
theorem zn4_ (h1:EvF K e1 E L b1 tyBl):EvF K (mNotV e1) E L (b1.bind fun c=>.ok (!c)) tyBl:=by
 intro σ F H Q hL hs q
 refine h1 σ F H _ hL hs (q.bind.imp fun a F1 H1 x k v hv=>?_)
 cases hv
 exact k.ok x.2.1 _ rfl
theorem zl9_ {r:Mo Int}(h1:EvF K e1 E L r tyInt):EvF K (mNeg e1) E L (r.bind fun c=>.ok (-c)) tyInt:=by
 intro σ F H Q hL hs q
 refine h1 σ F H _ hL hs (q.bind.imp fun a F1 H1 x k v hv=>?_)
 cases hv
 exact k.ok x.2.1 _ rfl
theorem ev_if {r1 r2:Mo α}(ht:EvT K t E L b)(h1:EvF K e1 E L r1 T)(h2:EvF K e2 E L r2 T):EvF K (mIf t e1 e2) E L (b.bind fun c=>if c then r1 else r2) T:=by
 intro σ F H Q hL hs q
 refine ht σ F H _ hL hs (q.bind.imp fun a F1 H1 x k=>⟨fun c=>?_,fun c=>?_⟩)
 ·rw [if_pos c] at k; exact h1 σ F1 H1 _ (hL.mono x.1) x.2.1 k
 ·rw [if_neg (by rw [c]; decide)] at k; exact h2 σ F1 H1 _ (hL.mono x.1) x.2.1 k
theorem zkr_ {r1 r2:Mo α}{O:Own α}(ht:EvT K t E L b)(h1:EvO K e1 E L r1 O)(h2:EvO K e2 E L r2 O):EvO K (mIf t e1 e2) E L (b.bind fun c=>if c then r1 else r2) O:=by
 intro σ F H Q hL hs q
 refine ht σ F H _ hL hs (q.bind.imp fun a F1 H1 x k=>⟨fun c=>?_,fun c=>?_⟩)
 ·rw [if_pos c] at k; exact h1 σ F1 H1 _ (hL.mono x.1) x.2.1 (k.imp fun a F2 H2 y z=>z.back x.2.2.1)
 ·rw [if_neg (by rw [c]; decide)] at k; exact h2 σ F1 H1 _ (hL.mono x.1) x.2.1 (k.imp fun a F2 H2 y z=>z.back x.2.2.1)
theorem zfv_ {m m':R2}{e3:TE}{T1:Ty α}{T2:Ty β}{T3:Ty γ}{g:α->β->Mo Bool}{g':β->γ->Mo Bool}{r1:Mo α}{r2:Mo β}{r3:Mo γ}(dZ:Op2 K m E T1 T2 g tyBl)(fA:Op2 K m' E T2 T3 g' tyBl)
  (h1:EvF K e1 E L r1 T1) (h2:EvF K e2 E L r2 T2) (h3:EvF K e3 E L r3 T3):
  EvF K (mChain m m' e1 e2 e3) E L (r1.bind fun a=>r2.bind fun b=>(g a b).bind fun c=>if c then r3.bind fun d=>g' b d else .ok false) tyBl:=by
 intro σ F H Q hL hs q
 refine h1 σ F H _ hL hs (q.bind.imp fun a F1 H1 x1 k1 v1 bP=>?_)
 refine h2 σ F1 H1 _ (hL.mono x1.1) x1.2.1 (k1.bind.imp fun b F2 H2 x2 k2 v2 aT=>?_)
 refine dZ a b v1 v2 F2 H2 _ x2.2.1 (T1.mono x2.1 bP) aT (k2.bind.imp fun c F3 H3 x3 k3 v3 jD=>?_)
 cases jD
 refine ⟨fun z=>?_,fun z=>?_⟩
 ·rw [if_pos z] at k3
  refine h3 σ F3 H3 _ (hL.mono ((x1.1.trans x2.1).trans x3.1)) x3.2.1 (k3.bind.imp fun d F4 H4 x4 k4 v4 et=>?_)
  exact fA b d v2 v4 F4 H4 Q x4.2.1 (T2.mono (x3.1.trans x4.1) aT) et k4
 ·rw [if_neg (by rw [z]; decide)] at k3; exact k3.ok x3.2.1 _ rfl
theorem zk5_ {m m' ll:R2}{e3 e4:TE}{δ:Type}{T1:Ty α}{T2:Ty β}{T3:Ty γ}{T4:Ty δ}{g:α->β->Mo Bool}{g':β->γ->Mo Bool}{lN:γ->δ->Mo Bool}{r1:Mo α}{r2:Mo β}{r3:Mo γ}{r4:Mo δ}
  (dZ:Op2 K m E T1 T2 g tyBl) (fA:Op2 K m' E T2 T3 g' tyBl) (gU:Op2 K ll E T3 T4 lN tyBl)
  (h1:EvF K e1 E L r1 T1) (h2:EvF K e2 E L r2 T2) (h3:EvF K e3 E L r3 T3) (h4:EvF K e4 E L r4 T4):
  EvF K (mChain3 m m' ll e1 e2 e3 e4) E L (r1.bind fun a=>r2.bind fun b=>(g a b).bind fun c=>if c then (r3.bind fun d=>(g' b d).bind fun c'=>if c' then r4.bind fun f=>lN d f else .ok false) else .ok false) tyBl:=by
 intro σ F H Q hL hs q
 refine h1 σ F H _ hL hs (q.bind.imp fun a F1 H1 x1 k1 v1 bP=>?_)
 refine h2 σ F1 H1 _ (hL.mono x1.1) x1.2.1 (k1.bind.imp fun b F2 H2 x2 k2 v2 aT=>?_)
 refine dZ a b v1 v2 F2 H2 _ x2.2.1 (T1.mono x2.1 bP) aT (k2.bind.imp fun c F3 H3 x3 k3 v3 jD=>?_)
 cases jD
 refine ⟨fun z=>?_,fun z=>?_⟩
 ·rw [if_pos z] at k3
  refine h3 σ F3 H3 _ (hL.mono ((x1.1.trans x2.1).trans x3.1)) x3.2.1 (k3.bind.imp fun d F4 H4 x4 k4 v4 et=>?_)
  refine fA b d v2 v4 F4 H4 _ x4.2.1 (T2.mono (x3.1.trans x4.1) aT) et (k4.bind.imp fun c' F5 H5 x5 k5 v5 mK=>?_)
  cases mK
  refine ⟨fun z=>?_,fun z=>?_⟩
  ·rw [if_pos z] at k5
   refine h4 σ F5 H5 _ (hL.mono ((((x1.1.trans x2.1).trans x3.1).trans x4.1).trans x5.1)) x5.2.1 (k5.bind.imp fun f F6 H6 x6 k6 v6 mJ=>?_)
   exact gU d f v4 v6 F6 H6 Q x6.2.1 (T3.mono (x5.1.trans x6.1) et) mJ k6
  ·rw [if_neg (by rw [z]; decide)] at k5; exact k5.ok x5.2.1 _ rfl
 ·rw [if_neg (by rw [z]; decide)] at k3; exact k3.ok x3.2.1 _ rfl
theorem After.more {k:α->Hp->Hp->Prop}(h:After K r E F H k):After K r E F H fun a F1 H1=>∀ F2 H2,Ext F1 H1 F2 H2->k a F2 H2:=by
 cases r with
 | ok a=>exact fun F1 H1 x F2 H2 y=>h F2 H2 (x.trans y)
 | ex c=>exact h
 | no=>exact h
def CsN (C:Cs γ)(n:Nat):Prop:=∀ {c vs H},C.R c vs H->vs.length=n
theorem zo_:CsN (csLast T) 1:=fun ⟨v,e,_⟩=>by rw [e]; rfl
theorem zi_ {C:Cs γ}{n:Nat}(h:CsN C n):CsN (csCons T C) (n+1):=fun ⟨v,us,e,_,q⟩=>by rw [e,List.length_cons,h q]
theorem zcd_ {ta:TA}{C:Cs γ}{r:Mo γ}{n:Nat}(hl:CsN C n)(h:EvA K ta E L r C)(hn:n<=100:=by decide):EvF K (tTup ta) E L r (tyTup C):=by
 intro σ F H Q hL hs q
 refine h σ F H _ hL hs (q.more.imp fun c F1 H1 x1 k1 vs aS=>⟨zcK_ (by rw [hl aS]; lia),fun p hp=>?_⟩)
 have x:=Ext.new (o:=.tup vs) x1.2.1 hp
 exact k1 _ _ x _ ⟨p,vs,rfl,zD_,C.mono x.1 aS⟩
def CsL (C:Cs γ)(T:Ty α)(f:γ->List α):Prop:=∀ {c vs H},C.R c vs H->Prs T H (f c) vs
theorem zY_:CsL (csLast T) T fun a=>[a]:=fun ⟨v,e,h⟩=>by rw [e]; exact .cons h .nil
theorem zn_ {C:Cs γ}{f:γ->List α}(h:CsL C T f):CsL (csCons T C) T fun c=>c.1::f c.2:=fun ⟨v,us,e,q,z⟩=>by rw [e]; exact .cons q (h z)
theorem zbG_ {ta:TA}{C:Cs γ}{r:Mo γ}{n:Nat}{f:γ->List α}(hl:CsN C n)(hf:CsL C T f)(h:EvA K ta E L r C)(hn:n<=100:=by decide):EvO K (tLst ta) E L (r.bind fun c=>.ok (f c)) (owL T):=by
 intro σ F H Q hL hs q
 refine h σ F H _ hL hs (q.bind.imp fun c F1 H1 x1 k1 vs aS=>⟨zcK_ (by rw [hl aS]; omega),fun p hp=>?_⟩)
 exact zby_ x1.2.1 hp (hf aS) (k1.imp fun a F2 H2 x2 k2=>k2.back x1.2.2.1)
theorem zaf_ (T:Ty α):EvO K (tLst tNil) E L (.ok []) (owL T):=by
 intro σ F H Q hL hs q
 exact ⟨Nat.zero_le _,fun p hp=>zby_ hs hp (T:=T) .nil q⟩
def EvP (K:Fgg)(t:TO)(E:XK)(L:List Sl)(r:Mo (Option Int)):Prop:=
 ∀ σ F H (Q:Option Int->Hp->Prop),HoldF L σ F->Same F H->After K r E F H (fun b _ H'=>Q b H')->t σ H Q
theorem zlY_:EvP K tNoPart E L (.ok none):=fun σ F H Q hL hs q=>q.ok hs
theorem zj5_ {r:Mo Int}(h:EvF K e E L r tyInt):EvP K (mPart e) E L (r.bind fun i=>.ok (some i)):=by
 intro σ F H Q hL hs q
 refine h σ F H _ hL hs (q.bind.imp fun a F1 H1 x k v hv=>?_)
 cases hv
 exact k.ok x.2.1
def cutG (xs:List α)(lo hi:Option Int):List α:=(xs.drop (HT.sIx xs.length 0 lo)).take (HT.sIx xs.length xs.length hi-HT.sIx xs.length 0 lo)
theorem zhL_ {xs:List α}{vs:List V}(q:Prs T H xs vs)(lo hi:Option Int):Prs T H (cutG xs lo hi) (cutV vs lo hi):=by
 unfold cutG cutV
 rw [<- q.len]
 exact (q.drop _).take _
variable {tl th:TO}{rl rh:Mo (Option Int)}
theorem zoK_ {r:Mo (List Nat)}(h:EvF K e E L r tyStr)(hl:EvP K tl E L rl)(hh:EvP K th E L rh):EvF K (tSl (mSl K) e tl th) E L (r.bind fun l=>rl.bind fun a=>rh.bind fun b=>.lim l.length (.ok (cutG l a b))) tyStr:=by
 intro σ F H Q hL hs q
 refine h σ F H _ hL hs (q.bind.imp fun l F1 H1 x1 k1 v hv=>?_)
 refine hl σ F1 H1 _ (hL.mono x1.1) x1.2.1 (k1.bind.imp fun a F2 H2 x2 k2=>?_)
 refine hh σ F2 H2 _ (hL.mono (x1.1.trans x2.1)) x2.2.1 (k2.bind.imp fun b F3 H3 x3 k3=>?_)
 cases hv
 obtain ⟨z,k3⟩:=k3.lim
 exact ⟨z,k3.ok x3.2.1 _ rfl⟩
theorem znn_ {r:Mo (List α)}(h:EvF K e E L r (tyL T))(hl:EvP K tl E L rl)(hh:EvP K th E L rh):EvO K (tSl (mSl K) e tl th) E L (r.bind fun l=>rl.bind fun a=>rh.bind fun b=>.ok (cutG l a b)) (owL T):=by
 intro σ F H Q hL hs q
 refine h σ F H _ hL hs (q.bind.imp fun l F1 H1 x1 k1 v hv=>?_)
 refine hl σ F1 H1 _ (hL.mono x1.1) x1.2.1 (k1.bind.imp fun a F2 H2 x2 k2=>?_)
 refine hh σ F2 H2 _ (hL.mono (x1.1.trans x2.1)) x2.2.1 (k2.bind.imp fun b F3 H3 x3 k3=>?_)
 obtain ⟨p,vs,rfl,hp,hr⟩:=hv
 have x:=x2.1.trans x3.1
 exact ⟨vs,.of (x3.2.1 _ _ (x _ _ hp)),fun q hq=>zby_ x3.2.1 hq (zhL_ (hr.mono x) a b) (k3.imp fun _ _ _ _ z=>z.back ((x1.2.2.1.trans x2.2.2.1).trans x3.2.2.1))⟩
theorem zoX_ {r:Mo (List Int)}(h:EvF K e E L r (tySc K))(hl:EvP K tl E L rl)(hh:EvP K th E L rh):EvO K (tSl (mSl K) e tl th) E L (r.bind fun l=>rl.bind fun a=>rh.bind fun b=>.ok (cutG l a b)) (owL tyInt):=by
 intro σ F H Q hL hs q
 refine h σ F H _ hL hs (q.bind.imp fun l F1 H1 x1 k1 v hv=>?_)
 refine hl σ F1 H1 _ (hL.mono x1.1) x1.2.1 (k1.bind.imp fun a F2 H2 x2 k2=>?_)
 refine hh σ F2 H2 _ (hL.mono (x1.1.trans x2.1)) x2.2.1 (k2.bind.imp fun b F3 H3 x3 k3=>?_)
 obtain ⟨p,rfl,hp⟩:=hv
 have x:=x2.1.trans x3.1
 exact ⟨_,x3.2.1.seq (x.seq hp),fun q hq=>zby_ x3.2.1 hq (zhL_ zjd_ a b) (k3.imp fun _ _ _ _ z=>z.back ((x1.2.2.1.trans x2.2.2.1).trans x3.2.2.1))⟩
structure EqT (K:Fgg)(T:Ty α)(n:Nat)(q:α->α->Bool):Prop where
 eq:∀ {a b x y H},T.R a x H->T.R b y H->EqD K H n x y (q a b)
theorem zaA_:EqT K tyInt 0 (fun a b=>decide (a=b)):=⟨by
 rintro a b x y H rfl rfl
 have:eqV (.int a) (.int b)=decide (a=b):=by unfold eqV; exact rfl
 rw [<- this]; exact .flat rfl rfl⟩
theorem zhm_:EqT K tyStr 0 (fun a b=>decide (a=b)):=⟨by
 rintro a b x y H rfl rfl
 have:eqV (tx a) (tx b)=decide (a=b):=by
  unfold eqV
  rw [Bool.eq_iff_iff,decide_eq_true_iff]
  constructor
  ·intro h
   have h:=eq_of_beq h
   injection h with h
   have:=congrArg Array.toList h
   simpa using this
  ·rintro rfl; exact beq_self_eq_true _
 rw [<- this]; exact .flat rfl rfl⟩
def eqL (q:α->α->Bool):List α->List α->Bool
 | [],[]=>true
 | x::xs,y::ys=>q x y && eqL q xs ys
 | _,_=>false
theorem zlD_ {q:α->α->Bool}:∀ {xs ys:List α},xs.length≠ys.length->eqL q xs ys=false
 | [],[],h=>absurd rfl h
 | [],_::_,_=>rfl
 | _::_,[],_=>rfl
 | x::xs,y::ys,h=>by unfold eqL; rw [zlD_ (by simpa using h),Bool.and_false]
theorem zlk_ {q:α->α->Bool}:∀ {xs ys:List α},xs.length=ys.length->eqL q xs ys=(List.range xs.length).all fun i=>match xs[i]?,ys[i]? with | some x,some y=>q x y | _,_=>true
 | [],[],_=>rfl
 | x::xs,y::ys,h=>by
  unfold eqL
  rw [List.length_cons,List.range_succ_eq_map,List.all_cons,List.all_map,zlk_ (by simpa using h)]
  rfl
theorem eqt_l {n:Nat}{q:α->α->Bool}(h:EqT K T n q):EqT K (tyL T) (n+1) (eqL q):=⟨by
 rintro a b x y H ⟨p,vs,rfl,hp,hr⟩ ⟨p2,us,rfl,hp2,cP⟩
 by_cases hl:a.length=b.length
 ·rw [zlk_ hl,hr.len]
  refine .lst _ (.of hp) (.of hp2) (by rw [<- hr.len,<- cP.len,hl]) fun i x y hx hy=>?_
  rcases hr.get i with ⟨_,z⟩ | ⟨x1,v1,e1,e2,r1⟩
  ·rw [z] at hx; cases hx
  rcases cP.get i with ⟨_,z⟩ | ⟨x2,v2,e3,e4,r2⟩
  ·rw [z] at hy; cases hy
  rw [e2] at hx; cases hx
  rw [e4] at hy; cases hy
  simp only [e1,e3]
  exact h.eq r1 r2
 ·rw [zlD_ hl]
  exact .lstN (.of hp) (.of hp2) (by rw [<- hr.len,<- cP.len]; exact hl)⟩
structure EqC (K:Fgg)(C:Cs γ)(n m:Nat)(q:γ->γ->Bool):Prop where
 eq:∀ {a b xs ys H},C.R a xs H->C.R b ys H->xs.length=m/\ys.length=m/\∃ e:Nat->Bool,(∀ i x y,xs[i]?=some x->ys[i]?=some y->EqD K H n x y (e i))/\(List.range m).all e=q a b
theorem EqD.le {H:Hp}{n m:Nat}{x y:V}{b:Bool}(h:EqD K H n x y b)(g:n<=m):EqD K H m x y b:=by
 induction g with
 | refl=>exact h
 | step _ ih=>exact .up ih
theorem zlJ_ {n:Nat}{q:α->α->Bool}(h:EqT K T n q):EqC K (csLast T) n 1 q:=⟨by
 rintro a b xs ys H ⟨v,rfl,hv⟩ ⟨u,rfl,hu⟩
 refine ⟨rfl,rfl,fun _=>q a b,fun i x y hx hy=>?_,by simp [List.range_succ]⟩
 cases i with
 | zero=>cases hx; cases hy; exact h.eq hv hu
 | succ i=>cases hx⟩
theorem zni_ {C:Cs γ}{n m k:Nat}{q:α->α->Bool}{q':γ->γ->Bool}(h:EqT K T n q)(h':EqC K C k m q'):EqC K (csCons T C) (max n k) (m+1) (fun a b=>q a.1 b.1 && q' a.2 b.2):=⟨by
 rintro a b xs ys H ⟨v,us,rfl,hv,hc⟩ ⟨u,ws,rfl,hu,dF⟩
 obtain ⟨l1,l2,e,he,ea⟩:=h'.eq hc dF
 refine ⟨by rw [List.length_cons,l1],by rw [List.length_cons,l2],fun i=>match i with | 0=>q a.1 b.1 | j+1=>e j,fun i x y hx hy=>?_,?_⟩
 ·cases i with
  | zero=>cases hx; cases hy; exact (h.eq hv hu).le (Nat.le_max_left _ _)
  | succ i=>exact (he i x y (by simpa using hx) (by simpa using hy)).le (Nat.le_max_right _ _)
 ·rw [List.range_succ_eq_map,List.all_cons,List.all_map,<- ea]; rfl⟩
theorem zpw_ {C:Cs γ}{n m:Nat}{q:γ->γ->Bool}(h:EqC K C n m q):EqT K (tyTup C) (n+1) q:=⟨by
 rintro a b x y H ⟨p,us,rfl,hp,hc⟩ ⟨p2,ws,rfl,hp2,hc2⟩
 obtain ⟨l1,l2,e,he,ea⟩:=h.eq hc hc2
 have:=EqD.tup e (.of hp) (.of hp2) he (K:=K)
 rw [l1,l2,Nat.min_self,ea,beq_self_eq_true,Bool.and_true] at this
 exact this⟩
theorem zhv_:Op2 K mIs E (tyOpt T) tyNon (fun a _=>.ok a.isNone) tyBl:=by
 rintro a b x y F H Q hs hx rfl k
 have:decide (x=.non)=a.isNone:=by
  cases a with
  | none=>cases hx; rfl
  | some a=>exact decide_eq_false hx.2
 show (match mIsB x .non with | some b=>Q (.bl b) H | none=>False)
 have e:mIsB x .non=some (decide (x=.non)):=rfl
 rw [e,this]
 exact k.ok hs _ rfl
theorem zg1_:Op2 K mIsNot E (tyOpt T) tyNon (fun a _=>.ok a.isSome) tyBl:=by
 rintro a b x y F H Q hs hx rfl k
 have:(!decide (x=.non))=a.isSome:=by
  cases a with
  | none=>cases hx; rfl
  | some a=>rw [decide_eq_false hx.2]; rfl
 show (match mIsB x .non with | some b=>Q (.bl (!b)) H | none=>False)
 have e:mIsB x .non=some (decide (x=.non)):=rfl
 rw [e]
 show Q (.bl (!decide (x=.non))) H
 rw [this]
 exact k.ok hs _ rfl
theorem zo9_:Op2 K (mIn K false) E tyStr tyStr (fun a b=>.ok (inS a b)) tyBl:=by
 rintro a b x y F H Q hs rfl rfl k
 exact k.ok hs _ rfl
structure Flt (T:Ty α)(q:α->α->Bool):Prop where
 flat:∀ {a x H},T.R a x H->flatV x=true
 eq:∀ {a b x y H},T.R a x H->T.R b y H->eqV x y=q a b
theorem zoM_:Flt tyInt (fun a b=>decide (a=b)):=⟨fun h=>by cases h; rfl,fun h h'=>by cases h; cases h'; unfold eqV; exact rfl⟩
theorem zpr_:Flt tyStr (fun a b=>decide (a=b)):=⟨fun h=>by cases h; rfl,fun {a b x y H} h h'=>by
 cases h; cases h'
 unfold eqV
 rw [Bool.eq_iff_iff,decide_eq_true_iff]
 constructor
 ·intro h
  have h:=eq_of_beq h
  injection h with h
  simpa using congrArg Array.toList h
 ·rintro rfl; exact beq_self_eq_true _⟩
theorem zlz_ {q:α->α->Bool}(f:Flt T q){H:Hp}{a:α}{x:V}(ha:T.R a x H){xs:List α}{vs:List V}(r:Prs T H xs vs):vs.all flatV=true/\inV x vs=xs.any fun y=>q y a:=by
 induction r with
 | nil=>exact ⟨rfl,rfl⟩
 | cons r t ih =>
  refine ⟨by rw [List.all_cons,f.flat r,ih.1]; rfl,?_⟩
  unfold inV at ih ⊢
  rw [List.any_cons,List.any_cons,f.eq r ha,ih.2]
theorem zpj_ {q:α->α->Bool}(f:Flt T q):Op2 K (mIn K true) E T (tyL T) (fun a b=>.ok (!(b.any fun y=>q y a))) tyBl:=by
 rintro a b x y F H Q hs hx ⟨p,vs,rfl,hp,hr⟩ k
 obtain ⟨h1,h2⟩:=zlz_ f hx hr
 refine ⟨vs,.inl (.of (hs _ _ hp)),f.flat hx,h1,?_⟩
 rw [h2]
 exact k.ok hs _ rfl
def TyN (K:Fgg)(T:Ty α)(n:String):Prop:=∀ {a x H},T.R a x H->tyS K H x n
theorem znc_:TyN K tyInt "int":=fun h=>by cases h; rfl
theorem tn_bl:TyN K tyBl "bool":=fun h=>by cases h; rfl
theorem zqm_:TyN K tyStr "str":=fun h=>by cases h; rfl
theorem zqk_:TyN K tyNon "NoneType":=fun h=>by cases h; rfl
theorem zlm_ {x:V}{n c:String}{bb:Bool}{Q:VK}(h:tyS K H x n)(hb:isaB n c=some bb)(q:Q (.bl bb) H):mIsa K [x,.ty c] H Q:=by
 cases x with
 | non=>cases (show n=_ from h); show (match isaB "NoneType" c with | some b=>Q (.bl b) H | none=>False); rw [hb]; exact q
 | bl _=>cases (show n=_ from h); show (match isaB "bool" c with | some b=>Q (.bl b) H | none=>False); rw [hb]; exact q
 | int _=>cases (show n=_ from h); show (match isaB "int" c with | some b=>Q (.bl b) H | none=>False); rw [hb]; exact q
 | str _=>cases (show n=_ from h); show (match isaB "str" c with | some b=>Q (.bl b) H | none=>False); rw [hb]; exact q
 | ref p=>exact ⟨n,h,by rw [hb]; exact q⟩
 | _=>exact h.elim
theorem znv_ {n c:String}{bb:Bool}(hn:TyN K T n)(h:EvF K e E L r T)(hb:isaB n c=some bb:=by decide):EvF K (tCB (mIsa K) (tCons e (tCons (tC (.ty c)) tNil))) E L (r.bind fun _=>.ok bb) tyBl:=by
 intro σ F H Q hL hs q
 refine h σ F H _ hL hs (q.bind.imp fun l F1 H1 x1 k1 v hv=>?_)
 exact zlm_ (hn (T.mono x1.2.1 hv)) hb (k1.ok x1.2.1 _ rfl)
def Me (K:Fgg)(m:V->List V->Hp->VK->Prop)(E:XK)(C:Cs γ)(g:List Nat->γ->Mo α)(T:Ty α):Prop:=
 ∀ l c vs F H (Q:VK),Same F H->C.R c vs F->After K (g l c) E F H (fun c F' H'=>∀ v,T.R c v F'->Q v H')->m (tx l) vs H Q
theorem zq0_ {m:V->List V->Hp->VK->Prop}{C:Cs γ}{g:List Nat->γ->Mo α}{ta:TA}{r0:Mo (List Nat)}{r:Mo γ}(hb:Me K m E C g T)(h0:EvF K e E L r0 tyStr)(h:EvA K ta E L r C):EvF K (tBM K "str" m e ta) E L (r0.bind fun l=>r.bind fun c=>g l c) T:=by
 intro σ F H Q hL hs q
 refine h0 σ F H _ hL hs (q.bind.imp fun l F1 H1 x1 k1 v hv=>?_)
 cases hv
 refine ⟨rfl,h σ F1 H1 _ (hL.mono x1.1) x1.2.1 (k1.bind.imp fun c F2 H2 x2 k2 vs aS=>hb l c vs F2 H2 Q x2.2.1 aS k2)⟩
theorem zpF_:Me K mFind E (csLast tyStr) (fun l c=>.ok (findS l c)) tyInt:=by
 rintro l c vs F H Q hs ⟨v,rfl,rfl⟩ k
 exact k.ok hs _ rfl
end
section
variable {K:Fgg}{E:XK}{α β γ:Type}{F H:Hp}{L:List Sl}{e:TE}{T:Ty α}{r:Mo α}
def setL (L:List Sl)(ss:List (Nat×Sl)):List Sl:=ss.foldl (fun L q=>L.set q.1 q.2) L
def setS (σ:St)(ss:List (Nat×Option V)):St:=ss.foldl (fun L q=>L.set q.1 q.2) σ
inductive Plain (F:Hp):List (Nat×Sl)->List (Nat×Option V)->Prop
 | nil:Plain F [] []
 | cons {α:Type}{T:Ty α}{a:α}{i:Nat}{v:V}{ss vs} (h:T.R a v F) (t:Plain F ss vs):Plain F ((i,.fz T a)::ss) ((i,some v)::vs)
def TgR (K:Fgg)(g:TG)(T:Ty α)(ss:α->List (Nat×Sl)):Prop:=
 ∀ a v σ F H (Q:St->Hp->Prop),Same F H->T.R a v F->(∀ vs,Plain F (ss a) vs->Q (setS σ vs) H)->g v σ H Q
theorem zE_ (i:Nat):TgR K (gName i) T fun a=>[(i,.fz T a)]:=by
 intro a v σ F H Q hs hv q
 exact q [(i,some v)] (.cons hv .nil)
def TgC (K:Fgg)(g:TGs)(C:Cs γ)(ss:γ->List (Nat×Sl)):Prop:=
 ∀ a vs σ F H (Q:St->Hp->Prop),Same F H->C.R a vs F->(∀ us,Plain F (ss a) us->Q (setS σ us) H)->g vs σ H Q
theorem zeW_ {g:TG}{ss:α->List (Nat×Sl)}(h:TgR K g T ss):TgC K (gConsM g gNilM) (csLast T) ss:=by
 rintro a vs σ F H Q hs ⟨v,rfl,hv⟩ q
 exact h a v σ F H _ hs hv fun us hu=>q us hu
theorem zdA_ (i:Nat){g:TGs}{C:Cs γ}{ss:γ->List (Nat×Sl)}(h:TgC K g C ss):TgC K (gConsM (gName i) g) (csCons T C) fun c=>(i,.fz T c.1)::ss c.2:=by
 rintro a vs σ F H Q hs ⟨v,us,rfl,hv,hc⟩ q
 exact h a.2 us _ F H _ hs hc fun ws hw=>q ((i,some v)::ws) (.cons hv hw)
theorem zh1_ {n:Nat}{g:TGs}{C:Cs γ}{ss:γ->List (Nat×Sl)}(hn:CsN C n)(h:TgC K g C ss):TgR K (gTupM K n g) (tyTup C) ss:=by
 rintro a v σ F H Q hs ⟨p,us,rfl,hp,hc⟩ q
 exact ⟨us,.of (hs _ _ hp),hn hc,h a us σ F H Q hs hc q⟩
theorem zhi_ {σ:St}{i j:Nat}{o:Option V}(h:i<σ.length):((σ.set i o)[j]?).join=if i=j then o else (σ[j]?).join:=by
 rw [List.getElem?_set]
 split
 ·rename_i e; subst e; first | rfl | (rw [if_pos h]; rfl)
 ·rfl
theorem zkE_ {σ:St}{i:Nat}{s:Sl}{o:Option V}(hl:L.length=σ.length)(h:HoldF L σ F)(hs:s.Z o F):HoldF (L.set i s) (σ.set i o) F:=by
 intro j t e
 rw [List.getElem?_set] at e
 split at e
 ·rename_i z; subst z
  split at e
  ·rename_i y; cases e
   rw [zhi_ (by rw [<- hl]; exact y),if_pos rfl]; exact hs
  ·cases e
 ·rename_i z
  by_cases y:i<σ.length
  ·rw [zhi_ y,if_neg z]; exact h j t e
  ·rw [List.set_eq_of_length_le (by lia)]; exact h j t e
theorem zia_ {ss:List (Nat×Sl)}{vs:List (Nat×Option V)}(p:Plain F ss vs):∀ {L:List Sl}{σ:St},L.length=σ.length->HoldF L σ F->HoldF (setL L ss) (setS σ vs) F/\(setS σ vs).length=σ.length/\(setL L ss).length=L.length:=by
 induction p with
 | nil=>exact fun hl h=>⟨h,rfl,rfl⟩
 | cons hv t ih =>
  rename_i T a i v ss vs
  intro L σ hl h
  obtain ⟨a1,b,c⟩:=ih (L:=L.set i (.fz T a)) (σ:=σ.set i (some v)) (by rw [List.length_set,List.length_set]; exact hl) (zkE_ (s:=.fz T a) hl h ⟨v,rfl,hv⟩)
  exact ⟨a1,b.trans (by rw [List.length_set]),c.trans (by rw [List.length_set])⟩
def DeadAt (L:List Sl)(is:List Nat):Prop:=∀ i∈is,∀ s,L[i]?=some s->s=.dead
theorem zjK_ {ss:List (Nat×Sl)}{vs:List (Nat×Option V)}(p:Plain F ss vs):∀ {L:List Sl}{σ:St},L.length=σ.length->DeadAt L (ss.map (·.1))->HoldF L σ F->HoldF L (setS σ vs) F:=by
 induction p with
 | nil=>exact fun hl d h=>h
 | cons hv t ih =>
  rename_i i v ss vs
  intro L σ hl d h
  refine ih (σ:=σ.set i (some v)) (by rw [List.length_set]; exact hl) (fun j hj=>d j (List.mem_cons_of_mem _ hj)) fun j s e=>?_
  by_cases y:i<σ.length
  ·rw [zhi_ y]
   split
   ·rename_i z; subst z
    rw [d i List.mem_cons_self s e]; trivial
   ·exact h j s e
  ·rw [List.set_eq_of_length_le (by lia)]; exact h j s e
theorem znd_ {ss:List (Nat×Sl)}{vs:List (Nat×Option V)}(p:Plain F ss vs){j:Nat}:∀ {σ:St},j∉ss.map (·.1)->(setS σ vs)[j]?=σ[j]?:=by
 induction p with
 | nil=>exact fun _=>rfl
 | cons hv t ih =>
  rename_i i v ss vs
  intro σ hj
  have h1:i≠j:=fun z=>hj (by rw [<- z]; exact List.mem_cons_self)
  have h2:=ih (σ:=σ.set i (some v)) fun z=>hj (List.mem_cons_of_mem _ z)
  exact h2.trans (List.getElem?_set_ne h1)
structure Yl (K:Fgg)(J:It)(xs:List α)(T:Ty α)(F1:Hp):Prop where
 go:∀ i H x,Same F1 H->xs[i]?=some x->J.go i H/\∀ v H',J.yld i H v H'->∀ F,Same F1 F->Same F H->∃ F',Ext F H F' H'/\T.R x v F'
 stop:∀ H,Same F1 H->J.stop xs.length H
def EvI (K:Fgg)(wi:TI)(E:XK)(L:List Sl)(r:Mo (List α))(T:Ty α):Prop:=
 ∀ σ F H (R:It->Hp->Prop),HoldF L σ F->Same F H->After K r E F H (fun xs F' H'=>∀ J,Yl K J xs T F'->R J H')->wi σ H R
theorem zn3_ {r:Mo (List Nat)}(h:EvF K e E L r tyStr):EvI K (iAny K e) E L (r.bind fun l=>.ok (l.map fun c=>[c])) tyStr:=by
 intro σ F H R hL hs q
 refine h σ F H _ hL hs (q.bind.imp fun l F1 H1 x1 k1 v hv=>?_)
 cases hv
 refine k1.ok x1.2.1 _ ⟨fun i H x hH hx=>?_,fun H hH=>?_⟩
 ·rw [List.getElem?_map] at hx
  cases e:l[i]? with
  | none=>rw [e] at hx; cases hx
  | some c =>
   rw [e] at hx; cases hx
   have hi:=(List.getElem?_eq_some_iff.mp e).1
   refine ⟨hi,?_⟩
   rintro v H' ⟨rfl,rfl⟩ F _ hF
   refine ⟨F,.refl hF,?_⟩
   show tx [l.getD i 0]=tx [c]
   rw [List.getD_eq_getElem?_getD,e]; rfl
 ·show l.length<=(l.map fun c=>[c]).length
  rw [List.length_map]; exact Nat.le_refl _
theorem ei_l {r:Mo (List α)}(h:EvF K e E L r (tyL T)):EvI K (iAny K e) E L r T:=by
 intro σ F H R hL hs q
 refine h σ F H _ hL hs (q.imp fun l F1 H1 x1 k1 v hv=>?_)
 obtain ⟨p,vs,rfl,hp,hr⟩:=hv
 refine .inl ⟨⟨vs,.of (x1.2.1 _ _ hp)⟩,k1 _ ⟨fun i H x hH hx=>?_,fun H hH=>⟨vs,.of (hH _ _ hp),by rw [hr.len]; exact Nat.le_refl _⟩⟩⟩
 rcases hr.get i with ⟨a,_⟩ | ⟨y,u,a,b,c⟩
 ·rw [a] at hx; cases hx
 ·rw [a] at hx; cases hx
  refine ⟨⟨vs,u,.of (hH _ _ hp),b⟩,?_⟩
  rintro v H' ⟨rfl,z⟩ F hF hF'
  have e:=z vs (.of (hH _ _ hp))
  rw [b] at e; cases e
  exact ⟨F,.refl hF',T.mono hF c⟩
def rngI (lo:Int)(n:Nat):List Int:=(List.range n).map fun (i:Nat)=>lo+i
theorem zoI_ {lo:Int}{n:Nat}{F1:Hp}:Yl K (Itr lo n) (rngI lo n) tyInt F1:=by
 refine ⟨fun i H x hH hx=>?_,fun H hH=>?_⟩
 ·unfold rngI at hx
  rw [List.getElem?_map] at hx
  cases e:(List.range n)[i]? with
  | none=>rw [e] at hx; cases hx
  | some c =>
   rw [e] at hx; cases hx
   obtain ⟨hi,e⟩:=List.getElem?_eq_some_iff.mp e
   rw [List.getElem_range] at e; subst e
   rw [List.length_range] at hi
   refine ⟨hi,?_⟩
   rintro v H' ⟨rfl,rfl⟩ F _ hF
   exact ⟨F,.refl hF,rfl⟩
 ·show n<=_
  unfold rngI; rw [List.length_map,List.length_range]; exact Nat.le_refl _
theorem zn6_ {r:Mo Int}{ta:TA}(h:EvA K ta E L r (csLast tyInt)):EvI K (mRng1 ta) E L (r.bind fun j=>.grd (-(2 ^ 62)<=j/\j<2 ^ 62) (.ok (rngI 0 j.toNat))) tyInt:=by
 intro σ F H R hL hs q
 refine h σ F H _ hL hs (q.bind.imp fun l F1 H1 x1 k1 v hv=>?_)
 obtain ⟨u,rfl,rfl⟩:=hv
 obtain ⟨z,k1⟩:=k1.grd
 exact ⟨z.1,z.2,k1.ok x1.2.1 _ zoI_⟩
theorem zor_ {r:Mo (Int×Int)}{ta:TA}(h:EvA K ta E L r (csCons tyInt (csLast tyInt))):EvI K (mRng2 ta) E L (r.bind fun c=>.grd (-(2 ^ 62)<=c.1/\c.1<2 ^ 62 /\ -(2 ^ 62)<=c.2/\c.2<2 ^ 62) (.ok (rngI c.1 (c.2-c.1).toNat))) tyInt:=by
 intro σ F H R hL hs q
 refine h σ F H _ hL hs (q.bind.imp fun l F1 H1 x1 k1 v hv=>?_)
 obtain ⟨u,us,rfl,rfl,w,rfl,rfl⟩:=hv
 obtain ⟨z,k1⟩:=k1.grd
 exact ⟨z,k1.ok x1.2.1 _ zoI_⟩
def enumL (xs:List α):List (Int×α):=(List.range xs.length).zip xs |>.map fun q=>((q.1:Int),q.2)
theorem zbu_ (xs:List α)(i:Nat):(enumL xs)[i]?=(xs[i]?).map fun x=>((i:Int),x):=by
 unfold enumL
 rw [List.getElem?_map]
 cases e:xs[i]? with
 | none =>
  have:=List.getElem?_eq_none_iff.mp e
  rw [List.getElem?_eq_none (by rw [List.length_zip,List.length_range]; lia)]; rfl
 | some x =>
  have hi:=(List.getElem?_eq_some_iff.mp e).1
  have:((List.range xs.length).zip xs)[i]?=some (i,x):=List.getElem?_zip_eq_some.mpr ⟨by rw [List.getElem?_range hi],e⟩
  rw [this]; rfl
theorem zbi_ (xs:List α):(enumL xs).length=xs.length:=by unfold enumL; rw [List.length_map,List.length_zip,List.length_range,Nat.min_self]
def compM (f:α->Mo (Option β)):List α->List β->Mo (List β)
 | [],acc=>.ok acc
 | x::xs,acc=>(f x).bind fun o=>match o with | none=>compM f xs acc | some y=>.lim (acc.length+1) (compM f xs (acc++[y]))
theorem z6_ {f:α->Mo (Option β)}{g:α->β}:∀ {xs:List α}{acc:List β},(∀ x∈xs,f x=.ok (some (g x)))->acc.length+xs.length<=100000->compM f xs acc=.ok (acc++xs.map g)
 | [],acc,_,_=>by unfold compM; rw [List.map_nil,List.append_nil]
 | x::xs,acc,h,hl=>by
  rw [List.length_cons] at hl
  unfold compM
  rw [h x List.mem_cons_self,Mo.ok_bind]
  show Mo.lim _ _=_
  rw [Mo.lim_ok (by lia),z6_ (fun y hy=>h y (List.mem_cons_of_mem _ hy)) (by rw [List.length_append,List.length_singleton]; lia)]
  simp
def cL (lv:List Str)(fr:List (Str×Nat))(L:List Sl):List Sl:=lv.map (fun _=>Sl.dead)++fr.map fun q=>(L[q.2]?).getD .dead
theorem ziJ_ {lv:List Str}{fr:List (Str×Nat)}{σ:St}(h:HoldF L σ F):HoldF (cL lv fr L) (cS lv fr σ) F:=by
 intro i s e
 unfold cL at e
 unfold cS
 by_cases hi:i<lv.length
 ·rw [List.getElem?_append_left (by rw [List.length_map]; exact hi),List.getElem?_map,List.getElem?_eq_getElem hi] at e
  cases e; trivial
 ·rw [List.getElem?_append_right (by rw [List.length_map]; lia),List.length_map,List.getElem?_map] at e
  rw [List.getElem?_append_right (by rw [List.length_map]; lia),List.length_map,List.getElem?_map]
  cases z:fr[i-lv.length]? with
  | none=>rw [z] at e; cases e
  | some q =>
   rw [z] at e
   have e:(L[q.2]?).getD .dead=s:=by simpa using e
   show Sl.Z s (σ[q.2]?).join F
   cases y:L[q.2]? with
   | none=>rw [y] at e; rw [<- e]; trivial
   | some t=>rw [y] at e; cases e; exact h _ _ y
theorem zmL_ {lv:List Str}{fr:List (Str×Nat)}{σ:St}:(cL lv fr L).length=(cS lv fr σ).length:=by unfold cL cS; simp
def cond1 (c:Mo Bool)(f:Mo β):Mo (Option β):=(c.bind fun b=>if b then f.bind fun y=>.ok (some y) else .ok none).noex
theorem zaQ_ {lv:List Str}{fr:List (Str×Nat)}{wi:TI}{g:TG}{tt:TT}{te:TE}{r:Mo (List α)}{ss:α->List (Nat×Sl)}{c:α->Mo Bool}{f:α->Mo β}{T':Ty β}
  (hi:EvI K wi E L r T) (hg:TgR K g T ss) (hd:∀ a,DeadAt (cL lv fr L) ((ss a).map (·.1))) (ht:∀ a,EvT K tt E0 (setL (cL lv fr L) (ss a)) (c a)) (he:∀ a,EvF K te E0 (setL (cL lv fr L) (ss a)) (f a) T'):
  EvO K (tComp lv fr wi g tt te) E L (r.bind fun xs=>compM (fun x=>cond1 (c x) (f x)) xs []) (owL T'):=by
 intro σ F0 H0 Q hL hs q
 refine hi σ F0 H0 _ hL hs (q.bind.imp fun xs F1 H1 x1 k1 J Y D hD=>?_)
 have ni:=hL.mono x1.1
 refine ⟨fun i m ys ai H'=>m=xs.length-i/\i<=xs.length/\∃ acc Fi,Ext F1 H1 Fi H'/\Fi D=none/\H' D=some (.lst ys)/\Prs T' Fi acc ys/\HoldF (cL lv fr L) ai F1/\ai.length=(cL lv fr L).length/\After K (compM (fun x=>cond1 (c x) (f x)) (xs.drop i) acc) E F1 H1 (OwnK (owL T') H0 Q),
  ⟨_,rfl,Nat.zero_le _,[],F1,.heap x1.2.1 (zeD_ hD _),x1.2.1.free hD,zD_,.nil,ziJ_ ni,zmL_.symm,k1⟩,?_⟩
 rintro i m ys ai H' ⟨rfl,hi,acc,Fi,xi,hDi,hy,hp,hσ,fE,A⟩
 by_cases ay:i<xs.length
 ·right
  have ex:xs[i]?=some xs[i]:=List.getElem?_eq_getElem ay
  obtain ⟨g1,g2⟩:=Y.go i H' xs[i] (xi.1.trans xi.2.1) ex
  refine ⟨g1,fun fO eG kL=>i+1<=xs.length/\∃ acc Fi,Ext F1 H1 Fi kL/\Fi D=none/\kL D=some (.lst fO)/\Prs T' Fi acc fO/\HoldF (cL lv fr L) eG F1/\eG.length=(cL lv fr L).length/\After K (compM (fun x=>cond1 (c x) (f x)) (xs.drop (i+1)) acc) E F1 H1 (OwnK (owL T') H0 Q),fun fO eG kL z=>⟨xs.length-(i+1),by omega,rfl,z⟩,fun v H2 mE=>?_⟩
  obtain ⟨F2,x2,hv⟩:=g2 v H2 mE Fi xi.1 xi.2.1
  have keep:∀ {Fa Ha Fb Hb:Hp},Ext Fa Ha Fb Hb->Fa D=none->Ha D=some (.lst ys)->Fb D=none/\Hb D=some (.lst ys):=by
   intro Fa Ha Fb Hb x h1 h2
   refine ⟨?_,x.2.2.1 _ _ h2⟩
   cases z:Fb D with
   | none=>rfl
   | some o=>have:=x.2.2.2 D h1 (by rw [z]; exact sN _); rw [h2] at this; cases this
  obtain ⟨nk,hy2⟩:=keep x2 hDi hy
  refine hg xs[i] v ai F2 H2 _ x2.2.1 hv fun vs aB=>?_
  have gO:HoldF (cL lv fr L) ai F2:=hσ.mono (xi.1.trans x2.1)
  obtain ⟨a1,a2,a3⟩:=zia_ aB fE.symm gO
  have gN:HoldF (cL lv fr L) (setS ai vs) F1:=by
   have eE:=hd xs[i]
   refine fun j s e=>?_
   have h1:=zjK_ aB fE.symm eE gO
   by_cases hj:∃ q∈(ss xs[i]).map (·.1),q=j
   ·obtain ⟨q,hq,rfl⟩:=hj
    rw [eE q hq s e]; trivial
   ·have:((setS ai vs)[j]?)=ai[j]?:=by
     exact znd_ aB (fun hq=>hj ⟨j,hq,rfl⟩)
    rw [this]; exact hσ j s e
  have ia:xs.drop i=xs[i]::xs.drop (i+1):=List.drop_eq_getElem_cons ay
  rw [ia] at A
  unfold compM at A
  cases ec:c xs[i] with
  | no=>unfold cond1 at A; rw [ec] at A; exact A.elim
  | ex cc=>unfold cond1 at A; rw [ec] at A; exact A.elim
  | ok bb =>
   refine ht xs[i] _ F2 H2 _ a1 x2.2.1 ?_
   rw [ec]
   intro F3 H3 x3
   obtain ⟨lJ,hy3⟩:=keep x3 nk hy2
   have kQ:=(xi.trans x2).trans x3
   cases bb with
   | false =>
    rw [if_neg (by decide)]
    refine ⟨ay,acc,F3,kQ,lJ,hy3,hp.mono (x2.1.trans x3.1),gN,by rw [a2]; exact fE,?_⟩
    unfold cond1 at A; rw [ec] at A
    exact A
   | true =>
    rw [if_pos rfl]
    cases ef:f xs[i] with
    | no=>unfold cond1 at A; rw [ec,ef] at A; exact A.elim
    | ex cc=>unfold cond1 at A; rw [ec,ef] at A; exact A.elim
    | ok y =>
     unfold cond1 at A; rw [ec,ef] at A
     have A':After K (Mo.lim (acc.length+1) (compM (fun x=>cond1 (c x) (f x)) (xs.drop (i+1)) (acc++[y]))) E F1 H1 (OwnK (owL T') H0 Q):=A
     obtain ⟨hz,A'⟩:=A'.lim
     refine he xs[i] _ F3 H3 _ (a1.mono x3.1) x3.2.1 ?_
     rw [ef]
     intro F4 H4 x4 v4 et
     obtain ⟨lI,hy4⟩:=keep x4 lJ hy3
     have hlen:=hp.len
     refine ⟨hy4,by omega,ay,acc++[y],F4,?_,lI,zD_,(hp.mono ((x2.1.trans x3.1).trans x4.1)).append (.cons et .nil),gN,by rw [a2]; exact fE,A'⟩
     have iA:=kQ.trans x4
     refine ⟨iA.1,fun b o z=>?_,fun b o z=>?_,iA.2.2.2⟩
     ·unfold upd; split
      ·rename_i w; rw [w,lI] at z; cases z
      ·exact iA.2.1 _ _ z
     ·unfold upd; split
      ·rename_i w; rw [w,hD] at z; cases z
      ·exact iA.2.2.1 _ _ z
 ·left
  have e:i=xs.length:=by omega
  subst e
  refine ⟨Y.stop H' (xi.1.trans xi.2.1),?_⟩
  rw [List.drop_length] at A
  have A':OwnK (owL T') H0 Q acc Fi H':=A Fi H' xi
  exact zlh_ (x1.2.2.1.free hD) hy hDi hp A'
end
inductive Out (ρ B S:Type) where
 | nx (s:S) | rt (r:ρ) | bk (b:B) | ct (b:B)
def Okk (F0 H0 F h H:Hp):Prop:=Ext F0 H0 F H/\Dj F h/\Same h H/\(∀ p,h p≠none->H0 p=none)/\∀ p xs,h p≠some (.tup xs)
section
variable {K:Fgg}{E:XK}{α γ ρ S S' B:Type}{F0 H0 F h H:Hp}{L:List Sl}{e e1 e2:TE}{T:Ty α}{r:Mo α}{O:Own ρ}
def Fin (K:Fgg)(r:Mo (Out ρ B S))(E:XK)(LS:S->List Sl)(LB:B->List Sl)(O:Own ρ)(F0 H0:Hp)(D:Ends):Prop:=match r with
 | .ok (.nx s)=>∀ σ F h H,Hold (LS s) σ F h->Okk F0 H0 F h H->D.nx σ H
 | .ok (.bk b)=>∀ σ F h H,Hold (LB b) σ F h->Okk F0 H0 F h H->D.bk σ H
 | .ok (.ct b)=>∀ σ F h H,Hold (LB b) σ F h->Okk F0 H0 F h H->D.ct σ H
 | .ok (.rt a)=>∀ v F h H,Okk F0 H0 F h H->O.O a v F h->D.rt v H
 | .ex c=>∀ F h H,Okk F0 H0 F h H->Tell K E c H0 F H
 | .no=>False
def EvS (K:Fgg)(t:TS)(E:XK)(L:List Sl)(r:Mo (Out ρ B S))(LS:S->List Sl)(LB:B->List Sl)(O:Own ρ):Prop:=
 ∀ F0 H0 σ F h H (D:Ends),Hold L σ F h->Okk F0 H0 F h H->Fin K r E LS LB O F0 H0 D->t D σ H
variable {t u:TS}{LS:S->List Sl}{l7:S'->List Sl}{LB:B->List Sl}
def thenO (r:Mo (Out ρ B S))(k:S->Mo (Out ρ B S')):Mo (Out ρ B S'):=r.bind fun o=>match o with | .nx s=>k s | .rt a=>.ok (.rt a) | .bk b=>.ok (.bk b) | .ct b=>.ok (.ct b)
theorem zbp_ {r:Mo (Out ρ B S)}{k:S->Mo (Out ρ B S')}(h1:EvS K t E L r LS LB O)(h2:∀ s,EvS K u E (LS s) (k s) l7 LB O):EvS K (tSeq t u) E L (thenO r k) l7 LB O:=by
 intro F0 H0 σ F h H D hL ok fin
 refine h1 F0 H0 σ F h H { D with nx:=u D } hL ok ?_
 cases r with
 | no=>exact fin
 | ex c=>exact fin
 | ok o =>
  cases o with
  | nx s=>exact fun σ F h H hL ok=>h2 s F0 H0 σ F h H D hL ok fin
  | rt a=>exact fin
  | bk b=>exact fin
  | ct b=>exact fin
theorem Okk.thaw (ok:Okk F0 H0 F h H):Same (un F h) H:=fun p o e=>by
 unfold un at e
 cases z:F p with
 | some w=>rw [z] at e; cases e; exact ok.1.2.1 _ _ z
 | none=>rw [z] at e; exact ok.2.2.1 _ _ e
def less (G h:Hp):Hp:=fun p=>match h p with | none=>G p | some _=>none
theorem zbw_ {G h:Hp}{p:Addr}(e:h p=none):less G h p=G p:=by unfold less; rw [e]
theorem Okk.back (ok:Okk F0 H0 F h H){G' H':Hp}(x:Ext (un F h) H G' H'):Okk F0 H0 (less G' h) h H'/\Same F (less G' h)/\Tups G' (less G' h):=by
 obtain ⟨o1,o2,o3,o4,o5⟩:=ok
 have hs:Same F (less G' h):=fun p o e=>by
  have hp:h p=none:=by
   rcases o2 p with z | z
   ·rw [z] at e; cases e
   ·exact z
  rw [zbw_ hp]; exact x.1 _ _ (zda_ _ _ e)
 refine ⟨⟨⟨o1.1.trans hs,fun p o e=>?_,o1.2.2.1.trans x.2.2.1,fun p a b=>?_⟩,fun p=>?_,fun p o e=>?_,o4,o5⟩,hs,fun p xs e=>?_⟩
 ·unfold less at e
  split at e
  ·exact x.2.1 _ _ e
  ·cases e
 ·unfold less at b
  split at b
  ·rename_i z
   cases y:un F h p with
   | none=>exact o1.2.2.1.free (x.2.2.2 p y b)
   | some o =>
    unfold un at y
    cases w:F p with
    | some _=>exact o1.2.2.2 p a (by rw [w]; exact sN _)
    | none=>rw [w,z] at y; cases y
  ·exact absurd rfl b
 ·unfold less
  cases z:h p with
  | none=>exact .inr rfl
  | some o=>exact .inl rfl
 ·exact x.2.1 _ _ (x.1 _ _ (zfQ_ o2 _ _ e))
 ·unfold less
  cases z:h p with
  | none=>exact e
  | some o =>
   have:=x.1 _ _ (zfQ_ o2 _ _ z)
   rw [e] at this; cases this
   exact absurd z (o5 p xs)
theorem Tell.back {x:Xc}(ok:Okk F0 H0 F h H){G' H':Hp}(y:Ext (un F h) H G' H')(t:Tell K E x H0 (less G' h) H'):Tell K E x H G' H':=by
 cases x with
 | pl c=>exact t
 | «at» c as =>
  refine fun dx fs e q r=>t dx fs (ok.1.2.2.1.free e) ?_ (r.imm (ok.back y).2.2)
  rw [zbw_ (ok.2.2.1.free e)]; exact q
theorem zao_ {r:Mo α}{k:α->Mo (Out ρ B S)}{G:Hp}{D:Ends}{kk:α->Hp->Hp->Prop}(ok:Okk F0 H0 F h H)(G1:Hp)(hG:G1=un F h\/G1=F)(fin:Fin K (r.bind k) E LS LB O F0 H0 D)
  (hk:∀ a F' H',r=.ok a->Ext G1 H F' H'->kk a F' H'):After K r E G1 H kk:=by
 cases r with
 | ok a=>exact fun F' H' x=>hk a F' H' rfl x
 | no=>exact fin
 | ex c =>
  intro F' H' x
  rcases hG with rfl | rfl
  ·exact (fin _ _ _ (ok.back x).1).back ok x
  ·refine Tell.up ok.1.2.2.1 (fin F' h H' ⟨ok.1.trans x,fun p=>?_,ok.2.2.1.trans x.2.2.1,ok.2.2.2.1,ok.2.2.2.2⟩)
   cases z:h p with
   | none=>exact .inr rfl
   | some o =>
    left
    rcases ok.2.1 p with y | y
    ·cases w:F' p with
     | none=>rfl
     | some o'=>have:=x.2.2.2 p y (by rw [w]; exact sN _); rw [ok.2.2.1 _ _ z] at this; cases this
    ·rw [y] at z; cases z
theorem Okk.cold (ok:Okk F0 H0 F h H){F' H':Hp}(x:Ext F H F' H'):Okk F0 H0 F' h H':=by
 refine ⟨ok.1.trans x,fun p=>?_,ok.2.2.1.trans x.2.2.1,ok.2.2.2.1,ok.2.2.2.2⟩
 cases z:h p with
 | none=>exact .inr rfl
 | some o =>
  left
  rcases ok.2.1 p with y | y
  ·cases w:F' p with
   | none=>rfl
   | some o'=>have:=x.2.2.2 p y (by rw [w]; exact sN _); rw [ok.2.2.1 _ _ z] at this; cases this
  ·rw [y] at z; cases z
theorem zc8_ {i:Nat}{s:Sl}{σ:St}{a:α}{v:V}(hi:L[i]?=some s)(hL:Hold L σ F h)(hv:T.R a v F):Hold (L.set i (.fz T a)) (σ.set i (some v)) F h:=by
 obtain ⟨o,h1,h2,_,j,_,f⟩:=hL.at i hi
 exact f (.fz T a) (some v) h1 h j ⟨v,rfl,hv⟩
theorem zhU_ {i:Nat}{s:Sl}{σ:St}{a:α}{v:V}{O1:Own α}{hn:Hp}(ok:Okk F0 H0 F h H)(hi:L[i]?=some s)(hL:Hold L σ F h)(fresh:∀ p,hn p≠none->H0 p=none)(dj:Dj F hn)(dh:Dj hn h)(hs:Same hn H)(hv:O1.O a v F hn):
  ∃ h',Hold (L.set i (.ow O1 a)) (σ.set i (some v)) F h'/\Okk F0 H0 F h' H:=by
 obtain ⟨o,h1,h2,_,j,_,f⟩:=hL.at i hi
 have d2:Dj hn h2:=fun p=>by
  rcases dh p with z | z
  ·exact .inl z
  ·exact .inr (j.r.free z)
 refine ⟨un hn h2,f (.ow O1 a) (some v) hn _ (zfO_ d2) ⟨v,rfl,hv⟩,ok.1,fun p=>?_,fun p o e=>?_,fun p e=>?_,fun p xs e=>?_⟩
 ·unfold un
  cases z:hn p with
  | some w =>
   rcases dj p with y | y
   ·exact .inl y
   ·rw [y] at z; cases z
  | none =>
   rcases ok.2.1 p with y | y
   ·exact .inl y
   ·exact .inr (j.r.free y)
 ·unfold un at e
  cases z:hn p with
  | some w=>rw [z] at e; cases e; exact hs _ _ z
  | none=>rw [z] at e; exact ok.2.2.1 _ _ (j.r _ _ e)
 ·unfold un at e
  cases z:hn p with
  | some w=>exact fresh p (by rw [z]; exact sN _)
  | none =>
   rw [z] at e
   cases y:h2 p with
   | none=>exact absurd y e
   | some w=>exact ok.2.2.2.1 p (by rw [j.r _ _ y]; exact sN _)
 ·unfold un at e
  cases z:hn p with
  | some w=>rw [z] at e; cases e; exact O1.notup hv p xs z
  | none=>rw [z] at e; exact ok.2.2.2.2 p xs (j.r _ _ e)
theorem zdg_ {i:Nat}{s:Sl}{k:α->Mo (Out ρ B S)}(hi:L[i]?=some s)(hT:Imm T)(he:EvF K e E L r T)(hk:∀ a,EvS K u E (L.set i (.fz T a)) (k a) LS LB O):EvS K (tSeq (tAsg e (gName i)) u) E L (r.bind k) LS LB O:=by
 intro F0 H0 σ F h H D hL ok fin
 refine he σ (un F h) H _ (hL.froz ok.2.1) ok.thaw (zao_ (G:=F) ok _ (.inl rfl) fin fun a F' H' hr x v hv=>?_)
 obtain ⟨o,hs,ht⟩:=ok.back x
 rw [hr] at fin
 exact hk a F0 H0 _ _ h H' D (zc8_ hi (hL.mono hs) (hT ht hv)) o fin
theorem zqt_ {i:Nat}{s:Sl}{k:α->Mo (Out ρ B S)}(hi:L[i]?=some s)(he:EvF K e E (L.map Sl.cold) r T)(hk:∀ a,EvS K u E (L.set i (.fz T a)) (k a) LS LB O):EvS K (tSeq (tAsg e (gName i)) u) E L (r.bind k) LS LB O:=by
 intro F0 H0 σ F h H D hL ok fin
 refine he σ F H _ hL.coldF ok.1.2.1 (zao_ (G:=F) ok _ (.inr rfl) fin fun a F' H' hr x v hv=>?_)
 rw [hr] at fin
 exact hk a F0 H0 _ _ h H' D (zc8_ hi (hL.mono x.1) hv) (ok.cold x) fin
theorem zpz_ {hn h:Hp}(hh:Same h H)(fresh:∀ p,hn p≠none->H p=none):Dj hn h:=fun p=>by
 cases z:hn p with
 | none=>exact .inl rfl
 | some w =>
  have:=fresh p (by rw [z]; exact sN _)
  exact .inr (hh.free this)
theorem zbC_ {i:Nat}{s:Sl}{O1:Own α}{k:α->Mo (Out ρ B S)}(hi:L[i]?=some s)(hO:ImmO O1)(he:EvO K e E L r O1)(hk:∀ a,EvS K u E (L.set i (.ow O1 a)) (k a) LS LB O):EvS K (tSeq (tAsg e (gName i)) u) E L (r.bind k) LS LB O:=by
 intro F0 H0 σ F h H D hL ok fin
 refine he σ (un F h) H _ (hL.froz ok.2.1) ok.thaw (zao_ (G:=F) ok _ (.inl rfl) fin fun a F' H' hr x v hn fresh dj cO hv=>?_)
 obtain ⟨o,hs,ht⟩:=ok.back x
 rw [hr] at fin
 have nz:Dj (less F' h) hn:=fun p=>by
  unfold less
  cases z:h p with
  | none=>exact dj p
  | some w=>exact .inl rfl
 obtain ⟨h',a1,a2⟩:=zhU_ o hi (hL.mono hs) (fun p z=>ok.1.2.2.1.free (fresh p z)) nz (zpz_ ok.2.2.1 fresh) cO (hO ht hv)
 exact hk a F0 H0 _ _ h' H' D a1 a2 fin
theorem zff_ {i:Nat}{s:Sl}{O1:Own α}{k:α->Mo (Out ρ B S)}(hi:L[i]?=some s)(he:EvO K e E (L.map Sl.cold) r O1)(hk:∀ a,EvS K u E (L.set i (.ow O1 a)) (k a) LS LB O):EvS K (tSeq (tAsg e (gName i)) u) E L (r.bind k) LS LB O:=by
 intro F0 H0 σ F h H D hL ok fin
 refine he σ F H _ hL.coldF ok.1.2.1 (zao_ (G:=F) ok _ (.inr rfl) fin fun a F' H' hr x v hn fresh dj cO hv=>?_)
 rw [hr] at fin
 obtain ⟨h',a1,a2⟩:=zhU_ (ok.cold x) hi (hL.mono x.1) (fun p z=>ok.1.2.2.1.free (fresh p z)) dj (zpz_ ok.2.2.1 fresh) cO hv
 exact hk a F0 H0 _ _ h' H' D a1 a2 fin
theorem zaK_ {α:Type}{l:List α}{i:Nat}{o:α}(h:l[i]?=some o):l.set i o=l:=by
 obtain ⟨hi,e⟩:=List.getElem?_eq_some_iff.mp h
 rw [<- e]; exact List.set_getElem_self hi
theorem zfS_ {i:Nat}{O1:Own α}{a:α}{r:Mo (Out ρ B S)}(hi:L[i]?=some (.ow O1 a))(hk:EvS K u E (L.set i (.fz O1.fr a)) r LS LB O):EvS K u E L r LS LB O:=by
 intro F0 H0 σ F h H D hL ok fin
 obtain ⟨o,h1,h2,e1,j,⟨v,e2,hv⟩,f⟩:=hL.at i hi
 obtain ⟨o1,o2,o3,o4,o5⟩:=ok
 have ny:Dj F h1:=fun p=>by
  rcases o2 p with z | z
  ·exact .inl z
  ·exact .inr (j.l.free z)
 have nv:Dj F h2:=fun p=>by
  rcases o2 p with z | z
  ·exact .inl z
  ·exact .inr (j.r.free z)
 have g1:Hold (L.set i (.dead)) σ F h2:=by
  have:=f .dead o (fun _=>none) h2 (fun p=>.inl ⟨rfl,rfl⟩) trivial
  rwa [zaK_ e1] at this
 have g2:Hold (L.set i (.fz O1.fr a)) σ (un F h1) h2:=by
  have g3:=g1.mono (zda_ (h:=h1))
  have cu:(L.set i Sl.dead)[i]?=some .dead:=by
   rw [List.getElem?_set_self]
   exact (List.getElem?_eq_some_iff.mp hi).1
  have:=zc8_ (T:=O1.fr) cu g3 (O1.frz ny hv)
  rw [List.set_set] at this
  subst e2
  rwa [zaK_ e1] at this
 refine hk F0 H0 σ _ h2 H D g2 ⟨⟨o1.1.trans zda_,fun p o e=>?_,o1.2.2.1,fun p a b=>?_⟩,fun p=>?_,j.r.trans o3,fun p z=>?_,fun p xs e=>o5 p xs (j.r _ _ e)⟩ fin
 ·unfold un at e
  cases z:F p with
  | some w=>rw [z] at e; cases e; exact o1.2.1 _ _ z
  | none=>rw [z] at e; exact o3 _ _ (j.l _ _ e)
 ·unfold un at b
  cases z:F p with
  | some w=>exact o1.2.2.2 p a (by rw [z]; exact sN _)
  | none =>
   rw [z] at b
   cases y:h1 p with
   | none=>exact absurd y b
   | some w=>exact o4 p (by rw [j.l _ _ y]; exact sN _)
 ·unfold un
  cases z:F p with
  | some w =>
   rcases nv p with y | y
   ·rw [y] at z; cases z
   ·exact .inr y
  | none=>exact j.dj p
 ·cases y:h2 p with
  | none=>exact absurd y z
  | some w=>exact o4 p (by rw [j.r _ _ y]; exact sN _)
theorem zbD_ {r:Mo ρ}(hO:ImmO O)(he:EvO K e E L r O):EvS K (tRet e) E L (r.bind fun a=>.ok (.rt a)) LS LB O:=by
 intro F0 H0 σ F h H D hL ok fin
 refine he σ (un F h) H _ (hL.froz ok.2.1) ok.thaw (zao_ (G:=F) ok _ (.inl rfl) fin fun a F' H' hr x v hn fresh dj cO hv=>?_)
 obtain ⟨o,hs,ht⟩:=ok.back x
 rw [hr] at fin
 refine fin v _ hn H' ⟨o.1,fun p=>?_,cO,fun p z=>ok.1.2.2.1.free (fresh p z),O.notup hv⟩ (hO ht hv)
 unfold less
 cases z:h p with
 | none=>exact dj p
 | some w=>exact .inl rfl
theorem zkp_ {r:Mo ρ}(he:EvO K e E (L.map Sl.cold) r O):EvS K (tRet e) E L (r.bind fun a=>.ok (.rt a)) LS LB O:=by
 intro F0 H0 σ F h H D hL ok fin
 refine he σ F H _ hL.coldF ok.1.2.1 (zao_ (G:=F) ok _ (.inr rfl) fin fun a F' H' hr x v hn fresh dj cO hv=>?_)
 rw [hr] at fin
 exact fin v _ hn H' ⟨ok.1.trans x,dj,cO,fun p z=>ok.1.2.2.1.free (fresh p z),O.notup hv⟩ hv
theorem zki_ {i:Nat}{a:ρ}(hi:L[i]?=some (.ow O a)):EvS K (tRet (mVar i)) E L (.ok (.rt a)) LS LB O:=by
 intro F0 H0 σ F h H D hL ok fin
 obtain ⟨o,h1,h2,e1,j,⟨v,e2,hv⟩,f⟩:=hL.at i hi
 subst e2
 show mVar i σ H D.rt
 unfold mVar
 rw [e1]
 obtain ⟨o1,o2,o3,o4,o5⟩:=ok
 refine fin v F h1 H ⟨o1,fun p=>?_,j.l.trans o3,fun p z=>?_,O.notup hv⟩ hv
 ·rcases o2 p with z | z
  ·exact .inl z
  ·exact .inr (j.l.free z)
 ·cases y:h1 p with
  | none=>exact absurd y z
  | some w=>exact o4 p (by rw [j.l _ _ y]; exact sN _)
theorem s_if {c:TT}{b:Mo Bool}{r1 r2:Mo (Out ρ B S)}(hc:EvT K c E L b)(h1:EvS K t E L r1 LS LB O)(h2:EvS K u E L r2 LS LB O):EvS K (mIfS c t u) E L (b.bind fun c=>if c then r1 else r2) LS LB O:=by
 intro F0 H0 σ F h H D hL ok fin
 refine hc σ (un F h) H _ (hL.froz ok.2.1) ok.thaw (zao_ (G:=F) ok _ (.inl rfl) fin fun a F' H' hr x=>?_)
 obtain ⟨o,hs,ht⟩:=ok.back x
 rw [hr] at fin
 have bF:Fin K (if a then r1 else r2) E LS LB O F0 H0 D:=fin
 refine ⟨fun z=>?_,fun z=>?_⟩
 ·rw [if_pos z] at bF; exact h1 F0 H0 σ _ h H' D (hL.mono hs) o bF
 ·rw [if_neg (by rw [z]; decide)] at bF; exact h2 F0 H0 σ _ h H' D (hL.mono hs) o bF
inductive Sub:List Sl->List Sl->Prop
 | nil:Sub [] []
 | same {s:Sl}{L L':List Sl}(h:Sub L L'):Sub (s::L) (s::L')
 | dead {s:Sl}{L L':List Sl}(h:Sub L L'):Sub (s::L) (.dead::L')
theorem Sub.hold {L L':List Sl}(w:Sub L L'):∀ {σ:St}{F h:Hp},Hold L σ F h->Hold L' σ F h:=by
 induction w with
 | nil=>exact fun h=>h
 | same _ ih =>
  intro σ F h q
  cases σ with
  | nil=>exact q.elim
  | cons o σ=>obtain ⟨h1,h2,j,p,r⟩:=q; exact ⟨h1,h2,j,p,ih r⟩
 | dead _ ih =>
  intro σ F h q
  cases σ with
  | nil=>exact q.elim
  | cons o σ=>obtain ⟨h1,h2,j,p,r⟩:=q; exact ⟨h1,h2,j,trivial,ih r⟩
theorem zp_ {s:S}(w:Sub L (LS s)):EvS K tNext E L (.ok (.nx s)) LS LB O:=fun F0 H0 σ F h H D hL ok fin=>fin σ F h H (w.hold hL) ok
theorem zoL_ {b:B}(w:Sub L (LB b)):EvS K tCont E L (.ok (.ct b)) LS LB O:=fun F0 H0 σ F h H D hL ok fin=>fin σ F h H (w.hold hL) ok
theorem zcf_ {r:Mo (Out ρ B S)}(h:EvS K (tSeq t tNext) E L r LS LB O):EvS K t E L r LS LB O:=h
def forO (step:S->α->Mo (Out ρ S S)):List α->S->Mo (Out ρ B S)
 | [],s=>.ok (.nx s)
 | x::xs,s=>(step s x).bind fun o=>match o with | .nx s'=>forO step xs s' | .ct s'=>forO step xs s' | .bk s'=>.ok (.nx s') | .rt a=>.ok (.rt a)
theorem zgk_ {ss:List (Nat×Sl)}{vs:List (Nat×Option V)}(p:Plain F ss vs):∀ {L:List Sl}{σ:St},Hold L σ F h->Hold (setL L ss) (setS σ vs) F h:=by
 induction p with
 | nil=>exact fun h=>h
 | cons hv t ih =>
  rename_i T a i v ss vs
  intro L σ q
  refine ih (L:=L.set i (.fz T a)) (σ:=σ.set i (some v)) ?_
  by_cases hi:i<L.length
  ·exact zc8_ (List.getElem?_eq_getElem hi) q hv
  ·rw [List.set_eq_of_length_le (by lia),List.set_eq_of_length_le (by have:=q.len; lia)]; exact q
theorem Okk.rebase {F1 H1:Hp}(x:Ext F0 H0 F1 H1)(ok:Okk F0 H0 F h H)(s:Same F1 F):Okk F1 H0 F h H:=by
 obtain ⟨o1,o2,o3,o4,o5⟩:=ok
 refine ⟨⟨s,o1.2.1,o1.2.2.1,fun p a b=>o1.2.2.2 p (x.1.free a) b⟩,o2,o3,o4,o5⟩
theorem Okk.unbase {F1 H1:Hp}(x:Ext F0 H0 F1 H1)(ok:Okk F1 H0 F h H):Okk F0 H0 F h H:=by
 obtain ⟨o1,o2,o3,o4,o5⟩:=ok
 refine ⟨⟨x.1.trans o1.1,o1.2.1,o1.2.2.1,fun p a b=>?_⟩,o2,o3,o4,o5⟩
 cases z:F1 p with
 | none=>exact o1.2.2.2 p z b
 | some w=>exact x.2.2.2 p a (by rw [z]; exact sN _)
theorem zgH_ {wi:TI}{g:TG}{tb:TS}{s0:S}{r:Mo (List α)}{ss:α->List (Nat×Sl)}{step:S->α->Mo (Out ρ S S)}(hi:EvI K wi E ((LS s0).map Sl.cold) r T)(hg:TgR K g T ss)
  (hb:∀ s a,EvS K tb E (setL (LS s) (ss a)) (step s a) LS LS O):EvS K (tFor wi g tb) E (LS s0) (r.bind fun xs=>forO step xs s0) LS LB O:=by
 intro F0 H0 σ F h H D hL ok fin
 refine hi σ F H _ hL.coldF ok.1.2.1 (zao_ (G:=F) ok _ (.inr rfl) fin fun xs F1 H1 hr x1 J Y=>?_)
 rw [hr] at fin
 have xx:=ok.1.trans x1
 refine ⟨fun i m σ H=>m=xs.length-i/\i<=xs.length/\∃ s F h,Hold (LS s) σ F h/\Okk F1 H0 F h H/\Fin K (forO (B:=B) step (xs.drop i) s) E LS LB O F0 H0 D,
  ⟨_,rfl,Nat.zero_le _,s0,F1,h,hL.mono x1.1,(ok.cold x1).rebase xx (Same.refl _),fin⟩,?_⟩
 rintro i m σ H ⟨rfl,hi,s,F,h,hL,ok,fin⟩
 have s1:Same F1 H:=ok.1.1.trans ok.1.2.1
 by_cases ay:i<xs.length
 ·right
  obtain ⟨g1,g2⟩:=Y.go i H xs[i] s1 (List.getElem?_eq_getElem ay)
  refine ⟨g1,fun ai H'=>i+1<=xs.length/\∃ s F h,Hold (LS s) ai F h/\Okk F1 H0 F h H'/\Fin K (forO (B:=B) step (xs.drop (i+1)) s) E LS LB O F0 H0 D,fun ai H' z=>⟨xs.length-(i+1),by omega,rfl,z⟩,fun v H2 hy=>?_⟩
  obtain ⟨F2,x2,hv⟩:=g2 v H2 hy F ok.1.1 ok.1.2.1
  refine hg xs[i] v σ F2 H2 _ x2.2.1 hv fun vs hp=>?_
  refine hb s xs[i] F1 H0 _ F2 h H2 _ (zgk_ hp (hL.mono x2.1)) (ok.cold x2) ?_
  rw [List.drop_eq_getElem_cons ay] at fin
  unfold forO at fin
  cases e:step s xs[i] with
  | no=>rw [e] at fin; exact fin
  | ex c=>rw [e] at fin; exact fun F h H ok=>fin F h H (ok.unbase xx)
  | ok o =>
   rw [e] at fin
   cases o with
   | nx s'=>exact fun ai F' h' H' bY gw=>⟨ay,s',F',h',bY,gw,fin⟩
   | ct s'=>exact fun ai F' h' H' bY gw=>⟨ay,s',F',h',bY,gw,fin⟩
   | bk s'=>exact fun ai F' h' H' bY gw=>fin ai F' h' H' bY (gw.unbase xx)
   | rt a=>exact fun v F h H ok=>fin v F h H (ok.unbase xx)
 ·left
  have e:i=xs.length:=by omega
  subst e
  rw [List.drop_length] at fin
  exact ⟨Y.stop H s1,fin σ F h H hL (ok.unbase xx)⟩
theorem zfJ_ {i:Nat}{σ:St}{xs:List α}(hL:Hold L σ F h)(hi:L[i]?=some (.ow (owL T) xs))(ok:Okk F0 H0 F h H):
  ∃ p vs,σ[i]?=some (some (.ref p))/\H p=some (.lst vs)/\Prs T F xs vs/\∀ bU a_,Prs T F bU a_->∃ h',Hold (L.set i (.ow (owL T) bU)) σ F h'/\Okk F0 H0 F h' (upd H p (.lst a_)):=by
 obtain ⟨o,h1,h2,e1,j,⟨v,e2,p,vs,rfl,rfl,hr⟩,f⟩:=hL.at i hi
 subst e2
 obtain ⟨o1,o2,o3,o4,o5⟩:=ok
 have hp:h p=some (.lst vs):=j.l _ _ zx_
 have j9:h2 p=none:=by
  rcases j.dj p with z | z
  ·rw [zx_] at z; cases z
  ·exact z
 have Fp:F p=none:=by
  rcases o2 p with z | z
  ·exact z
  ·rw [hp] at z; cases z
 have iw:H0 p=none:=o4 p (by rw [hp]; exact sN _)
 refine ⟨p,vs,e1,o3 _ _ hp,hr,fun bU a_ bo=>?_⟩
 have d2:Dj (one p (.lst a_)) h2:=fun q=>by
  unfold one; split
  ·rename_i z; rw [z]; exact .inr j9
  ·exact .inl rfl
 have g:=f (.ow (owL T) bU) (some (.ref p)) (one p (.lst a_)) _ (zfO_ d2) ⟨_,rfl,p,a_,rfl,rfl,bo⟩
 rw [zaK_ e1] at g
 refine ⟨_,g,⟨o1.1,fun q o z=>?_,fun q o z=>?_,o1.2.2.2⟩,fun q=>?_,fun q o z=>?_,fun q z=>?_,fun q ys z=>?_⟩
 ·unfold upd; split
  ·rename_i w; rw [w,Fp] at z; cases z
  ·exact o1.2.1 _ _ z
 ·unfold upd; split
  ·rename_i w; rw [w,iw] at z; cases z
  ·exact o1.2.2.1 _ _ z
 ·by_cases w:q=p
  ·rw [w]; exact .inl Fp
  ·unfold un one; simp only [if_neg w]
   rcases o2 q with z | z
   ·exact .inl z
   ·exact .inr (j.r.free z)
 ·unfold un one at z
  unfold upd
  by_cases w:q=p
  ·rw [if_pos w]; simp only [if_pos w] at z; exact z
  ·rw [if_neg w]; simp only [if_neg w] at z; exact o3 _ _ (j.r _ _ z)
 ·unfold un one at z
  by_cases w:q=p
  ·rw [w]; exact iw
  ·simp only [if_neg w] at z
   cases y:h2 q with
   | none=>exact absurd y z
   | some u=>exact o4 q (by rw [j.r _ _ y]; exact sN _)
 ·unfold un one at z
  by_cases w:q=p
  ·simp only [if_pos w] at z; cases z
  ·simp only [if_neg w] at z; exact o5 q ys (j.r _ _ z)
theorem zcr_ {i:Nat}{σ:St}{v:V}{Q:VK}(e:σ[i]?=some (some v))(q:Q v H):mVar i σ H Q:=by unfold mVar; rw [e]; exact q
theorem zeV_ {n:Nat}{r:Mo (Out ρ B S)}{D:Ends}(h:Fin K (Mo.lim n r) E LS LB O F0 H0 D):n<=sizeLine/\Fin K r E LS LB O F0 H0 D:=by
 unfold Mo.lim at h
 split at h
 ·exact ⟨by assumption,h⟩
 ·exact h.elim
theorem zjY_ {x:Option α}{k:α->Mo (Out ρ B S)}{D:Ends}(h:Fin K ((Mo.opt x).bind k) E LS LB O F0 H0 D):∃ a,x=some a/\Fin K (k a) E LS LB O F0 H0 D:=by
 cases x with
 | none=>exact h.elim
 | some a=>exact ⟨a,rfl,h⟩
theorem zjn_ {i:Nat}{xs:List α}{k:α->Mo (Out ρ B S)}(hi:L[i]?=some (.ow (owL T) xs))(hT:Imm T)(he:EvF K e E L r T)(hk:∀ a,EvS K u E (L.set i (.ow (owL T) (xs++[a]))) (k a) LS LB O):
  EvS K (tSeq (tDrop (tBM K "list" rAppend (mVar i) (tCons e tNil))) u) E L (r.bind fun a=>.lim (xs.length+1) (k a)) LS LB O:=by
 intro F0 H0 σ F h H D hL ok fin
 obtain ⟨p,vs,e1,hp,hr,_⟩:=zfJ_ hL hi ok
 show mVar i σ H fun x H1=>tyV K "list" x H1/\tCons e tNil σ H1 fun xs H2=>rAppend x xs H2 (fun _ H3=>u D σ H3)
 refine zcr_ e1 ⟨.inl ⟨rfl,vs,.of hp⟩,?_⟩
 refine he σ (un F h) H _ (hL.froz ok.2.1) ok.thaw (zao_ (G:=F) ok _ (.inl rfl) fin fun a F' H' cp x v hv=>?_)
 obtain ⟨o,hs,ht⟩:=ok.back x
 rw [cp] at fin
 obtain ⟨hz,fin⟩:=zeV_ (show Fin K (Mo.lim (xs.length+1) (k a)) E LS LB O F0 H0 D from fin)
 obtain ⟨p',a_,aG,hp',bo,mm⟩:=zfJ_ (hL.mono hs) hi o
 rw [e1] at aG; cases aG
 obtain ⟨h',a1,a2⟩:=mm (xs++[a]) (a_++[v]) (bo.append (.cons (hT ht hv) .nil))
 exact ⟨p,a_,v,rfl,rfl,hp',by rw [<- bo.len]; lia,hk a F0 H0 σ _ h' _ D a1 a2 fin⟩
theorem zgJ_ {i:Nat}{xs:List α}{r:Mo (List α)}{k:List α->Mo (Out ρ B S)}(hi:L[i]?=some (.ow (owL T) xs))(hT:Imm T)(he:EvF K e E L r (tyL T))(hk:∀ a,EvS K u E (L.set i (.ow (owL T) (xs++a))) (k a) LS LB O):
  EvS K (tSeq (tDrop (tBM K "list" rExtend (mVar i) (tCons e tNil))) u) E L (r.bind fun a=>.lim (xs.length+a.length) (k a)) LS LB O:=by
 intro F0 H0 σ F h H D hL ok fin
 obtain ⟨p,vs,e1,hp,hr,_⟩:=zfJ_ hL hi ok
 show mVar i σ H fun x H1=>tyV K "list" x H1/\tCons e tNil σ H1 fun xs H2=>rExtend x xs H2 (fun _ H3=>u D σ H3)
 refine zcr_ e1 ⟨.inl ⟨rfl,vs,.of hp⟩,?_⟩
 refine he σ (un F h) H _ (hL.froz ok.2.1) ok.thaw (zao_ (G:=F) ok _ (.inl rfl) fin fun a F' H' cp x v af=>?_)
 obtain ⟨p2,us,ev,hp2,cP⟩:=af
 obtain ⟨o,hs,ht⟩:=ok.back x
 rw [cp] at fin
 subst ev
 obtain ⟨hz,fin⟩:=zeV_ (show Fin K (Mo.lim (xs.length+a.length) (k a)) E LS LB O F0 H0 D from fin)
 obtain ⟨p',a_,aG,hp',bo,mm⟩:=zfJ_ (hL.mono hs) hi o
 rw [e1] at aG; cases aG
 obtain ⟨h',a1,a2⟩:=mm (xs++a) (a_++us) (bo.append (cP.imm hT ht))
 exact ⟨p,p2,a_,us,rfl,rfl,hp',x.2.1 _ _ hp2,by rw [<- bo.len,<- cP.len]; exact hz,hk a F0 H0 σ _ h' _ D a1 a2 fin⟩
theorem zar_ {k:α->Mo (Out ρ B S)}(he:EvF K e E L r T)(hk:∀ a,EvS K u E L (k a) LS LB O):EvS K (tSeq (tDrop e) u) E L (r.bind k) LS LB O:=by
 intro F0 H0 σ F h H D hL ok fin
 refine he σ (un F h) H _ (hL.froz ok.2.1) ok.thaw (zao_ (G:=F) ok _ (.inl rfl) fin fun a F' H' hr x v hv=>?_)
 obtain ⟨o,hs,ht⟩:=ok.back x
 rw [hr] at fin
 exact hk a F0 H0 σ _ h H' D (hL.mono hs) o fin
def fnO (r:Mo (Out ρ Unit Unit)):Mo ρ:=r.bind fun o=>match o with | .rt a=>.ok a | _=>.no
inductive Args (F:Hp):List V->List Sl->Prop
 | nil:Args F [] []
 | cons {α:Type}{T:Ty α}{a:α}{v:V}{vs ss} (h:T.R a v F) (t:Args F vs ss):Args F (v::vs) (.fz T a::ss)
theorem Args.hold {vs:List V}{ss:List Sl}(a:Args F vs ss)(n:Nat):Hold (ss++List.replicate n .dead) (vs.map some++List.replicate n none) F (fun _=>none):=by
 induction a with
 | nil =>
  induction n with
  | zero=>trivial
  | succ n ih=>exact ⟨fun _=>none,fun _=>none,fun p=>.inl ⟨rfl,rfl⟩,trivial,ih⟩
 | cons hv t ih=>exact ⟨fun _=>none,fun _=>none,fun p=>.inl ⟨rfl,rfl⟩,⟨_,rfl,hv⟩,ih⟩
def CsS (C:Cs γ)(ss:γ->List Sl):Prop:=∀ {c vs F},C.R c vs F->Args F vs (ss c)
theorem zq_:CsS (csLast T) fun a=>[.fz T a]:=fun ⟨v,e,h⟩=>by rw [e]; exact .cons h .nil
theorem zN_ {C:Cs γ}{ss:γ->List Sl}(h:CsS C ss):CsS (csCons T C) fun c=>.fz T c.1::ss c.2:=fun ⟨v,us,e,q,z⟩=>by rw [e]; exact .cons q (h z)
theorem zhT_ (hs:Same F H):Okk F H F (fun _=>none) H:=by
 refine ⟨.refl hs,fun p=>.inr rfl,fun p o e=>?_,fun p e=>absurd rfl e,fun p xs e=>?_⟩
 ·cases e
 ·cases e
theorem zqP_ {t:XK->TS}{C:Cs γ}{ss:γ->List Sl}{f:γ->Mo (Out ρ Unit Unit)}{N:List Str}(n m:Nat)(hn:CsN C n)(hm:N.length-n=m)(hC:CsS C ss)(h:∀ c E,EvS K (t E) E (ss c++List.replicate m .dead) (f c) (fun _:Unit=>[]) (fun _:Unit=>[]) O):
  ∀ vs H Q E,Ct K C (fun c=>fnO (f c)) O vs H Q E->t E { nx:=fun _ H'=>Q .non H',rt:=Q } (start N vs) H:=by
 rintro vs H Q E ⟨F,c,hs,hc,q⟩
 have aU:start N vs=vs.map some++List.replicate m none:=by unfold start; rw [hn hc,hm]
 rw [aU]
 refine h c E F H _ F (fun _=>none) H _ ((hC hc).hold m) (zhT_ hs) ?_
 have q:After K (fnO (f c)) E F H (OwnK O H Q):=q
 cases e:f c with
 | no=>rw [e] at q; exact q
 | ex cc=>rw [e] at q; exact fun F h H ok=>q F H ok.1
 | ok o =>
  rw [e] at q
  cases o with
  | nx s=>exact q.elim
  | bk s=>exact q.elim
  | ct s=>exact q.elim
  | rt a=>exact fun v F' h' H' ok hv=>q F' H' ok.1 v h' (fun p z=>ok.2.2.2.1 p z) ok.2.1 ok.2.2.1 hv
end
section
variable {K:Fgg}{E:XK}{α γ ρ S B:Type}{F0 H0 F h H:Hp}{L L':List Sl}{e:TE}{T:Ty α}{r:Mo α}{O:Own ρ}{t:TS}{LS:S->List Sl}{LB:B->List Sl}
def CDivG (i j:Int):Prop:=0<j/\Builtin.divisionGoesByPylong i j=false
instance (i j:Int):Decidable (CDivG i j):=inferInstanceAs (Decidable (_/\_))
instance (i j:Int):Decidable (IntMulOk i j):=inferInstanceAs (Decidable (¬ _))
abbrev mMulG:R2:=mI IntMulOk fun i j=>.int (i*j)
abbrev mDivG:R2:=mI CDivG fun i j=>.int (i / j)
theorem zpb_ {X:Cx}:OpR X (binaryOp .Mult) mMulG:=opM (opI fun _ _ _ _ _ _ _ hc q=>mul_int q hc)
theorem zau_ {X:Cx}:OpR X (binaryOp .FloorDiv) mDivG:=opM (opI fun i j _ _ _ _ _ hc q=>by
 have h1:(0:Int)<j:=hc.1
 exact floordiv_int (by lia) (by rw [Int.fdiv_eq_ediv_of_nonneg i (by lia)]; exact q) (.inl hc.2))
theorem z4_:Op2 K mDivG E tyInt tyInt (fun i j=>.grd (CDivG i j) (.ok (i / j))) tyInt:=op_i fun _ _ _=>rfl
theorem zpq_ {Pq:α->Prop}{a:α}{l:List α}(h:Pq a)(t:∀ q∈l,Pq q):∀ q∈a::l,Pq q:=List.forall_mem_cons.mpr ⟨h,t⟩
theorem zj1_:EvS K t E L (.no:Mo (Out ρ B S)) LS LB O:=fun _ _ _ _ _ _ _ _ _ fin=>fin.elim
theorem zbI_ {r:Mo (Out ρ B S)}(w:Sub L L')(hk:EvS K t E L' r LS LB O):EvS K t E L r LS LB O:=fun F0 H0 σ F h H D hL ok fin=>hk F0 H0 σ F h H D (w.hold hL) ok fin
theorem at_ {r:Mo (Out ρ B S)}(L:List Sl)(hk:EvS K t E L r LS LB O):EvS K t E L r LS LB O:=hk
theorem zaM_:EvT K tTrue E L (.ok true):=fun σ F H Q hL hs q=>q.ok hs
theorem dead1 {L:List Sl}:DeadAt (.dead::L) [0]:=fun i hi s e=>by
 cases (List.mem_singleton.mp hi); cases e; rfl
theorem dead2 {L:List Sl}:DeadAt (.dead::.dead::L) [0,1]:=fun i hi s e=>by
 rcases List.mem_cons.mp hi with rfl | hi
 ·cases e; rfl
 ·cases (List.mem_singleton.mp hi); cases e; rfl
theorem nn_l {a:List α}{v:V}{F:Hp}(h:(tyL T).R a v F):v≠.non:=by obtain ⟨p,vs,rfl,_⟩:=h; exact fun z=>V.noConfusion z
theorem zdN_ {C:Cs γ}{a:γ}{v:V}{F:Hp}(h:(tyTup C).R a v F):v≠.non:=by obtain ⟨p,vs,rfl,_⟩:=h; exact fun z=>V.noConfusion z
end
section
variable {α β ρ S S' B:Type}
@[simp] theorem Mo.okB (a:α) (f:α->Mo β):(Mo.ok a).bind f=f a:=of_eq_true (eq_self _)
@[simp] theorem Mo.exB (c:Xc) (f:α->Mo β):(Mo.ex c:Mo α).bind f=.ex c:=of_eq_true (eq_self _)
@[simp] theorem Mo.noB (f:α->Mo β):(Mo.no:Mo α).bind f=.no:=of_eq_true (eq_self _)
@[simp] theorem Mo.noexO (a:α):(Mo.ok a).noex=.ok a:=of_eq_true (eq_self _)
@[simp] theorem Mo.optS (a:α):Mo.opt (some a)=.ok a:=of_eq_true (eq_self _)
@[simp] theorem zcz_ (s:S) (k:S->Mo (Out ρ B S')):thenO (.ok (.nx s)) k=k s:=of_eq_true (eq_self _)
@[simp] theorem zmA_ (a:ρ) (k:S->Mo (Out ρ B S')):thenO (.ok (.rt a)) k=.ok (.rt a):=of_eq_true (eq_self _)
@[simp] theorem zmw_ (b:B) (k:S->Mo (Out ρ B S')):thenO (.ok (.bk b)) k=.ok (.bk b):=of_eq_true (eq_self _)
@[simp] theorem znf_ (b:B) (k:S->Mo (Out ρ B S')):thenO (.ok (.ct b)) k=.ok (.ct b):=of_eq_true (eq_self _)
@[simp] theorem zq6_ (a:ρ):fnO (.ok (.rt a))=.ok a:=of_eq_true (eq_self _)
@[simp] theorem zlT_ (step:S->α->Mo (Out ρ S S)) (s:S):forO (B:=B) step [] s=.ok (.nx s):=of_eq_true (eq_self _)
theorem zhJ_ (step:S->α->Mo (Out ρ S S))(x:α)(xs:List α)(s:S):forO (B:=B) step (x::xs) s=(step s x).bind fun o=>match o with | .nx s'=>forO step xs s' | .ct s'=>forO step xs s' | .bk s'=>.ok (.nx s') | .rt a=>.ok (.rt a):=rfl
theorem zeC_ {step:S->α->Mo (Out ρ S S)}{x:α}{xs:List α}{s s':S}(h:step s x=.ok (.nx s')):forO (B:=B) step (x::xs) s=forO step xs s':=by rw [zhJ_,h]; rfl
theorem zjB_ {step:S->α->Mo (Out ρ S S)}(P:List α->S->Prop):∀ {xs:List α}(done:List α) {s:S},P done s->(∀ d x s,(∃ r,done++xs=d++x::r)->P d s->∃ s',step s x=.ok (.nx s')/\P (d++[x]) s')->∃ s',forO (B:=B) step xs s=.ok (.nx s')/\P (done++xs) s'
 | [],done,s,h0,_=>⟨s,rfl,by rw [List.append_nil]; exact h0⟩
 | x::xs,done,s,h0,h=>by
  obtain ⟨s1,e1,p1⟩:=h done x s ⟨xs,rfl⟩ h0
  obtain ⟨s2,e2,p2⟩:=zjB_ P (xs:=xs) (done++[x]) p1 fun d y s ⟨r,hr⟩ hp=>h d y s ⟨r,by rw [<- hr]; simp⟩ hp
  exact ⟨s2,by rw [zeC_ e1,e2],by simpa using p2⟩
theorem zcC_ {step:Unit->α->Mo (Out ρ Unit Unit)}:∀ {xs:List α},(∀ x∈xs,step () x=.ok (.nx ()))->forO (B:=B) step xs ()=.ok (.nx ())
 | [],_=>rfl
 | x::xs,h=>by rw [zeC_ (h x List.mem_cons_self),zcC_ fun y hy=>h y (List.mem_cons_of_mem _ hy)]
open PySem PySem.Spec PyProof.Rows in
theorem znB_ {a j:Int}(h0:0<j)(h:j.natAbs.log2<9000):CDivG a j:=by
 refine ⟨h0,?_⟩
 unfold Builtin.divisionGoesByPylong
 simp only
 rw [Bool.and_eq_false_iff]
 left
 rw [decide_eq_false_iff_not]
 split<;>lia
theorem log2_lt {n k:Nat}(h:n<2 ^ k):n.log2<k\/n=0:=by
 by_cases hz:n=0
 ·exact .inr hz
 ·exact .inl ((Nat.log2_lt hz).mpr h)
theorem zo0_ {a j:Int}(h0:0<j)(h:j<2 ^ 1000):CDivG a j:=by
 refine znB_ h0 ?_
 have h1:j.natAbs<2 ^ 1000:=by
  have:((2:Int) ^ 1000)=((2 ^ 1000:Nat):Int):=by rw [Int.natCast_pow]; rfl
  rw [this] at h
  lia
 rcases log2_lt h1 with h | h
 ·lia
 ·rw [h]; decide
open PySem PySem.Spec PyProof.Rows in
theorem ziA_ {i j:Int}(h : -(2 ^ 64)<i/\i<2 ^ 64 \/ -(2 ^ 64)<j/\j<2 ^ 64):IntMulOk i j:=CMul.ok h
@[simp] theorem zlc_ {a j:Int}{k:Mo α}(h0:0<j) (h1:j<1073741824):Mo.grd (CDivG a j) k=k:=Mo.grd_ok (zo0_ h0 (by lia))
@[simp] theorem grd_T {k:Mo α} [Decidable True]:Mo.grd True k=k:=Mo.grd_ok trivial
@[simp] theorem znG_ {j:Int}{k:Mo α}(h0:0<j):Mo.grd (0<j) k=k:=Mo.grd_ok h0
open PySem PySem.Spec PyProof.Rows in
@[simp] theorem zfA_ {i j:Int}{k:Mo α}(h0 : -18446744073709551616<i) (h1:i<18446744073709551616):Mo.grd (IntMulOk i j) k=k:=Mo.grd_ok (ziA_ (.inl ⟨by lia,by lia⟩))
theorem zaj_ (lo:Int)(n:Nat):(rngI lo n).length=n:=by unfold rngI; rw [List.length_map,List.length_range]
theorem zg9_ {lo x:Int}{n:Nat}:x∈rngI lo n↔lo<=x/\x<lo+n:=by
 unfold rngI
 simp only [List.mem_map,List.mem_range]
 constructor
 ·rintro ⟨a,h,rfl⟩; lia
 ·rintro ⟨h1,h2⟩; exact ⟨(x-lo).toNat,by lia,by lia⟩
theorem zn2_ {xs:List α}{k:Int}(h0:0<=k):atI xs k=xs[k.toNat]?:=by
 unfold atI ixN
 rw [if_pos h0]
 split
 ·rfl
 ·rename_i h
  rw [List.getElem?_eq_none (by omega)]; rfl
theorem zd2_ {xs:List α}{k:Int}(h0:0<=k)(h1:k<xs.length):∃ x,atI xs k=some x/\x∈xs:=by
 rw [zn2_ h0,List.getElem?_eq_getElem (show k.toNat<xs.length by lia)]
 exact ⟨_,rfl,List.getElem_mem _⟩
theorem zjL_ {q:α->α->Bool}(hq:∀ a,q a a=true):∀ xs:List α,eqL q xs xs=true
 | []=>rfl
 | x::xs=>by unfold eqL; rw [hq,zjL_ hq xs]; rfl
end
section
variable {K:Fgg}{E:XK}{α ρ S B:Type}{F0 H0 F h H:Hp}{L:List Sl}{e e1 e2:TE}{T:Ty α}{r:Mo α}{O:Own ρ}{u:TS}{LS:S->List Sl}{LB:B->List Sl}
def OwIn (T:Ty α)(F:Hp):List (List α)->List V->Hp->Prop
 | [],[],h=>∀ p,h p=none
 | xs::ao,v::vs,h=>∃ h1 h2,Jn h1 h2 h/\(owL T).O xs v F h1/\OwIn T F ao vs h2
 | _,_,_=>False
theorem OwIn.mono:∀ {ao:List (List α)}{vs:List V}{F F' h:Hp},Same F F'->OwIn T F ao vs h->OwIn T F' ao vs h
 | [],[],_,_,_,_,q=>q
 | xs::ao,v::vs,F,F',h,g,⟨h1,h2,j,o,r⟩=>⟨h1,h2,j,(owL T).mono g o,r.mono g⟩
 | [],_::_,_,_,_,_,q=>q.elim
 | _::_,[],_,_,_,_,q=>q.elim
theorem OwIn.imm (i:Imm T):∀ {ao:List (List α)}{vs:List V}{F F' h:Hp},Tups F F'->OwIn T F ao vs h->OwIn T F' ao vs h
 | [],[],_,_,_,_,q=>q
 | xs::ao,v::vs,F,F',h,g,⟨h1,h2,j,o,r⟩=>⟨h1,h2,j,zag_ i g o,r.imm i g⟩
 | [],_::_,_,_,_,_,q=>q.elim
 | _::_,[],_,_,_,_,q=>q.elim
theorem OwIn.notup:∀ {ao:List (List α)}{vs:List V}{F h:Hp},OwIn T F ao vs h->∀ p xs,h p≠some (.tup xs)
 | [],[],_,_,q,p,xs=>by rw [q p]; exact fun z=>by cases z
 | xs::ao,v::vs,F,h,⟨h1,h2,j,o,r⟩,p,ys=>by
  rcases j p with ⟨_,b⟩ | ⟨_,b⟩
  ·rw [b]; exact r.notup p ys
  ·rw [b]; exact (owL T).notup o p ys
 | [],_::_,_,_,q,_,_=>q.elim
 | _::_,[],_,_,q,_,_=>q.elim
theorem OwIn.len:∀ {ao:List (List α)}{vs:List V}{F h:Hp},OwIn T F ao vs h->ao.length=vs.length
 | [],[],_,_,_=>rfl
 | xs::ao,v::vs,F,h,⟨h1,h2,j,o,r⟩=>by rw [List.length_cons,List.length_cons,r.len]
 | [],_::_,_,_,q=>q.elim
 | _::_,[],_,_,q=>q.elim
theorem OwIn.prs:∀ {ao:List (List α)}{vs:List V}{F h G:Hp},Same F G->Same h G->OwIn T F ao vs h->Prs (tyL T) G ao vs
 | [],[],_,_,_,_,_,_=>.nil
 | xs::ao,v::vs,F,h,G,gF,gh,⟨h1,h2,j,⟨p,us,e,z,q⟩,r⟩=>by
  refine .cons ⟨p,us,e,gh _ _ (j.l _ _ (by rw [z]; exact zx_)),q.mono gF⟩ (r.prs gF (j.r.trans gh))
 | [],_::_,_,_,_,_,_,q=>q.elim
 | _::_,[],_,_,_,_,_,q=>q.elim
abbrev owLL (T:Ty α):Own (List (List α)):=⟨fun ao v F h=>∃ p vs h2,v=.ref p/\Jn (one p (.lst vs)) h2 h/\OwIn T F ao vs h2,tyL (tyL T),fun g ⟨p,vs,h2,e,j,q⟩=>⟨p,vs,h2,e,j,q.mono g⟩,
 fun d ⟨p,vs,h2,e,j,q⟩=>⟨p,vs,e,zfQ_ d _ _ (j.l _ _ zx_),q.prs zda_ (j.r.trans (zfQ_ d))⟩,
 fun ⟨p,vs,h2,e,j,q⟩ b xs y=>by
  rcases j b with ⟨_,z⟩ | ⟨_,z⟩
  ·rw [z] at y; exact q.notup b xs y
  ·rw [z] at y; unfold one at y; split at y<;>cases y⟩
theorem zox_ (i:Imm T):ImmO (owLL T):=fun g ⟨p,vs,h2,e,j,q⟩=>⟨p,vs,h2,e,j,q.imm i g⟩
theorem zi6_ (i:Nat){xs:List (List α)}(h:L[i]?=some (.ow (owLL T) xs)):EvF K (mVar i) E L (.ok xs) (tyL (tyL T)):=zhM_ i h
theorem OwIn.at:∀ {ao:List (List α)}{vs:List V}{F h:Hp}(i:Nat) {xs:List α},OwIn T F ao vs h->ao[i]?=some xs ->
  ∃ p us h2,vs[i]?=some (.ref p)/\Jn (one p (.lst us)) h2 h/\Prs T F xs us/\∀ bU aJ h',Prs T F bU aJ->Jn (one p (.lst aJ)) h2 h'->OwIn T F (ao.set i bU) vs h'
 | [],_,_,_,_,_,_,e=>by cases e
 | xs::ao,[],_,_,_,_,q,_=>q.elim
 | xs::ao,v::vs,F,h,0,ys,⟨h1,h2,j,⟨p,us,ev,z,q⟩,r⟩,e=>by
  cases e
  subst ev z
  exact ⟨p,us,h2,rfl,j,q,fun bU aJ h' q' j'=>⟨_,h2,j',⟨p,aJ,rfl,rfl,q'⟩,r⟩⟩
 | xs::ao,v::vs,F,h,i+1,ys,⟨h1,h2,j,o,r⟩,e=>by
  obtain ⟨p,us,k2,e1,j1,q1,f⟩:=OwIn.at i r (by simpa using e)
  have d2:Dj h1 k2:=fun q=>by
   rcases j.dj q with a | a
   ·exact .inl a
   ·exact .inr (j1.r.free a)
  have nV:h1 p=none:=by
   rcases j.dj p with a | a
   ·exact a
   ·have:=j1.l p _ zx_; rw [a] at this; cases this
  refine ⟨p,us,un h1 k2,by simpa using e1,fun q=>?_,q1,fun bU aJ h' q' j'=>?_⟩
  ·rcases j q with ⟨a,b⟩ | ⟨a,b⟩
   ·rcases j1 q with ⟨c,d⟩ | ⟨c,d⟩
    ·refine .inl ⟨c,?_⟩; unfold un; rw [a,b,d]
    ·refine .inr ⟨?_,by rw [b,d]⟩; unfold un; rw [a,c]
   ·refine .inl ⟨j1.l.free a,?_⟩
    have:k2 q=none:=j1.r.free a
    unfold un; rw [b]
    cases h1 q with
    | none=>rw [this]
    | some u=>rfl
  ·have dd:Dj (one p (.lst aJ)) k2:=fun q=>by
    unfold one; split
    ·rename_i z; rw [z]
     rcases j1.dj p with a | a
     ·rw [zx_] at a; cases a
     ·exact .inr a
    ·exact .inl rfl
   refine ⟨h1,un (one p (.lst aJ)) k2,fun q=>?_,o,f bU aJ _ q' (zfO_ dd)⟩
   rcases j' q with ⟨a,b⟩ | ⟨a,b⟩
   ·unfold un at b ⊢
    rw [a]
    cases z:h1 q with
    | none=>rw [z] at b; exact .inl ⟨rfl,b⟩
    | some w =>
     rw [z] at b
     refine .inr ⟨?_,b⟩
     rcases d2 q with y | y
     ·rw [y] at z; cases z
     ·exact y
   ·unfold un at a
    cases z:h1 q with
    | some w=>rw [z] at a; cases a
    | none =>
     rw [z] at a
     refine .inl ⟨rfl,?_⟩
     unfold un; rw [b]
     cases one p (.lst aJ) q with
     | none=>exact a.symm
     | some w=>rfl
theorem zg5_ {n:Nat}{j:Int}{k:Nat}(h:ixN n j=some k):k<n:=by
 unfold ixN at h
 split at h
 ·split at h
  ·cases h; lia
  ·cases h
 ·split at h
  ·cases h; lia
  ·cases h
theorem zlj_ {p:Addr}{o':HO}{h1' hr h':Hp}(ok:Okk F0 H0 F h H)(hp:h p≠none)(nt:∀ xs,o'≠.tup xs)(h':Hp)(hh:∀ q,h' q=if q=p then some o' else h q):Okk F0 H0 F h' (upd H p o'):=by
 obtain ⟨o1,o2,o3,o4,o5⟩:=ok
 have Fp:F p=none:=by
  rcases o2 p with z | z
  ·exact z
  ·exact absurd z hp
 have iw:H0 p=none:=o4 p hp
 refine ⟨⟨o1.1,fun q o z=>?_,fun q o z=>?_,o1.2.2.2⟩,fun q=>?_,fun q o z=>?_,fun q z=>?_,fun q ys z=>?_⟩
 ·unfold upd; split
  ·rename_i w; rw [w,Fp] at z; cases z
  ·exact o1.2.1 _ _ z
 ·unfold upd; split
  ·rename_i w; rw [w,iw] at z; cases z
  ·exact o1.2.2.1 _ _ z
 ·rw [hh]; split
  ·rename_i w; rw [w]; exact .inl Fp
  ·exact o2 q
 ·rw [hh] at z; unfold upd
  split at z
  ·rename_i w; rw [if_pos w]; exact z
  ·rename_i w; rw [if_neg w]; exact o3 _ _ z
 ·rw [hh] at z; split at z
  ·rename_i w; rw [w]; exact iw
  ·exact o4 q z
 ·rw [hh] at z; split at z
  ·exact nt ys (by injection z)
  ·exact o5 q ys z
theorem zhE_ {i:Nat}{σ:St}{ao:List (List α)}{j:Nat}{xs:List α}(hL:Hold L σ F h)(hi:L[i]?=some (.ow (owLL T) ao))(hj:ao[j]?=some xs)(ok:Okk F0 H0 F h H):
  ∃ p vs q us,σ[i]?=some (some (.ref p))/\H p=some (.lst vs)/\ao.length=vs.length/\vs[j]?=some (.ref q)/\H q=some (.lst us)/\Prs T F xs us /\
   ∀ bU aJ,Prs T F bU aJ->∃ h',Hold (L.set i (.ow (owLL T) (ao.set j bU))) σ F h'/\Okk F0 H0 F h' (upd H q (.lst aJ)):=by
 obtain ⟨o,h1,h2,e1,jj,⟨v,e2,p,vs,k2,rfl,jk,inn⟩,f⟩:=hL.at i hi
 subst e2
 obtain ⟨q,us,m2,e3,jm,hr,g⟩:=inn.at j hj
 have lA:k2 q=some (.lst us):=jm.l _ _ zx_
 have dX:h1 q=some (.lst us):=jk.r _ _ lA
 have hq:h q=some (.lst us):=jj.l _ _ dX
 have hp:h p=some (.lst vs):=jj.l _ _ (jk.l _ _ zx_)
 refine ⟨p,vs,q,us,e1,ok.2.2.1 _ _ hp,inn.len,e3,ok.2.2.1 _ _ hq,hr,fun bU aJ bo=>?_⟩
 have pq:p≠q:=fun z=>by
  rcases jk.dj p with a | a
  ·rw [zx_] at a; cases a
  ·rw [z,lA] at a; cases a
 let k2':Hp:=fun b=>if b=q then some (.lst aJ) else k2 b
 let h1':Hp:=fun b=>if b=q then some (.lst aJ) else h1 b
 let h':Hp:=fun b=>if b=q then some (.lst aJ) else h b
 have j1:Jn (one q (.lst aJ)) m2 k2':=fun b=>by
  show _\/_
  by_cases z:b=q
  ·right
   have:m2 b=none:=by
    rcases jm.dj b with a | a
    ·rw [z,zx_] at a; cases a
    ·exact a
   refine ⟨this,?_⟩
   show (if b=q then _ else _)=one q _ b
   rw [if_pos z]; unfold one; rw [if_pos z]
  ·left
   refine ⟨by unfold one; rw [if_neg z],?_⟩
   show (if b=q then _ else _)=_
   rw [if_neg z]
   rcases jm b with ⟨_,c⟩ | ⟨a,c⟩
   ·exact c
   ·rw [c,a]; unfold one; rw [if_neg z]
 have j2:Jn (one p (.lst vs)) k2' h1':=fun b=>by
  by_cases z:b=q
  ·left
   refine ⟨by unfold one; rw [if_neg (fun y=>pq (by rw [<- y,z]))],?_⟩
   show (if b=q then _ else _)=(if b=q then _ else _)
   rw [if_pos z,if_pos z]
  ·rcases jk b with ⟨a,c⟩ | ⟨a,c⟩
   ·refine .inl ⟨a,?_⟩
    show (if b=q then _ else _)=(if b=q then _ else _)
    rw [if_neg z,if_neg z]; exact c
   ·refine .inr ⟨?_,?_⟩
    ·show (if b=q then _ else _)=_
     rw [if_neg z]; exact a
    ·show (if b=q then _ else _)=_
     rw [if_neg z]; exact c
 have j3:Jn h1' h2 h':=fun b=>by
  by_cases z:b=q
  ·right
   have:h2 b=none:=by
    rcases jj.dj b with a | a
    ·rw [z,dX] at a; cases a
    ·exact a
   refine ⟨this,?_⟩
   show (if b=q then _ else _)=(if b=q then _ else _)
   rw [if_pos z,if_pos z]
  ·rcases jj b with ⟨a,c⟩ | ⟨a,c⟩
   ·refine .inl ⟨?_,?_⟩
    ·show (if b=q then _ else _)=_
     rw [if_neg z]; exact a
    ·show (if b=q then _ else _)=_
     rw [if_neg z]; exact c
   ·refine .inr ⟨a,?_⟩
    show (if b=q then _ else _)=(if b=q then _ else _)
    rw [if_neg z,if_neg z]; exact c
 have gg:=f (.ow (owLL T) (ao.set j bU)) (some (.ref p)) h1' h' j3 ⟨_,rfl,p,vs,k2',rfl,j2,g bU aJ k2' bo j1⟩
 rw [zaK_ e1] at gg
 exact ⟨h',gg,zlj_ (h1':=h) (hr:=h) (h':=h) ok (by rw [hq]; exact sN _) (fun xs z=>by cases z) h' fun b=>rfl⟩
def appN (ao:List (List α))(j:Nat)(a:α):List (List α):=match ao[j]? with | some xs=>ao.set j (xs++[a]) | none=>ao
theorem zcR_ {i:Nat}{ao:List (List α)}{ei:TE}{ri:Mo Int}{k:Nat->α->Mo (Out ρ B S)}(hi:L[i]?=some (.ow (owLL T) ao))(hT:Imm T)(eD:EvF K ei E L ri tyInt)(he:EvF K e E L r T)(hk:∀ j a,EvS K u E (L.set i (.ow (owLL T) (appN ao j a))) (k j a) LS LB O):
  EvS K (tSeq (tDrop (tBM K "list" rAppend (tOp (mIx K) (mVar i) ei) (tCons e tNil))) u) E L (ri.bind fun j=>(Mo.opt (ixN ao.length j)).bind fun n=>r.bind fun a=>.lim ((ao[n]?.getD []).length+1) (k n a)) LS LB O:=by
 intro F0 H0 σ F h H D hL ok fin
 show mVar i σ H fun o nN=>ei σ nN fun y H1=>mIx K o y H1 fun x H1=>tyV K "list" x H1/\tCons e tNil σ H1 fun xs H2=>rAppend x xs H2 (fun _ H3=>u D σ H3)
 obtain ⟨o0,g1,g2,e0,_,⟨v0,e00,p0,vs0,_,rfl,_,_⟩,_⟩:=hL.at i hi
 subst e00
 refine zcr_ e0 ?_
 refine eD σ (un F h) H _ (hL.froz ok.2.1) ok.thaw (zao_ (G:=F) ok _ (.inl rfl) fin fun j F1 H1 jI x1 v1 bP=>?_)
 cases bP
 obtain ⟨o,hs,ht⟩:=ok.back x1
 rw [jI] at fin
 have bY:=hL.mono hs
 obtain ⟨n,en,fin⟩:=zjY_ fin
 have hn:=zg5_ en
 obtain ⟨p,vs,q,us,e1,hp,hlen,e3,hq,hr,_⟩:=zhE_ bY hi (List.getElem?_eq_getElem hn) o
 rw [e0] at e1; cases e1
 refine ⟨vs,.inl (.of hp),?_⟩
 have ea:atI vs j=some (.ref q):=by unfold atI; rw [<- hlen,en]; exact e3
 rw [ea]
 refine ⟨.inl ⟨rfl,us,.of hq⟩,?_⟩
 refine he σ (un _ h) H1 _ (bY.froz o.2.1) o.thaw (zao_ (G:=F) o _ (.inl rfl) fin fun a F2 H2 cp x2 v hv=>?_)
 obtain ⟨o',bR,fo⟩:=o.back x2
 rw [cp] at fin
 obtain ⟨hz,fin⟩:=zeV_ (show Fin K (Mo.lim ((ao[n]?.getD []).length+1) (k n a)) E LS LB O F0 H0 D from fin)
 obtain ⟨p',a_,q',aJ,aG,hp',hlen',du,cz,bo,mm⟩:=zhE_ (bY.mono bR) hi (List.getElem?_eq_getElem hn) o'
 rw [e0] at aG; cases aG
 have:a_=vs:=by
  have h1:=x2.2.2.1 _ _ hp
  rw [hp'] at h1; injection h1 with h1; injection h1
 subst this
 rw [e3] at du; cases du
 have:aJ=us:=by
  have h1:=x2.2.2.1 _ _ hq
  rw [cz] at h1; injection h1 with h1; injection h1
 subst this
 obtain ⟨h',a1,a2⟩:=mm (ao[n]++[a]) (aJ++[v]) (bo.append (.cons (hT fo hv) .nil))
 have ex:appN ao n a=ao.set n (ao[n]++[a]):=by unfold appN; rw [List.getElem?_eq_getElem hn]
 have iX:=hk n a
 rw [ex] at iX
 rw [List.getElem?_eq_getElem hn] at hz
 have hl:=bo.len
 exact ⟨q,aJ,v,rfl,rfl,cz,by simp only [Option.getD_some] at hz; lia,iX F0 H0 σ _ h' _ D a1 a2 fin⟩
@[irreducible] def fuelW:Nat:=100000
end
section
variable {α:Type}
theorem zcb_ {S B ρ:Type}{step:S->α->Mo (Out ρ S S)}{xs:List α}{s:S}{G:Mo (Out ρ B S)->Prop}(P:List α->S->Prop)(h0:P [] s)(hs:∀ d x s,(∃ r,xs=d++x::r)->P d s->∃ s',step s x=.ok (.nx s')/\P (d++[x]) s')(hk:∀ s',P xs s'->G (.ok (.nx s'))):G (forO step xs s):=by
 obtain ⟨s',e,p⟩:=zjB_ (B:=B) P (xs:=xs) [] h0 (fun d x s hr hp=>hs d x s hr hp)
 rw [e]
 exact hk s' p
end
abbrev Crd:=List Nat
def sg (c:Crd)(col:Int):Nat:=c.getD (col-1).toNat 0
def rk1 (x:Nat):Nat:=(SG.findIdx? (· == x)).getD 0 % 37
def rnk (c:Crd)(col:Int):Nat:=rk1 (sg c col)
def kv:List Int->Crd->Nat
 | [],_=>0
 | c::L,a=>rnk a c*37 ^ L.length+kv L a
open PySem.SeqAt
open PySem.AutoSeq1 (wpAny_loadPart')
open PySem.MeetsSeq PySem.MeetsSeq2 PySem.MeetsSeq3
section
variable {α:Type}
theorem ziq_ {n d:Nat}{i:Int}(h:0<=i):HT.sIx n d (some i)=min i.toNat n:=by
 unfold HT.sIx
 simp only
 split<;>lia
theorem zlv_ {xs:List α}{i:Int}(h:0<=i):cutG xs none (some i)=xs.take i.toNat:=by
 unfold cutG
 rw [ziq_ h,show HT.sIx xs.length 0 none=0 from rfl,List.drop_zero,Nat.sub_zero,<- List.take_take,List.take_length]
theorem zko_ {xs:List α}{i:Int}(h:0<=i):cutG xs (some i) none=xs.drop i.toNat:=by
 unfold cutG
 rw [ziq_ h,show HT.sIx xs.length xs.length none=xs.length from rfl]
 by_cases hl:i.toNat<=xs.length
 ·rw [Nat.min_eq_left hl,List.take_of_length_le (by rw [List.length_drop]; exact Nat.le_refl _)]
 ·rw [Nat.min_eq_right (by lia),List.drop_length,List.drop_eq_nil_of_le (by lia),List.take_nil]
theorem zhx_ {xs:List α}{q:Int×α}(h:q∈enumL xs):∃ i:Nat,i<xs.length/\q.1=i/\xs[i]?=some q.2:=by
 obtain ⟨i,hi,e⟩:=List.mem_iff_getElem.mp h
 rw [zbi_] at hi
 have:=zbu_ xs i
 rw [List.getElem?_eq_getElem (by rw [zbi_]; exact hi),e] at this
 refine ⟨i,hi,?_⟩
 cases e2:xs[i]? with
 | none=>rw [e2] at this; cases this
 | some x=>rw [e2] at this; injection this with this; rw [this]; exact ⟨rfl,rfl⟩
variable {K:Fgg}{E:XK}{γ:Type}{h:Hp}{L:List Sl}{T:Ty α}{r:Mo α}
theorem zz_ {C:Cs γ}{f:γ->Mo α}{ta:TA}{r:Mo γ}(h:EvA K ta E L r C):EvF K (tCall (Ct K C f (owF T)) [] E ta) E L (r.bind f) T:=(zon_ h).fr
theorem zm_ {C:Cs γ}{f:γ->Mo α}{ta:TA}{r:Mo γ}(h:EvA K ta E L r C):EvF K (tCall (Ct K C f (owF T)) [] E0 ta) E L (r.bind fun c=>(f c).noex) T:=(z9_ h).fr
end
def repL {α:Type}(xs:List α)(n:Int):List α:=(List.replicate n.toNat xs).flatten
def CRep (m:Nat)(n:Int):Prop:=0<=n/\n<=100000/\m<=100000/\m*n.toNat<=100000
instance (m:Nat) (n:Int):Decidable (CRep m n):=inferInstanceAs (Decidable (_/\_))
def mMulX:R2:=fun x y H Q=>match x,y with
 | .int i,.int j=>IntMulOk i j/\Q (.int (i*j)) H
 | .str z,.int n=>CRep z.cps.toList.length n/\Q (tx (repL z.cps.toList n)) H
 | .ref l,.int k=>∃ xs,H l=some (.lst xs)/\CRep xs.length k/\∀ p,H p=none->Q (.ref p) (upd H p (.lst (repL xs k)))
 | _,_=>False
theorem zld_ (z:Array Nat)(n:Nat):(List.foldl (fun x1 x2=>x1++x2) #[] (List.replicate n z)).toList=(List.replicate n z.toList).flatten:=by
 have:∀ (l:List (Array Nat)) (acc:Array Nat),(l.foldl (fun x1 x2=>x1++x2) acc).toList=acc.toList++(l.map Array.toList).flatten:=by
  intro l
  induction l with
  | nil=>intro acc; simp
  | cons a l ih=>intro acc; rw [List.foldl_cons,ih]; simp
 rw [this]
 simp
theorem zfg_ {X:Cx}:OpR X (binaryOp .Mult) mMulX:=by
 intro pins s σ H x y v u Q I rx ry h
 cases x<;>cases y<;>first
  | exact h.elim
  | exact zpb_ pins s σ H _ _ v u Q I rx ry h
  | (obtain ⟨xs,hl,⟨c1,c2,c3,c4⟩,q⟩:=h
     exact zqu_ pins s σ H _ _ v u Q I rx ry ⟨_,_,xs,rfl,rfl,hl,by lia,by lia,zcK_ c4,q⟩)
  | (rename_i z n
     obtain ⟨⟨c1,c2,c3,c4⟩,q⟩:=h
     obtain ⟨t,rfl⟩:=rx
     obtain ⟨t',rfl⟩:=ry
     have hz:z.length=z.cps.toList.length:=by simp [Str.length]
     refine PySem.P.mul_str (by simp; lia) (fun h1 h2=>?_) (fun h1 h2=>?_) ?_
     ·rw [hz]
      have hn:0<n:=by lia
      have:(z.cps.toList.length:Int)*n<=2 ^ 63-1:=by
       have e:n=(n.toNat:Int):=by lia
       rw [e,<- Int.natCast_mul]; lia
      have:=Int.le_ediv_of_mul_le hn this
      lia
     ·unfold Builtin.Str.tooLong
      rw [hz]
      have:=zcK_ c4
      exact decide_eq_false (by lia)
     ·by_cases h1:n<1
      ·rw [if_pos h1]
       have:n=0:=by lia
       subst this
       exact ⟨Nat.zero_le _,tx [],H,I.tok _,⟨_,rfl⟩,q⟩
      ·rw [if_neg h1]
       by_cases h2:(n == 1 || z.length == 0)=true
       ·rw [if_pos h2]
        have e:repL z.cps.toList n=z.cps.toList:=by
         unfold repL
         rw [Bool.or_eq_true] at h2
         rcases h2 with h2 | h2
         ·have:n=1:=by simpa using h2
          subst this; simp
         ·have:z.cps.toList=[]:=List.length_eq_zero_iff.mp (by rw [<- hz]; simpa using h2)
          rw [this]; simp
        rw [e] at q
        refine ⟨tx z.cps.toList,H,I,⟨t,?_⟩,q⟩
        show Value.str z t=Value.str ⟨z.cps.toList.toArray⟩ t
        rw [<- zcp_]
       ·rw [if_neg h2]
        refine ⟨?_,tx (repL z.cps.toList n),H,I.tok _,⟨s.toks,?_⟩,q⟩
        ·have e:(⟨List.foldl (fun x1 x2=>x1++x2) #[] (List.replicate n.toNat z.cps)⟩:Str).length=(List.replicate n.toNat z.cps.toList).flatten.length:=by
          rw [<- zld_]; simp [Str.length]
         rw [e,zlw_]
         exact zcK_ (by rw [Nat.mul_comm]; exact c4)
        show Value.str _ _=Value.str _ _
        congr 1
        unfold repL
        rw [<- zld_])
section
variable {K:Fgg}{E:XK}{α:Type}{F h H:Hp}{L:List Sl}{e e2:TE}{r:Mo α}{t:TS}
theorem zdd_:Op2 K mMulX E tyInt tyInt (fun i j=>.grd (IntMulOk i j) (.ok (i*j))) tyInt:=by
 rintro a b x y F H Q hs rfl rfl k
 obtain ⟨c,k⟩:=k.grd
 exact ⟨c,k.ok hs _ rfl⟩
def strsL (l:List (List Nat)):List Str:=l.map fun z=>⟨z.toArray⟩
theorem znm_ {l:List (List Nat)}{vs:List V}(h:Prs tyStr H l vs):strsOf vs=some (strsL l):=by
 induction h with
 | nil=>rfl
 | cons r t ih=>cases r; show (strsOf _).map _=_; rw [ih]; rfl
theorem zlq_:Me K (mJoin K) E (csLast (tyL tyStr)) (fun l c=>.grd (JoinOk ⟨l.toArray⟩ (strsL c)=true) (.ok (joinS l (strsL c)))) tyStr:=by
 rintro l c vs F H Q hs ⟨v,rfl,p,us,rfl,hp,hr⟩ k
 obtain ⟨z,k⟩:=k.grd
 refine ⟨us,.of (hs _ _ hp),?_⟩
 rw [znm_ hr]
 exact ⟨z,k.ok hs _ rfl⟩
abbrev Pas:=Int×Option (List Nat)
def passR (c:Pas)(v:V)(H:Hp):Prop:=∃ p,v=.ref p/\H p=some (.tup (match c.2 with | none=>[tx [100,101,97,108],.int c.1] | some s=>[tx [112,105,99,107],.int c.1,tx s]))
abbrev tyPass:Ty Pas:=⟨passR,fun g ⟨p,e,h⟩=>⟨p,e,g _ _ h⟩⟩
theorem zjA_:Imm tyPass:=fun g ⟨p,e,h⟩=>⟨p,e,g _ _ h⟩
theorem zpN_ {r:Mo Int}{r2:Mo (List Nat)}(h:EvF K e E L r tyInt)(h2:EvF K e2 E L r2 tyStr):EvF K (tTup (tCons (tC (tx [112,105,99,107])) (tCons e (tCons e2 tNil)))) E L (r.bind fun c=>r2.bind fun s=>.ok (c,some s)) tyPass:=by
 intro σ F H Q hL hs q
 refine h σ F H _ hL hs (q.bind.imp fun c F1 H1 x1 k1 v hv=>?_)
 refine h2 σ F1 H1 _ (hL.mono x1.1) x1.2.1 (k1.bind.imp fun s F2 H2 x2 k2 v2 aT=>⟨zcK_ (by show 3<=100000; decide),fun p hp=>?_⟩)
 cases hv; cases aT
 exact k2 _ _ (Ext.new x2.2.1 hp) _ ⟨p,rfl,zD_⟩
def pTag (c:Pas):List Nat:=match c.2 with | none=>[100,101,97,108] | some _=>[112,105,99,107]
theorem zmT_ {r:Mo Pas}(h:EvF K e E L r tyPass):EvF K (tOp (mIx K) e (tC (.int 0))) E L (r.bind fun c=>.ok (pTag c)) tyStr:=by
 intro σ F H Q hL hs q
 refine h σ F H _ hL hs (q.bind.imp fun c F1 H1 x1 k1 v af=>?_)
 obtain ⟨p,ev,hp⟩:=af
 subst ev
 refine ⟨_,.inr (.of (x1.2.1 _ _ hp)),?_⟩
 obtain ⟨c1,c2⟩:=c
 cases c2 with
 | none=>exact k1.ok x1.2.1 _ rfl
 | some s=>exact k1.ok x1.2.1 _ rfl
theorem zmx_ {r:Mo Pas}(h:EvF K e E L r tyPass):EvF K (tOp (mIx K) e (tC (.int 1))) E L (r.bind fun c=>.ok c.1) tyInt:=by
 intro σ F H Q hL hs q
 refine h σ F H _ hL hs (q.bind.imp fun c F1 H1 x1 k1 v af=>?_)
 obtain ⟨p,ev,hp⟩:=af
 subst ev
 refine ⟨_,.inr (.of (x1.2.1 _ _ hp)),?_⟩
 obtain ⟨c1,c2⟩:=c
 cases c2 with
 | none=>exact k1.ok x1.2.1 _ rfl
 | some s=>exact k1.ok x1.2.1 _ rfl
theorem zjt_ {r:Mo Pas}(h:EvF K e E L r tyPass):EvF K (tOp (mIx K) e (tC (.int 2))) E L (r.bind fun c=>.opt c.2) tyStr:=by
 intro σ F H Q hL hs q
 refine h σ F H _ hL hs (q.bind.imp fun c F1 H1 x1 k1 v af=>?_)
 obtain ⟨p,ev,hp⟩:=af
 subst ev
 obtain ⟨s,es,k1⟩:=k1.opt
 refine ⟨_,.inr (.of (x1.2.1 _ _ hp)),?_⟩
 obtain ⟨c1,c2⟩:=c
 cases (show c2=some s from es)
 exact k1.ok x1.2.1 _ rfl
end
structure KyT (κ:Type) where
 T:Ty κ
 key:κ->Key
 inj:∀ {a b},key a=key b->a=b
 of:∀ {a v H},T.R a v H->keyV v=some (key a)
abbrev kInt:KyT Int:=⟨tyInt,Sum.inl,fun h=>by injection h,fun h=>by cases h; rfl⟩
section
variable {K:Fgg}{E:XK}{α ρ κ S B:Type}{F0 H0 F h H:Hp}{L:List Sl}{e e1 e2:TE}{T:Ty α}{r:Mo α}{O:Own ρ}{t u:TS}{LS:S->List Sl}{LB:B->List Sl}{KY:KyT κ}
abbrev DPr (KY:KyT κ)(T:Ty α)(H:Hp)(m:List (κ×α))(kvs:List (Key×V)):Prop:=Paired (fun (q:κ×α) (w:Key×V)=>w.1=KY.key q.1/\T.R q.2 w.2 H) m kvs
theorem DPr.mono {m:List (κ×α)}{kvs:List (Key×V)}{H H':Hp}(g:Same H H')(h:DPr KY T H m kvs):DPr KY T H' m kvs:=zbf_ (fun _ _ r=>⟨r.1,T.mono g r.2⟩) h
theorem DPr.imm (i:Imm T){m:List (κ×α)}{kvs:List (Key×V)}{H H':Hp}(g:Tups H H')(h:DPr KY T H m kvs):DPr KY T H' m kvs:=zbf_ (fun _ _ r=>⟨r.1,i g r.2⟩) h
abbrev tyD (KY:KyT κ)(T:Ty α):Ty (List (κ×α)):=⟨fun m v H=>∃ p kvs,v=.ref p/\H p=some (.dK kvs)/\DPr KY T H m kvs,fun g ⟨p,kvs,e,h,q⟩=>⟨p,kvs,e,g _ _ h,q.mono g⟩⟩
abbrev owD (KY:KyT κ)(T:Ty α):Own (List (κ×α)):=⟨fun m v F h=>∃ p kvs,v=.ref p/\h=one p (.dK kvs)/\DPr KY T F m kvs,tyD KY T,fun g ⟨p,vs,e,z,q⟩=>⟨p,vs,e,z,q.mono g⟩,
 fun d ⟨p,vs,e,z,q⟩=>⟨p,vs,e,zfQ_ d _ _ (by rw [z]; exact zx_),q.mono zda_⟩,
 fun ⟨p,vs,e,z,q⟩ b xs y=>by rw [z] at y; unfold one at y; split at y<;>cases y⟩
theorem zod_ (i:Imm T):ImmO (owD KY T):=fun g ⟨p,vs,e,z,q⟩=>⟨p,vs,e,z,q.imm i g⟩
variable [DecidableEq κ]
def getA (m:List (κ×α))(k:κ):Option α:=(m.find? fun q=>decide (q.1=k)).map (·.2)
def putA (m:List (κ×α))(k:κ)(v:α):List (κ×α):=if (m.any fun q=>decide (q.1=k))=true then m.map (fun q=>if q.1=k then (q.1,v) else q) else m++[(k,v)]
theorem zlA_ (a b:κ):decide (KY.key a=KY.key b)=decide (a=b):=by rw [decide_eq_decide]; exact ⟨KY.inj,fun h=>by rw [h]⟩
theorem zjD_ {m:List (κ×α)}{kvs:List (Key×V)}(h:DPr KY T H m kvs)(k:κ):(getA m k=none/\valV kvs (KY.key k)=none)\/∃ a v,getA m k=some a/\valV kvs (KY.key k)=some v/\T.R a v H:=by
 induction h with
 | nil=>exact .inl ⟨rfl,rfl⟩
 | cons r t ih =>
  rename_i q w m kvs
  unfold getA valV at ih ⊢
  rw [List.find?_cons,List.find?_cons,r.1,zlA_]
  by_cases e:q.1=k
  ·rw [decide_eq_true e]; exact .inr ⟨_,_,rfl,rfl,r.2⟩
  ·rw [decide_eq_false e]; exact ih
theorem zpL_ {m:List (κ×α)}{kvs:List (Key×V)}(h:DPr KY T H m kvs)(k:κ):(kvs.any fun w=>decide (w.1=KY.key k))=m.any fun q=>decide (q.1=k):=by
 induction h with
 | nil=>rfl
 | cons r t ih=>rw [List.any_cons,List.any_cons,ih,r.1,zlA_]
theorem zoc_ {m m':List (κ×α)}{kvs aC:List (Key×V)}(h:DPr KY T H m kvs)(h':DPr KY T H m' aC):DPr KY T H (m++m') (kvs++aC):=by
 induction h with
 | nil=>exact h'
 | cons r t ih=>exact .cons r ih
theorem znY_ {m:List (κ×α)}{kvs:List (Key×V)}(h:DPr KY T H m kvs)(k:κ){a:α}{v:V}(hv:T.R a v H):DPr KY T H (m.map fun q=>if q.1=k then (q.1,a) else q) (kvs.map fun w=>if w.1=KY.key k then (w.1,v) else w):=by
 induction h with
 | nil=>exact .nil
 | cons r t ih =>
  rename_i q w m kvs
  rw [List.map_cons,List.map_cons]
  refine .cons ?_ ih
  by_cases e:q.1=k
  ·rw [if_pos e,if_pos (by rw [r.1,e])]; exact ⟨r.1,hv⟩
  ·rw [if_neg e,if_neg (fun z=>e (KY.inj (by rw [<- r.1,z])))]; exact r
theorem zlg_ {m:List (κ×α)}{kvs:List (Key×V)}(h:DPr KY T H m kvs)(k:κ){a:α}{v:V}(hv:T.R a v H):DPr KY T H (putA m k a) (putK kvs (KY.key k) v):=by
 unfold putA putK
 rw [zpL_ h]
 split
 ·exact znY_ h k hv
 ·exact zoc_ h (.cons ⟨rfl,hv⟩ .nil)
theorem zla_ (KY:KyT κ)(T:Ty α):EvO K tDNewK E L (.ok []) (owD KY T):=by
 intro σ F H Q hL hs q p hp
 have q':OwnK (owD KY T) H Q [] F (upd H p (.dK [])):=q F _ (.heap hs (zeD_ hp _))
 refine q' (.ref p) (one p (.dK [])) (fun b z=>?_) (fun b=>?_) (fun b o z=>?_) ⟨p,[],rfl,rfl,.nil⟩
 ·unfold one at z; split at z
  ·rename_i e; rw [e]; exact hp
  ·exact absurd rfl z
 ·unfold one; split
  ·rename_i e; rw [e]; exact .inl (hs.free hp)
  ·exact .inr rfl
 ·unfold one at z; split at z
  ·rename_i e; rw [e]; cases z; exact zD_
  ·cases z
theorem ziZ_ (i:Nat){m:List (κ×α)}(h:L[i]?=some (.ow (owD KY T) m)):EvF K (mVar i) E L (.ok m) (tyD KY T):=zhM_ i h
theorem at_d {x y:V}{R:Addr->List (Key×V)->Key->Prop}{m:List (κ×α)}{k:κ}(hx:(tyD KY T).R m x F)(hy:KY.T.R k y F)(hs:Same F H)(hr:∀ p kvs,H p=some (.dK kvs)->DPr KY T F m kvs->R p kvs (KY.key k)):atD x y H R:=by
 obtain ⟨p,kvs,rfl,hp,hd⟩:=hx
 unfold atD
 simp only
 rw [KY.of hy]
 exact ⟨kvs,hs _ _ hp,hr p kvs (hs _ _ hp) hd⟩
theorem zpv_ {r1:Mo (List (κ×α))}{r2:Mo κ}(h1:EvF K e1 E L r1 (tyD KY T))(h2:EvF K e2 E L r2 KY.T):EvF K (mDGet e1 e2) E L (r1.bind fun m=>r2.bind fun k=>.opt (getA m k)) T:=by
 intro σ F H Q hL hs q
 refine h1 σ F H _ hL hs (q.bind.imp fun m F1 H1 x1 k1 v1 bP=>?_)
 refine h2 σ F1 H1 _ (hL.mono x1.1) x1.2.1 (k1.bind.imp fun k F2 H2 x2 k2 v2 aT=>?_)
 refine at_d ((tyD KY T).mono x2.1 bP) aT x2.2.1 fun p kvs hp hd=>?_
 obtain ⟨a,ea,k3⟩:=k2.opt
 rcases zjD_ hd k with ⟨z,_⟩ | ⟨a',v,z1,z2,z3⟩
 ·rw [z] at ea; cases ea
 ·rw [z1] at ea; cases ea
  exact ⟨v,z2,k3.ok x2.2.1 v z3⟩
theorem zqn_ (neg:Bool){r1:Mo (List (κ×α))}{r2:Mo κ}(h2:EvF K e2 E L r2 KY.T)(h1:EvF K e1 E L r1 (tyD KY T)):EvF K (mDIn neg e2 e1) E L (r2.bind fun k=>r1.bind fun m=>.ok (if neg then !(getA m k).isSome else (getA m k).isSome)) tyBl:=by
 intro σ F H Q hL hs q
 refine h2 σ F H _ hL hs (q.bind.imp fun k F1 H1 x1 k1 v1 bP=>?_)
 refine h1 σ F1 H1 _ (hL.mono x1.1) x1.2.1 (k1.bind.imp fun m F2 H2 x2 k2 v2 aT=>?_)
 refine at_d aT (KY.T.mono x2.1 bP) x2.2.1 fun p kvs hp hd=>?_
 have e:(valV kvs (KY.key k)).isSome=(getA m k).isSome:=by
  rcases zjD_ hd k with ⟨z1,z2⟩ | ⟨a',v,z1,z2,z3⟩
  ·rw [z1,z2]; rfl
  ·rw [z1,z2]; rfl
 rw [e]
 exact k2.ok x2.2.1 _ rfl
theorem zdX_ {i:Nat}{σ:St}{m:List (κ×α)}(hL:Hold L σ F h)(hi:L[i]?=some (.ow (owD KY T) m))(ok:Okk F0 H0 F h H):
  ∃ p kvs,σ[i]?=some (some (.ref p))/\H p=some (.dK kvs)/\DPr KY T F m kvs/\∀ m' aC,DPr KY T F m' aC->∃ h',Hold (L.set i (.ow (owD KY T) m')) σ F h'/\Okk F0 H0 F h' (upd H p (.dK aC)):=by
 obtain ⟨o,h1,h2,e1,j,⟨v,e2,p,kvs,rfl,rfl,hr⟩,f⟩:=hL.at i hi
 subst e2
 have hp:h p=some (.dK kvs):=j.l _ _ zx_
 have j9:h2 p=none:=by
  rcases j.dj p with z | z
  ·rw [zx_] at z; cases z
  ·exact z
 refine ⟨p,kvs,e1,ok.2.2.1 _ _ hp,hr,fun m' aC bo=>?_⟩
 have d2:Dj (one p (.dK aC)) h2:=fun q=>by
  unfold one; split
  ·rename_i z; rw [z]; exact .inr j9
  ·exact .inl rfl
 have g:=f (.ow (owD KY T) m') (some (.ref p)) (one p (.dK aC)) _ (zfO_ d2) ⟨_,rfl,p,aC,rfl,rfl,bo⟩
 rw [zaK_ e1] at g
 refine ⟨_,g,zlj_ (h1':=h) (hr:=h) (h':=h) ok (by rw [hp]; exact sN _) (fun xs z=>by cases z) _ fun b=>?_⟩
 unfold un one
 by_cases z:b=p
 ·simp only [if_pos z]
 ·simp only [if_neg z]
  rcases j b with ⟨_,c⟩ | ⟨a,c⟩
  ·exact c.symm
  ·rw [c,a]; unfold one; rw [if_neg z]
theorem zqJ_ {i:Nat}{m:List (κ×α)}{r2:Mo κ}{k:α->κ->Mo (Out ρ B S)}(hi:L[i]?=some (.ow (owD KY T) m))(hT:Imm T)(lH:Imm KY.T)(he:EvF K e E L r T)(h_:EvF K e2 E L r2 KY.T)(hk:∀ a y,EvS K u E (L.set i (.ow (owD KY T) (putA m y a))) (k a y) LS LB O):
  EvS K (tSeq (mDPut (mVar i) e2 e) u) E L (r.bind fun a=>r2.bind fun y=>.lim (m.length+1) (k a y)) LS LB O:=by
 intro F0 H0 σ F h H D hL ok fin
 show e σ H fun v H1=>mVar i σ H1 fun x H2=>e2 σ H2 fun y H3=>atD x y H3 fun a kvs k=>kvs.length<sizeLine/\u D σ (upd H3 a (.dK (putK kvs k v)))
 refine he σ (un F h) H _ (hL.froz ok.2.1) ok.thaw (zao_ (G:=F) ok _ (.inl rfl) fin fun a F1 H1 cp x1 v hv=>?_)
 obtain ⟨o,hs,ht⟩:=ok.back x1
 rw [cp] at fin
 have bY:=hL.mono hs
 have eB:=hT ht hv
 obtain ⟨p,kvs,e1,hp,hr,_⟩:=zdX_ bY hi o
 refine zcr_ e1 ?_
 refine h_ σ (un _ h) H1 _ (bY.froz o.2.1) o.thaw (zao_ (G:=F) o _ (.inl rfl) fin fun y F2 H2 jH x2 v2 aT=>?_)
 obtain ⟨o',bR,fo⟩:=o.back x2
 rw [jH] at fin
 obtain ⟨hz,fin⟩:=zeV_ (show Fin K (Mo.lim (m.length+1) (k a y)) E LS LB O F0 H0 D from fin)
 obtain ⟨p',aC,aG,hp',bo,mm⟩:=zdX_ (bY.mono bR) hi o'
 rw [e1] at aG; cases aG
 obtain ⟨h',a1,a2⟩:=mm (putA m y a) (putK aC (KY.key y) v) (zlg_ bo y (T.mono bR eB))
 unfold atD
 simp only
 rw [KY.of aT]
 refine ⟨aC,hp',?_,hk a y F0 H0 σ _ h' _ D a1 a2 fin⟩
 have:=Paired.length bo
 lia
end
section
variable {κ:Type}[DecidableEq κ]
end
section
end
theorem zqD_:isSubtype (Value.type "int") (Value.type "int")=pure true:=by first | rfl | exact AutoSeq1.sub_int_int
theorem zqB_:typeLookup (Value.type "str") (Str.ofString "__int__")=pure none:=by kernel_rfl!
theorem zpZ_:typeLookup (Value.type "str") (Str.ofString "__index__")=pure none:=by kernel_rfl!
theorem zqW_:typeLookup (Value.type "str") (Str.ofString "__trunc__")=pure none:=by kernel_rfl!
theorem znI_ {t:Tok}{c:Nat}(h0:48<=c)(h1:c<=57):Meets (Builtin.«int.__new__» ⟨[.type "int",.str ⟨#[c]⟩ t],[]⟩) (fun _ R s=>R (.ok (.ret (.int ((c:Int)-48) s.toks))) { s with toks:=s.toks+1 }):=by
 intro prog w A R s h
 have f2:=zqD_
 have f3:=PySem.F.madeHere_int
 have f4:=zqB_
 have f5:=zpZ_
 have f6:=zqW_
 wp_walk
 refine Eq.mp (congrArg (fun t=>wpAny (model prog w) A.in1 t _ _ _) (?e:mkInt ((c:Int)-48)=_)) ?_
 case e =>
  have:c=48\/c=49\/c=50\/c=51\/c=52\/c=53\/c=54\/c=55\/c=56\/c=57:=by lia
  clear h f2 f3 f4 f5 f6 h0 h1
  rcases this with rfl | rfl | rfl | rfl | rfl | rfl | rfl | rfl | rfl | rfl<;>kernel_rfl!
 wp_walk
 exact h
def figB (z:List Nat):Bool:=match z with | [c]=>decide (48<=c/\c<=57) | _=>false
def figV (z:List Nat):Int:=match z with | [c]=>(c:Int)-48 | _=>0
def mIntC:List V->Hp->VK->Prop:=fun xs H Q=>match xs with
 | [.str z]=>figB z.cps.toList=true/\Q (.int (figV z.cps.toList)) H
 | [.bl b]=>Q (.int (if b=true then 1 else 0)) H
 | _=>False
theorem zkm_ {X:Cx}:CallR X (.type "int") mIntC:=by
 intro pins s σ H xs us Q I r h
 unfold mIntC at h
 split at h
 ·rename_i z
  obtain ⟨u,rfl,t,rfl⟩:=vals1 r
  obtain ⟨hf,q⟩:=h
  unfold figB at hf
  split at hf
  ·rename_i c hc
   have hz:z=⟨#[c]⟩:=by rw [zcp_ z,hc]
   subst hz
   have hf:=of_decide_eq_true hf
   refine call_int_1 (znI_ hf.1 hf.2) ?_
   refine ⟨?_,.int ((c:Int)-48),H,I.tok _,⟨_,rfl⟩,q⟩
   exact rfl
  ·cases hf
 ·rename_i b
  obtain ⟨u,rfl,ru⟩:=vals1 r
  cases ru
  exact call_int_bool ⟨.int (if b=true then 1 else 0),H,I.tok _,⟨_,rfl⟩,h⟩
 ·exact h.elim
section
variable {K:Fgg}{E:XK}
theorem zpy_:Bl K mIntC E (csLast tyBl) (fun b=>.ok (if b=true then 1 else 0)) tyInt:=by
 rintro c vs F H Q hs ⟨v,rfl,rfl⟩ q
 exact q.ok hs _ rfl
end
end L2
namespace Att
open PySem PySem.W PySem.Calls PyProof.Rows
theorem zlQ_ {ns:List Int}(h:WData.layableAll [WData.list (ns.map WData.int)]=true):∀ x∈ns,Builtin.Int.intBits x<=1048576:=by
 intro x hx
 have h1:=layableW_arg h _ (List.mem_singleton.mpr rfl)
 have h2:=layableW_item h1 (.int x) (List.mem_map.mpr ⟨x,hx,rfl⟩)
 exact PyData.bits_of_layable (layable_int h2)
theorem attach_callB {l:OpenLaw}{n:Nat}{q:Program}{loose:List Str}{XP:(Str->Option Value)->Heap->Prop}{YP:World->Heap->Prop}{d:DefRec}
  (hn:l.most=some n) (ib:d.params.defaults=[])
  (call:∀ (w:World) (s₀ ag:Shared) (mg mb:Str->Option Value) (fa:Addr) (o:Obj) (pm cd doc:Value) (a:Addr) (vs:List Value) (ns:List Int),
   (∀ x∈ns,Builtin.Int.intBits x<=1048576) ->
   Ground q loose [] XP w s₀ mg mb ag.heap->YP w ag.heap ->
   ag.heap.get? fa=some o->o.data=.func (docDef d.name d.params d.body d.scope pm cd doc)->ag.heap.CodeRec cd d.name->mg d.name=some (.ref fa) ->
   ag.heap.get? a=some { cls:=.type "list",data:=.seq vs.toArray }->IntsAre vs ns->ns.length<=n->ag.gens=#[] ->
   codeAny (model l.prog w) callerA (.call (.ref fa) ⟨[.ref a],[]⟩) (fun r s'=>r=.ok (.ret (.bool true))/\OldK ag.heap s'.heap/\s'.os=ag.os/\AllBare s'.gens) ag):
  WalkO q loose XP YP l.row.toRowW d [] (fun f vs=>PySem.call f vs):=by
 intro w s₀ ag mg mb G Y fa o pm cd doc dV kV ho hd bT hD gX hg args vals as dY jR ly jC nU
 obtain rfl:dV=.none:=Dflts.none hD ib
 obtain rfl:kV=.none:=Dflts.noKw hD
 obtain ⟨a,vs,ns,rfl,rfl,fB,hints,hlen⟩:=zku_ hn dY jC
 refine enter_call (codeAny_mono (call w s₀ ag mg mb fa o pm cd doc a vs ns (zlQ_ jR) G Y ho (fd_plain hd) bT gX fB hints hlen hg) fun r s' hq=>?_)
 obtain ⟨rfl,h2,h3,h4⟩:=hq
 exact ⟨.inl ⟨.bool true,.bool true,[],rfl,fun _=>rfl,.bool true,zkT_ l _,fun _=>⟨List.Pairwise.nil,fun _ hm=>(nomatch hm)⟩⟩,h2,h3,h4⟩
end Att
namespace L2
open PySem PySem.Spec PyProof.Rows
theorem zlG_ {l:W.OpenLaw}{n k:Nat}{q:Program}{loose:List Str}{XP:(Str->Option Value)->Heap->Prop}{YP:World->Heap->Prop}{d:DefRec}{K:Params->Fgg}{CX:World->CXT}{sp:World->Sp}{x:Str}
  (hn:l.most=some n) (cA:n<=sizeLine) (ib:d.params.defaults=[]) (hr:Room k callerA)
  (hY:∀ (w:World) (h:Heap),YP w h->(K w.params).In h)
  (F:∀ (w:World) (mg:Str->Option Value) (fa:Addr) (h:Heap),(K w.params).In h->h.Ns mainGlobals mg->mg d.name=some (.ref fa) ->
   ∃ fd:FuncData,(∀ (s:Shared) (u:Value),BindsTo s fd ⟨[u],[]⟩ [(x,u)]) /\
    ∀ base:Heap,(K w.params).In base->base.Ns mainGlobals mg->FnOk l.prog w (K w.params) mg base (CX w) k fa fd [x] (sp w))
  (cM:∀ (w:World) (H:Hp) (a:Addr) (ns:List Int),ns.length<=n->(∀ x∈ns,Builtin.Int.intBits x<=1048576)->Only H->SqL (K w.params) H a (ns.map V.int)->sp w [.ref a] H (fun v _=>v=.bl true) fun _ _ _=>False)
  (j8:∀ (w:World) (H:Hp) (s:Shared) (e:Value) (s':Shared),CX w [] H s (fun _ _ _=>False) e s'->False):
  W.WalkO q loose XP YP l.row.toRowW d [] (fun f vs=>PySem.call f vs):=by
 refine Att.attach_callB hn ib fun w s₀ ag mg mb fa o pm cd doc a vs ns ie G Y ho hd bT gX fB hints hlen hg=>?_
 have KX:=hY w _ Y
 obtain ⟨fd,hb,hF⟩:=F w mg fa _ KX G.T.g gX
 exact zmb_ KX G.T.g G.T.b G.T.builtins G.T.nolimit hg fB hints (Nat.le_trans hlen cA) hr hF hb (fun H hO hS=>cM w H a ns hlen ie hO hS) fun H e s'=>j8 w H ag e s'
abbrev BitsOk (ns:List Int):Prop:=∀ x∈ns,Builtin.Int.intBits x<=1048576
open PySem PySem.Spec PyProof.Rows PySem.W
section
variable {α β:Type}
def okT (lt:Nat->Nat->Bool)(n:Nat):KasT α->(α->Prop)->Prop
 | .ret a,P=>P a
 | .ask i j k,P=>i<n/\j<n/\okT lt n (k (lt i j)) P
variable {lt:Nat->Nat->Bool}{n:Nat}
theorem zdk_ {f:α->KasT β}{P:β->Prop}:∀ (t:KasT α),okT lt n t (fun a=>okT lt n (f a) P)->okT lt n (t.bind f) P
 | .ret _,h=>h
 | .ask i j k,h=>⟨h.1,h.2.1,zdk_ (k (lt i j)) h.2.2⟩
theorem zbl_ {P Q:α->Prop}(hq:∀ a,P a->Q a):∀ (t:KasT α),okT lt n t P->okT lt n t Q
 | .ret _,h=>hq _ h
 | .ask i j k,h=>⟨h.1,h.2.1,zbl_ hq (k (lt i j)) h.2.2⟩
theorem znU_ {prog:Program}{w:World}{A:Around}{κ:SortKind}{vs:List Value}{s:Shared}{P:α->Prop}{Q:α->Shared->Prop}
  (cm:∀ i j (C:Bool->Shared->Prop),i<n->j<n->C (lt i j) s->kas_ask prog w A κ vs i j C s) (hq:∀ a,P a->Q a s):∀ t:KasT α,okT lt n t P->t.kasWp (kas_ask prog w A κ vs) Q s
 | .ret a,h=>hq a h
 | .ask i j k,h=>cm i j (fun b s'=>(k b).kasWp (kas_ask prog w A κ vs) Q s') h.1 h.2.1 (znU_ cm hq (k (lt i j)) h.2.2)
structure WOr (lt:Nat->Nat->Bool):Prop where
 asym:∀ {a b},lt a b=true->lt b a=false
 tr:∀ {a b c},lt b a=false->lt c b=false->lt c a=false
abbrev le (lt:Nat->Nat->Bool)(a b:Nat):Prop:=lt b a=false
theorem WOr.refl (w:WOr lt)(a:Nat):le lt a a:=by
 cases h:lt a a with
 | false=>exact h
 | true=>exact w.asym h
abbrev Pm (p:Array Nat)(n:Nat):Prop:=p.toList.Perm (List.range n)
theorem zeG_ {p:Array Nat}(h:Pm p n):p.size=n:=by have:=h.length_eq; rwa [List.length_range,Array.length_toList] at this
theorem zj4_ {p:Array Nat}(h:Pm p n){i:Nat}(hi:i<n):p.getD i 0<n:=by
 have hs:=zeG_ h
 have:p.getD i 0=p[i]'(by lia):=by simp [Array.getD,hs,hi]
 rw [this]
 exact List.mem_range.mp (h.mem_iff.mp (by simp))
theorem zbQ_ {p q:Array Nat}{i j:Nat}(h:p[i]?=q[j]?):p.getD i 0=q.getD j 0:=by
 rw [Array.getD_eq_getD_getElem?,Array.getD_eq_getD_getElem?,h]
theorem zjy_ {p:Array Nat}(h:Pm p n)(i j:Nat):Pm (kas_rev p i j) n:=(Array.perm_iff_toList_perm.mp (mirror_perm p i j _)).trans h
theorem zf7_ {p:Array Nat}{i j:Nat}(hj:j<=p.size)(k:Nat):(kas_rev p i j).getD k 0=if i<=k/\k<j then p.getD (i+j-1-k) 0 else p.getD k 0:=by
 have:=getElem?_mirror_all (xs:=p) (i:=i) hj k
 split
 ·rename_i q; rw [if_pos q] at this; exact zbQ_ this
 ·rename_i q; rw [if_neg q] at this; exact zbQ_ this
def Asc (lt:Nat->Nat->Bool)(p:Array Nat)(k:Nat):Prop:=∀ i j,i<=j->j<k->le lt (p.getD i 0) (p.getD j 0)
def Dsc (lt:Nat->Nat->Bool)(p:Array Nat)(k:Nat):Prop:=∀ i j,i<=j->j<k->le lt (p.getD j 0) (p.getD i 0)
theorem Asc.one (w:WOr lt)(p:Array Nat):Asc lt p 1:=fun i j a b=>by
 obtain rfl:i=j:=by lia
 exact w.refl _
theorem zl2_ (w:WOr lt){p:Array Nat}(hp:Pm p n):∀ (f m:Nat),1<=m->m+f<=n->Asc lt p m->okT lt n (kas_asc p f m) (fun r=>m<=r/\r<=m+f/\Asc lt p r/\(r<m+f->lt (p.getD r 0) (p.getD (r-1) 0)=true))
 | 0,m,h1,hm,ha=>⟨Nat.le_refl _,Nat.le_refl _,ha,fun h=>absurd h (Nat.lt_irrefl _)⟩
 | f+1,m,h1,hm,ha=>by
  refine ⟨zj4_ hp (by lia),zj4_ hp (by lia),?_⟩
  show okT lt n (if lt (p.getD m 0) (p.getD (m-1) 0)=true then KasT.ret m else kas_asc p f (m+1)) _
  cases h:lt (p.getD m 0) (p.getD (m-1) 0) with
  | true=>rw [if_pos rfl]; exact ⟨Nat.le_refl _,by lia,ha,fun _=>h⟩
  | false =>
   rw [if_neg (by decide)]
   refine zbl_ (fun r q=>⟨by lia,by lia,q.2.2.1,fun z=>q.2.2.2 (by lia)⟩) _ (zl2_ w hp f (m+1) (by lia) (by lia) fun i j cI hj=>?_)
   by_cases e:j<m
   ·exact ha i j cI e
   ·obtain rfl:j=m:=by lia
    by_cases e2:i=j
    ·subst e2; exact w.refl _
    ·exact w.tr (ha i (j-1) (by lia) (by lia)) h
theorem zpk_ (w:WOr lt){p:Array Nat}{m q:Nat}(hm:m<=p.size)(hq:q+1<=m)(hd:Dsc lt p m)(he:∀ i,m-(q+1)<=i->i<m->le lt (p.getD i 0) (p.getD (m-1) 0)):Dsc lt (kas_rev p (m-(q+1)) m) m:=by
 intro i j cI hj
 have r1:=zf7_ (p:=p) (i:=m-(q+1)) hm i
 have r2:=zf7_ (p:=p) (i:=m-(q+1)) hm j
 show lt _ _=false
 rw [r1,r2]
 by_cases a:m-(q+1)<=i
 ·rw [if_pos ⟨a,by omega⟩,if_pos ⟨by omega,hj⟩]
  exact w.tr (he _ (by omega) (by omega)) (hd _ (m-1) (by omega) (by omega))
 ·rw [if_neg (fun z=>a z.1)]
  by_cases b:m-(q+1)<=j
  ·rw [if_pos ⟨b,hj⟩]; exact hd _ _ (by omega) (by omega)
  ·rw [if_neg (fun z=>b z.1)]; exact hd _ _ cI hj
theorem zjh_ (w:WOr lt):∀ (f:Nat) (p:Array Nat) (m q:Nat),Pm p n->q+1<=m->m+f<=n->Dsc lt p m->(∀ i,m-(q+1)<=i->i<m->le lt (p.getD i 0) (p.getD (m-1) 0)) ->
  okT lt n (kas_desc f p m q) (fun r=>Pm r.1 n/\r.2.2+1<=r.2.1/\r.2.1<=m+f/\Dsc lt r.1 r.2.1/\∀ i,r.2.1-(r.2.2+1)<=i->i<r.2.1->le lt (r.1.getD i 0) (r.1.getD (r.2.1-1) 0))
 | 0,p,m,q,hp,h1,hm,hd,he=>⟨hp,h1,Nat.le_refl _,hd,he⟩
 | f+1,p,m,q,hp,h1,hm,hd,he=>by
  have hsz:=zeG_ hp
  refine ⟨zj4_ hp (by lia),zj4_ hp (by lia),?_⟩
  cases h:lt (p.getD m 0) (p.getD (m-1) 0) with
  | true =>
   dsimp only
   rw [if_pos rfl]
   have fin:∀ p1:Array Nat,Pm p1 n->Dsc lt p1 m->p1.getD m 0=p.getD m 0->(∀ i,i<m->le lt (p.getD (m-1) 0) (p1.getD i 0))->okT lt n (kas_desc f p1 (m+1) 0) (fun r=>Pm r.1 n/\r.2.2+1<=r.2.1/\r.2.1<=m+(f+1)/\Dsc lt r.1 r.2.1/\∀ i,r.2.1-(r.2.2+1)<=i->i<r.2.1->le lt (r.1.getD i 0) (r.1.getD (r.2.1-1) 0)):=by
    intro p1 dC m8 e1 hb
    refine zbl_ (fun r q=>⟨q.1,q.2.1,by lia,q.2.2.2⟩) _ (zjh_ w f p1 (m+1) 0 dC (by lia) (by lia) (fun i j cI hj=>?_) fun i a b=>?_)
    ·by_cases e:j<m
     ·exact m8 i j cI e
     ·obtain rfl:j=m:=by lia
      by_cases e2:i=j
      ·subst e2; exact w.refl _
      ·rw [e1]; exact w.tr (w.asym h) (hb i (by lia))
    ·obtain rfl:i=m:=by lia
     exact w.refl _
   by_cases hq:q > 0
   ·rw [if_pos hq]
    refine fin _ (zjy_ hp _ _) (zpk_ w (by lia) h1 hd he) ?_ fun i hi=>?_
    ·rw [zf7_ (by lia),if_neg (by lia)]
    ·rw [zf7_ (by lia)]
     split
     ·exact hd _ _ (by lia) (by lia)
     ·exact hd _ _ (by lia) (by lia)
   ·rw [if_neg hq]
    exact fin p hp hd rfl fun i hi=>hd _ _ (by lia) (by lia)
  | false =>
   dsimp only
   rw [if_neg (by decide)]
   refine ⟨zj4_ hp (by lia),zj4_ hp (by lia),?_⟩
   cases h2:lt (p.getD (m-1) 0) (p.getD m 0) with
   | true=>dsimp only; rw [if_pos rfl]; exact ⟨hp,h1,by show m<=m+(f+1); lia,hd,he⟩
   | false =>
    dsimp only
    rw [if_neg (by decide)]
    refine zbl_ (fun r q=>⟨q.1,q.2.1,by lia,q.2.2.2⟩) _ (zjh_ w f p (m+1) (q+1) hp (by lia) (by lia) (fun i j cI hj=>?_) fun i a b=>?_)
    ·by_cases e:j<m
     ·exact hd i j cI e
     ·obtain rfl:j=m:=by lia
      by_cases e2:i=j
      ·subst e2; exact w.refl _
      ·exact w.tr h2 (hd i (j-1) (by lia) (by lia))
    ·show le lt (p.getD i 0) (p.getD m 0)
     by_cases e:i=m
     ·subst e; exact w.refl _
     ·exact w.tr (he i (by lia) (by lia)) h
abbrev Got (lt:Nat->Nat->Bool)(n:Nat)(r:Nat×Array Nat):Prop:=Pm r.2 n/\r.1<=n/\Asc lt r.2 r.1
theorem zj0_ (w:WOr lt){p:Array Nat}{m:Nat}(hp:Pm p n)(h1:1<=m)(hm:m<=n)(hd:Dsc lt p m):okT lt n (kas_tail3 m n p) (Got lt n):=by
 have hsz:=zeG_ hp
 refine zdk_ _ (zbl_ (fun r q=>?_) _ (zl2_ w (zjy_ hp 0 m) (n-m) m h1 (by omega) fun i j cI hj=>?_))
 ·exact ⟨zjy_ hp 0 m,by show r<=n; omega,q.2.2.1⟩
 ·rw [zf7_ (by omega),zf7_ (by omega),if_pos (by omega),if_pos (by omega)]
  exact hd _ _ (by omega) (by omega)
theorem zeX_ (w:WOr lt){p:Array Nat}{m:Nat}(hp:Pm p n)(hm:m+1<=n)(hd:Dsc lt p (m+1)):okT lt n (kas_descPart m n p) (Got lt n):=by
 refine zdk_ _ (zbl_ (fun r q=>?_) _ (zjh_ w (n-(m+1)) p (m+1) 0 hp (by lia) (by lia) hd fun i a b=>?_))
 ·obtain ⟨q1,q2,q3,q4,q5⟩:=q
  have hsz:=zeG_ q1
  by_cases z:r.2.2 > 0
  ·rw [if_pos z]
   exact zj0_ w (zjy_ q1 _ _) (by lia) (by lia) (zpk_ w (by lia) q2 q4 q5)
  ·rw [if_neg z]
   exact zj0_ w q1 (by lia) (by lia) q4
 ·obtain rfl:i=m:=by lia
  exact w.refl _
theorem zmK_ (w:WOr lt){p:Array Nat}(hp:Pm p n)(hn:1<=n):okT lt n (kas_count n p) (Got lt n):=by
 have hsz:=zeG_ hp
 refine zdk_ _ (zbl_ (fun m q=>?_) _ (zl2_ w hp (n-1) 1 (Nat.le_refl _) (by lia) (Asc.one w p)))
 obtain ⟨q1,q2,q3,q4⟩:=q
 by_cases e:m=n
 ·rw [if_pos (by simp [e])]; exact ⟨hp,by show m<=n; lia,q3⟩
 ·rw [if_neg (by simp [e])]
  have hl:=q4 (by lia)
  by_cases z:m > 1
  ·rw [if_pos z]
   refine ⟨zj4_ hp (by lia),zj4_ hp (by lia),?_⟩
   cases c:lt (p.getD 0 0) (p.getD (m-1) 0) with
   | true=>dsimp only; rw [if_pos rfl]; exact ⟨hp,by show m<=n; lia,q3⟩
   | false =>
    dsimp only
    rw [if_neg (by decide)]
    have aw:∀ a b,a<m->b<m->le lt (p.getD a 0) (p.getD b 0):=fun a b ha hb=>w.tr (w.tr (q3 a (m-1) (by lia) (by lia)) c) (q3 0 b (by lia) hb)
    refine zeX_ w (zjy_ hp 0 m) (by lia) fun i j cI hj=>?_
    rw [zf7_ (by lia),zf7_ (by lia)]
    by_cases a:j<m
    ·rw [if_pos (by lia),if_pos (by lia)]; exact aw _ _ (by lia) (by lia)
    ·obtain rfl:j=m:=by lia
     rw [if_neg (by lia)]
     by_cases b:i<j
     ·rw [if_pos (by lia)]; exact w.tr (w.asym hl) (aw _ _ (by lia) (by lia))
     ·obtain rfl:i=j:=by lia
      rw [if_neg (by lia)]; exact w.refl _
  ·rw [if_neg z]
   obtain rfl:m=1:=by lia
   refine zeX_ w hp (by lia) fun i j cI hj=>?_
   by_cases a:i=j
   ·subst a; exact w.refl _
   ·obtain rfl:i=0:=by lia
    obtain rfl:j=1:=by lia
    exact w.asym hl
theorem zgV_ (w:WOr lt){p:Array Nat}{k:Nat}(hp:Pm p n)(hk:k<n)(ha:Asc lt p k):∀ (f l r:Nat),l<=r->r<=k->r-l<=f->(∀ i,i<l->le lt (p.getD i 0) (p.getD k 0))->(∀ i,r<=i->i<k->le lt (p.getD k 0) (p.getD i 0)) ->
  okT lt n (kas_place p k f l r) (fun m=>m<=k/\(∀ i,i<m->le lt (p.getD i 0) (p.getD k 0))/\∀ i,m<=i->i<k->le lt (p.getD k 0) (p.getD i 0))
 | 0,l,r,h1,h2,h3,h4,h5=>⟨by show l<=k; omega,h4,fun i a b=>h5 i (by omega) b⟩
 | f+1,l,r,h1,h2,h3,h4,h5=>by
  unfold kas_place
  by_cases e:l ≥ r
  ·rw [if_pos e]; exact ⟨by show l<=k; omega,h4,fun i a b=>h5 i (by omega) b⟩
  ·rw [if_neg e]
   refine ⟨zj4_ hp hk,zj4_ hp (by omega),?_⟩
   cases c:lt (p.getD k 0) (p.getD ((l+r) / 2) 0) with
   | true =>
    dsimp only
    rw [if_pos rfl]
    refine zgV_ w hp hk ha f l ((l+r) / 2) (by omega) (by omega) (by omega) h4 fun i a b=>?_
    exact w.tr (w.asym c) (ha _ _ a b)
   | false =>
    dsimp only
    rw [if_neg (by decide)]
    refine zgV_ w hp hk ha f ((l+r) / 2+1) r (by omega) h2 (by omega) (fun i hi=>?_) h5
    exact w.tr (ha i ((l+r) / 2) (by omega) (by omega)) c
theorem zpg_ (w:WOr lt):∀ (f:Nat) (p:Array Nat) (k:Nat),Pm p n->k+f=n->Asc lt p k->okT lt n (kas_bin f p k) (fun r=>Pm r n/\Asc lt r n)
 | 0,p,k,hp,hk,ha=>⟨hp,(show k=n by lia) ▸ ha⟩
 | f+1,p,k,hp,hk,ha=>by
  have hsz:=zeG_ hp
  refine zdk_ _ (zbl_ (fun l q=>?_) _ (zgV_ w hp (by lia) ha k 0 k (by lia) (Nat.le_refl _) (by lia) (fun i hi=>absurd hi (by lia)) fun i a b=>absurd b (by lia)))
  obtain ⟨q1,q2,q3⟩:=q
  have hb:∀ i,(bubble p k (k-l)).getD i 0=if i=l then p.getD k 0 else if l<i/\i<=k then p.getD (i-1) 0 else p.getD i 0:=fun i=>by
   have:=getElem?_bubble (xs:=p) (src:=k) (by lia) (k-l) (by lia) i
   rw [show k-(k-l)=l by lia] at this
   split
   ·rename_i z; rw [if_pos z] at this; exact zbQ_ this
   ·rename_i z
    rw [if_neg z] at this
    split
    ·rename_i y; rw [if_pos y] at this; exact zbQ_ this
    ·rename_i y; rw [if_neg y] at this; exact zbQ_ this
  refine zpg_ w f _ (k+1) ((Array.perm_iff_toList_perm.mp (bubble_perm p k _)).trans hp) (by lia) fun i j cI hj=>?_
  rw [hb,hb]
  by_cases e1:i=l
  ·rw [if_pos e1]
   by_cases e2:j=l
   ·rw [if_pos e2]; exact w.refl _
   ·rw [if_neg e2,if_pos (by lia)]; exact q3 _ (by lia) (by lia)
  ·rw [if_neg e1]
   by_cases e2:j=l
   ·rw [if_pos e2,if_neg (by lia)]; exact q2 _ (by lia)
   ·rw [if_neg e2]
    by_cases e3:l<i
    ·rw [if_pos (by lia),if_pos (by lia)]; exact ha _ _ (by lia) (by lia)
    ·rw [if_neg (by lia)]
     by_cases e4:l<j
     ·rw [if_pos (by lia)]; exact ha _ _ (by lia) (by lia)
     ·rw [if_neg (by lia)]; exact ha _ _ cI (by lia)
theorem zoY_ (w:WOr lt)(hn:1<=n):okT lt n (kas_sort n) (fun r=>Pm r n/\Asc lt r n):=by
 have h0:Pm (List.toArray (List.range n)) n:=by simp [Pm]
 refine zdk_ _ (zbl_ (fun r q=>?_) _ (zmK_ w h0 hn))
 obtain ⟨q1,q2,q3⟩:=q
 by_cases e:r.1<n
 ·rw [if_pos e]
  refine zpg_ w _ _ _ q1 (by lia) ?_
  by_cases e1:r.1=0
  ·rw [e1]; exact Asc.one w _
  ·rw [Nat.max_eq_left (by lia)]; exact q3
 ·rw [if_neg e]
  obtain e:r.1=n:=by lia
  rw [e] at q3
  exact ⟨q1,q3⟩
end
section
variable {prog:Program}{w:World}{A:Around}{E:Value->Shared->Prop}{s:Shared}{vs:List Value}{lt:Nat->Nat->Bool}
def CmpAt (prog:Program)(w:World)(vs:List Value)(lt:Nat->Nat->Bool)(s:Shared):Prop:=
 ∃ κ,(∀ (A:Around) (C:SortKind->Shared->Prop),C κ s->wpAny (model prog w) A (keyKind' vs.toArray) C (fun _ _=>False) s) /\
  ∀ (A:Around) i j (C:Bool->Shared->Prop),i<vs.length->j<vs.length->C (lt i j) s->kas_ask prog w A κ vs i j C s
def Srtd (lt:Nat->Nat->Bool)(n:Nat)(p:List Nat):Prop:=p.Perm (List.range n)/\p.Pairwise (le lt)
theorem zoi_ {n:Nat}{p:Array Nat}(h:Pm p n/\Asc lt p n):Srtd lt n p.toList:=by
 refine ⟨h.1,List.pairwise_iff_getElem.mpr fun i j hi hj cI=>?_⟩
 have hs:=zeG_ h.1
 rw [Array.length_toList] at hi hj
 have:=h.2 i j (by lia) (by lia)
 have e:∀ k (hk:k<p.size),p.getD k 0=p.toList[k]'(by simpa using hk):=fun k hk=>by simp [Array.getD,hk]
 rwa [e i hi,e j hj] at this
def RunB (b:Nat):Prop:=b<=1000/\∀ {prog:Program}{w:World}{A:Around}{E:Value->Shared->Prop}{s:Shared}{vs:List Value}{lt:Nat->Nat->Bool}{κ:SortKind},2<=vs.length->vs.length<b->WOr lt ->
 (∀ (A:Around) i j (C:Bool->Shared->Prop),i<vs.length->j<vs.length->C (lt i j) s->kas_ask prog w A κ vs i j C s) ->
 wpAny (model prog w) A ((sortRuns').run (SortSt.mk' κ (vs.toArray.zip vs.toArray) #[] 7 none)) (fun r s'=>s'=s/\∃ p:List Nat,(arrOf r.2).map (·.2)=(p.map fun i=>vs.getD i Value.none).toArray/\failedOf r.2=none/\Srtd lt vs.length p) E s
theorem runB64:RunB 64:=by
 refine ⟨by decide,fun {prog w A E s vs lt κ} cA dq wo k2=>?_⟩
 refine wpAny_mono (kat_run (Q:=fun aK s'=>s'=s/\∃ p:Array Nat,p.size=vs.length/\arrOf aK=p.map (kas_item (vs.toArray.zip vs.toArray))/\failedOf aK=none/\(Pm p vs.length/\Asc lt p vs.length)) (G:=fun p s'=>s'=s/\(Pm p vs.length/\Asc lt p vs.length))
   rfl cA dq (fun p' aK s' a1 a2 a3 a4=>⟨a4.1,p',a1,a2,a3,a4.2⟩) (znU_ (P:=fun r=>Pm r vs.length/\Asc lt r vs.length) (fun i j C hi hj hc=>k2 A i j C hi hj hc) (fun p hp=>⟨rfl,hp⟩) _ (zoY_ wo (by lia)))) ?_ fun _ _ e=>e
 rintro ⟨⟨⟩,aK⟩ s' ⟨rfl,p,hp,har,hf,hpp⟩
 exact ⟨rfl,p.toList,kat_snds rfl har,hf,zoi_ hpp⟩
theorem zju_ {b:Nat}(hB:RunB b){a:Addr}{n:Nat}{P:PySem.Fin->Shared->Prop}(ho:s.heap.get? a=some (seqObj "list" vs.toArray n))(dq:vs.length<b)(wo:WOr lt)
  (kk:2<=vs.length->∀ h':Heap,(∀ b o,b≠a->s.heap.get? b=some o->h'.get? b=some o)->CmpAt prog w vs lt { s with heap:=h' })
  (q:∀ (h':Heap) c (p:List Nat),(∀ b o,b≠a->s.heap.get? b=some o->h'.get? b=some o)->Srtd lt vs.length p->h'.get? a=some (seqObj "list" (p.map fun i=>vs.getD i Value.none).toArray c)->P (.done (.ret .none)) { s with heap:=h' }):
  wpAny (model prog w) A (Builtin.«list.sort» ⟨[.ref a],[]⟩) P E s:=by
 have iZ:=hB.1
 have ha:a<s.heap.objs.size:=Heap.lt_size ho
 have s1:=Heap.SameBut.update s.heap a (Obj.mapSeq fun _=>(#[]:Array Value))
 obtain ⟨e1,ho1⟩:∃ e1,(s.heap.update a (Obj.mapSeq fun _=>(#[]:Array Value))).get? a=some (seqObj "list" #[] e1):=⟨_,get?_update_seq ho fun _=>#[]⟩
 have kp:∀ b o,b≠a->s.heap.get? b=some o->(((s.heap.update a (Obj.mapSeq fun _=>(#[]:Array Value))).push (seqObj "tuple" vs.toArray 0)).push (seqObj "list" #[] 0)).get? b=some o:=fun b o hb e =>
  Heap.get?_push_of_some _ (Heap.get?_push_of_some _ ((s1.2 b hb).trans e))
 have na:(((s.heap.update a (Obj.mapSeq fun _=>(#[]:Array Value))).push (seqObj "tuple" vs.toArray 0)).push (seqObj "list" #[] 0)).get? a=some (seqObj "list" #[] e1):=Heap.get?_push_of_some _ (Heap.get?_push_of_some _ ho1)
 rw [list_sort_plain]
 refine wpAny_bind (listItems_at ho rfl ?_)
 refine wpAny_bind (listUpdate_at ho rfl ?_ (by rw [List.size_toArray,sizeLine_eq]; lia) (Nat.zero_le _))
 refine wpAny_bind (seqEpoch_at ho1 rfl ?_)
 refine wpAny_bind (wpAny_newTuple ?_ (by show vs.length<=_; rw [sizeLine_eq]; lia))
 refine wpAny_bind (wpAny_newList ?_ (Nat.zero_le _))
 refine wpAny_holding ?_
 show wpAny (model prog w) A _ P E { s with heap:=((s.heap.update a (Obj.mapSeq fun _=>(#[]:Array Value))).push (seqObj "tuple" vs.toArray 0)).push (seqObj "list" #[] 0) }
 generalize hh:((s.heap.update a (Obj.mapSeq fun _=>(#[]:Array Value))).push (seqObj "tuple" vs.toArray 0)).push (seqObj "list" #[] 0)=h2 at kp na
 dsimp only
 have fin:∀ (aK:SortSt) (p:List Nat),(arrOf aK).map (·.2)=(p.map fun i=>vs.getD i Value.none).toArray->failedOf aK=none->Srtd lt vs.length p->wpAny (model prog w) A (do
   let touched:=(<- seqEpoch a) != e1
   Builtin.List.listUpdate (.ref a) fun _=>(arrOf aK).map (·.2)
   if let some e:=failedOf aK then rule "list.sort.comparison-raised"; throw e
   if touched then rule "list.sort.modified"; raiseError "ValueError" "list modified during sort"
   ret .none) P E { s with heap:=h2 }:=by
  intro aK p fw hf hp
  rw [fw,hf]
  have hsz:(List.toArray (p.map fun i=>vs.getD i Value.none)).size=vs.length:=by rw [List.size_toArray,List.length_map,hp.1.length_eq,List.length_range]
  have s2:=Heap.SameBut.update h2 a (Obj.mapSeq fun _=>List.toArray (p.map fun i=>vs.getD i Value.none))
  obtain ⟨c2,hc2⟩:∃ c2,(h2.update a (Obj.mapSeq fun _=>List.toArray (p.map fun i=>vs.getD i Value.none))).get? a=some (seqObj "list" (List.toArray (p.map fun i=>vs.getD i Value.none)) c2):=⟨_,get?_update_seq na fun _=>List.toArray (p.map fun i=>vs.getD i Value.none)⟩
  refine wpAny_bind (seqEpoch_at (s:={ s with heap:=h2 }) na rfl ?_)
  refine wpAny_bind (listUpdate_at (s:={ s with heap:=h2 }) na rfl ?_ (Nat.zero_le _) (Nat.le_trans (Nat.le_of_eq hsz) (by rw [sizeLine_eq]; lia)))
  simp only [bne_self_eq_false,Bool.false_eq_true,if_false]
  exact wpAny_pure (q _ c2 p (fun b o hb e=>(s2.2 b hb).trans (kp b o hb e)) hp hc2)
 by_cases cA:2<=vs.length
 ·have dg:¬ vs.toArray.size<2:=by rw [List.size_toArray]; lia
  rw [if_neg dg,if_neg dg]
  obtain ⟨κ,k1,k2⟩:=kk cA h2 kp
  refine wpAny_bind (wpAny_mono (k1 A (fun kM s'=>kM=κ/\s'={ s with heap:=h2 }) ⟨rfl,rfl⟩) (fun kM s0 hk=>?_) fun _ _ x=>x.elim)
  obtain ⟨rfl,rfl⟩:=hk
  refine wpAny_bind (wpAny_mono (hB.2 cA dq wo k2) ?_ fun _ _ e=>e)
  rintro ⟨⟨⟩,aK⟩ s' ⟨rfl,p,fw,hf,hpp⟩
  exact fin aK p fw hf hpp
 ·have dg:vs.toArray.size<2:=by rw [List.size_toArray]; lia
  rw [if_pos dg,if_pos dg]
  refine wpAny_bind (wpAny_pure ?_)
  refine wpAny_bind (wpAny_pure ?_)
  refine fin _ (List.range vs.length) ?_ rfl ⟨List.Perm.refl _,?_⟩
  ·show ((vs.toArray.zip vs.toArray).map (·.2))=_
   apply Array.toList_inj.mp
   rw [Array.toList_map,Array.toList_zip]
   have e:∀ l:List Value,(l.zip l).map (·.2)=l:=fun l=>by
    induction l with
    | nil=>rfl
    | cons x l ih=>rw [List.zip_cons_cons,List.map_cons,ih]
   show (vs.zip vs).map (·.2)=(List.range vs.length).map fun i=>vs.getD i Value.none
   rw [e]
   apply List.ext_getElem?
   intro i
   by_cases hi:i<vs.length
   ·simp [hi]
   ·simp [List.getElem?_eq_none,hi,Nat.le_of_not_lt hi]
  ·rcases (show vs.length=0\/vs.length=1 by lia) with e | e
   ·rw [e]; exact .nil
   ·rw [e]; exact List.pairwise_singleton _ _
theorem zlN_ {b:Nat}(hB:RunB b){l:Addr}{Q:Value->Shared->Prop}(hl:s.heap.IsList l vs.toArray)(dq:vs.length<b)(wo:WOr lt)
  (kk:2<=vs.length->∀ h':Heap,(∀ b o,s.heap.get? b=some o->h'.get? b=some o)->CmpAt prog w vs lt { s with heap:=h' })
  (q:∀ (h':Heap) c (p:List Nat),(∀ b o,s.heap.get? b=some o->h'.get? b=some o)->Srtd lt vs.length p->h'.get? (s.heap.objs.size+1)=some (seqObj "list" (p.map fun i=>vs.getD i Value.none).toArray c)->Q (.ref (s.heap.objs.size+1)) { s with heap:=h' }):
  wpAny (model prog w) A (call (.builtin "sorted") [.ref l]) Q E s:=by
 have iZ:=hB.1
 refine Calls.call_function_entry kind_sorted plain_sorted entry_sorted (args_sorted1 _) ?_
 unfold Builtin.«sorted»
 refine wpAny_bind (m:=checkCount "sorted" 1 1 _) (wpAny_pure ?_)
 refine wpAny_bind (collect_list hl ?_ (by rw [sizeLine_eq]; lia))
 refine wpAny_bind (wpAny_newList ?_ (by rw [sizeLine_eq]; lia))
 have hsz:((s.heap.push (seqObj "list" #[] 0)).update s.heap.objs.size (Obj.mapSeq (·++vs.toArray))).objs.size=s.heap.objs.size+1:=by
  rw [Heap.size_update,size_push']
 have fD:(((s.heap.push (seqObj "list" #[] 0)).update s.heap.objs.size (Obj.mapSeq (·++vs.toArray))).push (seqObj "list" vs.toArray 0)).get? (s.heap.objs.size+1)=some (seqObj "list" vs.toArray 0):=by
  rw [<- hsz]; exact Heap.get?_push_size _ rfl
 have keep:∀ b o,s.heap.get? b=some o->(((s.heap.push (seqObj "list" #[] 0)).update s.heap.objs.size (Obj.mapSeq (·++vs.toArray))).push (seqObj "list" vs.toArray 0)).get? b=some o:=fun b o q=>by
  have ay:b<s.heap.objs.size:=Heap.lt_size q
  rw [Heap.get?_push_ne _ _ _ (by rw [hsz]; exact Nat.ne_of_lt (Nat.lt_succ_of_lt ay)),Heap.get?_update_ne _ _ _ _ (Nat.ne_of_lt ay),Heap.get?_push_ne _ _ _ (Nat.ne_of_lt ay)]
  exact q
 show wpAny _ _ _ _ _ { s with heap:=((s.heap.push (seqObj "list" #[] 0)).update s.heap.objs.size (Obj.mapSeq (·++vs.toArray))).push (seqObj "list" vs.toArray 0) }
 rw [hsz]
 have bO:∀ (h':Heap),(∀ b o,b≠s.heap.objs.size+1->(((s.heap.push (seqObj "list" #[] 0)).update s.heap.objs.size (Obj.mapSeq (·++vs.toArray))).push (seqObj "list" vs.toArray 0)).get? b=some o->h'.get? b=some o)->∀ b o,s.heap.get? b=some o->h'.get? b=some o:=fun h' hk b o e =>
  hk b o (Nat.ne_of_lt (Nat.lt_succ_of_lt (Heap.lt_size e))) (keep b o e)
 refine wpAny_bind (wpAny_holding (wpAny_call_entry slot_list_sort ⟨_,fD,rfl⟩ entry_list_sort ?body (args_list_sort _)))
 case body =>
  refine zju_ hB (s:={ s with heap:=((s.heap.push (seqObj "list" #[] 0)).update s.heap.objs.size (Obj.mapSeq (·++vs.toArray))).push (seqObj "list" vs.toArray 0) }) fD dq wo (fun h2 h' hk=>kk h2 h' (bO h' hk)) fun h' c p hk hp bS=>?_
  exact ⟨_,rfl,wpAny_pure ⟨_,rfl,q h' c p (bO h' hk) hp bS⟩⟩
end
def knd:V->Nat | .int _=>1 | .str _=>2 | _=>0
def ltF:V->V->Bool | .int a,.int b=>decide (a<b) | .str a,.str b=>decide (a.cps.toList<b.cps.toList) | _,_=>false
def eqF:V->V->Bool | .int a,.int b=>a == b | .str a,.str b=>decide (a=b) | _,_=>false
def lexV:List V->List V->Bool
 | x::xs,y::ys=>if eqF x y then lexV xs ys else ltF x y
 | _,_=>false
section
variable {prog:Program}{w:World}{A:Around}{E:Value->Shared->Prop}{s:Shared}{Q:Bool->Shared->Prop}
theorem zbs_ {x:V}(h:knd x≠0):(∃ i,x=.int i)\/∃ z,x=.str z:=by
 cases x<;>first | exact .inl ⟨_,rfl⟩ | exact .inr ⟨_,rfl⟩ | exact absurd rfl h
theorem zi2_ {x y:V}{u v:Value}{b:Bool}(hx:RelV x u)(hy:RelV y v)(hk:knd x=knd y)(h0:knd x≠0)(q:Q (ltF x y) s):wpAny (model prog w) A (oneLt' b u v) Q E s:=by
 rcases zbs_ h0 with ⟨i,rfl⟩ | ⟨z,rfl⟩
 ·rcases zbs_ (x:=y) (fun e=>h0 (hk.trans e)) with ⟨j,rfl⟩ | ⟨z,rfl⟩
  ·obtain ⟨t,rfl⟩:=hx
   obtain ⟨t',rfl⟩:=hy
   cases b with
   | true=>exact oneLt_int q
   | false=>exact kat_one _ _ (PyProof.Rows.lt_int q)
  ·cases hk
 ·rcases zbs_ (x:=y) (fun e=>h0 (hk.trans e)) with ⟨j,rfl⟩ | ⟨z',rfl⟩
  ·cases hk
  ·obtain ⟨t,rfl⟩:=hx
   obtain ⟨t',rfl⟩:=hy
   cases b with
   | true=>exact oneLt_str q
   | false=>exact kat_one _ _ (PyProof.Rows.lt_str q)
theorem eq_F {x y:V}{u v:Value}(hx:RelV x u)(hy:RelV y v)(hk:knd x=knd y)(h0:knd x≠0)(q:Q (eqF x y) s):wpAny (model prog w) A (eqBool u v) Q E s:=by
 rcases zbs_ h0 with ⟨i,rfl⟩ | ⟨z,rfl⟩
 ·rcases zbs_ (x:=y) (fun e=>h0 (hk.trans e)) with ⟨j,rfl⟩ | ⟨z,rfl⟩
  ·obtain ⟨t,rfl⟩:=hx
   obtain ⟨t',rfl⟩:=hy
   exact wpAny_eqBool_int q
  ·cases hk
 ·rcases zbs_ (x:=y) (fun e=>h0 (hk.trans e)) with ⟨j,rfl⟩ | ⟨z',rfl⟩
  ·cases hk
  ·obtain ⟨t,rfl⟩:=hx
   obtain ⟨t',rfl⟩:=hy
   exact wpAny_eqBool_str q
theorem zjV_ {b:Bool}:∀ {xs ys:List V}{us vs:List Value}(i:Nat),Vals xs us->Vals ys vs->xs.map knd=ys.map knd->(0:Nat)∉xs.map knd->Q (lexV xs ys) s->KatLex prog w A b false Q (us.zip vs) i s
 | [],[],_,_,i,.nil,.nil,_,_,q=>q
 | x::xs,[],_,_,i,_,_,hk,_,_=>by simp at hk
 | [],x::xs,_,_,i,_,_,hk,_,_=>by simp at hk
 | x::xs,y::ys,_,_,i,.cons hx r,.cons hy r',hk,h0,q=>by
  rw [List.map_cons,List.map_cons] at hk
  injection hk with k1 k2
  rw [List.map_cons] at h0
  have z1:knd x≠0:=fun e=>h0 (by rw [e]; exact List.mem_cons_self ..)
  have z2:(0:Nat)∉xs.map knd:=fun e=>h0 (List.mem_cons_of_mem _ e)
  rw [List.zip_cons_cons]
  refine kat_cons (eq_F hx hy k1 z1 (kat_go (fun e=>kat_yes ?_) fun e=>kat_no ?_))
  ·refine zjV_ (i+1) r r' k2 z2 ?_
   unfold lexV at q
   rw [e,if_pos rfl] at q
   exact q
  ·refine zi2_ hx hy k1 z1 ?_
   unfold lexV at q
   rw [e,if_neg (by decide)] at q
   exact q
end
def SrtV (K:Fgg)(H:Hp)(ys:List V)(lt:Nat->Nat->Bool):Prop:=
 (∃ k,k≠0/\(∀ y∈ys,knd y=k)/\∀ i j x y,ys[i]?=some x->ys[j]?=some y->lt i j=ltF x y) \/
 (∃ (rows:Nat->List V) (ks:List Nat),ks≠[]/\0∉ks/\(∀ i y,ys[i]?=some y->∃ a,y=.ref a/\SqT K H a (rows i)/\(rows i).map knd=ks)/\∀ i j,i<ys.length->j<ys.length->lt i j=lexV (rows i) (rows j))
def mSorted (b:Nat)(K:Fgg):List V->Hp->VK->Prop:=fun xs H Q=>match xs with
 | [.ref p]=>∃ ys lt,SqL K H p ys/\ys.length<b/\WOr lt/\SrtV K H ys lt/\∀ idx,Srtd lt ys.length idx->∀ l,H l=none->Q (.ref l) (upd H l (.lst (idx.map fun i=>ys.getD i .non)))
 | _=>False
def tyK (k:Nat):Value:=if k=1 then .type "int" else .type "str"
theorem zjj_ {M:Model}{h:Heap}{x:V}{u:Value}{k:Nat}(r:RelV x u)(hk:knd x=k)(h0:k≠0):Looks M h (typeOf u) (tyK k):=by
 subst hk
 rcases zbs_ h0 with ⟨i,rfl⟩ | ⟨z,rfl⟩
 ·obtain ⟨t,rfl⟩:=r
  exact .now
 ·obtain ⟨t,rfl⟩:=r
  exact .now
theorem zlH_ (k:Nat):(tyK k != Value.type "tuple")=true:=by unfold tyK; split<;>decide +kernel
theorem zlL_ (k:Nat):(tyK k == tyK k)=true:=by unfold tyK; split<;>decide +kernel
theorem zaS_ {ys:List V}{us:List Value}(r:Vals ys us){i:Nat}(h:i<us.length):∃ y,ys[i]?=some y/\RelV y (us.getD i Value.none)/\y∈ys:=by
 have hl:=Vals.length r
 have e:ys[i]?=some ys[i]:=List.getElem?_eq_getElem (by omega)
 obtain ⟨u,eu,ru⟩:=Vals.get r e
 refine ⟨_,e,?_,List.getElem_mem _⟩
 rw [List.getD_eq_getElem?_getD,eu]
 exact ru
theorem zgU_ {ys:List V}{us:List Value}(r:Vals ys us):∀ (idx:List Nat),(∀ i∈idx,i<us.length)->Vals (idx.map fun i=>ys.getD i .non) (idx.map fun i=>us.getD i Value.none)
 | [],_=>.nil
 | i::idx,h=>by
  obtain ⟨y,e,ry,_⟩:=zaS_ r (h i (List.mem_cons_self ..))
  refine .cons ?_ (zgU_ r idx fun j hj=>h j (List.mem_cons_of_mem _ hj))
  show RelV (ys.getD i V.non) _
  rw [List.getD_eq_getElem?_getD,e]
  exact ry
section
variable {X:Cx}
theorem zgR_ {b:Nat}(hB:RunB b):CallR X (.builtin "sorted") (mSorted b X.K):=by
 have iZ:=hB.1
 intro pins s σ H xs us Q I r h
 unfold mSorted at h
 split at h
 ·rename_i p
  obtain ⟨ys,lt,hp,dq,wo,sv,q⟩:=h
  obtain ⟨u,rfl,rx⟩:=vals1 r
  cases rx
  obtain ⟨aa,r',pl,hz⟩:=I.list hp
  have hlen:=Vals.length r'
  refine zlN_ hB pl.isList (by lia) wo (fun h2 h' kp=>?_) fun h' c idx kp hi ho=>?_
  ·rcases sv with ⟨k,hk,aw,ay⟩ | ⟨rows,ks,bH,h0,hrow,ay⟩
   ·refine ⟨oneType',fun A C hC=>?_,fun A i j C hi hj hC=>?_⟩
    ·refine kas_kind h2 (T:=tyK k) (fun v hv=>?_) (zlH_ k) (zlL_ k) hC
     obtain ⟨i,hi⟩:=List.mem_iff_getElem?.mp hv
     obtain ⟨cu,_⟩:=List.getElem?_eq_some_iff.mp hi
     obtain ⟨y,_,ry,hy⟩:=zaS_ r' cu
     rw [List.getD_eq_getElem?_getD,hi] at ry
     exact zjj_ ry (aw y hy) hk
    ·obtain ⟨x,ex,rx,hx⟩:=zaS_ r' hi
     obtain ⟨y,ey,ry,hy⟩:=zaS_ r' hj
     rw [ay i j x y ex ey] at hC
     unfold kas_ask
     rw [keyLt'_oneType]
     exact zi2_ rx ry (by rw [aw x hx,aw y hy]) (by rw [aw x hx]; exact hk) hC
   ·have tup:∀ i,i<aa.length->∃ (a:Addr) (o:Obj) (ts:List Value) (n:Nat),aa[i]?=some (.ref a)/\h'.get? a=some o/\o.cls=.type "tuple" /\ o.data=.seq ts.toArray n/\Vals (rows i) ts/\(rows i).map knd=ks:=fun i hi=>by
     obtain ⟨y,e,ry,_⟩:=zaS_ r' hi
     obtain ⟨a,rfl,ht,hk⟩:=hrow i y e
     obtain ⟨ts,rt,⟨o,ho,hc,n,hd⟩,_⟩:=I.tuple ht
     refine ⟨a,o,ts,n,?_,kp _ _ ho,hc,hd,rt,hk⟩
     have:aa.getD i Value.none=.ref a:=ry
     rw [List.getD_eq_getElem?_getD,List.getElem?_eq_getElem hi] at this
     rw [List.getElem?_eq_getElem hi]
     exact congrArg some this
    obtain ⟨k,iS,rfl⟩:∃ k iS,ks=k::iS:=by
     cases ks with
     | nil=>exact absurd rfl bH
     | cons k iS=>exact ⟨k,iS,rfl⟩
    have mX:k≠0:=fun e=>h0 (by rw [e]; exact List.mem_cons_self ..)
    refine ⟨tuples' true,fun A C hC=>?_,fun A i j C hi hj hC=>?_⟩
    ·have kt:∀ (l:List Value) (d:Nat),aa.drop d=l->∃ fs,KatTups h' l fs/\fs.length=l.length/\∀ v∈fs,Looks (model X.prog X.w) h' (typeOf v) (tyK k):=by
      intro l
      induction l with
      | nil=>intro d _; exact ⟨[],.nil,rfl,fun v hv=>by cases hv⟩
      | cons v l ih =>
       intro d hd
       have jY:d<aa.length:=by
        have:=congrArg List.length hd
        rw [List.length_drop,List.length_cons] at this
        lia
       obtain ⟨a,o,ts,n,e,ho,hc,hdd,rt,hk⟩:=tup d jY
       have e2:aa.drop d=aa[d]::aa.drop (d+1):=List.drop_eq_getElem_cons jY
       rw [hd] at e2
       injection e2 with e3 e4
       obtain ⟨fs,k1,k2,k3⟩:=ih (d+1) e4.symm
       rw [List.getElem?_eq_getElem jY] at e
       injection e with e
       rw [e3,e]
       cases hr:rows d with
       | nil=>rw [hr] at hk; simp at hk
       | cons x xr =>
        rw [hr] at rt hk
        cases rt with
        | @cons _ f _ tr rf rr =>
         rw [List.map_cons] at hk
         injection hk with jS hk2
         refine ⟨f::fs,.cons ho hc hdd (by simp) k1,by simp [k2],fun v hv=>?_⟩
         rcases List.mem_cons.mp hv with rfl | hv
         ·exact zjj_ rf jS mX
         ·exact k3 v hv
     obtain ⟨fs,k1,k2,k3⟩:=kt aa 0 rfl
     have:=kat_kind (M:=model X.prog X.w) (A:=A) (E:=fun _ _=>False) (s:={ s with heap:=h' }) (Q:=C) k1 (by lia) k3 (zlL_ k) (by rw [zlH_]; exact hC)
     exact this
    ·obtain ⟨a,o,ts,n,e,ho,hc,hd,rt,hk⟩:=tup i hi
     obtain ⟨a2,o2,ts2,n2,e2,ho2,hc2,hd2,rt2,hk2⟩:=tup j hj
     unfold kas_ask
     rw [List.getD_eq_getElem?_getD,List.getD_eq_getElem?_getD,e,e2]
     have hl:ts.length=ts2.length:=by
      have a1:=Vals.length rt
      have a2:=Vals.length rt2
      have:=congrArg List.length (hk.trans hk2.symm)
      rw [List.length_map,List.length_map] at this
      lia
     refine kat_lt (s:={ s with heap:=h' }) ho hd ho2 hd2 ?_
     rw [show decide (ts.toArray.size<ts2.toArray.size)=false from decide_eq_false (by simp [hl])]
     refine zjV_ 0 rt rt2 (hk.trans hk2.symm) (by rw [hk]; exact h0) ?_
     rw [<- ay i j (by lia) (by lia)]
     exact hC
  ·refine ⟨.ref (s.heap.objs.size+1),_,I.laid (o:=.lst (idx.map fun i=>ys.getD i .non)) (t':=s.toks) kp (Nat.le_succ _) ?_,rfl,q idx (by rwa [hlen]) _ (I.hok.fresh (Nat.le_succ _))⟩
   have hi1:∀ i∈idx,i<aa.length:=fun i cu=>List.mem_range.mp (hi.1.mem_iff.mp cu)
   refine ⟨?_,_,c,zgU_ r' idx hi1,ho⟩
   rw [List.length_map,hi.1.length_eq,List.length_range,sizeLine_eq]
   lia
 ·exact h.elim
variable {α β:Type}
structure LOr (lt:α->α->Bool):Prop where
 asym:∀ {a b},lt a b=true->lt b a=false
 tr:∀ {a b c},lt b a=false->lt c b=false->lt c a=false
 anti:∀ {a b},lt a b=false->lt b a=false->a=b
def srtL (lt:α->α->Bool)(xs:List α):List α:=xs.mergeSort (fun a b=>!lt b a)
theorem zbk_ (lt:α->α->Bool)(xs:List α):(srtL lt xs).Perm xs:=List.mergeSort_perm _ _
theorem LOr.irr {lt:α->α->Bool}(o:LOr lt)(a:α):lt a a=false:=by
 cases h:lt a a with
 | false=>rfl
 | true=>rw [<- h]; exact o.asym h
theorem zdo_ {lt:α->α->Bool}(o:LOr lt)(xs:List α):(srtL lt xs).Pairwise fun a b=>lt b a=false:=by
 have:=List.pairwise_mergeSort (le:=fun a b=>!lt b a) (fun a b c h1 h2=>by simp only [Bool.not_eq_true'] at *; exact o.tr h1 h2) (fun a b=>by
  cases h:lt b a with
  | false=>simp
  | true=>simp [o.asym h]) xs
 exact this.imp (fun h=>by simpa using h)
theorem zjr_ {lt:α->α->Bool}(o:LOr lt):∀ {ws ys:List α},ws.Perm ys->ws.Pairwise (fun a b=>lt b a=false)->ys.Pairwise (fun a b=>lt b a=false)->ws=ys
 | [],ys,hp,_,_=>by rw [List.Perm.nil_eq hp]
 | w::ws,[],hp,_,_=>by have:=hp.length_eq; simp at this
 | w::ws,y::ys,hp,h1,h2=>by
  obtain ⟨a1,a2⟩:=List.pairwise_cons.mp h1
  obtain ⟨b1,b2⟩:=List.pairwise_cons.mp h2
  have e:w=y:=by
   have m1:w∈y::ys:=hp.mem_iff.mp (List.mem_cons_self ..)
   have m2:y∈w::ws:=hp.mem_iff.mpr (List.mem_cons_self ..)
   rcases List.mem_cons.mp m1 with e | m1
   ·exact e
   ·rcases List.mem_cons.mp m2 with e | m2
    ·exact e.symm
    ·exact o.anti (b1 w m1) (a1 y m2)
  subst e
  rw [zjr_ o (List.Perm.cons_inv hp) a2 b2]
theorem zfC_ {lt:α->α->Bool}(o:LOr lt){ws xs:List α}(hp:ws.Perm xs)(hs:ws.Pairwise fun a b=>lt b a=false):ws=srtL lt xs:=
 zjr_ o (hp.trans (zbk_ lt xs).symm) hs (zdo_ o xs)
def ltI (a b:Int):Bool:=decide (a<b)
def lxP [DecidableEq α](l:α->α->Bool)(m:β->β->Bool)(x y:α×β):Bool:=if x.1=y.1 then m x.2 y.2 else l x.1 y.1
theorem zdO_:LOr ltI:=by
 unfold ltI
 refine ⟨fun h=>?_,fun h h'=>?_,fun h h'=>?_⟩<;>simp only [decide_eq_true_eq,decide_eq_false_iff_not] at*<;> lia
theorem zhB_ [DecidableEq α]{l:α->α->Bool}{m:β->β->Bool}(ol:LOr l)(om:LOr m):LOr (lxP l m):=by
 unfold lxP
 refine ⟨fun {a b} h=>?_,fun {a b c} h h'=>?_,fun {a b} h h'=>?_⟩
 ·by_cases e:a.1=b.1
  ·rw [if_pos e] at h; rw [if_pos e.symm]; exact om.asym h
  ·rw [if_neg e] at h; rw [if_neg (fun z=>e z.symm)]; exact ol.asym h
 ·by_cases e:b.1=a.1
  ·rw [if_pos e] at h
   by_cases e2:c.1=b.1
   ·rw [if_pos e2] at h'; rw [if_pos (e2.trans e)]; exact om.tr h h'
   ·rw [if_neg e2] at h'; rw [if_neg (fun z=>e2 (z.trans e.symm)),<- e]; exact h'
  ·rw [if_neg e] at h
   by_cases e2:c.1=b.1
   ·rw [if_neg (fun z=>e (e2.symm.trans z)),e2]; exact h
   ·rw [if_neg e2] at h'
    by_cases e3:c.1=a.1
    ·exfalso
     rw [e3] at h'
     exact e (ol.anti h h')
    ·rw [if_neg e3]; exact ol.tr h h'
 ·by_cases e:a.1=b.1
  ·rw [if_pos e] at h; rw [if_pos e.symm] at h'
   exact Prod.ext e (om.anti h h')
  ·rw [if_neg e] at h; rw [if_neg (fun z=>e z.symm)] at h'
   exact absurd (ol.anti h h') e
variable {γ:Type}{K:Fgg}{E:XK}
def FlT (T:Ty α)(k:Nat)(lt:α->α->Bool):Prop:=k≠0/\∀ a v F,T.R a v F->knd v=k/\∀ b u F',T.R b u F'->ltF v u=lt a b/\(eqF v u=true↔a=b)
theorem zl0_:FlT tyInt 1 ltI:=by
 refine ⟨by decide,fun a v F h=>?_⟩
 subst h
 refine ⟨rfl,fun b u F' h'=>?_⟩
 subst h'
 exact ⟨rfl,by simp [eqF]⟩
def LxC (C:Cs γ)(ks:List Nat)(lt:γ->γ->Bool):Prop:=ks≠[]/\0∉ks/\∀ c vs F,C.R c vs F->vs.map knd=ks/\∀ d us F',C.R d us F'->lexV vs us=lt c d
theorem zoe_ {T:Ty α}{k:Nat}{lt:α->α->Bool}(f:FlT T k lt)(o:LOr lt):LxC (csLast T) [k] lt:=by
 refine ⟨by simp,fun h=>f.1 (List.mem_singleton.mp h).symm,?_⟩
 rintro c vs F ⟨v,rfl,hv⟩
 obtain ⟨e,g⟩:=f.2 c v F hv
 refine ⟨by rw [List.map_singleton,e],?_⟩
 rintro d us F' ⟨u,rfl,hu⟩
 obtain ⟨g1,g2⟩:=g d u F' hu
 show (if eqF v u=true then false else ltF v u)=_
 by_cases z:eqF v u=true
 ·rw [if_pos z,g2.mp z]; exact (o.irr d).symm
 ·rw [if_neg z,g1]
theorem znL_ [DecidableEq α]{T:Ty α}{C:Cs γ}{k:Nat}{ks:List Nat}{lt:α->α->Bool}{js:γ->γ->Bool}(f:FlT T k lt)(l:LxC C ks js):LxC (csCons T C) (k::ks) (lxP lt js):=by
 refine ⟨by simp,fun h=>?_,?_⟩
 ·rcases List.mem_cons.mp h with h | h
  ·exact f.1 h.symm
  ·exact l.2.1 h
 ·rintro c vs F ⟨v,us,rfl,hv,hus⟩
  obtain ⟨e,g⟩:=f.2 c.1 v F hv
  obtain ⟨e2,g'⟩:=l.2.2 c.2 us F hus
  refine ⟨by rw [List.map_cons,e,e2],?_⟩
  rintro d ws F' ⟨u,aJ,rfl,hu,hus'⟩
  obtain ⟨g1,g2⟩:=g d.1 u F' hu
  show (if eqF v u=true then lexV us aJ else ltF v u)=lxP lt js c d
  unfold lxP
  by_cases z:eqF v u=true
  ·rw [if_pos z,if_pos (g2.mp z)]; exact g' d.2 aJ F' hus'
  ·rw [if_neg z,if_neg (fun q=>z (g2.mpr q)),g1]
theorem zgL_ {T:Ty α}{H:Hp}:∀ {xs:List α}{vs:List V},Prs T H xs vs->∀ (i:Nat) (v:V),vs[i]?=some v->∃ x,xs[i]?=some x/\T.R x v H
 | _,_,.nil,i,v,e=>by simp at e
 | _,_,.cons a t,0,v,e=>by simp at e; subst e; exact ⟨_,rfl,a⟩
 | _,_,.cons a t,i+1,v,e=>zgL_ t i v (by simpa using e)
theorem zi5_ {T:Ty α}{H:Hp}{xs:List α}{vs:List V}(r:Prs T H xs vs)(d:α):∀ (idx:List Nat),(∀ i∈idx,i<vs.length)->Prs T H (idx.map fun i=>xs.getD i d) (idx.map fun i=>vs.getD i .non)
 | [],_=>.nil
 | i::idx,h=>by
  have hi:=h i (List.mem_cons_self ..)
  obtain ⟨x,e,rx⟩:=zgL_ r i vs[i] (List.getElem?_eq_getElem hi)
  refine .cons ?_ (zi5_ r d idx fun j hj=>h j (List.mem_cons_of_mem _ hj))
  show T.R (xs.getD i d) (vs.getD i .non) H
  rw [List.getD_eq_getElem?_getD,List.getD_eq_getElem?_getD,e,List.getElem?_eq_getElem hi]
  exact rx
theorem zf8_ {lt:α->α->Bool}(o:LOr lt){xs:List α}{d:α}{idx:List Nat}(h:Srtd (fun i j=>lt (xs.getD i d) (xs.getD j d)) xs.length idx):(idx.map fun i=>xs.getD i d)=srtL lt xs:=by
 refine zfC_ o ?_ ?_
 ·have e:(List.range xs.length).map (fun i=>xs.getD i d)=xs:=by
   apply List.ext_getElem?
   intro i
   by_cases hi:i<xs.length
   ·simp [hi]
   ·simp [List.getElem?_eq_none,hi,Nat.le_of_not_lt hi]
  have:=h.1.map (fun i=>xs.getD i d)
  rwa [e] at this
 ·exact List.pairwise_map.mpr (h.2.imp fun q=>q)
theorem zo6_ {lt:α->α->Bool}(o:LOr lt)(f:Nat->α):WOr fun i j=>lt (f i) (f j):=⟨fun h=>o.asym h,fun h h'=>o.tr h h'⟩
theorem zgO_ {b:Nat}(b0:0<b){T:Ty α}{lt:α->α->Bool}(o:LOr lt)(sv:∀ (d:α) (xs:List α) (vs:List V) (F:Hp),Prs T F xs vs->SrtV K F vs fun i j=>lt (xs.getD i d) (xs.getD j d))(mono:∀ {F H:Hp}{vs l},Same F H->SrtV K F vs l->SrtV K H vs l):
  BlO K (mSorted b K) E (csLast (tyL T)) (fun l=>.grd (l.length<b) (.ok (srtL lt l))) (owL T):=by
 rintro c vs F H Q hs ⟨v,rfl,p,us,rfl,h,r⟩ q
 obtain ⟨dq,q⟩:=q.grd
 have hl:=Paired.length r
 cases c with
 | nil =>
  cases r
  refine ⟨[],fun _ _=>false,.of (hs _ _ h),b0,⟨(fun h=>by cases h),(fun _ _=>rfl)⟩,.inl ⟨1,by decide,(fun y hy=>by cases hy),(fun i j x y e=>by simp at e)⟩,fun idx hi l hl=>?_⟩
  have:idx=[]:=by have:=hi.1.length_eq; simpa using this
  subst this
  rw [show srtL lt ([]:List α)=[] by simp [srtL]] at q
  exact zby_ hs hl (xs:=[]) .nil q
 | cons x xs =>
  refine ⟨us,fun i j=>lt ((x::xs).getD i x) ((x::xs).getD j x),.of (hs _ _ h),by lia,zo6_ o _,mono hs (sv x _ us F r),fun idx hi l fY=>?_⟩
  rw [<- hl] at hi
  have e:=zf8_ o hi
  rw [<- e] at q
  refine zby_ hs fY (zi5_ r x idx fun i cu=>?_) q
  have:=List.mem_range.mp (hi.1.mem_iff.mp cu)
  lia
theorem zkY_ {F H:Hp}{vs:List V}{l:Nat->Nat->Bool}(hs:Same F H)(h:SrtV K F vs l):SrtV K H vs l:=by
 rcases h with h | ⟨rows,ks,a,b,c,d⟩
 ·exact .inl h
 ·refine .inr ⟨rows,ks,a,b,fun i y e=>?_,d⟩
  obtain ⟨p,e1,e2,e3⟩:=c i y e
  exact ⟨p,e1,hs.tup e2,e3⟩
theorem zi7_ {b:Nat}{C:Cs γ}{ks:List Nat}{lt:γ->γ->Bool}(l:LxC C ks lt)(o:LOr lt)(b0:0<b:=by decide):BlO K (mSorted b K) E (csLast (tyL (tyTup C))) (fun l=>.grd (l.length<b) (.ok (srtL lt l))) (owL (tyTup C)):=by
 refine zgO_ b0 o (fun d xs vs F r=>?_) zkY_
 have hl:=Paired.length r
 have row:∀ i:Nat,∃ row:List V,∀ y:V,vs[i]?=some y->∃ (a:Addr) (c:γ),xs[i]?=some c/\y=V.ref a/\SqT K F a row/\C.R c row F:=fun i=>by
  cases e:vs[i]? with
  | none=>exact ⟨[],fun y h=>by cases h⟩
  | some y =>
   obtain ⟨x,ex,p,us,rfl,hp,hc⟩:=zgL_ r i y e
   refine ⟨us,fun y' h=>?_⟩
   injection h with h
   subst h
   exact ⟨p,x,ex,rfl,.of hp,hc⟩
 refine .inr ⟨fun i=>Classical.choose (row i),ks,l.1,l.2.1,fun i y e=>?_,fun i j hi hj=>?_⟩
 ·obtain ⟨a,c,ec,rfl,ht,hc⟩:=Classical.choose_spec (row i) y e
  exact ⟨a,rfl,ht,(l.2.2 c _ F hc).1⟩
 ·obtain ⟨a,c,ec,_,ht,hc⟩:=Classical.choose_spec (row i) _ (List.getElem?_eq_getElem hi)
  obtain ⟨a',c',ec',_,fo,dF⟩:=Classical.choose_spec (row j) _ (List.getElem?_eq_getElem hj)
  show lt (xs.getD i d) (xs.getD j d)=_
  rw [List.getD_eq_getElem?_getD,List.getD_eq_getElem?_getD,ec,ec']
  exact ((l.2.2 c _ F hc).2 c' _ F dF).symm
end
end L2
universe u
namespace L2
open PySem PySem.Spec PyProof.Rows
section
variable {α:Type}{h:Hp}
theorem zk6_ {α:Type u}{l:List α}{i:Nat}{o:α}(h:l[i]?=some o):l.set i o=l:=by
 apply List.ext_getElem?
 intro j
 rw [List.getElem?_set]
 have ay:=(List.getElem?_eq_some_iff.mp h).1
 by_cases e:i=j
 ·subst e; rw [if_pos rfl,if_pos ay,h]
 ·rw [if_neg e]
end
open PySem PySem.Spec PyProof.Rows PySem.W
section
variable {prog:Program}{w:World}{A:Around}{E:Value->Shared->Prop}{s:Shared}{T:String}{rr dd:Addr}{n:Nat}{PP:Nat->Value->Prop}{OK:Heap->Prop}
theorem zm3_ {R:List Value->Shared->Prop}(Kd:KdlSrc prog w T rr dd n PP OK)(hh:A.handled=none)(hok:OK s.heap)(hn:n<=sizeLine)
  (hR:∀ (h':Heap) (tk:Nat) (acc:Array Value),s.heap.objs.size<h'.objs.size->(∀ b o,s.heap.get? b=some o->h'.get? b=some o)->ItemsOf PP acc n->R acc.toList { s with heap:=h',toks:=tk }):
  wpAny (model prog w) A (collect (.ref rr)) R E s:=by
 obtain ⟨lr,ld⟩:=Kd.there _ hok
 unfold collect; refine wpAny_bind (wpAny_runValue (codeAny_builtin entry_proto_collect' ?_)); rw [Around.under_plainId PySem.F.plain_proto_collect _]
 show wpAny _ A.in1 (newList []>>=fun l=>again (.builtin "list.__iadd__" ⟨[l,.ref rr],[]⟩)) _ _ s; refine wpAny_bind (wpAny_newObj_type ?_)
 refine wpAny_pure ⟨plainId_quiet PySem.F.plain_list_iadd _,codeAny_builtin entry_list_iadd' ?_⟩; rw [Around.under_plainId PySem.F.plain_list_iadd _]
 have h0:(s.heap.push { cls:=.type "list",data:=.seq ([]:List Value).toArray }).get? s.heap.objs.size=some { cls:=.type "list",data:=.seq #[] }:=Heap.get?_push_size _ rfl
 show wpAny _ A.in1 (Builtin.List.listExtendWith (.ref s.heap.objs.size) (.ref rr) (.ref s.heap.objs.size)) _ _ _
 have key:=kdl_extend (A:=A) (s:={ s with heap:=s.heap.push { cls:=.type "list",data:=.seq ([]:List Value).toArray } })
  (R:=fun (q:Result) (s':Shared)=>∃ (h':Heap) (tk:Nat) (acc:Array Value) (c:Nat),q=.ok (.ret (.ref s.heap.objs.size))/\s'={ s with heap:=h',toks:=tk }/\(∀ b o,s.heap.get? b=some o->h'.get? b=some o)/\h'.get? s.heap.objs.size=some { cls:=.type "list",dict:=none,data:=.seq acc c,slots:=#[] }/\ItemsOf PP acc n)
  Kd hh (Kd.keep _ _ hok fun b _ o e=>Heap.get?_push_of_some _ e) s.heap.objs.size (Nat.ne_of_gt lr) (Nat.ne_of_gt ld) (.ref s.heap.objs.size) 0 h0
  (fun h' tk acc c hk hS bq=>⟨h',tk,acc,c,rfl,rfl,fun b o e=>hk b o (Nat.ne_of_lt (Heap.lt_size e)) (Heap.get?_push_of_some _ e),hS,bq⟩) hn
 refine wpAny_mono key (fun fin s' x=>?_) fun e s' x=>?_
 ·cases fin with
  | done f =>
   obtain ⟨h',tk,acc,c,e,rfl,hk,hS,bq⟩:=x
   cases e; show wpAny _ A (load s.heap.objs.size>>=_) _ _ _
   exact wpAny_bind (wpAny_load hS (wpAny_pure (hR h' tk acc (Heap.lt_size hS) hk bq)))
  | again c1 =>
   refine ⟨x.1,codeAny_mono x.2 fun q s2 y=>?_⟩; obtain ⟨h',tk,acc,c,rfl,rfl,hk,hS,bq⟩:=y
   show wpAny _ A (load s.heap.objs.size>>=_) _ _ _; exact wpAny_bind (wpAny_load hS (wpAny_pure (hR h' tk acc (Heap.lt_size hS) hk bq)))
 ·obtain ⟨_,_,_,_,e',_⟩:=x; cases e'
end
section
variable {prog:Program}{w:World}{A:Around}{E:Value->Shared->Prop}{s:Shared}{lt:Nat->Nat->Bool}
theorem zkv_ {b:Nat}(hB:RunB b){v:Value}{n:Nat}{PV:List Value->Prop}{Q:Value->Shared->Prop}(dq:n<b)(wo:WOr lt)(hlen:∀ vs,PV vs->vs.length=n)
  (col:∀ R:List Value->Shared->Prop,(∀ (vs:List Value) (h':Heap) (tk:Nat),PV vs->s.heap.objs.size<=h'.objs.size->(∀ b o,s.heap.get? b=some o->h'.get? b=some o)->R vs { s with heap:=h',toks:=tk })->wpAny (model prog w) A.in1 (collect v) R E s)
  (kk:∀ (vs:List Value),PV vs->2<=vs.length->∀ (h':Heap) (tk:Nat),(∀ b o,s.heap.get? b=some o->h'.get? b=some o)->CmpAt prog w vs lt { s with heap:=h',toks:=tk })
  (q:∀ (vs:List Value) (l:Addr) (h':Heap) (tk:Nat) c (p:List Nat),PV vs->s.heap.objs.size<=l->(∀ b o,s.heap.get? b=some o->h'.get? b=some o)->Srtd lt vs.length p->h'.get? l=some (seqObj "list" (p.map fun i=>vs.getD i Value.none).toArray c)->Q (.ref l) { s with heap:=h',toks:=tk }):
  wpAny (model prog w) A (call (.builtin "sorted") [v]) Q E s:=by
 have iZ:=hB.1
 refine Calls.call_function_entry kind_sorted plain_sorted entry_sorted (args_sorted1 _) ?_
 unfold Builtin.«sorted»
 refine wpAny_bind (m:=checkCount "sorted" 1 1 _) (wpAny_pure ?_)
 refine wpAny_bind (col _ fun vs h1 tk pv hle k1=>?_)
 have hn:=hlen vs pv
 refine wpAny_bind (wpAny_newList ?_ (by rw [sizeLine_eq]; lia))
 have fD:(h1.push (seqObj "list" vs.toArray 0)).get? h1.objs.size=some (seqObj "list" vs.toArray 0):=Heap.get?_push_size _ rfl
 have keep:∀ b o,s.heap.get? b=some o->(h1.push (seqObj "list" vs.toArray 0)).get? b=some o:=fun b o e=>Heap.get?_push_of_some _ (k1 b o e)
 show wpAny _ _ _ _ _ { s with heap:=h1.push (seqObj "list" vs.toArray 0),toks:=tk }
 have bO:∀ (h':Heap),(∀ b o,b≠h1.objs.size->(h1.push (seqObj "list" vs.toArray 0)).get? b=some o->h'.get? b=some o)->∀ b o,s.heap.get? b=some o->h'.get? b=some o:=fun h' hk b o e =>
  hk b o (Nat.ne_of_lt (Heap.lt_size (k1 b o e))) (keep b o e)
 refine wpAny_bind (wpAny_holding (wpAny_call_entry slot_list_sort ⟨_,fD,rfl⟩ entry_list_sort ?body (args_list_sort _)))
 case body =>
  refine zju_ hB (s:={ s with heap:=h1.push (seqObj "list" vs.toArray 0),toks:=tk }) fD (by lia) wo (fun h2 h' hk=>kk vs pv h2 h' tk (bO h' hk)) fun h' c p hk hp bS=>?_
  exact ⟨_,rfl,wpAny_pure ⟨_,rfl,q vs _ h' tk c p pv hle (bO h' hk) hp bS⟩⟩
end
section
variable {X:Cx}
theorem zmu_ {ys:List V}{aa:List Value}{lt:Nat->Nat->Bool}{k:Nat}{s:Shared}(r':Vals ys aa)(hk:k≠0)(aw:∀ y∈ys,knd y=k)(ay:∀ i j x y,ys[i]?=some x->ys[j]?=some y->lt i j=ltF x y)(h2:2<=aa.length):
  CmpAt X.prog X.w aa lt s:=by
 refine ⟨oneType',fun A C hC=>?_,fun A i j C hi hj hC=>?_⟩
 ·refine kas_kind h2 (T:=tyK k) (fun v hv=>?_) (zlH_ k) (zlL_ k) hC
  obtain ⟨i,hi⟩:=List.mem_iff_getElem?.mp hv
  obtain ⟨cu,_⟩:=List.getElem?_eq_some_iff.mp hi
  obtain ⟨y,_,ry,hy⟩:=zaS_ r' cu
  rw [List.getD_eq_getElem?_getD,hi] at ry
  exact zjj_ ry (aw y hy) hk
 ·obtain ⟨x,ex,rx,hx⟩:=zaS_ r' hi
  obtain ⟨y,ey,ry,hy⟩:=zaS_ r' hj
  rw [ay i j x y ex ey] at hC
  unfold kas_ask
  rw [keyLt'_oneType]
  exact zi2_ rx ry (by rw [aw x hx,aw y hy]) (by rw [aw x hx]; exact hk) hC
def mSortD (b:Nat)(K:Fgg):List V->Hp->VK->Prop:=fun xs H Q=>mSorted b K xs H Q\/match xs with
 | [.ref p]=>∃ (kvs:List (Key×V)) (k:Nat) (lt:Nat->Nat->Bool),H p=some (.dK kvs)/\kvs.length<b/\WOr lt/\k≠0/\(∀ q∈kvs,knd (kV q.1)=k)/\(∀ i j x y,(kvs.map fun q:Key×V=>kV q.1)[i]?=some x->(kvs.map fun q=>kV q.1)[j]?=some y->lt i j=ltF x y) /\
   ∀ idx,Srtd lt kvs.length idx->∀ l,H l=none->Q (.ref l) (upd H l (.lst (idx.map fun i=>(kvs.map fun q=>kV q.1).getD i .non)))
 | _=>False
theorem is_kV {P:Program}{w:World}{k:Key}{u:Value}(h:(mixKind P w).is k u=true):RelV (kV k) u:=by
 rw [zjg_] at h
 rcases zX_ h with ⟨i,t,rfl,rfl⟩ | ⟨x,t,rfl,rfl⟩<;>exact ⟨_,rfl⟩
theorem zd3_ {b:Nat}(hB:RunB b)(hc:X.calm=true):CallR X (.builtin "sorted") (mSortD b X.K):=by
 have iZ:=hB.1
 intro pins s σ H xs us Q I r h
 unfold mSortD at h
 rcases h with h | h
 ·exact zgR_ hB pins s σ H xs us Q I r h
 ·split at h
  ·rename_i p
   obtain ⟨kvs,k,lt,hp,dq,wo,hk,aw,ay,q⟩:=h
   obtain ⟨u,rfl,rx⟩:=vals1 r
   cases rx
   obtain ⟨z,hd,vs,rel,dd⟩:=znp_ I.hok (.inl hp)
   obtain ⟨ep,hat⟩:=dd.dictAt
   have fE:kvs.length=vs.length:=rel.length
   have lB:∀ us:List Value,Vals (kvs.map fun q=>kV q.1) us->us.length=kvs.length:=fun us hv=>by rw [<- Vals.length hv,List.length_map]
   refine zkv_ hB (n:=kvs.length) (PV:=fun us=>Vals (kvs.map fun q=>kV q.1) us) dq wo lB (fun R hR=>?_) (fun us hv h2 h' tk _=>?_) fun us l h' tk c idx hv hl kp hi ho=>?_
   ·refine zm3_ (kdl_dict (knd:=mixKind X.prog X.w) (kvs:=vs) (ep:=ep) hd) ?_ hat (by rw [<- fE,sizeLine_eq]; lia) fun h' tk acc hsz mW bq=>hR _ h' tk ?_ (Nat.le_of_lt hsz) mW
    ·exact I.ok.hd hc
    ·have hl:acc.toList.length=kvs.length:=by rw [Array.length_toList,fE]; exact bq.1
     have e:∀ (ks:List (Key×V)) (us:List Value),ks.length=us.length->(∀ (i:Nat) (q:Key×V) (u:Value),ks[i]?=some q->us[i]?=some u->RelV (kV q.1) u)->Vals (ks.map fun q=>kV q.1) us:=by
      intro ks
      induction ks with
      | nil=>intro us hl _; cases us with | nil=>exact .nil | cons _ _=>simp at hl
      | cons q ks ih =>
       intro us hl hh
       cases us with
       | nil=>simp at hl
       | cons u us=>exact .cons (hh 0 q u rfl rfl) (ih us (by simpa using hl) fun i q' u' e1 e2=>hh (i+1) q' u' (by simpa using e1) (by simpa using e2))
     refine e kvs acc.toList hl.symm fun i q u e1 e2=>?_
     obtain ⟨k',x,ek,iX⟩:=bq.2 i u (by rw [<- Array.getElem?_toList]; exact e2)
     have:∀ (a:List (Key×V)) (b:List (Key×Value)) (i:Nat) q k' x,KV a b->a[i]?=some q->b[i]?=some (k',x)->q.1=k':=by
      intro a b i q k' x lD
      unfold KV at lD
      induction lD generalizing i with
      | nil=>intro e; simp at e
      | cons r t ih =>
       intro e1 e2
       cases i with
       | zero=>simp at e1 e2; subst e1; have:=r.1; rw [e2] at this; exact this
       | succ i=>exact ih i (by simpa using e1) (by simpa using e2)
     rw [this kvs vs i q k' x rel e1 ek]
     exact is_kV iX
   ·refine zmu_ hv hk (fun y hy=>?_) ay h2
    obtain ⟨q,hq,rfl⟩:=List.mem_map.mp hy
    exact aw q hq
   ·have mT:=lB us hv
    refine ⟨.ref l,_,I.laid (o:=.lst (idx.map fun i=>(kvs.map fun q=>kV q.1).getD i .non)) (t':=tk) kp hl ?_,rfl,q idx (by rwa [<- mT]) _ (I.hok.fresh hl)⟩
    have hi1:∀ i∈idx,i<us.length:=fun i cu=>List.mem_range.mp (hi.1.mem_iff.mp cu)
    refine ⟨?_,_,c,zgU_ hv idx hi1,ho⟩
    rw [List.length_map,hi.1.length_eq,List.length_range,sizeLine_eq]
    lia
  ·exact h.elim
variable {α γ κ:Type}{K:Fgg}{E:XK}
theorem znQ_ {b:Nat}{C:Cs γ}{f:γ->Mo α}{O:Own α}(h:BlO K (mSorted b K) E C f O):BlO K (mSortD b K) E C f O:=by
 intro c vs F H Q hs hc q
 exact .inl (h c vs F H Q hs hc q)
theorem ziE_ {b:Nat}[DecidableEq κ]{KY:KyT κ}{T:Ty α}{k:Nat}{lt:κ->κ->Bool}(f:FlT KY.T k lt)(o:LOr lt)(hk:∀ x F,KY.T.R x (kV (KY.key x)) F)(b0:0<b:=by decide):
  BlO K (mSortD b K) E (csLast (tyD KY T)) (fun m=>.grd (m.length<b) (.ok (srtL lt (m.map (·.1))))) (owL KY.T):=by
 rintro m vs F H Q hs ⟨v,rfl,p,kvs,rfl,h,r⟩ q
 have hl:m.length=kvs.length:=Paired.length r
 have pr:Prs KY.T F (m.map (·.1)) (kvs.map fun q=>kV q.1):=by
  clear h hl q
  induction r with
  | nil=>exact .nil
  | cons a t ih=>rename_i q w m kvs; rw [List.map_cons,List.map_cons,a.1]; exact .cons (hk _ _) ih
 obtain ⟨dq,q⟩:=q.grd
 have all:∀ q∈kvs,knd (kV q.1)=k:=fun q hq=>by
  obtain ⟨i,e⟩:=List.mem_iff_getElem?.mp (List.mem_map_of_mem (f:=fun q:Key×V=>kV q.1) hq)
  obtain ⟨x,_,rx⟩:=zgL_ pr i _ e
  exact (f.2 x _ F rx).1
 cases m with
 | nil =>
  cases r
  refine .inr ⟨[],1,fun _ _=>false,hs _ _ h,b0,⟨(fun h=>by cases h),(fun _ _=>rfl)⟩,by decide,(fun y hy=>by cases hy),(fun i j x y e=>by simp at e),fun idx hi l hl=>?_⟩
  have:idx=[]:=by have:=hi.1.length_eq; simpa using this
  subst this
  rw [show srtL lt (([]:List (κ×α)).map (·.1))=[] by simp [srtL]] at q
  exact zby_ hs hl (xs:=[]) .nil q
 | cons x xs =>
  refine .inr ⟨kvs,k,fun i j=>lt (((x::xs).map (·.1)).getD i x.1) (((x::xs).map (·.1)).getD j x.1),hs _ _ h,by omega,zo6_ o _,f.1,all,fun i j a b ea eb=>?_,fun idx hi l fY=>?_⟩
  ·obtain ⟨a',ea',ra⟩:=zgL_ pr i a ea
   obtain ⟨b',eb',rb⟩:=zgL_ pr j b eb
   show lt (((x::xs).map (·.1)).getD i x.1) (((x::xs).map (·.1)).getD j x.1)=_
   rw [List.getD_eq_getElem?_getD,List.getD_eq_getElem?_getD,ea',eb']
   exact ((f.2 a' a F ra).2 b' b F rb).1.symm
  ·rw [<- hl,<- List.length_map (f:=(·.1))] at hi
   have e:=zf8_ o hi
   rw [<- e] at q
   refine zby_ hs fY (zi5_ pr x.1 idx fun i cu=>?_) q
   have:=List.mem_range.mp (hi.1.mem_iff.mp cu)
   rw [List.length_map] at this ⊢
   omega
theorem zqQ_ (x:Int)(F:Hp):(kInt).T.R x (kV (kInt.key x)) F:=rfl
end
structure ZpAp (z ti to i j:Addr)(f g:List Addr):Prop where
 a1:ti≠z
 a2:to≠z
 a3:i≠z
 a4:j≠z
 a5:ti≠to
 a6:ti≠i
 a7:ti≠j
 a8:to≠i
 a9:to≠j
 b1:i≠j
 b2:z∉f
 b3:z∉g
 b4:to∉f
 b5:to∉g
 b6:j∉f
 b7:i∉g
section
variable {prog:Program}{w:World}{A:Around}{E:Value->Shared->Prop}{s:Shared}{z ti to i j:Addr}{f g:List Addr}{n1 n2 k:Nat}{P1 P2:Nat->Value->Prop}{S1 S2:Nat->Heap->Prop}{a b:Value}
theorem zmU_ {Q:Value->Shared->Prop}(D1:Draws prog w A i f n1 P1 S1)(D2:Draws prog w A j g n2 P2 S2)(ap:ZpAp z ti to i j f g)
  (hz:IsZip s.heap z ti to .none) (fm:IsPair s.heap ti (.ref i) (.ref j)) (fk:IsPair s.heap to a b) (dy:S1 k s.heap) (cD:S2 k s.heap) (l1:k<n1) (l2:k<n2)
  (hQ:∀ x y h' tk,P1 k x->P2 k y->IsZip h' z ti to (rawInt s.heap.objs.size)->IsPair h' to x y->S1 (k+1) h'->S2 (k+1) h'->IsPair h' s.heap.objs.size x y->h'.objs.size=s.heap.objs.size+1 ->
   (∀ c o,c≠z->c≠to->c≠i->c≠j->s.heap.get? c=some o->h'.get? c=some o)->Q (.ref s.heap.objs.size) { s with heap:=h',toks:=tk }):
  wpAny (model prog w) A (Builtin.«zip.__next__» ⟨[.ref z],[]⟩) (fun fin s'=>∃ v,fin=.done (.ret v)/\Q v s') E s:=by
 obtain ⟨hp,gn,dd,tk0,os⟩:=s
 show wpAny _ _ (field (.ref z) 2>>=_) _ _ _; refine wpAny_bind (wpAny_field hz rfl (x:=.bool false) rfl ?_)
 show wpAny _ _ (field (.ref z) 3>>=_) _ _ _; refine wpAny_bind (wpAny_field hz rfl (x:=.ref ti) rfl ?_)
 refine wpAny_bind (wpAny_seqItems fm rfl ?_); show wpAny _ _ (Builtin.SmallTypes.ownedTupleIsFree (.ref z)>>=_) _ _ _
 refine wpAny_bind ?_; unfold Builtin.SmallTypes.ownedTupleIsFree
 refine wpAny_bind (wpAny_field hz rfl (x:=.none) rfl (wpAny_pure ?_)); simp only [if_true]
 refine wpAny_bind (wpAny_rule ?_); refine wpAny_bind (wpAny_field hz rfl (x:=.ref to) rfl ?_)
 refine wpAny_bind (wpAny_setField_rec hz (by simp) fun q1 (z1:IsZip q1 z ti to .ellipsis) e1=>?_)
 have aG:Heap.ExtBut z hp q1:=e1.extBut
 refine wpAny_bind ?_; simp only [List.zipIdx_cons,List.zipIdx_nil,List.forIn_cons,List.forIn_nil]
 refine wpAny_bind (wpAny_bind (wpAny_onRaise ?_)); show wpAny _ _ (Builtin.SmallTypes.nextOf (.ref i)>>=_) _ _ _
 refine wpAny_bind (D1.item k _ _ _ l1 (D1.frame k _ _ dy fun c hc o e=>aG c o (fun q=>ap.b2 (q ▸ hc)) e) fun x q2 t2 px s2 e2=>wpAny_pure ?_)
 have cR:Heap.ExtBut i q1 q2:=e2.extBut
 have to2:IsPair q2 to a b:=cR _ _ ap.a8 (aG _ _ ap.a2 fk)
 refine wpAny_bind (wpAny_seqItems (s:=⟨q2,gn,dd,t2,os⟩) to2 rfl ?_); refine wpAny_bind (wpAny_updateSeq_pair (s:=⟨q2,gn,dd,t2,os⟩) to2 fun q3 (to3:IsPair q3 to x b) e3=>?_)
 have du:Heap.ExtBut to q2 q3:=e3.extBut
 refine wpAny_bind (wpAny_letGo (wpAny_pure ?_)); refine wpAny_bind (wpAny_bind (wpAny_onRaise ?_)); show wpAny _ _ (Builtin.SmallTypes.nextOf (.ref j)>>=_) _ _ _
 refine wpAny_bind (D2.item k ⟨q3,gn,dd,t2,os⟩ _ _ l2 (D2.frame k _ _ cD fun c hc o e=>du c o (fun q=>ap.b5 (q ▸ hc)) (cR c o (fun q=>ap.b7 (q ▸ hc)) (aG c o (fun q=>ap.b3 (q ▸ hc)) e))) fun y q4 t4 py s4 e4=>wpAny_pure ?_)
 have fJ:Heap.ExtBut j q3 q4:=e4.extBut
 have kU:IsPair q4 to x b:=fJ _ _ ap.a9 to3
 refine wpAny_bind (wpAny_seqItems (s:=⟨q4,gn,dd,t4,os⟩) kU rfl ?_); refine wpAny_bind (wpAny_updateSeq_pair (s:=⟨q4,gn,dd,t4,os⟩) kU fun q5 (kT:IsPair q5 to x y) e5=>?_)
 have e5':Heap.ExtBut to q4 q5:=e5.extBut
 refine wpAny_bind (wpAny_letGo (wpAny_pure (wpAny_pure ?_))); refine wpAny_bind (wpAny_seqItems (s:=⟨q5,gn,dd,t4,os⟩) kT rfl ?_)
 refine wpAny_bind (wpAny_newTuple ?_)
 have sz:q5.objs.size=hp.objs.size:=by rw [e5.1,e4.1,e3.1,e2.1,e1.1]
 have z5:IsZip q5 z ti to .ellipsis:=e5' _ _ ap.a2.symm (fJ _ _ ap.a4.symm (du _ _ ap.a2.symm (cR _ _ ap.a3.symm z1)))
 have kp:∀ c o,c≠z->c≠to->c≠i->c≠j->hp.get? c=some o->q5.get? c=some o:=fun c o c1 c2 c3 c4 e =>
  e5' c o c2 (fJ c o c4 (du c o c2 (cR c o c3 (aG c o c1 e))))
 have zl:z<q5.objs.size:=Heap.lt_size z5
 show wpAny _ _ (Builtin.SmallTypes.ownedTupleHandOut (.ref z) (.ref q5.objs.size)>>=_) _ _ ⟨q5.push _,gn,dd,t4,os⟩
 refine wpAny_bind ?_; unfold Builtin.SmallTypes.ownedTupleHandOut
 have z6:IsZip (q5.push { cls:=.type "tuple",data:=.seq #[x,y] }) z ti to .ellipsis:=Heap.get?_push_of_some _ z5
 refine wpAny_bind (wpAny_setField_rec (s:=⟨q5.push _,gn,dd,t4,os⟩) z6 (by simp) fun q7 (z7:IsZip q7 z ti to (rawInt q5.objs.size)) e7=>?_)
 refine wpAny_setField_rec (s:=⟨q7,gn,dd,t4,os⟩) z7 (by simp) fun q8 (z8:IsZip q8 z ti to (rawInt q5.objs.size)) e8=>?_
 have up:∀ c o,c≠z->(q5.push { cls:=.type "tuple",data:=.seq #[x,y] }).get? c=some o->q8.get? c=some o:=fun c o c1 e=>e8.extBut _ _ c1 (e7.extBut _ _ c1 e)
 have iD:∀ c o,c≠z->q5.get? c=some o->q8.get? c=some o:=fun c o c1 e=>up c o c1 (Heap.get?_push_of_some _ e)
 have t8:IsPair q8 q5.objs.size x y:=up _ _ (Nat.ne_of_gt zl) (Heap.get?_push_size _ rfl)
 have kX:q8.objs.size=q5.objs.size+1:=by rw [e8.1,e7.1]; exact Heap.size_push ..
 rw [sz] at z8 t8 kX
 refine wpAny_pure ⟨_,rfl,?_⟩
 show Q (.ref q5.objs.size) ⟨q8,gn,dd,t4,os⟩
 rw [sz]
 refine hQ x y q8 t4 px py z8 (iD _ _ ap.a2 kT) (D1.frame _ _ _ s2 fun c hc o e=>?_) (D2.frame _ _ _ s4 fun c hc o e=>?_) t8 kX fun c o c1 c2 c3 c4 e=>iD c o c1 (kp c o c1 c2 c3 c4 e)
 ·exact iD c o (fun q=>ap.b2 (q ▸ hc)) (e5' c o (fun q=>ap.b4 (q ▸ hc)) (fJ c o (fun q=>ap.b6 (q ▸ hc)) (du c o (fun q=>ap.b4 (q ▸ hc)) e)))
 ·exact iD c o (fun q=>ap.b3 (q ▸ hc)) (e5' c o (fun q=>ap.b5 (q ▸ hc)) e)
theorem zo1_ {Q:PySem.Fin->Shared->Prop}(D1:Draws prog w A i f n1 P1 S1)(D2:Draws prog w A j g n2 P2 S2)(ap:ZpAp z ti to i j f g)
  (hz:IsZip s.heap z ti to .none) (fm:IsPair s.heap ti (.ref i) (.ref j)) (fk:IsPair s.heap to a b) (dy:S1 k s.heap) (cD:S2 k s.heap) (l1:k=n1\/k<n1/\k=n2)
  (hE:∀ h' e tk,(∀ c o,c≠z->c≠to->c≠i->c≠j->s.heap.get? c=some o->h'.get? c=some o)->(∃ o,h'.get? e=some o/\o.cls=.type "StopIteration")->E (.ref e) { s with heap:=h',toks:=tk }):
  wpAny (model prog w) A (Builtin.«zip.__next__» ⟨[.ref z],[]⟩) Q E s:=by
 obtain ⟨hp,gn,dd,tk0,os⟩:=s
 show wpAny _ _ (field (.ref z) 2>>=_) _ _ _; refine wpAny_bind (wpAny_field hz rfl (x:=.bool false) rfl ?_)
 show wpAny _ _ (field (.ref z) 3>>=_) _ _ _; refine wpAny_bind (wpAny_field hz rfl (x:=.ref ti) rfl ?_)
 refine wpAny_bind (wpAny_seqItems fm rfl ?_); show wpAny _ _ (Builtin.SmallTypes.ownedTupleIsFree (.ref z)>>=_) _ _ _
 refine wpAny_bind ?_; unfold Builtin.SmallTypes.ownedTupleIsFree
 refine wpAny_bind (wpAny_field hz rfl (x:=.none) rfl (wpAny_pure ?_)); simp only [if_true]
 refine wpAny_bind (wpAny_rule ?_); refine wpAny_bind (wpAny_field hz rfl (x:=.ref to) rfl ?_)
 refine wpAny_bind (wpAny_setField_rec hz (by simp) fun q1 (z1:IsZip q1 z ti to .ellipsis) e1=>?_)
 have aG:Heap.ExtBut z hp q1:=e1.extBut
 refine wpAny_bind ?_; simp only [List.zipIdx_cons,List.zipIdx_nil,List.forIn_cons,List.forIn_nil]
 refine wpAny_bind (wpAny_bind (wpAny_onRaise ?_)); show wpAny _ _ (Builtin.SmallTypes.nextOf (.ref i)>>=_) _ _ _
 have f1:S1 k q1:=D1.frame k _ _ dy fun c hc o e=>aG c o (fun q=>ap.b2 (q ▸ hc)) e
 rcases l1 with rfl | ⟨l1,rfl⟩
 ·refine wpAny_bind (D1.done _ _ _ f1 fun q2 e e2 he=>?_)
  obtain ⟨oe,hoe,hce⟩:=he
  have cR:Heap.ExtBut i q1 q2:=e2
  have z2:IsZip q2 z ti to .ellipsis:=cR _ _ ap.a3.symm z1
  have ez:e≠z:=fun x=>by subst x; have df:q2.get? e=some oe:=hoe; rw [z2] at df; cases df; simp at hce
  exact wpAny_setField_rec (s:=⟨q2,gn,dd,tk0,os⟩) z2 (by simp) fun q3 _ e3=>hE q3 e tk0 (fun c o c1 _ c3 _ x=>e3.extBut _ _ c1 (cR c o c3 (aG c o c1 x))) ⟨oe,e3.extBut _ _ ez hoe,hce⟩
 ·refine wpAny_bind (D1.item k _ _ _ l1 f1 fun x q2 t2 px s2 e2=>wpAny_pure ?_)
  have cR:Heap.ExtBut i q1 q2:=e2.extBut
  have to2:IsPair q2 to a b:=cR _ _ ap.a8 (aG _ _ ap.a2 fk)
  refine wpAny_bind (wpAny_seqItems (s:=⟨q2,gn,dd,t2,os⟩) to2 rfl ?_); refine wpAny_bind (wpAny_updateSeq_pair (s:=⟨q2,gn,dd,t2,os⟩) to2 fun q3 (to3:IsPair q3 to x b) e3=>?_)
  have du:Heap.ExtBut to q2 q3:=e3.extBut
  refine wpAny_bind (wpAny_letGo (wpAny_pure ?_)); refine wpAny_bind (wpAny_bind (wpAny_onRaise ?_)); show wpAny _ _ (Builtin.SmallTypes.nextOf (.ref j)>>=_) _ _ _
  refine wpAny_bind (D2.done ⟨q3,gn,dd,t2,os⟩ _ _ (D2.frame k _ _ cD fun c hc o e=>du c o (fun q=>ap.b5 (q ▸ hc)) (cR c o (fun q=>ap.b7 (q ▸ hc)) (aG c o (fun q=>ap.b3 (q ▸ hc)) e))) fun q4 e e4 he=>?_)
  obtain ⟨oe,hoe,hce⟩:=he
  have fJ:Heap.ExtBut j q3 q4:=e4
  have z4:IsZip q4 z ti to .ellipsis:=fJ _ _ ap.a4.symm (du _ _ ap.a2.symm (cR _ _ ap.a3.symm z1))
  have ez:e≠z:=fun x=>by subst x; have df:q4.get? e=some oe:=hoe; rw [z4] at df; cases df; simp at hce
  exact wpAny_setField_rec (s:=⟨q4,gn,dd,t2,os⟩) z4 (by simp) fun q5 _ e5=>hE q5 e t2 (fun c o c1 c2 c3 c4 x=>e5.extBut _ _ c1 (fJ c o c4 (du c o c2 (cR c o c3 (aG c o c1 x))))) ⟨oe,e5.extBut _ _ ez hoe,hce⟩
theorem zl3_ {Q:Option Value->Shared->Prop}(D1:Draws prog w A.in1 i f n1 P1 S1)(D2:Draws prog w A.in1 j g n2 P2 S2)(ap:ZpAp z ti to i j f g)
  (hz:IsZip s.heap z ti to .none) (fm:IsPair s.heap ti (.ref i) (.ref j)) (fk:IsPair s.heap to a b) (dy:S1 k s.heap) (cD:S2 k s.heap) (l1:k<n1) (l2:k<n2)
  (hQ:∀ x y h' tk,P1 k x->P2 k y->IsZip h' z ti to (rawInt s.heap.objs.size)->IsPair h' to x y->S1 (k+1) h'->S2 (k+1) h'->IsPair h' s.heap.objs.size x y->h'.objs.size=s.heap.objs.size+1 ->
   (∀ c o,c≠z->c≠to->c≠i->c≠j->s.heap.get? c=some o->h'.get? c=some o)->Q (some (.ref s.heap.objs.size)) { s with heap:=h',toks:=tk }):
  wpAny (model prog w) A (pyNext (.ref z)) Q E s:=by
 have hT:s.TypeIs (.ref z) "zip":=⟨_,hz,rfl⟩
 unfold pyNext; refine wpAny_bind (wpAny_attempt (wpAny_callSpecial?_slot (name:=Str.ofString "__next__") hT F.slot_zip_next (wpAny_call_entry F.slot_zip_next hT F.entry_zip_next ?_ (F.args_zip_next_1 _))))
 exact zmU_ D1 D2 ap hz fm fk dy cD l1 l2 fun x y h' tk p1 p2 q1 q2 q3 q4 q5 q6 q7=>wpAny_pure (hQ x y h' tk p1 p2 q1 q2 q3 q4 q5 q6 q7)
theorem zoj_ {Q:Option Value->Shared->Prop}(D1:Draws prog w A.in1 i f n1 P1 S1)(D2:Draws prog w A.in1 j g n2 P2 S2)(ap:ZpAp z ti to i j f g)
  (hz:IsZip s.heap z ti to .none) (fm:IsPair s.heap ti (.ref i) (.ref j)) (fk:IsPair s.heap to a b) (dy:S1 k s.heap) (cD:S2 k s.heap) (l1:k=n1\/k<n1/\k=n2)
  (hQ:∀ h' tk,(∀ c o,c≠z->c≠to->c≠i->c≠j->s.heap.get? c=some o->h'.get? c=some o)->Q none { s with heap:=h',toks:=tk }):wpAny (model prog w) A (pyNext (.ref z)) Q E s:=by
 have hT:s.TypeIs (.ref z) "zip":=⟨_,hz,rfl⟩
 unfold pyNext; refine wpAny_bind (wpAny_attempt (wpAny_callSpecial?_slot (name:=Str.ofString "__next__") hT F.slot_zip_next (wpAny_call_entry F.slot_zip_next hT F.entry_zip_next ?_ (F.args_zip_next_1 _))))
 refine zo1_ D1 D2 ap hz fm fk dy cD l1 fun h' e tk hk he=>?_
 obtain ⟨o,ho,hc⟩:=he
 exact wpAny_bind (wpAny_isInstance (s:={ s with heap:=h',toks:=tk }) (T:="StopIteration") (b:=true) ⟨o,ho,hc⟩ isSubtype_stop (wpAny_pure (hQ _ _ hk)))
end
def strIt (x:Str)(t:Tok):Obj:={ cls:=.type (strIterType x),data:=.fields #[.str x t,.int 0 0] }
theorem ziR_ {prog:Program}{w:World}{A:Around}{E:Value->Shared->Prop}{s:Shared}{x:Str}{t:Tok}{Q:Value->Shared->Prop}(h:Q (.ref s.heap.objs.size) { s with heap:=s.heap.push (strIt x t) }):wpAny (model prog w) A (pyIter (.str x t)) Q E s:=by
 unfold strIt at h
 cases ha:x.cps.all (·<128)
 ·rw [show strIterType x="str_iterator" by simp [strIterType,ha]] at h; exact wpAny_pyIter_wide ha h
 ·rw [show strIterType x="str_ascii_iterator" by simp [strIterType,ha]] at h; exact wpAny_pyIter_ascii ha h
abbrev zp1 (h:Heap)(l:Addr):Heap:=h.push { cls:=.type "list_iterator",data:=.fields #[.ref l,.int 0 0] }
abbrev zp2 (h:Heap)(l:Addr)(x:Str)(t:Tok):Heap:=(zp1 h l).push (strIt x t)
abbrev zp3 (h:Heap)(l:Addr)(x:Str)(t:Tok):Heap:=(zp2 h l x t).push { cls:=.type "tuple",data:=.seq #[.ref h.objs.size,.ref (zp1 h l).objs.size] }
abbrev zp4 (h:Heap)(l:Addr)(x:Str)(t:Tok):Heap:=(zp3 h l x t).push { cls:=.type "tuple",data:=.seq #[.none,.none] }
abbrev zp5 (h:Heap)(l:Addr)(x:Str)(t:Tok):Heap:=(zp4 h l x t).push { cls:=.type "zip",data:=.fields #[.none,.bool false,.bool false,.ref (zp2 h l x t).objs.size,.ref (zp3 h l x t).objs.size] }
theorem mt_zp (l:Addr)(x:Str)(t:Tok)(xs:Array Value):
  Meets (Builtin.«zip.__new__» ⟨[.type "zip",.ref l,.str x t],[]⟩) (fun _ R s=>s.heap.IsList l xs/\R (.ok (.ret (.ref (zp4 s.heap l x t).objs.size))) { s with heap:=zp5 s.heap l x t }):=
 .of_wp fun prog w A R s h=>by
  obtain ⟨hp,g,d,tk,os⟩:=s; obtain ⟨iV,h⟩:=h
  have mM:=sub_zip
  have h1:Heap.IsList (Shared.heap ⟨hp,g,d,tk,os⟩) l xs:=iV
  wp_walk using wpAny_pyIter_list h1,ziR_
  exact ⟨_,rfl,h⟩
section
variable {prog:Program}{w:World}{A:Around}{E:Value->Shared->Prop}{s:Shared}
theorem zoT_ {l:Addr}{x:Str}{t:Tok}{xs:Array Value}{Q:Value->Shared->Prop}(hl:s.heap.IsList l xs)
  (h:∀ h',IsZip h' (s.heap.objs.size+4) (s.heap.objs.size+2) (s.heap.objs.size+3) .none->IsPair h' (s.heap.objs.size+2) (.ref s.heap.objs.size) (.ref (s.heap.objs.size+1)) ->
   IsPair h' (s.heap.objs.size+3) .none .none->h'.IsListIter s.heap.objs.size l 0->h'.IsStrIter (s.heap.objs.size+1) (strIterType x) x t 0 ->
   (∀ c o,s.heap.get? c=some o->h'.get? c=some o)->Q (.ref (s.heap.objs.size+4)) { s with heap:=h' }):
  wpAny (model prog w) A (call (.type "zip") [.ref l,.str x t]) Q E s:=by
 refine callType_new F.called_zip (by decide) (F.typeCall_zip_2 _ _) (F.newCall_zip_2 _ _) (fun obj=>F.args_object_init_3 obj _ _) F.entry_zip_new (mt_zp l x t xs) ⟨hl,?_⟩
 have n1:(zp1 s.heap l).objs.size=s.heap.objs.size+1:=Heap.size_push ..
 have n2:(zp2 s.heap l x t).objs.size=s.heap.objs.size+2:=by rw [Heap.size_push,n1]
 have n3:(zp3 s.heap l x t).objs.size=s.heap.objs.size+3:=by rw [Heap.size_push,n2]
 have n4:(zp4 s.heap l x t).objs.size=s.heap.objs.size+4:=by rw [Heap.size_push,n3]
 have up:∀ c o,(zp2 s.heap l x t).get? c=some o->(zp5 s.heap l x t).get? c=some o:=fun c o e=>Heap.get?_push_of_some _ (Heap.get?_push_of_some _ (Heap.get?_push_of_some _ e))
 have g5:(zp5 s.heap l x t).get? (zp4 s.heap l x t).objs.size=some _:=Heap.get?_push_size _ rfl
 have g4:(zp5 s.heap l x t).get? (zp3 s.heap l x t).objs.size=some _:=Heap.get?_push_of_some _ (Heap.get?_push_size _ rfl)
 have g3:(zp5 s.heap l x t).get? (zp2 s.heap l x t).objs.size=some _:=Heap.get?_push_of_some _ (Heap.get?_push_of_some _ (Heap.get?_push_size _ rfl))
 have g2:(zp5 s.heap l x t).get? (zp1 s.heap l).objs.size=some _:=up _ _ (Heap.get?_push_size _ rfl)
 have g1:(zp5 s.heap l x t).get? s.heap.objs.size=some _:=up _ _ (Heap.get?_push_of_some _ (Heap.get?_push_size _ rfl))
 show _/\_
 rw [n2,n3,n4] at g5; rw [n1,n2] at g3; rw [n3] at g4; rw [n1] at g2; rw [n4]
 exact ⟨⟨_,g5,rfl⟩,h _ g5 g3 g4 ⟨_,g1,rfl,rfl⟩ ⟨_,g2,rfl,rfl⟩ fun c o e=>up c o (Heap.get?_push_of_some _ (Heap.get?_push_of_some _ e))⟩
end
def ItzS (K:Fgg)(l:Addr)(n:Nat)(f:Nat->V):It:=
 ⟨fun i H=>∃ xs x,SqL K H l xs/\xs[i]?=some x/\i<n,
  fun i H v H'=>∃ p x,(∀ xs,SqL K H l xs->xs[i]?=some x)/\H p=none/\v=.ref p/\H'=upd H p (.tup [x,f i]),
  fun i H=>∃ xs,SqL K H l xs/\(i=xs.length\/i<xs.length/\i=n)⟩
theorem zk1_ {P:Program}{w:World}{K:Fgg}{elts:List Expr}{kk:Nat}{pos:Pos}(z ti to i1 i2 l:Addr)(t0:Str)(t:Tok)(D:ZpAp z ti to i1 i2 [i1,l] [i2])(iV:l≠i1):
  Turn P w K (.Tuple elts kk pos) (ItzS K l t0.cps.size (sgn t0)) [z,ti,to,i1,i2] z (fun i h=>IsZip h z ti to .none/\IsPair h ti (.ref i1) (.ref i2)/\(∃ a b,IsPair h to a b)/\h.IsListIter i1 l i/\h.IsStrIter i2 (strIterType t0) t0 t i) where
 mem:=by simp
 obj:=fun i h st b hb=>by
  obtain ⟨hz,aX,⟨a,c,bt⟩,⟨o1,ho1,c1,d1⟩,⟨o2,ho2,c2,d2⟩⟩:=st
  rcases List.mem_cons.mp hb with rfl | hb
  ·exact ⟨_,hz,fun v z=>by cases z⟩
  rcases List.mem_cons.mp hb with rfl | hb
  ·exact ⟨_,aX,fun v z=>by cases z⟩
  rcases List.mem_cons.mp hb with rfl | hb
  ·exact ⟨_,bt,fun v z=>by cases z⟩
  rcases List.mem_cons.mp hb with rfl | hb
  ·exact ⟨o1,ho1,fun v z=>by rw [d1] at z; cases z⟩
  ·have e:b=i2:=by simpa using hb
   subst e
   exact ⟨o2,ho2,fun v z=>by rw [d2] at z; cases z⟩
 keep:=fun i h h' st k=>by
  obtain ⟨hz,aX,⟨a,c,bt⟩,h1,o2,ho2,r2⟩:=st
  exact ⟨k z (by simp) _ hz,k ti (by simp) _ aX,⟨a,c,k to (by simp) _ bt⟩,h1.at fun o q=>k i1 (by simp) o q,o2,k i2 (by simp) o2 ho2,r2⟩
 item:=by
  intro X hP hw hK hc i pins s σ H E I hf st hg
  subst hP hw hK
  obtain ⟨xs,x,hq,hx,hin⟩:=hg
  obtain ⟨aa,rv,p,hz0⟩:=I.list hq
  obtain ⟨u,hu,ru⟩:=rv.get hx
  obtain ⟨hz,aX,⟨a,c,bt⟩,h1,h2⟩:=st
  have lt:∀ {c o},s.heap.get? c=some o->c<s.heap.objs.size:=fun e=>Heap.lt_size e
  have lz:=lt hz
  have jv:=lt aX
  have ju:=lt bt
  have l1:i1<s.heap.objs.size:=by obtain ⟨o,e,_⟩:=id h1; exact lt e
  have l2:i2<s.heap.objs.size:=by obtain ⟨o,e,_⟩:=id h2; exact lt e
  have jU:i<aa.toArray.size:=by have:=(List.getElem?_eq_some_iff.mp hu).1; simpa using this
  refine zl3_ (Draws.list (A:=X.A.in1) (show X.A.in1.handled=none from I.ok.hd hc) i1 l iV aa.toArray) (zhz_ (t:=t) X.A.in1 (I.ok.hd hc)) D hz aX bt ⟨h1,p.isList⟩ h2 jU hin fun u' v h3 tk pu pv z3 kJ fe fb ji mw hU=>?_
  obtain rfl:u'=u:=by
   have e:aa.toArray[i]?=some u':=pu
   rw [List.getElem?_toArray,hu] at e
   exact (Option.some.inj e).symm
  have aN:RelV (sgn t0 i) v:=zf3_ pv
  refine ⟨_,rfl,?_⟩
  refine wpAny_letOwnedTupleGo_zip (s:={ s with heap:=h3,toks:=tk }) z3 fun h4 z4 cn=>?_
  replace cn:Heap.SameBut z h3 h4:=cn
  have hp:H s.heap.objs.size=none:=I.hok.fresh (Nat.le_refl _)
  have I1:Inv X pins σ (upd H s.heap.objs.size (.tup [x,sgn t0 i])) { s with heap:=s.heap.push { cls:=.type "tuple",data:=.seq #[u',v] },toks:=tk }:=by
   refine I.laid (fun b u q=>Heap.get?_push_of_some _ q) (Nat.le_refl _) ⟨?_,[u',v],.cons ru (.cons aN .nil),⟨_,Heap.get?_push_size _ rfl,rfl,_,rfl⟩⟩
   show 2<=sizeLine
   decide
  have ay:∀ b∈[z,ti,to,i1,i2],b<s.heap.objs.size:=fun b hb=>by
   simp only [List.mem_cons,List.not_mem_nil,or_false] at hb
   rcases hb with rfl | rfl | rfl | rfl | rfl
   ·exact lz
   ·exact jv
   ·exact ju
   ·exact l1
   ·exact l2
  have eC:∀ b∈[z,ti,to,i1,i2],FpOk X pins (upd H s.heap.objs.size (.tup [x,sgn t0 i])) b:=fun b hb=>by
   obtain ⟨f0,r⟩:=hf b hb
   refine ⟨?_,r⟩
   rw [zZ_ (Nat.ne_of_lt (ay b hb))]
   exact f0
  have I2:Inv X pins σ (upd H s.heap.objs.size (.tup [x,sgn t0 i])) { s with heap:=h4,toks:=tk }:=by
   refine Inv.turnedL (s:={ s with heap:=s.heap.push { cls:=.type "tuple",data:=.seq #[u',v] },toks:=tk }) (ch:=[z,ti,to,i1,i2]) I1 (fun b o hb q=>?_) eC
   have n1:b≠z:=fun e=>hb (by simp [e])
   have n2:b≠to:=fun e=>hb (by simp [e])
   have n3:b≠i1:=fun e=>hb (by simp [e])
   have n4:b≠i2:=fun e=>hb (by simp [e])
   refine (cn.2 b n1).trans ?_
   rcases Heap.get?_push_cases q with ⟨rfl,rfl⟩ | q'
   ·exact ji
   ·exact hU b o n1 n2 n3 n4 q'
  refine ⟨.ref s.heap.objs.size,_,I2,rfl,⟨s.heap.objs.size,x,fun zs gQ=>by rw [I.list_inj gQ hq]; exact hx,hp,rfl,rfl⟩,⟨z4,?_,⟨u',v,?_⟩,?_,?_⟩,fun b hb=>(eC b hb).1⟩
  ·exact (cn.2 ti D.a1).trans (hU ti _ D.a1 D.a5 D.a6 D.a7 aX)
  ·exact (cn.2 to D.a2).trans kJ
  ·exact fe.1.extBut cn.extBut D.a3
  ·exact fb.extBut cn.extBut D.a4
 done:=by
  intro X hP hw hK hc i pins s σ H E I hf st hg
  subst hP hw hK
  obtain ⟨xs,hq,hx⟩:=hg
  obtain ⟨aa,rv,p,hz0⟩:=I.list hq
  obtain ⟨hz,aX,⟨a,c,bt⟩,h1,h2⟩:=st
  have hl:=rv.length
  refine zoj_ (Draws.list (A:=X.A.in1) (show X.A.in1.handled=none from I.ok.hd hc) i1 l iV aa.toArray) (zhz_ (t:=t) X.A.in1 (I.ok.hd hc)) D hz aX bt ⟨h1,p.isList⟩ h2 (by rw [hl] at hx; simpa using hx) fun h' tk eb=>⟨rfl,?_⟩
  exact Inv.turnedL (s:=s) (t':=tk) (ch:=[z,ti,to,i1,i2]) I (fun b o hb q=>eb b o (fun e=>hb (by simp [e])) (fun e=>hb (by simp [e])) (fun e=>hb (by simp [e])) (fun e=>hb (by simp [e])) q) hf
 self:=fun _ _ _ _ _ st h=>wpAny_pyIter_zip st.1 h
theorem zlZ_ {N l:Nat}(hl:l<N):ZpAp (N+4) (N+2) (N+3) N (N+1) [N,l] [N+1]:=by
 have q:∀ {a b:Nat},a≠b->(a:Addr)≠(b:Addr):=fun h=>h
 have m1:∀ {a b:Nat},a≠b->(a:Addr)∉([b]:List Addr):=fun h e=>h (List.mem_singleton.mp e)
 have m2:∀ {a b c:Nat},a≠b->a≠c->(a:Addr)∉([b,c]:List Addr):=fun h1 h2 e=>by
  rcases List.mem_cons.mp e with e | e
  ·exact h1 e
  ·exact h2 (List.mem_singleton.mp e)
 exact ⟨q (by lia),q (by lia),q (by lia),q (by lia),q (by lia),q (by lia),q (by lia),q (by lia),q (by lia),q (by lia),m2 (by lia) (by lia),m1 (by lia),m2 (by lia) (by lia),m1 (by lia),m2 (by lia) (by lia),m1 (by lia)⟩
section
variable {X:Cx}{elts:List Expr}{kk:Nat}{eM:Pos}
def iZipX (K:Fgg)(ta:TA):TI:=fun σ H R=>ta σ H fun vs H1=>match vs with
 | [.ref a,.ref b]=>(∃ xs,SqL K H1 a xs)/\(∃ ys,SqL K H1 b ys)/\R (Itz K a b) H1
 | [.ref a,.str x]=>(∃ xs,SqL K H1 a xs)/\R (ItzS K a x.cps.size (sgn x)) H1
 | _=>False
theorem zop_ {a b:Expr}{ta:TA}{p pos:Pos}(hm:Gb X.mg "zip")(ha:PA X [a,b] ta)(hg:Gl X "zip":=by rfl)(hs:starEach [a,b] X.env=[(false,eval a X.env),(false,eval b X.env)]:=by rfl)(bE:starEach [b] X.env=[(false,eval b X.env)]:=by rfl):
  PI X (.Tuple elts kk eM) (.Call (.Name "zip" p) [a,b] [] pos) (iZipX X.K ta):=by
 intro pins s σ H R I h
 refine Call_ (zhd_ I hg hm (u:=.type "zip") (by rfl) (PyProof.Rows.callWith_type1 (thn (ha pos pins s σ H _ I h) fun us s1 af=>?_) (by rw [hs,bE]) (by rw [bE]; rfl)))
 obtain ⟨vs,H1,I1,r1,q1⟩:=af
 try dsimp only at q1
 have lo:∀ b∈[s1.heap.objs.size+4,s1.heap.objs.size+2,s1.heap.objs.size+3,s1.heap.objs.size,s1.heap.objs.size+1],s1.heap.objs.size<=b:=fun b hb=>by
  simp only [List.mem_cons,List.not_mem_nil,or_false] at hb
  rcases hb with rfl | rfl | rfl | rfl | rfl<;>first | exact Nat.le_add_right _ _ | exact Nat.le_refl _
 split at q1
 ·rename_i l m
  obtain ⟨⟨xs,hq⟩,⟨ys,dX⟩,q⟩:=q1
  obtain ⟨w1,w2,rfl,r,r'⟩:=vals2 r1
  cases r
  cases r'
  obtain ⟨aa,rv,p1,hz⟩:=I1.list hq
  obtain ⟨aq,rv2,p2,hz2⟩:=I1.list dX
  refine call_zip_2 p1.isList p2.isList fun h' gP aX bt h1 h2 hsz hk=>?_
  refine wpAny_pyIter_zip (s:={ s1 with heap:=h' }) gP ?_
  have I2:Inv X pins σ H1 { s1 with heap:=h' }:=I1.kept (t':=s1.toks) hk
  have la:l<s1.heap.objs.size:=by obtain ⟨o,e,_⟩:=p1.isList; exact Heap.lt_size e
  have lb:m<s1.heap.objs.size:=by obtain ⟨o,e,_⟩:=p2.isList; exact Heap.lt_size e
  refine ⟨s1.heap.objs.size+4,[s1.heap.objs.size+4,s1.heap.objs.size+2,s1.heap.objs.size+3,s1.heap.objs.size,s1.heap.objs.size+1],_,_,H1,rfl,I2,zmS_ _ _ _ _ _ l m (zka_ la lb),⟨gP,aX,⟨_,_,bt⟩,h1,h2⟩,fun b hb=>?_,q⟩
  exact I1.fpOk (lo b hb) (I1.hok.fresh (lo b hb))
 ·rename_i l x
  obtain ⟨⟨xs,hq⟩,q⟩:=q1
  obtain ⟨w1,w2,rfl,r,r'⟩:=vals2 r1
  cases r
  obtain ⟨t,rfl⟩:=r'
  obtain ⟨aa,rv,p1,hz⟩:=I1.list hq
  refine zoT_ p1.isList fun h' gP aX bt h1 h2 hk=>?_
  refine wpAny_pyIter_zip (s:={ s1 with heap:=h' }) gP ?_
  have I2:Inv X pins σ H1 { s1 with heap:=h' }:=I1.kept (t':=s1.toks) hk
  have la:l<s1.heap.objs.size:=by obtain ⟨o,e,_⟩:=p1.isList; exact Heap.lt_size e
  refine ⟨s1.heap.objs.size+4,[s1.heap.objs.size+4,s1.heap.objs.size+2,s1.heap.objs.size+3,s1.heap.objs.size,s1.heap.objs.size+1],_,_,H1,rfl,I2,zk1_ _ _ _ _ _ l x t (zlZ_ la) (Nat.ne_of_lt la),⟨gP,aX,⟨_,_,bt⟩,h1,h2⟩,fun b hb=>?_,q⟩
  exact I1.fpOk (lo b hb) (I1.hok.fresh (lo b hb))
 ·exact q1.elim
variable {K:Fgg}{E:XK}{α:Type}{L:List Sl}{T:Ty α}
theorem zmD_ {r:Mo (List α×List Nat)}{ta:TA}(h:EvA K ta E L r (csCons (tyL T) (csLast tyStr))):EvI K (iZipX K ta) E L (r.bind fun c=>.ok (c.1.zip (c.2.map fun c=>[c]))) (tyTup (csCons T (csLast tyStr))):=by
 intro σ F H R hL hs q
 refine h σ F H _ hL hs (q.bind.imp fun l F1 H1 x1 k1 vs hv=>?_)
 obtain ⟨v,ws,rfl,⟨p,us,rfl,hp,hr⟩,v2,rfl,rfl⟩:=hv
 refine ⟨⟨us,.of (x1.2.1 _ _ hp)⟩,k1.ok x1.2.1 _ ⟨fun i H x hH hx=>?_,fun H hH=>?_⟩⟩
 ·obtain ⟨fV,ck⟩:=List.getElem?_zip_eq_some.mp (show (l.1.zip (l.2.map fun c=>[c]))[i]?=some (x.1,x.2) from hx)
  rcases hr.get i with ⟨a,_⟩ | ⟨y,u,a,b,c⟩
  ·rw [a] at fV; cases fV
  rw [a] at fV
  injection fV with fV
  rw [List.getElem?_map] at ck
  cases e2:l.2[i]? with
  | none=>rw [e2] at ck; cases ck
  | some c2 =>
   rw [e2] at ck
   injection ck with ck
   have hi:=(List.getElem?_eq_some_iff.mp e2).1
   refine ⟨⟨us,u,.of (hH _ _ hp),b,hi⟩,?_⟩
   rintro v H' ⟨p3,w,z,hp3,rfl,rfl⟩ F hF hF'
   have e:=z us (.of (hH _ _ hp))
   rw [b] at e; cases e
   have x':=Ext.new (o:=.tup [u,L2.sgn ⟨l.2.toArray⟩ i]) hF' hp3
   refine ⟨_,x',p3,_,rfl,zD_,_,_,rfl,?_,_,rfl,?_⟩
   ·rw [<- fV]; exact T.mono (hF.trans x'.1) c
   ·rw [<- ck]
    have e3:(l.2.toArray).getD i 0=c2:=by rw [Array.getD_eq_getD_getElem?,List.getElem?_toArray,e2]; rfl
    show V.str ⟨#[(l.2.toArray).getD i 0]⟩=tx [c2]
    rw [e3]
 ·refine ⟨us,.of (hH _ _ hp),?_⟩
  rw [List.length_zip,hr.len,List.length_map]
  show min us.length l.2.length=us.length\/min us.length l.2.length<us.length/\min us.length l.2.length=l.2.length
  lia
variable {β ρ:Type}{F0 H0 F h H:Hp}{e:TE}{r:Mo α}{O:Own ρ}{u:TS}
theorem Hold.atM:∀ {L:List Sl}{σ:St}{F h:Hp}(i:Nat) {s:Sl},Hold L σ F h->L[i]?=some s ->
  ∃ o h1 h2,σ[i]?=some o/\Jn h1 h2 h/\s.P o F h1/\∀ F' s' o' h1' h',Same F F'->Jn h1' h2 h'->s'.P o' F' h1'->Hold (L.set i s') (σ.set i o') F' h'
 | [],_,_,_,_,_,_,e=>by cases e
 | s::L,[],_,_,_,_,q,_=>q.elim
 | s::L,o::σ,F,h,0,t,⟨h1,h2,j,p,r⟩,e=>by
  cases e
  exact ⟨o,h1,h2,rfl,j,p,fun F' s' o' h1' h' g j' p'=>⟨h1',h2,j',p',r.mono g⟩⟩
 | s::L,o::σ,F,h,i+1,t,⟨h1,h2,j,p,r⟩,e=>by
  obtain ⟨o1,k1,k2,e1,j1,p1,f⟩:=Hold.atM i r (by simpa using e)
  have d1:Dj h1 k1:=fun p=>by
   rcases j.dj p with a | a
   ·exact .inl a
   ·exact .inr (j1.l.free a)
  have d2:Dj h1 k2:=fun p=>by
   rcases j.dj p with a | a
   ·exact .inl a
   ·exact .inr (j1.r.free a)
  refine ⟨o1,k1,un h1 k2,by simpa using e1,fun p=>?_,p1,fun F' s' o' av h' g j' p'=>?_⟩
  ·rcases j p with ⟨a,b⟩ | ⟨a,b⟩
   ·rcases j1 p with ⟨c,d⟩ | ⟨c,d⟩
    ·refine .inl ⟨c,?_⟩; unfold un; rw [a,b,d]
    ·refine .inr ⟨?_,by rw [b,d]⟩; unfold un; rw [a,c]
   ·refine .inl ⟨j1.l.free a,?_⟩
    have:k2 p=none:=j1.r.free a
    unfold un; rw [b]
    cases h1 p with
    | none=>rw [this]
    | some u=>rfl
  ·have dd:Dj av k2:=fun p=>by
    rcases j' p with ⟨a,b⟩ | ⟨a,b⟩
    ·exact .inl a
    ·right; unfold un at a
     cases z:h1 p with
     | none=>rw [z] at a; exact a
     | some u=>rw [z] at a; cases a
   refine ⟨h1,un av k2,fun p=>?_,p.mono g,f F' s' o' av _ g (zfO_ dd) p'⟩
   rcases j' p with ⟨a,b⟩ | ⟨a,b⟩
   ·unfold un at b ⊢
    cases z:h1 p with
    | none=>rw [z] at b; exact .inl ⟨rfl,by rw [b,a]⟩
    | some u =>
     rw [z] at b
     refine .inr ⟨?_,b⟩
     rw [a]
     rcases d2 p with y | y
     ·rw [y] at z; cases z
     ·exact y
   ·unfold un at a
    cases z:h1 p with
    | some u=>rw [z] at a; cases a
    | none =>
     rw [z] at a
     refine .inl ⟨rfl,?_⟩
     unfold un; rw [b]
     cases av p with
     | none=>exact a.symm
     | some u=>rfl
structure PutC (F2 H2 h H0 k k' F3 H3:Hp):Prop where
 ff:Same F2 F3
 fh:Same F3 H3
 ol:Same (less H2 k) H3
 nw:∀ q,F2 q=none->F3 q≠none->H2 q=none\/k q≠none
 kh:Same k' H3
 dj:Dj F3 k'
 fr:∀ q,k q=none->k' q≠none->h q=none/\H0 q=none
theorem zgQ_ {O1:Own α}{i:Nat}{σ:St}{x:α}(hL:Hold L σ F h)(hi:L[i]?=some (.ow O1 x))(ok:Okk F0 H0 F h H):
  ∃ v k,σ[i]?=some (some v)/\O1.O x v F k/\Same k H/\Same k h/\Dj F k/\∀ {β:Type}(O2:Own β) (x':β) (v':V) (k' F3 H3:Hp),PutC F H h H0 k k' F3 H3->O2.O x' v' F3 k' ->
   ∃ h',Hold (L.set i (.ow O2 x')) (σ.set i (some v')) F3 h'/\Okk F0 H0 F3 h' H3:=by
 obtain ⟨o,k,hr,e1,j,⟨v,e2,ho⟩,f⟩:=hL.atM i hi
 subst e2
 obtain ⟨o1,o2,o3,o4,o5⟩:=ok
 have kh:Same k h:=j.l
 have rh:Same hr h:=j.r
 have lp:∀ q,k q≠none->h q≠none:=fun q z w=>z (kh.free w)
 refine ⟨v,k,e1,ho,kh.trans o3,kh,fun q=>?_,?_⟩
 ·rcases o2 q with z | z
  ·exact .inl z
  ·exact .inr (kh.free z)
 intro β O2 x' v' k' F3 H3 P eB
 have rk:∀ {q o},hr q=some o->k q=none:=fun {q o} z=>by
  rcases j.dj q with y | y
  ·exact y
  ·rw [y] at z; cases z
 have dj:Dj k' hr:=fun q=>by
  by_cases w:k' q=none
  ·exact .inl w
  ·right
   by_cases w2:k q=none
   ·exact rh.free (P.fr q w2 w).1
   ·rcases j.dj q with y | y
    ·exact absurd y w2
    ·exact y
 have rH:∀ {q o},hr q=some o->H3 q=some o:=fun {q o} z=>P.ol q o (by rw [zbw_ (rk z)]; exact o3 _ _ (rh _ _ z))
 refine ⟨un k' hr,f F3 (.ow O2 x') (some v') k' _ P.ff (zfO_ dj) ⟨_,rfl,eB⟩,⟨o1.1.trans P.ff,P.fh,fun q o z=>?_,fun q a b=>?_⟩,fun q=>?_,fun q o z=>?_,fun q z=>?_,fun q xs z=>?_⟩
 ·have hq:h q=none:=by
   cases w:h q with
   | none=>rfl
   | some s=>have:=o4 q (by rw [w]; exact sN _); rw [this] at z; cases z
  exact P.ol q o (by rw [zbw_ (kh.free hq)]; exact o1.2.2.1 _ _ z)
 ·by_cases w:F q=none
  ·rcases P.nw q w b with y | y
   ·exact o1.2.2.1.free y
   ·exact o4 q (lp q y)
  ·exact o1.2.2.2 q a w
 ·unfold un
  cases w:k' q with
  | some s =>
   left
   rcases P.dj q with y | y
   ·exact y
   ·rw [y] at w; cases w
  | none =>
   cases y:hr q with
   | none=>exact .inr rfl
   | some s =>
    left
    have hq:h q=some s:=rh _ _ y
    have Fq:F q=none:=by
     rcases o2 q with d | d
     ·exact d
     ·rw [d] at hq; cases hq
    by_cases w3:F3 q=none
    ·exact w3
    ·rcases P.nw q Fq w3 with d | d
     ·rw [o3 _ _ hq] at d; cases d
     ·exact absurd (rk y) d
 ·unfold un at z
  cases w:k' q with
  | some s=>rw [w] at z; rw [P.kh q s w]; exact z
  | none=>rw [w] at z; exact rH z
 ·unfold un at z
  cases w:k' q with
  | some s =>
   by_cases y:k q=none
   ·exact (P.fr q y (by rw [w]; exact sN _)).2
   ·exact o4 q (lp q y)
  | none =>
   rw [w] at z
   exact o4 q fun y=>z (rh.free y)
 ·unfold un at z
  cases w:k' q with
  | some s=>rw [w] at z; refine O2.notup eB q xs ?_; rw [w]; exact z
  | none=>rw [w] at z; exact o5 q xs (rh _ _ z)
theorem PutC.same {k k':Hp}{H3:Hp}(ok:Okk F0 H0 F h H)(kh:Same k h)(a:Same k' H3)(b:∀ q,k q=none->k' q=none->H3 q=H q)(c:∀ q,k q=none->k' q≠none->F q=none/\h q=none/\H0 q=none/\H q=k' q):PutC F H h H0 k k' F H3:=by
 have dj:Dj F k':=fun q=>by
  by_cases w:k' q=none
  ·exact .inr w
  ·left
   by_cases y:k q=none
   ·exact (c q y w).1
   ·rcases ok.2.1 q with d | d
    ·exact d
    ·exact absurd (kh.free d) y
 have ol:∀ q o,k q=none->H q=some o->H3 q=some o:=fun q o y z=>by
  by_cases w:k' q=none
  ·rw [b q y w]; exact z
  ·obtain ⟨_,_,_,e⟩:=c q y w
   rw [z] at e
   exact a _ _ e.symm
 refine ⟨Same.refl _,fun q o z=>?_,fun q o z=>?_,fun q y z=>absurd y z,a,dj,fun q y z=>⟨(c q y z).2.1,(c q y z).2.2.1⟩⟩
 ·have y:k q=none:=by
   rcases ok.2.1 q with d | d
   ·rw [d] at z; cases z
   ·exact kh.free d
  exact ol q o y (ok.1.2.1 _ _ z)
 ·unfold less at z
  split at z
  ·rename_i y; exact ol q o y z
  ·cases z
theorem PutC.one {p:Addr}{o o':HO}(ok:Okk F0 H0 F h H)(kh:Same (one p o) h):PutC F H h H0 (one p o) (one p o') F (upd H p o'):=by
 have ne:∀ q,L2.one p o q=none->q≠p:=fun q z w=>by rw [w,zx_] at z; cases z
 refine PutC.same ok kh (fun q s z=>?_) (fun q z1 z2=>zZ_ (ne q z1)) fun q z1 z2=>?_
 ·unfold L2.one at z
  split at z
  ·rename_i w; unfold upd; rw [if_pos w]; exact z
  ·cases z
 ·unfold L2.one at z2
  rw [if_neg (ne q z1)] at z2
  exact absurd rfl z2
end
abbrev tyV0:Ty V:=⟨fun a v _=>v=a,fun _ h=>h⟩
section
end
section
variable {α:Type}
def OwAll (O:Own α)(F:Hp):List α->List V->Hp->Prop
 | [],[],h=>∀ p,h p=none
 | x::xs,v::vs,h=>∃ h1 h2,Jn h1 h2 h/\O.O x v F h1/\OwAll O F xs vs h2
 | _,_,_=>False
variable {O:Own α}
theorem OwAll.mono:∀ {xs:List α}{vs:List V}{F F' h:Hp},Same F F'->OwAll O F xs vs h->OwAll O F' xs vs h
 | [],[],_,_,_,_,q=>q
 | x::xs,v::vs,F,F',h,g,⟨h1,h2,j,o,r⟩=>⟨h1,h2,j,O.mono g o,r.mono g⟩
 | [],_::_,_,_,_,_,q=>q.elim
 | _::_,[],_,_,_,_,q=>q.elim
theorem OwAll.notup:∀ {xs:List α}{vs:List V}{F h:Hp},OwAll O F xs vs h->∀ p ys,h p≠some (.tup ys)
 | [],[],_,_,q,p,ys=>by rw [q p]; exact fun z=>by cases z
 | x::xs,v::vs,F,h,⟨h1,h2,j,o,r⟩,p,ys=>by
  rcases j p with ⟨_,b⟩ | ⟨_,b⟩
  ·rw [b]; exact r.notup p ys
  ·rw [b]; exact O.notup o p ys
 | [],_::_,_,_,q,_,_=>q.elim
 | _::_,[],_,_,q,_,_=>q.elim
theorem OwAll.len:∀ {xs:List α}{vs:List V}{F h:Hp},OwAll O F xs vs h->xs.length=vs.length
 | [],[],_,_,_=>rfl
 | x::xs,v::vs,F,h,⟨h1,h2,j,o,r⟩=>by rw [List.length_cons,List.length_cons,r.len]
 | [],_::_,_,_,q=>q.elim
 | _::_,[],_,_,q=>q.elim
theorem zdC_ {F h1 h:Hp}(d:Dj F h)(s:Same h1 h):Same (un F h1) (un F h):=fun p o e=>by
 unfold un at e ⊢
 cases z:F p with
 | some w=>rw [z] at e; exact e
 | none=>rw [z] at e; exact s _ _ e
theorem OwAll.prs:∀ {xs:List α}{vs:List V}{F h G:Hp},Dj F h->Same (un F h) G->OwAll O F xs vs h->Prs O.fr G xs vs
 | [],[],_,_,_,_,_,_=>.nil
 | x::xs,v::vs,F,h,G,d,g,⟨h1,h2,j,o,r⟩=>by
  have d1:Dj F h1:=fun p=>by
   rcases d p with z | z
   ·exact .inl z
   ·exact .inr (j.l.free z)
  have d2:Dj F h2:=fun p=>by
   rcases d p with z | z
   ·exact .inl z
   ·exact .inr (j.r.free z)
  exact .cons (O.fr.mono ((zdC_ d j.l).trans g) (O.frz d1 o)) (r.prs d2 ((zdC_ d j.r).trans g))
 | [],_::_,_,_,_,_,_,q=>q.elim
 | _::_,[],_,_,_,_,_,q=>q.elim
theorem zkt_ {h1 h2 h:Hp}(j:Jn h1 h2 h):Jn h2 h1 h:=fun p=>by
 rcases j p with ⟨a,b⟩ | ⟨a,b⟩
 ·exact .inr ⟨a,b⟩
 ·exact .inl ⟨a,b⟩
theorem zgM_ {h1 h2 lM h3 h:Hp}(j:Jn h1 h2 lM)(k:Jn lM h3 h):∃ lL,Jn h2 h3 lL/\Jn h1 lL h:=by
 have d:Dj h2 h3:=fun p=>by
  rcases k.dj p with z | z
  ·exact .inl (j.r.free z)
  ·exact .inr z
 refine ⟨un h2 h3,zfO_ d,fun p=>?_⟩
 unfold un
 rcases k p with ⟨a,b⟩ | ⟨a,b⟩
 ·refine .inl ⟨j.l.free a,?_⟩
  rw [j.r.free a]; exact b
 ·rcases j p with ⟨c,e⟩ | ⟨c,e⟩
  ·refine .inl ⟨c,?_⟩
   rw [b,e]
   cases z:h2 p with
   | none=>exact a.symm ▸ rfl
   | some w=>rfl
  ·refine .inr ⟨?_,by rw [b,e]⟩
   rw [c]; exact a
theorem OwAll.at:∀ {xs:List α}{vs:List V}{F h:Hp}(i:Nat) {x:α},OwAll O F xs vs h->xs[i]?=some x ->
  ∃ v h1 h2,vs[i]?=some v/\Jn h1 h2 h/\O.O x v F h1/\∀ x' h1' h' F3,Same F F3->O.O x' v F3 h1'->Jn h1' h2 h'->OwAll O F3 (xs.set i x') vs h'
 | [],_,_,_,_,_,_,e=>by cases e
 | x::xs,[],_,_,_,_,q,_=>q.elim
 | x::xs,v::vs,F,h,0,y,⟨h1,h2,j,o,r⟩,e=>by
  cases e
  exact ⟨v,h1,h2,rfl,j,o,fun x' h1' h' F3 g o' j'=>⟨h1',h2,j',o',r.mono g⟩⟩
 | x::xs,v::vs,F,h,i+1,y,⟨h1,h2,j,o,r⟩,e=>by
  obtain ⟨w,k1,k2,e1,j1,o1,f⟩:=OwAll.at i r (by simpa using e)
  obtain ⟨m,jm,jh⟩:=zgM_ j1 (zkt_ j)
  refine ⟨w,k1,m,by simpa using e1,jh,o1,fun x' av h' F3 g o' j'=>?_⟩
  have d:Dj av k2:=fun p=>by
   rcases j'.dj p with z | z
   ·exact .inl z
   ·exact .inr (jm.l.free z)
  refine ⟨h1,un av k2,?_,O.mono g o,f x' av _ F3 g o' (zfO_ d)⟩
  intro p
  rcases j' p with ⟨a,b⟩ | ⟨a,b⟩
  ·rcases jm p with ⟨c,e⟩ | ⟨c,e⟩
   ·right
    refine ⟨by unfold un; rw [a,c],by rw [b,e]⟩
   ·left
    refine ⟨c,by unfold un; rw [a,b,e]⟩
  ·left
   refine ⟨jm.r.free a,?_⟩
   unfold un
   rw [b]
   cases z:av p with
   | none=>exact (jm.l.free a).symm ▸ rfl
   | some w=>rfl
abbrev owLO (O:Own α):Own (List α):=⟨fun xs v F h=>∃ p vs h2,v=.ref p/\Jn (one p (.lst vs)) h2 h/\OwAll O F xs vs h2,tyL O.fr,fun g ⟨p,vs,h2,e,j,q⟩=>⟨p,vs,h2,e,j,q.mono g⟩,
 fun {a v F h} d ⟨p,vs,h2,e,j,q⟩=>⟨p,vs,e,zfQ_ d _ _ (j.l _ _ zx_),q.prs (fun b=>by
  rcases d b with z | z
  ·exact .inl z
  ·exact .inr (j.r.free z)) (zdC_ d j.r)⟩,
 fun ⟨p,vs,h2,e,j,q⟩ b xs y=>by
  rcases j b with ⟨_,z⟩ | ⟨_,z⟩
  ·rw [z] at y; exact q.notup b xs y
  ·rw [z] at y; unfold one at y; split at y<;>cases y⟩
end
section
variable {K:Fgg}{E:XK}{α β ρ S B:Type}{F0 H0 F h H:Hp}{L:List Sl}{e te ei:TE}{T:Ty α}{r:Mo α}{Or:Own ρ}{u:TS}{LS:S->List Sl}{LB:B->List Sl}{σ:St}
def Foc (F0 H0:Hp)(σ:St)(h F1:Hp)(O':Own β)(y:β)(u:V)(LF:β->List Sl):Prop:=
 ∀ F2 H2,Same F1 F2->Okk F0 H0 F2 h H2->∃ k,O'.O y u F2 k/\Same k h /\
  ∀ y' k' F3 H3,PutC F2 H2 h H0 k k' F3 H3->O'.O y' u F3 k'->∃ h',Hold (LF y') σ F3 h'/\Okk F0 H0 F3 h' H3
theorem zna_ {O:Own α}{x:α}{i:Nat}(hL:Hold L σ F h)(hi:L[i]?=some (.ow O x)):∃ v,σ[i]?=some (some v)/\Foc F0 H0 σ h F O x v (fun x'=>L.set i (.ow O x')):=by
 obtain ⟨o,_,_,e1,_,⟨v,e2,_⟩,_⟩:=hL.at i hi
 subst e2
 refine ⟨v,e1,fun F2 H2 s ok=>?_⟩
 obtain ⟨v',k,aG,ho,_,kh,_,g⟩:=zgQ_ (hL.mono s) hi ok
 rw [e1] at aG; cases aG
 refine ⟨k,ho,kh,fun y' k' F3 H3 a b=>?_⟩
 obtain ⟨h',a1,a2⟩:=g O y' v k' F3 H3 a b
 rw [zaK_ e1] at a1
 exact ⟨h',a1,a2⟩
theorem Foc.part {O:Own α}{O':Own β}{F1:Hp}{y:α}{z:β}{w u:V}{LF:α->List Sl}{put:β->α}(f:Foc F0 H0 σ h F1 O y u LF)
  (pt:∀ F2 k,Same F1 F2->Same k h->O.O y u F2 k->∃ k1 k2,Jn k1 k2 k/\O'.O z w F2 k1/\∀ z' av k' F3,Same F2 F3->O'.O z' w F3 av->Jn av k2 k'->O.O (put z') u F3 k'):Foc F0 H0 σ h F1 O' z w (fun z'=>LF (put z')):=by
 intro F2 H2 s ok
 obtain ⟨k,ho,kh,g⟩:=f F2 H2 s ok
 obtain ⟨k1,k2,j,bS,pp⟩:=pt F2 k s kh ho
 refine ⟨k1,bS,j.l.trans kh,fun z' av F3 H3 P hz=>?_⟩
 have d:Dj av k2:=fun q=>by
  by_cases w1:av q=none
  ·exact .inl w1
  ·right
   by_cases w2:k1 q=none
   ·exact (j.r.trans kh).free (P.fr q w2 w1).1
   ·rcases j.dj q with y | y
    ·exact absurd y w2
    ·exact y
 have lq:∀ {q o},k2 q=some o->k1 q=none/\H3 q=some o:=fun {q o} e=>by
  have y1:k1 q=none:=by
   rcases j.dj q with y1 | y1
   ·exact y1
   ·rw [y1] at e; cases e
  exact ⟨y1,P.ol q o (by rw [zbw_ y1]; exact ok.2.2.1 _ _ (kh _ _ (j.r _ _ e)))⟩
 refine g (put z') (un av k2) F3 H3 ⟨P.ff,P.fh,fun q o e=>?_,(fun q a b=>(P.nw q a b).imp id fun z w=>z (j.l.free w)),fun q o e=>?_,fun q=>?_,fun q a1 a2=>?_⟩ (pp z' av _ F3 P.ff hz (zfO_ d))
 ·unfold less at e
  split at e
  ·rename_i y; exact P.ol q o (by rw [zbw_ (j.l.free y)]; exact e)
  ·cases e
 ·unfold un at e
  cases y:av q with
  | some s=>rw [y] at e; rw [P.kh q s y]; exact e
  | none=>rw [y] at e; exact (lq e).2
 ·unfold un
  cases y:av q with
  | some s =>
   rcases P.dj q with d | d
   ·exact .inl d
   ·rw [d] at y; cases y
  | none =>
   cases e:k2 q with
   | none=>exact .inr rfl
   | some s =>
    left
    have hq:h q=some s:=kh _ _ (j.r _ _ e)
    have Fq:F2 q=none:=by
     rcases ok.2.1 q with d | d
     ·exact d
     ·rw [d] at hq; cases hq
    by_cases w3:F3 q=none
    ·exact w3
    ·rcases P.nw q Fq w3 with d | d
     ·rw [ok.2.2.1 _ _ hq] at d; cases d
     ·exact absurd (lq e).1 d
 ·unfold un at a2
  have y2:k2 q=none:=j.r.free a1
  have y:av q≠none:=fun y=>by rw [y] at a2; exact a2 y2
  exact P.fr q (j.l.free a1) y
def EvPt (K:Fgg)(te:TE)(E:XK)(L:List Sl)(i:Nat)(O:Own α)(O':Own β)(r:Mo (β×(β->α))):Prop:=
 ∀ F0 H0 σ F h H (Q:VK),Hold L σ F h->Okk F0 H0 F h H->After K r E (un F h) H (fun yp G1 H1=>∀ u,Foc F0 H0 σ h (less G1 h) O' yp.1 u (fun z=>L.set i (.ow O (yp.2 z)))->Q u H1)->te σ H Q
theorem zlC_ {O:Own α}{x:α}{i:Nat}(hi:L[i]?=some (.ow O x)):EvPt K (mVar i) E L i O O (.ok (x,fun z=>z)):=by
 intro F0 H0 σ F h H Q hL ok q
 obtain ⟨o,hs,_⟩:=ok.back (Ext.refl ok.thaw)
 obtain ⟨v,ev,fc⟩:=zna_ (F0:=F0) (H0:=H0) (hL.mono hs) hi
 exact zcr_ ev (q.ok ok.thaw v fc)
theorem znJ_ {O:Own β}{p:Addr}{xs:List β}{n:Nat}{y:β}{vs:List V}{w:V}(hv:h p=some (.lst vs))(hw:vs[n]?=some w)(e:xs[n]?=some y):
  ∀ F2 k,Same k h->(owLO O).O xs (.ref p) F2 k->∃ k1 k2,Jn k1 k2 k/\O.O y w F2 k1/\∀ y' av k' F3,Same F2 F3->O.O y' w F3 av->Jn av k2 k'->(owLO O).O (xs.set n y') (.ref p) F3 k':=by
 rintro F2 k kh ⟨p',a_,k2,ep,j,all⟩
 cases ep
 have ev:a_=vs:=by
  have:=kh _ _ (j.l _ _ zx_)
  rw [hv] at this
  injection this with this
  injection this with this
  exact this.symm
 subst ev
 obtain ⟨w',a1,a2,e1,j1,o1,f⟩:=all.at n e
 rw [hw] at e1; cases e1
 obtain ⟨m,jm,jk⟩:=zgM_ j1 (zkt_ j)
 refine ⟨a1,m,jk,o1,fun y' av k' F3 g o' j'=>?_⟩
 have d:Dj av a2:=fun q=>by
  rcases j'.dj q with z | z
  ·exact .inl z
  ·exact .inr (jm.l.free z)
 refine ⟨p,a_,un av a2,rfl,?_,f y' av _ F3 g o' (zfO_ d)⟩
 intro q
 rcases j' q with ⟨a,b⟩ | ⟨a,b⟩
 ·rcases jm q with ⟨c,e⟩ | ⟨c,e⟩
  ·right
   refine ⟨by unfold un; rw [a,c],by rw [b,e]⟩
  ·left
   refine ⟨c,by unfold un; rw [a,b,e]⟩
 ·left
  refine ⟨jm.r.free a,?_⟩
  unfold un
  rw [b]
  cases z:av q with
  | none=>exact (jm.l.free a).symm ▸ rfl
  | some w=>rfl
theorem zhr_ {G1 G2 h:Hp}(s:Same G1 G2):Same (less G1 h) (less G2 h):=fun p o e=>by
 unfold less at e ⊢
 split at e
 ·exact s _ _ e
 ·cases e
theorem zqh_ {O:Own α}{O':Own β}{i:Nat}{r:Mo (List β×(List β->α))}{rj:Mo Int}(hp:EvPt K te E L i O (owLO O') r)(hj:EvF K ei E L rj tyInt):
  EvPt K (tOp (mIx K) te ei) E L i O O' (r.bind fun yp=>rj.bind fun j=>(Mo.opt (ixN yp.1.length j)).bind fun n=>(Mo.opt (yp.1[n]?)).bind fun z=>.ok (z,fun z'=>yp.2 (yp.1.set n z'))):=by
 intro F0 H0 σ F h H Q hL ok q
 refine hp F0 H0 σ F h H _ hL ok (q.bind.imp fun yp G1 H1 x1 k1 u fc=>?_)
 refine hj σ G1 H1 _ ((hL.froz ok.2.1).mono x1.1) x1.2.1 (k1.bind.imp fun j G2 H2 x2 k2 v2 aT=>?_)
 cases aT
 obtain ⟨n,en,k3⟩:=k2.bind.opt
 obtain ⟨z,ez,k4⟩:=(k3.ok x2.2.1).bind.opt
 have k5:=(k4.ok x2.2.1).ok x2.2.1
 obtain ⟨o2,_,_⟩:=ok.back (x1.trans x2)
 obtain ⟨k,⟨p,vs,m,rfl,jn,all⟩,kh,_⟩:=fc (less G2 h) H2 (zhr_ x2.1) o2
 have dC:h p=some (.lst vs):=kh _ _ (jn.l _ _ zx_)
 refine ⟨vs,.inl (.of (o2.2.2.1 _ _ dC)),?_⟩
 have hl:=all.len
 have hn:=zg5_ en
 have hw:vs[n]?=some vs[n]:=List.getElem?_eq_getElem (by lia)
 have nu:ixN vs.length j=some n:=by rw [<- hl]; exact en
 have ea:atI vs j=some vs[n]:=by unfold atI; rw [nu]; exact hw
 rw [ea]
 refine k5 _ (Foc.part (O:=owLO O') (y:=yp.1) (put:=fun z'=>yp.1.set n z') (LF:=fun y'=>L.set i (.ow O (yp.2 y'))) (u:=.ref p) (fun F2 H3 s ok=>fc F2 H3 ((zhr_ x2.1).trans s) ok) fun F2 k s kh ho=>?_)
 exact znJ_ dC hw ez F2 k kh ho
theorem zkc_ {O:Own β}{i:Nat}{r0:Mo (List α×(List α->β))}{k:β->Mo (Out ρ B S)}(hp:EvPt K te E L i O (owL T) r0)(hT:Imm T)(he:EvF K e E L r T)(hk:∀ x',EvS K u E (L.set i (.ow O x')) (k x') LS LB Or):
  EvS K (tSeq (tDrop (tBM K "list" rAppend te (tCons e tNil))) u) E L (r0.bind fun yp=>r.bind fun a=>.lim (yp.1.length+1) (k (yp.2 (yp.1++[a])))) LS LB Or:=by
 intro F0 H0 σ F h H D hL ok fin
 show te σ H fun x H1=>tyV K "list" x H1/\tCons e tNil σ H1 fun xs H2=>rAppend x xs H2 (fun _ H3=>u D σ H3)
 refine hp F0 H0 σ F h H _ hL ok (zao_ (G:=F) ok _ (.inl rfl) fin fun yp G1 H1 jJ x1 u0 fc=>?_)
 obtain ⟨o1,hs1,_⟩:=ok.back x1
 rw [jJ] at fin
 obtain ⟨k0,⟨p,vs,rfl,rfl,_⟩,kh,_⟩:=fc _ H1 (Same.refl _) o1
 have jK:h p=some (.lst vs):=kh _ _ zx_
 refine ⟨.inl ⟨rfl,vs,.of (o1.2.2.1 _ _ jK)⟩,?_⟩
 refine he σ (un (less G1 h) h) H1 _ ((hL.mono hs1).froz o1.2.1) o1.thaw (zao_ (G:=F) o1 _ (.inl rfl) fin fun a G2 H2 cp x2 v hv=>?_)
 obtain ⟨o2,bE,ht2⟩:=o1.back x2
 rw [cp] at fin
 obtain ⟨hz,fin⟩:=zeV_ (show Fin K (Mo.lim (yp.1.length+1) (k (yp.2 (yp.1++[a])))) E LS LB Or F0 H0 D from fin)
 obtain ⟨k1,⟨p',a_,e',rfl,pr⟩,kh',g⟩:=fc _ H2 bE o2
 cases e'
 have ev:a_=vs:=by
  have:=kh' _ _ zx_
  rw [jK] at this
  injection this with this
  injection this with this
  exact this.symm
 subst ev
 obtain ⟨h',a1,a2⟩:=g (yp.1++[a]) (one p (.lst (a_++[v]))) _ (upd H2 p (.lst (a_++[v]))) (PutC.one o2 kh') ⟨p,_,rfl,rfl,pr.append (.cons (hT ht2 hv) .nil)⟩
 exact ⟨p,a_,v,rfl,rfl,o2.2.2.1 _ _ jK,by rw [<- pr.len]; lia,hk _ F0 H0 σ _ h' _ D a1 a2 fin⟩
end
def mFld (C:Addr)(te:TE)(f:Str):TE:=fun σ H Q=>te σ H fun x H1=>match x with
 | .ref a=>∃ dx fs v,H1 a=some (.ins C dx fs)/\fs.lookup f=some v/\Q v H1
 | _=>False
def mSFld (C:Addr)(te tv:TE)(f:Str):TS:=fun D σ H=>tv σ H fun y H1=>te σ H1 fun x H2=>match x with
 | .ref a=>∃ dx fs,H2 a=some (.ins C dx fs)/\fs.length<1000/\D.nx σ (upd H2 a (.ins C dx (putF f y fs)))
 | _=>False
section
variable {X:Cx}{e value o:Expr}{f x:Str}{pos pos':Pos}{ta tv:TE}{C:Addr}
theorem zu_ (c:Cls X.K C)(n:NoAttr X.K C f)(he:PE X e ta)(hb:attributeBase e f X.env (eval e X.env)=eval e X.env:=by rfl):PE X (.Attribute e f pos) (mFld C ta f):=by
 intro pins s σ H Q I h
 refine znN_ hb (thn (he pins s σ H _ I h) fun u s1 af=>?_)
 obtain ⟨x,H1,I1,rx,q1⟩:=af
 cases x with
 | ref a =>
  obtain ⟨dx,fs,v,ea,l,q⟩:=q1
  obtain rfl:u=Value.ref a:=rx
  exact ziI_ I1 ea c n l fun u' s2 I2 ru=>⟨v,H1,I2,ru,q⟩
 | _=>exact q1.elim
theorem zcI_ (c:Cls X.K C)(n:NoAttr X.K C f)(ha:PE X o ta)(hv:PE X value tv)(hs:swapsWith value (some (.Attribute o f pos')) pos.line X.env=pure false:=by rfl):PS X (.Assign [.Attribute o f pos'] value pos) (mSFld C ta tv f):=by
 intro pins s σ H D I h
 refine plainObj_wpAny_Assign_Attribute (thn (hv pins s σ H _ I h) fun u s1 ⟨y,H1,I1,ry,q⟩=>thn (ha pins s1 σ H1 _ I1 q) fun ov s2 af=>?_) hs
 obtain ⟨x,H2,I2,rx,q2⟩:=af
 cases x with
 | ref a =>
  obtain ⟨dx,fs,ea,l,q3⟩:=q2
  obtain rfl:ov=Value.ref a:=rx
  exact zjF_ I2 ea c n l ry fun s3 I3=>⟨σ,_,I3,q3⟩
 | _=>exact q2.elim
end
theorem zgx_:∀ {ns:List Str}{vs:List V}{i:Nat}{f:Str}{v:V},ns.Nodup->ns[i]?=some f->vs[i]?=some v->(ns.zip vs).lookup f=some v
 | [],_,_,_,_,_,h,_=>by simp at h
 | n::ns,[],_,_,_,_,_,h=>by simp at h
 | n::ns,w::vs,0,f,v,_,h,h'=>by
  simp at h h'; subst h h'
  rw [List.zip_cons_cons,List.lookup_cons,beq_self_eq_true]
 | n::ns,w::vs,i+1,f,v,nd,h,h'=>by
  obtain ⟨h1,h2⟩:=List.nodup_cons.mp nd
  have hf:ns[i]?=some f:=by simpa using h
  have bH:(f == n)=false:=beq_eq_false_iff_ne.mpr fun z=>h1 (z ▸ List.mem_of_getElem? hf)
  rw [List.zip_cons_cons,List.lookup_cons,bH]
  exact zgx_ h2 hf (by simpa using h')
theorem zgP_:∀ {ns:List Str}{vs:List V}{f:Str}(v:V),f∉ns->vs.length=ns.length->putF f v (ns.zip vs)=(ns++[f]).zip (vs++[v])
 | [],[],f,v,_,_=>rfl
 | [],_::_,_,_,_,h=>by simp at h
 | _::_,[],_,_,_,h=>by simp at h
 | n::ns,w::vs,f,v,h,hl=>by
  have bH:¬ n=f:=fun z=>h (z ▸ List.mem_cons_self ..)
  rw [List.zip_cons_cons,putF,if_neg bH,zgP_ v (fun z=>h (List.mem_cons_of_mem _ z)) (by simpa using hl)]; rfl
structure Ps (γ:Type) where
 P:γ->List V->Hp->Hp->Prop
 fr:Cs γ
 mono:∀ {c vs F F' h},Same F F'->P c vs F h->P c vs F' h
 frz:∀ {c vs F h},Dj F h->P c vs F h->fr.R c vs (un F h)
 notup:∀ {c vs F h},P c vs F h->∀ p xs,h p≠some (.tup xs)
section
variable {α β γ:Type}
theorem dj_l {F h1 h2 h:Hp}(d:Dj F h)(j:Jn h1 h2 h):Dj F h1:=fun p=>by
 rcases d p with z | z
 ·exact .inl z
 ·exact .inr (j.l.free z)
theorem dj_r {F h1 h2 h:Hp}(d:Dj F h)(j:Jn h1 h2 h):Dj F h2:=fun p=>by
 rcases d p with z | z
 ·exact .inl z
 ·exact .inr (j.r.free z)
abbrev psNil:Ps Unit:=⟨fun _ vs _ h=>vs=[]/\∀ p,h p=none,csNil,fun _ q=>q,fun _ q=>q.1,fun q p xs z=>by rw [q.2 p] at z; cases z⟩
abbrev psO (O:Own α)(P:Ps γ):Ps (α×γ):=⟨fun c vs F h=>∃ v us h1 h2,vs=v::us/\Jn h1 h2 h/\O.O c.1 v F h1/\P.P c.2 us F h2,csCons O.fr P.fr,
 fun g ⟨v,us,h1,h2,e,j,a,b⟩=>⟨v,us,h1,h2,e,j,O.mono g a,P.mono g b⟩,
 fun d ⟨v,us,h1,h2,e,j,a,b⟩=>⟨v,us,e,O.fr.mono (zdC_ d j.l) (O.frz (dj_l d j) a),P.fr.mono (zdC_ d j.r) (P.frz (dj_r d j) b)⟩,
 fun ⟨v,us,h1,h2,e,j,a,b⟩ p xs z=>by
  rcases j p with ⟨_,y⟩ | ⟨_,y⟩
  ·rw [y] at z; exact P.notup b p xs z
  ·rw [y] at z; exact O.notup a p xs z⟩
def two (p dx:Addr)(o:HO):Hp:=fun q=>if q=p then some o else if q=dx then some (.own p) else none
theorem zm7_ {p dx:Addr}{o:HO}:two p dx o p=some o:=if_pos rfl
theorem znj_ {p dx:Addr}{o:HO}(h:dx≠p):two p dx o dx=some (.own p):=by unfold two; rw [if_neg h,if_pos rfl]
theorem znT_ {p dx q:Addr}{o:HO}(h:two p dx o q=none):q≠p/\q≠dx:=by
 refine ⟨fun e=>?_,fun e=>?_⟩
 ·rw [e,zm7_] at h; cases h
 ·unfold two at h; split at h
  ·cases h
  ·first | cases h | (rw [if_pos e] at h; cases h)
abbrev tyI (C:Addr)(ns:List Str)(Q:Cs γ):Ty γ:=⟨fun c v H=>∃ p dx vs,v=.ref p/\H p=some (.ins C dx (ns.zip vs))/\vs.length=ns.length/\Q.R c vs H,fun g ⟨p,dx,vs,e,h,l,q⟩=>⟨p,dx,vs,e,g _ _ h,l,Q.mono g q⟩⟩
abbrev owI (C:Addr)(ns:List Str)(P:Ps γ):Own γ:=⟨fun c v F h=>∃ p dx vs k,v=.ref p/\dx≠p/\Jn (two p dx (.ins C dx (ns.zip vs))) k h/\vs.length=ns.length/\P.P c vs F k,tyI C ns P.fr,
 fun g ⟨p,dx,vs,k,e,n,j,l,q⟩=>⟨p,dx,vs,k,e,n,j,l,P.mono g q⟩,
 fun d ⟨p,dx,vs,k,e,n,j,l,q⟩=>⟨p,dx,vs,e,zfQ_ d _ _ (j.l _ _ zm7_),l,P.fr.mono (zdC_ d j.r) (P.frz (dj_r d j) q)⟩,
 fun ⟨p,dx,vs,k,e,n,j,l,q⟩ b xs y=>by
  rcases j b with ⟨_,z⟩ | ⟨_,z⟩
  ·rw [z] at y; exact P.notup q b xs y
  ·rw [z] at y; unfold two at y; split at y
   ·cases y
   ·split at y<;>cases y⟩
abbrev owAt (u:V)(O:Own α):Own α:=⟨fun a v F h=>v=u/\O.O a v F h,O.fr,fun g q=>⟨q.1,O.mono g q.2⟩,fun d q=>O.frz d q.2,fun q=>O.notup q.2⟩
def PsAt (P:Ps γ)(n:Nat)(O:Own β)(pr:γ->β)(st:γ->β->γ):Prop:=∀ {c vs F h},P.P c vs F h->∃ v h1 h2,vs[n]?=some v/\Jn h1 h2 h/\O.O (pr c) v F h1/\∀ z' h1' h' F3,Same F F3->O.O z' v F3 h1'->Jn h1' h2 h'->P.P (st c z') vs F3 h'
theorem pat_0 {O:Own β}{P:Ps γ}:PsAt (psO O P) 0 O (fun c=>c.1) (fun c z=>(z,c.2)):=fun ⟨v,us,h1,h2,e,j,a,b⟩=>by
 subst e
 exact ⟨v,h1,h2,rfl,j,a,fun z' h1' h' F3 g o' j'=>⟨v,us,h1',h2,rfl,j',o',P.mono g b⟩⟩
theorem jn_re {b t m a h:Hp}(jm:Jn b t m)(j:Jn a m h):Jn t (un a b) h:=fun q=>by
 rcases j q with ⟨x,y⟩ | ⟨x,y⟩
 ·rcases jm q with ⟨c,e⟩ | ⟨c,e⟩
  ·right
   refine ⟨by unfold un; rw [x,c],by rw [y,e]⟩
  ·left
   refine ⟨c,by unfold un; rw [x,y,e]⟩
 ·left
  refine ⟨jm.r.free x,?_⟩
  unfold un
  rw [y]
  cases z:a q with
  | none=>exact (jm.l.free x).symm ▸ rfl
  | some w=>rfl
theorem dj_of {a b t m h:Hp}(jm:Jn b t m)(j:Jn a m h):Dj a b:=fun q=>by
 rcases j.dj q with z | z
 ·exact .inl z
 ·exact .inr (jm.l.free z)
def PsAdd (P:Ps γ)(O:Own β){δ:Type}(P':Ps δ)(ad:γ->β->δ):Prop:=∀ {c vs F h},P.P c vs F h->∀ z v' h1' h' F3,Same F F3->O.O z v' F3 h1'->Jn h1' h h'->P'.P (ad c z) (vs++[v']) F3 h'
theorem zfI_ {O:Own β}:PsAdd psNil O (psO O psNil) (fun _ z=>(z,())):=fun q z v' h1' h' F3 g o' j'=>by
 rw [q.1]
 exact ⟨v',[],h1',_,rfl,j',o',rfl,q.2⟩
theorem z2_ {O:Own α}{O':Own β}{P:Ps γ}{δ:Type}{P':Ps δ}{ad:γ->β->δ}(h:PsAdd P O' P' ad):PsAdd (psO O P) O' (psO O P') (fun c z=>(c.1,ad c.2 z)):=fun ⟨v,us,h1,h2,e,j,a,b⟩ z v' av h' F3 g o' j'=>by
 subst e
 have jm:Jn h2 h1 _:=zkt_ j
 exact ⟨v,us++[v'],h1,un av h2,rfl,jn_re jm j',O.mono g a,h b z v' av _ F3 g o' (zfO_ (dj_of jm j'))⟩
variable {K:Fgg}{E:XK}{δ ρ S B:Type}{F0 H0 F h H:Hp}{L:List Sl}{e te:TE}{T:Ty α}{r:Mo α}{Or:Own ρ}{u:TS}{LS:S->List Sl}{LB:B->List Sl}{σ:St}{C:Addr}{ns:List Str}{f:Str}{i n:Nat}
theorem zO_ {Q:Cs γ}{pr:γ->α}{r:Mo γ}(nd:ns.Nodup)(hf:ns[n]?=some f)(ha:CsAt Q n T pr)(he:EvF K te E L r (tyI C ns Q)):EvF K (mFld C te f) E L (r.bind fun c=>.ok (pr c)) T:=by
 intro σ F H R hL hs q
 refine he σ F H _ hL hs (q.bind.imp fun c F1 H1 x1 k1 v af=>?_)
 obtain ⟨p,dx,vs,e,hp,hl,hc⟩:=af
 subst e
 obtain ⟨w,ew,aN⟩:=ha hc
 exact ⟨dx,_,w,x1.2.1 _ _ hp,zgx_ nd hf ew,k1.ok x1.2.1 w aN⟩
theorem zlb_ {p dx:Addr}{o o':HO}{m h2 hn:Hp}{k:Hp}(ok:Okk F0 H0 F h H)(kh:Same k h)(cZ:dx≠p)(jn:Jn (two p dx o) m k)(fF:Same h2 m)(fresh:∀ q,hn q≠none->F q=none/\h q=none/\H0 q=none)(hs:Same hn H)(dn:Dj hn h2):
  Jn (two p dx o') (un hn h2) (un (two p dx o') (un hn h2))/\PutC F H h H0 k (un (two p dx o') (un hn h2)) F (upd H p o'):=by
 have jM:∀ q,hn q≠none->k q=none:=fun q z=>kh.free (fresh q z).2.1
 have kp:k p=some o:=jn.l _ _ zm7_
 have jz:k dx=some (.own p):=jn.l _ _ (znj_ cZ)
 have m0:∀ q,two p dx o q≠none->m q=none:=fun q z=>by
  rcases jn.dj q with y | y
  ·exact absurd y z
  ·exact y
 have bx:∀ {o:HO}{q},two p dx o q≠none->q=p\/q=dx:=fun {o q} z=>by
  by_cases a:q=p
  ·exact .inl a
  ·by_cases b:q=dx
   ·exact .inr b
   ·exact absurd (by unfold two; rw [if_neg a,if_neg b]) z
 have dj:Dj (two p dx o') (un hn h2):=fun q=>by
  by_cases z:two p dx o' q=none
  ·exact .inl z
  ·right
   have kq:k q≠none:=by
    rcases bx z with e | e
    ·rw [e,kp]; exact sN _
    ·rw [e,jz]; exact sN _
   have hq:hn q=none:=by
    by_cases y:hn q=none
    ·exact y
    ·exact absurd (jM q y) kq
   have mq:m q=none:=m0 q (by
    rcases bx z with e | e
    ·rw [e,zm7_]; exact sN _
    ·rw [e,znj_ cZ]; exact sN _)
   unfold un; rw [hq]; exact fF.free mq
 refine ⟨zfO_ dj,PutC.same ok kh (fun q s z=>?_) (fun q z1 z2=>zZ_ fun e=>?_) fun q z1 z2=>?_⟩
 ·unfold un at z
  cases y:two p dx o' q with
  | some w =>
   rw [y] at z
   by_cases e:q=p
   ·rw [e,zm7_] at y; rw [e,zD_,y]; exact z
   ·rw [zZ_ e]
    have e2:q=dx:=by
     rcases bx (o:=o') (q:=q) (by rw [y]; exact sN _) with a | a
     ·exact absurd a e
     ·exact a
    rw [e2,znj_ cZ] at y
    rw [<- z,<- y,e2]; exact ok.2.2.1 _ _ (kh _ _ jz)
  | none =>
   rw [y] at z
   have e:=(znT_ y).1
   rw [zZ_ e]
   cases x:hn q with
   | some w=>rw [x] at z; rw [<- z]; exact hs _ _ x
   | none=>rw [x] at z; exact ok.2.2.1 _ _ (kh _ _ (jn.r _ _ (fF _ _ z)))
 ·rw [e,kp] at z1; cases z1
 ·have e1:two p dx o' q=none:=by
   by_cases y:two p dx o' q=none
   ·exact y
   ·rcases bx y with e | e
    ·rw [e,kp] at z1; cases z1
    ·rw [e,jz] at z1; cases z1
  have e2:h2 q=none:=fF.free (jn.r.free z1)
  have eu:un (two p dx o') (un hn h2) q=hn q:=by
   unfold un; rw [e1]
   cases x:hn q with
   | some w=>rfl
   | none=>exact e2
  rw [eu] at z2 ⊢
  obtain ⟨a,b,c⟩:=fresh q z2
  refine ⟨a,b,c,?_⟩
  cases x:hn q with
  | none=>exact absurd x z2
  | some w=>exact hs _ _ x
theorem zqZ_ {P:Ps γ}{P':Ps δ}{ad:γ->α->δ}{x:γ}{w:V}{k:δ->Mo (Out ρ B S)}(hi:L[i]?=some (.ow (owAt w (owI C ns P)) x))(hf:f∉ns)(jG:ns.length<900)(pp:PsAdd P (owF T) P' ad)(hT:Imm T)(he:EvF K e E L r T)(hk:∀ x',EvS K u E (L.set i (.ow (owAt w (owI C (ns++[f]) P')) x')) (k x') LS LB Or):
  EvS K (tSeq (mSFld C (mVar i) e f) u) E L (r.bind fun a=>k (ad x a)) LS LB Or:=by
 intro F0 H0 σ F h H D hL ok fin
 refine he σ (un F h) H _ (hL.froz ok.2.1) ok.thaw (zao_ (G:=F) ok _ (.inl rfl) fin fun a F' H' cp x1 v hv=>?_)
 obtain ⟨o,hs,ht⟩:=ok.back x1
 rw [cp] at fin
 obtain ⟨v0,k0,e1,⟨ew,p,dx,vs,m,rfl,cZ,jn,hl,ps⟩,kH,kh,_,g⟩:=zgQ_ (hL.mono hs) hi o
 have dC:H' p=some (.ins C dx (ns.zip vs)):=kH _ _ (jn.l _ _ zm7_)
 refine zcr_ e1 ⟨dx,_,dC,by rw [List.length_zip]; omega,?_⟩
 rw [zgP_ v hf hl]
 have nul:∀ q,(fun _:Addr=>(none:Option HO)) q≠none->less F' h q=none/\h q=none/\H0 q=none:=fun q z=>absurd rfl z
 obtain ⟨j',PC⟩:=zlb_ (o':=.ins C dx ((ns++[f]).zip (vs++[v]))) (hn:=fun _=>none) o kh cZ jn (Same.refl m) nul (fun q o z=>by cases z) (fun q=>.inl rfl)
 have eu:un (fun _=>none) m=m:=by funext q; rfl
 rw [eu] at j' PC
 obtain ⟨h',a1,a2⟩:=g (owAt w (owI C (ns++[f]) P')) (ad x a) (.ref p) _ _ _ PC ⟨ew,p,dx,vs++[v],m,rfl,cZ,j',by rw [List.length_append,List.length_append,hl]; rfl,pp ps a v (fun _=>none) m _ (Same.refl _) ⟨fun _=>rfl,hT ht hv⟩ (fun q=>.inl ⟨rfl,rfl⟩)⟩
 rw [zaK_ e1] at a1
 exact hk _ F0 H0 σ _ h' _ D a1 a2 fin
variable {t:TS}{m:Str}
def FinM (K:Fgg)(r:Mo ρ)(E:XK)(F0 H0:Hp)(kk:ρ->Hp->Hp->Hp->Prop):Prop:=match r with
 | .ok a=>∀ F h H,Okk F0 H0 F h H->kk a F h H
 | .ex c=>∀ F h H,Okk F0 H0 F h H->Tell K E c H0 F H
 | .no=>False
abbrev owRM (w:V)(O2:Own β)(Or:Own ρ):Own (ρ×β):=⟨fun r v F h=>∃ h1 h2,Jn h1 h2 h/\Or.O r.1 v F h1/\O2.O r.2 w F h2,⟨fun r v H=>Or.fr.R r.1 v H,fun g q=>Or.fr.mono g q⟩,
 fun g ⟨h1,h2,j,a,b⟩=>⟨h1,h2,j,Or.mono g a,O2.mono g b⟩,
 fun d ⟨h1,h2,j,a,b⟩=>Or.fr.mono (zdC_ d j.l) (Or.frz (dj_l d j) a),
 fun ⟨h1,h2,j,a,b⟩ p xs z=>by
  rcases j p with ⟨_,y⟩ | ⟨_,y⟩
  ·rw [y] at z; exact O2.notup b p xs z
  ·rw [y] at z; exact Or.notup a p xs z⟩
def CtM (K:Fgg)(O:Own α)(O2:Own β)(Q:Cs γ)(g:α->γ->Mo (ρ×β))(Or:Own ρ):Sp:=fun vs H R E=>∃ F h x c w ws,vs=w::ws/\Same F H/\Dj F h/\Same h H/\O.O x w F h/\Q.R c ws F /\
 FinM K (g x c) E F (less H h) fun r F' h' H'=>∀ v,(owRM w O2 Or).O r v F' h'->R v H'
theorem zou_ {k:Hp}(ok:Okk F0 H0 F h H)(s:Same k h):Okk F0 H0 F k H:=by
 refine ⟨ok.1,fun p=>?_,s.trans ok.2.2.1,fun p z=>ok.2.2.2.1 p fun y=>z (s.free y),fun p xs z=>ok.2.2.2.2 p xs (s _ _ z)⟩
 rcases ok.2.1 p with z | z
 ·exact .inl z
 ·exact .inr (s.free z)
theorem zhH_ {h:Hp}(p:Addr)(z:h p≠none):less H h p=none:=by
 unfold less
 cases y:h p with
 | none=>exact absurd y z
 | some w=>rfl
theorem zgo_:Same (less H h) H:=fun p o z=>by
 unfold less at z
 split at z
 ·exact z
 ·cases z
theorem zmg_ (hs:Same F H)(dj:Dj F h)(hh:Same h H)(nt:∀ p xs,h p≠some (.tup xs)):Okk F (less H h) F h H:=by
 refine ⟨⟨Same.refl _,hs,zgo_,fun p a b=>absurd a b⟩,dj,hh,fun p z=>zhH_ p z,nt⟩
def fnMU (r:Mo (Out (Unit×β) Unit β)):Mo (Unit×β):=r.bind fun o=>match o with | .rt a=>.ok a | .nx x=>.ok ((),x) | _=>.no
theorem zjC_ {O:Own α}{Q:Cs γ}{ss:γ->List Sl}{x:α}{c:γ}{w:V}{ws:List V}(m:Nat)(hC:CsS Q ss)(hO:O.O x w F h)(hc:Q.R c ws F):Hold (.ow (owAt w O) x::(ss c++List.replicate m .dead)) (some w::(ws.map some++List.replicate m none)) F h:=
 ⟨h,fun _=>none,fun _=>.inr ⟨rfl,rfl⟩,⟨w,rfl,rfl,hO⟩,(hC hc).hold m⟩
theorem zof_ {t:XK->TS}{O:Own α}{O2:Own β}{Q:Cs γ}{ss:γ->List Sl}{g:α->γ->Mo (Out (Unit×β) Unit β)}{N:List Str}{LS:V->β->List Sl}(n m:Nat)(hn:CsN Q n)(hm:N.length-(n+1)=m)(hC:CsS Q ss)(j7:∀ w x,(LS w x)[0]?=some (.ow (owAt w O2) x))
  (hb:∀ w x c E,EvS K (t E) E (.ow (owAt w O) x::(ss c++List.replicate m .dead)) (g x c) (LS w) (fun _:Unit=>[]) (owRM w O2 (owF tyNon))):
  ∀ vs H R E,CtM K O O2 Q (fun x c=>fnMU (g x c)) (owF tyNon) vs H R E->t E { nx:=fun _ H'=>R .non H',rt:=R } (start N vs) H:=by
 rintro vs H R E ⟨F,h,x,c,w,ws,rfl,hs,dj,hh,hO,hc,q⟩
 have aU:start N (w::ws)=some w::(ws.map some++List.replicate m none):=by
  unfold start
  rw [List.length_cons,hn hc,hm]; rfl
 rw [aU]
 refine hb w x c E F (less H h) _ F h H _ (zjC_ m hC hO hc) (zmg_ hs dj hh (O.notup hO)) ?_
 cases e:g x c with
 | no=>simp only [fnMU,e] at q; exact q
 | ex cc=>simp only [fnMU,e] at q; exact q
 | ok o =>
  simp only [fnMU,e] at q
  cases o with
  | nx s =>
   intro σ F' h' H' hL ok
   obtain ⟨o,k,hr,e1,j,⟨v,e2,e3,ho⟩,_⟩:=hL.at 0 (j7 w s)
   subst e3
   exact q F' k H' (zou_ ok j.l) .non ⟨fun _=>none,k,fun _=>.inl ⟨rfl,rfl⟩,⟨fun _=>rfl,rfl⟩,ho⟩
  | bk s=>exact q.elim
  | ct s=>exact q.elim
  | rt a=>exact fun v F' h' H' ok hv=>q F' h' H' ok v hv
theorem zhN_ {P:Ps γ}{Q:Cs δ}{ta:TA}{ra:Mo δ}{g:Unit->δ->Mo (Unit×γ)}(ha:EvA K ta E L ra Q):
  EvO K (tMake C (CtM K (owI C [] psNil) (owI C ns P) Q g (owF tyNon)) [] E0 ta) E L (ra.bind fun c=>(g () c).noex.bind fun q=>.ok q.2) (owI C ns P):=by
 intro σ F H R hL hs q
 refine ha σ F H _ hL hs (q.bind.imp fun c F1 H1 x1 k1 vs aS x dx hx m6 cZ=>?_)
 rw [List.append_nil]
 have new:∀ b,two x dx (.ins C dx []) b≠none->H1 b=none:=fun b z=>by
  unfold two at z
  split at z
  ·rename_i e; rw [e]; exact hx
  ·split at z
   ·rename_i e; rw [e]; exact m6
   ·exact absurd rfl z
 have i9:∀ b,two x dx (.ins C dx []) b=none->upd (upd H1 dx (.own x)) x (.ins C dx []) b=H1 b:=fun b z=>by
  obtain ⟨a1,a2⟩:=znT_ z
  rw [zZ_ a1,zZ_ a2]
 have at2:Same (two x dx (.ins C dx [])) (upd (upd H1 dx (.own x)) x (.ins C dx [])):=fun b o z=>by
  unfold two at z
  split at z
  ·rename_i e; rw [e,zD_]; exact z
  ·rename_i e0
   split at z
   ·rename_i e; rw [zZ_ e0,e,zD_]; exact z
   ·cases z
 have dj:Dj F1 (two x dx (.ins C dx [])):=fun b=>by
  by_cases z:two x dx (.ins C dx []) b=none
  ·exact .inr z
  ·exact .inl (x1.2.1.free (new b z))
 have sF:Same F1 (upd (upd H1 dx (.own x)) x (.ins C dx [])):=fun b o z=>by
  have hb:=x1.2.1 _ _ z
  rw [i9 b ?_]
  ·exact hb
  ·cases y:two x dx (.ins C dx []) b with
   | none=>rfl
   | some s=>rw [new b (by rw [y]; exact sN _)] at hb; cases hb
 have eH:∀ b,less (upd (upd H1 dx (.own x)) x (.ins C dx [])) (two x dx (.ins C dx [])) b=H1 b:=fun b=>by
  by_cases z:two x dx (.ins C dx []) b=none
  ·rw [zbw_ z,i9 b z]
  ·rw [zhH_ b z,new b z]
 refine ⟨F1,two x dx (.ins C dx []),(),c,.ref x,vs,rfl,sF,dj,at2,⟨x,dx,[],fun _=>none,rfl,cZ,fun _=>.inr ⟨rfl,rfl⟩,rfl,rfl,fun _=>rfl⟩,aS,?_⟩
 cases e:g () c with
 | no=>rw [e] at k1; exact k1
 | ex cc=>rw [e] at k1; exact k1.elim
 | ok q0 =>
  rw [e] at k1
  rintro F' h' H' e9 v ⟨hr,bR,j,⟨_,hv⟩,hO2⟩
  refine ⟨hv,?_⟩
  have xx:Ext F1 H1 F' H':=⟨e9.1.1,e9.1.2.1,fun b o z=>e9.1.2.2.1 b o (by rw [eH]; exact z),fun b a1 a2=>by rw [<- eH b]; exact e9.1.2.2.2 b a1 a2⟩
  refine k1 F' H' xx (.ref x) bR (fun b z=>?_) (fun b=>?_) (j.r.trans e9.2.2.1) hO2
  ·have:=e9.2.2.2.1 b fun y=>z (j.r.free y)
   rw [eH] at this
   exact x1.2.2.1.free this
  ·rcases e9.2.1 b with y | y
   ·exact .inl y
   ·exact .inr (j.r.free y)
def ImmP (P:Ps γ):Prop:=∀ {c vs F F' h},Tups F F'->P.P c vs F h->P.P c vs F' h
theorem zmd_:ImmP psNil:=fun _ q=>q
theorem zfu_ {O:Own α}{P:Ps γ}(a:ImmO O)(b:ImmP P):ImmP (psO O P):=fun g ⟨v,us,h1,h2,e,j,x,y⟩=>⟨v,us,h1,h2,e,j,a g x,b g y⟩
theorem zkk_ {P:Ps γ}(b:ImmP P):ImmO (owI C ns P):=fun g ⟨p,dx,vs,k,e,nd,j,l,q⟩=>⟨p,dx,vs,k,e,nd,j,l,b g q⟩
theorem zhw_ {P:Ps γ}{P':Ps δ}{ad:γ->α->δ}{x:γ}{w:V}{k:δ->Mo (Out ρ B S)}(hi:L[i]?=some (.ow (owAt w (owI C ns P)) x))(hf:f∉ns)(jG:ns.length<900)(pp:PsAdd P (owF T) P' ad)(hT:Imm T)(he:EvF K e E L r T)(hk:∀ x',EvS K u E (L.set i (.ow (owAt w (owI C (ns++[f]) P')) x')) (k x') LS LB Or):
  EvS K (tSeq (mSFld C (mVar i) e f) u) E L (r.bind fun a=>(Mo.ok (ad x a)).bind k) LS LB Or:=zqZ_ hi hf jG pp hT he hk
def EvAO (K:Fgg)(t:TA)(E:XK)(L:List Sl)(r:Mo (List α))(O:Own α):Prop:=
 ∀ σ F H (Q:List V->Hp->Prop),HoldF L σ F->Same F H->After K r E F H (fun xs F' H'=>∀ vs h,(∀ p,h p≠none->H p=none)->Dj F' h->Same h H'->OwAll O F' xs vs h->Q vs H')->t σ H Q
theorem zoF_ {O:Own α}:EvAO K tNil E L (.ok ([]:List α)) O:=fun σ F H Q hL hs q=>q.ok hs [] (fun _=>none) (fun p z=>absurd rfl z) (fun p=>.inr rfl) (fun p o z=>by cases z) fun _=>rfl
theorem zeh_ {O:Own α}{t:TA}{r':Mo (List α)}(he:EvO K e E L r O)(ht:EvAO K t E L r' O):EvAO K (tCons e t) E L (r.bind fun a=>r'.bind fun as=>.ok (a::as)) O:=by
 intro σ F H Q hL hs q
 refine he σ F H _ hL hs (q.bind.imp fun a F1 H1 x1 k1 v h1 i8 d1 s1 o1=>?_)
 refine ht σ F1 H1 _ (hL.mono x1.1) x1.2.1 (k1.bind.imp fun as F2 H2 x2 k2 vs h2 lO d2 s2 o2=>?_)
 have dj:Dj h1 h2:=fun p=>by
  by_cases z:h2 p=none
  ·exact .inr z
  ·exact .inl (s1.free (lO p z))
 have k3:=k2.ok x2.2.1
 refine k3 (v::vs) (un h1 h2) (fun p z=>?_) (fun p=>?_) (fun p o z=>?_) ⟨h1,h2,zfO_ dj,O.mono x2.1 o1,o2⟩
 ·unfold un at z
  cases y:h1 p with
  | some w=>exact i8 p (by rw [y]; exact sN _)
  | none=>rw [y] at z; exact x1.2.2.1.free (lO p z)
 ·unfold un
  cases y:h1 p with
  | some w =>
   left
   have nO:F1 p=none:=by
    rcases d1 p with z | z
    ·exact z
    ·rw [z] at y; cases y
   by_cases w:F2 p=none
   ·exact w
   ·have:=x2.2.2.2 p nO w
    rw [s1 _ _ y] at this; cases this
  | none=>exact d2 p
 ·unfold un at z
  cases y:h1 p with
  | some w=>rw [y] at z; rw [<- z]; exact x2.2.2.1 _ _ (s1 _ _ y)
  | none=>rw [y] at z; exact s2 _ _ z
theorem zpm_ {O:Own α}{t:TA}{r:Mo (List α)}(ht:EvAO K t E L r O):EvO K (tLst t) E L (r.bind fun xs=>.lim xs.length (.ok xs)) (owLO O):=by
 intro σ F H Q hL hs q
 refine ht σ F H _ hL hs (q.bind.imp fun xs F1 H1 x1 k1 vs h1 fr d s o=>?_)
 obtain ⟨hz,k1⟩:=k1.lim
 refine ⟨by rw [<- o.len]; exact hz,fun p hp=>?_⟩
 have dC:h1 p=none:=s.free hp
 have dj:Dj (one p (.lst vs)) h1:=fun q=>by
  by_cases z:q=p
  ·rw [z]; exact .inr dC
  ·left; unfold one; rw [if_neg z]
 have xx:Ext F1 H1 F1 (upd H1 p (.lst vs)):=⟨Same.refl _,fun b o z=>by rw [zZ_ (fun e=>by rw [e] at z; have:=x1.2.1 _ _ z; rw [hp] at this; cases this)]; exact x1.2.1 _ _ z,fun b o z=>by rw [zZ_ (fun e=>by rw [e,hp] at z; cases z)]; exact z,fun b a c=>absurd a c⟩
 refine k1 F1 _ xx (.ref p) (un (one p (.lst vs)) h1) (fun b z=>?_) (fun b=>?_) (fun b o' z=>?_) ⟨p,vs,h1,rfl,zfO_ dj,o⟩
 ·unfold un at z
  by_cases e:b=p
  ·rw [e]; exact x1.2.2.1.free hp
  ·unfold one at z; rw [if_neg e] at z; exact fr b z
 ·unfold un
  by_cases e:b=p
  ·left; rw [e]; exact x1.2.1.free hp
  ·unfold one; rw [if_neg e]; exact d b
 ·unfold un at z
  by_cases e:b=p
  ·rw [e,zx_] at z; rw [e,zD_]; exact z
  ·unfold one at z; rw [if_neg e] at z; rw [zZ_ e]; exact s _ _ z
end
section
variable {K:Fgg}{E:XK}{γ:Type}{L:List Sl}{C:Addr}{ns:List Str}
theorem zmW_ (i:Nat){P:Ps γ}{x:γ}{w:V}(h:L[i]?=some (.ow (owAt w (owI C ns P)) x)):EvF K (mVar i) E L (.ok x) (tyI C ns P.fr):=zhM_ i h
end
section
variable {X:Cx}
def mTrL (K:Fgg)(t:TE):TT:=fun σ H Q=>t σ H fun x H'=>match x with
 | .bl k=>Q k H'
 | .ref a=>∃ xs,SqL K H' a xs/\Q (!xs.isEmpty) H'
 | _=>False
theorem zpP_ {e:Expr}{t:TE}(h:PE X e t)(he:∀ whole,isTrue e X.env whole=(do let v <- whole; standAt e.pos; holding [v] (truthy v)):=by intro _; rfl):PT X e (mTrL X.K t):=by
 intro pins s σ H Q I hw
 refine isTrue_plain (thn (h pins s σ H _ I hw) fun v s1 af=>?_) (he _)
 obtain ⟨x,H1,I1,r1,q1⟩:=af
 cases x with
 | bl c=>cases r1; exact wpAny_truthy_bool ⟨H1,I1,q1⟩
 | ref a =>
  cases r1
  obtain ⟨xs,hq,q⟩:=q1
  obtain ⟨aa,rv,p,hz⟩:=I1.list hq
  have hl:=rv.length
  refine wpAny_truthy_list p.isList (by rw [List.size_toArray,<- hl]; rw [sizeLine_eq] at hz; lia) ?_
  have e:aa.isEmpty=xs.isEmpty:=by cases rv<;>rfl
  refine ⟨H1,I1.tok _,?_⟩
  simpa [e] using q
 | _=>exact q1.elim
variable {K:Fgg}{E:XK}{α:Type}{L:List Sl}{e:TE}{T:Ty α}
theorem zqx_ {b:Mo Bool}(h:EvF K e E L b tyBl):EvT K (mTrL K e) E L b:=by
 intro σ F H Q hL hs q
 refine h σ F H _ hL hs (q.imp fun a F1 H1 x k v hv=>?_)
 cases hv
 exact k
theorem zq2_ {r:Mo (List α)}(h:EvF K e E L r (tyL T)):EvT K (mTrL K e) E L (r.bind fun l=>.ok (!l.isEmpty)):=by
 intro σ F H Q hL hs q
 refine h σ F H _ hL hs (q.bind.imp fun a F1 H1 x k v hv=>?_)
 obtain ⟨p,us,rfl,hp,hr⟩:=hv
 refine ⟨us,.of (x.2.1 _ _ hp),?_⟩
 have e:a.isEmpty=us.isEmpty:=by cases hr<;>rfl
 have:=k.ok x.2.1
 rwa [e] at this
theorem znz_:Bl K (mAll K) E (csLast (tyL tyBl)) (fun l=>.ok (l.all id)) tyBl:=by
 rintro c vs F H Q hs ⟨v,rfl,p,us,rfl,h,r⟩ q
 refine ⟨c,?_,q.ok hs _ rfl⟩
 have e:us=c.map V.bl:=by
  clear h q
  induction r with
  | nil=>rfl
  | cons a t ih=>rw [List.map_cons,<- ih]; exact congrArg (·::_) a
 rw [<- e]
 exact .of (hs _ _ h)
theorem zaq_ {r:Mo (Option α)}(h:EvF K e E L r (tyOpt T)):EvF K e E L (r.bind fun o=>Mo.opt o) T:=by
 intro σ F H Q hL hs q
 refine h σ F H _ hL hs (q.bind.imp fun o F1 H1 x k v hv=>?_)
 cases o with
 | none=>exact k.elim
 | some a=>exact k.ok x.2.1 v hv.1
end
section
variable {K:Fgg}{E:XK}{α γ δ ρ S B:Type}{F0 H0 F h H:Hp}{L:List Sl}{e:TE}{T:Ty α}{r:Mo α}{Or:Own ρ}{t u:TS}{LS:S->List Sl}{LB:B->List Sl}{σ:St}{C:Addr}{ns:List Str}{f m:Str}{i n w j:Nat}
theorem EvO.weak {O O2:Own α}{e:TE}{r:Mo α}(h:∀ {a v F h},O.O a v F h->O2.O a v F h)(he:EvO K e E L r O):EvO K e E L r O2:=by
 intro σ F H Q hL hs q
 exact he σ F H Q hL hs (q.imp fun a F1 H1 x1 k1 v hp fresh d s o=>k1 v hp fresh d s (h o))
theorem jn_no {h1 h2 h:Hp}(j:Jn h1 h2 h)(n:∀ p,h2 p=none):h=h1:=funext fun p=>by
 rcases j p with ⟨a,b⟩ | ⟨_,b⟩
 ·rw [b,n,a]
 ·exact b
section
open PySem PySem.Spec PyProof.Rows PySem.W
end
theorem zj3_ {r:Mo (List α)}{ta:TA}(h:EvA K ta E L r (csLast (tyL T))):EvI K (iEnumL K ta) E L (r.bind fun l=>.ok (enumL l)) (tyTup (csCons tyInt (csLast T))):=by
 intro σ F H R hL hs q
 refine h σ F H _ hL hs (q.bind.imp fun l F1 H1 x1 k1 vs hv=>?_)
 obtain ⟨v,rfl,p,us,rfl,hp,hr⟩:=hv
 refine ⟨p,rfl,⟨us,.of (x1.2.1 _ _ hp)⟩,k1.ok x1.2.1 _ ⟨fun i H x hH hx=>?_,fun H hH=>?_⟩⟩
 ·rw [zbu_] at hx
  rcases hr.get i with ⟨a,_⟩ | ⟨y,u,a,b,c⟩
  ·rw [a] at hx; cases hx
  ·rw [a] at hx; cases hx
   refine ⟨⟨us,u,.of (hH _ _ hp),b⟩,?_⟩
   rintro v H' ⟨p2,w,z,hp2,rfl,rfl⟩ F hF hF'
   have e:=z us (.of (hH _ _ hp))
   rw [b] at e; cases e
   have x:=Ext.new (o:=.tup [.int i,u]) hF' hp2
   exact ⟨_,x,p2,_,rfl,zD_,_,_,rfl,rfl,u,rfl,T.mono (hF.trans x.1) c⟩
 ·exact ⟨us,.of (hH _ _ hp),by rw [zbi_,hr.len]; exact Nat.le_refl _⟩
theorem zac_ {α:Type}{us:List α}{n:Nat}(h:us.length=n+1):∃ a t,us=a::t/\t.length=n:=by
 cases us with
 | nil=>cases h
 | cons a t=>exact ⟨a,t,rfl,Nat.succ.inj h⟩
theorem Fun.binds1 {x qual:Str}{st:Stmt}{f:Addr}{fd:FuncData}{ps:List Str}(hp:ps.length=1)(F:Fun K x qual st f fd)(h:∀ (kV doc pm:Value) (an:Option Addr) (ah ct:Value) (ua:Value),bindArgs (W.fnOf x qual (defArgs st) (defBody st) (defScope st) .none kV doc pm an ah ct) ⟨[ua],[]⟩=pure (ps.zip [ua])):Binds K fd ps []:=by
 refine F.binds fun kV doc pm an ah ct us hl=>?_
 have h0:=hl.trans hp
 obtain ⟨ua,t1,rfl,h1⟩:=zac_ h0
 cases List.length_eq_zero_iff.mp h1
 exact h kV doc pm an ah ct ua
theorem Fun.binds2 {x qual:Str}{st:Stmt}{f:Addr}{fd:FuncData}{ps:List Str}(hp:ps.length=2)(F:Fun K x qual st f fd)(h:∀ (kV doc pm:Value) (an:Option Addr) (ah ct:Value) (ua ub:Value),bindArgs (W.fnOf x qual (defArgs st) (defBody st) (defScope st) .none kV doc pm an ah ct) ⟨[ua,ub],[]⟩=pure (ps.zip [ua,ub])):Binds K fd ps []:=by
 refine F.binds fun kV doc pm an ah ct us hl=>?_
 have h0:=hl.trans hp
 obtain ⟨ua,t1,rfl,h1⟩:=zac_ h0
 obtain ⟨ub,t2,rfl,h2⟩:=zac_ h1
 cases List.length_eq_zero_iff.mp h2
 exact h kV doc pm an ah ct ua ub
theorem Fun.binds3 {x qual:Str}{st:Stmt}{f:Addr}{fd:FuncData}{ps:List Str}(hp:ps.length=3)(F:Fun K x qual st f fd)(h:∀ (kV doc pm:Value) (an:Option Addr) (ah ct:Value) (ua ub uc:Value),bindArgs (W.fnOf x qual (defArgs st) (defBody st) (defScope st) .none kV doc pm an ah ct) ⟨[ua,ub,uc],[]⟩=pure (ps.zip [ua,ub,uc])):Binds K fd ps []:=by
 refine F.binds fun kV doc pm an ah ct us hl=>?_
 have h0:=hl.trans hp
 obtain ⟨ua,t1,rfl,h1⟩:=zac_ h0
 obtain ⟨ub,t2,rfl,h2⟩:=zac_ h1
 obtain ⟨uc,t3,rfl,h3⟩:=zac_ h2
 cases List.length_eq_zero_iff.mp h3
 exact h kV doc pm an ah ct ua ub uc
theorem zgB_ {P:Ps γ}{P':Ps δ}{O1:Own α}{ad:γ->α->δ}{x:γ}{w:V}{k:δ->Mo (Out ρ B S)}(hi:L[i]?=some (.ow (owAt w (owI C ns P)) x))(hf:f∉ns)(jG:ns.length<900)(pp:PsAdd P O1 P' ad)(hO:ImmO O1)(he:EvO K e E L r O1)(hk:∀ x',EvS K u E (L.set i (.ow (owAt w (owI C (ns++[f]) P')) x')) (k x') LS LB Or):
  EvS K (tSeq (mSFld C (mVar i) e f) u) E L (r.bind fun a=>(Mo.ok (ad x a)).bind k) LS LB Or:=by
 intro F0 H0 σ F h H D hL ok fin
 refine he σ (un F h) H _ (hL.froz ok.2.1) ok.thaw (zao_ (G:=F) ok _ (.inl rfl) fin fun a F' H' cp x1 v hn fresh dj cO hv=>?_)
 obtain ⟨o,hs,ht⟩:=ok.back x1
 rw [cp] at fin
 obtain ⟨v0,k0,e1,⟨ew,p,dx,vs,m,rfl,cZ,jn,hl,ps⟩,kH,kh,_,g⟩:=zgQ_ (hL.mono hs) hi o
 have dC:H' p=some (.ins C dx (ns.zip vs)):=kH _ _ (jn.l _ _ zm7_)
 refine zcr_ e1 ⟨dx,_,dC,by rw [List.length_zip]; lia,?_⟩
 rw [zgP_ v hf hl]
 have fr:∀ q,hn q≠none->less F' h q=none/\h q=none/\H0 q=none:=fun q z=>⟨by
  rcases dj q with y | y
  ·exact zgo_.free y
  ·exact absurd y z,ok.2.2.1.free (fresh q z),ok.1.2.2.1.free (fresh q z)⟩
 have dn:Dj hn m:=fun q=>by
  by_cases z:hn q=none
  ·exact .inl z
  ·exact .inr (jn.r.free (kh.free (fr q z).2.1))
 obtain ⟨j',PC⟩:=zlb_ (o':=.ins C dx ((ns++[f]).zip (vs++[v]))) (hn:=hn) o kh cZ jn (Same.refl m) fr cO dn
 obtain ⟨h',a1,a2⟩:=g (owAt w (owI C (ns++[f]) P')) (ad x a) (.ref p) _ _ _ PC ⟨ew,p,dx,vs++[v],un hn m,rfl,cZ,j',by rw [List.length_append,List.length_append,hl]; rfl,pp ps a v hn _ _ (Same.refl _) (hO ht hv) (zfO_ dn)⟩
 rw [zaK_ e1] at a1
 exact hk _ F0 H0 σ _ h' _ D a1 a2 fin
end
section
end
section
variable {κ:Type}[DecidableEq κ]
end
section
end
theorem atF {K:Fgg}{E:XK}{α:Type}{e:TE}{r:Mo α}{T:Ty α}(L:List Sl)(h:EvF K e E L r T):EvF K e E L r T:=h
section
end
def mSetD (td ty tz:TE):TE:=fun σ H Q=>td σ H fun x H1=>(match x with | .ref a=>∃ kvs,H1 a=some (.dK kvs) | _=>False)/\ty σ H1 fun y H2=>tz σ H2 fun z H3=>atD x y H3 fun a kvs k =>
 match valV kvs k with | some v=>Q v H3 | none=>kvs.length<sizeLine/\Q z (upd H3 a (.dK (putK kvs k z)))
section
variable {X:Cx}{o e f:Expr}{apos ak:Pos}{td ty tz:TE}
theorem zmy_ (hu:X.A.units+60<cLine)(ho:PE X o td)(he:PE X e ty)(hf:PE X f tz)(m:M2 X o "setdefault" apos e f ak:=by exact ⟨rfl,rfl,rfl,rfl⟩):PE X (.Call (.Attribute o "setdefault" apos) [e,f] [] ak) (mSetD td ty tz):=by
 intro pins s σ H Q I h
 refine wpAny_Call_method m.base m.few m.line PySem.F.plainAttrs_dict PySem.F.slot_dict_setdefault PySem.F.type_dict_setdefault (thn (ho pins s σ H _ I h) fun u s1 af=>?_)
 obtain ⟨x,H1,I1,rx,hx,q1⟩:=af
 cases x with
 | ref a =>
  obtain ⟨jx,hd0⟩:=hx
  obtain rfl:u=Value.ref a:=rx
  obtain ⟨t1,t2,_⟩:=zp1_ I1 (.inl ⟨jx,.inl hd0⟩)
  refine ⟨t1,t2,?_⟩
  rw [m.trees]
  refine Calls.callWith_builtin rfl (Calls.evalArgs_plain (Calls.spliced_cons (thn (he pins s1 σ H1 _ I1 q1) fun iv s2 ⟨y,H2,I2,ry,q2⟩ =>
   Calls.spliced_cons (thn (hf pins s2 σ H2 _ I2 q2) fun fv s3 ⟨z,H3,I3,rz,q3⟩=>Calls.spliced_nil ?_))))
  obtain ⟨a',kvs,k,ea,rfl,hd,q⟩:=zke_ q3
  cases ea
  obtain ⟨hz,hsys,vs,rel,dd⟩:=dk_of I3.hok hd
  have mB:vs.length<=sizeLine:=by rw [<- rel.length]; exact hz
  have rk:=rel.val k
  refine call_meetsIn PySem.F.slot_dict_setdefault dd.typeIs PySem.F.entry_dict_setdefault (PySem.F.args_dict_setdefault_3 _ _ _) (kt_meets_setdefault (mixKind X.prog X.w) a (zoV_ ry) hsys fv) ⟨vs,dd,mB,fun v hv=>?_,fun hn h' fK hs=>?_⟩
  ·rw [hv] at rk
   cases g:valV kvs k with
   | none=>rw [g] at rk; exact rk.elim
   | some v0=>rw [g] at rk q; exact ⟨v0,H3,I3.tok _,rk,q⟩
  ·rw [hn] at rk
   cases g:valV kvs k with
   | some v0=>rw [g] at rk; exact rk.elim
   | none =>
    rw [g] at q
    have hl:(putK kvs k z).length<=sizeLine:=by have:=zdh_ kvs k z; have:=q.1; lia
    have hq:∃ q,h'.get? a=some q:=let ⟨q,_,_,hq,_⟩:=fK; ⟨q,hq⟩
    exact ⟨z,_,zjx_ I3 (by rw [hd]; exact True.intro) hs hq (znP_ hl hsys (rel.put k rz) fK),rz,q.2⟩
 | _=>exact hx.elim
end
section
variable {K:Fgg}{E:XK}{α ρ κ S B:Type}{F0 H0 F h H:Hp}{L:List Sl}{T:Ty α}{O:Own ρ}{t u:TS}{LS:S->List Sl}{LB:B->List Sl}{KY:KyT κ}[DecidableEq κ]
def sdA (m:List (κ×α))(k:κ)(d:α):α×List (κ×α):=match getA m k with | some a=>(a,m) | none=>(d,putA m k d)
theorem zqv_ {i:Nat}{m:List (κ×α)}{rk:Mo κ}{rv:Mo α}{rc:α×List (κ×α)->Mo α}{ek ev ec:TE}{R:R2}{g:α->α->Mo Bool}{r1 r2:α×List (κ×α)->Mo (Out ρ B S)}
  (hi:L[i]?=some (.ow (owD KY T) m)) (hT:Imm T) (lH:Imm KY.T) (hk:EvF K ek E L rk KY.T) (hv:EvF K ev E L rv T) (dZ:Op2 K R E T T g tyBl)
  (hc:∀ q:α×List (κ×α),EvF K ec E (L.set i (.ow (owD KY T) q.2)) (rc q) T) (h1:∀ q:α×List (κ×α),EvS K t E (L.set i (.ow (owD KY T) q.2)) (r1 q) LS LB O) (h2:∀ q:α×List (κ×α),EvS K u E (L.set i (.ow (owD KY T) q.2)) (r2 q) LS LB O):
  EvS K (mIfS (mTest (tOp R (mSetD (mVar i) ek ev) ec)) t u) E L (rk.bind fun k=>rv.bind fun d=>.lim (m.length+1) ((Mo.ok (sdA m k d)).bind fun q=>(rc q).bind fun c=>(g q.1 c).bind fun b=>if b then r1 q else r2 q)) LS LB O:=by
 intro F0 H0 σ F h H D hL ok fin
 obtain ⟨p,kvs,e1,hp,hr,_⟩:=zdX_ hL hi ok
 show mVar i σ H fun x H1=>(match x with | .ref a=>∃ kvs,H1 a=some (.dK kvs) | _=>False)/\ek σ H1 fun y H2=>ev σ H2 fun z H3=>atD x y H3 fun a kvs k =>
  match valV kvs k with
  | some v=>ec σ H3 fun w H4=>R v w H4 fun x H5=>match x with | .bl k=>br k (t D σ H5) (u D σ H5) | _=>False
  | none=>kvs.length<sizeLine/\ec σ (upd H3 a (.dK (putK kvs k z))) fun w H4=>R z w H4 fun x H5=>match x with | .bl k=>br k (t D σ H5) (u D σ H5) | _=>False
 refine zcr_ e1 ⟨⟨kvs,hp⟩,?_⟩
 refine hk σ (un F h) H _ (hL.froz ok.2.1) ok.thaw (zao_ (G:=F) ok _ (.inl rfl) fin fun y F1 H1 jH x1 v1 bP=>?_)
 obtain ⟨o,hs,ht⟩:=ok.back x1
 rw [jH] at fin
 have bY:=hL.mono hs
 have jE:=lH ht bP
 refine hv σ (un _ h) H1 _ (bY.froz o.2.1) o.thaw (zao_ (G:=F) o _ (.inl rfl) fin fun d F2 H2 ly x2 v2 aT=>?_)
 obtain ⟨o',bR,fo⟩:=o.back x2
 rw [ly] at fin
 obtain ⟨hz,fin⟩:=zeV_ (show Fin K (Mo.lim (m.length+1) ((Mo.ok (sdA m y d)).bind fun q=>(rc q).bind fun c=>(g q.1 c).bind fun b=>if b then r1 q else r2 q)) E LS LB O F0 H0 D from fin)
 have lF:=bY.mono bR
 obtain ⟨p',aC,aG,hp',bo,mm⟩:=zdX_ lF hi o'
 rw [e1] at aG; cases aG
 have gR:=hT fo aT
 have tail:∀ (q:α×List (κ×α)) (va:V) (h' H':Hp),sdA m y d=q->Hold (L.set i (.ow (owD KY T) q.2)) σ (less F2 h) h'->Okk F0 H0 (less F2 h) h' H'->T.R q.1 va (less F2 h) ->
   ec σ H' fun w H3=>R va w H3 fun x H4=>match x with | .bl k=>br k (t D σ H4) (u D σ H4) | _=>False:=by
  intro q va h' H' hq lE iK mH
  have fq:Fin K ((rc q).bind fun c=>(g q.1 c).bind fun b=>if b then r1 q else r2 q) E LS LB O F0 H0 D:=by rw [<- hq]; exact fin
  refine hc q σ (un _ h') H' _ (lE.froz iK.2.1) iK.thaw (zao_ (G:=F) iK _ (.inl rfl) fq fun c F3 H3 mP x3 w hw=>?_)
  obtain ⟨o3,hs3,ht3⟩:=iK.back x3
  rw [mP] at fq
  have kE:Fin K ((g q.1 c).bind fun b=>if b then r1 q else r2 q) E LS LB O F0 H0 D:=fq
  refine dZ q.1 c va w _ H3 _ o3.1.2.1 (T.mono hs3 mH) (hT ht3 hw) (zao_ (G:=F) o3 _ (.inr rfl) kE fun b F4 H4 mQ x4 v4 et=>?_)
  cases et
  rw [mQ] at kE
  have f4:Fin K (if b then r1 q else r2 q) E LS LB O F0 H0 D:=kE
  have L4:=(lE.mono hs3).mono x4.1
  have o4:=o3.cold x4
  refine ⟨fun z=>?_,fun z=>?_⟩
  ·rw [if_pos z] at f4; exact h1 q F0 H0 σ _ h' H4 D L4 o4 f4
  ·rw [if_neg (by rw [z]; decide)] at f4; exact h2 q F0 H0 σ _ h' H4 D L4 o4 f4
 unfold atD
 simp only
 rw [KY.of (KY.T.mono bR jE)]
 refine ⟨aC,hp',?_⟩
 rcases zjD_ bo y with ⟨g1,g2⟩ | ⟨a,va,g1,g2,g3⟩
 ·rw [g2]
  obtain ⟨h',a1,a2⟩:=mm (putA m y d) (putK aC (KY.key y) v2) (zlg_ bo y gR)
  refine ⟨?_,tail (d,putA m y d) v2 h' _ (by unfold sdA; rw [g1]) a1 a2 gR⟩
  have:=Paired.length bo
  lia
 ·rw [g2]
  refine tail (a,m) va h H2 (by unfold sdA; rw [g1]) ?_ o' g3
  show Hold (L.set i (.ow (owD KY T) m)) σ (less F2 h) h
  rw [zk6_ hi]; exact lF
end
section
variable {α κ:Type}{T:Ty α}{KY:KyT κ}
theorem zog_ [DecidableEq κ]{a:List (κ×α)}{v:V}{F:Hp}(h:(tyD KY T).R a v F):v≠.non:=by obtain ⟨p,vs,rfl,_⟩:=h; exact fun z=>V.noConfusion z
end
section
variable {K:Fgg}{E:XK}{κ S B:Type}{F0 H0 F h H:Hp}{L:List Sl}{e1 e2:TE}{LS:S->List Sl}{LB:B->List Sl}
theorem ziC_ {rc:Mo Bool}{r2:Mo (Out Bool B S)}(hc:EvF K e1 E L rc tyBl)(h2:EvS K (tRet e2) E L r2 LS LB (owF tyBl)):EvS K (tRet (mAndV e1 e2)) E L (rc.bind fun b=>if b then r2 else .ok (.rt false)) LS LB (owF tyBl):=by
 intro F0 H0 σ F h H D hL ok fin
 refine hc σ (un F h) H _ (hL.froz ok.2.1) ok.thaw (zao_ (G:=F) ok _ (.inl rfl) fin fun a F' H' hr x v hv=>?_)
 cases hv
 obtain ⟨o,hs,ht⟩:=ok.back x
 rw [hr] at fin
 have bF:Fin K (if a then r2 else .ok (.rt false)) E LS LB (owF tyBl) F0 H0 D:=fin
 refine ⟨fun z=>?_,fun z=>?_⟩
 ·rw [if_pos z] at bF; exact h2 F0 H0 σ _ h H' D (hL.mono hs) o bF
 ·rw [if_neg (by rw [z]; decide)] at bF
  exact bF _ _ (fun _=>none) H' ⟨o.1,fun p=>.inr rfl,(fun p o z=>by cases z),fun p z=>absurd rfl z,fun p xs z=>by cases z⟩ ⟨fun _=>rfl,rfl⟩
variable [DecidableEq κ]
end
section
variable {κ:Type}[DecidableEq κ]
end
section
end
def Fi (K:Fgg)(x q:Str)(st:Stmt)(f:Addr):Prop:=∃ (oc:Value) (od:Option Addr) (kV doc pm:Value) (an:Option Addr) (ah ct:Value) (aj:Array (Option Value)),
 K.lookup f=some ⟨oc,od,.func (W.fnOf x q (defArgs st) (defBody st) (defScope st) .none kV doc pm an ah ct),aj⟩/\W.codeIn K ah q=true/\W.keepIn K (.ref f)=true
def Fg (K:Fgg)(x:Str)(st:Stmt):Prop:=∃ f,W.nsIn K mainGlobals x=some (some (.ref f))/\Fi K x x st f
def Fm (K:Fgg)(c m q:Str)(st:Stmt):Prop:=∃ cw f,W.nsIn K mainGlobals c=some (some (.ref cw))/\W.findIn K (.ref cw) m=some (some (.ref f))/\W.isFn K (.ref f)=true/\Fi K m q st f
def Fc (K:Fgg)(c:Str):Prop:=∃ cw,W.nsIn K mainGlobals c=some (some (.ref cw))/\W.plainGet K cw Str.empty=true/\W.hasDictIn K cw=true/\W.plainOver K cw=true /\
 W.findIn K (.ref cw) "__setattr__"=some (some (.builtin "object.__setattr__"))/\W.makesIn K cw=true/\W.keepIn K (.ref cw)=true
def Fa (K:Fgg)(c a:Str):Prop:=∃ cw,W.nsIn K mainGlobals c=some (some (.ref cw))/\W.findIn K (.ref cw) a=some none
def Fb (K:Fgg)(x:Str):Prop:=W.nsIn K mainGlobals x=some none
def Fv (K:Fgg)(x:Str)(v:V):Prop:=∃ u,W.nsIn K mainGlobals x=some (some u)/\RelV v u
def Fk (K:Fgg)(x:Str):Prop:=∃ c,W.nsIn K mainGlobals x=some (some (.ref c))
def Mgo (K:Fgg)(mg:Str->Option Value):Prop:=∃ h:Heap,K.In h/\h.Ns mainGlobals mg
section
variable {P:Program}{w:World}{K:Fgg}{mg:Str->Option Value}{base:Heap}{CX:CXT}{x q c m a:Str}{st:Stmt}{f:Addr}{fd:FuncData}{ps:List Str}{k j:Nat}{sp:Sp}{A:Around}{v:V}
theorem Fg.mk_ {oc:Value}{od:Option Addr}{kV doc pm:Value}{an:Option Addr}{ah ct:Value}{aj:Array (Option Value)}(h:W.nsIn K mainGlobals x=some (some (.ref f)))(l:K.lookup f=some ⟨oc,od,.func (W.fnOf x x (defArgs st) (defBody st) (defScope st) .none kV doc pm an ah ct),aj⟩)(c:W.codeIn K ah x=true)(k:W.keepIn K (.ref f)=true):Fg K x st:=⟨f,h,oc,od,kV,doc,pm,an,ah,ct,aj,l,c,k⟩
theorem Fm.mk_ {cw:Addr}{oc:Value}{od:Option Addr}{kV doc pm:Value}{an:Option Addr}{ah ct:Value}{aj:Array (Option Value)}(h:W.nsIn K mainGlobals c=some (some (.ref cw)))(h1:W.findIn K (.ref cw) m=some (some (.ref f)))(h2:W.isFn K (.ref f)=true)(l:K.lookup f=some ⟨oc,od,.func (W.fnOf m q (defArgs st) (defBody st) (defScope st) .none kV doc pm an ah ct),aj⟩)(h3:W.codeIn K ah q=true)(k:W.keepIn K (.ref f)=true):Fm K c m q st:=⟨cw,f,h,h1,h2,oc,od,kV,doc,pm,an,ah,ct,aj,l,h3,k⟩
theorem Fc.mk_ {cw:Addr}(h:W.nsIn K mainGlobals c=some (some (.ref cw)))(h1:W.plainGet K cw Str.empty=true)(h2:W.hasDictIn K cw=true)(h3:W.plainOver K cw=true)(h4:W.findIn K (.ref cw) "__setattr__"=some (some (.builtin "object.__setattr__")))(h5:W.makesIn K cw=true)(h6:W.keepIn K (.ref cw)=true):Fc K c:=⟨cw,h,h1,h2,h3,h4,h5,h6⟩
theorem Fa.mk_ {cw:Addr}(h:W.nsIn K mainGlobals c=some (some (.ref cw)))(h1:W.findIn K (.ref cw) a=some none):Fa K c a:=⟨cw,h,h1⟩
theorem Fv.mk_ {u:Value}(h:W.nsIn K mainGlobals x=some (some u))(h1:RelV v u):Fv K x v:=⟨u,h,h1⟩
theorem Fk.mk_ {cw:Addr}(h:W.nsIn K mainGlobals x=some (some (.ref cw))):Fk K x:=⟨cw,h⟩
theorem Fi.fun_ (h:Fi K x q st f):∃ fd,Fun K x q st f fd:=by
 obtain ⟨oc,od,kV,doc,pm,an,ah,ct,aj,l,c,k⟩:=h
 exact ⟨_,zoo_ l c k⟩
theorem Mgo.gb (M:Mgo K mg)(h:Fb K x):Gb mg x:=by
 obtain ⟨_,X,G⟩:=M
 exact W.mg_none_of X G h
theorem Mgo.gv (M:Mgo K mg)(h:Fv K x v):Gc mg x v:=by
 obtain ⟨_,X,G⟩:=M; obtain ⟨u,e,r⟩:=h
 exact ⟨u,W.mg_of X G e,r⟩
theorem Mgo.gk (M:Mgo K mg)(h:Fk K x):mg x=some (.ref (gA K x)):=by
 obtain ⟨_,X,G⟩:=M; obtain ⟨u,e⟩:=h
 rw [zm6_ e]; exact W.mg_of X G e
theorem Mgo.gkc (M:Mgo K mg)(h:Fk K x):Gc mg x (.ref (gA K x)):=⟨_,M.gk h,rfl⟩
theorem Fc.cls (h:Fc K c):Cls K (gA K c):=by
 obtain ⟨cw,e,h1,h2,h3,h4,_⟩:=h
 rw [zm6_ e]; exact ⟨h1,h2,h3,h4⟩
theorem Fa.no (h:Fa K c a):NoAttr K (gA K c) a:=by
 obtain ⟨cw,e,h⟩:=h
 rw [zm6_ e]; exact h
abbrev OkF (P:Program)(w:World)(K:Fgg)(mg:Str->Option Value)(base:Heap)(CX:CXT)(k:Nat)(x q:Str)(st:Stmt)(ps:List Str)(sp:Sp):Prop:=∀ f fd,Fun K x q st f fd->FnOk P w K mg base CX k f fd ps sp/\Binds K fd ps []
theorem zbh_ (M:Mgo K mg)(F:Fg K x st)(h:OkF P w K mg base CX k x x st ps sp):Gd P w K mg base CX k x ps sp:=by
 obtain ⟨_,X,G⟩:=M; obtain ⟨f,e,i⟩:=F; obtain ⟨fd,F⟩:=i.fun_
 exact ⟨f,fd,(h f fd F).1,W.mg_of X G e,F.kp,(h f fd F).2⟩
theorem hm (hr:Room k A)(h:j<=k:=by decide):Room j A:=hr.mono h
end
section
variable {P:Program}{w:World}{K:Fgg}{mg:Str->Option Value}{base:Heap}{x q:Str}{st:Stmt}{N ps:List Str}{k:Nat}{γ ρ:Type}
abbrev Tm (P:Program)(w:World)(K:Fgg)(mg:Str->Option Value)(base:Heap)(k:Nat)(N:List Str)(q:Str)(st:Stmt)(t:XK->TS):Prop:=
 ∀ (ah:Value) (A:Around) (outer:List Env) (s:Shared) (H:Hp) (f:Addr) (E:XK),N.Nodup->Room k (A.deeper (envOfC q (defScope st) s.heap.objs.size f ah))->PSs (cxOf CX0 P w K mg base N q (defScope st) f ah A outer s H E).nox (defBody st) (t E)
abbrev TmX (P:Program)(w:World)(K:Fgg)(mg:Str->Option Value)(base:Heap)(k:Nat)(N:List Str)(q:Str)(st:Stmt)(t:XK->TS):Prop:=
 ∀ (ah:Value) (A:Around) (outer:List Env) (s:Shared) (H:Hp) (f:Addr) (E:XK),N.Nodup->Room k (A.deeper (envOfC q (defScope st) s.heap.objs.size f ah))->PSs (cxOf (CXx P w) P w K mg base N q (defScope st) f ah A outer s H E) (defBody st) (t E)
abbrev Bnd (K:Fgg)(x q:Str)(st:Stmt)(ps:List Str):Prop:=∀ f fd,Fun K x q st f fd->Binds K fd ps []
theorem okC {C:Cs γ}{O:Own ρ}{ss:γ->List Sl}{g:γ->Mo (Out ρ Unit Unit)}{t:XK->TS}(n m:Nat)(hC:CsS C ss)(tm:Tm P w K mg base k N q st t)
  (ev:∀ c E,EvS K (t E) E (ss c++List.replicate m .dead) (g c) (fun _:Unit=>[]) (fun _:Unit=>[]) O) (hn:CsN C n:=by repeat first | exact zo_ | exact csn_nil | refine zi_ ?_) (S:FnScope N ps (defScope st):=by exact ⟨rfl,rfl,rfl,by decide +kernel,rfl,by decide +kernel,by decide +kernel⟩) (b:Bnd K x q st ps:=by first | exact fun _ _ F=>Fun.binds1 rfl F fun _ _ _ _ _ _ _=>rfl | exact fun _ _ F=>Fun.binds2 rfl F fun _ _ _ _ _ _ _ _=>rfl | exact fun _ _ F=>Fun.binds3 rfl F fun _ _ _ _ _ _ _ _ _=>rfl | exact fun _ _ F=>Fun.binds4 rfl F fun _ _ _ _ _ _ _ _ _ _=>rfl | exact fun _ _ F=>Fun.binds5 rfl F fun _ _ _ _ _ _ _ _ _ _ _=>rfl | exact fun _ _ F=>Fun.binds6 rfl F fun _ _ _ _ _ _ _ _ _ _ _ _=>rfl | exact fun _ _ F=>Fun.binds7 rfl F fun _ _ _ _ _ _ _ _ _ _ _ _ _=>rfl) (hp:ps.length=n:=by rfl) (hm:N.length-n=m:=by rfl):OkF P w K mg base CX0 (k+1) x q st ps (Ct K C (fun c=>fnO (g c)) O):=fun f fd F =>
 ⟨F.ok S (fun vs H Q E h=>by obtain ⟨F,c,_,hc,_⟩:=h; exact (hn hc).trans hp.symm) fun ah A outer s H vs Q E hr h=>⟨t E,tm ah A outer s H f E S.nd hr,zqP_ (N:=N) (t:=t) n m hn hm hC ev vs H Q E h⟩,b f fd F⟩
theorem okX {C:Cs γ}{O:Own ρ}{ss:γ->List Sl}{g:γ->Mo (Out ρ Unit Unit)}{t:XK->TS}(n m:Nat)(hC:CsS C ss)(tm:TmX P w K mg base k N q st t)
  (ev:∀ c E,EvS K (t E) E (ss c++List.replicate m .dead) (g c) (fun _:Unit=>[]) (fun _:Unit=>[]) O) (hn:CsN C n:=by repeat first | exact zo_ | exact csn_nil | refine zi_ ?_) (S:FnScope N ps (defScope st):=by exact ⟨rfl,rfl,rfl,by decide +kernel,rfl,by decide +kernel,by decide +kernel⟩) (b:Bnd K x q st ps:=by first | exact fun _ _ F=>Fun.binds1 rfl F fun _ _ _ _ _ _ _=>rfl | exact fun _ _ F=>Fun.binds2 rfl F fun _ _ _ _ _ _ _ _=>rfl | exact fun _ _ F=>Fun.binds3 rfl F fun _ _ _ _ _ _ _ _ _=>rfl | exact fun _ _ F=>Fun.binds4 rfl F fun _ _ _ _ _ _ _ _ _ _=>rfl | exact fun _ _ F=>Fun.binds5 rfl F fun _ _ _ _ _ _ _ _ _ _ _=>rfl | exact fun _ _ F=>Fun.binds6 rfl F fun _ _ _ _ _ _ _ _ _ _ _ _=>rfl | exact fun _ _ F=>Fun.binds7 rfl F fun _ _ _ _ _ _ _ _ _ _ _ _ _=>rfl) (hp:ps.length=n:=by rfl) (hm:N.length-n=m:=by rfl):OkF P w K mg base (CXx P w) (k+1) x q st ps (Ct K C (fun c=>fnO (g c)) O):=fun f fd F =>
 ⟨F.okX S (fun vs H Q E h=>by obtain ⟨F,c,_,hc,_⟩:=h; exact (hn hc).trans hp.symm) fun ah A outer s H vs Q E hr h=>⟨t E,tm ah A outer s H f E S.nd hr,zqP_ (N:=N) (t:=t) n m hn hm hC ev vs H Q E h⟩,b f fd F⟩
end
section
variable {l:PySem.W.OpenLaw}{w:World}{K:Fgg}{mg:Str->Option Value}{st:Stmt}{x:Str}{k:Nat}{sp:Sp}{fa:Addr}
theorem okLaw (M:Mgo K mg)(F:Fg K "law" st)(jX:mg "law"=some (.ref fa))(hb:∀ (kV doc pm:Value) (an:Option Addr) (ah ct:Value) (s:Shared) (v:Value),bindArgs (W.fnOf "law" "law" (defArgs st) (defBody st) (defScope st) .none kV doc pm an ah ct) ⟨[v],[]⟩=pure [(x,v)])
  (h:∀ (base:Heap) (f:Addr) (fd:FuncData),Fun K "law" "law" st f fd->FnOk l.prog w K mg base CX0 k f fd [x] sp):
  ∃ fd:FuncData,(∀ (s:Shared) (v:Value),BindsTo s fd ⟨[v],[]⟩ [(x,v)])/\∀ base:Heap,K.In base->base.Ns mainGlobals mg->FnOk l.prog w K mg base CX0 k fa fd [x] sp:=by
 obtain ⟨_,X,G⟩:=M
 obtain ⟨f,e,oc,od,kV,doc,pm,an,ah,ct,aj,l',c,kk⟩:=F
 cases jX.symm.trans (W.mg_of X G e)
 exact ⟨_,fun s v=>.of_eq (hb kV doc pm an ah ct s v),fun base _ _=>h base _ _ (zoo_ l' c kk)⟩
def spL (K:Fgg):Sp:=fun vs H Q _=>∃ (a:Addr) (ns:List Int),vs=[.ref a]/\SqL K H a (ns.map V.int)/\ns.length<=63/\BitsOk ns/\∀ H',Q (.bl true) H'
theorem okL {base:Heap}{N:List Str}{g:List Int->Mo (Out Bool Unit Unit)}{t:XK->TS}(m:Nat)(tm:Tm l.prog w K mg base k N "law" st t)
  (hf:∀ ns:List Int,ns.length<=63->BitsOk ns->fnO (g ns)=.ok true)
  (ev:∀ c E,EvS K (t E) E (.fz (tySc K) c::List.replicate m .dead) (g c) (fun _:Unit=>[]) (fun _:Unit=>[]) (owF tyBl)) (f:Addr) (fd:FuncData) (F:Fun K "law" "law" st f fd) (S:FnScope N [x] (defScope st):=by exact ⟨rfl,rfl,rfl,by decide +kernel,rfl,by decide +kernel,by decide +kernel⟩) (hm:N.length-1=m:=by rfl):FnOk l.prog w K mg base CX0 (k+1) f fd [x] (spL K):=
 F.ok S (fun vs H Q E h=>by obtain ⟨a,ns,rfl,_⟩:=h; rfl) fun ah A outer s H vs Q E hr h=>⟨t E,tm ah A outer s H f E S.nd hr,by
  obtain ⟨a,ns,rfl,hS,hl,hb,q⟩:=h
  refine zqP_ (K:=K) (N:=N) (C:=csLast (tySc K)) (O:=owF tyBl) (t:=t) (ss:=fun c=>[.fz (tySc K) c]) (f:=g) 1 m zo_ hm zq_ ev _ H Q E ⟨H,ns,Same.refl _,⟨_,rfl,a,rfl,hS⟩,?_⟩
  show After K (fnO (g ns)) E H H _
  rw [hf ns hl hb]
  rintro F' H' x v h _ _ _ ⟨_,rfl⟩
  exact q H'⟩
variable {X:Cx}{pos pos':Pos}{e:Expr}{te:TE}
abbrev FrP (X:Cx)(scope:Scope)(q:Str×Nat):Prop:=X.N[q.2]?=some q.1/\(q.1,NameKind.free)∈scope.names/\(X.env.kindOf q.1=some .cell\/X.env.kindOf q.1=some .free)/\((relabel scope X.env).names.lookup q.1=some .cell\/(relabel scope X.env).names.lookup q.1=some .free)
theorem pgn (i:Nat)(hN:X.N.Nodup:=by assumption)(hi:X.N[i]?=some x:=by rfl)(hx:Loc X.env.scope x:=by first | exact Or.inl rfl | exact Or.inr rfl)(hf:X.fn x=true\/X.env.scope.names.lookup x=some .local:=by first | exact .inl rfl | exact .inr rfl | assumption):PG X (.Name x pos) (gName i):=zle_ hN hi hx hf
theorem pst (i:Nat)(he:PE X e te)(hN:X.N.Nodup:=by assumption)(hi:X.N[i]?=some x:=by rfl)(hx:Loc X.env.scope x:=by first | exact Or.inl rfl | exact Or.inr rfl)(hs:swapsWith e (some (.Name x pos')) pos.line X.env=pure false:=by rfl)(hf:X.fn x=true\/X.env.scope.names.lookup x=some .local:=by first | exact .inl rfl | exact .inr rfl | assumption):
  PS X (.Assign [.Name x pos'] e pos) (tAsg te (gName i)):=zqV_ hN hi hx he hs hf
theorem csm {scope:Scope}{cl:List (Str×Addr)}{lv:List Str}{fr:List (Str×Nat)}(h:closeL X.env.cells scope.names []=some cl)(f:∀ q∈fr,FrP X scope q)(h2:∀ y∈scope.names,y.2≠.cell:=by decide +kernel)(h3:scope.kind=.function:=by rfl)(h4:∀ z∈scope.names,z.2=.local->scope.names.lookup z.1=some .local:=by decide +kernel):CScope X scope cl lv fr:=⟨h,h2,h3,h4,f⟩
theorem frc {scope:Scope}{q:Str×Nat}{fr:List (Str×Nat)}(t:∀ q∈fr,FrP X scope q)(h:FrP X scope q:=by refine ⟨rfl,by decide +kernel,?_,?_⟩<;>first | exact Or.inl rfl | exact Or.inr rfl):∀ z∈q::fr,FrP X scope z:=zpq_ h t
theorem fr0 {scope:Scope}:∀ q∈([]:List (Str×Nat)),FrP X scope q:=fun _ h=>by cases h
theorem pgc {scope:Scope}{cl:List (Str×Addr)}{C:Addr}{lv:List Str}{fr:List (Str×Nat)}{fp:List Addr}{s2:Shared}{H2:Hp}(i:Nat)(hN:(cN lv fr).Nodup:=by decide +kernel)(hi:(cN lv fr)[i]?=some x:=by rfl)(hx:Loc (cxComp X scope cl C (cN lv fr) fp s2 H2).env.scope x:=by exact Or.inl rfl)(hf:(cxComp X scope cl C (cN lv fr) fp s2 H2).fn x=true\/(cxComp X scope cl C (cN lv fr) fp s2 H2).env.scope.names.lookup x=some .local:=by first | exact .inl rfl | exact .inr rfl | assumption):PG (cxComp X scope cl C (cN lv fr) fp s2 H2) (.Name x pos) (gName i):=zle_ hN hi hx hf
end
abbrev zir_:=@PySem.F.slot_str_find
abbrev zim_:=@PySem.F.type_str_find
abbrev zfn_:=@PySem.F.slot_str_join
abbrev ze4_:=@PySem.F.type_str_join
abbrev zbU_:=@PySem.F.plainAttrs_list
abbrev zH_:=@PySem.F.slot_list_append
abbrev zG_:=@PySem.F.type_list_append
abbrev zbq_:=@PySem.F.slot_list_extend
abbrev zbj_:=@PySem.F.type_list_extend
def gallop':Bool->Keyed->Array Keyed->Nat->Nat->Nat->StateT SortSt Sem (Option Nat):=sortPriv% PySem.Builtin.gallop
section
variable {lt:Nat->Nat->Bool}
abbrev op (lt:Nat->Nat->Bool):Nat->Nat->Bool:=fun a b=>lt b a
abbrev U7:Type:=Option (Array Keyed)×Nat×Nat×Array Keyed×Nat×Nat×Nat
def hi3 (a b:Array Keyed)(na nb:Nat)(ou:Array Keyed)(mg ac bc:Nat):StateT SortSt Sem (ForInStep U7):=do
 let e <- elem' a (na-1)
 if na-1 == 0 then pure (.done (some (a.extract 0 (na-1)++b.extract 0 nb++(ou.push e).reverse),na-1,nb,ou.push e,mg,ac,bc))
 else if ac<7 && bc<7 then pure (.done (none,na-1,nb,ou.push e,mg,ac,bc)) else pure (.yield (none,na-1,nb,ou.push e,mg,ac,bc))
def hi2b (a b:Array Keyed)(na nb q:Nat)(ou:Array Keyed)(mg ac:Nat):StateT SortSt Sem (ForInStep U7):=
 if nb-q > 0 then
  if q == 1 then pure (.done (some (b.extract 0 q++a.extract 0 na++(ou++(b.extract q nb).reverse).reverse),na,q,ou++(b.extract q nb).reverse,mg,ac,nb-q))
  else if q == 0 then pure (.done (some (a.extract 0 na++b.extract 0 q++(ou++(b.extract q nb).reverse).reverse),na,q,ou++(b.extract q nb).reverse,mg,ac,nb-q))
  else hi3 a b na q (ou++(b.extract q nb).reverse) mg ac (nb-q)
 else hi3 a b na nb ou mg ac (nb-q)
def hi2 (a b:Array Keyed)(na nb:Nat)(ou:Array Keyed)(mg ac bc:Nat):StateT SortSt Sem (ForInStep U7):=do
 let e <- elem' b (nb-1)
 if nb-1 == 1 then pure (.done (some (b.extract 0 (nb-1)++a.extract 0 na++(ou.push e).reverse),na,nb-1,ou.push e,mg,ac,bc))
 else
  let f <- elem' a (na-1)
  let r <- gallop' true f b 0 (nb-1) (nb-1-1)
  match r with
  | some q=>hi2b a b na (nb-1) q (ou.push e) mg ac
  | _=>pure (.done (some (a.extract 0 na++b.extract 0 (nb-1)++(ou.push e).reverse),na,nb-1,ou.push e,mg,ac,bc))
def hi1 (a b:Array Keyed)(na nb q:Nat)(ou:Array Keyed)(mg bc:Nat):StateT SortSt Sem (ForInStep U7):=
 if na-q > 0 then
  if q == 0 then pure (.done (some (a.extract 0 q++b.extract 0 nb++(ou++(a.extract q na).reverse).reverse),q,nb,ou++(a.extract q na).reverse,mg,na-q,bc))
  else hi2 a b q nb (ou++(a.extract q na).reverse) mg (na-q) bc
 else hi2 a b na nb ou mg (na-q) bc
variable {K:Fgg}{E:XK}{α γ ρ S:Type}{F h H:Hp}{L:List Sl}{e:TE}{T:Ty α}{O:Own ρ}{t:TS}{LS:S->List Sl}
theorem zlx_:∀ {ao:List (List α)}{vs:List V}{F h:Hp},OwAll (owL T) F ao vs h->OwIn T F ao vs h
 | [],[],_,_,q=>q
 | _::_,_::_,_,_,⟨h1,h2,j,o,r⟩=>⟨h1,h2,j,o,zlx_ r⟩
 | [],_::_,_,_,q=>q.elim
 | _::_,[],_,_,q=>q.elim
theorem zlV_ {t:TA}{r:Mo (List (List α))}(ht:EvAO K t E L r (owL T)):EvO K (tLst t) E L (r.bind fun xs=>.lim xs.length (.ok xs)) (owLL T):=
 EvO.weak (O:=owLO (owL T)) (O2:=owLL T) (fun ⟨p,vs,h2,e,j,q⟩=>⟨p,vs,h2,e,j,zlx_ q⟩) (zpm_ ht)
abbrev tyRng:Ty (Int×Int):=⟨fun a v F=>∃ p,v=.ref p/\F p=some (.rng a.1 a.2),fun g ⟨p,e,h⟩=>⟨p,e,g _ _ h⟩⟩
theorem zk2_:Bl K mRange E (csCons tyInt (csLast tyInt)) (fun c=>.ok c) tyRng:=by
 rintro c vs F H Q hs ⟨v,us,rfl,rfl,w,rfl,rfl⟩ q p hp
 have x:=Ext.new (o:=.rng c.1 c.2) hs hp
 exact q _ _ x _ ⟨p,rfl,zD_⟩
theorem zji_:BlO K (mList K) E (csLast tyRng) (fun c=>.grd (-50000<=c.1/\c.1<=50000 /\ -50000<=c.2/\c.2<=50000) (.ok (rngI c.1 (c.2-c.1).toNat))) (owL tyInt):=by
 rintro c vs F H Q hs ⟨v,rfl,p,rfl,h⟩ q
 obtain ⟨z,q⟩:=q.grd
 refine .inr ⟨_,_,hs _ _ h,z,fun l hl=>zby_ hs hl ?_ q⟩
 have e:intsV c.1 c.2=(rngI c.1 (c.2-c.1).toNat).map V.int:=by unfold intsV rngI; rw [List.map_map]; rfl
 rw [e]; exact zjd_
def fnU (r:Mo (Out Unit Unit Unit)):Mo Unit:=r.bind fun o=>match o with | .rt a=>.ok a | .nx _=>.ok () | _=>.no
theorem zqr_ {t:XK->TS}{C:Cs γ}{ss:γ->List Sl}{f:γ->Mo (Out Unit Unit Unit)}{LS:Unit->List Sl}{N:List Str}(n m:Nat)(hn:CsN C n)(hm:N.length-n=m)(hC:CsS C ss)(h:∀ c E,EvS K (t E) E (ss c++List.replicate m .dead) (f c) LS (fun _:Unit=>[]) (owF tyNon)):
  ∀ vs H Q E,Ct K C (fun c=>fnU (f c)) (owF tyNon) vs H Q E->t E { nx:=fun _ H'=>Q .non H',rt:=Q } (start N vs) H:=by
 rintro vs H Q E ⟨F,c,hs,hc,q⟩
 have aU:start N vs=vs.map some++List.replicate m none:=by unfold start; rw [hn hc,hm]
 rw [aU]
 refine h c E F H _ F (fun _=>none) H _ ((hC hc).hold m) (zhT_ hs) ?_
 have q:After K (fnU (f c)) E F H (OwnK (owF tyNon) H Q):=q
 cases e:f c with
 | no=>rw [e] at q; exact q
 | ex cc=>rw [e] at q; exact fun F h H ok=>q F H ok.1
 | ok o =>
  rw [e] at q
  cases o with
  | nx s=>exact fun σ F' h' H' _ ok=>q F' H' ok.1 .non (fun _=>none) (fun p z=>absurd rfl z) (fun p=>.inr rfl) (fun p o z=>by cases z) ⟨fun _=>rfl,rfl⟩
  | bk s=>exact q.elim
  | ct s=>exact q.elim
  | rt a=>exact fun v F' h' H' ok hv=>q F' H' ok.1 v h' (fun p z=>ok.2.2.2.1 p z) ok.2.1 ok.2.2.1 hv
end
section
variable {P:Program}{w:World}{K:Fgg}{mg:Str->Option Value}{base:Heap}{x q:Str}{st:Stmt}{N ps:List Str}{k:Nat}{γ:Type}
theorem okXU {C:Cs γ}{ss:γ->List Sl}{g:γ->Mo (Out Unit Unit Unit)}{LS:Unit->List Sl}{t:XK->TS}(n m:Nat)(hC:CsS C ss)(tm:TmX P w K mg base k N q st t)
  (ev:∀ c E,EvS K (t E) E (ss c++List.replicate m .dead) (g c) LS (fun _:Unit=>[]) (owF tyNon)) (hn:CsN C n:=by repeat first | exact zo_ | exact csn_nil | refine zi_ ?_) (S:FnScope N ps (defScope st):=by exact ⟨rfl,rfl,rfl,by decide +kernel,rfl,by decide +kernel,by decide +kernel⟩) (b:Bnd K x q st ps:=by first | exact fun _ _ F=>Fun.binds1 rfl F fun _ _ _ _ _ _ _=>rfl | exact fun _ _ F=>Fun.binds2 rfl F fun _ _ _ _ _ _ _ _=>rfl | exact fun _ _ F=>Fun.binds3 rfl F fun _ _ _ _ _ _ _ _ _=>rfl | exact fun _ _ F=>Fun.binds4 rfl F fun _ _ _ _ _ _ _ _ _ _=>rfl | exact fun _ _ F=>Fun.binds5 rfl F fun _ _ _ _ _ _ _ _ _ _ _=>rfl | exact fun _ _ F=>Fun.binds6 rfl F fun _ _ _ _ _ _ _ _ _ _ _ _=>rfl | exact fun _ _ F=>Fun.binds7 rfl F fun _ _ _ _ _ _ _ _ _ _ _ _ _=>rfl) (hp:ps.length=n:=by rfl) (hm:N.length-n=m:=by rfl):OkF P w K mg base (CXx P w) (k+1) x q st ps (Ct K C (fun c=>fnU (g c)) (owF tyNon)):=fun f fd F =>
 ⟨F.okX S (fun vs H Q E h=>by obtain ⟨F,c,_,hc,_⟩:=h; exact (hn hc).trans hp.symm) fun ah A outer s H vs Q E hr h=>⟨t E,tm ah A outer s H f E S.nd hr,zqr_ (N:=N) (t:=t) n m hn hm hC ev vs H Q E h⟩,b f fd F⟩
end
def Fe1 (K:Fgg)(a:Str)(P:Addr->Prop):Prop:=∃ v,W.nsIn K mainGlobals a=some (some (.ref v))/\P v
theorem Fe1.mk_ {K:Fgg}{a:Str}{P:Addr->Prop}{v:Addr}(h:W.nsIn K mainGlobals a=some (some (.ref v)))(p:P v):Fe1 K a P:=⟨v,h,p⟩
theorem Fe1.g {K:Fgg}{a:Str}{P:Addr->Prop}(h:Fe1 K a P):P (gA K a):=by
 obtain ⟨v,h,p⟩:=h
 rw [zm6_ h]; exact p
def Fe2 (K:Fgg)(a b:Str)(P:Addr->Addr->Prop):Prop:=∃ v w,W.nsIn K mainGlobals a=some (some (.ref v))/\W.nsIn K mainGlobals b=some (some (.ref w))/\P v w
theorem Fe2.mk_ {K:Fgg}{a b:Str}{P:Addr->Addr->Prop}{v w:Addr}(h:W.nsIn K mainGlobals a=some (some (.ref v)))(h2:W.nsIn K mainGlobals b=some (some (.ref w)))(p:P v w):Fe2 K a b P:=⟨v,w,h,h2,p⟩
section
variable {K:Fgg}{E:XK}{L:List Sl}{e:TE}{α γ δ:Type}{T:Ty α}{C:Cs γ}{C':Cs δ}{f:γ->δ}{n m:Nat}
def CsTk (n:Nat)(C:Cs γ)(C':Cs δ)(f:γ->δ):Prop:=∀ {c vs F},C.R c vs F->C'.R (f c) (vs.take n) F/\n<vs.length
theorem tk_1 (h:CsN C (m+1)):CsTk 1 (csCons T C) (csLast T) Prod.fst:=fun {c vs F} ⟨v,us,e,q,z⟩=>by
 have:=h z
 subst e
 exact ⟨⟨v,rfl,q⟩,by rw [List.length_cons,this]; lia⟩
def CsDp (n:Nat)(C:Cs γ)(C':Cs δ)(f:γ->δ):Prop:=∀ {c vs F},C.R c vs F->C'.R (f c) (vs.drop n) F/\0<n/\0<vs.length
theorem dp_1:CsDp 1 (csCons T C) C Prod.snd:=fun {c vs F} ⟨v,us,e,q,z⟩=>by
 subst e
 exact ⟨z,by lia,by simp⟩
theorem dp_s (h:CsDp n C C' f):CsDp (n+1) (csCons T C) C' (fun c=>f c.2):=fun {c vs F} ⟨v,us,e,q,z⟩=>by
 subst e
 exact ⟨(h z).1,by lia,by simp⟩
theorem ev_slTk {r:Mo γ}{i:Int}(hc:CsTk n C C' f)(h:EvF K e E L r (tyTup C))(hi:i=(n:Int):=by rfl):EvF K (tSl (rSlT K) e tNoPart (mPart (tC (.int i)))) E L (r.bind fun c=>.ok (f c)) (tyTup C'):=by
 subst hi
 intro σ F H Q hL hs q
 refine h σ F H _ hL hs (q.bind.imp fun c F1 H1 x1 k1 v af=>?_)
 obtain ⟨p,vs,ev,hp,hr⟩:=af
 subst ev
 obtain ⟨h1,h2⟩:=hc hr
 refine ⟨p,vs,rfl,.of (x1.2.1 _ _ hp),fun z=>?_,fun q hq=>?_⟩
 ·have:=z.2
  rw [ziq_ (by lia)] at this
  lia
 ·have e:cutV vs none (some (n:Int))=vs.take n:=by
   unfold cutV
   rw [ziq_ (by lia),show HT.sIx vs.length 0 none=0 from rfl,List.drop_zero,Nat.sub_zero,show ((n:Int)).toNat=n from rfl,Nat.min_eq_left (by lia)]
  rw [e]
  have x:=Ext.new (o:=.tup (vs.take n)) x1.2.1 hq
  exact k1 _ _ x _ ⟨q,_,rfl,zD_,C'.mono x.1 h1⟩
theorem zpA_ {r:Mo γ}{i:Int}(hc:CsDp n C C' f)(h:EvF K e E L r (tyTup C))(hi:i=(n:Int):=by rfl):EvF K (tSl (rSlT K) e (mPart (tC (.int i))) tNoPart) E L (r.bind fun c=>.ok (f c)) (tyTup C'):=by
 subst hi
 intro σ F H Q hL hs q
 refine h σ F H _ hL hs (q.bind.imp fun c F1 H1 x1 k1 v af=>?_)
 obtain ⟨p,vs,ev,hp,hr⟩:=af
 subst ev
 obtain ⟨h1,h2,h3⟩:=hc hr
 refine ⟨p,vs,rfl,.of (x1.2.1 _ _ hp),fun z=>?_,fun q hq=>?_⟩
 ·have:=z.1
  rw [ziq_ (by lia)] at this
  lia
 ·have e:cutV vs (some (n:Int)) none=vs.drop n:=by
   unfold cutV
   rw [ziq_ (by lia),show HT.sIx vs.length vs.length none=vs.length from rfl,show ((n:Int)).toNat=n from rfl]
   by_cases hl:n<=vs.length
   ·rw [Nat.min_eq_left hl,List.take_of_length_le (by rw [List.length_drop]; exact Nat.le_refl _)]
   ·rw [Nat.min_eq_right (by lia),List.drop_length,List.drop_eq_nil_of_le (by lia),List.take_nil]
  rw [e]
  have x:=Ext.new (o:=.tup (vs.drop n)) x1.2.1 hq
  exact k1 _ _ x _ ⟨q,_,rfl,zD_,C'.mono x.1 h1⟩
end
open PySem.SeqAt
open PySem.AutoSeq1 (wpAny_loadPart')
open PySem.MeetsSeq PySem.MeetsSeq2 PySem.MeetsSeq3
section
variable {α:Type}{O:Own α}
theorem OwAll.swap:∀ {xs:List α}{vs:List V}{F h:Hp}(i:Nat) {x:α},OwAll O F xs vs h->xs[i]?=some x ->
  ∃ h1 h2,Jn h1 h2 h/\∀ x' v' h1' h' F3,Same F F3->O.O x' v' F3 h1'->Jn h1' h2 h'->OwAll O F3 (xs.set i x') (vs.set i v') h'
 | [],_,_,_,_,_,_,e=>by cases e
 | x::xs,[],_,_,_,_,q,_=>q.elim
 | x::xs,v::vs,F,h,0,y,⟨h1,h2,j,o,r⟩,e=>by
  cases e
  exact ⟨h1,h2,j,fun x' v' h1' h' F3 g o' j'=>⟨h1',h2,j',o',r.mono g⟩⟩
 | x::xs,v::vs,F,h,i+1,y,⟨h1,h2,j,o,r⟩,e=>by
  obtain ⟨k1,k2,j1,f⟩:=OwAll.swap i r (by simpa using e)
  obtain ⟨m,jm,jh⟩:=zgM_ j1 (zkt_ j)
  refine ⟨k1,m,jh,fun x' v' av h' F3 g o' j'=>?_⟩
  have d:Dj av k2:=fun p=>by
   rcases j'.dj p with z | z
   ·exact .inl z
   ·exact .inr (jm.l.free z)
  refine ⟨h1,un av k2,?_,O.mono g o,f x' v' av _ F3 g o' (zfO_ d)⟩
  intro p
  rcases j' p with ⟨a,b⟩ | ⟨a,b⟩
  ·rcases jm p with ⟨c,e⟩ | ⟨c,e⟩
   ·right
    refine ⟨by unfold un; rw [a,c],by rw [b,e]⟩
   ·left
    refine ⟨c,by unfold un; rw [a,b,e]⟩
  ·left
   refine ⟨jm.r.free a,?_⟩
   unfold un
   rw [b]
   cases z:av p with
   | none=>exact (jm.l.free a).symm ▸ rfl
   | some w=>rfl
variable {F0 H0 F h H:Hp}{e:TE}{r:Mo α}{m:Str}{w:Nat}
theorem zpJ_ {p:Addr}{o o':HO}{m h2 hn:Hp}{k:Hp}(ok:Okk F0 H0 F h H)(kh:Same k h)(jn:Jn (one p o) m k)(fF:Same h2 m)(fresh:∀ q,hn q≠none->F q=none/\h q=none/\H0 q=none)(hs:Same hn H)(dn:Dj hn h2):
  Jn (one p o') (un hn h2) (un (one p o') (un hn h2))/\PutC F H h H0 k (un (one p o') (un hn h2)) F (upd H p o'):=by
 have jM:∀ q,hn q≠none->k q=none:=fun q z=>kh.free (fresh q z).2.1
 have kp:k p=some o:=jn.l _ _ zx_
 have mp:m p=none:=by
  rcases jn.dj p with y | y
  ·rw [zx_] at y; cases y
  ·exact y
 have cj:∀ {o:HO}{q},q≠p->one p o q=none:=fun {o q} z=>by unfold one; rw [if_neg z]
 have mR:hn p=none:=by
  by_cases y:hn p=none
  ·exact y
  ·have:=jM p y; rw [kp] at this; cases this
 have dj:Dj (one p o') (un hn h2):=fun q=>by
  by_cases z:q=p
  ·right; rw [z]; unfold un; rw [mR]; exact fF.free mp
  ·exact .inl (cj z)
 refine ⟨zfO_ dj,PutC.same ok kh (fun q s z=>?_) (fun q z1 z2=>zZ_ fun e=>?_) fun q z1 z2=>?_⟩
 ·unfold un at z
  by_cases e:q=p
  ·rw [e,zx_] at z; rw [e,zD_]; exact z
  ·rw [cj e] at z
   rw [zZ_ e]
   cases x:hn q with
   | some w=>rw [x] at z; rw [<- z]; exact hs _ _ x
   | none=>rw [x] at z; exact ok.2.2.1 _ _ (kh _ _ (jn.r _ _ (fF _ _ z)))
 ·rw [e,kp] at z1; cases z1
 ·have e0:q≠p:=fun e=>by rw [e,kp] at z1; cases z1
  have e2:h2 q=none:=fF.free (jn.r.free z1)
  have eu:un (one p o') (un hn h2) q=hn q:=by
   unfold un; rw [cj e0]
   cases x:hn q with
   | some w=>rfl
   | none=>exact e2
  rw [eu] at z2 ⊢
  obtain ⟨f1,f2,f3⟩:=fresh q z2
  refine ⟨f1,f2,f3,?_⟩
  cases x:hn q with
  | some w=>exact hs _ _ x
  | none=>exact absurd x z2
end
inductive Dy where
 | non | int (i:Int) | bl (b:Bool) | str (l:List Nat) | tup (ds:List Dy) | lst (ds:List Dy)
mutual
def DyR:Dy->V->Hp->Prop
 | .non,v,_=>v=.non
 | .int i,v,_=>v=.int i
 | .bl b,v,_=>v=.bl b
 | .str l,v,_=>v=tx l
 | .tup ds,v,H=>∃ p us,v=.ref p/\H p=some (.tup us)/\DyRs ds us H
 | .lst ds,v,H=>∃ p us,v=.ref p/\H p=some (.lst us)/\DyRs ds us H
def DyRs:List Dy->List V->Hp->Prop
 | [],us,_=>us=[]
 | d::ds,us,H=>∃ v vs,us=v::vs/\DyR d v H/\DyRs ds vs H
end
mutual
def Dy.plain:Dy->Bool
 | .tup ds=>plains ds
 | .lst _=>false
 | _=>true
def plains:List Dy->Bool
 | []=>true
 | d::ds=>d.plain && plains ds
end
mutual
theorem DyR.mono:∀ {d:Dy}{v:V}{H H':Hp},Same H H'->DyR d v H->DyR d v H'
 | .non,_,_,_,_,h=>by unfold DyR at h ⊢; exact h
 | .int _,_,_,_,_,h=>by unfold DyR at h ⊢; exact h
 | .bl _,_,_,_,_,h=>by unfold DyR at h ⊢; exact h
 | .str _,_,_,_,_,h=>by unfold DyR at h ⊢; exact h
 | .tup ds,_,_,_,g,h=>by
  unfold DyR at h ⊢
  obtain ⟨p,us,e,hp,r⟩:=h
  exact ⟨p,us,e,g _ _ hp,DyRs.mono g r⟩
 | .lst ds,_,_,_,g,h=>by
  unfold DyR at h ⊢
  obtain ⟨p,us,e,hp,r⟩:=h
  exact ⟨p,us,e,g _ _ hp,DyRs.mono g r⟩
theorem DyRs.mono:∀ {ds:List Dy}{us:List V}{H H':Hp},Same H H'->DyRs ds us H->DyRs ds us H'
 | [],_,_,_,_,h=>by unfold DyRs at h ⊢; exact h
 | d::ds,_,_,_,g,h=>by
  unfold DyRs at h ⊢
  obtain ⟨v,vs,e,a,r⟩:=h
  exact ⟨v,vs,e,DyR.mono g a,DyRs.mono g r⟩
end
mutual
theorem DyR.imm:∀ {d:Dy}{v:V}{H H':Hp},d.plain=true->Tups H H'->DyR d v H->DyR d v H'
 | .non,_,_,_,_,_,h=>by unfold DyR at h ⊢; exact h
 | .int _,_,_,_,_,_,h=>by unfold DyR at h ⊢; exact h
 | .bl _,_,_,_,_,_,h=>by unfold DyR at h ⊢; exact h
 | .str _,_,_,_,_,_,h=>by unfold DyR at h ⊢; exact h
 | .tup ds,_,_,_,z,g,h=>by
  unfold Dy.plain at z
  unfold DyR at h ⊢
  obtain ⟨p,us,e,hp,r⟩:=h
  exact ⟨p,us,e,g _ _ hp,DyRs.imm z g r⟩
 | .lst ds,_,_,_,z,g,h=>by unfold Dy.plain at z; cases z
theorem DyRs.imm:∀ {ds:List Dy}{us:List V}{H H':Hp},plains ds=true->Tups H H'->DyRs ds us H->DyRs ds us H'
 | [],_,_,_,_,_,h=>by unfold DyRs at h ⊢; exact h
 | d::ds,_,_,_,z,g,h=>by
  unfold plains at z
  obtain ⟨z1,z2⟩:=Bool.and_eq_true_iff.mp z
  unfold DyRs at h ⊢
  obtain ⟨v,vs,e,a,r⟩:=h
  exact ⟨v,vs,e,DyR.imm z1 g a,DyRs.imm z2 g r⟩
end
abbrev tyDy:Ty Dy:=⟨DyR,fun g h=>h.mono g⟩
abbrev tyDp:Ty Dy:=⟨fun d v H=>d.plain=true/\DyR d v H,fun g h=>⟨h.1,h.2.mono g⟩⟩
theorem zfV_:Imm tyDp:=fun g h=>⟨h.1,DyR.imm h.1 g h.2⟩
section
variable {K:Fgg}{E:XK}{α γ:Type}{L:List Sl}{T:Ty α}{C:Cs γ}{e:TE}
def Into (T:Ty α)(f:α->Dy):Prop:=∀ {a v H},T.R a v H->DyR (f a) v H
def IntoC (C:Cs γ)(f:γ->List Dy):Prop:=∀ {a vs H},C.R a vs H->DyRs (f a) vs H
theorem zea_:Into tyInt .int:=fun h=>by unfold DyR; exact h
theorem zb1_:Into tyStr .str:=fun h=>by unfold DyR; exact h
theorem zqo_:Into tyNon (fun _=>.non):=fun h=>by unfold DyR; exact h
theorem znO_ {f:α->Dy}(h:Into T f):∀ {xs:List α}{vs:List V}{H:Hp},Prs T H xs vs->DyRs (xs.map f) vs H
 | _,_,_,.nil=>by rw [List.map_nil]; unfold DyRs; rfl
 | _,_,_,.cons r t=>by rw [List.map_cons]; unfold DyRs; exact ⟨_,_,rfl,h r,znO_ h t⟩
theorem in_l {f:α->Dy}(h:Into T f):Into (tyL T) (fun xs=>.lst (xs.map f)):=fun ⟨p,vs,e,hp,q⟩=>by
 unfold DyR
 exact ⟨p,vs,e,hp,znO_ h q⟩
theorem zmF_ {f:α->Dy}(h:Into T f):IntoC (csLast T) (fun a=>[f a]):=fun ⟨v,e,q⟩=>by
 unfold DyRs; exact ⟨v,[],e,h q,by unfold DyRs; rfl⟩
theorem zmX_ {f:α->Dy}{g:γ->List Dy}(h:Into T f)(hc:IntoC C g):IntoC (csCons T C) (fun c=>f c.1::g c.2):=fun ⟨v,us,e,q,r⟩=>by
 unfold DyRs; exact ⟨v,us,e,h q,hc r⟩
theorem zqb_ {g:γ->List Dy}(h:IntoC C g):Into (tyTup C) (fun c=>.tup (g c)):=fun ⟨p,us,e,hp,q⟩=>by
 unfold DyR; exact ⟨p,us,e,hp,h q⟩
def OutOf (T:Ty α)(g:Dy->Option α):Prop:=∀ {d a v H},g d=some a->DyR d v H->T.R a v H
def OutC (C:Cs γ)(g:List Dy->Option γ):Prop:=∀ {ds c vs H},g ds=some c->DyRs ds vs H->C.R c vs H
def Dy.int?:Dy->Option Int | .int i=>some i | _=>none
def Dy.str?:Dy->Option (List Nat) | .str i=>some i | _=>none
def Dy.tup?:Dy->Option (List Dy) | .tup i=>some i | _=>none
def Dy.lst?:Dy->Option (List Dy) | .lst i=>some i | _=>none
def Dy.isNon:Dy->Bool | .non=>true | _=>false
theorem zf9_:OutOf tyInt Dy.int?:=fun {d a v H} e h=>by
 cases d with
 | int i=>cases e; unfold DyR at h; exact h
 | _=>cases e
theorem zbc_:OutOf tyStr Dy.str?:=fun {d a v H} e h=>by
 cases d with
 | str i=>cases e; unfold DyR at h; exact h
 | _=>cases e
def allO (g:Dy->Option α):List Dy->Option (List α)
 | []=>some []
 | d::ds=>(g d).bind fun a=>(allO g ds).map fun as=>a::as
theorem zhF_ {g:Dy->Option α}(h:OutOf T g):∀ {ds:List Dy}{xs:List α}{vs:List V}{H:Hp},allO g ds=some xs->DyRs ds vs H->Prs T H xs vs
 | [],_,_,_,e,q=>by
  unfold DyRs at q; subst q; cases e; exact .nil
 | d::ds,_,_,_,e,q=>by
  unfold DyRs at q
  obtain ⟨v,vs,rfl,a,r⟩:=q
  obtain ⟨x,e1,e2⟩:=Option.bind_eq_some_iff.mp e
  obtain ⟨y,e3,e4⟩:=Option.map_eq_some_iff.mp e2
  subst e4
  exact .cons (h e1 a) (zhF_ h e3 r)
theorem out_l {g:Dy->Option α}(h:OutOf T g):OutOf (tyL T) (fun d=>d.lst?.bind (allO g)):=fun {d a v H} e q=>by
 cases d with
 | lst ds =>
  unfold DyR at q
  obtain ⟨p,us,e1,hp,r⟩:=q
  exact ⟨p,us,e1,hp,zhF_ h e r⟩
 | _=>cases e
theorem zkZ_ {g:Dy->Option α}(h:OutOf T g):OutC (csLast T) (fun ds=>match ds with | [d]=>g d | _=>none):=fun {ds c vs H} e q=>by
 match ds,e,q with
 | [d],e,q =>
  unfold DyRs at q
  obtain ⟨v,us,rfl,a,r⟩:=q
  unfold DyRs at r; subst r
  exact ⟨v,rfl,h e a⟩
theorem zkl_ {g:Dy->Option α}{g':List Dy->Option γ}(h:OutOf T g)(hc:OutC C g'):OutC (csCons T C) (fun ds=>match ds with | d::ds=>(g d).bind fun a=>(g' ds).map fun c=>(a,c) | []=>none):=fun {ds c vs H} e q=>by
 match ds,e,q with
 | d::ds,e,q =>
  unfold DyRs at q
  obtain ⟨v,us,rfl,a,r⟩:=q
  obtain ⟨x,e1,e2⟩:=Option.bind_eq_some_iff.mp e
  obtain ⟨y,e3,e4⟩:=Option.map_eq_some_iff.mp e2
  subst e4
  exact ⟨v,us,rfl,h e1 a,hc e3 r⟩
theorem zob_ {g:List Dy->Option γ}(h:OutC C g):OutOf (tyTup C) (fun d=>d.tup?.bind g):=fun {d a v H} e q=>by
 cases d with
 | tup ds =>
  unfold DyR at q
  obtain ⟨p,us,e1,hp,r⟩:=q
  exact ⟨p,us,e1,hp,h e r⟩
 | _=>cases e
def Dy.ty:Dy->String | .non => "NoneType" | .int _ => "int" | .bl _ => "bool" | .str _ => "str" | .tup _ => "tuple" | .lst _ => "list"
theorem ty_dy {d:Dy}{x:V}{H:Hp}(h:DyR d x H):tyS K H x d.ty:=by
 cases d with
 | non=>unfold DyR at h; exact zqk_ (K:=K) (a:=()) h
 | int=>unfold DyR at h; exact znc_ (K:=K) h
 | bl=>unfold DyR at h; exact tn_bl (K:=K) h
 | str=>unfold DyR at h; exact zqm_ (K:=K) h
 | tup=>unfold DyR at h; obtain ⟨p,us,rfl,hp,_⟩:=h; exact .inr ⟨rfl,us,hp⟩
 | lst=>unfold DyR at h; obtain ⟨p,us,rfl,hp,_⟩:=h; exact .inl ⟨rfl,us,hp⟩
theorem zfD_ {c:String}{r:Mo Dy}(h:EvF K e E L r tyDy):EvF K (tCB (mIsa K) (tCons e (tCons (tC (.ty c)) tNil))) E L (r.bind fun d=>Mo.opt (isaB d.ty c)) tyBl:=by
 intro σ F H Q hL hs q
 refine h σ F H _ hL hs (q.bind.imp fun d F1 H1 x1 k1 v hv=>?_)
 obtain ⟨b,eb,k1⟩:=k1.opt
 exact zlm_ (ty_dy (tyDy.mono x1.2.1 hv)) eb (k1.ok x1.2.1 _ rfl)
theorem zcw_:∀ {ds:List Dy}{us:List V}{H:Hp},DyRs ds us H->us.length=ds.length/\∀ (i:Nat) x,us[i]?=some x->∃ d,ds[i]?=some d/\DyR d x H
 | [],us,H,h=>by
  unfold DyRs at h
  subst h
  exact ⟨rfl,fun i x e=>by cases e⟩
 | d::ds,us,H,h=>by
  unfold DyRs at h
  obtain ⟨v,vs,rfl,a,r⟩:=h
  obtain ⟨l,g⟩:=zcw_ r
  refine ⟨by rw [List.length_cons,List.length_cons,l],fun i x e=>?_⟩
  cases i with
  | zero=>cases e; exact ⟨d,rfl,a⟩
  | succ i=>exact g i x (by simpa using e)
def Dy.flat:Dy->V | .int i=>.int i | .bl b=>.bl b | .str l=>tx l | _=>.non
def Dy.kd:Dy->Nat×List Dy | .tup ds=>(1,ds) | .lst ds=>(2,ds) | _=>(0,[])
def eqDy:Nat->Dy->Dy->Bool
 | 0,d,d'=>if d.kd.1=0/\d'.kd.1=0 then eqV d.flat d'.flat else false
 | n+1,d,d'=>if d.kd.1=0/\d'.kd.1=0 then eqV d.flat d'.flat
  else if d.kd.1=d'.kd.1 then (List.range (min d.kd.2.length d'.kd.2.length)).all (fun i=>eqDy n (d.kd.2.getD i .non) (d'.kd.2.getD i .non)) && d.kd.2.length == d'.kd.2.length
  else false
def Dy.fit:Nat->Dy->Bool
 | 0,d=>decide (d.kd.1=0)
 | n+1,d=>d.kd.2.all (Dy.fit n)
theorem zpT_ {d:Dy}{x:V}{H:Hp}(h:DyR d x H):(d.kd.1=0/\x=d.flat/\flatV d.flat=true)\/(∃ p us,d.kd.1=1/\x=.ref p/\H p=some (.tup us)/\DyRs d.kd.2 us H)\/∃ p us,d.kd.1=2/\x=.ref p/\H p=some (.lst us)/\DyRs d.kd.2 us H:=by
 cases d with
 | tup=>unfold DyR at h; obtain ⟨p,us,e,hp,r⟩:=h; exact .inr (.inl ⟨p,us,rfl,e,hp,r⟩)
 | lst=>unfold DyR at h; obtain ⟨p,us,e,hp,r⟩:=h; exact .inr (.inr ⟨p,us,rfl,e,hp,r⟩)
 | _=>unfold DyR at h; exact .inl ⟨rfl,h,rfl⟩
theorem zmr_:∀ {n:Nat}{d d':Dy}{x y:V}{H:Hp},d.fit n=true->DyR d x H->DyR d' y H->EqD K H n x y (eqDy n d d')
 | 0,d,d',x,y,H,hf,hx,hy=>by
  unfold Dy.fit at hf
  have e1:d.kd.1=0:=of_decide_eq_true hf
  unfold eqDy
  rcases zpT_ hx with ⟨_,rfl,f1⟩ | ⟨_,_,c,_⟩ | ⟨_,_,c,_⟩
  ·rcases zpT_ hy with ⟨e2,rfl,f2⟩ | ⟨p,us,e2,rfl,hp,_⟩ | ⟨p,us,e2,rfl,hp,_⟩
   ·rw [if_pos ⟨e1,e2⟩]; exact .flat f1 f2
   ·rw [if_neg fun c=>by rw [e2] at c; exact absurd c.2 (by decide)]; exact .ft (.of hp) f1
   ·rw [if_neg fun c=>by rw [e2] at c; exact absurd c.2 (by decide)]; exact .fl (.of hp) f1
  ·rw [e1] at c; cases c
  ·rw [e1] at c; cases c
 | n+1,d,d',x,y,H,hf,hx,hy=>by
  unfold Dy.fit at hf
  unfold eqDy
  have sub:∀ {us ws:List V},DyRs d.kd.2 us H->DyRs d'.kd.2 ws H->∀ (i:Nat) u w,us[i]?=some u->ws[i]?=some w->EqD K H n u w (eqDy n (d.kd.2.getD i .non) (d'.kd.2.getD i .non)):=fun {us ws} r r2 i u w hu hw=>by
   obtain ⟨a,ea,ra⟩:=(zcw_ r).2 i u hu
   obtain ⟨b,eb,rb⟩:=(zcw_ r2).2 i w hw
   rw [List.getD_eq_getElem?_getD,List.getD_eq_getElem?_getD,ea,eb]
   exact zmr_ (List.all_eq_true.mp hf a (List.mem_of_getElem? ea)) ra rb
  rcases zpT_ hx with ⟨e1,rfl,f1⟩ | ⟨p,us,e1,rfl,hp,r⟩ | ⟨p,us,e1,rfl,hp,r⟩<;>rcases zpT_ hy with ⟨e2,rfl,f2⟩ | ⟨p2,ws,e2,rfl,hp2,r2⟩ | ⟨p2,ws,e2,rfl,hp2,r2⟩<;>rw [e1,e2]
  ·rw [if_pos ⟨rfl,rfl⟩]; exact (EqD.flat f1 f2).le (Nat.zero_le _)
  ·rw [if_neg (by decide),if_neg (by decide)]; exact .ft (.of hp2) f1
  ·rw [if_neg (by decide),if_neg (by decide)]; exact .fl (.of hp2) f1
  ·rw [if_neg (by decide),if_neg (by decide)]; exact .tf (.of hp) f2
  ·rw [if_neg (by decide),if_pos rfl,<- (zcw_ r).1,<- (zcw_ r2).1]
   exact EqD.tup _ (.of hp) (.of hp2) (sub r r2)
  ·rw [if_neg (by decide),if_neg (by decide)]; exact .tl (.of hp) (.of hp2)
  ·rw [if_neg (by decide),if_neg (by decide)]; exact .lf (.of hp) f2
  ·rw [if_neg (by decide),if_neg (by decide)]; exact .lt (.of hp) (.of hp2)
  ·rw [if_neg (by decide),if_pos rfl,<- (zcw_ r).1,<- (zcw_ r2).1]
   by_cases hl:us.length=ws.length
   ·have q:=EqD.lst _ (.of hp) (.of hp2) hl (sub r r2) (K:=K)
    rw [<- hl,Nat.min_self,beq_self_eq_true,Bool.and_true]
    exact q
   ·rw [show (us.length == ws.length)=false from beq_eq_false_iff_ne.mpr hl,Bool.and_false]
    exact .lstN (.of hp) (.of hp2) hl
end
section
variable {X:Cx}{pins:Pnn}{σ:St}{H:Hp}{s:Shared}{A:Around}
theorem zo7_ {x y:V}{v u:Value}(rx:RelV x v)(ry:RelV y u)(fx:flatV x=true)(fy:flatV y=true):SeqAt.RcAt A s v u (eqV x y):=by
 cases x with
 | non =>
  cases rx
  cases y with
  | non=>cases ry; exact SeqAt.RcAt.none_none
  | bl b=>cases ry; exact SeqAt.RcAt.none_bool _
  | int b=>obtain ⟨t,rfl⟩:=ry; exact SeqAt.RcAt.none_int _ _
  | str b=>obtain ⟨t,rfl⟩:=ry; exact SeqAt.RcAt.none_str _ _
  | _=>cases fy
 | bl a =>
  cases rx
  cases y with
  | non=>cases ry; exact SeqAt.RcAt.bool_none _
  | bl b=>cases ry; exact SeqAt.RcAt.bool_bool _ _
  | int b=>obtain ⟨t,rfl⟩:=ry; exact SeqAt.RcAt.bool_int _ _ _
  | str b=>obtain ⟨t,rfl⟩:=ry; exact SeqAt.RcAt.bool_str _ _ _
  | _=>cases fy
 | int a =>
  obtain ⟨t',rfl⟩:=rx
  cases y with
  | non=>cases ry; exact SeqAt.RcAt.int_none _ _
  | bl b=>cases ry; exact SeqAt.RcAt.int_bool _ _ _
  | int b=>obtain ⟨t,rfl⟩:=ry; exact SeqAt.RcAt.int_int _ _ _ _
  | str b=>obtain ⟨t,rfl⟩:=ry; exact SeqAt.RcAt.int_str _ _ _ _
  | _=>cases fy
 | str a =>
  obtain ⟨t',rfl⟩:=rx
  cases y with
  | non=>cases ry; exact SeqAt.RcAt.str_none _ _
  | bl b=>cases ry; exact SeqAt.RcAt.str_bool _ _ _
  | int b=>obtain ⟨t,rfl⟩:=ry; exact SeqAt.RcAt.str_int _ _ _ _
  | str b=>obtain ⟨t,rfl⟩:=ry; exact SeqAt.RcAt.str_str _ _ _ _
  | _=>cases fy
 | _=>cases fx
theorem zmN_ {x y:V}{v u:Value}(rx:RelV x v)(ry:RelV y u)(fx:flatV x=true)(fy:flatV y=true):SeqAt.RcNeAt A s v u (!eqV x y):=by
 cases x with
 | non =>
  cases rx
  cases y with
  | non=>cases ry; exact SeqAt.RcNeAt.none_none
  | bl b=>cases ry; exact SeqAt.RcNeAt.none_bool _
  | int b=>obtain ⟨t,rfl⟩:=ry; exact SeqAt.RcNeAt.none_int _ _
  | str b=>obtain ⟨t,rfl⟩:=ry; exact SeqAt.RcNeAt.none_str _ _
  | _=>cases fy
 | bl a =>
  cases rx
  cases y with
  | non=>cases ry; exact SeqAt.RcNeAt.bool_none _
  | bl b=>cases ry; exact SeqAt.RcNeAt.bool_bool _ _
  | int b=>obtain ⟨t,rfl⟩:=ry; exact SeqAt.RcNeAt.bool_int _ _ _
  | str b=>obtain ⟨t,rfl⟩:=ry; exact SeqAt.RcNeAt.bool_str _ _ _
  | _=>cases fy
 | int a =>
  obtain ⟨t',rfl⟩:=rx
  cases y with
  | non=>cases ry; exact SeqAt.RcNeAt.int_none _ _
  | bl b=>cases ry; exact SeqAt.RcNeAt.int_bool _ _ _
  | int b=>obtain ⟨t,rfl⟩:=ry; exact SeqAt.RcNeAt.int_int _ _ _ _
  | str b=>obtain ⟨t,rfl⟩:=ry; exact SeqAt.RcNeAt.int_str _ _ _ _
  | _=>cases fy
 | str a =>
  obtain ⟨t',rfl⟩:=rx
  cases y with
  | non=>cases ry; exact SeqAt.RcNeAt.str_none _ _
  | bl b=>cases ry; exact SeqAt.RcNeAt.str_bool _ _ _
  | int b=>obtain ⟨t,rfl⟩:=ry; exact SeqAt.RcNeAt.str_int _ _ _ _
  | str b=>obtain ⟨t,rfl⟩:=ry; exact SeqAt.RcNeAt.str_str _ _ _ _
  | _=>cases fy
 | _=>cases fx
theorem rc_lf {p:Addr}{aa:Array Value}{y:V}{u:Value}(hp:s.heap.IsList p aa)(ry:RelV y u)(fy:flatV y=true)(hu:A.units<cLine):SeqAt.RcAt A s (.ref p) u false:=by
 cases y with
 | non=>cases ry; exact SeqAt.RcAt.list_none hp hu
 | bl b=>cases ry; exact SeqAt.RcAt.list_bool _ hp hu
 | int b=>obtain ⟨t,rfl⟩:=ry; exact SeqAt.RcAt.list_int _ _ hp hu
 | str b=>obtain ⟨t,rfl⟩:=ry; exact SeqAt.RcAt.list_str _ _ hp hu
 | _=>cases fy
theorem rc_lF {p:Addr}{aa:Array Value}{y:V}{u:Value}(hp:s.heap.IsList p aa)(ry:RelV y u)(fy:flatV y=true)(hu:A.units<cLine):SeqAt.RcAt A s u (.ref p) false:=by
 cases y with
 | non=>cases ry; exact SeqAt.RcAt.none_list hp hu
 | bl b=>cases ry; exact SeqAt.RcAt.bool_list _ hp hu
 | int b=>obtain ⟨t,rfl⟩:=ry; exact SeqAt.RcAt.int_list _ _ hp hu
 | str b=>obtain ⟨t,rfl⟩:=ry; exact SeqAt.RcAt.str_list _ _ hp hu
 | _=>cases fy
theorem rc_tf {p:Addr}{aa:Array Value}{y:V}{u:Value}(hp:s.heap.IsTuple p aa)(ry:RelV y u)(fy:flatV y=true)(hu:A.units<cLine):SeqAt.RcAt A s (.ref p) u false:=by
 cases y with
 | non=>cases ry; exact SeqAt.RcAt.tuple_none hp hu
 | bl b=>cases ry; exact SeqAt.RcAt.tuple_bool _ hp hu
 | int b=>obtain ⟨t,rfl⟩:=ry; exact SeqAt.RcAt.tuple_int _ _ hp hu
 | str b=>obtain ⟨t,rfl⟩:=ry; exact SeqAt.RcAt.tuple_str _ _ hp hu
 | _=>cases fy
theorem rc_tF {p:Addr}{aa:Array Value}{y:V}{u:Value}(hp:s.heap.IsTuple p aa)(ry:RelV y u)(fy:flatV y=true)(hu:A.units<cLine):SeqAt.RcAt A s u (.ref p) false:=by
 cases y with
 | non=>cases ry; exact SeqAt.RcAt.none_tuple hp hu
 | bl b=>cases ry; exact SeqAt.RcAt.bool_tuple _ hp hu
 | int b=>obtain ⟨t,rfl⟩:=ry; exact SeqAt.RcAt.int_tuple _ _ hp hu
 | str b=>obtain ⟨t,rfl⟩:=ry; exact SeqAt.RcAt.str_tuple _ _ hp hu
 | _=>cases fy
theorem zp5_ {p:Addr}{aa:Array Value}{y:V}{u:Value}(hp:s.heap.IsList p aa)(ry:RelV y u)(fy:flatV y=true)(hu:A.units<cLine):SeqAt.RcNeAt A s (.ref p) u true:=by
 cases y with
 | non=>cases ry; exact SeqAt.RcNeAt.list_none hp hu
 | bl b=>cases ry; exact SeqAt.RcNeAt.list_bool _ hp hu
 | int b=>obtain ⟨t,rfl⟩:=ry; exact SeqAt.RcNeAt.list_int _ _ hp hu
 | str b=>obtain ⟨t,rfl⟩:=ry; exact SeqAt.RcNeAt.list_str _ _ hp hu
 | _=>cases fy
theorem zq1_ {p:Addr}{aa:Array Value}{y:V}{u:Value}(hp:s.heap.IsList p aa)(ry:RelV y u)(fy:flatV y=true)(hu:A.units<cLine):SeqAt.RcNeAt A s u (.ref p) true:=by
 cases y with
 | non=>cases ry; exact SeqAt.RcNeAt.none_list hp hu
 | bl b=>cases ry; exact SeqAt.RcNeAt.bool_list _ hp hu
 | int b=>obtain ⟨t,rfl⟩:=ry; exact SeqAt.RcNeAt.int_list _ _ hp hu
 | str b=>obtain ⟨t,rfl⟩:=ry; exact SeqAt.RcNeAt.str_list _ _ hp hu
 | _=>cases fy
theorem zqC_ {p:Addr}{aa:Array Value}{y:V}{u:Value}(hp:s.heap.IsTuple p aa)(ry:RelV y u)(fy:flatV y=true)(hu:A.units<cLine):SeqAt.RcNeAt A s (.ref p) u true:=by
 cases y with
 | non=>cases ry; exact SeqAt.RcNeAt.tuple_none hp hu
 | bl b=>cases ry; exact SeqAt.RcNeAt.tuple_bool _ hp hu
 | int b=>obtain ⟨t,rfl⟩:=ry; exact SeqAt.RcNeAt.tuple_int _ _ hp hu
 | str b=>obtain ⟨t,rfl⟩:=ry; exact SeqAt.RcNeAt.tuple_str _ _ hp hu
 | _=>cases fy
theorem zqO_ {p:Addr}{aa:Array Value}{y:V}{u:Value}(hp:s.heap.IsTuple p aa)(ry:RelV y u)(fy:flatV y=true)(hu:A.units<cLine):SeqAt.RcNeAt A s u (.ref p) true:=by
 cases y with
 | non=>cases ry; exact SeqAt.RcNeAt.none_tuple hp hu
 | bl b=>cases ry; exact SeqAt.RcNeAt.bool_tuple _ hp hu
 | int b=>obtain ⟨t,rfl⟩:=ry; exact SeqAt.RcNeAt.int_tuple _ _ hp hu
 | str b=>obtain ⟨t,rfl⟩:=ry; exact SeqAt.RcNeAt.str_tuple _ _ hp hu
 | _=>cases fy
theorem znV_ (I:Inv X pins σ H s){n:Nat}{x y:V}{b:Bool}(h:EqD X.K H n x y b):∀ (A:Around) (v u:Value),A.units+n<cLine->RelV x v->RelV y u->SeqAt.RcAt A s v u b:=by
 induction h with
 | flat hx hy=>exact fun A v u _ rx ry=>zo7_ rx ry hx hy
 | lst e hp hq hl h ih=>exact fun A v u hu rx ry=>(zhg_ I (.lst e hp hq hl h) A v u hu rx ry).2 _ _ rfl rfl
 | lstN hp hq hl=>exact fun A v u hu rx ry=>(zhg_ I (.lstN hp hq hl) A v u hu rx ry).2 _ _ rfl rfl
 | tup e hp hq h ih=>exact fun A v u hu rx ry=>(zhg_ I (.tup e hp hq h) A v u hu rx ry).2 _ _ rfl rfl
 | lt hp hq=>exact fun A v u hu rx ry=>(zhg_ I (.lt hp hq) A v u hu rx ry).2 _ _ rfl rfl
 | tl hp hq=>exact fun A v u hu rx ry=>(zhg_ I (.tl hp hq) A v u hu rx ry).2 _ _ rfl rfl
 | lf hp hy=>intro A v u hu rx ry; cases rx; obtain ⟨aa,_,p1,_⟩:=I.list hp; exact rc_lf p1.isList ry hy (by lia)
 | fl hp hy=>intro A v u hu rx ry; cases ry; obtain ⟨aa,_,p1,_⟩:=I.list hp; exact rc_lF p1.isList rx hy (by lia)
 | tf hp hy=>intro A v u hu rx ry; cases rx; obtain ⟨aa,_,p1,_⟩:=I.tuple hp; exact rc_tf p1 ry hy (by lia)
 | ft hp hy=>intro A v u hu rx ry; cases ry; obtain ⟨aa,_,p1,_⟩:=I.tuple hp; exact rc_tF p1 rx hy (by lia)
 | up h ih=>exact fun A v u hu rx ry=>ih A v u (by lia) rx ry
def mEqA (K:Fgg):R2:=fun x y H Q=>∃ n b,n<=50/\EqD K H n x y b/\Q (.bl b) H
theorem zbN_ (hu:X.A.units+60<cLine):OpR X (compareOp .Eq) (mEqA X.K):=by
 intro pins s σ H x y v u Q I rx ry h
 obtain ⟨n,b,hn,h,q⟩:=h
 exact (znV_ I h X.A v u (by lia) rx ry) X.prog X.w X.xe _ ⟨.bl b,H,I,rfl,q⟩
theorem zl7_ (I:Inv X pins σ H s){n:Nat}{x y:V}{b:Bool}(h:EqD X.K H n x y b):∀ (A:Around) (v u:Value),A.units+n<cLine->RelV x v->RelV y u->SeqAt.RcNeAt A s v u (!b):=by
 induction h with
 | flat hx hy=>exact fun A v u _ rx ry=>zmN_ rx ry hx hy
 | lst e hp hq hl h ih=>exact fun A v u hu rx ry=>zjl_ I (.lst e hp hq hl h) A v u hu rx ry _ _ rfl rfl
 | lstN hp hq hl=>exact fun A v u hu rx ry=>zjl_ I (.lstN hp hq hl) A v u hu rx ry _ _ rfl rfl
 | tup e hp hq h ih=>exact fun A v u hu rx ry=>zjl_ I (.tup e hp hq h) A v u hu rx ry _ _ rfl rfl
 | lt hp hq=>exact fun A v u hu rx ry=>zjl_ I (.lt hp hq) A v u hu rx ry _ _ rfl rfl
 | tl hp hq=>exact fun A v u hu rx ry=>zjl_ I (.tl hp hq) A v u hu rx ry _ _ rfl rfl
 | lf hp hy=>intro A v u hu rx ry; cases rx; obtain ⟨aa,_,p1,_⟩:=I.list hp; exact zp5_ p1.isList ry hy (by lia)
 | fl hp hy=>intro A v u hu rx ry; cases ry; obtain ⟨aa,_,p1,_⟩:=I.list hp; exact zq1_ p1.isList rx hy (by lia)
 | tf hp hy=>intro A v u hu rx ry; cases rx; obtain ⟨aa,_,p1,_⟩:=I.tuple hp; exact zqC_ p1 ry hy (by lia)
 | ft hp hy=>intro A v u hu rx ry; cases ry; obtain ⟨aa,_,p1,_⟩:=I.tuple hp; exact zqO_ p1 rx hy (by lia)
 | up h ih=>exact fun A v u hu rx ry=>ih A v u (by lia) rx ry
def mNeA (K:Fgg):R2:=fun x y H Q=>∃ n b,n<=50/\EqD K H n x y b/\Q (.bl (!b)) H
theorem zkN_ (hu:X.A.units+60<cLine):OpR X (compareOp .NotEq) (mNeA X.K):=by
 intro pins s σ H x y v u Q I rx ry h
 obtain ⟨n,b,hn,h,q⟩:=h
 exact (zl7_ I h X.A v u (by lia) rx ry) X.prog X.w X.xe _ ⟨.bl (!b),H,I,rfl,q⟩
end
section
variable {K:Fgg}{E:XK}{α:Type}{T:Ty α}
theorem ziS_ {n:Nat}{q:α->α->Bool}(h:EqT K T n q)(hn:n<=50:=by decide):Op2 K (mNeA K) E T T (fun a b=>.ok (!(q a b))) tyBl:=by
 intro a b x y F H Q hs hx hy k
 exact ⟨n,_,hn,h.eq (T.mono hs hx) (T.mono hs hy),k.ok hs _ rfl⟩
theorem zpd_:Op2 K (mNeA K) E tyDy tyDy (fun a b=>.grd (a.fit 5=true) (.ok (!(eqDy 5 a b)))) tyBl:=by
 intro a b x y F H Q hs hx hy k
 obtain ⟨z,k⟩:=k.grd
 exact ⟨5,_,by decide,zmr_ z (tyDy.mono hs hx) (tyDy.mono hs hy),k.ok hs _ rfl⟩
theorem zaB_ {n:Nat}{q:α->α->Bool}(h:EqT K T n q)(hn:n<=50:=by decide):Op2 K (mEqA K) E T T (fun a b=>.ok (q a b)) tyBl:=by
 intro a b x y F H Q hs hx hy k
 exact ⟨n,_,hn,h.eq (T.mono hs hx) (T.mono hs hy),k.ok hs _ rfl⟩
theorem zph_:Op2 K (mEqA K) E tyDy tyDy (fun a b=>.grd (a.fit 5=true) (.ok (eqDy 5 a b))) tyBl:=by
 intro a b x y F H Q hs hx hy k
 obtain ⟨z,k⟩:=k.grd
 exact ⟨5,_,by decide,zmr_ z (tyDy.mono hs hx) (tyDy.mono hs hy),k.ok hs _ rfl⟩
end
def Fs (K:Fgg)(c m q:Str)(st:Stmt):Prop:=∃ cw f,W.nsIn K mainGlobals c=some (some (.ref cw))/\W.specialIn K (.ref cw) "__getattribute__"=some (some (.builtin "type.__getattribute__"))/\W.readsIn K cw (.type "type")=true/\W.findCls K (.ref cw) (.type "type") m=some (.val (.ref f))/\Fi K m q st f
section
variable {K:Fgg}{q c m:Str}{st:Stmt}{f:Addr}
theorem Fs.mk_ {cw:Addr}{oc:Value}{od:Option Addr}{kV doc pm:Value}{an:Option Addr}{ah ct:Value}{aj:Array (Option Value)}(h:W.nsIn K mainGlobals c=some (some (.ref cw)))(h1:W.specialIn K (.ref cw) "__getattribute__"=some (some (.builtin "type.__getattribute__")))(h2:W.readsIn K cw (.type "type")=true)(h3:W.findCls K (.ref cw) (.type "type") m=some (.val (.ref f)))
  (l:K.lookup f=some ⟨oc,od,.func (W.fnOf m q (defArgs st) (defBody st) (defScope st) .none kV doc pm an ah ct),aj⟩) (hc:W.codeIn K ah q=true) (hk:W.keepIn K (.ref f)=true):Fs K c m q st:=⟨cw,f,h,h1,h2,h3,oc,od,kV,doc,pm,an,ah,ct,aj,l,hc,hk⟩
end
section
variable {K:Fgg}{E:XK}{α ρ S B κ:Type}{F0 H0 F h H:Hp}{L:List Sl}{e:TE}{T:Ty α}{r:Mo α}{Or:Own ρ}{u:TS}{LS:S->List Sl}{LB:B->List Sl}{σ:St}
section
variable [DecidableEq κ]
end
theorem zqj_:EvS K tRetN E L ((Mo.ok ()).bind fun a=>.ok (.rt a)) LS LB (owF tyNon):=zbD_ (zab_ zoy_) (EvF.ow zfM_)
theorem zn1_ {g:TG}{ss:α->List (Nat×Sl)}{k:α->Mo (Out ρ B S)}(he:EvF K e E (L.map Sl.cold) r T)(hg:TgR K g T ss)(hk:∀ a,EvS K u E (setL L (ss a)) (k a) LS LB Or):EvS K (tSeq (tAsg e g) u) E L (r.bind k) LS LB Or:=by
 intro F0 H0 σ F h H D hL ok fin
 refine he σ F H _ hL.coldF ok.1.2.1 (zao_ (G:=F) ok _ (.inr rfl) fin fun a F' H' hr x v hv=>?_)
 rw [hr] at fin
 exact hg a v σ _ H' _ x.2.1 hv fun us hp=>hk a F0 H0 _ _ h H' D (zgk_ hp (hL.mono x.1)) (ok.cold x) fin
end
section
end
def Xc.c:Xc->String
 | .pl c=>c
 | .at c _=>c
def Mo.tr {α β:Type}(r:Mo α)(k:α->Mo β)(hd:Xc->Mo β):Mo β:=match r with | .ok a=>k a | .ex x=>hd x | .no=>.no
section
variable {K:Fgg}{E:XK}{α β:Type}{L:List Sl}{T:Ty α}{T':Ty β}{e:TE}
abbrev tyU (T:Ty α)(T':Ty β):Ty (α ⊕ β):=⟨fun d v H=>match d with | .inl a=>T.R a v H | .inr b=>T'.R b v H,fun {d v H H'} g h=>by cases d with | inl a=>exact T.mono g h | inr b=>exact T'.mono g h⟩
theorem imm_u (i:Imm T)(i':Imm T'):Imm (tyU T T'):=fun {d v H H'} g h=>by cases d with | inl a=>exact i g h | inr b=>exact i' g h
theorem zqf_ {r:Mo α}(h:EvF K e E L r T):EvF K e E L (r.bind fun a=>.ok (.inl a)) (tyU T T'):=by
 intro σ F H Q hL hs q
 exact h σ F H _ hL hs (q.bind.imp fun a F1 H1 x1 k1 v hv=>k1.ok x1.2.1 v hv)
theorem zq3_ {r:Mo β}(h:EvF K e E L r T'):EvF K e E L (r.bind fun a=>.ok (.inr a)) (tyU T T'):=by
 intro σ F H Q hL hs q
 exact h σ F H _ hL hs (q.bind.imp fun a F1 H1 x1 k1 v hv=>k1.ok x1.2.1 v hv)
theorem znK_ {r:Mo (α ⊕ β)}(h:EvF K e E L r (tyU T T')):EvF K e E L (r.bind fun d=>Mo.opt d.getLeft?) T:=by
 intro σ F H Q hL hs q
 refine h σ F H _ hL hs (q.bind.imp fun d F1 H1 x1 k1 v hv=>?_)
 cases d with
 | inl a=>exact k1.ok x1.2.1 v hv
 | inr b=>exact k1.elim
theorem zlt_ {r:Mo (α ⊕ β)}(h:EvF K e E L r (tyU T T')):EvF K e E L (r.bind fun d=>Mo.opt d.getRight?) T':=by
 intro σ F H Q hL hs q
 refine h σ F H _ hL hs (q.bind.imp fun d F1 H1 x1 k1 v hv=>?_)
 cases d with
 | inr a=>exact k1.ok x1.2.1 v hv
 | inl b=>exact k1.elim
end
section
variable {X:Cx}{body orelse:List Stmt}{tb:TX}{th:TH}{te:TS}{x:Str}{pos:Pos}{e:Expr}{hs:List ExceptHandler}
theorem zm8_:PH X hs tH0:=fun _ _ _ _ _ _ _ _ _ _ _ _ h=>h.elim
def tTryHE (tb:TX)(te:TS)(th:TH):TS:=fun D σ H=>tb { D with nx:=fun ai H'=>te D ai H' } (fun ai c d H'=>∃ C,c=.ref C/\th C d D ai H') σ H
theorem zml_ {h₀:ExceptHandler}(bQ:X.stack=X.env::X.outer)(dm:X.env.frame=some X.env.locals)(hb:PSsx X body tb)(hl:PSs X orelse te)(hh:PH X (h₀::hs) th):PS X (.Try body (h₀::hs) orelse [] pos) (tTryHE tb te th):=by
 intro pins s σ H D I h
 refine wpAny_Try_except (wpAny_mono (hb pins s σ H _ _ I h) (fun f s1 q=>?_) fun e s1 q=>?_)
 ·cases f with
  | next=>obtain ⟨ai,H',I',q⟩:=q; exact hl pins s1 ai H' D I' q
  | ret v=>exact q
  | brk=>exact q
  | cont=>exact q
 ·obtain ⟨ai,Hb,sb,Ib,x,T,C,d,H',rfl,os,bare,un,ok,bI,C',hC',q⟩:=q
  cases hC'
  have I1:Inv X pins ai H' s1:=Ib.call' (ch:=[]) os un ok bare (fun b z=>absurd z (by simp))
  obtain ⟨oe,vs,a0,oT,ts',he,d8,hd,h1,hTe,hT,hdT,h3⟩:=bI.obj
  have land:∀ h',znS_ X s1 x T |>.StaysIn h'->h'.FunFrames (znS_ X s1 x T) X.stack->h'.TracedW (znS_ X s1 x T) x (.ref C) a0->s1.heap.UpToSlots h'->Dc x d h'->Inv X pins ai (upd H' x (XO x C d)) { s1 with heap:=h' }:=fun h' a b c up dd=>landed Ib os bare un ok bI ⟨a,W.hideAll_none _ (List.mem_append_right _ List.mem_cons_self),b,c⟩ up dd
  have tr:s1.heap.TracedW (znS_ X s1 x T) x (.ref C) a0:=⟨oe,vs,T,oT,ts',he,d8,hd,h1,W.hideAll_none _ (List.mem_append_right _ (List.mem_cons_of_mem _ List.mem_cons_self)),hTe,hT,hdT,h3⟩
  have i8:s1.heap.FunFrames (znS_ X s1 x T) X.stack:=W.funFrames_hide I1.stack zlM_
  rw [bQ] at i8
  refine zlr_ (outer:=X.outer) (I1.ok.frames.trans (congrArg some bQ)) i8 dm tr (fun b o q=>W.of_hideAll _ q) (W.hideAll_none _ (List.mem_append_right _ List.mem_cons_self)) bI.dc fun h4 n4 d4=>?_
  refine fl_d n4.1 n4.2.1 n4.2.2.1 d4 fun h5 a5 b5 c5 u5 d5=>?_
  have u4:s1.heap.UpToSlots h4:=n4.2.2.2
  rw [<- bQ] at b5
  refine hh pins ai H' D _ x C d _ (land h5 a5 b5 c5 (u4.trans u5) d5) bI.hx (fun A' Q' E' kk=>?_) q
  exact fl_d a5 b5 c5.at d5 fun h6 a6 b6 c6 u6 d6=>kk h6 (land h6 a6 b6 c6 ((u4.trans u5).trans u6) d6)
end
structure FunD (K:Fgg)(T:Addr)(x qual:Str)(st:Stmt)(f:Addr)(fd:FuncData):Prop where
 ex:∃ (oc:Value) (od:Option Addr) (kV doc pm:Value) (an:Option Addr) (ah ct:Value) (aj:Array (Option Value)),
  fd=W.fnOf x qual (defArgs st) (defBody st) (defScope st) (.ref T) kV doc pm an ah ct/\K.lookup f=some ⟨oc,od,.func fd,aj⟩/\W.codeIn K ah qual=true
 kp:W.keepIn K (.ref f)=true
section
variable {P:Program}{w:World}{K:Fgg}{mg:Str->Option Value}{base:Heap}
theorem FunD.ok {T:Addr}{x qual:Str}{st:Stmt}{f:Addr}{fd:FuncData}{N ps:List Str}{k:Nat}{sp:Sp}(F:FunD K T x qual st f fd)(S:FnScope N ps (defScope st))(len:∀ vs H Q E,sp vs H Q E->vs.length=ps.length)
  (aW:∀ (ah:Value) (A:Around) (outer:List Env) (s:Shared) (H:Hp) (vs:List V) (Q:VK) (E:XK),Room k (A.deeper (envOfC qual (defScope st) s.heap.objs.size f ah))->sp vs H Q E ->
   ∃ t,PSs (cxOf CX0 P w K mg base N qual (defScope st) f ah A outer s H E).nox (defBody st) t/\t { nx:=fun _ H'=>Q .non H',rt:=Q } (start N vs) H):FnOk P w K mg base CX0 (k+1) f fd ps sp:=by
 obtain ⟨oc,od,kV,doc,pm,an,ah,ct,aj,rfl,lk,bT⟩:=F.ex
 refine zqU_ lk bT S len fun A outer s H vs Q E hr cM=>?_
 obtain ⟨t,h,q⟩:=aW ah A outer s H vs Q E hr cM
 exact ⟨t,h.nox,q⟩
end
def relB:V->Value->Bool
 | .non,.none=>true
 | .int i,.int j _=>i == j
 | .bl a,.bool b=>a == b
 | _,_=>false
def relsB:List V->List Value->Bool
 | [],[]=>true
 | x::xs,v::vs=>relB x v && relsB xs vs
 | _,_=>false
theorem zpC_ {x:V}{v:Value}(h:relB x v=true):RelV x v:=by
 unfold relB at h
 split at h
 ·rfl
 ·exact ⟨_,by rw [eq_of_beq h]⟩
 ·rw [eq_of_beq h]; rfl
 ·cases h
theorem ziO_:∀ {xs:List V}{vs:List Value},relsB xs vs=true->Vals xs vs
 | [],[],_=>.nil
 | x::xs,v::vs,h=>by
  unfold relsB at h
  obtain ⟨a,b⟩:=Bool.and_eq_true_iff.mp h
  exact .cons (zpC_ a) (ziO_ b)
 | [],_::_,h=>by cases h
 | _::_,[],h=>by cases h
def FmD (K:Fgg)(c m q:Str)(st:Stmt)(ar:List V):Prop:=∃ cw f T fd arr n oc od aj,W.nsIn K mainGlobals c=some (some (.ref cw))/\W.findIn K (.ref cw) m=some (some (.ref f))/\W.isFn K (.ref f)=true/\FunD K T m q st f fd /\
 K.lookup T=some ⟨oc,od,.seq arr n,aj⟩/\Vals ar arr.toList
section
variable {P:Program}{w:World}{K:Fgg}{mg:Str->Option Value}{base:Heap}{CX:CXT}{x q c m:Str}{st:Stmt}{f:Addr}{fd:FuncData}{ps:List Str}{k:Nat}{sp:Sp}
theorem FmD.mk_ {cw T:Addr}{oc kZ:Value}{od kY:Option Addr}{kV doc pm:Value}{an:Option Addr}{ah ct:Value}{aj gu:Array (Option Value)}{arr:Array Value}{n:Nat}{ar:List V}(h:W.nsIn K mainGlobals c=some (some (.ref cw)))(h1:W.findIn K (.ref cw) m=some (some (.ref f)))(h2:W.isFn K (.ref f)=true)
  (l:K.lookup f=some ⟨oc,od,.func (W.fnOf m q (defArgs st) (defBody st) (defScope st) (.ref T) kV doc pm an ah ct),aj⟩) (c1:W.codeIn K ah q=true) (k1:W.keepIn K (.ref f)=true) (lT:K.lookup T=some ⟨kZ,kY,.seq arr n,gu⟩) (hv:relsB ar arr.toList=true):FmD K c m q st ar:=
 ⟨cw,f,T,_,arr,n,kZ,kY,gu,h,h1,h2,⟨⟨oc,od,kV,doc,pm,an,ah,ct,aj,rfl,l,c1⟩,k1⟩,lT,ziO_ hv⟩
def GkD (P:Program)(w:World)(K:Fgg)(mg:Str->Option Value)(base:Heap)(CX:CXT)(k:Nat)(x:Str)(C:Addr)(ps:List Str)(ar:List V)(sp:Sp):Prop:=
 ∃ f fd ds,FnOk P w K mg base CX k f fd ps sp/\Mk K C f/\mg x=some (.ref C)/\Vals ar ds/\Binds K fd ps ds
abbrev OkFD (P:Program)(w:World)(K:Fgg)(mg:Str->Option Value)(base:Heap)(CX:CXT)(k:Nat)(x q:Str)(st:Stmt)(ps:List Str)(sp:Sp):Prop:=∀ T f fd,FunD K T x q st f fd->FnOk P w K mg base CX k f fd ps sp
end
section
variable {K:Fgg}{E:XK}{α γ cK δ:Type}{F h H:Hp}{L:List Sl}{T:Ty α}{C0:Cs γ}{C1:Cs cK}{Qt:Cs δ}{ar:List V}{f:γ->cK}{ta:TA}{ra:Mo γ}{C:Addr}
def CsD (Q:Cs γ)(ar:List V)(Q':Cs cK)(f:γ->cK):Prop:=∀ {c vs F},Q.R c vs F->Q'.R (f c) (vs++ar) F
theorem zmO_ {ct:δ}(h:∀ F,Qt.R ct ar F):CsD (csLast T) ar (csCons T Qt) (fun a=>(a,ct)):=by
 rintro c vs F ⟨v,rfl,h1⟩
 exact ⟨v,ar,rfl,h1,h F⟩
theorem zg7_ (h:CsD C0 ar C1 f):CsD (csCons T C0) ar (csCons T C1) (fun c=>(c.1,f c.2)):=by
 rintro c vs F ⟨v,us,rfl,h1,h2⟩
 exact ⟨v,us++ar,rfl,h1,h h2⟩
def taD (ta:TA)(ar:List V):TA:=fun σ H Q=>ta σ H fun vs H1=>Q (vs++ar) H1
theorem ea_D (h:EvA K ta E L ra C0)(hD:CsD C0 ar C1 f):EvA K (taD ta ar) E L (ra.bind fun c=>.ok (f c)) C1:=by
 intro σ F H R hL hs q
 exact h σ F H _ hL hs (q.bind.imp fun c F1 H1 x1 k1 vs aS=>k1.ok x1.2.1 _ (hD aS))
theorem zn7_ {sp:Sp}{E:XK}:tMake C sp ar E ta=tMake C sp [] E (taD ta ar):=by
 funext σ H Q
 unfold tMake taD
 simp only [List.append_nil]
end
section
variable {X:Cx}{e:Expr}{es:List Expr}{x:Str}{p pos:Pos}{t:TA}{C:Addr}{k:Nat}{ps:List Str}{sp:Sp}{E:XK}{CX:CXT}{ar:List V}
theorem zhh_ (G:GkD X.prog X.w X.K X.mg X.base CX k x C ps ar sp)(hr:Room (k+1) X.A)(hx:Passes CX X E)(ha:PA X (e::es) t)(hg:Gl X x:=by rfl)(bp:(x==("__debug__":Str))=false:=by decide)
  (he:starEach (e::es) X.env=(false,eval e X.env)::starEach es X.env:=by rfl) (aB:(backTo pos (starEach es X.env)).any (·.1)=false:=by rfl):
  PE X (.Call (.Name x p) (e::es) [] pos) (tMake C sp ar E t):=by
 obtain ⟨f,fd,ds,F,M,hm,hd,hb⟩:=G
 exact zo2_ M F hr hg hm hb hd hx ha bp he aB
end
section
variable {P:Program}{w:World}{K:Fgg}{mg:Str->Option Value}{base:Heap}{x q c:Str}{st:Stmt}{N ps:List Str}{k:Nat}{α β γ:Type}
theorem okUD {O:Own α}{O2:Own β}{C:Cs γ}{ss:γ->List Sl}{g:α->γ->Mo (Out (Unit×β) Unit β)}{t:XK->TS}{LS:V->β->List Sl}(n m:Nat)(hC:CsS C ss)(tm:Tm P w K mg base k N q st t)
  (ev:∀ w x c E,EvS K (t E) E (.ow (owAt w O) x::(ss c++List.replicate m .dead)) (g x c) (LS w) (fun _:Unit=>[]) (owRM w O2 (owF tyNon))) (hn:CsN C n:=by repeat first | exact zo_ | exact csn_nil | refine zi_ ?_) (S:FnScope N ps (defScope st):=by exact ⟨rfl,rfl,rfl,by decide +kernel,rfl,by decide +kernel,by decide +kernel⟩) (hp:ps.length=n+1:=by rfl) (hm:N.length-(n+1)=m:=by rfl) (j7:∀ w x,(LS w x)[0]?=some (.ow (owAt w O2) x):=by exact fun _ _=>rfl):OkFD P w K mg base CX0 (k+1) x q st ps (CtM K O O2 C (fun x c=>fnMU (g x c)) (owF tyNon)):=fun T f fd F =>
 F.ok S (fun vs H Q E h=>by obtain ⟨F,h,x,c,w,ws,rfl,_,_,_,_,hc,_⟩:=h; rw [List.length_cons,hn hc,hp]) fun ah A outer s H vs Q E hr h=>⟨t E,tm ah A outer s H f E S.nd hr,zof_ (N:=N) (t:=t) n m hn hm hC j7 ev vs H Q E h⟩
theorem zom_ {CX:CXT}{sp:Sp}{ar:List V}(j:Nat)(M:Mgo K mg)(C:Fc K c)(F:FmD K c "__init__" q st ar)(hb:∀ T f fd arr n oc od aj,FunD K T "__init__" q st f fd->K.lookup T=some ⟨oc,od,.seq arr n,aj⟩->arr.toList.length=ar.length->Binds K fd ps (arr.toList.drop j))
  (h:OkFD P w K mg base CX k "__init__" q st ps sp):GkD P w K mg base CX k c (gA K c) ps (ar.drop j) sp:=by
 obtain ⟨cw,f,T,fd,arr,n,oc,od,aj,e,e2,e3,F,lT,hv⟩:=F
 obtain ⟨nA,e',_,_,_,_,h5,h6⟩:=C
 cases e.symm.trans e'
 have hd:∀ {xs:List V}{vs:List Value}(j:Nat),Vals xs vs->Vals (xs.drop j) (vs.drop j):=fun {xs vs} j r=>by
  induction j generalizing xs vs with
  | zero=>exact r
  | succ j ih=>cases r with | nil=>exact .nil | cons a t=>exact ih t
 exact ⟨f,fd,arr.toList.drop j,h T f fd F,by rw [zm6_ e]; exact ⟨h5,e2,e3,h6⟩,M.gk ⟨_,e⟩,hd j hv,hb T f fd arr n oc od aj F lT hv.length.symm⟩
theorem arr5 {arr:Array Value}(h:arr.toList.length=5):∃ d0 d1 d2 d3 d4,arr=#[d0,d1,d2,d3,d4]:=by
 obtain ⟨l⟩:=arr
 match l,h with
 | [d0,d1,d2,d3,d4],_=>exact ⟨d0,d1,d2,d3,d4,rfl⟩
end
def strsB:List (List Nat)->List Value->Bool
 | [],[]=>true
 | x::xs,.str z _::vs=>z == ⟨x.toArray⟩ && strsB xs vs
 | _,_=>false
theorem ziY_:∀ {xs:List (List Nat)}{vs:List Value},strsB xs vs=true->Vals (xs.map tx) vs
 | [],[],_=>.nil
 | x::xs,v::vs,h=>by
  unfold strsB at h
  split at h
  ·rename_i e1 _; cases e1
  ·rename_i e1 e2
   cases e1; cases e2
   obtain ⟨a,b⟩:=Bool.and_eq_true_iff.mp h
   exact .cons ⟨_,by rw [eq_of_beq a]⟩ (ziY_ b)
  ·cases h
 | [],_::_,h=>by cases h
 | _::_,[],h=>by cases h
def FtT (K:Fgg)(x:Str)(xs:List (List Nat)):Prop:=∀ H:Hp,SqT K H (gA K x) (xs.map tx)
theorem FtT.mk_ {K:Fgg}{x:Str}{xs:List (List Nat)}{a:Addr}{od:Option Addr}{aa:Array Value}{n:Nat}{aj:Array (Option Value)}(h:W.nsIn K mainGlobals x=some (some (.ref a)))(l:K.lookup a=some ⟨.type "tuple",od,.seq aa n,aj⟩)(hv:strsB xs aa.toList=true)(hs:aa.toList.length<=1000):FtT K x xs:=fun H=>by
 rw [zm6_ h]
 exact .inr ⟨_,aa,n,l,rfl,rfl,by rw [Array.length_toList] at hs; exact Nat.le_trans hs (by rw [sizeLine_eq]; decide),ziY_ hv⟩
section
variable {K:Fgg}{E:XK}{α γ cK:Type}{L:List Sl}{T:Ty α}{C1:Cs γ}{C2:Cs cK}{e:TE}
theorem zpl_ {x:Str}{xs:List (List Nat)}{r:Mo (List Nat)}(F:FtT K x xs)(h:EvF K e E L r tyStr):EvF K (tOp (mIn K false) e (tC (.ref (gA K x)))) E L (r.bind fun a=>.ok (xs.any fun y=>decide (y=a))) tyBl:=by
 intro σ F' H Q hL hs q
 refine h σ F' H _ hL hs (q.bind.imp fun a F1 H1 x1 k1 v hv=>?_)
 cases hv
 have key:∀ ys:List (List Nat),(ys.map tx).all flatV=true/\inV (tx a) (ys.map tx)=ys.any fun y=>decide (y=a):=fun ys=>by
  have pr:Prs tyStr F1 ys (ys.map tx):=by
   induction ys with
   | nil=>exact .nil
   | cons y ys ih=>exact .cons rfl ih
  exact zlz_ (T:=tyStr) zpr_ (a:=a) rfl pr
 refine ⟨xs.map tx,.inr (F H1),rfl,(key xs).1,?_⟩
 rw [(key xs).2]
 exact k1.ok x1.2.1 _ rfl
theorem zpa_ {i:Nat}{p1:γ->α}{p2:cK->α}{r:Mo (γ ⊕ cK)}(a1:CsAt C1 i T p1)(a2:CsAt C2 i T p2)(h:EvF K e E L r (tyU (tyTup C1) (tyTup C2))):EvF K (tOp (mIx K) e (tC (.int i))) E L (r.bind fun d=>.ok (d.elim p1 p2)) T:=by
 intro σ F H Q hL hs q
 refine h σ F H _ hL hs (q.bind.imp fun d F1 H1 x1 k1 v1 hv=>?_)
 have fin:∀ (us:List V) (w:V) (p:Addr) (z:α),F1 p=some (.tup us)->us[i]?=some w->T.R z w F1->After K (.ok z) E F1 H1 (fun c F' H'=>∀ v,T.R c v F'->Q v H')->(mIx K) (.ref p) (.int i) H1 Q:=fun us w p z hp e2 aN k=>by
  refine ⟨us,.inr (.of (x1.2.1 _ _ hp)),?_⟩
  have e3:atI us (i:Int)=some w:=by
   unfold atI
   rw [zol_ (by lia) (by have:=(List.getElem?_eq_some_iff.mp e2).1; lia)]
   simpa using e2
  rw [e3]
  exact k.ok x1.2.1 w aN
 cases d with
 | inl c =>
  obtain ⟨p,us,rfl,hp,hc⟩:=hv
  obtain ⟨w,e2,aN⟩:=a1 hc
  exact fin us w p _ hp e2 aN k1
 | inr c =>
  obtain ⟨p,us,rfl,hp,hc⟩:=hv
  obtain ⟨w,e2,aN⟩:=a2 hc
  exact fin us w p _ hp e2 aN k1
theorem zjH_ {n1 n2:Nat}(h1:CsN C1 n1)(h2:CsN C2 n2):Bl K (mLen K) E (csLast (tyU (tyTup C1) (tyTup C2))) (fun d=>.ok (d.elim (fun _=>(n1:Int)) fun _=>(n2:Int))) tyInt:=by
 rintro d vs F H Q hs ⟨v,rfl,hv⟩ q
 cases d with
 | inl c=>obtain ⟨p,us,rfl,h,r⟩:=hv; exact ⟨us,.inr (.of (hs _ _ h)),q.ok hs _ (by rw [h1 r]; rfl)⟩
 | inr c=>obtain ⟨p,us,rfl,h,r⟩:=hv; exact ⟨us,.inr (.of (hs _ _ h)),q.ok hs _ (by rw [h2 r]; rfl)⟩
variable {β ρ S B:Type}{T':Ty β}{C:Cs γ}{O:Own ρ}{LS:S->List Sl}{LB:B->List Sl}{th:TH}{t rest:TS}
theorem znW_ {r:Mo (Out ρ B S)}(h:EvS K (tSeq t rest) E L r LS LB O):EvS K (tSeq (tTryHE (fun D _ σ H=>t D σ H) tNext th) rest) E L r LS LB O:=h
theorem zl5_ {f:γ->List α}(hf:CsL C T f):BlO K (mList K) E (csLast (tyTup C)) (fun c=>.ok (f c)) (owL T):=by
 rintro c vs F H Q hs ⟨v,rfl,p,us,rfl,h,r⟩ q
 exact .inl ⟨us,.inr (.of (hs _ _ h)),fun l hl=>zby_ hs hl (hf r) q⟩
theorem nn_u {a:α ⊕ β}{v:V}{F:Hp}(h1:∀ a v F,T.R a v F->v≠.non)(h2:∀ a v F,T'.R a v F->v≠.non)(h:(tyU T T').R a v F):v≠.non:=by
 cases a with
 | inl a=>exact h1 _ _ _ h
 | inr a=>exact h2 _ _ _ h
end
instance:Inhabited V:=⟨.non⟩
section
end
theorem zkP_ (l:List Nat):(List.range l.length).filterMap (fun k=>l[l.length-1-k]?)=l.reverse:=by
 have h:(List.range l.length).map (fun k=>l[l.length-1-k]?)=l.reverse.map some:=by
  refine List.ext_getElem (by simp) fun i h1 h2=>?_
  rw [List.length_map,List.length_range] at h1
  rw [List.getElem_map,List.getElem_range,List.getElem_map,List.getElem_reverse,List.getElem?_eq_getElem (by lia)]
 have e:(List.range l.length).filterMap (fun k=>l[l.length-1-k]?)=((List.range l.length).map (fun k=>l[l.length-1-k]?)).filterMap id:=by
  rw [List.filterMap_map]; rfl
 rw [e,h,List.filterMap_map]
 exact List.filterMap_some
theorem zjW_ (x:Str):(Builtin.Str.strSliceIndices none none (-1) x.length).filterMap (x.cps[·]?)=x.cps.toList.reverse:=by
 have h2:x.cps.toList.length=x.length:=by simp [Str.length]
 unfold Builtin.Str.strSliceIndices sliceRange
 simp only
 rw [if_neg (show ¬ (-1:Int) > 0 by decide),if_neg (show ¬ (-1:Int) > 0 by decide),if_neg (show ¬ (-1:Int) > 0 by decide),List.filterMap_map,<- zkP_,h2]
 have hc:(if (x.length:Int)-1 > -1 then ((x.length:Int)-1 - -1 - -1-1) / - -1 else 0)=(x.length:Int):=by
  split
  ·rw [show (- -1:Int)=1 by decide,Int.ediv_one]; lia
  ·lia
 rw [hc,Int.toNat_natCast]
 refine zc6_ fun k hk=>?_
 have hk:=List.mem_range.mp hk
 show x.cps[((x.length:Int)-1 + -1*(k:Int)).toNat]?=x.cps.toList[x.length-1-k]?
 rw [show ((x.length:Int)-1 + -1*(k:Int)).toNat=x.length-1-k by lia]
 simp
def tRevS (te:TE)(ts:TO):TE:=fun σ H Q=>te σ H fun x H1=>ts σ H1 fun o H2=>o=some (-1)/\match x with
 | .str z=>z.cps.toList.length<=sizeLine/\Q (tx z.cps.toList.reverse) H2
 | _=>False
section
variable {X:Cx}{e st:Expr}{te:TE}{ts:TO}{pos p2:Pos}
theorem zpt_ (he:PE X e te)(hs:PO X (some st) ts):PE X (.Subscript e (.Slice none none (some st) p2) pos) (tRevS te ts):=by
 intro pins s σ H Q I h
 refine Subscript_ (thn (he pins s σ H _ I h) fun v s1 af=>?_)
 obtain ⟨x,H1,I1,r1,q1⟩:=af
 have pn:∀ (s:Shared) (Q':Value->Shared->Prop),Q' .none s->wpAny (model X.prog X.w) X.A (evalPart none X.env) Q' X.xe s:=fun s Q' q=>by rw [evalPart_none]; exact wpAny_pure q
 refine wpAny_Slice (pn _ _ (pn _ _ ?_))
 refine thn (hs pins s1 σ H1 _ I1 q1) fun nP s3 af=>?_
 obtain ⟨o,H3,I3,po,eo,q3⟩:=af
 subst eo
 cases x with
 | str z =>
  obtain ⟨hz,q⟩:=q3
  obtain ⟨t,rfl⟩:=r1
  obtain ⟨l,rfl,hl⟩:=zcB_ po
  have I4:Inv X pins σ H3 { s3 with heap:=s3.heap.push { cls:=.type "slice",data:=.fields #[.none,.none,partValue l] } }:=I3.kept (t':=s3.toks) fun b ob q=>Heap.get?_push_of_some _ q
  show wpAny (model X.prog X.w) X.A (subscriptTail e (.Slice none none (some st) p2) (.str z t) (.ref s3.heap.objs.size)) (EP X pins σ Q) X.xe { s3 with heap:=s3.heap.push { cls:=.type "slice",data:=.fields #[.none,.none,partValue l] } }
  refine tail_any (ops:=[.str z t,.ref s3.heap.objs.size]) (typeIs_str _ _ _) F.slot_str_getitem.lookup ?_ (by with_unfolding_all rfl)
  refine wpAny_getItem_str_slice (l:=none) (u:=none) (st:=l) ⟨_,Heap.get?_push_size _ rfl,rfl,rfl⟩ (by rw [hl]; rfl) ?_
  unfold sliceMade
  rw [if_neg (by rw [hl]; simp)]
  have e2:slicePicked z none none l=Builtin.Str.strSliceIndices none none (-1) z.length:=by unfold slicePicked; rw [hl]; rfl
  rw [e2,zjW_]
  refine ⟨?_,tx z.cps.toList.reverse,H3,I4.tok _,⟨_,rfl⟩,q⟩
  show z.cps.toList.reverse.toArray.size<=sizeLine
  rw [List.size_toArray,List.length_reverse]
  exact hz
 | _=>exact q3.elim
end
section
variable {prog:Program}{w:World}{A:Around}{E:Value->Shared->Prop}
theorem parts5 {s:Shared}{l:Addr}{x y z u v:Value}{Q:List Value->Shared->Prop}(hA:A.handled=none)(hl:s.heap.IsList l #[x,y,z,u,v])
  (q:∀ h',(∀ b o,b≠s.heap.objs.size->s.heap.get? b=some o->h'.get? b=some o)->Q [x,y,z,u,v] { s with heap:=h' }):wpAny (model prog w) A (unpackItems (.ref l) 5 none) Q E s:=by
 have ne:l≠s.heap.objs.size:=by obtain ⟨o,ho,_⟩:=hl; exact Nat.ne_of_lt (Heap.lt_size ho)
 unfold unpackItems notIterableAtAll
 refine wpAny_bind (wpAny_bind (wpAny_specialOf hl.typeIs slot_list_iter.lookup (wpAny_pure ?_)))
 rw [if_neg (by decide)]
 refine wpAny_bind (wpAny_holding (wpAny_pyIter_list hl ?_))
 have i0:Heap.IsListIter (s.heap.push { cls:=.type "list_iterator",data:=.fields #[.ref l,.int 0 0] }) s.heap.objs.size l 0:=⟨_,Heap.get?_push_size _ rfl,rfl,rfl⟩
 refine wpAny_bind (wpAny_holding ?_)
 show wpAny _ _ (pyNext _>>=_) _ _ _; refine wpAny_bind (wpAny_pyNext_list_item i0 (hl.push _) rfl fun h1 i1 e1=>?_)
 have l1:h1.IsList l #[x,y,z,u,v]:=(hl.push _).extBut e1.extBut ne
 refine wpAny_bind (wpAny_holding ?_)
 show wpAny _ _ (pyNext _>>=_) _ _ _; refine wpAny_bind (wpAny_pyNext_list_item (s:={ s with heap:=h1 }) i1 l1 rfl fun h2 i2 e2=>?_)
 have l2:h2.IsList l #[x,y,z,u,v]:=l1.extBut e2.extBut ne
 refine wpAny_bind (wpAny_holding ?_)
 show wpAny _ _ (pyNext _>>=_) _ _ _; refine wpAny_bind (wpAny_pyNext_list_item (s:={ s with heap:=h2 }) i2 l2 rfl fun h3 i3 e3=>?_)
 have l3:h3.IsList l #[x,y,z,u,v]:=l2.extBut e3.extBut ne
 refine wpAny_bind (wpAny_holding ?_)
 show wpAny _ _ (pyNext _>>=_) _ _ _; refine wpAny_bind (wpAny_pyNext_list_item (s:={ s with heap:=h3 }) i3 l3 rfl fun h4 i4 e4=>?_)
 have l4:h4.IsList l #[x,y,z,u,v]:=l3.extBut e4.extBut ne
 refine wpAny_bind (wpAny_holding ?_)
 show wpAny _ _ (pyNext _>>=_) _ _ _; refine wpAny_bind (wpAny_pyNext_list_item (s:={ s with heap:=h4 }) i4 l4 rfl fun h5 i5 e5=>?_)
 have l5:h5.IsList l #[x,y,z,u,v]:=l4.extBut e5.extBut ne
 refine wpAny_bind (wpAny_holding (wpAny_pure (wpAny_pure (wpAny_pure (wpAny_pure (wpAny_pure (wpAny_pure ?_)))))))
 rw [if_neg (by simp)]
 refine wpAny_bind (wpAny_holding (wpAny_pyNext_list_end (s:={ s with heap:=h5 }) hA i5 l5 rfl fun h6 e6=>?_))
 exact wpAny_pure (q h6 fun b o hb e=>e6 b o hb (e5.extBut b o hb (e4.extBut b o hb (e3.extBut b o hb (e2.extBut b o hb (e1.extBut b o hb (Heap.get?_push_of_some _ e)))))))
end
section
variable {X:Cx}
def gLst5 (K:Fgg)(t:TGs):TG:=fun v σ H Q=>match v with | .ref a=>∃ x y z u w,SqL K H a [x,y,z,u,w]/\t [x,y,z,u,w] σ H Q | _=>False
theorem zpM_ {es:List Expr}{k:Nat}{t:TGs}{pos:Pos}(hc:X.calm=true)(h:PGs X es t)
  (hn:(assignEach es X.env).length=5:=by rfl) (bQ:(assignEach es X.env).findIdx? (·.1)=none:=by rfl):PG X (.Tuple es k pos) (gLst5 X.K t):=by
 intro pins s σ H v u Q I r hw
 cases v with
 | ref a =>
  obtain ⟨x,y,z,m,n,hq,hw⟩:=hw
  cases r
  obtain ⟨aa,rv,hp,_⟩:=I.list hq
  obtain ⟨x',y',z',m',n',rfl⟩:∃ x' y' z' m' n',aa=[x',y',z',m',n']:=by
   have:=rv.length
   match aa,this with
   | [x',y',z',m',n'],_=>exact ⟨x',y',z',m',n',rfl⟩
  rw [PyProof.Rows.assign_Tuple]
  refine wpAny_bind (wpAny_standAt ?_)
  unfold unpack
  rw [hn,bQ]
  refine wpAny_bind (wpAny_holding (parts5 (I.ok.hd hc) hp.isList fun h1 hx=>?_))
  have I1:Inv X pins σ H { s with heap:=h1 }:=I.kept (t':=s.toks) fun b o e=>hx b o (Nat.ne_of_lt (Heap.lt_size e)) e
  exact h pins _ σ H _ _ Q I1 rv hw
 | _=>exact hw.elim
variable {K:Fgg}{E:XK}{α β γ ρ S B:Type}{L:List Sl}{T:Ty α}{T':Ty β}{C:Cs γ}{e e1 e2:TE}{O:Own ρ}{LS:S->List Sl}{LB:B->List Sl}{u:TS}{tl th:TO}{rl rh:Mo (Option Int)}
def Up (T:Ty α)(T':Ty β)(f:α->β):Prop:=∀ {a v H},T.R a v H->T'.R (f a) v H
def Dn (T:Ty α)(T':Ty β)(g:α->Option β):Prop:=∀ {a b v H},g a=some b->T.R a v H->T'.R b v H
theorem zaG_ {f:α->β}{r:Mo α}(hf:Up T T' f)(h:EvF K e E L r T):EvF K e E L (r.bind fun a=>.ok (f a)) T':=by
 intro σ F H Q hL hs q
 exact h σ F H _ hL hs (q.bind.imp fun a F1 H1 x k v hv=>k.ok x.2.1 v (hf hv))
theorem zdL_ {g:α->Option β}{r:Mo α}(hg:Dn T T' g)(h:EvF K e E L r T):EvF K e E L (r.bind fun a=>Mo.opt (g a)) T':=by
 intro σ F H Q hL hs q
 refine h σ F H _ hL hs (q.bind.imp fun a F1 H1 x k v hv=>?_)
 obtain ⟨b,eb,k⟩:=k.opt
 exact k.ok x.2.1 v (hg eb hv)
theorem zbe_ {f:α->Dy}(h:Into T f):Up T tyDy f:=fun q=>h q
theorem znr_ {f:α->Dy}(h:Into T f)(hp:∀ a,(f a).plain=true):Up T tyDp f:=fun {a v H} q=>⟨hp a,h q⟩
theorem zdU_ {g:Dy->Option α}(h:OutOf T g):Dn tyDy T g:=fun e q=>h e q
theorem dn_dp {g:Dy->Option α}(h:OutOf T g):Dn tyDp T g:=fun e q=>h e q.2
theorem zif_:∀ {ds:List Dy}{vs:List V}{H:Hp},DyRs ds vs H->Prs tyDy H ds vs
 | [],_,_,q=>by unfold DyRs at q; subst q; exact .nil
 | d::ds,_,_,q=>by
  unfold DyRs at q
  obtain ⟨v,vs,rfl,a,r⟩:=q
  exact .cons a (zif_ r)
theorem zib_:∀ {ds:List Dy}{vs:List V}{H:Hp},Prs tyDy H ds vs->DyRs ds vs H
 | _,_,_,.nil=>by unfold DyRs; rfl
 | _,_,_,.cons a r=>by unfold DyRs; exact ⟨_,_,rfl,a,zib_ r⟩
theorem zn8_ {ds:List Dy}{vs:List V}{H:Hp}(q:Prs tyDp H ds vs):DyRs ds vs H:=by
 induction q with
 | nil=>unfold DyRs; rfl
 | cons a r ih=>unfold DyRs; exact ⟨_,_,rfl,a.2,ih⟩
theorem znM_ {g:Dy->Option α}(h:OutOf T g):Dn (tyL tyDp) (tyL T) (allO g):=fun e ⟨p,vs,e1,hp,q⟩=>⟨p,vs,e1,hp,zhF_ h e (zn8_ q)⟩
theorem dn_ly {g:Dy->Option α}(h:OutOf T g):Dn (tyL tyDy) (tyL T) (allO g):=fun e ⟨p,vs,e1,hp,q⟩=>⟨p,vs,e1,hp,zhF_ h e (zib_ q)⟩
theorem zip_:Into (tyL tyDy) .lst:=fun ⟨p,vs,e,hp,q⟩=>by unfold DyR; exact ⟨p,vs,e,hp,zib_ q⟩
theorem in_u {f:α->Dy}{g:β->Dy}(h1:Into T f)(h2:Into T' g):Into (tyU T T') (Sum.elim f g):=fun {a v H} q=>by
 cases a with
 | inl a=>exact h1 q
 | inr b=>exact h2 q
theorem zpI_ {g:Dy->Option α}(h:OutOf T g)(nn:∀ a v H,T.R a v H->v≠.non):OutOf (tyOpt T) (fun d=>if d.isNon then some none else (g d).map some):=fun {d a v H} e q=>by
 cases hd:d.isNon with
 | true =>
  simp only [hd] at e
  cases e
  cases d with
  | non=>unfold DyR at q; exact q
  | _=>cases hd
 | false =>
  simp only [hd] at e
  obtain ⟨b,e1,rfl⟩:=Option.map_eq_some_iff.mp e
  exact ⟨h e1 q,nn _ _ _ (h e1 q)⟩
theorem out_u {g:Dy->Option α}{g':Dy->Option β}(h1:OutOf T g)(h2:OutOf T' g'):OutOf (tyU T T') (fun d=>match g d with | some a=>some (.inl a) | none=>(g' d).map .inr):=fun {d a v H} e q=>by
 cases hg:g d with
 | some x=>simp only [hg] at e; cases e; exact h1 hg q
 | none =>
  simp only [hg] at e
  obtain ⟨b,e1,rfl⟩:=Option.map_eq_some_iff.mp e
  exact h2 e1 q
theorem zoG_ {i:Nat}{a:α}{g:α->Option β}{k:β->Mo (Out ρ B S)}(hi:L[i]?=some (.fz T a))(hg:Dn T T' g)(hk:∀ b,EvS K u E (L.set i (.fz T' b)) (k b) LS LB O):EvS K u E L ((Mo.opt (g a)).bind k) LS LB O:=by
 intro F0 H0 σ F h H D hL ok fin
 obtain ⟨b,eb,fin⟩:=zjY_ fin
 refine hk b F0 H0 σ F h H D ?_ ok fin
 obtain ⟨o,h1,h2,e1,j,⟨v,e2,r⟩,f⟩:=hL.at i hi
 subst e2
 have g:=f (.fz T' b) (some v) h1 h j ⟨v,rfl,hg eb r⟩
 rw [zaK_ e1] at g
 exact g
def Dy.ix (d:Dy)(i:Int):Option Dy:=match d with | .tup ds=>atI ds i | .lst ds=>atI ds i | _=>none
theorem ziF_ {xs:List α}{vs:List V}{H:Hp}{i:Int}{x:α}(q:Prs T H xs vs)(h:atI xs i=some x):∃ v,atI vs i=some v/\T.R x v H:=by
 unfold atI at h ⊢
 rw [<- q.len]
 cases e:ixN xs.length i with
 | none=>rw [e] at h; cases h
 | some n =>
  rw [e] at h
  have h:xs[n]?=some x:=h
  obtain ⟨hn,_⟩:=List.getElem?_eq_some_iff.mp h
  have cA:n<vs.length:=by rw [<- q.len]; exact hn
  have hv:vs[n]?=some vs[n]:=List.getElem?_eq_getElem cA
  obtain ⟨y,e1,e2⟩:=zgL_ q n _ hv
  rw [h] at e1; cases e1
  exact ⟨_,hv,e2⟩
theorem znE_:Op2 K (mIx K) E tyDy tyInt (fun d i=>.opt (d.ix i)) tyDy:=by
 rintro d i x y F H Q hs hx rfl k
 obtain ⟨b,eb,k2⟩:=k.opt
 clear k
 have hx:DyR d x F:=hx
 cases d with
 | tup ds =>
  unfold DyR at hx
  obtain ⟨p,us,rfl,hp,r⟩:=hx
  obtain ⟨v,e1,e2⟩:=ziF_ (zif_ r) (show atI ds i=some b from eb)
  refine ⟨us,.inr (.of (hs _ _ hp)),?_⟩
  rw [e1]
  exact k2.ok hs v e2
 | lst ds =>
  unfold DyR at hx
  obtain ⟨p,us,rfl,hp,r⟩:=hx
  obtain ⟨v,e1,e2⟩:=ziF_ (zif_ r) (show atI ds i=some b from eb)
  refine ⟨us,.inl (.of (hs _ _ hp)),?_⟩
  rw [e1]
  exact k2.ok hs v e2
 | _=>cases eb
def prtB (n:Nat)(a b:Option Int):Bool:=!(decide (HT.sIx n 0 a=0) && decide (HT.sIx n n b=n))
theorem zln_ {r:Mo Dy}(h:EvF K e E L r tyDy)(hl:EvP K tl E L rl)(hh:EvP K th E L rh):EvF K (tSl (rSlT K) e tl th) E L (r.bind fun d=>rl.bind fun a=>rh.bind fun b=>(Mo.opt d.tup?).bind fun ds=>.grd (prtB ds.length a b=true) (.ok (.tup (cutG ds a b)))) tyDy:=by
 intro σ F H Q hL hs q
 refine h σ F H _ hL hs (q.bind.imp fun d F1 H1 x1 k1 v hv=>?_)
 refine hl σ F1 H1 _ (hL.mono x1.1) x1.2.1 (k1.bind.imp fun a F2 H2 x2 k2=>?_)
 refine hh σ F2 H2 _ (hL.mono (x1.1.trans x2.1)) x2.2.1 (k2.bind.imp fun b F3 H3 x3 k3=>?_)
 obtain ⟨ds,ed,k4⟩:=k3.bind.opt
 obtain ⟨z,k5⟩:=After.grd (k4.ok x3.2.1)
 clear k3 k4
 have hv:DyR d v F1:=hv
 cases d with
 | tup ds' =>
  cases ed
  unfold DyR at hv
  obtain ⟨p,us,rfl,hp,hr⟩:=hv
  have hr:=zif_ hr
  have x:=x2.1.trans x3.1
  refine ⟨p,us,rfl,.of (x3.2.1 _ _ (x _ _ hp)),fun y=>?_,fun q hq=>?_⟩
  ·rw [<- hr.len] at y
   unfold prtB at z
   rw [decide_eq_true y.1,decide_eq_true y.2] at z
   cases z
  ·have w:=Ext.new (o:=.tup (cutV us a b)) x3.2.1 hq
   refine k5 _ _ w _ ?_
   show DyR (.tup (cutG ds a b)) _ _
   unfold DyR
   exact ⟨q,_,rfl,zD_,zib_ ((zhL_ (hr.mono x) a b).mono w.1)⟩
 | _=>cases ed
theorem ziX_:Op2 K (rCatT K) E tyDy tyDy (fun c d=>(Mo.opt c.tup?).bind fun ds=>(Mo.opt d.tup?).bind fun es=>.grd (ds≠[]/\ds.length+es.length<=1000) (.ok (.tup (ds++es)))) tyDy:=by
 intro c d x y F H Q hs hx hy k
 obtain ⟨ds,ec,k2⟩:=k.bind.opt
 obtain ⟨es,ed,k3⟩:=(k2.ok hs).bind.opt
 obtain ⟨⟨z1,z2⟩,k4⟩:=After.grd (k3.ok hs)
 clear k k2 k3
 have hx:DyR c x F:=hx
 have hy:DyR d y F:=hy
 cases c with
 | tup ds' =>
  cases ec
  cases d with
  | tup es' =>
   cases ed
   unfold DyR at hx hy
   obtain ⟨p,us,rfl,hp,hr⟩:=hx
   obtain ⟨p2,ws,rfl,hp2,cP⟩:=hy
   have hr:=zif_ hr
   have cP:=zif_ cP
   refine ⟨p,p2,us,ws,rfl,rfl,.of (hs _ _ hp),.of (hs _ _ hp2),fun e=>z1 ?_,?_,fun e=>?_,fun e q hq=>?_⟩
   ·subst e; cases hr; rfl
   ·rw [<- hr.len,<- cP.len]; exact zcK_ (by lia)
   ·subst e
    cases cP
    refine k4.ok hs _ ?_
    show DyR (.tup (ds++[])) _ _
    unfold DyR
    rw [List.append_nil]
    exact ⟨p,us,rfl,hp,zib_ hr⟩
   ·have w:=Ext.new (o:=.tup (us++ws)) hs hq
    refine k4 _ _ w _ ?_
    show DyR (.tup (ds++es)) _ _
    unfold DyR
    exact ⟨q,_,rfl,zD_,zib_ ((hr.append cP).mono w.1)⟩
  | _=>cases ed
 | _=>cases ec
theorem zpB_ {ts:TO}{r:Mo (List Nat)}(h:EvF K e E L r tyStr)(hl:EvP K ts E L (.ok (some (-1)))):EvF K (tRevS e ts) E L (r.bind fun l=>.lim l.length (.ok l.reverse)) tyStr:=by
 intro σ F H Q hL hs q
 refine h σ F H _ hL hs (q.bind.imp fun l F1 H1 x1 k1 v hv=>?_)
 cases hv
 refine hl σ F1 H1 _ (hL.mono x1.1) x1.2.1 (fun F2 H2 x2=>?_)
 obtain ⟨z,k1⟩:=k1.lim
 exact ⟨rfl,z,k1 F2 H2 x2 _ rfl⟩
def five (xs:List α):Option (α×α×α×α×α):=match xs with | [a,b,c,d,e]=>some (a,b,c,d,e) | _=>none
theorem zoB_ {xs:List α}{c:α×α×α×α×α}(h:five xs=some c):xs=[c.1,c.2.1,c.2.2.1,c.2.2.2.1,c.2.2.2.2]:=by
 unfold five at h
 split at h
 ·cases h; rfl
 ·cases h
abbrev ty5 (T:Ty α):Ty (α×α×α×α×α):=⟨fun c v H=>(tyL T).R [c.1,c.2.1,c.2.2.1,c.2.2.2.1,c.2.2.2.2] v H,fun g q=>(tyL T).mono g q⟩
theorem zoJ_ {r:Mo (List α)}(h:EvF K e E L r (tyL T)):EvF K e E L (r.bind fun xs=>Mo.opt (five xs)) (ty5 T):=by
 intro σ F H Q hL hs q
 refine h σ F H _ hL hs (q.bind.imp fun xs F1 H1 x1 k1 v hv=>?_)
 obtain ⟨c,ec,k2⟩:=After.opt k1
 rw [zoB_ ec] at hv
 exact k2.ok x1.2.1 v hv
theorem zpO_ (i j k l m:Nat):TgR K (gLst5 K (gConsM (gName i) (gConsM (gName j) (gConsM (gName k) (gConsM (gName l) (gConsM (gName m) gNilM)))))) (ty5 T) fun c=>[(i,.fz T c.1),(j,.fz T c.2.1),(k,.fz T c.2.2.1),(l,.fz T c.2.2.2.1),(m,.fz T c.2.2.2.2)]:=by
 rintro c v σ F H Q hs ⟨p,vs,rfl,hp,pr⟩ q
 cases pr with
 | cons h1 t1 =>
  cases t1 with
  | cons h2 t2 =>
   cases t2 with
   | cons h3 t3 =>
    cases t3 with
    | cons h4 t4 =>
     cases t4 with
     | cons h5 t5 =>
      cases t5
      exact ⟨_,_,_,_,_,.of (hs _ _ hp),q [(i,some _),(j,some _),(k,some _),(l,some _),(m,some _)] (.cons h1 (.cons h2 (.cons h3 (.cons h4 (.cons h5 .nil)))))⟩
def iT (g:γ->List Dy)(c:γ):Dy:=.tup (g c)
def iC (f:α->Dy)(g:γ->List Dy)(c:α×γ):List Dy:=f c.1::g c.2
def i1 (f:α->Dy)(a:α):List Dy:=[f a]
def iL (f:α->Dy)(xs:List α):Dy:=.lst (xs.map f)
def iO (f:α->Dy):Option α->Dy | none=>.non | some a=>f a
theorem n_T {g:γ->List Dy}(h:IntoC C g):Into (tyTup C) (iT g):=zqb_ h
theorem n_C {f:α->Dy}{g:γ->List Dy}(h:Into T f)(hc:IntoC C g):IntoC (csCons T C) (iC f g):=zmX_ h hc
theorem n_1 {f:α->Dy}(h:Into T f):IntoC (csLast T) (i1 f):=zmF_ h
theorem n_L {f:α->Dy}(h:Into T f):Into (tyL T) (iL f):=in_l h
theorem n_O {f:α->Dy}(h:Into T f):Into (tyOpt T) (iO f):=fun {a v H} q=>by
 cases a with
 | none=>show DyR .non v H; unfold DyR; exact q
 | some a=>exact h q.1
def o1 (g:Dy->Option α)(ds:List Dy):Option α:=match ds with | [d]=>g d | _=>none
def oC (g:Dy->Option α)(g':List Dy->Option γ)(ds:List Dy):Option (α×γ):=match ds with | d::ds=>(g d).bind fun a=>(g' ds).map fun c=>(a,c) | []=>none
def oT (g:List Dy->Option γ)(d:Dy):Option γ:=d.tup?.bind g
def oL (g:Dy->Option α)(d:Dy):Option (List α):=d.lst?.bind (allO g)
def oO (g:Dy->Option α)(d:Dy):Option (Option α):=if d.isNon then some none else (g d).map some
def oU (g:Dy->Option α)(g':Dy->Option β)(d:Dy):Option (α ⊕ β):=match g d with | some a=>some (.inl a) | none=>(g' d).map .inr
theorem m_1 {g:Dy->Option α}(h:OutOf T g):OutC (csLast T) (o1 g):=fun e q=>zkZ_ h e q
theorem m_C {g:Dy->Option α}{g':List Dy->Option γ}(h:OutOf T g)(hc:OutC C g'):OutC (csCons T C) (oC g g'):=fun e q=>zkl_ h hc e q
theorem m_T {g:List Dy->Option γ}(h:OutC C g):OutOf (tyTup C) (oT g):=fun e q=>zob_ h e q
theorem m_L {g:Dy->Option α}(h:OutOf T g):OutOf (tyL T) (oL g):=fun e q=>out_l h e q
theorem m_O {g:Dy->Option α}(h:OutOf T g)(nn:∀ a v H,T.R a v H->v≠.non):OutOf (tyOpt T) (oO g):=fun e q=>zpI_ h nn e q
theorem m_U {g:Dy->Option α}{g':Dy->Option β}(h1:OutOf T g)(h2:OutOf T' g'):OutOf (tyU T T') (oU g g'):=fun e q=>out_u h1 h2 e q
example:∀ a:(Int×Int)×List Nat,(iT (iC (iT (iC Dy.int (i1 Dy.int))) (i1 Dy.str)) a).plain=true:=fun _=>rfl
end
section
variable {K:Fgg}{x q:Str}{st:Stmt}{f:Addr}{fd:FuncData}
theorem zmR_ {ps:List Str}{T:Addr}{oc:Value}{od:Option Addr}{aj:Array (Option Value)}{arr:Array Value}{n:Nat}(hp:ps.length=10)(F:FunD K T x q st f fd)(lT:K.lookup T=some ⟨oc,od,.seq arr n,aj⟩)
  (h:∀ (kV doc pm:Value) (an:Option Addr) (ah ct:Value) (u0 u1 u2 u3 u4 u5 u6 u7 u8 u9:Value) (s:Shared),(∃ o,s.heap.get? T=some o/\o.data=.seq arr n)->BindsTo s (W.fnOf x q (defArgs st) (defBody st) (defScope st) (.ref T) kV doc pm an ah ct) ⟨[u0,u1,u2,u3,u4,u5,u6,u7,u8,u9],[]⟩ (ps.zip [u0,u1,u2,u3,u4,u5,u6,u7,u8,u9])):
  Binds K fd ps []:=by
 obtain ⟨oc,od,kV,doc,pm,an,ah,ct,aj,rfl,lk,bT⟩:=F.ex
 intro s us hK hl
 rw [hp,List.length_append] at hl
 have hl:us.length=10:=by simpa using hl
 obtain ⟨u0,t1,rfl,h1⟩:=zac_ hl
 obtain ⟨u1,t2,rfl,h2⟩:=zac_ h1
 obtain ⟨u2,t3,rfl,h3⟩:=zac_ h2
 obtain ⟨u3,t4,rfl,h4⟩:=zac_ h3
 obtain ⟨u4,t5,rfl,h5⟩:=zac_ h4
 obtain ⟨u5,t6,rfl,h6⟩:=zac_ h5
 obtain ⟨u6,t7,rfl,h7⟩:=zac_ h6
 obtain ⟨u7,t8,rfl,h8⟩:=zac_ h7
 obtain ⟨u8,t9,rfl,h9⟩:=zac_ h8
 obtain ⟨u9,t10,rfl,h10⟩:=zac_ h9
 cases List.length_eq_zero_iff.mp h10
 exact h kV doc pm an ah ct u0 u1 u2 u3 u4 u5 u6 u7 u8 u9 s ⟨_,hK _ _ lT,rfl⟩
end
abbrev LF:=Fgg->XK->TS
abbrev WC (γ ρ:Type)(t:LF)(L:Fgg->γ->List Sl)(O:Fgg->Own ρ):={b:γ->Mo (Out ρ Unit Unit) // ∀ K c E,EvS K (t K E) E (L K c) (b c) (fun _:Unit=>[]) (fun _:Unit=>[]) (O K)}
abbrev WN (γ:Type)(t:LF)(L:Fgg->γ->List Sl)(D:List Sl):={b:γ->Mo (Out Unit Unit Unit) // ∀ K c E,EvS K (t K E) E (L K c) (b c) (fun _:Unit=>D) (fun _:Unit=>[]) (owF tyNon)}
abbrev WU (α β γ:Type)(t:LF)(L:Fgg->V->α->γ->List Sl)(D:List Sl)(O:Fgg->Own β):={b:α->γ->Mo (Out (Unit×β) Unit β) // ∀ K w x c E,EvS K (t K E) E (L K w x c) (b x c) (fun x'=>.ow (owAt w (O K)) x'::D) (fun _:Unit=>[]) (owRM w (O K) (owF tyNon))}
theorem zbt_ {α:Type}{T:Ty α}:CsAt (csLast T) 0 T (fun a=>a):=zpc_
section
variable {K:Fgg}{E:XK}{α β γ ρ S B:Type}{F0 H0 F h H:Hp}{L:List Sl}{e te ei:TE}{r:Mo α}{Or:Own ρ}{u:TS}{LS:S->List Sl}{LB:B->List Sl}{σ:St}{i j:Nat}
def udy:Dy ⊕ List Dy->Dy:=Sum.elim id .lst
abbrev tyUD:Ty (Dy ⊕ List Dy):=⟨fun a v H=>DyR (udy a) v H,fun g q=>DyR.mono g q⟩
abbrev owU:Own (Dy ⊕ List Dy):=⟨fun a v F h=>match a with | .inl d=>(owF tyDy).O d v F h | .inr ys=>(owL tyDp).O ys v F h,tyUD,
 fun {a v F F' h} g q=>by cases a with | inl d=>exact (owF tyDy).mono g q | inr ys=>exact (owL tyDp).mono g q,
 fun {a v F h} d q=>by
  cases a with
  | inl x=>exact (owF tyDy).frz d q
  | inr ys =>
   obtain ⟨p,vs,e,hp,pr⟩:=(owL tyDp).frz d q
   show DyR (.lst ys) _ _
   unfold DyR
   exact ⟨p,vs,e,hp,zn8_ pr⟩,
 fun {a v F h} q=>by cases a with | inl x=>exact (owF tyDy).notup q | inr ys=>exact (owL tyDp).notup q⟩
theorem zqg_:OutOf tyDp (fun d=>if d.plain then some d else none):=fun {d a v H} e q=>by
 have e:(if d.plain=true then some d else none)=some a:=e
 by_cases z:d.plain=true
 ·rw [if_pos z] at e; cases e; exact ⟨z,q⟩
 ·rw [if_neg z] at e; cases e
theorem EvO.map {O:Own α}{O2:Own β}{f:α->β}(h:∀ {a v F h},O.O a v F h->O2.O (f a) v F h)(he:EvO K e E L r O):EvO K e E L (r.bind fun a=>.ok (f a)) O2:=by
 intro σ F H Q hL hs q
 exact he σ F H _ hL hs (q.bind.imp fun a F1 H1 x1 k1 v hp fresh d s o=>k1.ok x1.2.1 v hp fresh d s (h o))
theorem znR_:∀ {ds:List Dy}{vs:List V}{F:Hp},Prs tyDy F ds vs->OwAll owU F (ds.map .inl) vs fun _=>none
 | _,_,_,.nil=>fun _=>rfl
 | _,_,_,.cons a t=>⟨fun _=>none,fun _=>none,fun p=>.inl ⟨rfl,rfl⟩,⟨fun _=>rfl,a⟩,znR_ t⟩
theorem znF_ {ds:List Dy}{v:V}{F h:Hp}(q:(owL tyDy).O ds v F h):(owLO owU).O (ds.map .inl) v F h:=by
 obtain ⟨p,vs,e,z,pr⟩:=q
 exact ⟨p,vs,fun _=>none,e,fun b=>.inr ⟨rfl,by rw [z]⟩,znR_ pr⟩
theorem zo4_:∀ {xs:List (Dy ⊕ List Dy)}{vs:List V}{H:Hp},Prs tyUD H xs vs->Prs tyDy H (xs.map udy) vs
 | _,_,_,.nil=>.nil
 | _,_,_,.cons a t=>.cons a (zo4_ t)
theorem zoO_ {O:Own β}{O1:Own γ}{O2:Own α}{f:α->γ}{r0:Mo (List γ×(List γ->β))}{ri:Mo Int}{k:β->Mo (Out ρ B S)}(hp:EvPt K te E L i O (owLO O1) r0)(hO:ImmO O2)(hf:∀ {a v F h},O2.O a v F h->O1.O (f a) v F h)(he:EvO K e E L r O2)(eD:EvF K ei E L ri tyInt)(hk:∀ x',EvS K u E (L.set i (.ow O x')) (k x') LS LB Or):
  EvS K (tSeq (tAsg e (gSub te ei mSet)) u) E L (r.bind fun a=>r0.bind fun yp=>ri.bind fun j=>(Mo.opt ((ixN yp.1.length j).map fun n=>yp.1.set n (f a))).bind fun xs=>(Mo.ok (yp.2 xs)).bind k) LS LB Or:=by
 intro F0 H0 σ F h H D hL ok fin
 refine he σ (un F h) H _ (hL.froz ok.2.1) ok.thaw (zao_ (G:=F) ok _ (.inl rfl) fin fun a G0 H3 cp x0 v hn fresh dj cO hv=>?_)
 obtain ⟨o0,fW,ht0⟩:=ok.back x0
 rw [cp] at fin
 refine hp F0 H0 σ _ h H3 _ (hL.mono fW) o0 (zao_ (G:=F) o0 _ (.inl rfl) fin fun yp G1 H1 jJ x1 u0 fc=>?_)
 obtain ⟨o1,hs1,lx⟩:=o0.back x1
 rw [jJ] at fin
 refine eD σ (un (less G1 h) h) H1 _ (((hL.mono fW).mono hs1).froz o1.2.1) o1.thaw (zao_ (G:=F) o1 _ (.inl rfl) fin fun j G2 H2 jI x2 v2 aT=>?_)
 cases aT
 obtain ⟨o2,bE,ht2⟩:=o1.back x2
 rw [jI] at fin
 obtain ⟨ys,ey,fin⟩:=zjY_ fin
 obtain ⟨k1,⟨p,vs,m,rfl,jn,all⟩,kh,g⟩:=fc _ H2 bE o2
 cases ej:ixN yp.1.length j with
 | none=>rw [ej] at ey; cases ey
 | some n =>
  rw [ej] at ey; cases ey
  have gW:∀ q,hn q≠none->h q=none/\H0 q=none/\H q=none:=fun q z=>⟨ok.2.2.1.free (fresh q z),ok.1.2.2.1.free (fresh q z),fresh q z⟩
  have cA:∀ q,hn q≠none->H3 q≠none:=fun q z y=>z (cO.free y)
  have f0:∀ q,hn q≠none->less G0 h q=none:=fun q z=>by
   rcases dj q with y | y
   ·exact zgo_.free y
   ·exact absurd y z
  have f1:∀ q,hn q≠none->less G1 h q=none:=fun q z=>by
   cases y:less G1 h q with
   | none=>rfl
   | some w =>
    have w1:G1 q≠none:=fun c=>by rw [(zgo_ (H:=G1) (h:=h)).free c] at y; cases y
    exact absurd (x1.2.2.2 q (by unfold un; rw [f0 q z]; exact (gW q z).1) w1) (cA q z)
  have f2:∀ q,hn q≠none->less G2 h q=none:=fun q z=>by
   cases y:less G2 h q with
   | none=>rfl
   | some w =>
    have w1:G2 q≠none:=fun c=>by rw [(zgo_ (H:=G2) (h:=h)).free c] at y; cases y
    exact absurd (x2.2.2.2 q (by unfold un; rw [f1 q z]; exact (gW q z).1) w1) fun c=>cA q z (x1.2.2.1.free c)
  obtain ⟨a1,a2,ja,fs⟩:=all.swap n (List.getElem?_eq_getElem (show n<yp.1.length from zg5_ ej))
  have dn:Dj hn a2:=fun q=>by
   by_cases z:hn q=none
   ·exact .inl z
   ·exact .inr (ja.r.free (jn.r.free (kh.free (gW q z).1)))
  obtain ⟨j',PC⟩:=zpJ_ (o':=.lst (vs.set n v)) (hn:=hn) o2 kh jn ja.r (fun q z=>⟨f2 q z,(gW q z).1,(gW q z).2.1⟩) (cO.trans (x1.2.2.1.trans x2.2.2.1)) dn
  obtain ⟨h',b1,b2⟩:=g (yp.1.set n (f a)) _ _ _ PC ⟨p,_,_,rfl,j',fs (f a) v hn _ _ (Same.refl _) (O1.mono (hs1.trans bE) (hf (hO ht0 hv))) (zfO_ dn)⟩
  refine ⟨vs,o2.2.2.1 _ _ (kh _ _ (jn.l _ _ zx_)),?_⟩
  rw [<- all.len,ej]
  exact hk _ F0 H0 σ _ h' _ D b1 b2 fin
def inr?:Dy ⊕ List Dy->Option (List Dy) | .inr ys=>some ys | _=>none
theorem znH_ {O:Own α}{r:Mo ((Dy ⊕ List Dy)×((Dy ⊕ List Dy)->α))}(hp:EvPt K te E L i O owU r):
  EvPt K te E L i O (owL tyDp) (r.bind fun yp=>(Mo.opt (inr? yp.1)).bind fun z=>.ok (z,fun z'=>yp.2 (.inr z'))):=by
 intro F0 H0 σ F h H Q hL ok q
 refine hp F0 H0 σ F h H _ hL ok (q.bind.imp fun yp G1 H1 x1 k1 u fc=>?_)
 obtain ⟨z,ez,k2⟩:=k1.bind.opt
 obtain ⟨y,put⟩:=yp
 cases y with
 | inl d=>cases ez
 | inr ys =>
  cases ez
  refine (k2.ok x1.2.1).ok x1.2.1 u (Foc.part (put:=.inr) (LF:=fun y'=>L.set i (.ow O (put y'))) fc fun F2 k s kh ho=>⟨k,fun _=>none,fun p=>.inr ⟨rfl,rfl⟩,ho,fun z' av k' F3 s3 hz j=>?_⟩)
  rw [jn_no j fun _=>rfl]
  exact hz
abbrev owLOp (p:Addr)(vs:List V)(O:Own α):Own (List α):=⟨fun xs v F h=>v=.ref p/\∃ h2,Jn (one p (.lst vs)) h2 h/\OwAll O F xs vs h2,
 ⟨fun xs v H=>v=.ref p/\H p=some (.lst vs)/\Prs O.fr H xs vs,fun g ⟨e,hp,q⟩=>⟨e,g _ _ hp,q.mono g⟩⟩,fun g ⟨e,h2,j,q⟩=>⟨e,h2,j,q.mono g⟩,
 fun {a v F h} d ⟨e,h2,j,q⟩=>⟨e,zfQ_ d _ _ (j.l _ _ zx_),q.prs (fun b=>by
  rcases d b with z | z
  ·exact .inl z
  ·exact .inr (j.r.free z)) (zdC_ d j.r)⟩,
 fun ⟨e,h2,j,q⟩ b xs y=>by
  rcases j b with ⟨_,z⟩ | ⟨_,z⟩
  ·rw [z] at y; exact q.notup b xs y
  ·rw [z] at y; unfold one at y; split at y<;>cases y⟩
theorem zot_ {H:Hp}:∀ vs:List V,Prs tyV0 H vs vs
 | []=>.nil
 | v::vs=>.cons rfl (zot_ vs)
theorem v0_eq {H:Hp}:∀ {ws vs:List V},Prs tyV0 H ws vs->vs=ws
 | _,_,.nil=>rfl
 | _,_,.cons a t=>by rw [v0_eq t]; exact congrArg (·::_) a
theorem zp8_ {O:Own α}{xs:List α}{n:Int}{s:Sl}{k:Mo (Out ρ B S)}(hi:L[i]?=some (.ow (owLO O) xs))(hj:L[j]?=some s)(bH:i≠j)
  (hk:∀ p vs,EvS K u E ((L.set i (.ow (owLOp p vs O) xs)).set j (.fz (tyL tyV0) (cutV vs (some n) none))) k LS LB Or):
  EvS K (tSeq (tAsg (tSl (mSl K) (mVar i) (mPart (tC (.int n))) tNoPart) (gName j)) u) E L k LS LB Or:=by
 intro F0 H0 σ F h H D hL ok fin
 obtain ⟨o,h1,h2,e1,jj,⟨v,e2,p,vs,k2,rfl,jk,inn⟩,f⟩:=hL.at i hi
 subst e2
 have g:=f (.ow (owLOp p vs O) xs) (some (.ref p)) h1 _ jj ⟨_,rfl,rfl,k2,jk,inn⟩
 rw [zaK_ e1] at g
 have hp:=ok.2.2.1 _ _ (jj.l _ _ (jk.l _ _ zx_))
 show mVar i σ H fun x H1=>mSl K x (some n) none H1 fun x H2=>u D (σ.set j (some x)) H2
 refine zcr_ e1 ?_
 refine ⟨vs,.of hp,fun q hq=>?_⟩
 have x:=Ext.new (o:=.lst (cutV vs (some n) none)) ok.1.2.1 hq
 have mZ:(L.set i (.ow (owLOp p vs O) xs))[j]?=some s:=by rw [List.getElem?_set_ne bH]; exact hj
 refine hk p vs F0 H0 _ _ h _ D (zc8_ mZ (g.mono x.1) ⟨q,_,rfl,zD_,zot_ _⟩) (ok.cold x) fin
theorem zpW_ {O:Own α}{xs:List α}{p:Addr}{vs:List V}{n c:Int}(hi:L[i]?=some (.ow (owLOp p vs O) xs))(hj:L[j]?=some (.fz (tyL tyV0) (cutV vs (some n) none))):
  EvF K (tOp (mIx K) (mVar j) (tC (.int c))) E L (Mo.opt (atI (cutG xs (some n) none) c)) O.fr:=by
 intro σ F H Q hL hs q
 obtain ⟨v,e1,rfl,hp,pr⟩:=hL i _ hi
 obtain ⟨w,e2,q2,ws,rfl,hq,pw⟩:=hL j _ hj
 cases v0_eq pw
 obtain ⟨x,ex,k⟩:=q.opt
 obtain ⟨y,ey,ry⟩:=ziH_ (zhL_ pr (some n) none) ex
 have e3:σ[j]?=some (some (.ref q2)):=by
  cases z:σ[j]? with
  | none=>rw [z] at e2; cases e2
  | some o=>rw [z] at e2; exact congrArg some e2
 refine (zcr_ e3 ?_:mVar j σ H _)
 refine ⟨_,.inl (.of (hs _ _ hq)),?_⟩
 rw [ey]
 exact k.ok hs y ry
theorem up_up {p:Addr}{vs:List V}:Up (owLOp p vs owU).fr (tyL tyDy) (List.map udy):=fun {a v H} q=>by
 obtain ⟨e,hp,q⟩:=q
 exact ⟨p,vs,e,hp,zo4_ q⟩
theorem zai_ (i:Nat){p:Addr}{vs:List V}{xs:List (Dy ⊕ List Dy)}(h:L[i]?=some (.ow (owLOp p vs owU) xs)):EvF K (mVar i) E L (.ok (xs.map udy)) (tyL tyDy):=zaG_ up_up (zhM_ i h)
theorem up_ud:Up tyUD tyDy udy:=fun q=>q
theorem zdD_ {xs:List (Dy ⊕ List Dy)}{p:Addr}{vs:List V}{n c:Int}(hi:L[i]?=some (.ow (owLOp p vs owU) xs))(hj:L[j]?=some (.fz (tyL tyV0) (cutV vs (some n) none))):
  EvF K (tOp (mIx K) (mVar j) (tC (.int c))) E L ((Mo.opt (atI (cutG xs (some n) none) c)).bind fun a=>.ok (udy a)) tyDy:=zaG_ up_ud (zpW_ (O:=owU) hi hj)
theorem zoq_ {O:Own α}{xs:List α}{p:Addr}{vs:List V}{k:Mo (Out ρ B S)}(hi:L[i]?=some (.ow (owLOp p vs O) xs))(hk:EvS K u E (L.set i (.ow (owLO O) xs)) k LS LB Or):EvS K u E L k LS LB Or:=by
 intro F0 H0 σ F h H D hL ok fin
 obtain ⟨o,h1,h2,e1,jj,⟨v,e2,rfl,k2,jk,inn⟩,f⟩:=hL.at i hi
 subst e2
 have g:=f (.ow (owLO O) xs) (some (.ref p)) h1 _ jj ⟨_,rfl,p,vs,k2,rfl,jk,inn⟩
 rw [zaK_ e1] at g
 exact hk F0 H0 σ F h H D g ok fin
end
def taK (pm:List V->List V->List V)(t tk:TA):TA:=fun σ H Q=>t σ H fun vs H1=>tk σ H1 fun zs H2=>Q (pm vs zs) H2
def pm43 {α:Type}(d0 d3:α):List α->List α->List α
 | [a,b,c,d],[r,s,t]=>[a,b,c,d,d0,r,s,d3,t]
 | _,_=>[]
theorem zlX_ {v0 v3:V}{d0 d3:Value}(h0:RelV v0 d0)(h3:RelV v3 d3){vs:List V}{us:List Value}{zs:List V}{ws:List Value}(r:Vals vs us)(z:Vals zs ws):Vals (pm43 v0 v3 vs zs) (pm43 d0 d3 us ws):=by
 match vs,us,r with
 | [],_,.nil=>exact .nil
 | [_],_,.cons _ .nil=>exact .nil
 | [_,_],_,.cons _ (.cons _ .nil)=>exact .nil
 | [_,_,_],_,.cons _ (.cons _ (.cons _ .nil))=>exact .nil
 | _::_::_::_::_::_,_,.cons _ (.cons _ (.cons _ (.cons _ (.cons _ _))))=>exact .nil
 | [_,_,_,_],_,.cons a (.cons b (.cons c (.cons d .nil))) =>
  match zs,ws,z with
  | [],_,.nil=>exact .nil
  | [_],_,.cons _ .nil=>exact .nil
  | [_,_],_,.cons _ (.cons _ .nil)=>exact .nil
  | _::_::_::_::_,_,.cons _ (.cons _ (.cons _ (.cons _ _)))=>exact .nil
  | [_,_,_],_,.cons r (.cons s (.cons t .nil))=>exact .cons a (.cons b (.cons c (.cons d (.cons h0 (.cons r (.cons s (.cons h3 (.cons t .nil))))))))
def GkK (P:Program)(w:World)(K:Fgg)(mg:Str->Option Value)(base:Heap)(CX:CXT)(k:Nat)(x:Str)(C:Addr)(ps ks:List Str)(v0 v3:V)(sp:Sp):Prop:=
 ∃ f fd d0 d3,FnOk P w K mg base CX k f fd ps sp/\Mk K C f/\mg x=some (.ref C)/\RelV v0 d0/\RelV v3 d3 /\
  ∀ (s:Shared) (y a b c d r u t:Value),K.In s.heap->BindsTo s fd ⟨[y,a,b,c,d],ks.zip [r,u,t]⟩ (ps.zip [y,a,b,c,d,d0,r,u,d3,t])
section
variable {X:Cx}{CX:CXT}{k:Nat}{C:Addr}{ps ks:List Str}{sp:Sp}{E:XK}{x:Str}{p pos:Pos}{e:Expr}{es:List Expr}{c_:List Keyword}{t tk:TA}{v0 v3:V}
theorem zmq_ (G:GkK X.prog X.w X.K X.mg X.base CX k x C ps ks v0 v3 sp)(hr:Room (k+1) X.A)(hx:Passes CX X E)(ha:PA X (e::es) t)(mU:PK X c_ tk)(hp:ps.length=10:=by rfl)(hg:Gl X x:=by rfl)
  (aw:(backToKw pos (keywordEach c_ X.env)).all (·.1.isSome)=true:=by rfl) (mV:(backToKw pos (keywordEach c_ X.env)).filterMap (·.1)=ks:=by rfl)
  (bp:(x==("__debug__":Str))=false:=by decide) (he:starEach (e::es) X.env=(false,eval e X.env)::starEach es X.env:=by rfl)
  (aB:((backTo pos (starEach (e::es) X.env)).any (·.1) || (backToKw pos (keywordEach c_ X.env)).any (·.1.isNone))=false:=by rfl):
  PE X (.Call (.Name x p) (e::es) c_ pos) (tMake C sp [] E (taK (pm43 v0 v3) t tk)):=by
 obtain ⟨f,fd,d0,d3,F,M,hm,h0,h3,hb⟩:=G
 intro pins s σ H Q I h
 refine wpAny_Call_Name_kw (zgq_ I hg hm ?_ bp)
 refine W.callWith_KW (h₀:=X.base) I.ok.mod.kin M.kp aw (thn (ha pos pins s σ H _ I h) fun us s1 af=>?_) aB he
 obtain ⟨vs,H1,I1,r,q⟩:=af
 refine thn (mU pos pins s1 σ H1 _ I1 q) fun ws s2 ⟨zs,H2,I2,rz,q2⟩=>⟨I2.kIn,?_⟩
 rw [mV]
 have hq:=q2 (s2.heap.objs.size+1) s2.heap.objs.size (I2.hok.fresh (Nat.le_succ _)) (I2.hok.fresh (Nat.le_refl _)) (Nat.ne_of_lt (Nat.lt_succ_self _))
 rw [List.append_nil] at hq
 have I3:=Inv.made (C:=C) I2
 have rr:=zlX_ h0 h3 r rz
 have hl:=F.len _ _ _ _ hq
 rw [hp,List.length_cons,rr.length] at hl
 have r2:Vals (V.ref (s2.heap.objs.size+1)::pm43 v0 v3 vs zs) (Value.ref (s2.heap.objs.size+1)::pm43 d0 d3 us ws):=.cons rfl rr
 have hB:∀ s3:Shared,X.K.In s3.heap->BindsTo s3 fd ⟨Value.ref (s2.heap.objs.size+1)::us,ks.zip ws⟩ (ps.zip (Value.ref (s2.heap.objs.size+1)::pm43 d0 d3 us ws)):=by
  unfold pm43 at hl ⊢
  split at hl
  ·exact fun s3 hk=>hb s3 _ _ _ _ _ _ _ _ hk
  ·cases hl
 refine wpAny_call (ziB_ (f:=f) I2.kIn M.makes M.init (beq_iff_eq.mp M.fn) (codeAny_mono (F.run _ X.stack _ _ ⟨Value.ref (s2.heap.objs.size+1)::us,ks.zip ws⟩ (Value.ref (s2.heap.objs.size+1)::pm43 d0 d3 us ws) _ _ E (hr.make C us (ks.zip ws))
  (I3.env0.make C us (ks.zip ws)) (hB _ I3.kIn) r2 hq) fun r s' cz=>?_))
 cases r with
 | error e=>exact hx pins σ _ _ e s' I3 cz
 | ok fl =>
  cases fl with
  | ret u =>
   obtain ⟨v,H',I4,rv,ev,q3⟩:=I3.after cz
   subst ev
   exact ⟨rv,⟨V.ref (s2.heap.objs.size+1),H',I4,rfl,q3⟩⟩
  | next=>exact False.elim cz
  | brk=>exact False.elim cz
  | cont=>exact False.elim cz
end
section
variable {P:Program}{w:World}{K:Fgg}{mg:Str->Option Value}{base:Heap}{CX:CXT}{x q c:Str}{st:Stmt}{ps ks:List Str}{k:Nat}{sp:Sp}{v0 v1 v2 v3 v4:V}{f:Addr}{fd:FuncData}
theorem zqw_ (M:Mgo K mg)(C:Fc K c)(F:FmD K c "__init__" q st [v0,v1,v2,v3,v4])(hb:∀ T f fd d0 d1 d2 d3 d4 n oc od aj,FunD K T "__init__" q st f fd->K.lookup T=some ⟨oc,od,.seq #[d0,d1,d2,d3,d4] n,aj⟩ ->
   ∀ (s:Shared) (y a b c d r u t:Value),K.In s.heap->BindsTo s fd ⟨[y,a,b,c,d],ks.zip [r,u,t]⟩ (ps.zip [y,a,b,c,d,d0,r,u,d3,t]))
  (h:OkFD P w K mg base CX k "__init__" q st ps sp):GkK P w K mg base CX k c (gA K c) ps ks v0 v3 sp:=by
 obtain ⟨cw,f,T,fd,arr,n,oc,od,aj,e,e2,e3,F,lT,hv⟩:=F
 obtain ⟨nA,e',_,_,_,_,h5,h6⟩:=C
 cases e.symm.trans e'
 obtain ⟨d0,d1,d2,d3,d4,rfl⟩:=arr5 hv.length.symm
 cases hv with
 | cons r0 hv=>cases hv with | cons r1 hv=>cases hv with | cons r2 hv=>cases hv with | cons r3 hv =>
  exact ⟨f,fd,d0,d3,h T f fd F,by rw [zm6_ e]; exact ⟨h5,e2,e3,h6⟩,M.gk ⟨_,e⟩,r0,r3,hb T f fd d0 d1 d2 d3 d4 n oc od aj F lT⟩
def Gk3 (P:Program)(w:World)(K:Fgg)(mg:Str->Option Value)(base:Heap)(CX:CXT)(k:Nat)(x:Str)(C:Addr)(ps ks:List Str)(ar:List V)(v0 v3:V)(sp:Sp):Prop:=
 GkD P w K mg base CX k x C ps [] sp/\GkD P w K mg base CX k x C ps ar sp/\GkK P w K mg base CX k x C ps ks v0 v3 sp
theorem zqq_ (M:Mgo K mg)(C:Fc K c)(F:FmD K c "__init__" q st [v0,v1,v2,v3,v4])(h9:∀ T f fd arr n oc od aj,FunD K T "__init__" q st f fd->K.lookup T=some ⟨oc,od,.seq arr n,aj⟩->arr.toList.length=5->Binds K fd ps (arr.toList.drop 5))
  (h4:∀ T f fd arr n oc od aj,FunD K T "__init__" q st f fd->K.lookup T=some ⟨oc,od,.seq arr n,aj⟩->arr.toList.length=5->Binds K fd ps (arr.toList.drop 0))
  (hK:∀ T f fd d0 d1 d2 d3 d4 n oc od aj,FunD K T "__init__" q st f fd->K.lookup T=some ⟨oc,od,.seq #[d0,d1,d2,d3,d4] n,aj⟩ ->
   ∀ (s:Shared) (y a b c d r u t:Value),K.In s.heap->BindsTo s fd ⟨[y,a,b,c,d],ks.zip [r,u,t]⟩ (ps.zip [y,a,b,c,d,d0,r,u,d3,t]))
  (h:OkFD P w K mg base CX k "__init__" q st ps sp):Gk3 P w K mg base CX k c (gA K c) ps ks [v0,v1,v2,v3,v4] v0 v3 sp:=⟨zom_ 5 M C F h9 h,zom_ 0 M C F h4 h,zqw_ M C F hK h⟩
theorem zlW_ {T:Addr}{oc:Value}{od:Option Addr}{aj:Array (Option Value)}{d0 d1 d2 d3 d4:Value}{n:Nat}(hp:ps.length=10)(F:FunD K T x q st f fd)(lT:K.lookup T=some ⟨oc,od,.seq #[d0,d1,d2,d3,d4] n,aj⟩)
  (h:∀ (kV doc pm:Value) (an:Option Addr) (ah ct:Value) (u0 u1 u2 u3 u4:Value) (s:Shared),(∃ o,s.heap.get? T=some o/\o.data=.seq #[d0,d1,d2,d3,d4] n)->BindsTo s (W.fnOf x q (defArgs st) (defBody st) (defScope st) (.ref T) kV doc pm an ah ct) ⟨[u0,u1,u2,u3,u4],[]⟩ (ps.zip [u0,u1,u2,u3,u4,d0,d1,d2,d3,d4])):
  Binds K fd ps [d0,d1,d2,d3,d4]:=by
 obtain ⟨oc,od,kV,doc,pm,an,ah,ct,aj,rfl,lk,bT⟩:=F.ex
 intro s us hK hl
 rw [hp,List.length_append] at hl
 have hl:us.length=5:=by simpa using hl
 match us,hl with
 | [u0,u1,u2,u3,u4],_=>exact h kV doc pm an ah ct u0 u1 u2 u3 u4 s ⟨_,hK _ _ lT,rfl⟩
end
section
variable {K:Fgg}{E:XK}{L:List Sl}{t tk:TA}{a1 a2 a3 a4 b1 b2 b3 c0 c3:Type}{A1:Ty a1}{A2:Ty a2}{A3:Ty a3}{A4:Ty a4}{B1:Ty b1}{B2:Ty b2}{B3:Ty b3}{D0:Ty c0}{D3:Ty c3}{x0:c0}{x3:c3}{v0 v3:V}{ra:Mo (a1×a2×a3×a4)}{rb:Mo (b1×b2×b3)}
theorem ea_K (h0:∀ F,D0.R x0 v0 F)(h3:∀ F,D3.R x3 v3 F)(h:EvA K t E L ra (csCons A1 (csCons A2 (csCons A3 (csLast A4)))))(hk:EvA K tk E L rb (csCons B1 (csCons B2 (csLast B3)))):
  EvA K (taK (pm43 v0 v3) t tk) E L (ra.bind fun c=>rb.bind fun d=>.ok (c.1,c.2.1,c.2.2.1,c.2.2.2,x0,d.1,d.2.1,x3,d.2.2)) (csCons A1 (csCons A2 (csCons A3 (csCons A4 (csCons D0 (csCons B1 (csCons B2 (csCons D3 (csLast B3))))))))):=by
 intro σ F H R hL hs q
 refine h σ F H _ hL hs (q.bind.imp fun c F1 H1 x1 k1 vs aS=>?_)
 refine hk σ F1 H1 _ (hL.mono x1.1) x1.2.1 (k1.bind.imp fun d F2 H2 x2 k2 zs mC=>?_)
 obtain ⟨u1,_,rfl,r1,u2,_,rfl,r2,u3,_,rfl,r3,u4,rfl,r4⟩:=aS
 obtain ⟨w1,_,rfl,z1,w2,_,rfl,z2,w3,rfl,z3⟩:=mC
 exact k2.ok x2.2.1 _ ⟨_,_,rfl,A1.mono x2.1 r1,_,_,rfl,A2.mono x2.1 r2,_,_,rfl,A3.mono x2.1 r3,_,_,rfl,A4.mono x2.1 r4,_,_,rfl,h0 _,_,_,rfl,z1,_,_,rfl,z2,_,_,rfl,h3 _,_,rfl,z3⟩
end
section
variable {K:Fgg}{E:XK}{γ cK δ:Type}{L:List Sl}{C0:Cs γ}{C1:Cs cK}{ar:List V}{f:γ->cK}{ta:TA}{ra:Mo γ}{C:Addr}{ns:List Str}
theorem zkQ_ {P:Ps δ}{g:Unit->cK->Mo (Unit×δ)}(hD:CsD C0 ar C1 f)(ha:EvA K ta E L ra C0):
  EvO K (tMake C (CtM K (owI C [] psNil) (owI C ns P) C1 g (owF tyNon)) ar E0 ta) E L ((ra.bind fun c=>.ok (f c)).bind fun c=>(g () c).noex.bind fun q=>.ok q.2) (owI C ns P):=by
 rw [zn7_]
 exact zhN_ (ea_D ha hD)
end
end L2
namespace K40
open PySem PySem.Spec PyProof.Rows L2
open Mo renaming bind→Mb,ok→Mq
open Sl renaming fz→Zf,dead→Zd,ow→Zo
abbrev sI (a:Int):Sl:=.fz tyInt a
abbrev sS (a:List Nat):Sl:=.fz tyStr a
abbrev Jx:=List Nat
abbrev Jy:=List Jx
theorem S4 {a b c d:Sl}{L L':List Sl}(h:Sub L L'):Sub (a::b::c::d::L) (a::b::c::d::L'):=.same (.same (.same (.same h)))
abbrev Qm0:List Nat:=[97,98,99,100,101,102,103,104,105,106,107,108,109,110,111,112,113,114,115,116,117,118,119,120,121,122]
abbrev Qm1:List Nat:=[97,32,119,111,114,107,32,112,117,110,99,104,101,115,32,105,110,116,111,32,97,32,102,105,101,108,100,32,116,104,97,116,32,105,116,32,109,117,115,116,32,98,101,32,97,112,97,114,116,32,102,114,111,109]
abbrev Qm2:List Nat:=[97,32,102,105,101,108,100,32,103,111,101,115,32,102,114,111,109,32,97,32,102,105,114,115,116,32,116,111,32,97,32,108,97,115,116,32,99,111,108,117,109,110,44,32,102,114,111,109,32,49,32,116,111,32,51,54]
abbrev Qm3:List Nat:=[116,119,111,32,112,105,99,107,115,32,119,97,110,116,32,117,110,108,105,107,101,32,115,105,103,110,115,32,111,102,32,111,110,101,32,99,111,108,117,109,110]
abbrev Qm4:List Nat:=[97,32,119,111,114,107,32,104,97,115,32,111,110,101,32,111,102,32,116,104,114,101,101,32,119,111,114,100,115]
abbrev Qm5:List Nat:=[97,32,110,97,109,101,32,104,97,115,32,111,110,101,32,116,111,32,101,105,103,104,116,32,115,109,97,108,108,32,108,101,116,116,101,114,115]
abbrev Qm6:List Nat:=[97,32,112,105,99,107,39,115,32,116,101,120,116,32,105,115,32,97,115,32,119,105,100,101,32,97,115,32,105,116,115,32,102,105,101,108,100]
abbrev Qm7:List Nat:=[116,104,101,32,109,105,100,100,108,101,39,115,32,102,105,101,108,100,115,32,97,114,101,32,111,102,32,111,110,101,32,119,105,100,116,104]
abbrev Qm8:List Nat:=[116,104,101,114,101,32,97,114,101,32,110,111,32,109,111,114,101,32,98,114,101,97,107,115,32,116,104,97,110,32,107,101,121,115]
abbrev Qm9:List Nat:=[116,104,101,32,98,111,97,114,100,32,105,115,32,110,111,110,101,44,32,111,114,32,110,111,116,32,115,111,114,116,101,100]
abbrev Qm10:List Nat:=[97,32,109,105,100,100,108,101,32,104,97,115,32,119,104,97,116,32,105,116,115,32,119,111,114,100,32,119,97,110,116,115]
abbrev Qm11:List Nat:=[97,32,109,105,100,100,108,101,32,104,97,115,32,111,110,101,32,111,102,32,116,104,114,101,101,32,119,111,114,100,115]
abbrev Qm12:List Nat:=[97,110,32,97,115,107,105,110,103,32,104,97,115,32,52,32,119,111,114,107,115,32,97,116,32,109,111,115,116]
abbrev Qm13:List Nat:=[97,110,32,97,115,107,105,110,103,32,104,97,115,32,56,32,112,105,99,107,115,32,97,116,32,109,111,115,116]
abbrev Qm14:List Nat:=[97,110,32,97,115,107,105,110,103,32,104,97,115,32,54,32,107,101,121,115,32,97,116,32,109,111,115,116]
abbrev Qm15:List Nat:=[97,110,32,97,115,107,105,110,103,32,104,97,115,32,52,32,115,117,109,115,32,97,116,32,109,111,115,116]
abbrev Qm16:List Nat:=[119,104,101,101,108,115,32,104,97,118,101,32,49,32,116,111,32,49,50,32,102,105,103,117,114,101,115]
abbrev Qm17:List Nat:=[97,32,112,105,99,107,39,115,32,116,101,120,116,32,105,115,32,111,102,32,115,105,103,110,115]
abbrev Qm18:List Nat:=[116,104,101,32,116,119,111,32,110,97,109,101,115,32,97,114,101,32,117,110,108,105,107,101]
abbrev Qm19:List Nat:=[116,104,101,114,101,32,97,114,101,32,48,32,116,111,32,51,32,98,114,101,97,107,115]
abbrev Qi0:=(show Imm _ from (zdr_ (z0_ zW_ (za2_ zW_))))
abbrev Qi1:=(show Imm _ from (zpx_ (imm_u (zdr_ (z0_ z8_ (za2_ Qi0))) (zdr_ (z0_ z8_ (z0_ z8_ (z0_ Qi0 (za2_ Qi0))))))))
abbrev Qi2:=(show Into _ _ from (n_T (n_C zea_ (n_1 zea_))))
abbrev Qi3:=(show OutOf _ _ from (m_T (m_C zf9_ (m_1 zf9_))))
abbrev Qi4:=(show ImmP _ from (zfu_ (zab_ z8_) (zfu_ (zag_ (zdr_ (z0_ Qi0 (za2_ z8_)))) (zfu_ (zab_ Qi1) (zfu_ (zag_ Qi0) (zfu_ (zag_ (zdr_ (z0_ Qi0 (z0_ Qi0 (z0_ z8_ (za2_ Qi0)))))) (zfu_ (zab_ zW_) (zfu_ (zag_ Qi0) (zfu_ (zab_ zW_) (zfu_ (zag_ Qi0) zmd_))))))))))
abbrev Qi5:=(show Into _ _ from (in_u (n_T (n_C zb1_ (n_1 Qi2))) (n_T (n_C zb1_ (n_C zb1_ (n_C Qi2 (n_1 Qi2)))))))
abbrev Qi6:=(show Imm _ from (zdr_ (z0_ Qi0 (z0_ Qi0 (z0_ z8_ (za2_ Qi0))))))
abbrev Qi7:=(show OutOf _ _ from (m_U (m_T (m_C zbc_ (m_1 Qi3))) (m_T (m_C zbc_ (m_C zbc_ (m_C Qi3 (m_1 Qi3)))))))
abbrev Qn0:List Str:=["deck", "picks", "middle", "order", "works", "breaks", "sums", "figures", "board"]
abbrev Qn1:List Str:=["asking"]
abbrev Qq0 (K:Fgg):=(tyI (gA K "Asking") Qn0 (csCons tyStr (csCons (tyL (tyTup (csCons (tyTup (csCons tyInt (csLast tyInt))) (csLast tyStr)))) (csCons (tyOpt (tyU (tyTup (csCons tyStr (csLast (tyTup (csCons tyInt (csLast tyInt)))))) (tyTup (csCons tyStr (csCons tyStr (csCons (tyTup (csCons tyInt (csLast tyInt))) (csLast (tyTup (csCons tyInt (csLast tyInt)))))))))) (csCons (tyL (tyTup (csCons tyInt (csLast tyInt)))) (csCons (tyL (tyTup (csCons (tyTup (csCons tyInt (csLast tyInt))) (csCons (tyTup (csCons tyInt (csLast tyInt))) (csCons tyStr (csLast (tyTup (csCons tyInt (csLast tyInt))))))))) (csCons tyInt (csCons (tyL (tyTup (csCons tyInt (csLast tyInt)))) (csCons tyInt (csCons (tyL (tyTup (csCons tyInt (csLast tyInt)))) csNil))))))))))
abbrev Qq1:=(tyTup (csCons tyInt (csLast tyInt)))
abbrev Qq2:=(Jx×((List ((Int×Int)×Jx))×((Option ((Jx×(Int×Int)) ⊕ (Jx×(Jx×((Int×Int)×(Int×Int))))))×((List (Int×Int))×((List ((Int×Int)×((Int×Int)×(Jx×(Int×Int)))))×(Int×((List (Int×Int))×(Int×((List (Int×Int))×Unit)))))))))
abbrev Qq3:=(tyOpt (tyU (tyTup (csCons tyStr (csLast Qq1))) (tyTup (csCons tyStr (csCons tyStr (csCons Qq1 (csLast Qq1)))))))
abbrev Qq4:=(tyTup (csCons Qq1 (csCons Qq1 (csCons tyStr (csLast Qq1)))))
abbrev Qq5:=(tyTup (csCons Qq1 (csLast tyStr)))
abbrev Qq6 (K:Fgg):=(owI (gA K "Asking") Qn0 (psO (owF tyStr) (psO (owL Qq5) (psO (owF Qq3) (psO (owL Qq1) (psO (owL Qq4) (psO (owF tyInt) (psO (owL Qq1) (psO (owF tyInt) (psO (owL Qq1) psNil))))))))))
abbrev Qq7:=(List ((Int×Int)×((Int×Int)×(Jx×(Int×Int)))))
abbrev Qq8:=(Option ((Jx×(Int×Int)) ⊕ (Jx×(Jx×((Int×Int)×(Int×Int))))))
abbrev iFF:=iT (iC Dy.int (i1 Dy.int))
abbrev oFF:=oT (oC Dy.int? (o1 Dy.int?))
def zcj_ (K:Fgg):TS:=(tRet (mIf (mTest (tOp mIs (mVar 0) (tC .non))) (tLst tNil) (tCB (mList K) (tCons (mVar 0) tNil))))
def za9_:WC (Option Qq7) Qq7 (fun K _=>zcj_ K) (fun K c=>[(Zf (tyOpt (tyL Qq4)) c)]) (fun K=>(owL Qq4)):=⟨fun c=>_,fun K c E =>
 (zbD_ (zag_ Qi6) (zkr_ (z1_ (zr_ zhv_ (zc_ 0 rfl) zfM_)) (zaf_ Qq4) (zfF_ zgE_ (zd_ (zaq_ (zc_ 0 rfl))))))⟩
def zcm_ (aO:(Option Qq7)):Mo Qq7:=fnO (za9_.1 aO)
def zbZ_ (K:Fgg):Sp:=Ct K (csLast (tyOpt (tyL Qq4))) (fun c=>zcm_ c) (owL Qq4)
def zch_ (K:Fgg):TS:=(tRet (mIf (mTest (tOp mIs (mVar 0) (tC .non))) (tLst tNil) (tCB (mList K) (tCons (mVar 0) tNil))))
def za5_:WC (Option (List (Int×Int))) (List (Int×Int)) (fun K _=>zch_ K) (fun K c=>[(Zf (tyOpt (tyL Qq1)) c)]) (fun K=>(owL Qq1)):=⟨fun c=>_,fun K c E =>
 (zbD_ (zag_ Qi0) (zkr_ (z1_ (zr_ zhv_ (zc_ 0 rfl) zfM_)) (zaf_ Qq1) (zfF_ zgE_ (zd_ (zaq_ (zc_ 0 rfl))))))⟩
def za6_ (aO:(Option (List (Int×Int)))):Mo (List (Int×Int)):=fnO (za5_.1 aO)
def zaN_ (K:Fgg):Sp:=Ct K (csLast (tyOpt (tyL Qq1))) (fun c=>za6_ c) (owL Qq1)
def zht_ (K:Fgg)(E:XK):TS:=(mIfS (tNot (mTrL K (mVar 0))) (tRaise (gA K "NoAsking") E (tCons (mVar 1) tNil)) tNext)
def zfx_:WN (Bool×Jx) (fun K E=>zht_ K E) (fun K c=>[(Zf tyBl c.1),sS c.2]) [Zd,Zd]:=⟨fun c=>_,fun K c E =>
 (s_if (zeF_ (zqx_ (zc_ 0 rfl))) zj1_ (zp_ (s:=()) (.dead (.dead .nil))))⟩
def zb3_ (dR:Bool)(dM:Jx):Mo Unit:=fnU (zfx_.1 (dR,dM))
def zt_ (K:Fgg):Sp:=Ct K (csCons tyBl (csLast tyStr)) (fun c=>zb3_ c.1 c.2) (owF tyNon)
def zct_ (K:Fgg)(E:XK):TS:=(tSeq (tDrop (tCall (zt_ K) [] E (tCons (tOp mLe (tCB (mLen K) (tCons (mFld (gA K "Asking") (mVar 0) "picks") tNil)) (tC (.int 8))) (tCons (tC (tx Qm13)) tNil)))) (tSeq (tDrop (tCall (zt_ K) [] E (tCons (tOp mLe (tCB (mLen K) (tCons (mFld (gA K "Asking") (mVar 0) "order") tNil)) (tC (.int 6))) (tCons (tC (tx Qm14)) tNil)))) (tSeq (tDrop (tCall (zt_ K) [] E (tCons (tOp mLe (tCB (mLen K) (tCons (mFld (gA K "Asking") (mVar 0) "works") tNil)) (tC (.int 4))) (tCons (tC (tx Qm12)) tNil)))) (tDrop (tCall (zt_ K) [] E (tCons (tOp mLe (tCB (mLen K) (tCons (mFld (gA K "Asking") (mVar 0) "sums") tNil)) (tC (.int 4))) (tCons (tC (tx Qm15)) tNil)))))))
def zas_:WN Qq2 (fun K E=>zct_ K E) (fun K c=>[(Zf (Qq0 K) c)]) [Zd]:=⟨fun c=>_,fun K c E =>
 (zar_ (zz_ (ze_ (zr_ zbK_ (zeH_ zc7_ (zd_ (zO_ (ns:=Qn0) (by decide +kernel) (n:=1) rfl (at_s at_0) (zc_ 0 rfl)))) (zj_ 8)) (zd_ (z7_ Qm13)))) fun v8=>(at_ [(Zf (Qq0 K) c)] (zar_ (zz_ (ze_ (zr_ zbK_ (zeH_ zc7_ (zd_ (zO_ (ns:=Qn0) (by decide +kernel) (n:=3) rfl (at_s (at_s (at_s at_0))) (zc_ 0 rfl)))) (zj_ 6)) (zd_ (z7_ Qm14)))) fun lZ=>(at_ [(Zf (Qq0 K) c)] (zar_ (zz_ (ze_ (zr_ zbK_ (zeH_ zc7_ (zd_ (zO_ (ns:=Qn0) (by decide +kernel) (n:=4) rfl (at_s (at_s (at_s (at_s at_0)))) (zc_ 0 rfl)))) (zj_ 4)) (zd_ (z7_ Qm12)))) fun nJ=>(at_ [(Zf (Qq0 K) c)] (zcf_ (zar_ (zz_ (ze_ (zr_ zbK_ (zeH_ zc7_ (zd_ (zO_ (ns:=Qn0) (by decide +kernel) (n:=6) rfl (at_s (at_s (at_s (at_s (at_s (at_s at_0)))))) (zc_ 0 rfl)))) (zj_ 4)) (zd_ (z7_ Qm15)))) fun nI=>(at_ [(Zf (Qq0 K) c)] (zp_ (s:=()) (.dead .nil)))))))))))⟩
def za4_ (ae:Qq2):Mo Unit:=fnU (zas_.1 ae)
def zbW_ (K:Fgg):Sp:=Ct K (csLast (Qq0 K)) (fun c=>za4_ c) (owF tyNon)
def ziP_ (K:Fgg):TS:=(tRet (mAndV (tOp mIsNot (mFld (gA K "Asking") (mVar 0) "middle") (tC .non)) (tOp (mIn K false) (tOp (mIx K) (mFld (gA K "Asking") (mVar 0) "middle") (tC (.int 0))) (tC (.ref (gA K "MATING_WORDS"))))))
def zgu_ (ae:Qq2):Mo (Out Bool Unit Unit):=
 (Mb (Mb (Mb (Mb (Mq ae) fun nG=>Mq nG.2.2.1) fun i_=>Mb (Mq ()) fun nW=>Mq i_.isSome) fun w8=>if w8 then (Mb (Mb (Mb (Mb (Mq ae) fun w4=>Mq w4.2.2.1) fun w5=>Mo.opt w5) fun w6=>Mq (w6.elim (fun c=>c.1) (fun c=>c.1))) fun v7=>Mq (([[109,97,116,101,115],[119,105,116,104,111,117,116]]:Jy).any fun y=>decide (y=v7))) else Mq false) fun r9=>Mq (.rt r9))
def zjv_ (ae:Qq2):Mo Bool:=fnO (zgu_ ae)
def zbg_ (K:Fgg):Sp:=Ct K (csLast (Qq0 K)) (fun c=>zjv_ c) (owF tyBl)
def za1_ (K:Fgg)(E:XK):TS:=(tSeq (mIfS (mTest (tOp mIs (mFld (gA K "Asking") (mVar 0) "middle") (tC .non))) tRetN tNext) (tSeq (tAsg (tCB (mLen K) (tCons (mFld (gA K "Asking") (mVar 0) "middle") tNil)) (gName 1)) (tSeq (tDrop (tCall (zt_ K) [] E (tCons (mAndV (tOp mGt (mVar 1) (tC (.int 0))) (mOrV (tCall (zbg_ K) [] E0 (tCons (mVar 0) tNil)) (tOp (mEqA K) (tOp (mIx K) (mFld (gA K "Asking") (mVar 0) "middle") (tC (.int 0))) (tC (tx [102,105,114,115,116]))))) (tCons (tC (tx Qm11)) tNil)))) (tDrop (tCall (zt_ K) [] E (tCons (tOp (mEqA K) (mVar 1) (mIf (mTest (tCall (zbg_ K) [] E0 (tCons (mVar 0) tNil))) (tC (.int 4)) (tC (.int 2)))) (tCons (tC (tx Qm10)) tNil)))))))
def zal_:WN Qq2 (fun K E=>za1_ K E) (fun K c=>[(Zf (Qq0 K) c),Zd]) [Zd,Zd]:=⟨fun c=>_,fun K c E =>
 (zbp_ (LS:=(fun _:Unit=>[(Zf (Qq0 K) c),Zd])) (s_if (z1_ (zr_ zhv_ (zO_ (ns:=Qn0) (by decide +kernel) (n:=2) rfl (at_s (at_s at_0)) (zc_ 0 rfl)) zfM_)) zqj_ (zp_ (s:=()) (.same (.same .nil)))) fun _=>(at_ [(Zf (Qq0 K) c),Zd] (zdg_ (i:=1) rfl zW_ (zeH_ (zjH_ (zi_ zo_) (zi_ (zi_ (zi_ zo_)))) (zd_ (zaq_ (zO_ (ns:=Qn0) (by decide +kernel) (n:=2) rfl (at_s (at_s at_0)) (zc_ 0 rfl))))) fun m7=>(at_ [(Zf (Qq0 K) c),sI m7] (zar_ (zz_ (ze_ (zeP_ (zr_ zm0_ (zc_ 1 rfl) (zj_ 0)) (zqK_ (zm_ (zd_ (zc_ 0 rfl))) (zr_ (zaB_ zhm_) (zpa_ (i:=0) at_0 at_0 (zaq_ (zO_ (ns:=Qn0) (by decide +kernel) (n:=2) rfl (at_s (at_s at_0)) (zc_ 0 rfl)))) (z7_ [102,105,114,115,116])))) (zd_ (z7_ Qm11)))) fun nJ=>(at_ [(Zf (Qq0 K) c),sI m7] (zcf_ (zar_ (zz_ (ze_ (zr_ (zaB_ zaA_) (zc_ 1 rfl) (ev_if (z1_ (zm_ (zd_ (zc_ 0 rfl)))) (zj_ 4) (zj_ 2))) (zd_ (z7_ Qm10)))) fun nI=>(at_ [(Zf (Qq0 K) c),sI m7] (zp_ (s:=()) (.dead (.dead .nil))))))))))))⟩
def zaV_ (ae:Qq2):Mo Unit:=fnU (zal_.1 ae)
def zaP_ (K:Fgg):Sp:=Ct K (csLast (Qq0 K)) (fun c=>zaV_ c) (owF tyNon)
def zf5_ (K:Fgg):TS:=(tRet (mIf (mTest (tCall (zbg_ K) [] E0 (tCons (mVar 0) tNil))) (tLst (tCons (mFld (gA K "Asking") (mVar 0) "deck") (tCons (tOp (mIx K) (mFld (gA K "Asking") (mVar 0) "middle") (tC (.int 1))) tNil))) (tLst (tCons (mFld (gA K "Asking") (mVar 0) "deck") tNil))))
def zeo_:WC Qq2 Jy (fun K _=>zf5_ K) (fun K c=>[(Zf (Qq0 K) c)]) (fun K=>(owL tyStr)):=⟨fun c=>_,fun K c E =>
 (zbD_ (zag_ z8_) (zkr_ (z1_ (zm_ (zd_ (zc_ 0 rfl)))) (zbG_ (zi_ zo_) (zn_ zY_) (ze_ (zO_ (ns:=Qn0) (by decide +kernel) (n:=0) rfl at_0 (zc_ 0 rfl)) (zd_ (zP_ (i:=1) (at_s at_0) (zlt_ (zaq_ (zO_ (ns:=Qn0) (by decide +kernel) (n:=2) rfl (at_s (at_s at_0)) (zc_ 0 rfl)))))))) (zbG_ zo_ zY_ (zd_ (zO_ (ns:=Qn0) (by decide +kernel) (n:=0) rfl at_0 (zc_ 0 rfl))))))⟩
def zf4_ (ae:Qq2):Mo Jy:=fnO (zeo_.1 ae)
def ze8_ (K:Fgg):Sp:=Ct K (csLast (Qq0 K)) (fun c=>zf4_ c) (owL tyStr)
def zhy_ (K:Fgg):TS:=(tRet (mAndV (mChain mLe mLe (tC (.int 1)) (tCB (mLen K) (tCons (mVar 0) tNil)) (tC (.int 8))) (tCB (mAll K) (tCons (tComp ["letter"] [] (iAny K (mVar 0)) (gName 0) tTrue (tOp (mIn K false) (mVar 0) (tC (tx Qm0)))) tNil))))
def zdV_:WC Jx Bool (fun K _=>zhy_ K) (fun K c=>[sS c]) (fun K=>(owF tyBl)):=⟨fun c=>_,fun K c E =>
 (zbD_ (zab_ zbL_) (EvF.ow (zeP_ (zfv_ zbK_ zbK_ (zj_ 1) (zeH_ ziw_ (zd_ (zc_ 0 rfl))) (zj_ 8)) (zeH_ znz_ (zd_ (EvO.fr (O:=(owL tyBl)) (zaQ_ (zn3_ (zc_ 0 rfl)) (zE_ 0) (fun _=>dead1) (fun gc=>zaM_) (fun gc=>(zr_ zo9_ (zc_ 0 rfl) (z7_ Qm0))))))))))⟩
def zdS_ (cg:Jx):Mo Bool:=fnO (zdV_.1 cg)
def zfW_ (K:Fgg):Sp:=Ct K (csLast tyStr) (fun c=>zdS_ c) (owF tyBl)
def zdy_ (K:Fgg)(E:XK):TS:=(tSeq (tAsg (tCall (ze8_ K) [] E0 (tCons (mVar 0) tNil)) (gName 1)) (tSeq (tFor (iAny K (mVar 1)) (gName 2) (tDrop (tCall (zt_ K) [] E (tCons (tCall (zfW_ K) [] E0 (tCons (mVar 2) tNil)) (tCons (tC (tx Qm5)) tNil))))) (tDrop (tCall (zt_ K) [] E (tCons (mOrV (tOp (mNeA K) (tOp (mIx K) (mVar 1) (tC (.int 0))) (tOp (mIx K) (mVar 1) (mNeg (tC (.int 1))))) (tOp (mEqA K) (tCB (mLen K) (tCons (mVar 1) tNil)) (tC (.int 1)))) (tCons (tC (tx Qm18)) tNil))))))
def zaZ_:WN Qq2 (fun K E=>zdy_ K E) (fun K c=>[(Zf (Qq0 K) c),Zd,Zd]) [Zd,Zd,Zd]:=⟨fun c=>_,fun K c E =>
 (zbC_ (i:=1) rfl (zag_ z8_) (z9_ (zd_ (zc_ 0 rfl))) fun eg=>zfS_ (i:=1) rfl (at_ [(Zf (Qq0 K) c),(Zf (tyL tyStr) eg),Zd] (zbp_ (LS:=(fun _:Unit=>[(Zf (Qq0 K) c),(Zf (tyL tyStr) eg),Zd])) (zbI_ (L':=[(Zf (Qq0 K) c),(Zf (tyL tyStr) eg),Zd]) (.same (.same (.same .nil))) (zgH_ (LS:=(fun _:Unit=>[(Zf (Qq0 K) c),(Zf (tyL tyStr) eg),Zd])) (s0:=()) (ei_l (zc_ 1 rfl)) (zE_ 2) fun _ y4=>at_ [(Zf (Qq0 K) c),(Zf (tyL tyStr) eg),sS y4] (zcf_ (zar_ (zz_ (ze_ (zm_ (zd_ (zc_ 2 rfl))) (zd_ (z7_ Qm5)))) fun w9=>(at_ [(Zf (Qq0 K) c),(Zf (tyL tyStr) eg),sS y4] (zp_ (s:=()) (.same (.same (.dead .nil))))))))) fun _=>(at_ [(Zf (Qq0 K) c),(Zf (tyL tyStr) eg),Zd] (zcf_ (zar_ (zz_ (ze_ (zqK_ (zr_ (ziS_ zhm_) (zr_ zae_ (zc_ 1 rfl) (zj_ 0)) (zr_ zae_ (zc_ 1 rfl) (zl9_ (zj_ 1)))) (zr_ (zaB_ zaA_) (zeH_ zc7_ (zd_ (zc_ 1 rfl))) (zj_ 1))) (zd_ (z7_ Qm18)))) fun fM=>(at_ [(Zf (Qq0 K) c),(Zf (tyL tyStr) eg),Zd] (zp_ (s:=()) (.dead (.dead (.same .nil)))))))))))⟩
def zaU_ (ae:Qq2):Mo Unit:=fnU (zaZ_.1 ae)
def zc4_ (K:Fgg):Sp:=Ct K (csLast (Qq0 K)) (fun c=>zaU_ c) (owF tyNon)
def zcq_ (K:Fgg):TS:=(tSeq (mIfS (mTest (tOp mIs (mFld (gA K "Asking") (mVar 0) "middle") (tC .non))) (tRet (tLst tNil)) tNext) (tRet (mIf (mTest (tCall (zbg_ K) [] E0 (tCons (mVar 0) tNil))) (tCB (mList K) (tCons (tSl (rSlT K) (mFld (gA K "Asking") (mVar 0) "middle") (mPart (tC (.int 2))) tNoPart) tNil)) (tLst (tCons (tOp (mIx K) (mFld (gA K "Asking") (mVar 0) "middle") (tC (.int 1))) tNil)))))
def za7_:WC Qq2 (List (Int×Int)) (fun K _=>zcq_ K) (fun K c=>[(Zf (Qq0 K) c)]) (fun K=>(owL Qq1)):=⟨fun c=>_,fun K c E =>
 (zbp_ (LS:=(fun _:Unit=>[(Zf (Qq0 K) c)])) (s_if (z1_ (zr_ zhv_ (zO_ (ns:=Qn0) (by decide +kernel) (n:=2) rfl (at_s (at_s at_0)) (zc_ 0 rfl)) zfM_)) (zbD_ (zag_ Qi0) (zaf_ Qq1)) (zp_ (s:=()) (.same .nil))) fun _=>(at_ [(Zf (Qq0 K) c)] (zbD_ (zag_ Qi0) (zkr_ (z1_ (zm_ (zd_ (zc_ 0 rfl)))) (zfF_ (zl5_ (zn_ zY_)) (zd_ (zpA_ (dp_s dp_1) (zlt_ (zaq_ (zO_ (ns:=Qn0) (by decide +kernel) (n:=2) rfl (at_s (at_s at_0)) (zc_ 0 rfl))))))) (zbG_ zo_ zY_ (zd_ (zP_ (i:=1) (at_s zbt_) (znK_ (zaq_ (zO_ (ns:=Qn0) (by decide +kernel) (n:=2) rfl (at_s (at_s at_0)) (zc_ 0 rfl)))))))))))⟩
def zco_ (ae:Qq2):Mo (List (Int×Int)):=fnO (za7_.1 ae)
def zak_ (K:Fgg):Sp:=Ct K (csLast (Qq0 K)) (fun c=>zco_ c) (owL Qq1)
def zeb_ (K:Fgg):TS:=(tSeq (tAsg (tOp mAdd (tOp mAdd (tOp mAdd (tComp ["pick"] [] (iAny K (mFld (gA K "Asking") (mVar 0) "picks")) (gName 0) tTrue (tOp (mIx K) (mVar 0) (tC (.int 0)))) (tCall (zak_ K) [] E0 (tCons (mVar 0) tNil))) (mFld (gA K "Asking") (mVar 0) "order")) (mFld (gA K "Asking") (mVar 0) "sums")) (gName 1)) (tSeq (tFor (iAny K (mFld (gA K "Asking") (mVar 0) "works")) (gName 2) (tDrop (tBM K "list" rExtend (mVar 1) (tCons (tLst (tCons (tOp (mIx K) (mVar 2) (tC (.int 0))) (tCons (tOp (mIx K) (mVar 2) (tC (.int 1))) (tCons (tOp (mIx K) (mVar 2) (tC (.int 3))) tNil)))) tNil)))) (tRet (mVar 1))))
def zbm_:WC Qq2 (List (Int×Int)) (fun K _=>zeb_ K) (fun K c=>[(Zf (Qq0 K) c),Zd,Zd]) (fun K=>(owL Qq1)):=⟨fun c=>_,fun K c E =>
 (zbC_ (i:=1) rfl (zag_ Qi0) (zgy_ zds_ (EvO.fr (O:=(owL Qq1)) (zgy_ zds_ (EvO.fr (O:=(owL Qq1)) (zgy_ zds_ (EvO.fr (O:=(owL Qq1)) (zaQ_ (ei_l (zO_ (ns:=Qn0) (by decide +kernel) (n:=1) rfl (at_s at_0) (zc_ 0 rfl))) (zE_ 0) (fun _=>dead1) (fun bG=>zaM_) (fun bG=>(zP_ (i:=0) at_0 (zc_ 0 rfl))))) (EvO.fr (z9_ (zd_ (zc_ 0 rfl)))))) (zO_ (ns:=Qn0) (by decide +kernel) (n:=3) rfl (at_s (at_s (at_s at_0))) (zc_ 0 rfl)))) (zO_ (ns:=Qn0) (by decide +kernel) (n:=6) rfl (at_s (at_s (at_s (at_s (at_s (at_s at_0)))))) (zc_ 0 rfl))) fun dw=>(at_ [(Zf (Qq0 K) c),(Zo (owL Qq1) dw),Zd] (zbp_ (LS:=(fun dI:(List (Int×Int))=>[(Zf (Qq0 K) c),(Zo (owL Qq1) dI),Zd])) (zbI_ (L':=[(Zf (Qq0 K) c),(Zo (owL Qq1) dw),Zd]) (.same (.same (.same .nil))) (zgH_ (LS:=(fun dI:(List (Int×Int))=>[(Zf (Qq0 K) c),(Zo (owL Qq1) dI),Zd])) (s0:=dw) (ei_l (zO_ (ns:=Qn0) (by decide +kernel) (n:=4) rfl (at_s (at_s (at_s (at_s at_0)))) (zc_ 0 rfl))) (zE_ 2) fun dI kP=>at_ [(Zf (Qq0 K) c),(Zo (owL Qq1) dI),(Zf Qq4 kP)] (zcf_ (zgJ_ (i:=1) rfl Qi0 (EvO.fr (zbG_ (zi_ (zi_ zo_)) (zn_ (zn_ zY_)) (ze_ (zP_ (i:=0) at_0 (zc_ 2 rfl)) (ze_ (zP_ (i:=1) (at_s at_0) (zc_ 2 rfl)) (zd_ (zP_ (i:=3) (at_s (at_s (at_s zbt_))) (zc_ 2 rfl))))))) fun lW=>(at_ [(Zf (Qq0 K) c),(Zo (owL Qq1) (dI++lW)),(Zf Qq4 kP)] (zp_ (s:=(dI++lW)) (.same (.same (.dead .nil))))))))) fun dI=>(at_ [(Zf (Qq0 K) c),(Zo (owL Qq1) dI),Zd] (zki_ (i:=1) rfl)))))⟩
def zcF_ (ae:Qq2):Mo (List (Int×Int)):=fnO (zbm_.1 ae)
def zdG_ (K:Fgg):Sp:=Ct K (csLast (Qq0 K)) (fun c=>zcF_ c) (owL Qq1)
def ze2_ (K:Fgg):TS:=(tRet (tCB (mAll K) (tCons (tComp ["sign"] [] (iAny K (mVar 0)) (gName 0) tTrue (tOp (mIn K false) (mVar 0) (tC (tx SG)))) tNil)))
def zb2_:WC Jx Bool (fun K _=>ze2_ K) (fun K c=>[sS c]) (fun K=>(owF tyBl)):=⟨fun c=>_,fun K c E =>
 (zbD_ (zab_ zbL_) (EvF.ow (zeH_ znz_ (zd_ (EvO.fr (O:=(owL tyBl)) (zaQ_ (zn3_ (zc_ 0 rfl)) (zE_ 0) (fun _=>dead1) (fun eI=>zaM_) (fun eI=>(zr_ zo9_ (zc_ 0 rfl) (z7_ SG)))))))))⟩
def zdm_ (cg:Jx):Mo Bool:=fnO (zb2_.1 cg)
def zet_ (K:Fgg):Sp:=Ct K (csLast tyStr) (fun c=>zdm_ c) (owF tyBl)
def zc1_ (K:Fgg):TS:=(tSeq (tAsg tDNewK (gName 1)) (tSeq (tFor (iAny K (mVar 0)) (gName 2) (mIfS (mTest (tOp (mEqA K) (tOp (mIx K) (mVar 2) (tC (.int 0))) (tC (tx [112,105,99,107])))) (mIfS (mTest (tOp (mNeA K) (mSetD (mVar 1) (tOp (mIx K) (mVar 2) (tC (.int 1))) (tOp (mIx K) (mVar 2) (tC (.int 2)))) (tOp (mIx K) (mVar 2) (tC (.int 2))))) (tRet (tC .non)) tNext) tNext)) (tRet (mVar 1))))
def zaH_:WC (List Pas) (Option (List (Int×Jx))) (fun K _=>zc1_ K) (fun K c=>[(Zf (tyL tyPass) c),Zd,Zd]) (fun K=>(owF (tyOpt (tyD kInt tyStr)))):=⟨fun c=>_,fun K c E =>
 (zbC_ (i:=1) rfl (zod_ z8_) (zla_ kInt tyStr) fun aA=>(at_ [(Zf (tyL tyPass) c),(Zo (owD kInt tyStr) aA),Zd] (zbp_ (LS:=(fun bz:(List (Int×Jx))=>[(Zf (tyL tyPass) c),(Zo (owD kInt tyStr) bz),Zd])) (zbI_ (L':=[(Zf (tyL tyPass) c),(Zo (owD kInt tyStr) aA),Zd]) (.same (.same (.same .nil))) (zgH_ (LS:=(fun bz:(List (Int×Jx))=>[(Zf (tyL tyPass) c),(Zo (owD kInt tyStr) bz),Zd])) (s0:=aA) (ei_l (zc_ 0 rfl)) (zE_ 2) fun bz bG=>at_ [(Zf (tyL tyPass) c),(Zo (owD kInt tyStr) bz),(Zf tyPass bG)] (zcf_ (zbp_ (LS:=(fun y8:(List (Int×Jx))=>[(Zf (tyL tyPass) c),(Zo (owD kInt tyStr) y8),(Zf tyPass bG)])) (s_if (z1_ (zr_ (zaB_ zhm_) (zmT_ (zc_ 2 rfl)) (z7_ [112,105,99,107]))) (zqv_ (i:=1) rfl z8_ zW_ (zmx_ (zc_ 2 rfl)) (zjt_ (zc_ 2 rfl)) (ziS_ zhm_) (fun fT=>atF [(Zf (tyL tyPass) c),(Zo (owD kInt tyStr) fT.2),(Zf tyPass bG)] (zjt_ (zc_ 2 rfl))) (fun fT=>at_ [(Zf (tyL tyPass) c),(Zo (owD kInt tyStr) fT.2),(Zf tyPass bG)] (zkp_ (EvF.ow ze1_))) (fun fT=>at_ [(Zf (tyL tyPass) c),(Zo (owD kInt tyStr) fT.2),(Zf tyPass bG)] (zp_ (s:=fT.2) (.same (.same (.same .nil)))))) (zp_ (s:=bz) (.same (.same (.same .nil))))) fun y8=>(at_ [(Zf (tyL tyPass) c),(Zo (owD kInt tyStr) y8),(Zf tyPass bG)] (zp_ (s:=y8) (.same (.same (.dead .nil))))))))) fun bz=>(at_ [(Zf (tyL tyPass) c),(Zo (owD kInt tyStr) bz),Zd] (zfS_ (i:=1) rfl (at_ [(Zf (tyL tyPass) c),(Zf (tyD kInt tyStr) bz),Zd] (zkp_ (EvF.ow (ziD_ (fun _ _ _=>zog_) (zc_ 1 rfl))))))))))⟩
def zbn_ (gr:(List Pas)):Mo (Option (List (Int×Jx))):=fnO (zaH_.1 gr)
def zck_ (K:Fgg):Sp:=Ct K (csLast (tyL tyPass)) (fun c=>zbn_ c) (owF (tyOpt (tyD kInt tyStr)))
def zf2_ (K:Fgg):TS:=(tRet (tOp mAdd (tOp mSub (tOp (mIx K) (mVar 0) (tC (.int 1))) (tOp (mIx K) (mVar 0) (tC (.int 0)))) (tC (.int 1))))
def zed_:WC (Int×Int) Int (fun K _=>zf2_ K) (fun K c=>[(Zf Qq1 c)]) (fun K=>(owF tyInt)):=⟨fun c=>_,fun K c E =>
 (zbD_ (zab_ zW_) (EvF.ow (zr_ zR_ (zr_ zdZ_ (zP_ (i:=1) (at_s zbt_) (zc_ 0 rfl)) (zP_ (i:=0) at_0 (zc_ 0 rfl))) (zj_ 1))))⟩
def zgl_ (aD:(Int×Int)):Mo Int:=fnO (zed_.1 aD)
def zca_ (K:Fgg):Sp:=Ct K (csLast Qq1) (fun c=>zgl_ c) (owF tyInt)
def zer_ (K:Fgg):TS:=(tRet (tCB (mList K) (tCons (tCB (mRange) (tCons (tOp (mIx K) (mVar 0) (tC (.int 0))) (tCons (tOp mAdd (tOp (mIx K) (mVar 0) (tC (.int 1))) (tC (.int 1))) tNil))) tNil)))
def zbr_:WC (Int×Int) (List Int) (fun K _=>zer_ K) (fun K c=>[(Zf Qq1 c)]) (fun K=>(owL tyInt)):=⟨fun c=>_,fun K c E =>
 (zbD_ (zag_ zW_) (zfF_ zji_ (zd_ (zeH_ zk2_ (ze_ (zP_ (i:=0) at_0 (zc_ 0 rfl)) (zd_ (zr_ zR_ (zP_ (i:=1) (at_s zbt_) (zc_ 0 rfl)) (zj_ 1))))))))⟩
def zcG_ (aD:(Int×Int)):Mo (List Int):=fnO (zbr_.1 aD)
def zdJ_ (K:Fgg):Sp:=Ct K (csLast Qq1) (fun c=>zcG_ c) (owL tyInt)
def zdu_ (K:Fgg):TS:=(tSeq (tAsg (tLst tNil) (gName 1)) (tSeq (tFor (iAny K (mFld (gA K "Asking") (mVar 0) "picks")) (gName 2) (tDrop (tBM K "list" rExtend (mVar 1) (tCons (tComp ["column", "sign"] [] (iZipX K (tCons (tCall (zdJ_ K) [] E0 (tCons (tOp (mIx K) (mVar 2) (tC (.int 0))) tNil)) (tCons (tOp (mIx K) (mVar 2) (tC (.int 1))) tNil))) (gTupM K 2 (gConsM (gName 0) (gConsM (gName 1) gNilM))) tTrue (tTup (tCons (tC (tx [112,105,99,107])) (tCons (mVar 0) (tCons (mVar 1) tNil))))) tNil)))) (tRet (mVar 1))))
def zaW_:WC Qq2 (List Pas) (fun K _=>zdu_ K) (fun K c=>[(Zf (Qq0 K) c),Zd,Zd]) (fun K=>(owL tyPass)):=⟨fun c=>_,fun K c E =>
 (zbC_ (i:=1) rfl (zag_ zjA_) (zaf_ tyPass) fun jd=>(at_ [(Zf (Qq0 K) c),(Zo (owL tyPass) jd),Zd] (zbp_ (LS:=(fun bz:(List Pas)=>[(Zf (Qq0 K) c),(Zo (owL tyPass) bz),Zd])) (zbI_ (L':=[(Zf (Qq0 K) c),(Zo (owL tyPass) jd),Zd]) (.same (.same (.same .nil))) (zgH_ (LS:=(fun bz:(List Pas)=>[(Zf (Qq0 K) c),(Zo (owL tyPass) bz),Zd])) (s0:=jd) (ei_l (zO_ (ns:=Qn0) (by decide +kernel) (n:=1) rfl (at_s at_0) (zc_ 0 rfl))) (zE_ 2) fun bz y4=>at_ [(Zf (Qq0 K) c),(Zo (owL tyPass) bz),(Zf Qq5 y4)] (zcf_ (zgJ_ (i:=1) rfl zjA_ (EvO.fr (O:=(owL tyPass)) (zaQ_ (zmD_ (ze_ (EvO.fr (z9_ (zd_ (zP_ (i:=0) at_0 (zc_ 2 rfl))))) (zd_ (zP_ (i:=1) (at_s zbt_) (zc_ 2 rfl))))) (zh1_ (zi_ zo_) (zdA_ 0 (zeW_ (zE_ 1)))) (fun _=>dead2) (fun iB=>zaM_) (fun iB=>(zpN_ (zc_ 0 rfl) (zc_ 1 rfl))))) fun l0=>(at_ [(Zf (Qq0 K) c),(Zo (owL tyPass) (bz++l0)),(Zf Qq5 y4)] (zp_ (s:=(bz++l0)) (.same (.same (.dead .nil))))))))) fun bz=>(at_ [(Zf (Qq0 K) c),(Zo (owL tyPass) bz),Zd] (zki_ (i:=1) rfl)))))⟩
def zbT_ (ae:Qq2):Mo (List Pas):=fnO (zaW_.1 ae)
def zcY_ (K:Fgg):Sp:=Ct K (csLast (Qq0 K)) (fun c=>zbT_ c) (owL tyPass)
def zdz_ (K:Fgg)(E:XK):TS:=(tSeq (tFor (iAny K (mFld (gA K "Asking") (mVar 0) "picks")) (gName 1) (tSeq (tDrop (tCall (zt_ K) [] E (tCons (tOp (mEqA K) (tCB (mLen K) (tCons (tOp (mIx K) (mVar 1) (tC (.int 1))) tNil)) (tCall (zca_ K) [] E0 (tCons (tOp (mIx K) (mVar 1) (tC (.int 0))) tNil))) (tCons (tC (tx Qm6)) tNil)))) (tDrop (tCall (zt_ K) [] E (tCons (tCall (zet_ K) [] E0 (tCons (tOp (mIx K) (mVar 1) (tC (.int 1))) tNil)) (tCons (tC (tx Qm17)) tNil)))))) (tDrop (tCall (zt_ K) [] E (tCons (tOp mIsNot (tCall (zck_ K) [] E0 (tCons (tCall (zcY_ K) [] E0 (tCons (mVar 0) tNil)) tNil)) (tC .non)) (tCons (tC (tx Qm3)) tNil)))))
def zaT_:WN Qq2 (fun K E=>zdz_ K E) (fun K c=>[(Zf (Qq0 K) c),Zd]) [Zd,Zd]:=⟨fun c=>_,fun K c E =>
 (zbp_ (LS:=(fun _:Unit=>[(Zf (Qq0 K) c),Zd])) (zbI_ (L':=[(Zf (Qq0 K) c),Zd]) (.same (.same .nil)) (zgH_ (LS:=(fun _:Unit=>[(Zf (Qq0 K) c),Zd])) (s0:=()) (ei_l (zO_ (ns:=Qn0) (by decide +kernel) (n:=1) rfl (at_s at_0) (zc_ 0 rfl))) (zE_ 1) fun _ bG=>at_ [(Zf (Qq0 K) c),(Zf Qq5 bG)] (zar_ (zz_ (ze_ (zr_ (zaB_ zaA_) (zeH_ ziw_ (zd_ (zP_ (i:=1) (at_s zbt_) (zc_ 1 rfl)))) (zm_ (zd_ (zP_ (i:=0) at_0 (zc_ 1 rfl))))) (zd_ (z7_ Qm6)))) fun nK=>(at_ [(Zf (Qq0 K) c),(Zf Qq5 bG)] (zcf_ (zar_ (zz_ (ze_ (zm_ (zd_ (zP_ (i:=1) (at_s zbt_) (zc_ 1 rfl)))) (zd_ (z7_ Qm17)))) fun n_=>(at_ [(Zf (Qq0 K) c),(Zf Qq5 bG)] (zp_ (s:=()) (.same (.dead .nil)))))))))) fun _=>(at_ [(Zf (Qq0 K) c),Zd] (zcf_ (zar_ (zz_ (ze_ (zr_ zg1_ (zm_ (zd_ (EvO.fr (z9_ (zd_ (zc_ 0 rfl)))))) zfM_) (zd_ (z7_ Qm3)))) fun nY=>(at_ [(Zf (Qq0 K) c),Zd] (zp_ (s:=()) (.dead (.same .nil))))))))⟩
def zbR_ (ae:Qq2):Mo Unit:=fnU (zaT_.1 ae)
def zc2_ (K:Fgg):Sp:=Ct K (csLast (Qq0 K)) (fun c=>zbR_ c) (owF tyNon)
def zay_ (K:Fgg)(E:XK):TS:=(tSeq (tAsg (tCall (zak_ K) [] E0 (tCons (mVar 0) tNil)) (gName 1)) (mIfS (mTrL K (mVar 1)) (tDrop (tCall (zt_ K) [] E (tCons (tOp (mEqA K) (tCall (zca_ K) [] E0 (tCons (tOp (mIx K) (mVar 1) (tC (.int 0))) tNil)) (tCall (zca_ K) [] E0 (tCons (tOp (mIx K) (mVar 1) (mNeg (tC (.int 1)))) tNil))) (tCons (tC (tx Qm7)) tNil)))) tNext))
def zL_:WN Qq2 (fun K E=>zay_ K E) (fun K c=>[(Zf (Qq0 K) c),Zd]) [Zd,Zd]:=⟨fun c=>_,fun K c E =>
 (zbC_ (i:=1) rfl (zag_ Qi0) (z9_ (zd_ (zc_ 0 rfl))) fun dw=>zfS_ (i:=1) rfl (at_ [(Zf (Qq0 K) c),(Zf (tyL Qq1) dw)] (s_if (zq2_ (zc_ 1 rfl)) (zcf_ (zar_ (zz_ (ze_ (zr_ (zaB_ zaA_) (zm_ (zd_ (zr_ zae_ (zc_ 1 rfl) (zj_ 0)))) (zm_ (zd_ (zr_ zae_ (zc_ 1 rfl) (zl9_ (zj_ 1)))))) (zd_ (z7_ Qm7)))) fun lY=>(at_ [(Zf (Qq0 K) c),(Zf (tyL Qq1) dw)] (zp_ (s:=()) (.dead (.dead .nil)))))) (zp_ (s:=()) (.dead (.dead .nil))))))⟩
def zad_ (ae:Qq2):Mo Unit:=fnU (zL_.1 ae)
def zav_ (K:Fgg):Sp:=Ct K (csLast (Qq0 K)) (fun c=>zad_ c) (owF tyNon)
def zgp_ (K:Fgg):TS:=(tRet (mAndV (tCB (mIsa K) (tCons (mVar 0) (tCons (tC (.ty "int")) tNil))) (mNotV (tCB (mIsa K) (tCons (mVar 0) (tCons (tC (.ty "bool")) tNil))))))
def zbM_:WC Int Bool (fun K _=>zgp_ K) (fun K c=>[sI c]) (fun K=>(owF tyBl)):=⟨fun c=>_,fun K c E =>
 (zbD_ (zab_ zbL_) (EvF.ow (zeP_ (znv_ (bb:=true) znc_ (zc_ 0 rfl)) (zn4_ (znv_ (bb:=false) znc_ (zc_ 0 rfl))))))⟩
def zbP_ (bB:Int):Mo Bool:=fnO (zbM_.1 bB)
def zaI_ (K:Fgg):Sp:=Ct K (csLast tyInt) (fun c=>zbP_ c) (owF tyBl)
def zeS_ (K:Fgg):TS:=(tRet (mAndV (tCall (zaI_ K) [] E0 (tCons (mVar 0) tNil)) (mChain mLe mLe (tC (.int 1)) (mVar 0) (mVar 1))))
def zb5_:WC (Int×Int) Bool (fun K _=>zeS_ K) (fun K c=>[sI c.1,sI c.2]) (fun K=>(owF tyBl)):=⟨fun c=>_,fun K c E =>
 (zbD_ (zab_ zbL_) (EvF.ow (zeP_ (zm_ (zd_ (zc_ 0 rfl))) (zfv_ zbK_ zbK_ (zj_ 1) (zc_ 0 rfl) (zc_ 1 rfl)))))⟩
def zdp_ (bB:Int)(eT:Int):Mo Bool:=fnO (zb5_.1 (bB,eT))
def zcD_ (K:Fgg):Sp:=Ct K (csCons tyInt (csLast tyInt)) (fun c=>zdp_ c.1 c.2) (owF tyBl)
def zem_ (K:Fgg):TS:=(tSeq (tFor (iAny K (mVar 0)) (gName 1) (mIfS (mOr (tNot (mTest (tCall (zcD_ K) [] E0 (tCons (tOp (mIx K) (mVar 1) (tC (.int 0))) (tCons (tC (.int 40)) tNil))))) (tNot (mTest (tCall (zcD_ K) [] E0 (tCons (tOp (mIx K) (mVar 1) (tC (.int 1))) (tCons (tC (.int 36)) tNil)))))) tNever tNext)) (tSeq (tAsg tDNewK (gName 2)) (tSeq (tFor (iAny K (mVar 0)) (gName 1) (tSeq (mIfS (mTest (mDIn false (tOp (mIx K) (mVar 1) (tC (.int 1))) (mVar 2))) tNever tNext) (mDPut (mVar 2) (tOp (mIx K) (mVar 1) (tC (.int 1))) (mVar 1)))) (tRet (tComp ["column"] [("leading",2)] (iAny K (tCB (mSortD 64 K) (tCons (mVar 2) tNil))) (gName 0) tTrue (mDGet (mVar 1) (mVar 0)))))))
def zbv_:WC (List (Int×Int)) (List (Int×Int)) (fun K _=>zem_ K) (fun K c=>[(Zf (tyL Qq1) c),Zd,Zd]) (fun K=>(owL Qq1)):=⟨fun c=>_,fun K c E =>
 (zbp_ (LS:=(fun _:Unit=>[(Zf (tyL Qq1) c),Zd,Zd])) (zbI_ (L':=[(Zf (tyL Qq1) c),Zd,Zd]) (.same (.same (.same .nil))) (zgH_ (LS:=(fun _:Unit=>[(Zf (tyL Qq1) c),Zd,Zd])) (s0:=()) (ei_l (zc_ 0 rfl)) (zE_ 1) fun _ eI=>at_ [(Zf (tyL Qq1) c),(Zf Qq1 eI),Zd] (s_if (zpU_ (zeF_ (z1_ (zm_ (ze_ (zP_ (i:=0) at_0 (zc_ 1 rfl)) (zd_ (zj_ 40)))))) (zeF_ (z1_ (zm_ (ze_ (zP_ (i:=1) (at_s zbt_) (zc_ 1 rfl)) (zd_ (zj_ 36))))))) zj1_ (zp_ (s:=()) (.same (.dead (.same .nil))))))) fun _=>(at_ [(Zf (tyL Qq1) c),Zd,Zd] (zbC_ (i:=2) rfl (zod_ Qi0) (zla_ kInt Qq1) fun jw=>(at_ [(Zf (tyL Qq1) c),Zd,(Zo (owD kInt Qq1) jw)] (zbp_ (LS:=(fun cW:(List (Int×(Int×Int)))=>[(Zf (tyL Qq1) c),Zd,(Zo (owD kInt Qq1) cW)])) (zbI_ (L':=[(Zf (tyL Qq1) c),Zd,(Zo (owD kInt Qq1) jw)]) (.same (.same (.same .nil))) (zgH_ (LS:=(fun cW:(List (Int×(Int×Int)))=>[(Zf (tyL Qq1) c),Zd,(Zo (owD kInt Qq1) cW)])) (s0:=jw) (ei_l (zc_ 0 rfl)) (zE_ 1) fun cW el=>at_ [(Zf (tyL Qq1) c),(Zf Qq1 el),(Zo (owD kInt Qq1) cW)] (zbp_ (LS:=(fun _:Unit=>[(Zf (tyL Qq1) c),(Zf Qq1 el),(Zo (owD kInt Qq1) cW)])) (s_if (z1_ (zqn_ false (zP_ (i:=1) (at_s zbt_) (zc_ 1 rfl)) (ziZ_ 2 rfl))) zj1_ (zp_ (s:=()) (.same (.same (.same .nil))))) fun _=>(at_ [(Zf (tyL Qq1) c),(Zf Qq1 el),(Zo (owD kInt Qq1) cW)] (zcf_ (zqJ_ (i:=2) rfl Qi0 zW_ (zc_ 1 rfl) (zP_ (i:=1) (at_s zbt_) (zc_ 1 rfl)) fun fM kN=>(at_ [(Zf (tyL Qq1) c),(Zf Qq1 el),(Zo (owD kInt Qq1) (putA cW kN fM))] (zp_ (s:=(putA cW kN fM)) (.same (.dead (.same .nil))))))))))) fun cW=>(at_ [(Zf (tyL Qq1) c),Zd,(Zo (owD kInt Qq1) cW)] (zbD_ (zag_ Qi0) (zaQ_ (ei_l (EvO.fr (zfF_ (ziE_ zl0_ zdO_ zqQ_) (zd_ (ziZ_ 2 rfl))))) (zE_ 0) (fun _=>dead1) (fun jb=>zaM_) (fun jb=>(zpv_ (ziZ_ 1 rfl) (zc_ 0 rfl)))))))))))⟩
def zcH_ (bA:(List (Int×Int))):Mo (List (Int×Int)):=fnO (zbv_.1 bA)
def zdw_ (K:Fgg):Sp:=Ct K (csLast (tyL Qq1)) (fun c=>zcH_ c) (owL Qq1)
def zgd_ (K:Fgg):TS:=(tSeq (tTryHE (fun D _ σ H=>(tAsg (tCall (zdw_ K) [] E0 (tCons (mVar 0) tNil)) (gName 1)) D σ H) tNext tH0) (tRet (tOp (mEqA K) (mVar 1) (mVar 0))))
def zcP_:WC (List (Int×Int)) Bool (fun K _=>zgd_ K) (fun K c=>[(Zf (tyL Qq1) c),Zd]) (fun K=>(owF tyBl)):=⟨fun c=>_,fun K c E =>
 (znW_ (zbC_ (i:=1) rfl (zag_ Qi0) (z9_ (zd_ (zc_ 0 rfl))) fun mv=>zfS_ (i:=1) rfl (at_ [(Zf (tyL Qq1) c),(Zf (tyL Qq1) mv)] (zbD_ (zab_ zbL_) (EvF.ow (zr_ (zaB_ (eqt_l (zpw_ (zni_ zaA_ (zlJ_ zaA_))))) (zc_ 1 rfl) (zc_ 0 rfl)))))))⟩
def zbd_ (bA:(List (Int×Int))):Mo Bool:=fnO (zcP_.1 bA)
def zeY_ (K:Fgg):Sp:=Ct K (csLast (tyL Qq1)) (fun c=>zbd_ c) (owF tyBl)
def zbJ_ (K:Fgg)(E:XK):TS:=(tSeq (tDrop (tCall (zt_ K) [] E (tCons (mAndV (tCall (zaI_ K) [] E0 (tCons (mFld (gA K "Asking") (mVar 0) "breaks") tNil)) (mChain mLe mLe (tC (.int 0)) (mFld (gA K "Asking") (mVar 0) "breaks") (tC (.int 3)))) (tCons (tC (tx Qm19)) tNil)))) (tSeq (tDrop (tCall (zt_ K) [] E (tCons (tOp mLe (mFld (gA K "Asking") (mVar 0) "breaks") (tCB (mLen K) (tCons (mFld (gA K "Asking") (mVar 0) "order") tNil))) (tCons (tC (tx Qm8)) tNil)))) (tSeq (tDrop (tCall (zt_ K) [] E (tCons (mAndV (tCall (zaI_ K) [] E0 (tCons (mFld (gA K "Asking") (mVar 0) "figures") tNil)) (mChain mLe mLe (tC (.int 1)) (mFld (gA K "Asking") (mVar 0) "figures") (tC (.int 12)))) (tCons (tC (tx Qm16)) tNil)))) (tDrop (tCall (zt_ K) [] E (tCons (tCall (zeY_ K) [] E0 (tCons (mFld (gA K "Asking") (mVar 0) "board") tNil)) (tCons (tC (tx Qm9)) tNil)))))))
def zah_:WN Qq2 (fun K E=>zbJ_ K E) (fun K c=>[(Zf (Qq0 K) c)]) [Zd]:=⟨fun c=>_,fun K c E =>
 (zar_ (zz_ (ze_ (zeP_ (zm_ (zd_ (zO_ (ns:=Qn0) (by decide +kernel) (n:=5) rfl (at_s (at_s (at_s (at_s (at_s at_0))))) (zc_ 0 rfl)))) (zfv_ zbK_ zbK_ (zj_ 0) (zO_ (ns:=Qn0) (by decide +kernel) (n:=5) rfl (at_s (at_s (at_s (at_s (at_s at_0))))) (zc_ 0 rfl)) (zj_ 3))) (zd_ (z7_ Qm19)))) fun nK=>(at_ [(Zf (Qq0 K) c)] (zar_ (zz_ (ze_ (zr_ zbK_ (zO_ (ns:=Qn0) (by decide +kernel) (n:=5) rfl (at_s (at_s (at_s (at_s (at_s at_0))))) (zc_ 0 rfl)) (zeH_ zc7_ (zd_ (zO_ (ns:=Qn0) (by decide +kernel) (n:=3) rfl (at_s (at_s (at_s at_0))) (zc_ 0 rfl))))) (zd_ (z7_ Qm8)))) fun n0=>(at_ [(Zf (Qq0 K) c)] (zar_ (zz_ (ze_ (zeP_ (zm_ (zd_ (zO_ (ns:=Qn0) (by decide +kernel) (n:=7) rfl (at_s (at_s (at_s (at_s (at_s (at_s (at_s at_0))))))) (zc_ 0 rfl)))) (zfv_ zbK_ zbK_ (zj_ 1) (zO_ (ns:=Qn0) (by decide +kernel) (n:=7) rfl (at_s (at_s (at_s (at_s (at_s (at_s (at_s at_0))))))) (zc_ 0 rfl)) (zj_ 12))) (zd_ (z7_ Qm16)))) fun kI=>(at_ [(Zf (Qq0 K) c)] (zcf_ (zar_ (zz_ (ze_ (zm_ (zd_ (zO_ (ns:=Qn0) (by decide +kernel) (n:=8) rfl (at_s (at_s (at_s (at_s (at_s (at_s (at_s (at_s at_0)))))))) (zc_ 0 rfl)))) (zd_ (z7_ Qm9)))) fun nX=>(at_ [(Zf (Qq0 K) c)] (zp_ (s:=()) (.dead .nil)))))))))))⟩
def zaR_ (ae:Qq2):Mo Unit:=fnU (zah_.1 ae)
def zbB_ (K:Fgg):Sp:=Ct K (csLast (Qq0 K)) (fun c=>zaR_ c) (owF tyNon)
def zdF_ (K:Fgg):TS:=(tSeq (tAsg (tOp mAdd (tOp mAdd (tComp ["pick"] [] (iAny K (mFld (gA K "Asking") (mVar 0) "picks")) (gName 0) tTrue (tOp (mIx K) (mVar 0) (tC (.int 0)))) (tSl (mSl K) (tCall (zak_ K) [] E0 (tCons (mVar 0) tNil)) tNoPart (mPart (tC (.int 1))))) (mFld (gA K "Asking") (mVar 0) "order")) (gName 2)) (tSeq (tFor (iEnumL K (tCons (mFld (gA K "Asking") (mVar 0) "works") tNil)) (gTupM K 2 (gConsM (gName 3) (gConsM (gName 4) gNilM))) (tSeq (mIfS (mTest (tOp (mNeA K) (mVar 3) (mVar 1))) (tDrop (tBM K "list" rAppend (mVar 2) (tCons (tOp (mIx K) (mVar 4) (tC (.int 0))) tNil))) tNext) (mIfS (mTest (tOp mLe (mVar 3) (mVar 1))) (tDrop (tBM K "list" rExtend (mVar 2) (tCons (tLst (tCons (tOp (mIx K) (mVar 4) (tC (.int 1))) (tCons (tOp (mIx K) (mVar 4) (tC (.int 3))) tNil))) tNil))) tNext))) (tRet (mVar 2))))
def za3_:WC (Qq2×Int) (List (Int×Int)) (fun K _=>zdF_ K) (fun K c=>[(Zf (Qq0 K) c.1),sI c.2,Zd,Zd,Zd]) (fun K=>(owL Qq1)):=⟨fun c=>_,fun K c E =>
 (zbC_ (i:=2) rfl (zag_ Qi0) (zgy_ zds_ (EvO.fr (O:=(owL Qq1)) (zgy_ zds_ (EvO.fr (O:=(owL Qq1)) (zaQ_ (ei_l (zO_ (ns:=Qn0) (by decide +kernel) (n:=1) rfl (at_s at_0) (zc_ 0 rfl))) (zE_ 0) (fun _=>dead1) (fun bG=>zaM_) (fun bG=>(zP_ (i:=0) at_0 (zc_ 0 rfl))))) (EvO.fr (znn_ (EvO.fr (z9_ (zd_ (zc_ 0 rfl)))) zlY_ (zj5_ (zj_ 1)))))) (zO_ (ns:=Qn0) (by decide +kernel) (n:=3) rfl (at_s (at_s (at_s at_0))) (zc_ 0 rfl))) fun dw=>(at_ [(Zf (Qq0 K) c.1),sI c.2,(Zo (owL Qq1) dw),Zd,Zd] (zbp_ (LS:=(fun dz:(List (Int×Int))=>[(Zf (Qq0 K) c.1),sI c.2,(Zo (owL Qq1) dz),Zd,Zd])) (zbI_ (L':=[(Zf (Qq0 K) c.1),sI c.2,(Zo (owL Qq1) dw),Zd,Zd]) (S4 (.same .nil)) (zgH_ (LS:=(fun dz:(List (Int×Int))=>[(Zf (Qq0 K) c.1),sI c.2,(Zo (owL Qq1) dz),Zd,Zd])) (s0:=dw) (zj3_ (zd_ (zO_ (ns:=Qn0) (by decide +kernel) (n:=4) rfl (at_s (at_s (at_s (at_s at_0)))) (zc_ 0 rfl)))) (zh1_ (zi_ zo_) (zdA_ 3 (zeW_ (zE_ 4)))) fun dz cv=>at_ [(Zf (Qq0 K) c.1),sI c.2,(Zo (owL Qq1) dz),sI cv.1,(Zf Qq4 cv.2)] (zbp_ (LS:=(fun fS:(List (Int×Int))=>[(Zf (Qq0 K) c.1),sI c.2,(Zo (owL Qq1) fS),sI cv.1,(Zf Qq4 cv.2)])) (s_if (z1_ (zr_ (ziS_ zaA_) (zc_ 3 rfl) (zc_ 1 rfl))) (zcf_ (zjn_ (i:=2) rfl Qi0 (zP_ (i:=0) at_0 (zc_ 4 rfl)) fun fM=>(at_ [(Zf (Qq0 K) c.1),sI c.2,(Zo (owL Qq1) (dz++[fM])),sI cv.1,(Zf Qq4 cv.2)] (zp_ (s:=(dz++[fM])) (S4 (.same .nil)))))) (zp_ (s:=dz) (S4 (.same .nil)))) fun fS=>(at_ [(Zf (Qq0 K) c.1),sI c.2,(Zo (owL Qq1) fS),sI cv.1,(Zf Qq4 cv.2)] (zcf_ (zbp_ (LS:=(fun iI:(List (Int×Int))=>[(Zf (Qq0 K) c.1),sI c.2,(Zo (owL Qq1) iI),sI cv.1,(Zf Qq4 cv.2)])) (s_if (z1_ (zr_ zbK_ (zc_ 3 rfl) (zc_ 1 rfl))) (zcf_ (zgJ_ (i:=2) rfl Qi0 (EvO.fr (zbG_ (zi_ zo_) (zn_ zY_) (ze_ (zP_ (i:=1) (at_s at_0) (zc_ 4 rfl)) (zd_ (zP_ (i:=3) (at_s (at_s (at_s zbt_))) (zc_ 4 rfl)))))) fun kI=>(at_ [(Zf (Qq0 K) c.1),sI c.2,(Zo (owL Qq1) (fS++kI)),sI cv.1,(Zf Qq4 cv.2)] (zp_ (s:=(fS++kI)) (S4 (.same .nil)))))) (zp_ (s:=fS) (S4 (.same .nil)))) fun iI=>(at_ [(Zf (Qq0 K) c.1),sI c.2,(Zo (owL Qq1) iI),sI cv.1,(Zf Qq4 cv.2)] (zp_ (s:=iI) (.same (.same (.same (.dead (.dead .nil))))))))))))) fun dz=>(at_ [(Zf (Qq0 K) c.1),sI c.2,(Zo (owL Qq1) dz),Zd,Zd] (zki_ (i:=2) rfl)))))⟩
def zaX_ (ae:Qq2)(dN:Int):Mo (List (Int×Int)):=fnO (za3_.1 (ae,dN))
def zc5_ (K:Fgg):Sp:=Ct K (csCons (Qq0 K) (csLast tyInt)) (fun c=>zaX_ c.1 c.2) (owL Qq1)
def zeT_ (K:Fgg):TS:=(tRet (mOrV (tOp mLt (tOp (mIx K) (mVar 0) (tC (.int 1))) (tOp (mIx K) (mVar 1) (tC (.int 0)))) (tOp mLt (tOp (mIx K) (mVar 1) (tC (.int 1))) (tOp (mIx K) (mVar 0) (tC (.int 0))))))
def zb9_:WC ((Int×Int)×(Int×Int)) Bool (fun K _=>zeT_ K) (fun K c=>[(Zf Qq1 c.1),(Zf Qq1 c.2)]) (fun K=>(owF tyBl)):=⟨fun c=>_,fun K c E =>
 (zbD_ (zab_ zbL_) (EvF.ow (zqK_ (zr_ zme_ (zP_ (i:=1) (at_s zbt_) (zc_ 0 rfl)) (zP_ (i:=0) at_0 (zc_ 1 rfl))) (zr_ zme_ (zP_ (i:=1) (at_s zbt_) (zc_ 1 rfl)) (zP_ (i:=0) at_0 (zc_ 0 rfl))))))⟩
def zb7_ (gs:(Int×Int))(dP:(Int×Int)):Mo Bool:=fnO (zb9_.1 (gs,dP))
def zd6_ (K:Fgg):Sp:=Ct K (csCons Qq1 (csLast Qq1)) (fun c=>zb7_ c.1 c.2) (owF tyBl)
def zgt_ (K:Fgg)(E:XK):TS:=(tFor (iEnumL K (tCons (mFld (gA K "Asking") (mVar 0) "works") tNil)) (gTupM K 2 (gConsM (gName 1) (gConsM (gName 2) gNilM))) (tSeq (tDrop (tCall (zt_ K) [] E (tCons (tOp (mIn K false) (tOp (mIx K) (mVar 2) (tC (.int 2))) (tC (.ref (gA K "WORK_WORDS")))) (tCons (tC (tx Qm4)) tNil)))) (tFor (iAny K (tCall (zc5_ K) [] E0 (tCons (mVar 0) (tCons (mVar 1) tNil)))) (gName 3) (tDrop (tCall (zt_ K) [] E (tCons (tCall (zd6_ K) [] E0 (tCons (tOp (mIx K) (mVar 2) (tC (.int 0))) (tCons (mVar 3) tNil))) (tCons (tC (tx Qm1)) tNil)))))))
def zbF_ (ae:Qq2):Mo (Out Unit Unit Unit):=
 (thenO (S:=Unit) (Mb (Mb (Mb (Mq ae) fun i_=>Mq i_.2.2.2.2.1) fun nC=>Mq (enumL nC)) fun mi=>forO (fun (_:Unit) y4=>(Mb (Mb (Mb (Mb (Mb (Mq y4.2) fun w5=>Mq w5.2.2.1) fun w6=>Mq (([[112,108,117,115],[108,101,115,115],[116,105,109,101,115]]:Jy).any fun y=>decide (y=w6))) fun v7=>Mb (Mq (Qm4:Jx)) fun w8=>Mq (v7,w8)) fun y9=>zb3_ y9.1 y9.2) fun nM=>(thenO (S:=Unit) (Mb (Mb (Mb (Mq ae) fun nL=>Mb (Mq y4.1) fun nF=>Mq (nL,nF)) fun lR=>Mo.noex (zaX_ lR.1 lR.2)) fun mj=>forO (fun (_:Unit) iz=>(Mb (Mb (Mb (Mb (Mb (Mb (Mq y4.2) fun lZ=>Mq lZ.1) fun lY=>Mb (Mq iz) fun nE=>Mq (lY,nE)) fun lQ=>Mo.noex (zb7_ lQ.1 lQ.2)) fun lX=>Mb (Mq (Qm1:Jx)) fun nD=>Mq (lX,nD)) fun lP=>zb3_ lP.1 lP.2) fun bJ=>(Mq (.nx ())))) mj ()) fun _=>(Mq (.nx ()))))) mi ()) fun _=>(Mq (.nx ())))
def zbH_ (ae:Qq2):Mo Unit:=fnU (zbF_ ae)
def zc0_ (K:Fgg):Sp:=Ct K (csLast (Qq0 K)) (fun c=>zbH_ c) (owF tyNon)
def zgF_ (K:Fgg):TS:=(tRet (mAndV (tCall (zaI_ K) [] E0 (tCons (mVar 0) tNil)) (mAndV (tCall (zaI_ K) [] E0 (tCons (mVar 1) tNil)) (mChain3 mLe mLe mLe (tC (.int 1)) (mVar 0) (mVar 1) (tC (.int 36))))))
def zcT_:WC (Int×Int) Bool (fun K _=>zgF_ K) (fun K c=>[sI c.1,sI c.2]) (fun K=>(owF tyBl)):=⟨fun c=>_,fun K c E =>
 (zbD_ (zab_ zbL_) (EvF.ow (zeP_ (zm_ (zd_ (zc_ 0 rfl))) (zeP_ (zm_ (zd_ (zc_ 1 rfl))) (zk5_ zbK_ zbK_ zbK_ (zj_ 1) (zc_ 0 rfl) (zc_ 1 rfl) (zj_ 36))))))⟩
def zeB_ (dU:Int)(eU:Int):Mo Bool:=fnO (zcT_.1 (dU,eU))
def ze0_ (K:Fgg):Sp:=Ct K (csCons tyInt (csLast tyInt)) (fun c=>zeB_ c.1 c.2) (owF tyBl)
def zcO_ (K:Fgg)(E:XK):TS:=(tSeq (tDrop (tCall (zbW_ K) [] E (tCons (mVar 0) tNil))) (tSeq (tDrop (tCall (zaP_ K) [] E (tCons (mVar 0) tNil))) (tSeq (tDrop (tCall (zc4_ K) [] E (tCons (mVar 0) tNil))) (tSeq (tFor (iAny K (tCall (zdG_ K) [] E0 (tCons (mVar 0) tNil))) (gName 1) (tDrop (tCall (zt_ K) [] E (tCons (tCall (ze0_ K) [] E0 (tCons (tOp (mIx K) (mVar 1) (tC (.int 0))) (tCons (tOp (mIx K) (mVar 1) (tC (.int 1))) tNil))) (tCons (tC (tx Qm2)) tNil))))) (tSeq (tDrop (tCall (zc2_ K) [] E (tCons (mVar 0) tNil))) (tSeq (tDrop (tCall (zav_ K) [] E (tCons (mVar 0) tNil))) (tSeq (tDrop (tCall (zbB_ K) [] E (tCons (mVar 0) tNil))) (tDrop (tCall (zc0_ K) [] E (tCons (mVar 0) tNil))))))))))
def zaD_:WN Qq2 (fun K E=>zcO_ K E) (fun K c=>[(Zf (Qq0 K) c),Zd]) [Zd,Zd]:=⟨fun c=>_,fun K c E =>
 (zar_ (zz_ (zd_ (zc_ 0 rfl))) fun i_=>(at_ [(Zf (Qq0 K) c),Zd] (zar_ (zz_ (zd_ (zc_ 0 rfl))) fun w4=>(at_ [(Zf (Qq0 K) c),Zd] (zar_ (zz_ (zd_ (zc_ 0 rfl))) fun w6=>(at_ [(Zf (Qq0 K) c),Zd] (zbp_ (LS:=(fun _:Unit=>[(Zf (Qq0 K) c),Zd])) (zbI_ (L':=[(Zf (Qq0 K) c),Zd]) (.same (.same .nil)) (zgH_ (LS:=(fun _:Unit=>[(Zf (Qq0 K) c),Zd])) (s0:=()) (ei_l (EvO.fr (z9_ (zd_ (zc_ 0 rfl))))) (zE_ 1) fun _ kO=>at_ [(Zf (Qq0 K) c),(Zf Qq1 kO)] (zcf_ (zar_ (zz_ (ze_ (zm_ (ze_ (zP_ (i:=0) at_0 (zc_ 1 rfl)) (zd_ (zP_ (i:=1) (at_s zbt_) (zc_ 1 rfl))))) (zd_ (z7_ Qm2)))) fun oa=>(at_ [(Zf (Qq0 K) c),(Zf Qq1 kO)] (zp_ (s:=()) (.same (.dead .nil)))))))) fun _=>(at_ [(Zf (Qq0 K) c),Zd] (zar_ (zz_ (zd_ (zc_ 0 rfl))) fun n6=>(at_ [(Zf (Qq0 K) c),Zd] (zar_ (zz_ (zd_ (zc_ 0 rfl))) fun bJ=>(at_ [(Zf (Qq0 K) c),Zd] (zar_ (zz_ (zd_ (zc_ 0 rfl))) fun fM=>(at_ [(Zf (Qq0 K) c),Zd] (zcf_ (zar_ (zz_ (zd_ (zc_ 0 rfl))) fun nZ=>(at_ [(Zf (Qq0 K) c),Zd] (zp_ (s:=()) (.dead (.same .nil))))))))))))))))))))⟩
def zaE_ (ae:Qq2):Mo Unit:=fnU (zaD_.1 ae)
def zci_ (K:Fgg):Sp:=Ct K (csLast (Qq0 K)) (fun c=>zaE_ c) (owF tyNon)
def zbx_ (K:Fgg):TS:=(tSeq (mSFld (gA K "Asking") (mVar 0) (mVar 1) "deck") (tSeq (mSFld (gA K "Asking") (mVar 0) (tCB (mList K) (tCons (mVar 2) tNil)) "picks") (tSeq (mSFld (gA K "Asking") (mVar 0) (mVar 3) "middle") (tSeq (mSFld (gA K "Asking") (mVar 0) (tCB (mList K) (tCons (mVar 4) tNil)) "order") (tSeq (mSFld (gA K "Asking") (mVar 0) (tCall (zbZ_ K) [] E0 (tCons (mVar 5) tNil)) "works") (tSeq (mSFld (gA K "Asking") (mVar 0) (mVar 6) "breaks") (tSeq (mSFld (gA K "Asking") (mVar 0) (tCall (zaN_ K) [] E0 (tCons (mVar 7) tNil)) "sums") (tSeq (mSFld (gA K "Asking") (mVar 0) (mVar 8) "figures") (tSeq (mSFld (gA K "Asking") (mVar 0) (tCall (zaN_ K) [] E0 (tCons (mVar 9) tNil)) "board") (tDrop (tCall (zci_ K) [] E0 (tCons (mVar 0) tNil))))))))))))
def zT_:WU Unit Qq2 (Jx×((List ((Int×Int)×Jx))×(Qq8×((List (Int×Int))×((Option Qq7)×(Int×((Option (List (Int×Int)))×(Int×(Option (List (Int×Int))))))))))) (fun K _=>zbx_ K) (fun K w_ x c=>[(Zo (owAt w_ (owI (gA K "Asking") [] psNil)) x),sS c.1,(Zf (tyL Qq5) c.2.1),(Zf Qq3 c.2.2.1),(Zf (tyL Qq1) c.2.2.2.1),(Zf (tyOpt (tyL Qq4)) c.2.2.2.2.1),sI c.2.2.2.2.2.1,(Zf (tyOpt (tyL Qq1)) c.2.2.2.2.2.2.1),sI c.2.2.2.2.2.2.2.1,(Zf (tyOpt (tyL Qq1)) c.2.2.2.2.2.2.2.2)]) [Zd,Zd,Zd,Zd,Zd,Zd,Zd,Zd,Zd] (fun K=>(Qq6 K)):=⟨fun x c=>_,fun K w_ x c E =>
 (zhw_ (P:=psNil) (P':=(psO (owF tyStr) psNil)) (ad:=fun c z=>(z,())) (ns:=[]) (i:=0) rfl (by decide +kernel) (by decide) zfI_ z8_ (zc_ 1 rfl) fun eI=>(at_ [(Zo (owAt w_ (owI (gA K "Asking") ["deck"] (psO (owF tyStr) psNil))) eI),sS c.1,(Zf (tyL Qq5) c.2.1),(Zf Qq3 c.2.2.1),(Zf (tyL Qq1) c.2.2.2.1),(Zf (tyOpt (tyL Qq4)) c.2.2.2.2.1),sI c.2.2.2.2.2.1,(Zf (tyOpt (tyL Qq1)) c.2.2.2.2.2.2.1),sI c.2.2.2.2.2.2.2.1,(Zf (tyOpt (tyL Qq1)) c.2.2.2.2.2.2.2.2)] (zgB_ (P:=(psO (owF tyStr) psNil)) (P':=(psO (owF tyStr) (psO (owL Qq5) psNil))) (ad:=fun c z=>(c.1,(z,()))) (ns:=["deck"]) (O1:=(owL Qq5)) (i:=0) rfl (by decide +kernel) (by decide) (z2_ zfI_) (zag_ (zdr_ (z0_ Qi0 (za2_ z8_)))) (zfF_ zgE_ (zd_ (zc_ 2 rfl))) fun y4=>(at_ [(Zo (owAt w_ (owI (gA K "Asking") ["deck", "picks"] (psO (owF tyStr) (psO (owL Qq5) psNil)))) y4),sS c.1,(Zf (tyL Qq5) c.2.1),(Zf Qq3 c.2.2.1),(Zf (tyL Qq1) c.2.2.2.1),(Zf (tyOpt (tyL Qq4)) c.2.2.2.2.1),sI c.2.2.2.2.2.1,(Zf (tyOpt (tyL Qq1)) c.2.2.2.2.2.2.1),sI c.2.2.2.2.2.2.2.1,(Zf (tyOpt (tyL Qq1)) c.2.2.2.2.2.2.2.2)] (zhw_ (P:=(psO (owF tyStr) (psO (owL Qq5) psNil))) (P':=(psO (owF tyStr) (psO (owL Qq5) (psO (owF Qq3) psNil)))) (ad:=fun c z=>(c.1,(c.2.1,(z,())))) (ns:=["deck", "picks"]) (i:=0) rfl (by decide +kernel) (by decide) (z2_ (z2_ zfI_)) Qi1 (zc_ 3 rfl) fun l_=>(at_ [(Zo (owAt w_ (owI (gA K "Asking") ["deck", "picks", "middle"] (psO (owF tyStr) (psO (owL Qq5) (psO (owF Qq3) psNil))))) l_),sS c.1,(Zf (tyL Qq5) c.2.1),(Zf Qq3 c.2.2.1),(Zf (tyL Qq1) c.2.2.2.1),(Zf (tyOpt (tyL Qq4)) c.2.2.2.2.1),sI c.2.2.2.2.2.1,(Zf (tyOpt (tyL Qq1)) c.2.2.2.2.2.2.1),sI c.2.2.2.2.2.2.2.1,(Zf (tyOpt (tyL Qq1)) c.2.2.2.2.2.2.2.2)] (zgB_ (P:=(psO (owF tyStr) (psO (owL Qq5) (psO (owF Qq3) psNil)))) (P':=(psO (owF tyStr) (psO (owL Qq5) (psO (owF Qq3) (psO (owL Qq1) psNil))))) (ad:=fun c z=>(c.1,(c.2.1,(c.2.2.1,(z,()))))) (ns:=["deck", "picks", "middle"]) (O1:=(owL Qq1)) (i:=0) rfl (by decide +kernel) (by decide) (z2_ (z2_ (z2_ zfI_))) (zag_ Qi0) (zfF_ zgE_ (zd_ (zc_ 4 rfl))) fun gc=>(at_ [(Zo (owAt w_ (owI (gA K "Asking") ["deck", "picks", "middle", "order"] (psO (owF tyStr) (psO (owL Qq5) (psO (owF Qq3) (psO (owL Qq1) psNil)))))) gc),sS c.1,(Zf (tyL Qq5) c.2.1),(Zf Qq3 c.2.2.1),(Zf (tyL Qq1) c.2.2.2.1),(Zf (tyOpt (tyL Qq4)) c.2.2.2.2.1),sI c.2.2.2.2.2.1,(Zf (tyOpt (tyL Qq1)) c.2.2.2.2.2.2.1),sI c.2.2.2.2.2.2.2.1,(Zf (tyOpt (tyL Qq1)) c.2.2.2.2.2.2.2.2)] (zgB_ (P:=(psO (owF tyStr) (psO (owL Qq5) (psO (owF Qq3) (psO (owL Qq1) psNil))))) (P':=(psO (owF tyStr) (psO (owL Qq5) (psO (owF Qq3) (psO (owL Qq1) (psO (owL Qq4) psNil)))))) (ad:=fun c z=>(c.1,(c.2.1,(c.2.2.1,(c.2.2.2.1,(z,())))))) (ns:=["deck", "picks", "middle", "order"]) (O1:=(owL Qq4)) (i:=0) rfl (by decide +kernel) (by decide) (z2_ (z2_ (z2_ (z2_ zfI_)))) (zag_ Qi6) (z9_ (zd_ (zc_ 5 rfl))) fun v10=>(at_ [(Zo (owAt w_ (owI (gA K "Asking") ["deck", "picks", "middle", "order", "works"] (psO (owF tyStr) (psO (owL Qq5) (psO (owF Qq3) (psO (owL Qq1) (psO (owL Qq4) psNil))))))) v10),sS c.1,(Zf (tyL Qq5) c.2.1),(Zf Qq3 c.2.2.1),(Zf (tyL Qq1) c.2.2.2.1),(Zf (tyOpt (tyL Qq4)) c.2.2.2.2.1),sI c.2.2.2.2.2.1,(Zf (tyOpt (tyL Qq1)) c.2.2.2.2.2.2.1),sI c.2.2.2.2.2.2.2.1,(Zf (tyOpt (tyL Qq1)) c.2.2.2.2.2.2.2.2)] (zhw_ (P:=(psO (owF tyStr) (psO (owL Qq5) (psO (owF Qq3) (psO (owL Qq1) (psO (owL Qq4) psNil)))))) (P':=(psO (owF tyStr) (psO (owL Qq5) (psO (owF Qq3) (psO (owL Qq1) (psO (owL Qq4) (psO (owF tyInt) psNil))))))) (ad:=fun c z=>(c.1,(c.2.1,(c.2.2.1,(c.2.2.2.1,(c.2.2.2.2.1,(z,()))))))) (ns:=["deck", "picks", "middle", "order", "works"]) (i:=0) rfl (by decide +kernel) (by decide) (z2_ (z2_ (z2_ (z2_ (z2_ zfI_))))) zW_ (zc_ 6 rfl) fun mn=>(at_ [(Zo (owAt w_ (owI (gA K "Asking") ["deck", "picks", "middle", "order", "works", "breaks"] (psO (owF tyStr) (psO (owL Qq5) (psO (owF Qq3) (psO (owL Qq1) (psO (owL Qq4) (psO (owF tyInt) psNil)))))))) mn),sS c.1,(Zf (tyL Qq5) c.2.1),(Zf Qq3 c.2.2.1),(Zf (tyL Qq1) c.2.2.2.1),(Zf (tyOpt (tyL Qq4)) c.2.2.2.2.1),sI c.2.2.2.2.2.1,(Zf (tyOpt (tyL Qq1)) c.2.2.2.2.2.2.1),sI c.2.2.2.2.2.2.2.1,(Zf (tyOpt (tyL Qq1)) c.2.2.2.2.2.2.2.2)] (zgB_ (P:=(psO (owF tyStr) (psO (owL Qq5) (psO (owF Qq3) (psO (owL Qq1) (psO (owL Qq4) (psO (owF tyInt) psNil))))))) (P':=(psO (owF tyStr) (psO (owL Qq5) (psO (owF Qq3) (psO (owL Qq1) (psO (owL Qq4) (psO (owF tyInt) (psO (owL Qq1) psNil)))))))) (ad:=fun c z=>(c.1,(c.2.1,(c.2.2.1,(c.2.2.2.1,(c.2.2.2.2.1,(c.2.2.2.2.2.1,(z,())))))))) (ns:=["deck", "picks", "middle", "order", "works", "breaks"]) (O1:=(owL Qq1)) (i:=0) rfl (by decide +kernel) (by decide) (z2_ (z2_ (z2_ (z2_ (z2_ (z2_ zfI_)))))) (zag_ Qi0) (z9_ (zd_ (zc_ 7 rfl))) fun je=>(at_ [(Zo (owAt w_ (owI (gA K "Asking") ["deck", "picks", "middle", "order", "works", "breaks", "sums"] (psO (owF tyStr) (psO (owL Qq5) (psO (owF Qq3) (psO (owL Qq1) (psO (owL Qq4) (psO (owF tyInt) (psO (owL Qq1) psNil))))))))) je),sS c.1,(Zf (tyL Qq5) c.2.1),(Zf Qq3 c.2.2.1),(Zf (tyL Qq1) c.2.2.2.1),(Zf (tyOpt (tyL Qq4)) c.2.2.2.2.1),sI c.2.2.2.2.2.1,(Zf (tyOpt (tyL Qq1)) c.2.2.2.2.2.2.1),sI c.2.2.2.2.2.2.2.1,(Zf (tyOpt (tyL Qq1)) c.2.2.2.2.2.2.2.2)] (zhw_ (P:=(psO (owF tyStr) (psO (owL Qq5) (psO (owF Qq3) (psO (owL Qq1) (psO (owL Qq4) (psO (owF tyInt) (psO (owL Qq1) psNil)))))))) (P':=(psO (owF tyStr) (psO (owL Qq5) (psO (owF Qq3) (psO (owL Qq1) (psO (owL Qq4) (psO (owF tyInt) (psO (owL Qq1) (psO (owF tyInt) psNil))))))))) (ad:=fun c z=>(c.1,(c.2.1,(c.2.2.1,(c.2.2.2.1,(c.2.2.2.2.1,(c.2.2.2.2.2.1,(c.2.2.2.2.2.2.1,(z,()))))))))) (ns:=["deck", "picks", "middle", "order", "works", "breaks", "sums"]) (i:=0) rfl (by decide +kernel) (by decide) (z2_ (z2_ (z2_ (z2_ (z2_ (z2_ (z2_ zfI_))))))) zW_ (zc_ 8 rfl) fun ml=>(at_ [(Zo (owAt w_ (owI (gA K "Asking") ["deck", "picks", "middle", "order", "works", "breaks", "sums", "figures"] (psO (owF tyStr) (psO (owL Qq5) (psO (owF Qq3) (psO (owL Qq1) (psO (owL Qq4) (psO (owF tyInt) (psO (owL Qq1) (psO (owF tyInt) psNil)))))))))) ml),sS c.1,(Zf (tyL Qq5) c.2.1),(Zf Qq3 c.2.2.1),(Zf (tyL Qq1) c.2.2.2.1),(Zf (tyOpt (tyL Qq4)) c.2.2.2.2.1),sI c.2.2.2.2.2.1,(Zf (tyOpt (tyL Qq1)) c.2.2.2.2.2.2.1),sI c.2.2.2.2.2.2.2.1,(Zf (tyOpt (tyL Qq1)) c.2.2.2.2.2.2.2.2)] (zgB_ (P:=(psO (owF tyStr) (psO (owL Qq5) (psO (owF Qq3) (psO (owL Qq1) (psO (owL Qq4) (psO (owF tyInt) (psO (owL Qq1) (psO (owF tyInt) psNil))))))))) (P':=(psO (owF tyStr) (psO (owL Qq5) (psO (owF Qq3) (psO (owL Qq1) (psO (owL Qq4) (psO (owF tyInt) (psO (owL Qq1) (psO (owF tyInt) (psO (owL Qq1) psNil)))))))))) (ad:=fun c z=>(c.1,(c.2.1,(c.2.2.1,(c.2.2.2.1,(c.2.2.2.2.1,(c.2.2.2.2.2.1,(c.2.2.2.2.2.2.1,(c.2.2.2.2.2.2.2.1,(z,())))))))))) (ns:=["deck", "picks", "middle", "order", "works", "breaks", "sums", "figures"]) (O1:=(owL Qq1)) (i:=0) rfl (by decide +kernel) (by decide) (z2_ (z2_ (z2_ (z2_ (z2_ (z2_ (z2_ (z2_ zfI_)))))))) (zag_ Qi0) (z9_ (zd_ (zc_ 9 rfl))) fun el=>(at_ [(Zo (owAt w_ (Qq6 K)) el),sS c.1,(Zf (tyL Qq5) c.2.1),(Zf Qq3 c.2.2.1),(Zf (tyL Qq1) c.2.2.2.1),(Zf (tyOpt (tyL Qq4)) c.2.2.2.2.1),sI c.2.2.2.2.2.1,(Zf (tyOpt (tyL Qq1)) c.2.2.2.2.2.2.1),sI c.2.2.2.2.2.2.2.1,(Zf (tyOpt (tyL Qq1)) c.2.2.2.2.2.2.2.2)] (zcf_ (zar_ (zm_ (zd_ (zmW_ (P:=(psO (owF tyStr) (psO (owL Qq5) (psO (owF Qq3) (psO (owL Qq1) (psO (owL Qq4) (psO (owF tyInt) (psO (owL Qq1) (psO (owF tyInt) (psO (owL Qq1) psNil)))))))))) 0 rfl))) fun lX=>(at_ [(Zo (owAt w_ (Qq6 K)) el),sS c.1,(Zf (tyL Qq5) c.2.1),(Zf Qq3 c.2.2.1),(Zf (tyL Qq1) c.2.2.2.1),(Zf (tyOpt (tyL Qq4)) c.2.2.2.2.1),sI c.2.2.2.2.2.1,(Zf (tyOpt (tyL Qq1)) c.2.2.2.2.2.2.1),sI c.2.2.2.2.2.2.2.1,(Zf (tyOpt (tyL Qq1)) c.2.2.2.2.2.2.2.2)] (zp_ (s:=el) (.same (.dead (.dead (.dead (.dead (.dead (.dead (.dead (.dead (.dead .nil))))))))))))))))))))))))))))))))⟩
def zA_ (eS:Unit)(eW:Jx)(dO:(List ((Int×Int)×Jx)))(cX:Qq8)(dQ:(List (Int×Int)))(dJ:(Option Qq7))(cY:Int)(eR:(Option (List (Int×Int))))(cH:Int)(dW:(Option (List (Int×Int)))):Mo (Unit×Qq2):=fnMU (zT_.1 eS (eW,dO,cX,dQ,dJ,cY,eR,cH,dW))
def zM_ (K:Fgg):Sp:=CtM K (owI (gA K "Asking") [] psNil) (Qq6 K) (csCons tyStr (csCons (tyL Qq5) (csCons Qq3 (csCons (tyL Qq1) (csCons (tyOpt (tyL Qq4)) (csCons tyInt (csCons (tyOpt (tyL Qq1)) (csCons tyInt (csLast (tyOpt (tyL Qq1))))))))))) (fun x c=>zA_ x c.1 c.2.1 c.2.2.1 c.2.2.2.1 c.2.2.2.2.1 c.2.2.2.2.2.1 c.2.2.2.2.2.2.1 c.2.2.2.2.2.2.2.1 c.2.2.2.2.2.2.2.2) (owF tyNon)
def zdx_ (K:Fgg):TS:=(tSeq (mIfS (mTest (tOp mLt (mVar 1) (tCB (mLen K) (tCons (mVar 0) tNil)))) (tRet (tOp (mIx K) (mVar 0) (mVar 1))) tNext) (tRet (tC (.int 0))))
def zaY_:WC ((List Int)×Int) Int (fun K _=>zdx_ K) (fun K c=>[(Zf (tySc K) c.1),sI c.2]) (fun K=>(owF tyInt)):=⟨fun c=>_,fun K c E =>
 (zbp_ (LS:=(fun _:Unit=>[(Zf (tySc K) c.1),sI c.2])) (s_if (z1_ (zr_ zme_ (zc_ 1 rfl) (zeH_ zl1_ (zd_ (zc_ 0 rfl))))) (zbD_ (zab_ zW_) (EvF.ow (zr_ zpG_ (zc_ 0 rfl) (zc_ 1 rfl)))) (zp_ (s:=()) (.same (.same .nil)))) fun _=>(at_ [(Zf (tySc K) c.1),sI c.2] (zbD_ (zab_ zW_) (EvF.ow (zj_ 0)))))⟩
def zbX_ (au:(List Int))(jl:Int):Mo Int:=fnO (zaY_.1 (au,jl))
def zam_ (K:Fgg):Sp:=Ct K (csCons (tySc K) (csLast tyInt)) (fun c=>zbX_ c.1 c.2) (owF tyInt)
def zgf_ (K:Fgg):TS:=(tSeq (tAsg (tC (tx Qm0)) (gName 1)) (tRet (tBM K "str" (mJoin K) (tC (tx [])) (tCons (tComp ["_law_k"] [("_law_letters",1),("_law_cell",0)] (mRng1 (tCons (tOp mAdd (tC (.int 1)) (tOp mMod (mVar 0) (tC (.int 8)))) tNil)) (gName 0) tTrue (tOp (mIx K) (mVar 1) (tOp mMod (tOp mAdd (tOp mDivG (mVar 2) (tOp mAdd (mVar 0) (tC (.int 1)))) (tOp mMulX (mVar 0) (mVar 0))) (tC (.int 26))))) tNil))))
def zcS_:WC Int Jx (fun K _=>zgf_ K) (fun K c=>[sI c,Zd]) (fun K=>(owF tyStr)):=⟨fun c=>_,fun K c E =>
 (zdg_ (i:=1) rfl z8_ (z7_ Qm0) fun f_=>(at_ [sI c,sS f_] (zbD_ (zab_ z8_) (EvF.ow (zq0_ zlq_ (z7_ []) (zd_ (EvO.fr (O:=(owL tyStr)) (zaQ_ (zn6_ (zd_ (zr_ zR_ (zj_ 1) (zr_ zV_ (zc_ 0 rfl) (zj_ 8))))) (zE_ 0) (fun _=>dead1) (fun y7=>zaM_) (fun y7=>(zr_ zj8_ (zc_ 1 rfl) (zr_ zV_ (zr_ zR_ (zr_ z4_ (zc_ 2 rfl) (zr_ zR_ (zc_ 0 rfl) (zj_ 1))) (zr_ zdd_ (zc_ 0 rfl) (zc_ 0 rfl))) (zj_ 26))))))))))))⟩
def zep_ (aQ:Int):Mo Jx:=fnO (zcS_.1 aQ)
def zfe_ (K:Fgg):Sp:=Ct K (csLast tyInt) (fun c=>zep_ c) (owF tyStr)
def zgD_ (K:Fgg):TS:=(tSeq (tAsg (tOp mAdd (tC (.int 1)) (tOp mMod (mVar 0) (mVar 1))) (gName 3)) (tRet (tTup (tCons (mVar 3) (tCons (tCB (mTwo min) (tCons (mVar 1) (tCons (tOp mAdd (mVar 3) (tOp mMod (tOp mDivG (mVar 0) (tC (.int 24))) (mVar 2))) tNil))) tNil)))))
def zcZ_:WC (Int×(Int×Int)) (Int×Int) (fun K _=>zgD_ K) (fun K c=>[sI c.1,sI c.2.1,sI c.2.2,Zd]) (fun K=>(owF Qq1)):=⟨fun c=>_,fun K c E =>
 (zdg_ (i:=3) rfl zW_ (zr_ zR_ (zj_ 1) (zr_ zV_ (zc_ 0 rfl) (zc_ 1 rfl))) fun az=>(at_ [sI c.1,sI c.2.1,sI c.2.2,sI az] (zbD_ (zab_ Qi0) (EvF.ow (zcd_ (zi_ zo_) (ze_ (zc_ 3 rfl) (zd_ (zeH_ zoR_ (ze_ (zc_ 1 rfl) (zd_ (zr_ zR_ (zc_ 3 rfl) (zr_ zV_ (zr_ z4_ (zc_ 0 rfl) (zj_ 24)) (zc_ 2 rfl)))))))))))))⟩
def zez_ (aP:Int)(eV:Int)(eQ:Int):Mo (Int×Int):=fnO (zcZ_.1 (aP,eV,eQ))
def zap_ (K:Fgg):Sp:=Ct K (csCons tyInt (csCons tyInt (csLast tyInt))) (fun c=>zez_ c.1 c.2.1 c.2.2) (owF Qq1)
def zeQ_ (K:Fgg):TS:=(tSeq (tAsg (tC (tx Qm0)) (gName 2)) (tSeq (tAsg (tOp mMod (mVar 1) (tCB (mLen K) (tCons (mVar 0) tNil))) (gName 3)) (tSeq (tAsg (tOp (mIx K) (mVar 2) (tOp mMod (tOp mAdd (tOp mAdd (tBM K "str" mFind (mVar 2) (tCons (tOp (mIx K) (mVar 0) (mVar 3)) tNil)) (tC (.int 1))) (tOp mMod (tOp mDivG (mVar 1) (tC (.int 8))) (tC (.int 25)))) (tC (.int 26)))) (gName 4)) (tRet (tOp mAdd (tOp mAdd (tSl (mSl K) (mVar 0) tNoPart (mPart (mVar 3))) (mVar 4)) (tSl (mSl K) (mVar 0) (mPart (tOp mAdd (mVar 3) (tC (.int 1)))) tNoPart))))))
def zb4_:WC (Jx×Int) Jx (fun K _=>zeQ_ K) (fun K c=>[sS c.1,sI c.2,Zd,Zd,Zd]) (fun K=>(owF tyStr)):=⟨fun c=>_,fun K c E =>
 (zdg_ (i:=2) rfl z8_ (z7_ Qm0) fun f_=>(at_ [sS c.1,sI c.2,sS f_,Zd,Zd] (zdg_ (i:=3) rfl zW_ (zr_ zV_ (zc_ 1 rfl) (zeH_ ziw_ (zd_ (zc_ 0 rfl)))) fun kS=>(at_ [sS c.1,sI c.2,sS f_,sI kS,Zd] (zdg_ (i:=4) rfl z8_ (zr_ zj8_ (zc_ 2 rfl) (zr_ zV_ (zr_ zR_ (zr_ zR_ (zq0_ zpF_ (zc_ 2 rfl) (zd_ (zr_ zj8_ (zc_ 0 rfl) (zc_ 3 rfl)))) (zj_ 1)) (zr_ zV_ (zr_ z4_ (zc_ 1 rfl) (zj_ 8)) (zj_ 25))) (zj_ 26))) fun l6=>(at_ [sS c.1,sI c.2,sS f_,sI kS,sS l6] (zbD_ (zab_ z8_) (EvF.ow (zr_ zlo_ (zr_ zlo_ (zoK_ (zc_ 0 rfl) zlY_ (zj5_ (zc_ 3 rfl))) (zc_ 4 rfl)) (zoK_ (zc_ 0 rfl) (zj5_ (zr_ zR_ (zc_ 3 rfl) (zj_ 1))) zlY_))))))))))⟩
def zdj_ (ax:Jx)(aQ:Int):Mo Jx:=fnO (zb4_.1 (ax,aQ))
def zee_ (K:Fgg):Sp:=Ct K (csCons tyStr (csLast tyInt)) (fun c=>zdj_ c.1 c.2) (owF tyStr)
def zex_ (K:Fgg):TS:=(tSeq (tAsg (tCall (zap_ K) [] E0 (tCons (tOp mDivG (mVar 1) (tC (.int 4))) (tCons (tC (.int 24)) (tCons (tC (.int 6)) tNil)))) (gName 2)) (tSeq (tAsg (tOp mSub (tOp (mIx K) (mVar 2) (tC (.int 1))) (tOp (mIx K) (mVar 2) (tC (.int 0)))) (gName 3)) (tSeq (tAsg (tOp mAdd (tC (.int 1)) (tOp mMod (tOp mDivG (mVar 1) (tC (.int 9))) (tOp mSub (tC (.int 36)) (mVar 3)))) (gName 4)) (tSeq (mIfS (mTest (tOp (mEqA K) (tOp mMod (mVar 1) (tC (.int 4))) (tC (.int 1)))) (tRet (tTup (tCons (tC (tx [102,105,114,115,116])) (tCons (mVar 2) tNil)))) tNext) (tSeq (mIfS (mTest (tOp mGt (tOp mMod (mVar 1) (tC (.int 4))) (tC (.int 1)))) (tRet (tTup (tCons (tOp (mIx K) (tLst (tCons (tC (tx [109,97,116,101,115])) (tCons (tC (tx [119,105,116,104,111,117,116])) tNil))) (tOp mMod (mVar 1) (tC (.int 2)))) (tCons (tCall (zee_ K) [] E0 (tCons (mVar 0) (tCons (tOp mDivG (mVar 1) (tC (.int 4))) tNil))) (tCons (mVar 2) (tCons (tTup (tCons (mVar 4) (tCons (tOp mAdd (mVar 4) (mVar 3)) tNil))) tNil)))))) tNext) (tRet (tC .non)))))))
def zbo_:WC (Jx×Int) Qq8 (fun K _=>zex_ K) (fun K c=>[sS c.1,sI c.2,Zd,Zd,Zd]) (fun K=>(owF Qq3)):=⟨fun c=>_,fun K c E =>
 (zdg_ (i:=2) rfl Qi0 (zm_ (ze_ (zr_ z4_ (zc_ 1 rfl) (zj_ 4)) (ze_ (zj_ 24) (zd_ (zj_ 6))))) fun eL=>(at_ [sS c.1,sI c.2,(Zf Qq1 eL),Zd,Zd] (zdg_ (i:=3) rfl zW_ (zr_ zdZ_ (zP_ (i:=1) (at_s zbt_) (zc_ 2 rfl)) (zP_ (i:=0) at_0 (zc_ 2 rfl))) fun z9=>(at_ [sS c.1,sI c.2,(Zf Qq1 eL),sI z9,Zd] (zdg_ (i:=4) rfl zW_ (zr_ zR_ (zj_ 1) (zr_ zV_ (zr_ z4_ (zc_ 1 rfl) (zj_ 9)) (zr_ zdZ_ (zj_ 36) (zc_ 3 rfl)))) fun gj=>(at_ [sS c.1,sI c.2,(Zf Qq1 eL),sI z9,sI gj] (zbp_ (LS:=(fun _:Unit=>[sS c.1,sI c.2,(Zf Qq1 eL),sI z9,sI gj])) (s_if (z1_ (zr_ (zaB_ zaA_) (zr_ zV_ (zc_ 1 rfl) (zj_ 4)) (zj_ 1))) (zbD_ (zab_ Qi1) (EvF.ow (ziD_ (fun _ _ _=>nn_u (fun _ _ _=>zdN_) (fun _ _ _=>zdN_)) (zqf_ (T':=(tyTup (csCons tyStr (csCons tyStr (csCons Qq1 (csLast Qq1)))))) (zcd_ (zi_ zo_) (ze_ (z7_ [102,105,114,115,116]) (zd_ (zc_ 2 rfl)))))))) (zp_ (s:=()) (S4 (.same .nil)))) fun _=>(at_ [sS c.1,sI c.2,(Zf Qq1 eL),sI z9,sI gj] (zbp_ (LS:=(fun _:Unit=>[sS c.1,sI c.2,(Zf Qq1 eL),sI z9,sI gj])) (s_if (z1_ (zr_ zm0_ (zr_ zV_ (zc_ 1 rfl) (zj_ 4)) (zj_ 1))) (zbD_ (zab_ Qi1) (EvF.ow (ziD_ (fun _ _ _=>nn_u (fun _ _ _=>zdN_) (fun _ _ _=>zdN_)) (zq3_ (T:=(tyTup (csCons tyStr (csLast Qq1)))) (zcd_ (zi_ (zi_ (zi_ zo_))) (ze_ (zr_ zae_ (EvO.fr (zbG_ (zi_ zo_) (zn_ zY_) (ze_ (z7_ [109,97,116,101,115]) (zd_ (z7_ [119,105,116,104,111,117,116]))))) (zr_ zV_ (zc_ 1 rfl) (zj_ 2))) (ze_ (zm_ (ze_ (zc_ 0 rfl) (zd_ (zr_ z4_ (zc_ 1 rfl) (zj_ 4))))) (ze_ (zc_ 2 rfl) (zd_ (zcd_ (zi_ zo_) (ze_ (zc_ 4 rfl) (zd_ (zr_ zR_ (zc_ 4 rfl) (zc_ 3 rfl)))))))))))))) (zp_ (s:=()) (S4 (.same .nil)))) fun _=>(at_ [sS c.1,sI c.2,(Zf Qq1 eL),sI z9,sI gj] (zbD_ (zab_ Qi1) (EvF.ow ze1_))))))))))))⟩
def zcv_ (ax:Jx)(aQ:Int):Mo Qq8:=fnO (zbo_.1 (ax,aQ))
def zdK_ (K:Fgg):Sp:=Ct K (csCons tyStr (csLast tyInt)) (fun c=>zcv_ c.1 c.2) (owF Qq3)
def zgi_ (K:Fgg):TS:=(tSeq (tAsg (tTup (tCons (tOp mAdd (tC (.int 25)) (tOp mMulX (tC (.int 3)) (mVar 1))) (tCons (tOp mAdd (tOp mAdd (tC (.int 25)) (tOp mMulX (tC (.int 3)) (mVar 1))) (tOp mMod (mVar 0) (tC (.int 3)))) tNil))) (gName 2)) (tSeq (tAsg (tCall (zap_ K) [] E0 (tCons (tOp mDivG (mVar 0) (tC (.int 3))) (tCons (tC (.int 24)) (tCons (tC (.int 6)) tNil)))) (gName 3)) (tSeq (tAsg (tCall (zap_ K) [] E0 (tCons (tOp mDivG (mVar 0) (tC (.int 5))) (tCons (tC (.int 24)) (tCons (tC (.int 3)) tNil)))) (gName 4)) (tSeq (mIfS (mAnd (mTest (tOp mGt (mVar 1) (tC (.int 0)))) (mTest (tOp (mEqA K) (tOp mMod (tOp mDivG (mVar 0) (tC (.int 2))) (tC (.int 3))) (tC (.int 1))))) (tSeq (tAsg (tOp mAdd (tC (.int 25)) (tOp mMulX (tC (.int 3)) (tOp mMod (tOp mDivG (mVar 0) (tC (.int 7))) (mVar 1)))) (gName 5)) (tAsg (tTup (tCons (mVar 5) (tCons (tOp mAdd (mVar 5) (tOp mMod (tOp mDivG (mVar 0) (tC (.int 11))) (tC (.int 3)))) tNil))) (gName 3))) tNext) (tRet (tTup (tCons (mVar 2) (tCons (mVar 3) (tCons (tOp (mIx K) (tLst (tCons (tC (tx [112,108,117,115])) (tCons (tC (tx [108,101,115,115])) (tCons (tC (tx [116,105,109,101,115])) tNil)))) (tOp mMod (tOp mDivG (mVar 0) (tC (.int 4))) (tC (.int 3)))) (tCons (mVar 4) tNil))))))))))
def zcQ_:WC (Int×Int) ((Int×Int)×((Int×Int)×(Jx×(Int×Int)))) (fun K _=>zgi_ K) (fun K c=>[sI c.1,sI c.2,Zd,Zd,Zd,Zd]) (fun K=>(owF Qq4)):=⟨fun c=>_,fun K c E =>
 (zdg_ (i:=2) rfl Qi0 (zcd_ (zi_ zo_) (ze_ (zr_ zR_ (zj_ 25) (zr_ zdd_ (zj_ 3) (zc_ 1 rfl))) (zd_ (zr_ zR_ (zr_ zR_ (zj_ 25) (zr_ zdd_ (zj_ 3) (zc_ 1 rfl))) (zr_ zV_ (zc_ 0 rfl) (zj_ 3)))))) fun eO=>(at_ [sI c.1,sI c.2,(Zf Qq1 eO),Zd,Zd,Zd] (zdg_ (i:=3) rfl Qi0 (zm_ (ze_ (zr_ z4_ (zc_ 0 rfl) (zj_ 3)) (ze_ (zj_ 24) (zd_ (zj_ 6))))) fun iN=>(at_ [sI c.1,sI c.2,(Zf Qq1 eO),(Zf Qq1 iN),Zd,Zd] (zdg_ (i:=4) rfl Qi0 (zm_ (ze_ (zr_ z4_ (zc_ 0 rfl) (zj_ 5)) (ze_ (zj_ 24) (zd_ (zj_ 3))))) fun gx=>(at_ [sI c.1,sI c.2,(Zf Qq1 eO),(Zf Qq1 iN),(Zf Qq1 gx),Zd] (zbp_ (LS:=(fun jg:(Int×Int)=>[sI c.1,sI c.2,(Zf Qq1 eO),(Zf Qq1 jg),(Zf Qq1 gx),Zd])) (s_if (zpH_ (z1_ (zr_ zm0_ (zc_ 1 rfl) (zj_ 0))) (z1_ (zr_ (zaB_ zaA_) (zr_ zV_ (zr_ z4_ (zc_ 0 rfl) (zj_ 2)) (zj_ 3)) (zj_ 1)))) (zdg_ (i:=5) rfl zW_ (zr_ zR_ (zj_ 25) (zr_ zdd_ (zj_ 3) (zr_ zV_ (zr_ z4_ (zc_ 0 rfl) (zj_ 7)) (zc_ 1 rfl)))) fun lV=>(at_ [sI c.1,sI c.2,(Zf Qq1 eO),(Zf Qq1 iN),(Zf Qq1 gx),sI lV] (zcf_ (zdg_ (i:=3) rfl Qi0 (zcd_ (zi_ zo_) (ze_ (zc_ 5 rfl) (zd_ (zr_ zR_ (zc_ 5 rfl) (zr_ zV_ (zr_ z4_ (zc_ 0 rfl) (zj_ 11)) (zj_ 3)))))) fun k8=>(at_ [sI c.1,sI c.2,(Zf Qq1 eO),(Zf Qq1 k8),(Zf Qq1 gx),sI lV] (zp_ (s:=k8) (S4 (.same (.dead .nil))))))))) (zp_ (s:=iN) (S4 (.same (.same .nil))))) fun jg=>(at_ [sI c.1,sI c.2,(Zf Qq1 eO),(Zf Qq1 jg),(Zf Qq1 gx),Zd] (zbD_ (zab_ Qi6) (EvF.ow (zcd_ (zi_ (zi_ (zi_ zo_))) (ze_ (zc_ 2 rfl) (ze_ (zc_ 3 rfl) (ze_ (zr_ zae_ (EvO.fr (zbG_ (zi_ (zi_ zo_)) (zn_ (zn_ zY_)) (ze_ (z7_ [112,108,117,115]) (ze_ (z7_ [108,101,115,115]) (zd_ (z7_ [116,105,109,101,115])))))) (zr_ zV_ (zr_ z4_ (zc_ 0 rfl) (zj_ 4)) (zj_ 3))) (zd_ (zc_ 4 rfl))))))))))))))))⟩
def zeg_ (aP:Int)(jl:Int):Mo ((Int×Int)×((Int×Int)×(Jx×(Int×Int)))):=fnO (zcQ_.1 (aP,jl))
def zfh_ (K:Fgg):Sp:=Ct K (csCons tyInt (csLast tyInt)) (fun c=>zeg_ c.1 c.2) (owF Qq4)
def zeZ_ (K:Fgg):TS:=(tSeq (tAsg (tC (tx SG)) (gName 1)) (tSeq (tAsg (tCall (zam_ K) [] E0 (tCons (mVar 0) (tCons (tC (.int 3)) tNil))) (gName 2)) (tSeq (tAsg (tLst (tCons (tLst tNil) (tCons (tLst tNil) (tCons (tLst tNil) (tCons (tLst tNil) (tCons (tLst tNil) tNil)))))) (gName 3)) (tSeq (tFor (iAny K (tSl (mSl K) (mVar 0) (mPart (tC (.int 4))) (mPart (tC (.int 67))))) (gName 4) (tSeq (tAsg (tOp mMod (mVar 4) (tC (.int 5))) (gName 5)) (tSeq (tAsg (tOp mDivG (mVar 4) (tC (.int 5))) (gName 6)) (tSeq (mIfS (mTest (tOp mGe (tCB (mLen K) (tCons (tOp (mIx K) (mVar 3) (mVar 5)) tNil)) (tOp (mIx K) (tLst (tCons (tC (.int 8)) (tCons (tC (.int 6)) (tCons (tC (.int 4)) (tCons (tC (.int 4)) (tCons (tC (.int 36)) tNil)))))) (mVar 5)))) tCont tNext) (tSeq (mIfS (mTest (tOp (mEqA K) (mVar 5) (tC (.int 0)))) (tSeq (tAsg (tCall (zap_ K) [] E0 (tCons (mVar 6) (tCons (tC (.int 24)) (tCons (tC (.int 5)) tNil)))) (gName 7)) (tSeq (tAsg (tBM K "str" (mJoin K) (tC (tx [])) (tCons (tComp ["_law_at"] [("_law_signs",1),("_law_seed",2)] (mRng2 (tCons (tOp (mIx K) (mVar 7) (tC (.int 0))) (tCons (tOp mAdd (tOp (mIx K) (mVar 7) (tC (.int 1))) (tC (.int 1))) tNil))) (gName 0) tTrue (tOp (mIx K) (mVar 1) (tOp mMod (tOp mAdd (mVar 2) (tOp mMulX (tOp mMulX (mVar 0) (mVar 0)) (tOp mAdd (tC (.int 1)) (tOp mMod (mVar 2) (tC (.int 7)))))) (tC (.int 37))))) tNil)) (gName 8)) (tDrop (tBM K "list" rAppend (tOp (mIx K) (mVar 3) (tC (.int 0))) (tCons (tTup (tCons (mVar 7) (tCons (mVar 8) tNil))) tNil))))) tNext) (tSeq (mIfS (mTest (tOp (mEqA K) (mVar 5) (tC (.int 1)))) (tDrop (tBM K "list" rAppend (tOp (mIx K) (mVar 3) (tC (.int 1))) (tCons (tCall (zap_ K) [] E0 (tCons (mVar 6) (tCons (tC (.int 24)) (tCons (tC (.int 4)) tNil)))) tNil))) tNext) (tSeq (mIfS (mTest (tOp (mEqA K) (mVar 5) (tC (.int 2)))) (tDrop (tBM K "list" rAppend (tOp (mIx K) (mVar 3) (tC (.int 2))) (tCons (tCall (zfh_ K) [] E0 (tCons (mVar 6) (tCons (tCB (mLen K) (tCons (tOp (mIx K) (mVar 3) (tC (.int 2))) tNil)) tNil))) tNil))) tNext) (tSeq (mIfS (mTest (tOp (mEqA K) (mVar 5) (tC (.int 3)))) (tDrop (tBM K "list" rAppend (tOp (mIx K) (mVar 3) (tC (.int 3))) (tCons (tCall (zap_ K) [] E0 (tCons (mVar 6) (tCons (tC (.int 36)) (tCons (tC (.int 8)) tNil)))) tNil))) tNext) (mIfS (mAnd (mTest (tOp (mEqA K) (mVar 5) (tC (.int 4)))) (mTest (tOp (mIn K true) (tOp mAdd (tC (.int 1)) (tOp mMod (tOp mDivG (mVar 6) (tC (.int 40))) (tC (.int 36)))) (tComp ["_law_wire"] [] (iAny K (tOp (mIx K) (mVar 3) (tC (.int 4)))) (gName 0) tTrue (tOp (mIx K) (mVar 0) (tC (.int 1))))))) (tDrop (tBM K "list" rAppend (tOp (mIx K) (mVar 3) (tC (.int 4))) (tCons (tTup (tCons (tOp mAdd (tC (.int 1)) (tOp mMod (mVar 6) (tC (.int 40)))) (tCons (tOp mAdd (tC (.int 1)) (tOp mMod (tOp mDivG (mVar 6) (tC (.int 40))) (tC (.int 36)))) tNil))) tNil))) tNext))))))))) (tRet (mVar 3))))))
def zb6_:WC (List Int) (List (List Dy)) (fun K _=>zeZ_ K) (fun K c=>[(Zf (tySc K) c),Zd,Zd,Zd,Zd,Zd,Zd,Zd,Zd]) (fun K=>(owLL tyDp)):=⟨fun c=>_,fun K c E =>
 (zdg_ (i:=1) rfl z8_ (z7_ SG) fun aA=>(at_ [(Zf (tySc K) c),sS aA,Zd,Zd,Zd,Zd,Zd,Zd,Zd] (zdg_ (i:=2) rfl zW_ (zm_ (ze_ (zc_ 0 rfl) (zd_ (zj_ 3)))) fun aE=>(at_ [(Zf (tySc K) c),sS aA,sI aE,Zd,Zd,Zd,Zd,Zd,Zd] (zbC_ (i:=3) rfl (zox_ zfV_) (zlV_ (zeh_ (zaf_ tyDp) (zeh_ (zaf_ tyDp) (zeh_ (zaf_ tyDp) (zeh_ (zaf_ tyDp) (zeh_ (zaf_ tyDp) zoF_)))))) fun y6=>(at_ [(Zf (tySc K) c),sS aA,sI aE,(Zo (owLL tyDp) y6),Zd,Zd,Zd,Zd,Zd] (zbp_ (LS:=(fun bL:(List (List Dy))=>[(Zf (tySc K) c),sS aA,sI aE,(Zo (owLL tyDp) bL),Zd,Zd,Zd,Zd,Zd])) (zbI_ (L':=[(Zf (tySc K) c),sS aA,sI aE,(Zo (owLL tyDp) y6),Zd,Zd,Zd,Zd,Zd]) (S4 (S4 (.same .nil))) (zgH_ (LS:=(fun bL:(List (List Dy))=>[(Zf (tySc K) c),sS aA,sI aE,(Zo (owLL tyDp) bL),Zd,Zd,Zd,Zd,Zd])) (s0:=y6) (ei_l (EvO.fr (zoX_ (zc_ 0 rfl) (zj5_ (zj_ 4)) (zj5_ (zj_ 67))))) (zE_ 4) fun bL aY=>at_ [(Zf (tySc K) c),sS aA,sI aE,(Zo (owLL tyDp) bL),sI aY,Zd,Zd,Zd,Zd] (zdg_ (i:=5) rfl zW_ (zr_ zV_ (zc_ 4 rfl) (zj_ 5)) fun bh=>(at_ [(Zf (tySc K) c),sS aA,sI aE,(Zo (owLL tyDp) bL),sI aY,sI bh,Zd,Zd,Zd] (zdg_ (i:=6) rfl zW_ (zr_ z4_ (zc_ 4 rfl) (zj_ 5)) fun bw=>(at_ [(Zf (tySc K) c),sS aA,sI aE,(Zo (owLL tyDp) bL),sI aY,sI bh,sI bw,Zd,Zd] (zbp_ (LS:=(fun _:Unit=>[(Zf (tySc K) c),sS aA,sI aE,(Zo (owLL tyDp) bL),sI aY,sI bh,sI bw,Zd,Zd])) (s_if (z1_ (zr_ zq4_ (zeH_ zc7_ (zd_ (zr_ zae_ (zi6_ 3 rfl) (zc_ 5 rfl)))) (zr_ zae_ (EvO.fr (zbG_ (zi_ (zi_ (zi_ (zi_ zo_)))) (zn_ (zn_ (zn_ (zn_ zY_)))) (ze_ (zj_ 8) (ze_ (zj_ 6) (ze_ (zj_ 4) (ze_ (zj_ 4) (zd_ (zj_ 36)))))))) (zc_ 5 rfl)))) (zoL_ (b:=bL) (S4 (.dead (.dead (.dead (.same (.same .nil))))))) (zp_ (s:=()) (S4 (S4 (.same .nil))))) fun _=>(at_ [(Zf (tySc K) c),sS aA,sI aE,(Zo (owLL tyDp) bL),sI aY,sI bh,sI bw,Zd,Zd] (zbp_ (LS:=(fun fR:(List (List Dy))=>[(Zf (tySc K) c),sS aA,sI aE,(Zo (owLL tyDp) fR),sI aY,sI bh,sI bw,Zd,Zd])) (s_if (z1_ (zr_ (zaB_ zaA_) (zc_ 5 rfl) (zj_ 0))) (zdg_ (i:=7) rfl Qi0 (zm_ (ze_ (zc_ 6 rfl) (ze_ (zj_ 24) (zd_ (zj_ 5))))) fun kF=>(at_ [(Zf (tySc K) c),sS aA,sI aE,(Zo (owLL tyDp) bL),sI aY,sI bh,sI bw,(Zf Qq1 kF),Zd] (zdg_ (i:=8) rfl z8_ (zq0_ zlq_ (z7_ []) (zd_ (EvO.fr (O:=(owL tyStr)) (zaQ_ (zor_ (ze_ (zP_ (i:=0) at_0 (zc_ 7 rfl)) (zd_ (zr_ zR_ (zP_ (i:=1) (at_s zbt_) (zc_ 7 rfl)) (zj_ 1))))) (zE_ 0) (fun _=>dead1) (fun me=>zaM_) (fun me=>(zr_ zj8_ (zc_ 1 rfl) (zr_ zV_ (zr_ zR_ (zc_ 2 rfl) (zr_ zdd_ (zr_ zdd_ (zc_ 0 rfl) (zc_ 0 rfl)) (zr_ zR_ (zj_ 1) (zr_ zV_ (zc_ 2 rfl) (zj_ 7))))) (zj_ 37)))))))) fun kW=>(at_ [(Zf (tySc K) c),sS aA,sI aE,(Zo (owLL tyDp) bL),sI aY,sI bh,sI bw,(Zf Qq1 kF),sS kW] (zcf_ (zcR_ (i:=3) rfl zfV_ (zj_ 0) (zaG_ (znr_ (n_T (n_C Qi2 (n_1 zb1_))) (fun _=>rfl)) (zcd_ (zi_ zo_) (ze_ (zc_ 7 rfl) (zd_ (zc_ 8 rfl))))) fun lh lS=>(at_ [(Zf (tySc K) c),sS aA,sI aE,(Zo (owLL tyDp) (appN bL lh lS)),sI aY,sI bh,sI bw,(Zf Qq1 kF),sS kW] (zp_ (s:=(appN bL lh lS)) (S4 (.same (.same (.same (.dead (.dead .nil)))))))))))))) (zp_ (s:=bL) (S4 (S4 (.same .nil))))) fun fR=>(at_ [(Zf (tySc K) c),sS aA,sI aE,(Zo (owLL tyDp) fR),sI aY,sI bh,sI bw,Zd,Zd] (zbp_ (LS:=(fun cG:(List (List Dy))=>[(Zf (tySc K) c),sS aA,sI aE,(Zo (owLL tyDp) cG),sI aY,sI bh,sI bw,Zd,Zd])) (s_if (z1_ (zr_ (zaB_ zaA_) (zc_ 5 rfl) (zj_ 1))) (zcf_ (zcR_ (i:=3) rfl zfV_ (zj_ 1) (zaG_ (znr_ Qi2 (fun _=>rfl)) (zm_ (ze_ (zc_ 6 rfl) (ze_ (zj_ 24) (zd_ (zj_ 4)))))) fun gJ iu=>(at_ [(Zf (tySc K) c),sS aA,sI aE,(Zo (owLL tyDp) (appN fR gJ iu)),sI aY,sI bh,sI bw,Zd,Zd] (zp_ (s:=(appN fR gJ iu)) (S4 (S4 (.same .nil))))))) (zp_ (s:=fR) (S4 (S4 (.same .nil))))) fun cG=>(at_ [(Zf (tySc K) c),sS aA,sI aE,(Zo (owLL tyDp) cG),sI aY,sI bh,sI bw,Zd,Zd] (zbp_ (LS:=(fun cF:(List (List Dy))=>[(Zf (tySc K) c),sS aA,sI aE,(Zo (owLL tyDp) cF),sI aY,sI bh,sI bw,Zd,Zd])) (s_if (z1_ (zr_ (zaB_ zaA_) (zc_ 5 rfl) (zj_ 2))) (zcf_ (zcR_ (i:=3) rfl zfV_ (zj_ 2) (zaG_ (znr_ (n_T (n_C Qi2 (n_C Qi2 (n_C zb1_ (n_1 Qi2))))) (fun _=>rfl)) (zm_ (ze_ (zc_ 6 rfl) (zd_ (zeH_ zc7_ (zd_ (zr_ zae_ (zi6_ 3 rfl) (zj_ 2)))))))) fun gI ir=>(at_ [(Zf (tySc K) c),sS aA,sI aE,(Zo (owLL tyDp) (appN cG gI ir)),sI aY,sI bh,sI bw,Zd,Zd] (zp_ (s:=(appN cG gI ir)) (S4 (S4 (.same .nil))))))) (zp_ (s:=cG) (S4 (S4 (.same .nil))))) fun cF=>(at_ [(Zf (tySc K) c),sS aA,sI aE,(Zo (owLL tyDp) cF),sI aY,sI bh,sI bw,Zd,Zd] (zbp_ (LS:=(fun cE:(List (List Dy))=>[(Zf (tySc K) c),sS aA,sI aE,(Zo (owLL tyDp) cE),sI aY,sI bh,sI bw,Zd,Zd])) (s_if (z1_ (zr_ (zaB_ zaA_) (zc_ 5 rfl) (zj_ 3))) (zcf_ (zcR_ (i:=3) rfl zfV_ (zj_ 3) (zaG_ (znr_ Qi2 (fun _=>rfl)) (zm_ (ze_ (zc_ 6 rfl) (ze_ (zj_ 36) (zd_ (zj_ 8)))))) fun gH iq=>(at_ [(Zf (tySc K) c),sS aA,sI aE,(Zo (owLL tyDp) (appN cF gH iq)),sI aY,sI bh,sI bw,Zd,Zd] (zp_ (s:=(appN cF gH iq)) (S4 (S4 (.same .nil))))))) (zp_ (s:=cF) (S4 (S4 (.same .nil))))) fun cE=>(at_ [(Zf (tySc K) c),sS aA,sI aE,(Zo (owLL tyDp) cE),sI aY,sI bh,sI bw,Zd,Zd] (zcf_ (zbp_ (LS:=(fun dH:(List (List Dy))=>[(Zf (tySc K) c),sS aA,sI aE,(Zo (owLL tyDp) dH),sI aY,sI bh,sI bw,Zd,Zd])) (s_if (zpH_ (z1_ (zr_ (zaB_ zaA_) (zc_ 5 rfl) (zj_ 4))) (z1_ (zr_ (zpj_ zoM_) (zr_ zR_ (zj_ 1) (zr_ zV_ (zr_ z4_ (zc_ 6 rfl) (zj_ 40)) (zj_ 36))) (EvO.fr (O:=(owL tyInt)) (zaQ_ (ei_l (zr_ zae_ (zi6_ 3 rfl) (zj_ 4))) (zE_ 0) (fun _=>dead1) (fun eJ=>zaM_) (fun eJ=>(zP_ (i:=1) (at_s zbt_) (zdL_ (dn_dp Qi3) (zc_ 0 rfl))))))))) (zcf_ (zcR_ (i:=3) rfl zfV_ (zj_ 4) (zaG_ (znr_ Qi2 (fun _=>rfl)) (zcd_ (zi_ zo_) (ze_ (zr_ zR_ (zj_ 1) (zr_ zV_ (zc_ 6 rfl) (zj_ 40))) (zd_ (zr_ zR_ (zj_ 1) (zr_ zV_ (zr_ z4_ (zc_ 6 rfl) (zj_ 40)) (zj_ 36))))))) fun gG ip=>(at_ [(Zf (tySc K) c),sS aA,sI aE,(Zo (owLL tyDp) (appN cE gG ip)),sI aY,sI bh,sI bw,Zd,Zd] (zp_ (s:=(appN cE gG ip)) (S4 (S4 (.same .nil))))))) (zp_ (s:=cE) (S4 (S4 (.same .nil))))) fun dH=>(at_ [(Zf (tySc K) c),sS aA,sI aE,(Zo (owLL tyDp) dH),sI aY,sI bh,sI bw,Zd,Zd] (zp_ (s:=dH) (S4 (.dead (.dead (.dead (.same (.same .nil)))))))))))))))))))))))))) fun bL=>(at_ [(Zf (tySc K) c),sS aA,sI aE,(Zo (owLL tyDp) bL),Zd,Zd,Zd,Zd,Zd] (zki_ (i:=3) rfl)))))))))⟩
def zde_ (au:(List Int)):Mo (List (List Dy)):=fnO (zb6_.1 au)
def zeE_ (K:Fgg):Sp:=Ct K (csLast (tySc K)) (fun c=>zde_ c) (owLL tyDp)
def zev_ (K:Fgg):TS:=(tRet (tTup (tCons (tOp mSub (tC (.int 37)) (tOp (mIx K) (mVar 0) (tC (.int 1)))) (tCons (tOp mSub (tC (.int 37)) (tOp (mIx K) (mVar 0) (tC (.int 0)))) tNil))))
def zcy_:WC (Int×Int) (Int×Int) (fun K _=>zev_ K) (fun K c=>[(Zf Qq1 c)]) (fun K=>(owF Qq1)):=⟨fun c=>_,fun K c E =>
 (zbD_ (zab_ Qi0) (EvF.ow (zcd_ (zi_ zo_) (ze_ (zr_ zdZ_ (zj_ 37) (zP_ (i:=1) (at_s zbt_) (zc_ 0 rfl))) (zd_ (zr_ zdZ_ (zj_ 37) (zP_ (i:=0) at_0 (zc_ 0 rfl))))))))⟩
def zaO_ (aD:(Int×Int)):Mo (Int×Int):=fnO (zcy_.1 aD)
def zQ_ (K:Fgg):Sp:=Ct K (csLast Qq1) (fun c=>zaO_ c) (owF Qq1)
def zfa_ (K:Fgg):TS:=(tSeq (tAsg (tCall (zam_ K) [] E0 (tCons (mVar 0) (tCons (tC (.int 0)) tNil))) (gName 1)) (tSeq (tAsg (tCall (zfe_ K) [] E0 (tCons (tOp mDivG (mVar 1) (tC (.int 2))) tNil)) (gName 2)) (tSeq (tAsg (tCall (zdK_ K) [] E0 (tCons (mVar 2) (tCons (tCall (zam_ K) [] E0 (tCons (mVar 0) (tCons (tC (.int 1)) tNil))) tNil))) (gName 3)) (tSeq (tAsg (tCall (zam_ K) [] E0 (tCons (mVar 0) (tCons (tC (.int 2)) tNil))) (gName 4)) (tSeq (tAsg (tCall (zeE_ K) [] E0 (tCons (mVar 0) tNil)) (gLst5 K (gConsM (gName 5) (gConsM (gName 6) (gConsM (gName 7) (gConsM (gName 8) (gConsM (gName 9) gNilM))))))) (tSeq (mIfS (mTest (tOp (mEqA K) (tOp mMod (mVar 1) (tC (.int 2))) (tC (.int 1)))) (tSeq (tAsg (tComp ["_law_field", "_law_text"] [] (iAny K (mVar 5)) (gTupM K 2 (gConsM (gName 0) (gConsM (gName 1) gNilM))) tTrue (tTup (tCons (tCall (zQ_ K) [] E0 (tCons (mVar 0) tNil)) (tCons (tRevS (mVar 1) (mPart (mNeg (tC (.int 1))))) tNil)))) (gName 5)) (tSeq (tAsg (tComp ["_law_field"] [] (iAny K (mVar 6)) (gName 0) tTrue (tCall (zQ_ K) [] E0 (tCons (mVar 0) tNil))) (gName 6)) (tSeq (tAsg (tComp ["_law_field"] [] (iAny K (mVar 8)) (gName 0) tTrue (tCall (zQ_ K) [] E0 (tCons (mVar 0) tNil))) (gName 8)) (tSeq (tAsg (tLst tNil) (gName 10)) (tSeq (tFor (iAny K (mVar 7)) (gTupM K 4 (gConsM (gName 11) (gConsM (gName 12) (gConsM (gName 13) (gConsM (gName 14) gNilM))))) (tDrop (tBM K "list" rAppend (mVar 10) (tCons (tTup (tCons (tCall (zQ_ K) [] E0 (tCons (mVar 11) tNil)) (tCons (tCall (zQ_ K) [] E0 (tCons (mVar 12) tNil)) (tCons (mVar 13) (tCons (tCall (zQ_ K) [] E0 (tCons (mVar 14) tNil)) tNil))))) tNil)))) (tSeq (tAsg (mVar 10) (gName 7)) (mIfS (mTest (tOp mIsNot (mVar 3) (tC .non))) (tSeq (tAsg (tOp mSub (tOp mSub (tCB (mLen K) (tCons (mVar 3) tNil)) (tC (.int 1))) (tCB (mIntC) (tCons (tOp (mEqA K) (tCB (mLen K) (tCons (mVar 3) tNil)) (tC (.int 4))) tNil))) (gName 15)) (tAsg (tOp (rCatT K) (tOp (rCatT K) (tSl (rSlT K) (mVar 3) tNoPart (mPart (mVar 15))) (tTup (tCons (tCall (zQ_ K) [] E0 (tCons (tOp (mIx K) (mVar 3) (mVar 15)) tNil)) tNil))) (tSl (rSlT K) (mVar 3) (mPart (tOp mAdd (mVar 15) (tC (.int 1)))) tNoPart)) (gName 3))) tNext))))))) tNext) (tSeq (tAsg (tComp ["_law_there", "_law_here"] [] (iAny K (tCB (mSortD 64 K) (tCons (tComp ["_law_wire"] [] (iAny K (mVar 9)) (gName 0) tTrue (tTup (tCons (tOp (mIx K) (mVar 0) (tC (.int 1))) (tCons (tOp (mIx K) (mVar 0) (tC (.int 0))) tNil)))) tNil))) (gTupM K 2 (gConsM (gName 0) (gConsM (gName 1) gNilM))) tTrue (tTup (tCons (mVar 1) (tCons (mVar 0) tNil)))) (gName 16)) (tSeq (tAsg (tOp mMod (mVar 4) (tOp mAdd (tCB (mTwo min) (tCons (tC (.int 3)) (tCons (tCB (mLen K) (tCons (mVar 6) tNil)) tNil))) (tC (.int 1)))) (gName 17)) (tRet (tLst (tCons (mVar 2) (tCons (mVar 5) (tCons (mVar 3) (tCons (mVar 6) (tCons (mVar 7) (tCons (mVar 17) (tCons (mVar 8) (tCons (tOp mAdd (tC (.int 1)) (tOp mMod (tOp mDivG (mVar 4) (tC (.int 4))) (tC (.int 12)))) (tCons (mVar 16) tNil)))))))))))))))))))
def zb8_:WC (List Int) (List Dy) (fun K _=>zfa_ K) (fun K c=>[(Zf (tySc K) c),Zd,Zd,Zd,Zd,Zd,Zd,Zd,Zd,Zd,Zd,Zd,Zd,Zd,Zd,Zd,Zd,Zd]) (fun K=>(owL tyDy)):=⟨fun c=>_,fun K c E =>
 (zdg_ (i:=1) rfl zW_ (zm_ (ze_ (zc_ 0 rfl) (zd_ (zj_ 0)))) fun az=>(at_ [(Zf (tySc K) c),sI az,Zd,Zd,Zd,Zd,Zd,Zd,Zd,Zd,Zd,Zd,Zd,Zd,Zd,Zd,Zd,Zd] (zdg_ (i:=2) rfl z8_ (zm_ (zd_ (zr_ z4_ (zc_ 1 rfl) (zj_ 2)))) fun n5=>(at_ [(Zf (tySc K) c),sI az,sS n5,Zd,Zd,Zd,Zd,Zd,Zd,Zd,Zd,Zd,Zd,Zd,Zd,Zd,Zd,Zd] (zdg_ (i:=3) rfl Qi1 (zm_ (ze_ (zc_ 2 rfl) (zd_ (zm_ (ze_ (zc_ 0 rfl) (zd_ (zj_ 1))))))) fun aL=>(at_ [(Zf (tySc K) c),sI az,sS n5,(Zf Qq3 aL),Zd,Zd,Zd,Zd,Zd,Zd,Zd,Zd,Zd,Zd,Zd,Zd,Zd,Zd] (zdg_ (i:=4) rfl zW_ (zm_ (ze_ (zc_ 0 rfl) (zd_ (zj_ 2)))) fun aF=>(at_ [(Zf (tySc K) c),sI az,sS n5,(Zf Qq3 aL),sI aF,Zd,Zd,Zd,Zd,Zd,Zd,Zd,Zd,Zd,Zd,Zd,Zd,Zd] (zn1_ (zoJ_ (EvO.fr (z9_ (zd_ (zc_ 0 rfl))))) (zpO_ 5 6 7 8 9) fun bJ=>at_ [(Zf (tySc K) c),sI az,sS n5,(Zf Qq3 aL),sI aF,(Zf (tyL tyDp) bJ.1),(Zf (tyL tyDp) bJ.2.1),(Zf (tyL tyDp) bJ.2.2.1),(Zf (tyL tyDp) bJ.2.2.2.1),(Zf (tyL tyDp) bJ.2.2.2.2),Zd,Zd,Zd,Zd,Zd,Zd,Zd,Zd] (zoG_ (i:=5) rfl (znM_ (m_T (m_C Qi3 (m_1 zbc_)))) fun eX=>at_ [(Zf (tySc K) c),sI az,sS n5,(Zf Qq3 aL),sI aF,(Zf (tyL Qq5) eX),(Zf (tyL tyDp) bJ.2.1),(Zf (tyL tyDp) bJ.2.2.1),(Zf (tyL tyDp) bJ.2.2.2.1),(Zf (tyL tyDp) bJ.2.2.2.2),Zd,Zd,Zd,Zd,Zd,Zd,Zd,Zd] (zoG_ (i:=6) rfl (znM_ Qi3) fun e_=>at_ [(Zf (tySc K) c),sI az,sS n5,(Zf Qq3 aL),sI aF,(Zf (tyL Qq5) eX),(Zf (tyL Qq1) e_),(Zf (tyL tyDp) bJ.2.2.1),(Zf (tyL tyDp) bJ.2.2.2.1),(Zf (tyL tyDp) bJ.2.2.2.2),Zd,Zd,Zd,Zd,Zd,Zd,Zd,Zd] (zoG_ (i:=7) rfl (znM_ (m_T (m_C Qi3 (m_C Qi3 (m_C zbc_ (m_1 Qi3)))))) fun bV=>at_ [(Zf (tySc K) c),sI az,sS n5,(Zf Qq3 aL),sI aF,(Zf (tyL Qq5) eX),(Zf (tyL Qq1) e_),(Zf (tyL Qq4) bV),(Zf (tyL tyDp) bJ.2.2.2.1),(Zf (tyL tyDp) bJ.2.2.2.2),Zd,Zd,Zd,Zd,Zd,Zd,Zd,Zd] (zoG_ (i:=8) rfl (znM_ Qi3) fun fQ=>at_ [(Zf (tySc K) c),sI az,sS n5,(Zf Qq3 aL),sI aF,(Zf (tyL Qq5) eX),(Zf (tyL Qq1) e_),(Zf (tyL Qq4) bV),(Zf (tyL Qq1) fQ),(Zf (tyL tyDp) bJ.2.2.2.2),Zd,Zd,Zd,Zd,Zd,Zd,Zd,Zd] (zoG_ (i:=9) rfl (znM_ Qi3) fun aZ=>at_ [(Zf (tySc K) c),sI az,sS n5,(Zf Qq3 aL),sI aF,(Zf (tyL Qq5) eX),(Zf (tyL Qq1) e_),(Zf (tyL Qq4) bV),(Zf (tyL Qq1) fQ),(Zf (tyL Qq1) aZ),Zd,Zd,Zd,Zd,Zd,Zd,Zd,Zd] (at_ [(Zf (tySc K) c),sI az,sS n5,(Zf Qq3 aL),sI aF,(Zf (tyL Qq5) eX),(Zf (tyL Qq1) e_),(Zf (tyL Qq4) bV),(Zf (tyL Qq1) fQ),(Zf (tyL Qq1) aZ),Zd,Zd,Zd,Zd,Zd,Zd,Zd,Zd] (zbp_ (LS:=(fun bg:((List ((Int×Int)×Jx))×((List (Int×Int))×((List (Int×Int))×(Qq7×Qq8))))=>[(Zf (tySc K) c),sI az,sS n5,(Zf Qq3 bg.2.2.2.2),sI aF,(Zf (tyL Qq5) bg.1),(Zf (tyL Qq1) bg.2.1),(Zf (tyL Qq4) bg.2.2.2.1),(Zf (tyL Qq1) bg.2.2.1),(Zf (tyL Qq1) aZ),Zd,Zd,Zd,Zd,Zd,Zd,Zd,Zd])) (s_if (z1_ (zr_ (zaB_ zaA_) (zr_ zV_ (zc_ 1 rfl) (zj_ 2)) (zj_ 1))) (zbC_ (i:=5) rfl (zag_ (zdr_ (z0_ Qi0 (za2_ z8_)))) (zaQ_ (ei_l (zc_ 5 rfl)) (zh1_ (zi_ zo_) (zdA_ 0 (zeW_ (zE_ 1)))) (fun _=>dead2) (fun gf=>zaM_) (fun gf=>(zcd_ (zi_ zo_) (ze_ (zm_ (zd_ (zc_ 0 rfl))) (zd_ (zpB_ (zc_ 1 rfl) (zj5_ (zl9_ (zj_ 1))))))))) fun bM=>zfS_ (i:=5) rfl (at_ [(Zf (tySc K) c),sI az,sS n5,(Zf Qq3 aL),sI aF,(Zf (tyL Qq5) bM),(Zf (tyL Qq1) e_),(Zf (tyL Qq4) bV),(Zf (tyL Qq1) fQ),(Zf (tyL Qq1) aZ),Zd,Zd,Zd,Zd,Zd,Zd,Zd,Zd] (zbC_ (i:=6) rfl (zag_ Qi0) (zaQ_ (ei_l (zc_ 6 rfl)) (zE_ 0) (fun _=>dead1) (fun gd=>zaM_) (fun gd=>(zm_ (zd_ (zc_ 0 rfl))))) fun bW=>zfS_ (i:=6) rfl (at_ [(Zf (tySc K) c),sI az,sS n5,(Zf Qq3 aL),sI aF,(Zf (tyL Qq5) bM),(Zf (tyL Qq1) bW),(Zf (tyL Qq4) bV),(Zf (tyL Qq1) fQ),(Zf (tyL Qq1) aZ),Zd,Zd,Zd,Zd,Zd,Zd,Zd,Zd] (zbC_ (i:=8) rfl (zag_ Qi0) (zaQ_ (ei_l (zc_ 8 rfl)) (zE_ 0) (fun _=>dead1) (fun mh=>zaM_) (fun mh=>(zm_ (zd_ (zc_ 0 rfl))))) fun b_=>zfS_ (i:=8) rfl (at_ [(Zf (tySc K) c),sI az,sS n5,(Zf Qq3 aL),sI aF,(Zf (tyL Qq5) bM),(Zf (tyL Qq1) bW),(Zf (tyL Qq4) bV),(Zf (tyL Qq1) b_),(Zf (tyL Qq1) aZ),Zd,Zd,Zd,Zd,Zd,Zd,Zd,Zd] (zbC_ (i:=10) rfl (zag_ Qi6) (zaf_ Qq4) fun jf=>(at_ [(Zf (tySc K) c),sI az,sS n5,(Zf Qq3 aL),sI aF,(Zf (tyL Qq5) bM),(Zf (tyL Qq1) bW),(Zf (tyL Qq4) bV),(Zf (tyL Qq1) b_),(Zf (tyL Qq1) aZ),(Zo (owL Qq4) jf),Zd,Zd,Zd,Zd,Zd,Zd,Zd] (zbp_ (LS:=(fun cf:Qq7=>[(Zf (tySc K) c),sI az,sS n5,(Zf Qq3 aL),sI aF,(Zf (tyL Qq5) bM),(Zf (tyL Qq1) bW),(Zf (tyL Qq4) bV),(Zf (tyL Qq1) b_),(Zf (tyL Qq1) aZ),(Zo (owL Qq4) cf),Zd,Zd,Zd,Zd,Zd,Zd,Zd])) (zbI_ (L':=[(Zf (tySc K) c),sI az,sS n5,(Zf Qq3 aL),sI aF,(Zf (tyL Qq5) bM),(Zf (tyL Qq1) bW),(Zf (tyL Qq4) bV),(Zf (tyL Qq1) b_),(Zf (tyL Qq1) aZ),(Zo (owL Qq4) jf),Zd,Zd,Zd,Zd,Zd,Zd,Zd]) (S4 (S4 (S4 (S4 (.same (.same .nil)))))) (zgH_ (LS:=(fun cf:Qq7=>[(Zf (tySc K) c),sI az,sS n5,(Zf Qq3 aL),sI aF,(Zf (tyL Qq5) bM),(Zf (tyL Qq1) bW),(Zf (tyL Qq4) bV),(Zf (tyL Qq1) b_),(Zf (tyL Qq1) aZ),(Zo (owL Qq4) cf),Zd,Zd,Zd,Zd,Zd,Zd,Zd])) (s0:=jf) (ei_l (zc_ 7 rfl)) (zh1_ (zi_ (zi_ (zi_ zo_))) (zdA_ 11 (zdA_ 12 (zdA_ 13 (zeW_ (zE_ 14)))))) fun cf eh=>at_ [(Zf (tySc K) c),sI az,sS n5,(Zf Qq3 aL),sI aF,(Zf (tyL Qq5) bM),(Zf (tyL Qq1) bW),(Zf (tyL Qq4) bV),(Zf (tyL Qq1) b_),(Zf (tyL Qq1) aZ),(Zo (owL Qq4) cf),(Zf Qq1 eh.1),(Zf Qq1 eh.2.1),sS eh.2.2.1,(Zf Qq1 eh.2.2.2),Zd,Zd,Zd] (zcf_ (zjn_ (i:=10) rfl Qi6 (zcd_ (zi_ (zi_ (zi_ zo_))) (ze_ (zm_ (zd_ (zc_ 11 rfl))) (ze_ (zm_ (zd_ (zc_ 12 rfl))) (ze_ (zc_ 13 rfl) (zd_ (zm_ (zd_ (zc_ 14 rfl)))))))) fun lU=>(at_ [(Zf (tySc K) c),sI az,sS n5,(Zf Qq3 aL),sI aF,(Zf (tyL Qq5) bM),(Zf (tyL Qq1) bW),(Zf (tyL Qq4) bV),(Zf (tyL Qq1) b_),(Zf (tyL Qq1) aZ),(Zo (owL Qq4) (cf++[lU])),(Zf Qq1 eh.1),(Zf Qq1 eh.2.1),sS eh.2.2.1,(Zf Qq1 eh.2.2.2),Zd,Zd,Zd] (zp_ (s:=(cf++[lU])) (S4 (S4 (.same (.same (.same (.dead (.dead (.dead (.dead (.same (.same (.same .nil)))))))))))))))))) fun cf=>(at_ [(Zf (tySc K) c),sI az,sS n5,(Zf Qq3 aL),sI aF,(Zf (tyL Qq5) bM),(Zf (tyL Qq1) bW),(Zf (tyL Qq4) bV),(Zf (tyL Qq1) b_),(Zf (tyL Qq1) aZ),(Zo (owL Qq4) cf),Zd,Zd,Zd,Zd,Zd,Zd,Zd] (zfS_ (i:=10) rfl (at_ [(Zf (tySc K) c),sI az,sS n5,(Zf Qq3 aL),sI aF,(Zf (tyL Qq5) bM),(Zf (tyL Qq1) bW),(Zf (tyL Qq4) bV),(Zf (tyL Qq1) b_),(Zf (tyL Qq1) aZ),(Zf (tyL Qq4) cf),Zd,Zd,Zd,Zd,Zd,Zd,Zd] (zqt_ (i:=7) rfl (zc_ 10 rfl) fun fP=>(at_ [(Zf (tySc K) c),sI az,sS n5,(Zf Qq3 aL),sI aF,(Zf (tyL Qq5) bM),(Zf (tyL Qq1) bW),(Zf (tyL Qq4) fP),(Zf (tyL Qq1) b_),(Zf (tyL Qq1) aZ),(Zf (tyL Qq4) cf),Zd,Zd,Zd,Zd,Zd,Zd,Zd] (zcf_ (zbp_ (LS:=(fun iH:Qq8=>[(Zf (tySc K) c),sI az,sS n5,(Zf Qq3 iH),sI aF,(Zf (tyL Qq5) bM),(Zf (tyL Qq1) bW),(Zf (tyL Qq4) fP),(Zf (tyL Qq1) b_),(Zf (tyL Qq1) aZ),(Zf (tyL Qq4) cf),Zd,Zd,Zd,Zd,Zd,Zd,Zd])) (s_if (z1_ (zr_ zg1_ (zc_ 3 rfl) zfM_)) (zdg_ (i:=15) rfl zW_ (zr_ zdZ_ (zr_ zdZ_ (zeH_ (zjH_ (zi_ zo_) (zi_ (zi_ (zi_ zo_)))) (zd_ (zaq_ (zc_ 3 rfl)))) (zj_ 1)) (zeH_ zpy_ (zd_ (zr_ (zaB_ zaA_) (zeH_ (zjH_ (zi_ zo_) (zi_ (zi_ (zi_ zo_)))) (zd_ (zaq_ (zc_ 3 rfl)))) (zj_ 4))))) fun kR=>(at_ [(Zf (tySc K) c),sI az,sS n5,(Zf Qq3 aL),sI aF,(Zf (tyL Qq5) bM),(Zf (tyL Qq1) bW),(Zf (tyL Qq4) fP),(Zf (tyL Qq1) b_),(Zf (tyL Qq1) aZ),(Zf (tyL Qq4) cf),Zd,Zd,Zd,Zd,sI kR,Zd,Zd] (zcf_ (zdg_ (i:=3) rfl Qi1 (zdL_ (zdU_ (m_O Qi7 (fun _ _ _=>nn_u (fun _ _ _=>zdN_) (fun _ _ _=>zdN_)))) (zr_ ziX_ (zr_ ziX_ (zln_ (zaG_ (zbe_ Qi5) (zaq_ (zc_ 3 rfl))) zlY_ (zj5_ (zc_ 15 rfl))) (zaG_ (zbe_ (n_T (n_1 Qi2))) (zcd_ zo_ (zd_ (zm_ (zd_ (zdL_ (zdU_ Qi3) (zr_ znE_ (zaG_ (zbe_ Qi5) (zaq_ (zc_ 3 rfl))) (zc_ 15 rfl))))))))) (zln_ (zaG_ (zbe_ Qi5) (zaq_ (zc_ 3 rfl))) (zj5_ (zr_ zR_ (zc_ 15 rfl) (zj_ 1))) zlY_))) fun lj=>(at_ [(Zf (tySc K) c),sI az,sS n5,(Zf Qq3 lj),sI aF,(Zf (tyL Qq5) bM),(Zf (tyL Qq1) bW),(Zf (tyL Qq4) fP),(Zf (tyL Qq1) b_),(Zf (tyL Qq1) aZ),(Zf (tyL Qq4) cf),Zd,Zd,Zd,Zd,sI kR,Zd,Zd] (zp_ (s:=lj) (S4 (S4 (S4 (.same (.same (.same (.dead (.same (.same .nil))))))))))))))) (zp_ (s:=aL) (S4 (S4 (S4 (S4 (.same (.same .nil)))))))) fun iH=>(at_ [(Zf (tySc K) c),sI az,sS n5,(Zf Qq3 iH),sI aF,(Zf (tyL Qq5) bM),(Zf (tyL Qq1) bW),(Zf (tyL Qq4) fP),(Zf (tyL Qq1) b_),(Zf (tyL Qq1) aZ),(Zf (tyL Qq4) cf),Zd,Zd,Zd,Zd,Zd,Zd,Zd] (zp_ (s:=(bM,bW,b_,fP,iH)) (S4 (S4 (.same (.same (.dead (S4 (.same (.same (.same .nil))))))))))))))))))))))))))) (zp_ (s:=(eX,e_,fQ,bV,aL)) (S4 (S4 (S4 (S4 (.same (.same .nil)))))))) fun bg=>(at_ [(Zf (tySc K) c),sI az,sS n5,(Zf Qq3 bg.2.2.2.2),sI aF,(Zf (tyL Qq5) bg.1),(Zf (tyL Qq1) bg.2.1),(Zf (tyL Qq4) bg.2.2.2.1),(Zf (tyL Qq1) bg.2.2.1),(Zf (tyL Qq1) aZ),Zd,Zd,Zd,Zd,Zd,Zd,Zd,Zd] (zbC_ (i:=16) rfl (zag_ Qi0) (zaQ_ (ei_l (EvO.fr (O:=(owL Qq1)) (zfF_ (znQ_ (zi7_ (znL_ zl0_ (zoe_ zl0_ zdO_)) (zhB_ zdO_ zdO_))) (zd_ (EvO.fr (O:=(owL Qq1)) (zaQ_ (ei_l (zc_ 9 rfl)) (zE_ 0) (fun _=>dead1) (fun bf=>zaM_) (fun bf=>(zcd_ (zi_ zo_) (ze_ (zP_ (i:=1) (at_s zbt_) (zc_ 0 rfl)) (zd_ (zP_ (i:=0) at_0 (zc_ 0 rfl)))))))))))) (zh1_ (zi_ zo_) (zdA_ 0 (zeW_ (zE_ 1)))) (fun _=>dead2) (fun jc=>zaM_) (fun jc=>(zcd_ (zi_ zo_) (ze_ (zc_ 1 rfl) (zd_ (zc_ 0 rfl)))))) fun gi=>zfS_ (i:=16) rfl (at_ [(Zf (tySc K) c),sI az,sS n5,(Zf Qq3 bg.2.2.2.2),sI aF,(Zf (tyL Qq5) bg.1),(Zf (tyL Qq1) bg.2.1),(Zf (tyL Qq4) bg.2.2.2.1),(Zf (tyL Qq1) bg.2.2.1),(Zf (tyL Qq1) aZ),Zd,Zd,Zd,Zd,Zd,Zd,(Zf (tyL Qq1) gi),Zd] (zdg_ (i:=17) rfl zW_ (zr_ zV_ (zc_ 4 rfl) (zr_ zR_ (zeH_ zoR_ (ze_ (zj_ 3) (zd_ (zeH_ zc7_ (zd_ (zc_ 6 rfl)))))) (zj_ 1))) fun kG=>(at_ [(Zf (tySc K) c),sI az,sS n5,(Zf Qq3 bg.2.2.2.2),sI aF,(Zf (tyL Qq5) bg.1),(Zf (tyL Qq1) bg.2.1),(Zf (tyL Qq4) bg.2.2.2.1),(Zf (tyL Qq1) bg.2.2.1),(Zf (tyL Qq1) aZ),Zd,Zd,Zd,Zd,Zd,Zd,(Zf (tyL Qq1) gi),sI kG] (zkp_ (zbG_ (zi_ (zi_ (zi_ (zi_ (zi_ (zi_ (zi_ (zi_ zo_)))))))) (zn_ (zn_ (zn_ (zn_ (zn_ (zn_ (zn_ (zn_ zY_)))))))) (ze_ (zaG_ (zbe_ zb1_) (zc_ 2 rfl)) (ze_ (zaG_ (zbe_ (n_L (n_T (n_C Qi2 (n_1 zb1_))))) (zc_ 5 rfl)) (ze_ (zaG_ (zbe_ (n_O Qi5)) (zc_ 3 rfl)) (ze_ (zaG_ (zbe_ (n_L Qi2)) (zc_ 6 rfl)) (ze_ (zaG_ (zbe_ (n_L (n_T (n_C Qi2 (n_C Qi2 (n_C zb1_ (n_1 Qi2))))))) (zc_ 7 rfl)) (ze_ (zaG_ (zbe_ zea_) (zc_ 17 rfl)) (ze_ (zaG_ (zbe_ (n_L Qi2)) (zc_ 8 rfl)) (ze_ (zaG_ (zbe_ zea_) (zr_ zR_ (zj_ 1) (zr_ zV_ (zr_ z4_ (zc_ 4 rfl) (zj_ 4)) (zj_ 12)))) (zd_ (zaG_ (zbe_ (n_L Qi2)) (zc_ 16 rfl))))))))))))))))))))))))))))))))))⟩
def zdf_ (au:(List Int)):Mo (List Dy):=fnO (zb8_.1 au)
def zes_ (K:Fgg):Sp:=Ct K (csLast (tySc K)) (fun c=>zdf_ c) (owL tyDy)
def zge_ (K:Fgg):TS:=(tSeq (tAsg (tLst (tCons (mFld (gA K "Asking") (mVar 0) "deck") (tCons (mFld (gA K "Asking") (mVar 0) "picks") (tCons (mFld (gA K "Asking") (mVar 0) "middle") (tCons (mFld (gA K "Asking") (mVar 0) "order") (tCons (mFld (gA K "Asking") (mVar 0) "works") (tCons (mFld (gA K "Asking") (mVar 0) "breaks") tNil))))))) (gName 1)) (tRet (tOp mAdd (mVar 1) (tLst (tCons (mFld (gA K "Asking") (mVar 0) "sums") (tCons (mFld (gA K "Asking") (mVar 0) "figures") (tCons (mFld (gA K "Asking") (mVar 0) "board") tNil)))))))
def zcL_:WC Qq2 (List Dy) (fun K _=>zge_ K) (fun K c=>[(Zf (Qq0 K) c),Zd]) (fun K=>(owL tyDy)):=⟨fun c=>_,fun K c E =>
 (zff_ (i:=1) rfl (zbG_ (zi_ (zi_ (zi_ (zi_ (zi_ zo_))))) (zn_ (zn_ (zn_ (zn_ (zn_ zY_))))) (ze_ (zaG_ (zbe_ zb1_) (zO_ (ns:=Qn0) (by decide +kernel) (n:=0) rfl at_0 (zc_ 0 rfl))) (ze_ (zaG_ (zbe_ (n_L (n_T (n_C Qi2 (n_1 zb1_))))) (zO_ (ns:=Qn0) (by decide +kernel) (n:=1) rfl (at_s at_0) (zc_ 0 rfl))) (ze_ (zaG_ (zbe_ (n_O Qi5)) (zO_ (ns:=Qn0) (by decide +kernel) (n:=2) rfl (at_s (at_s at_0)) (zc_ 0 rfl))) (ze_ (zaG_ (zbe_ (n_L Qi2)) (zO_ (ns:=Qn0) (by decide +kernel) (n:=3) rfl (at_s (at_s (at_s at_0))) (zc_ 0 rfl))) (ze_ (zaG_ (zbe_ (n_L (n_T (n_C Qi2 (n_C Qi2 (n_C zb1_ (n_1 Qi2))))))) (zO_ (ns:=Qn0) (by decide +kernel) (n:=4) rfl (at_s (at_s (at_s (at_s at_0)))) (zc_ 0 rfl))) (zd_ (zaG_ (zbe_ zea_) (zO_ (ns:=Qn0) (by decide +kernel) (n:=5) rfl (at_s (at_s (at_s (at_s (at_s at_0))))) (zc_ 0 rfl)))))))))) fun dA=>zfS_ (i:=1) rfl (at_ [(Zf (Qq0 K) c),(Zf (tyL tyDy) dA)] (zkp_ (zgy_ zds_ (zc_ 1 rfl) (EvO.fr (zbG_ (zi_ (zi_ zo_)) (zn_ (zn_ zY_)) (ze_ (zaG_ (zbe_ (n_L Qi2)) (zO_ (ns:=Qn0) (by decide +kernel) (n:=6) rfl (at_s (at_s (at_s (at_s (at_s (at_s at_0)))))) (zc_ 0 rfl))) (ze_ (zaG_ (zbe_ zea_) (zO_ (ns:=Qn0) (by decide +kernel) (n:=7) rfl (at_s (at_s (at_s (at_s (at_s (at_s (at_s at_0))))))) (zc_ 0 rfl))) (zd_ (zaG_ (zbe_ (n_L Qi2)) (zO_ (ns:=Qn0) (by decide +kernel) (n:=8) rfl (at_s (at_s (at_s (at_s (at_s (at_s (at_s (at_s at_0)))))))) (zc_ 0 rfl))))))))))))⟩
def zd4_ (ae:Qq2):Mo (List Dy):=fnO (zcL_.1 ae)
def zfo_ (K:Fgg):Sp:=Ct K (csLast (Qq0 K)) (fun c=>zd4_ c) (owL tyDy)
def ze6_ (K:Fgg):TS:=(tRet (mAndV (tCB (mIsa K) (tCons (mVar 0) (tCons (tC (.ty "int")) tNil))) (mNotV (tCB (mIsa K) (tCons (mVar 0) (tCons (tC (.ty "bool")) tNil))))))
def zdi_:WC Dy Bool (fun K _=>ze6_ K) (fun K c=>[(Zf tyDy c)]) (fun K=>(owF tyBl)):=⟨fun c=>_,fun K c E =>
 (zbD_ (zab_ zbL_) (EvF.ow (zeP_ (zfD_ (zc_ 0 rfl)) (zn4_ (zfD_ (zc_ 0 rfl))))))⟩
def zh0_ (dS:Dy):Mo Bool:=fnO (zdi_.1 dS)
def zcA_ (K:Fgg):Sp:=Ct K (csLast tyDy) (fun c=>zh0_ c) (owF tyBl)
def zhS_ (K:Fgg):TS:=(tSeq (tAsg (tCall (zfo_ K) [] E0 (tCons (mVar 0) tNil)) (gName 2)) (tSeq (tFor (iAny K (tLst (tCons (tC (.int 1)) (tCons (tC (.int 3)) (tCons (tC (.int 4)) (tCons (tC (.int 6)) (tCons (tC (.int 8)) tNil))))))) (gName 3) (mIfS (tNot (mTest (tCB (mIsa K) (tCons (tOp (mIx K) (mVar 2) (mVar 3)) (tCons (tC (.ty "list")) tNil))))) (tRet (tC (.bl false))) tNext)) (tSeq (mIfS (mOr (tNot (mTest (tCB (mIsa K) (tCons (tOp (mIx K) (mVar 2) (tC (.int 0))) (tCons (tC (.ty "str")) tNil))))) (mOr (tNot (mTest (tCall (zcA_ K) [] E0 (tCons (tOp (mIx K) (mVar 2) (tC (.int 5))) tNil)))) (tNot (mTest (tCall (zcA_ K) [] E0 (tCons (tOp (mIx K) (mVar 2) (tC (.int 7))) tNil)))))) (tRet (tC (.bl false))) tNext) (tRet (tOp (mEqA K) (mVar 2) (mVar 1))))))
def zdT_:WC (Qq2×(List Dy)) Bool (fun K _=>zhS_ K) (fun K c=>[(Zf (Qq0 K) c.1),(Zf (tyL tyDy) c.2),Zd,Zd]) (fun K=>(owF tyBl)):=⟨fun c=>_,fun K c E =>
 (zff_ (i:=2) rfl (z9_ (zd_ (zc_ 0 rfl))) fun dA=>zfS_ (i:=2) rfl (at_ [(Zf (Qq0 K) c.1),(Zf (tyL tyDy) c.2),(Zf (tyL tyDy) dA),Zd] (zbp_ (LS:=(fun _:Unit=>[(Zf (Qq0 K) c.1),(Zf (tyL tyDy) c.2),(Zf (tyL tyDy) dA),Zd])) (zbI_ (L':=[(Zf (Qq0 K) c.1),(Zf (tyL tyDy) c.2),(Zf (tyL tyDy) dA),Zd]) (S4 .nil) (zgH_ (LS:=(fun _:Unit=>[(Zf (Qq0 K) c.1),(Zf (tyL tyDy) c.2),(Zf (tyL tyDy) dA),Zd])) (s0:=()) (ei_l (EvO.fr (zbG_ (zi_ (zi_ (zi_ (zi_ zo_)))) (zn_ (zn_ (zn_ (zn_ zY_)))) (ze_ (zj_ 1) (ze_ (zj_ 3) (ze_ (zj_ 4) (ze_ (zj_ 6) (zd_ (zj_ 8))))))))) (zE_ 3) fun _ je=>at_ [(Zf (Qq0 K) c.1),(Zf (tyL tyDy) c.2),(Zf (tyL tyDy) dA),sI je] (s_if (zeF_ (z1_ (zfD_ (zr_ zae_ (zc_ 2 rfl) (zc_ 3 rfl))))) (zbD_ (zab_ zbL_) (EvF.ow (znu_ false))) (zp_ (s:=()) (.same (.same (.same (.dead .nil)))))))) fun _=>(at_ [(Zf (Qq0 K) c.1),(Zf (tyL tyDy) c.2),(Zf (tyL tyDy) dA),Zd] (zbp_ (LS:=(fun _:Unit=>[(Zf (Qq0 K) c.1),(Zf (tyL tyDy) c.2),(Zf (tyL tyDy) dA),Zd])) (s_if (zpU_ (zeF_ (z1_ (zfD_ (zr_ zae_ (zc_ 2 rfl) (zj_ 0))))) (zpU_ (zeF_ (z1_ (zm_ (zd_ (zr_ zae_ (zc_ 2 rfl) (zj_ 5)))))) (zeF_ (z1_ (zm_ (zd_ (zr_ zae_ (zc_ 2 rfl) (zj_ 7)))))))) (zbD_ (zab_ zbL_) (EvF.ow (znu_ false))) (zp_ (s:=()) (S4 .nil))) fun _=>(at_ [(Zf (Qq0 K) c.1),(Zf (tyL tyDy) c.2),(Zf (tyL tyDy) dA),Zd] (zbD_ (zab_ zbL_) (EvF.ow (zr_ zph_ (zaG_ (zbe_ zip_) (zc_ 2 rfl)) (zaG_ (zbe_ zip_) (zc_ 1 rfl)))))))))))⟩
def zcc_ (ae:Qq2)(bC:(List Dy)):Mo Bool:=fnO (zdT_.1 (ae,bC))
def zax_ (K:Fgg):Sp:=Ct K (csCons (Qq0 K) (csLast (tyL tyDy))) (fun c=>zcc_ c.1 c.2) (owF tyBl)
def t_law (K:Fgg):TS:=(tSeq (tAsg (tCall (zes_ K) [] E0 (tCons (mVar 0) tNil)) (gName 1)) (tSeq (tAsg (tComp ["_law_part"] [] (iAny K (mVar 1)) (gName 0) tTrue (mVar 0)) (gName 2)) (tSeq (tFor (iAny K (tLst (tCons (tC (.int 1)) (tCons (tC (.int 3)) (tCons (tC (.int 4)) (tCons (tC (.int 6)) (tCons (tC (.int 8)) tNil))))))) (gName 3) (tAsg (tCB (mList K) (tCons (tOp (mIx K) (mVar 1) (mVar 3)) tNil)) (gSub (mVar 2) (mVar 3) mSet))) (tSeq (tAsg (tSl (mSl K) (mVar 2) (mPart (tC (.int 4))) tNoPart) (gName 4)) (tSeq (tAsg (tMake (gA K "Asking") (zM_ K) [] E0 (tCons (tOp (mIx K) (mVar 2) (tC (.int 0))) (tCons (tOp (mIx K) (mVar 2) (tC (.int 1))) (tCons (tOp (mIx K) (mVar 2) (tC (.int 2))) (tCons (tOp (mIx K) (mVar 2) (tC (.int 3))) (tCons (tOp (mIx K) (mVar 4) (tC (.int 0))) (tCons (tOp (mIx K) (mVar 4) (tC (.int 1))) (tCons (tOp (mIx K) (mVar 4) (tC (.int 2))) (tCons (tOp (mIx K) (mVar 4) (tC (.int 3))) (tCons (tOp (mIx K) (mVar 4) (tC (.int 4))) tNil)))))))))) (gName 5)) (tSeq (mIfS (mOr (mTest (tOp (mNeA K) (mVar 2) (mVar 1))) (tNot (mTest (tCall (zax_ K) [] E0 (tCons (mVar 5) (tCons (mVar 1) tNil)))))) (tRet (tC (.bl false))) tNext) (tSeq (tAsg (tMake (gA K "Asking") (zM_ K) [.non,(.int 0),.non,(.int 6),.non] E0 (tCons (tOp (mIx K) (mVar 2) (tC (.int 0))) (tCons (tOp (mIx K) (mVar 2) (tC (.int 1))) (tCons (tOp (mIx K) (mVar 2) (tC (.int 2))) (tCons (tOp (mIx K) (mVar 2) (tC (.int 3))) tNil))))) (gName 6)) (tSeq (tAsg (tOp mAdd (tSl (mSl K) (mVar 1) tNoPart (mPart (tC (.int 4)))) (tLst (tCons (tLst tNil) (tCons (tC (.int 0)) (tCons (tLst tNil) (tCons (tC (.int 6)) (tCons (tLst tNil) tNil))))))) (gName 7)) (tSeq (mIfS (tNot (mTest (tCall (zax_ K) [] E0 (tCons (mVar 6) (tCons (mVar 7) tNil))))) (tRet (tC (.bl false))) tNext) (tSeq (tAsg (tMake (gA K "Asking") (zM_ K) [] E0 (tCons (tOp (mIx K) (mVar 2) (tC (.int 0))) (tCons (tLst tNil) (tCons (tC .non) (tCons (tLst tNil) (tCons (tC .non) (tCons (tC (.int 0)) (tCons (tC .non) (tCons (tC (.int 12)) (tCons (tC .non) tNil)))))))))) (gName 8)) (tSeq (mIfS (tNot (mTest (tCall (zax_ K) [] E0 (tCons (mVar 8) (tCons (tLst (tCons (tOp (mIx K) (mVar 1) (tC (.int 0))) (tCons (tLst tNil) (tCons (tC .non) (tCons (tLst tNil) (tCons (tLst tNil) (tCons (tC (.int 0)) (tCons (tLst tNil) (tCons (tC (.int 12)) (tCons (tLst tNil) tNil)))))))))) tNil))))) (tRet (tC (.bl false))) tNext) (tSeq (tAsg (tMake (gA K "Asking") (zM_ K) [] E0 (taK (pm43 .non (.int 6)) (tCons (tOp (mIx K) (mVar 2) (tC (.int 0))) (tCons (tOp (mIx K) (mVar 2) (tC (.int 1))) (tCons (tOp (mIx K) (mVar 2) (tC (.int 2))) (tCons (tOp (mIx K) (mVar 2) (tC (.int 3))) tNil)))) (tCons (tOp (mIx K) (mVar 4) (tC (.int 1))) (tCons (tOp (mIx K) (mVar 4) (tC (.int 2))) (tCons (tOp (mIx K) (mVar 4) (tC (.int 4))) tNil))))) (gName 9)) (tSeq (tAsg (tOp mAdd (tSl (mSl K) (mVar 1) tNoPart (mPart (tC (.int 4)))) (tLst (tCons (tLst tNil) (tCons (tOp (mIx K) (mVar 1) (tC (.int 5))) (tCons (tOp (mIx K) (mVar 1) (tC (.int 6))) (tCons (tC (.int 6)) (tCons (tOp (mIx K) (mVar 1) (tC (.int 8))) tNil))))))) (gName 10)) (tSeq (mIfS (tNot (mTest (tCall (zax_ K) [] E0 (tCons (mVar 9) (tCons (mVar 10) tNil))))) (tRet (tC (.bl false))) tNext) (tSeq (tFor (iAny K (tLst (tCons (tC (.int 1)) (tCons (tC (.int 3)) (tCons (tC (.int 4)) (tCons (tC (.int 6)) (tCons (tC (.int 8)) tNil))))))) (gName 3) (tDrop (tBM K "list" rAppend (tOp (mIx K) (mVar 2) (mVar 3)) (tCons (tTup (tCons (tC (.int 1)) (tCons (tC (.int 36)) tNil))) tNil)))) (tRet (mAndV (tCall (zax_ K) [] E0 (tCons (mVar 5) (tCons (mVar 1) tNil))) (mAndV (tCall (zax_ K) [] E0 (tCons (mVar 6) (tCons (mVar 7) tNil))) (tCall (zax_ K) [] E0 (tCons (mVar 9) (tCons (mVar 10) tNil)))))))))))))))))))))
def zpQ_:WC (List Int) Bool (fun K _=>t_law K) (fun K c=>[(Zf (tySc K) c),Zd,Zd,Zd,Zd,Zd,Zd,Zd,Zd,Zd,Zd]) (fun K=>(owF tyBl)):=⟨fun c=>_,fun K c E =>
 (zff_ (i:=1) rfl (z9_ (zd_ (zc_ 0 rfl))) fun P=>zfS_ (i:=1) rfl (at_ [(Zf (tySc K) c),(Zf (tyL tyDy) P),Zd,Zd,Zd,Zd,Zd,Zd,Zd,Zd,Zd]
(zff_ (i:=2) rfl (EvO.map znF_ (zaQ_ (ei_l (zc_ 1 rfl)) (zE_ 0) (fun _=>dead1) (fun x=>zaM_) (fun x=>(zc_ 0 rfl)))) fun h0=>(at_ [(Zf (tySc K) c),(Zf (tyL tyDy) P),(Zo (owLO owU) h0),Zd,Zd,Zd,Zd,Zd,Zd,Zd,Zd]
(zbp_ (LS:=(fun h1:List (Dy ⊕ List Dy)=>[(Zf (tySc K) c),(Zf (tyL tyDy) P),(Zo (owLO owU) h1),Zd,Zd,Zd,Zd,Zd,Zd,Zd,Zd])) (zbI_ (L':=[(Zf (tySc K) c),(Zf (tyL tyDy) P),(Zo (owLO owU) h0),Zd,Zd,Zd,Zd,Zd,Zd,Zd,Zd]) (S4 (S4 (.same (.same (.same .nil))))) (zgH_ (LS:=(fun h1:List (Dy ⊕ List Dy)=>[(Zf (tySc K) c),(Zf (tyL tyDy) P),(Zo (owLO owU) h1),Zd,Zd,Zd,Zd,Zd,Zd,Zd,Zd])) (s0:=h0) (ei_l (EvO.fr (zbG_ (zi_ (zi_ (zi_ (zi_ zo_)))) (zn_ (zn_ (zn_ (zn_ zY_)))) (ze_ (zj_ 1) (ze_ (zj_ 3) (ze_ (zj_ 4) (ze_ (zj_ 6) (zd_ (zj_ 8))))))))) (zE_ 3) fun h1 k=>at_ [(Zf (tySc K) c),(Zf (tyL tyDy) P),(Zo (owLO owU) h1),sI k,Zd,Zd,Zd,Zd,Zd,Zd,Zd]
(zcf_ (zoO_ (O:=(owLO owU)) (i:=2) (f:=Sum.inr) (zlC_ rfl) (zag_ zfV_) id (zfF_ zgE_ (zd_ (zdL_ (zdU_ (m_L zqg_)) (zr_ zae_ (zc_ 1 rfl) (zc_ 3 rfl))))) (zc_ 3 rfl) fun h3=>(at_ [(Zf (tySc K) c),(Zf (tyL tyDy) P),(Zo (owLO owU) h3),sI k,Zd,Zd,Zd,Zd,Zd,Zd,Zd] (zp_ (s:=h3) (.same (.same (.same (.dead (S4 (.same (.same (.same .nil)))))))))))))) fun h1=>(at_ [(Zf (tySc K) c),(Zf (tyL tyDy) P),(Zo (owLO owU) h1),Zd,Zd,Zd,Zd,Zd,Zd,Zd,Zd]
(zp8_ (i:=2) (j:=4) rfl rfl (by decide) fun pp vv=>(at_ [(Zf (tySc K) c),(Zf (tyL tyDy) P),(Zo (owLOp pp vv owU) h1),Zd,(Zf (tyL tyV0) (cutV vv (some 4) none)),Zd,Zd,Zd,Zd,Zd,Zd]
(zbC_ (i:=5) rfl (zkk_ Qi4) (zhN_ (ze_ (zdL_ (zdU_ zbc_) (zr_ zae_ (zai_ 2 rfl) (zj_ 0))) (ze_ (zdL_ (zdU_ (m_L (m_T (m_C Qi3 (m_1 zbc_))))) (zr_ zae_ (zai_ 2 rfl) (zj_ 1))) (ze_ (zdL_ (zdU_ (m_O Qi7 (fun _ _ _=>nn_u (fun _ _ _=>zdN_) (fun _ _ _=>zdN_)))) (zr_ zae_ (zai_ 2 rfl) (zj_ 2))) (ze_ (zdL_ (zdU_ (m_L Qi3)) (zr_ zae_ (zai_ 2 rfl) (zj_ 3))) (ze_ (zdL_ (zdU_ (m_O (m_L (m_T (m_C Qi3 (m_C Qi3 (m_C zbc_ (m_1 Qi3)))))) (fun _ _ _=>nn_l))) (zdD_ (i:=2) (j:=4) rfl rfl)) (ze_ (zdL_ (zdU_ zf9_) (zdD_ (i:=2) (j:=4) rfl rfl)) (ze_ (zdL_ (zdU_ (m_O (m_L Qi3) (fun _ _ _=>nn_l))) (zdD_ (i:=2) (j:=4) rfl rfl)) (ze_ (zdL_ (zdU_ zf9_) (zdD_ (i:=2) (j:=4) rfl rfl)) (zd_ (zdL_ (zdU_ (m_O (m_L Qi3) (fun _ _ _=>nn_l))) (zdD_ (i:=2) (j:=4) rfl rfl)))))))))))) fun x5=>zfS_ (i:=5) rfl (at_ [(Zf (tySc K) c),(Zf (tyL tyDy) P),(Zo (owLOp pp vv owU) h1),Zd,(Zf (tyL tyV0) (cutV vv (some 4) none)),(Zf (Qq0 K) x5),Zd,Zd,Zd,Zd,Zd]
(zbp_ (LS:=(fun _:Unit=>[(Zf (tySc K) c),(Zf (tyL tyDy) P),(Zo (owLOp pp vv owU) h1),Zd,(Zf (tyL tyV0) (cutV vv (some 4) none)),(Zf (Qq0 K) x5),Zd,Zd,Zd,Zd,Zd])) (s_if (zpU_ (z1_ (zr_ zpd_ (zaG_ (zbe_ zip_) (zai_ 2 rfl)) (zaG_ (zbe_ zip_) (zc_ 1 rfl)))) (zeF_ (z1_ (zm_ (ze_ (zc_ 5 rfl) (zd_ (zc_ 1 rfl))))))) (zbD_ (zab_ zbL_) (EvF.ow (znu_ false))) (zp_ (s:=()) (S4 (S4 (.same (.same (.same .nil))))))) fun _=>(at_ [(Zf (tySc K) c),(Zf (tyL tyDy) P),(Zo (owLOp pp vv owU) h1),Zd,(Zf (tyL tyV0) (cutV vv (some 4) none)),(Zf (Qq0 K) x5),Zd,Zd,Zd,Zd,Zd]
(zbC_ (i:=6) rfl (zkk_ Qi4) (zkQ_ (zg7_ (zg7_ (zg7_ (zmO_ (Qt:=(csCons (tyOpt (tyL Qq4)) (csCons tyInt (csCons (tyOpt (tyL Qq1)) (csCons tyInt (csLast (tyOpt (tyL Qq1)))))))) (ct:=(none,0,none,6,none)) fun _=>⟨_,_,rfl,rfl,_,_,rfl,rfl,_,_,rfl,rfl,_,_,rfl,rfl,_,rfl,rfl⟩)))) (ze_ (zdL_ (zdU_ zbc_) (zr_ zae_ (zai_ 2 rfl) (zj_ 0))) (ze_ (zdL_ (zdU_ (m_L (m_T (m_C Qi3 (m_1 zbc_))))) (zr_ zae_ (zai_ 2 rfl) (zj_ 1))) (ze_ (zdL_ (zdU_ (m_O Qi7 (fun _ _ _=>nn_u (fun _ _ _=>zdN_) (fun _ _ _=>zdN_)))) (zr_ zae_ (zai_ 2 rfl) (zj_ 2))) (zd_ (zdL_ (zdU_ (m_L Qi3)) (zr_ zae_ (zai_ 2 rfl) (zj_ 3)))))))) fun x6=>zfS_ (i:=6) rfl (at_ [(Zf (tySc K) c),(Zf (tyL tyDy) P),(Zo (owLOp pp vv owU) h1),Zd,(Zf (tyL tyV0) (cutV vv (some 4) none)),(Zf (Qq0 K) x5),(Zf (Qq0 K) x6),Zd,Zd,Zd,Zd]
(zff_ (i:=7) rfl (zgy_ zds_ (EvO.fr (O:=(owL tyDy)) (znn_ (zc_ 1 rfl) zlY_ (zj5_ (zj_ 4)))) (EvO.fr (O:=(owL tyDy)) (zbG_ (zi_ (zi_ (zi_ (zi_ zo_)))) (zn_ (zn_ (zn_ (zn_ zY_)))) (ze_ (zaG_ (zbe_ zip_) (EvO.fr (zaf_ tyDy))) (ze_ (zaG_ (zbe_ zea_) (zj_ 0)) (ze_ (zaG_ (zbe_ zip_) (EvO.fr (zaf_ tyDy))) (ze_ (zaG_ (zbe_ zea_) (zj_ 6)) (zd_ (zaG_ (zbe_ zip_) (EvO.fr (zaf_ tyDy))))))))))) fun x7=>zfS_ (i:=7) rfl (at_ [(Zf (tySc K) c),(Zf (tyL tyDy) P),(Zo (owLOp pp vv owU) h1),Zd,(Zf (tyL tyV0) (cutV vv (some 4) none)),(Zf (Qq0 K) x5),(Zf (Qq0 K) x6),(Zf (tyL tyDy) x7),Zd,Zd,Zd]
(zbp_ (LS:=(fun _:Unit=>[(Zf (tySc K) c),(Zf (tyL tyDy) P),(Zo (owLOp pp vv owU) h1),Zd,(Zf (tyL tyV0) (cutV vv (some 4) none)),(Zf (Qq0 K) x5),(Zf (Qq0 K) x6),(Zf (tyL tyDy) x7),Zd,Zd,Zd])) (s_if (zeF_ (z1_ (zm_ (ze_ (zc_ 6 rfl) (zd_ (zc_ 7 rfl)))))) (zbD_ (zab_ zbL_) (EvF.ow (znu_ false))) (zp_ (s:=()) (S4 (S4 (.same (.same (.same .nil))))))) fun _=>(at_ [(Zf (tySc K) c),(Zf (tyL tyDy) P),(Zo (owLOp pp vv owU) h1),Zd,(Zf (tyL tyV0) (cutV vv (some 4) none)),(Zf (Qq0 K) x5),(Zf (Qq0 K) x6),(Zf (tyL tyDy) x7),Zd,Zd,Zd]
(zbC_ (i:=8) rfl (zkk_ Qi4) (zhN_ (ze_ (zdL_ (zdU_ zbc_) (zr_ zae_ (zai_ 2 rfl) (zj_ 0))) (ze_ (EvO.fr (zaf_ _)) (ze_ ze1_ (ze_ (EvO.fr (zaf_ _)) (ze_ ze1_ (ze_ (zj_ 0) (ze_ ze1_ (ze_ (zj_ 12) (zd_ ze1_)))))))))) fun x8=>zfS_ (i:=8) rfl (at_ [(Zf (tySc K) c),(Zf (tyL tyDy) P),(Zo (owLOp pp vv owU) h1),Zd,(Zf (tyL tyV0) (cutV vv (some 4) none)),(Zf (Qq0 K) x5),(Zf (Qq0 K) x6),(Zf (tyL tyDy) x7),(Zf (Qq0 K) x8),Zd,Zd]
(zbp_ (LS:=(fun _:Unit=>[(Zf (tySc K) c),(Zf (tyL tyDy) P),(Zo (owLOp pp vv owU) h1),Zd,(Zf (tyL tyV0) (cutV vv (some 4) none)),(Zf (Qq0 K) x5),(Zf (Qq0 K) x6),(Zf (tyL tyDy) x7),(Zf (Qq0 K) x8),Zd,Zd])) (s_if (zeF_ (z1_ (zm_ (ze_ (zc_ 8 rfl) (zd_ (EvO.fr (O:=(owL tyDy)) (zbG_ (zi_ (zi_ (zi_ (zi_ (zi_ (zi_ (zi_ (zi_ zo_)))))))) (zn_ (zn_ (zn_ (zn_ (zn_ (zn_ (zn_ (zn_ zY_)))))))) (ze_ (zr_ zae_ (zc_ 1 rfl) (zj_ 0)) (ze_ (zaG_ (zbe_ zip_) (EvO.fr (zaf_ tyDy))) (ze_ (zaG_ (zbe_ zqo_) zfM_) (ze_ (zaG_ (zbe_ zip_) (EvO.fr (zaf_ tyDy))) (ze_ (zaG_ (zbe_ zip_) (EvO.fr (zaf_ tyDy))) (ze_ (zaG_ (zbe_ zea_) (zj_ 0)) (ze_ (zaG_ (zbe_ zip_) (EvO.fr (zaf_ tyDy))) (ze_ (zaG_ (zbe_ zea_) (zj_ 12)) (zd_ (zaG_ (zbe_ zip_) (EvO.fr (zaf_ tyDy))))))))))))))))))) (zbD_ (zab_ zbL_) (EvF.ow (znu_ false))) (zp_ (s:=()) (S4 (S4 (.same (.same (.same .nil))))))) fun _=>(at_ [(Zf (tySc K) c),(Zf (tyL tyDy) P),(Zo (owLOp pp vv owU) h1),Zd,(Zf (tyL tyV0) (cutV vv (some 4) none)),(Zf (Qq0 K) x5),(Zf (Qq0 K) x6),(Zf (tyL tyDy) x7),(Zf (Qq0 K) x8),Zd,Zd]
(zbC_ (i:=9) rfl (zkk_ Qi4) (zhN_ (ea_K (D0:=(tyOpt (tyL Qq4))) (D3:=tyInt) (x0:=none) (x3:=6) (fun _=>rfl) (fun _=>rfl) (ze_ (zdL_ (zdU_ zbc_) (zr_ zae_ (zai_ 2 rfl) (zj_ 0))) (ze_ (zdL_ (zdU_ (m_L (m_T (m_C Qi3 (m_1 zbc_))))) (zr_ zae_ (zai_ 2 rfl) (zj_ 1))) (ze_ (zdL_ (zdU_ (m_O Qi7 (fun _ _ _=>nn_u (fun _ _ _=>zdN_) (fun _ _ _=>zdN_)))) (zr_ zae_ (zai_ 2 rfl) (zj_ 2))) (zd_ (zdL_ (zdU_ (m_L Qi3)) (zr_ zae_ (zai_ 2 rfl) (zj_ 3))))))) (ze_ (zdL_ (zdU_ zf9_) (zdD_ (i:=2) (j:=4) rfl rfl)) (ze_ (zdL_ (zdU_ (m_O (m_L Qi3) (fun _ _ _=>nn_l))) (zdD_ (i:=2) (j:=4) rfl rfl)) (zd_ (zdL_ (zdU_ (m_O (m_L Qi3) (fun _ _ _=>nn_l))) (zdD_ (i:=2) (j:=4) rfl rfl))))))) fun x9=>zfS_ (i:=9) rfl (at_ [(Zf (tySc K) c),(Zf (tyL tyDy) P),(Zo (owLOp pp vv owU) h1),Zd,(Zf (tyL tyV0) (cutV vv (some 4) none)),(Zf (Qq0 K) x5),(Zf (Qq0 K) x6),(Zf (tyL tyDy) x7),(Zf (Qq0 K) x8),(Zf (Qq0 K) x9),Zd]
(zff_ (i:=10) rfl (zgy_ zds_ (EvO.fr (O:=(owL tyDy)) (znn_ (zc_ 1 rfl) zlY_ (zj5_ (zj_ 4)))) (EvO.fr (O:=(owL tyDy)) (zbG_ (zi_ (zi_ (zi_ (zi_ zo_)))) (zn_ (zn_ (zn_ (zn_ zY_)))) (ze_ (zaG_ (zbe_ zip_) (EvO.fr (zaf_ tyDy))) (ze_ (zr_ zae_ (zc_ 1 rfl) (zj_ 5)) (ze_ (zr_ zae_ (zc_ 1 rfl) (zj_ 6)) (ze_ (zaG_ (zbe_ zea_) (zj_ 6)) (zd_ (zr_ zae_ (zc_ 1 rfl) (zj_ 8)))))))))) fun cU=>zfS_ (i:=10) rfl (at_ [(Zf (tySc K) c),(Zf (tyL tyDy) P),(Zo (owLOp pp vv owU) h1),Zd,(Zf (tyL tyV0) (cutV vv (some 4) none)),(Zf (Qq0 K) x5),(Zf (Qq0 K) x6),(Zf (tyL tyDy) x7),(Zf (Qq0 K) x8),(Zf (Qq0 K) x9),(Zf (tyL tyDy) cU)]
(zbp_ (LS:=(fun _:Unit=>[(Zf (tySc K) c),(Zf (tyL tyDy) P),(Zo (owLOp pp vv owU) h1),Zd,(Zf (tyL tyV0) (cutV vv (some 4) none)),(Zf (Qq0 K) x5),(Zf (Qq0 K) x6),(Zf (tyL tyDy) x7),(Zf (Qq0 K) x8),(Zf (Qq0 K) x9),(Zf (tyL tyDy) cU)])) (s_if (zeF_ (z1_ (zm_ (ze_ (zc_ 9 rfl) (zd_ (zc_ 10 rfl)))))) (zbD_ (zab_ zbL_) (EvF.ow (znu_ false))) (zp_ (s:=()) (S4 (S4 (.same (.same (.same .nil))))))) fun _=>(at_ [(Zf (tySc K) c),(Zf (tyL tyDy) P),(Zo (owLOp pp vv owU) h1),Zd,(Zf (tyL tyV0) (cutV vv (some 4) none)),(Zf (Qq0 K) x5),(Zf (Qq0 K) x6),(Zf (tyL tyDy) x7),(Zf (Qq0 K) x8),(Zf (Qq0 K) x9),(Zf (tyL tyDy) cU)]
(zbI_ (L':=[(Zf (tySc K) c),(Zf (tyL tyDy) P),(Zo (owLOp pp vv owU) h1),Zd,Zd,(Zf (Qq0 K) x5),(Zf (Qq0 K) x6),(Zf (tyL tyDy) x7),(Zf (Qq0 K) x8),(Zf (Qq0 K) x9),(Zf (tyL tyDy) cU)]) (S4 (.dead (S4 (.same (.same .nil))))) (zoq_ (i:=2) rfl (at_ [(Zf (tySc K) c),(Zf (tyL tyDy) P),(Zo (owLO owU) h1),Zd,Zd,(Zf (Qq0 K) x5),(Zf (Qq0 K) x6),(Zf (tyL tyDy) x7),(Zf (Qq0 K) x8),(Zf (Qq0 K) x9),(Zf (tyL tyDy) cU)]
(zbp_ (LS:=(fun h2:List (Dy ⊕ List Dy)=>[(Zf (tySc K) c),(Zf (tyL tyDy) P),(Zo (owLO owU) h2),Zd,Zd,(Zf (Qq0 K) x5),(Zf (Qq0 K) x6),(Zf (tyL tyDy) x7),(Zf (Qq0 K) x8),(Zf (Qq0 K) x9),(Zf (tyL tyDy) cU)])) (zbI_ (L':=[(Zf (tySc K) c),(Zf (tyL tyDy) P),(Zo (owLO owU) h1),Zd,Zd,(Zf (Qq0 K) x5),(Zf (Qq0 K) x6),(Zf (tyL tyDy) x7),(Zf (Qq0 K) x8),(Zf (Qq0 K) x9),(Zf (tyL tyDy) cU)]) (S4 (S4 (.same (.same (.same .nil))))) (zgH_ (LS:=(fun h2:List (Dy ⊕ List Dy)=>[(Zf (tySc K) c),(Zf (tyL tyDy) P),(Zo (owLO owU) h2),Zd,Zd,(Zf (Qq0 K) x5),(Zf (Qq0 K) x6),(Zf (tyL tyDy) x7),(Zf (Qq0 K) x8),(Zf (Qq0 K) x9),(Zf (tyL tyDy) cU)])) (s0:=h1) (ei_l (EvO.fr (zbG_ (zi_ (zi_ (zi_ (zi_ zo_)))) (zn_ (zn_ (zn_ (zn_ zY_)))) (ze_ (zj_ 1) (ze_ (zj_ 3) (ze_ (zj_ 4) (ze_ (zj_ 6) (zd_ (zj_ 8))))))))) (zE_ 3) fun h2 k=>at_ [(Zf (tySc K) c),(Zf (tyL tyDy) P),(Zo (owLO owU) h2),sI k,Zd,(Zf (Qq0 K) x5),(Zf (Qq0 K) x6),(Zf (tyL tyDy) x7),(Zf (Qq0 K) x8),(Zf (Qq0 K) x9),(Zf (tyL tyDy) cU)]
(zcf_ (zkc_ (O:=(owLO owU)) (i:=2) (znH_ (zqh_ (zlC_ rfl) (zc_ 3 rfl))) zfV_ (zaG_ (znr_ Qi2 (fun _=>rfl)) (zcd_ (zi_ zo_) (ze_ (zj_ 1) (zd_ (zj_ 36))))) fun h3=>(at_ [(Zf (tySc K) c),(Zf (tyL tyDy) P),(Zo (owLO owU) h3),sI k,Zd,(Zf (Qq0 K) x5),(Zf (Qq0 K) x6),(Zf (tyL tyDy) x7),(Zf (Qq0 K) x8),(Zf (Qq0 K) x9),(Zf (tyL tyDy) cU)] (zp_ (s:=h3) (.same (.same (.same (.dead (S4 (.same (.same (.same .nil)))))))))))))) fun h4=>(at_ [(Zf (tySc K) c),(Zf (tyL tyDy) P),(Zo (owLO owU) h4),Zd,Zd,(Zf (Qq0 K) x5),(Zf (Qq0 K) x6),(Zf (tyL tyDy) x7),(Zf (Qq0 K) x8),(Zf (Qq0 K) x9),(Zf (tyL tyDy) cU)]
(ziC_ (zm_ (ze_ (zc_ 5 rfl) (zd_ (zc_ 1 rfl)))) (ziC_ (zm_ (ze_ (zc_ 6 rfl) (zd_ (zc_ 7 rfl)))) (zbD_ (zab_ zbL_) (EvF.ow (zm_ (ze_ (zc_ 9 rfl) (zd_ (zc_ 10 rfl)))))))))))))))))))))))))))))))))))))))))⟩
def f_law (au:(List Int)):Mo Bool:=fnO (zpQ_.1 au)
def top (i:Nat):Stmt:=PySem.Challenge.pw_cardshop_k40_an_asking.main.body.getD i (.Pass ⟨0,0,0,0⟩)
abbrev zeM_:Stmt:=top 34
abbrev zeJ_:Stmt:=top 34
abbrev zkG_:Stmt:=top 41
abbrev zeN_:Stmt:=top 43
abbrev zjz_:Stmt:=top 35
abbrev zc9_:Stmt:=top 44
abbrev ziK_:Stmt:=top 36
abbrev zkS_:Stmt:=top 39
abbrev zf6_:Stmt:=top 45
abbrev zeL_:Stmt:=top 37
abbrev zg2_:Stmt:=top 46
abbrev zit_:Stmt:=top 9
abbrev zfp_:Stmt:=top 21
abbrev zi4_:Stmt:=top 17
abbrev zg8_:Stmt:=top 18
abbrev zgv_:Stmt:=top 38
abbrev zgr_:Stmt:=top 47
abbrev zce_:Stmt:=top 48
abbrev ziU_:Stmt:=top 11
abbrev zie_:Stmt:=top 13
abbrev zg6_:Stmt:=top 14
abbrev zjM_:Stmt:=top 40
abbrev zd8_:Stmt:=top 49
abbrev zfY_:Stmt:=top 51
abbrev zin_:Stmt:=top 19
abbrev zfT_:Stmt:=top 50
abbrev ziy_:Stmt:=top 16
abbrev zfy_:Stmt:=top 42
abbrev zdP_:Stmt:=inClass (top 33) 0
abbrev zgc_:Stmt:=top 53
abbrev zjc_:Stmt:=top 55
abbrev zi3_:Stmt:=top 57
abbrev zid_:Stmt:=top 56
abbrev zgW_:Stmt:=top 58
abbrev zjs_:Stmt:=top 59
abbrev zhZ_:Stmt:=top 60
abbrev zhj_:Stmt:=top 61
abbrev zij_:Stmt:=top 62
abbrev ziQ_:Stmt:=top 63
abbrev zh6_:Stmt:=top 54
abbrev zkb_:Stmt:=top 64
abbrev zp6_:Stmt:=top 65
structure Fx (K:Fgg):Prop where
 exc_NoAsking:excK K (gA K "NoAsking")=true
section
variable (P:Program)(w:World)(K:Fgg)(mg:Str->Option Value)(base:Heap)
abbrev zcl_:Prop:=Gd P w K mg base CX0 1 "own_list" ["values"] (zbZ_ K)
abbrev zcs_:Prop:=Gd P w K mg base CX0 1 "own_list" ["values"] (zaN_ K)
abbrev zaF_:Prop:=Gd P w K mg base (CXx P w) 1 "ask_for" ["holds", "words"] (zt_ K)
abbrev zcn_:Prop:=Gd P w K mg base (CXx P w) 2 "check_lengths" Qn1 (zbW_ K)
abbrev zcV_:Prop:=Gd P w K mg base CX0 1 "mates_by" Qn1 (zbg_ K)
abbrev za0_:Prop:=Gd P w K mg base (CXx P w) 2 "check_middle_word" Qn1 (zaP_ K)
abbrev zga_:Prop:=Gd P w K mg base CX0 2 "names_of" Qn1 (ze8_ K)
abbrev zhV_:Prop:=Gd P w K mg base CX0 1 "is_name" ["text"] (zfW_ K)
abbrev zdB_:Prop:=Gd P w K mg base (CXx P w) 3 "check_names" Qn1 (zc4_ K)
abbrev zat_:Prop:=Gd P w K mg base CX0 2 "middle_fields" Qn1 (zak_ K)
abbrev zey_:Prop:=Gd P w K mg base CX0 3 "fields_due" Qn1 (zdG_ K)
abbrev ze9_:Prop:=Gd P w K mg base CX0 1 "are_signs" ["text"] (zet_ K)
abbrev zdb_:Prop:=Gd P w K mg base CX0 1 "picked_signs" ["row"] (zck_ K)
abbrev zd0_:Prop:=Gd P w K mg base CX0 1 "width_of" ["field"] (zca_ K)
abbrev zen_:Prop:=Gd P w K mg base CX0 1 "columns_of" ["field"] (zdJ_ K)
abbrev zdv_:Prop:=Gd P w K mg base CX0 2 "pick_passes" Qn1 (zcY_ K)
abbrev zdH_:Prop:=Gd P w K mg base (CXx P w) 3 "check_picks" Qn1 (zc2_ K)
abbrev zaz_:Prop:=Gd P w K mg base (CXx P w) 3 "check_middle_widths" Qn1 (zav_ K)
abbrev zc3_:Prop:=Gd P w K mg base CX0 1 "is_whole" ["value"] (zaI_ K)
abbrev zfc_:Prop:=Gd P w K mg base CX0 2 "is_column" ["value", "most"] (zcD_ K)
abbrev zeu_:Prop:=Gd P w K mg base CX0 3 "make_board" ["wires"] (zdw_ K)
abbrev zgw_:Prop:=Gd P w K mg base CX0 4 "is_board" ["wires"] (zeY_ K)
abbrev zbY_:Prop:=Gd P w K mg base (CXx P w) 5 "check_counting" Qn1 (zbB_ K)
abbrev zdI_:Prop:=Gd P w K mg base CX0 3 "fields_kept" ["asking", "place"] (zc5_ K)
abbrev zeR_:Prop:=Gd P w K mg base CX0 1 "are_apart" ["one", "other"] (zd6_ K)
abbrev zdt_:Prop:=Gd P w K mg base (CXx P w) 4 "check_works" Qn1 (zc0_ K)
abbrev zgs_:Prop:=Gd P w K mg base CX0 2 "is_field" ["first", "last"] (ze0_ K)
abbrev zcX_:Prop:=Gd P w K mg base (CXx P w) 6 "check_asking" Qn1 (zci_ K)
abbrev zbA_:Prop:=Gk3 P w K mg base CX0 7 "Asking" (gA K "Asking") ["self", "deck", "picks", "middle", "order", "works", "breaks", "sums", "figures", "board"] ["breaks", "sums", "board"] [.non,(.int 0),.non,(.int 6),.non] .non (.int 6) (zM_ K)
abbrev zbS_:Prop:=Gd P w K mg base CX0 1 "_law_cell_at" ["_law_script", "_law_k"] (zam_ K)
abbrev zgz_:Prop:=Gd P w K mg base CX0 1 "_law_name" ["_law_cell"] (zfe_ K)
abbrev zcW_:Prop:=Gd P w K mg base CX0 1 "_law_span" ["_law_number", "_law_high", "_law_wide"] (zap_ K)
abbrev ze5_:Prop:=Gd P w K mg base CX0 1 "_law_other" ["_law_name_here", "_law_cell"] (zee_ K)
abbrev zek_:Prop:=Gd P w K mg base CX0 2 "_law_middle" ["_law_name_here", "_law_cell"] (zdK_ K)
abbrev zgg_:Prop:=Gd P w K mg base CX0 2 "_law_work" ["_law_number", "_law_k"] (zfh_ K)
abbrev zfb_:Prop:=Gd P w K mg base CX0 3 "_law_drawn" ["_law_script"] (zeE_ K)
abbrev zel_:Prop:=Gd P w K mg base CX0 1 "_law_turned" ["_law_field"] (zQ_ K)
abbrev zfj_:Prop:=Gd P w K mg base CX0 4 "_law_parts" ["_law_script"] (zes_ K)
abbrev zgm_:Prop:=Gd P w K mg base CX0 1 "_law_told" ["_law_asking"] (zfo_ K)
abbrev ze3_:Prop:=Gd P w K mg base CX0 1 "_law_whole" ["_law_found"] (zcA_ K)
abbrev zhs_:Prop:=Gd P w K mg base CX0 2 "_law_are" ["_law_asking", "_law_parts_here"] (zax_ K)
end
structure Ek (K:Fgg):Prop where
 w0:Fc K "Asking"
 a0:Fa K "Asking" "picks"
 a1:Fa K "Asking" "order"
 a2:Fa K "Asking" "works"
 a3:Fa K "Asking" "sums"
 a4:Fa K "Asking" "middle"
 a5:Fa K "Asking" "deck"
 a6:Fa K "Asking" "breaks"
 a7:Fa K "Asking" "figures"
 a8:Fa K "Asking" "board"
 f0:Fg K "own_list" zeM_
 f1:Fg K "own_list" zeJ_
 f2:Fg K "ask_for" zkG_
 f3:Fg K "check_lengths" zeN_
 f4:Fg K "mates_by" zjz_
 f5:Fg K "check_middle_word" zc9_
 f6:Fg K "names_of" ziK_
 f7:Fg K "is_name" zkS_
 f8:Fg K "check_names" zf6_
 f9:Fg K "middle_fields" zeL_
 f10:Fg K "fields_due" zg2_
 f11:Fg K "are_signs" zit_
 f12:Fg K "picked_signs" zfp_
 f13:Fg K "width_of" zi4_
 f14:Fg K "columns_of" zg8_
 f15:Fg K "pick_passes" zgv_
 f16:Fg K "check_picks" zgr_
 f17:Fg K "check_middle_widths" zce_
 f18:Fg K "is_whole" ziU_
 f19:Fg K "is_column" zie_
 f20:Fg K "make_board" zg6_
 f21:Fg K "is_board" zjM_
 f22:Fg K "check_counting" zd8_
 f23:Fg K "fields_kept" zfY_
 f24:Fg K "are_apart" zin_
 f25:Fg K "check_works" zfT_
 f26:Fg K "is_field" ziy_
 f27:Fg K "check_asking" zfy_
 f28:FmD K "Asking" "__init__" "Asking.__init__" zdP_ [.non,(.int 0),.non,(.int 6),.non]
 f29:Fg K "_law_cell_at" zgc_
 f30:Fg K "_law_name" zjc_
 f31:Fg K "_law_span" zi3_
 f32:Fg K "_law_other" zid_
 f33:Fg K "_law_middle" zgW_
 f34:Fg K "_law_work" zjs_
 f35:Fg K "_law_drawn" zhZ_
 f36:Fg K "_law_turned" zhj_
 f37:Fg K "_law_parts" zij_
 f38:Fg K "_law_told" ziQ_
 f39:Fg K "_law_whole" zh6_
 f40:Fg K "_law_are" zkb_
 f41:Fg K "law" zp6_
 t0:FtT K "MATING_WORDS" [[109,97,116,101,115],[119,105,116,104,111,117,116]]
 t1:FtT K "WORK_WORDS" [[112,108,117,115],[108,101,115,115],[116,105,109,101,115]]
 c0:Fv K "MOST_PICKS" (.int 8)
 c1:Fv K "MOST_KEYS" (.int 6)
 c2:Fv K "MOST_WORKS" (.int 4)
 c3:Fv K "MOST_SUMS" (.int 4)
 c4:Fv K "LONGEST_NAME" (.int 8)
 c5:Fv K "SMALL_LETTERS" (tx Qm0)
 c6:Fv K "SIGNS" (tx SG)
 c7:Fv K "CARD_WIDTH" (.int 40)
 c8:Fv K "BODY_WIDTH" (.int 36)
 c9:Fv K "MOST_BREAKS" (.int 3)
 c10:Fv K "MOST_FIGURES" (.int 12)
 b0:Fb K "list"
 b1:Fb K "len"
 b2:Fb K "all"
 b3:Fb K "range"
 b4:Fb K "zip"
 b5:Fb K "isinstance"
 b6:Fb K "int"
 b7:Fb K "bool"
 b8:Fb K "sorted"
 b9:Fb K "enumerate"
 b10:Fb K "min"
 b11:Fb K "str"
 k0:Fk K "NoAsking"
 k1:Fk K "MATING_WORDS"
 k2:Fk K "WORK_WORDS"
 u0:Fe1 K "NoAsking" fun bZ=>excK K bZ=true
structure En (K:Fgg)(mg:Str->Option Value):Prop extends Ek K where
 m:Mgo K mg
section
variable {K:Fgg}{mg:Str->Option Value}
theorem En.fx (e:En K mg):Fx K:=⟨e.u0.g⟩
variable {P:Program}{w:World}{base:Heap}
theorem zef_ (e:En K mg):zcl_ P w K mg base:=
 zbh_ e.m e.f0 (okC (N:=["values"]) (C:=(csLast (tyOpt (tyL Qq4)))) (O:=(owL Qq4)) (t:=fun E=>zcj_ K) (g:=za9_.1) 1 0 zq_ (fun _ _ _ _ _ _ E nd hr=>(zl_ (zJ_ (zjb_ (z5_ zk8_ (za_ 0) zcU_) (zS_ zh_) (zkK_ "list" (zaL_ rfl) (e.m.gb e.b0) (zb_ (za_ 0) zh_)))))) (za9_.2 K))
theorem zdY_ (e:En K mg):zcs_ P w K mg base:=
 zbh_ e.m e.f1 (okC (N:=["values"]) (C:=(csLast (tyOpt (tyL Qq1)))) (O:=(owL Qq1)) (t:=fun E=>zch_ K) (g:=za5_.1) 1 0 zq_ (fun _ _ _ _ _ _ E nd hr=>(zl_ (zJ_ (zjb_ (z5_ zk8_ (za_ 0) zcU_) (zS_ zh_) (zkK_ "list" (zaL_ rfl) (e.m.gb e.b0) (zb_ (za_ 0) zh_)))))) (za5_.2 K))
theorem zjG_ (e:En K mg):zaF_ P w K mg base:=
 zbh_ e.m e.f2 (okXU (N:=["holds", "words"]) (C:=(csCons tyBl (csLast tyStr))) (LS:=fun _:Unit=>[Zd,Zd]) (t:=fun E=>zht_ K E) (g:=zfx_.1) 2 0 (zN_ zq_) (fun _ _ _ _ _ _ E nd hr=>(zl_ (zan_ (zej_ (zpP_ (za_ 0))) (zl_ (zm9_ zmC_ rfl e.fx.exc_NoAsking (e.m.gk e.k0) (zb_ (za_ 1) zh_))) zI_))) (zfx_.2 K))
theorem zd1_ (e:En K mg)(g2:zaF_ P w K mg base):zcn_ P w K mg base:=
 zbh_ e.m e.f3 (okXU (N:=Qn1) (C:=(csLast (Qq0 K))) (LS:=fun _:Unit=>[Zd]) (t:=fun E=>zct_ K E) (g:=zas_.1) 1 0 zq_ (fun _ _ _ _ _ _ E nd hr=>(zg_ (zv_ (zw_ g2 (hm hr) zs_ (zb_ (z3_ zbV_ (zdc_ zK_ (e.m.gb e.b1) (zb_ (zu_ e.w0.cls e.a0.no (za_ 0)) zh_)) (zhp_ (e.m.gv e.c0))) (zb_ (zaa_ (l:=Qm13)) zh_)))) (zg_ (zv_ (zw_ g2 (hm hr) zs_ (zb_ (z3_ zbV_ (zdc_ zK_ (e.m.gb e.b1) (zb_ (zu_ e.w0.cls e.a1.no (za_ 0)) zh_)) (zhp_ (e.m.gv e.c1))) (zb_ (zaa_ (l:=Qm14)) zh_)))) (zg_ (zv_ (zw_ g2 (hm hr) zs_ (zb_ (z3_ zbV_ (zdc_ zK_ (e.m.gb e.b1) (zb_ (zu_ e.w0.cls e.a2.no (za_ 0)) zh_)) (zhp_ (e.m.gv e.c2))) (zb_ (zaa_ (l:=Qm12)) zh_)))) (zl_ (zv_ (zw_ g2 (hm hr) zs_ (zb_ (z3_ zbV_ (zdc_ zK_ (e.m.gb e.b1) (zb_ (zu_ e.w0.cls e.a3.no (za_ 0)) zh_)) (zhp_ (e.m.gv e.c3))) (zb_ (zaa_ (l:=Qm15)) zh_))))))))) (zas_.2 K))
theorem zhX_ (e:En K mg):zcV_ P w K mg base:=
 zbh_ e.m e.f4 (okC (N:=Qn1) (C:=(csLast (Qq0 K))) (O:=(owF tyBl)) (t:=fun E=>ziP_ K) (g:=fun c=>zgu_ c) 1 0 zq_ (fun _ _ _ _ _ _ E nd hr=>(zl_ (zJ_ (zbz_ (z3_ zft_ (zu_ e.w0.cls e.a4.no (za_ 0)) zcU_) (zdq_ (z3_ zkV_ (zC_ ix_M (zu_ e.w0.cls e.a4.no (za_ 0)) zf_ (fun _ _=>rfl)) (zhp_ (e.m.gkc e.k1)))))))) fun c E=>at_ [(Zf (Qq0 K) c)]
 (zbD_ (zab_ zbL_) (EvF.ow (zeP_ (zr_ zg1_ (zO_ (ns:=Qn0) (by decide +kernel) (n:=2) rfl (at_s (at_s at_0)) (zc_ 0 rfl)) zfM_) (zpl_ e.t0 (zpa_ (i:=0) at_0 at_0 (zaq_ (zO_ (ns:=Qn0) (by decide +kernel) (n:=2) rfl (at_s (at_s at_0)) (zc_ 0 rfl)))))))))
theorem zcx_ (e:En K mg)(g2:zaF_ P w K mg base)(g4:zcV_ P w K mg base):za0_ P w K mg base:=
 zbh_ e.m e.f5 (okXU (N:=["asking", "many"]) (C:=(csLast (Qq0 K))) (LS:=fun _:Unit=>[Zd,Zd]) (t:=fun E=>za1_ K E) (g:=zal_.1) 1 1 zq_ (fun _ _ _ _ _ _ E nd hr=>(zg_ (zan_ (z5_ zk8_ (zu_ e.w0.cls e.a4.no (za_ 0)) zcU_) (zl_ zoW_) zI_) (zg_ (pst 1 (zdc_ zK_ (e.m.gb e.b1) (zb_ (zu_ e.w0.cls e.a4.no (za_ 0)) zh_))) (zg_ (zv_ (zw_ g2 (hm hr) zs_ (zb_ (zbz_ (z3_ znk_ (za_ 1) zf_) (zdq_ (zms_ (zk_ g4 (hm hr) (zb_ (za_ 0) zh_)) (zdq_ (z3_ (zbN_ hr.u60) (zC_ ix_M (zu_ e.w0.cls e.a4.no (za_ 0)) zf_ (fun _ _=>rfl)) (zaa_ (l:=[102,105,114,115,116]))))))) (zb_ (zaa_ (l:=Qm11)) zh_)))) (zl_ (zv_ (zw_ g2 (hm hr) zs_ (zb_ (z3_ (zbN_ hr.u60) (za_ 1) (zjb_ (zbb_ (zk_ g4 (hm hr) (zb_ (za_ 0) zh_))) zf_ zf_)) (zb_ (zaa_ (l:=Qm10)) zh_))))))))) (zal_.2 K))
theorem zis_ (e:En K mg)(g4:zcV_ P w K mg base):zga_ P w K mg base:=
 zbh_ e.m e.f6 (okC (N:=Qn1) (C:=(csLast (Qq0 K))) (O:=(owL tyStr)) (t:=fun E=>zf5_ K) (g:=zeo_.1) 1 0 zq_ (fun _ _ _ _ _ _ E nd hr=>(zl_ (zJ_ (zjb_ (zbb_ (zk_ g4 (hm hr) (zb_ (za_ 0) zh_))) (zS_ (zb_ (zu_ e.w0.cls e.a5.no (za_ 0)) (zb_ (zC_ ix_M (zu_ e.w0.cls e.a4.no (za_ 0)) zf_ (fun _ _=>rfl)) zh_))) (zS_ (zb_ (zu_ e.w0.cls e.a5.no (za_ 0)) zh_)))))) (zeo_.2 K))
theorem zi1_ (e:En K mg):zhV_ P w K mg base:=
 zbh_ e.m e.f7 (okC (N:=["text"]) (C:=(csLast tyStr)) (O:=(owF tyBl)) (t:=fun E=>zhy_ K) (g:=zdV_.1) 1 0 zq_ (fun _ _ _ _ _ _ E nd hr=>(zl_ (zJ_ (zbz_ (zdR_ zbV_ zbV_ zf_ (zdc_ zK_ (e.m.gb e.b1) (zb_ (za_ 0) zh_)) (zhp_ (e.m.gv e.c4))) (zdq_ (zdc_ (zhl_ rfl) (e.m.gb e.b2) (zb_ (zcu_ (cl:=[]) (lv:=["letter"]) (fr:=[]) rfl (csm rfl fr0) (zaw_ (za_ 0)) (fun _ _ _ _=>(pgc 0)) (fun _ _ _ _=>zaJ_) (fun _ _ _ _=>(z3_ zkV_ (za_ 0) (zhp_ (e.m.gv e.c5))))) zh_))))))) (zdV_.2 K))
theorem zfP_ (e:En K mg)(g6:zga_ P w K mg base)(g2:zaF_ P w K mg base)(g7:zhV_ P w K mg base):zdB_ P w K mg base:=
 zbh_ e.m e.f8 (okXU (N:=["asking", "names", "name"]) (C:=(csLast (Qq0 K))) (LS:=fun _:Unit=>[Zd,Zd,Zd]) (t:=fun E=>zdy_ K E) (g:=zaZ_.1) 1 2 zq_ (fun _ _ _ _ _ _ E nd hr=>(zg_ (pst 1 (zk_ g6 (hm hr) (zb_ (za_ 0) zh_))) (zg_ (zcg_ PassesOwn.leaving rfl (zaw_ (za_ 1)) (pgn 2) (zl_ (zv_ (zw_ g2 (hm hr) zs_ (zb_ (zk_ g7 (hm hr) (zb_ (za_ 2) zh_)) (zb_ (zaa_ (l:=Qm5)) zh_)))))) (zl_ (zv_ (zw_ g2 (hm hr) zs_ (zb_ (zms_ (z3_ (zkN_ hr.u60) (zC_ ix_M (za_ 1) zf_ (fun _ _=>rfl)) (zC_ ix_M (za_ 1) (zm4_ zf_) (fun _ _=>rfl))) (zdq_ (z3_ (zbN_ hr.u60) (zdc_ zK_ (e.m.gb e.b1) (zb_ (za_ 1) zh_)) zf_))) (zb_ (zaa_ (l:=Qm18)) zh_)))))))) (zaZ_.2 K))
theorem zd9_ (e:En K mg)(g4:zcV_ P w K mg base):zat_ P w K mg base:=
 zbh_ e.m e.f9 (okC (N:=Qn1) (C:=(csLast (Qq0 K))) (O:=(owL Qq1)) (t:=fun E=>zcq_ K) (g:=za7_.1) 1 0 zq_ (fun _ _ _ _ _ _ E nd hr=>(zg_ (zan_ (z5_ zk8_ (zu_ e.w0.cls e.a4.no (za_ 0)) zcU_) (zl_ (zJ_ (zS_ zh_))) zI_) (zl_ (zJ_ (zjb_ (zbb_ (zk_ g4 (hm hr) (zb_ (za_ 0) zh_))) (zkK_ "list" (zaL_ rfl) (e.m.gb e.b0) (zb_ (za8_ zl4_ (zu_ e.w0.cls e.a4.no (za_ 0)) (po_M zf_) zcM_) zh_)) (zS_ (zb_ (zC_ ix_M (zu_ e.w0.cls e.a4.no (za_ 0)) zf_ (fun _ _=>rfl)) zh_))))))) (za7_.2 K))
theorem zfZ_ (e:En K mg)(g9:zat_ P w K mg base):zey_ P w K mg base:=
 zbh_ e.m e.f10 (okC (N:=["asking", "fields", "work"]) (C:=(csLast (Qq0 K))) (O:=(owL Qq1)) (t:=fun E=>zeb_ K) (g:=zbm_.1) 1 2 zq_ (fun _ _ _ _ _ _ E nd hr=>(zg_ (pst 1 (zF_ zy_ (zF_ zy_ (zF_ zy_ (zcu_ (cl:=[]) (lv:=["pick"]) (fr:=[]) rfl (csm rfl fr0) (zaw_ (zu_ e.w0.cls e.a0.no (za_ 0))) (fun _ _ _ _=>(pgc 0)) (fun _ _ _ _=>zaJ_) (fun _ _ _ _=>(zC_ ix_M (za_ 0) zf_ (fun _ _=>rfl)))) (zk_ g9 (hm hr) (zb_ (za_ 0) zh_))) (zu_ e.w0.cls e.a1.no (za_ 0))) (zu_ e.w0.cls e.a3.no (za_ 0)))) (zg_ (zcg_ PassesOwn.never rfl (zaw_ (zu_ e.w0.cls e.a2.no (za_ 0))) (pgn 2) (zl_ (zv_ (ziv_ zbU_ zbq_ zbj_ zfB_ (za_ 1) (zb_ (zS_ (zb_ (zC_ ix_M (za_ 2) zf_ (fun _ _=>rfl)) (zb_ (zC_ ix_M (za_ 2) zf_ (fun _ _=>rfl)) (zb_ (zC_ ix_M (za_ 2) zf_ (fun _ _=>rfl)) zh_)))) zh_))))) (zl_ (zJ_ (za_ 1)))))) (zbm_.2 K))
theorem zha_ (e:En K mg):ze9_ P w K mg base:=
 zbh_ e.m e.f11 (okC (N:=["text"]) (C:=(csLast tyStr)) (O:=(owF tyBl)) (t:=fun E=>ze2_ K) (g:=zb2_.1) 1 0 zq_ (fun _ _ _ _ _ _ E nd hr=>(zl_ (zJ_ (zdc_ (zhl_ rfl) (e.m.gb e.b2) (zb_ (zcu_ (cl:=[]) (lv:=["sign"]) (fr:=[]) rfl (csm rfl fr0) (zaw_ (za_ 0)) (fun _ _ _ _=>(pgc 0)) (fun _ _ _ _=>zaJ_) (fun _ _ _ _=>(z3_ zkV_ (za_ 0) (zhp_ (e.m.gv e.c6))))) zh_))))) (zb2_.2 K))
theorem zeK_ (e:En K mg):zdb_ P w K mg base:=
 zbh_ e.m e.f12 (okC (N:=["row", "signs", "step"]) (C:=(csLast (tyL tyPass))) (O:=(owF (tyOpt (tyD kInt tyStr)))) (t:=fun E=>zc1_ K) (g:=zaH_.1) 1 2 zq_ (fun _ _ _ _ _ _ E nd hr=>(zg_ (pst 1 zjI_) (zg_ (zcg_ PassesOwn.never rfl (zaw_ (za_ 0)) (pgn 2) (zl_ (zan_ (z5_ (zbN_ hr.u60) (zC_ ix_M (za_ 2) zf_ (fun _ _=>rfl)) (zaa_ (l:=[112,105,99,107]))) (zl_ (zan_ (z5_ (zkN_ hr.u60) (zmy_ hr.u60 (za_ 1) (zC_ ix_M (za_ 2) zf_ (fun _ _=>rfl)) (zC_ ix_M (za_ 2) zf_ (fun _ _=>rfl))) (zC_ ix_M (za_ 2) zf_ (fun _ _=>rfl))) (zl_ (zJ_ zcU_)) zI_)) zI_))) (zl_ (zJ_ (za_ 1)))))) (zaH_.2 K))
theorem zih_ (e:En K mg):zd0_ P w K mg base:=
 zbh_ e.m e.f13 (okC (N:=["field"]) (C:=(csLast Qq1)) (O:=(owF tyInt)) (t:=fun E=>zf2_ K) (g:=zed_.1) 1 0 zq_ (fun _ _ _ _ _ _ E nd hr=>(zl_ (zJ_ (zF_ zy_ (zF_ zd5_ (zC_ ix_M (za_ 0) zf_ (fun _ _=>rfl)) (zC_ ix_M (za_ 0) zf_ (fun _ _=>rfl))) zf_)))) (zed_.2 K))
theorem zfX_ (e:En K mg):zen_ P w K mg base:=
 zbh_ e.m e.f14 (okC (N:=["field"]) (C:=(csLast Qq1)) (O:=(owL tyInt)) (t:=fun E=>zer_ K) (g:=zbr_.1) 1 0 zq_ (fun _ _ _ _ _ _ E nd hr=>(zl_ (zJ_ (zkK_ "list" (zaL_ rfl) (e.m.gb e.b0) (zb_ (zkK_ "range" zhY_ (e.m.gb e.b3) (zb_ (zC_ ix_M (za_ 0) zf_ (fun _ _=>rfl)) (zb_ (zF_ zy_ (zC_ ix_M (za_ 0) zf_ (fun _ _=>rfl)) zf_) zh_))) zh_))))) (zbr_.2 K))
theorem zfR_ (e:En K mg)(kA:zen_ P w K mg base):zdv_ P w K mg base:=
 zbh_ e.m e.f15 (okC (N:=["asking", "row", "pick"]) (C:=(csLast (Qq0 K))) (O:=(owL tyPass)) (t:=fun E=>zdu_ K) (g:=zaW_.1) 1 2 zq_ (fun _ _ _ _ _ _ E nd hr=>(zg_ (pst 1 (zS_ zh_)) (zg_ (zcg_ PassesOwn.never rfl (zaw_ (zu_ e.w0.cls e.a0.no (za_ 0))) (pgn 2) (zl_ (zv_ (ziv_ zbU_ zbq_ zbj_ zfB_ (za_ 1) (zb_ (zcu_ (cl:=[]) (lv:=["column", "sign"]) (fr:=[]) rfl (csm rfl fr0) (zop_ (e.m.gb e.b4) (zb_ (zk_ kA (hm hr) (zb_ (zC_ ix_M (za_ 2) zf_ (fun _ _=>rfl)) zh_)) (zb_ (zC_ ix_M (za_ 2) zf_ (fun _ _=>rfl)) zh_))) (fun _ _ _ _=>(zfk_ (n:=2) rfl (zB_ (pgc 0) (zB_ (pgc 1) zcE_)))) (fun _ _ _ _=>zaJ_) (fun _ _ _ _=>(zbO_ (zb_ (zaa_ (l:=[112,105,99,107])) (zb_ (za_ 0) (zb_ (za_ 1) zh_)))))) zh_))))) (zl_ (zJ_ (za_ 1)))))) (zaW_.2 K))
theorem zfH_ (e:En K mg)(g2:zaF_ P w K mg base)(fG:zd0_ P w K mg base)(kC:ze9_ P w K mg base)(kB:zdb_ P w K mg base)(kz:zdv_ P w K mg base):zdH_ P w K mg base:=
 zbh_ e.m e.f16 (okXU (N:=["asking", "pick"]) (C:=(csLast (Qq0 K))) (LS:=fun _:Unit=>[Zd,Zd]) (t:=fun E=>zdz_ K E) (g:=zaT_.1) 1 1 zq_ (fun _ _ _ _ _ _ E nd hr=>(zg_ (zcg_ PassesOwn.leaving rfl (zaw_ (zu_ e.w0.cls e.a0.no (za_ 0))) (pgn 1) (zg_ (zv_ (zw_ g2 (hm hr) zs_ (zb_ (z3_ (zbN_ hr.u60) (zdc_ zK_ (e.m.gb e.b1) (zb_ (zC_ ix_M (za_ 1) zf_ (fun _ _=>rfl)) zh_)) (zk_ fG (hm hr) (zb_ (zC_ ix_M (za_ 1) zf_ (fun _ _=>rfl)) zh_))) (zb_ (zaa_ (l:=Qm6)) zh_)))) (zl_ (zv_ (zw_ g2 (hm hr) zs_ (zb_ (zk_ kC (hm hr) (zb_ (zC_ ix_M (za_ 1) zf_ (fun _ _=>rfl)) zh_)) (zb_ (zaa_ (l:=Qm17)) zh_))))))) (zl_ (zv_ (zw_ g2 (hm hr) zs_ (zb_ (z3_ zft_ (zk_ kB (hm hr) (zb_ (zk_ kz (hm hr) (zb_ (za_ 0) zh_)) zh_)) zcU_) (zb_ (zaa_ (l:=Qm3)) zh_))))))) (zaT_.2 K))
theorem zbE_ (e:En K mg)(g9:zat_ P w K mg base)(g2:zaF_ P w K mg base)(fG:zd0_ P w K mg base):zaz_ P w K mg base:=
 zbh_ e.m e.f17 (okXU (N:=["asking", "fields"]) (C:=(csLast (Qq0 K))) (LS:=fun _:Unit=>[Zd,Zd]) (t:=fun E=>zay_ K E) (g:=zL_.1) 1 1 zq_ (fun _ _ _ _ _ _ E nd hr=>(zg_ (pst 1 (zk_ g9 (hm hr) (zb_ (za_ 0) zh_))) (zl_ (zan_ (zpP_ (za_ 1)) (zl_ (zv_ (zw_ g2 (hm hr) zs_ (zb_ (z3_ (zbN_ hr.u60) (zk_ fG (hm hr) (zb_ (zC_ ix_M (za_ 1) zf_ (fun _ _=>rfl)) zh_)) (zk_ fG (hm hr) (zb_ (zC_ ix_M (za_ 1) (zm4_ zf_) (fun _ _=>rfl)) zh_))) (zb_ (zaa_ (l:=Qm7)) zh_))))) zI_)))) (zL_.2 K))
theorem zig_ (e:En K mg):zc3_ P w K mg base:=
 zbh_ e.m e.f18 (okC (N:=["value"]) (C:=(csLast tyInt)) (O:=(owF tyBl)) (t:=fun E=>zgp_ K) (g:=zbM_.1) 1 0 zq_ (fun _ _ _ _ _ _ E nd hr=>(zl_ (zJ_ (zbz_ (zdc_ zdl_ (e.m.gb e.b5) (zb_ (za_ 0) (zb_ (znq_ "int" (e.m.gb e.b6)) zh_))) (zdq_ (zly_ (zdc_ zdl_ (e.m.gb e.b5) (zb_ (za_ 0) (zb_ (znq_ "bool" (e.m.gb e.b7)) zh_))))))))) (zbM_.2 K))
theorem zgN_ (e:En K mg)(dr:zc3_ P w K mg base):zfc_ P w K mg base:=
 zbh_ e.m e.f19 (okC (N:=["value", "most"]) (C:=(csCons tyInt (csLast tyInt))) (O:=(owF tyBl)) (t:=fun E=>zeS_ K) (g:=zb5_.1) 2 0 (zN_ zq_) (fun _ _ _ _ _ _ E nd hr=>(zl_ (zJ_ (zbz_ (zk_ dr (hm hr) (zb_ (za_ 0) zh_)) (zdq_ (zdR_ zbV_ zbV_ zf_ (za_ 0) (za_ 1))))))) (zb5_.2 K))
theorem zf0_ (e:En K mg)(i7:zfc_ P w K mg base):zeu_ P w K mg base:=
 zbh_ e.m e.f20 (okC (N:=["wires", "wire", "leading"]) (C:=(csLast (tyL Qq1))) (O:=(owL Qq1)) (t:=fun E=>zem_ K) (g:=zbv_.1) 1 2 zq_ (fun _ _ _ _ _ _ E nd hr=>(zg_ (zcg_ PassesOwn.never rfl (zaw_ (za_ 0)) (pgn 1) (zl_ (zan_ (PW.pt (zkR_ (zej_ (zbb_ (zk_ i7 (hm hr) (zb_ (zC_ ix_M (za_ 1) zf_ (fun _ _=>rfl)) (zb_ (zhp_ (e.m.gv e.c7)) zh_))))) (zmo_ (zej_ (zbb_ (zk_ i7 (hm hr) (zb_ (zC_ ix_M (za_ 1) zf_ (fun _ _=>rfl)) (zb_ (zhp_ (e.m.gv e.c8)) zh_)))))))) (zl_ zjO_) zI_))) (zg_ (pst 2 zjI_) (zg_ (zcg_ PassesOwn.never rfl (zaw_ (za_ 0)) (pgn 1) (zg_ (zan_ (znD_ hr.u60 (zC_ ix_M (za_ 1) zf_ (fun _ _=>rfl)) (za_ 2)) (zl_ zjO_) zI_) (zl_ (zno_ hr.u60 (za_ 2) (zC_ ix_M (za_ 1) zf_ (fun _ _=>rfl)) (za_ 1))))) (zl_ (zJ_ (zcu_ (cl:=_) (lv:=["column"]) (fr:=[("leading",2)]) rfl (csm rfl (frc fr0)) (zaw_ (zdc_ (zd3_ runB64 rfl) (e.m.gb e.b8) (zb_ (za_ 2) zh_))) (fun _ _ _ _=>(pgc 0)) (fun _ _ _ _=>zaJ_) (fun _ _ _ _=>(zmB_ hr.u60 (za_ 1) (za_ 0)))))))))) (zbv_.2 K))
theorem zio_ (e:En K mg)(ku:zeu_ P w K mg base):zgw_ P w K mg base:=
 zbh_ e.m e.f21 (okC (N:=["wires", "board"]) (C:=(csLast (tyL Qq1))) (O:=(owF tyBl)) (t:=fun E=>zgd_ K) (g:=zcP_.1) 1 1 zq_ (fun _ _ _ _ _ _ E nd hr=>(zg_ (zml_ rfl rfl (zmi_ (zpV_ (pst 1 (zk_ ku (hm hr) (zb_ (za_ 0) zh_))))) zI_ zm8_) (zl_ (zJ_ (z3_ (zbN_ hr.u60) (za_ 1) (za_ 0)))))) (zcP_.2 K))
theorem zdM_ (e:En K mg)(g2:zaF_ P w K mg base)(dr:zc3_ P w K mg base)(kr:zgw_ P w K mg base):zbY_ P w K mg base:=
 zbh_ e.m e.f22 (okXU (N:=Qn1) (C:=(csLast (Qq0 K))) (LS:=fun _:Unit=>[Zd]) (t:=fun E=>zbJ_ K E) (g:=zah_.1) 1 0 zq_ (fun _ _ _ _ _ _ E nd hr=>(zg_ (zv_ (zw_ g2 (hm hr) zs_ (zb_ (zbz_ (zk_ dr (hm hr) (zb_ (zu_ e.w0.cls e.a6.no (za_ 0)) zh_)) (zdq_ (zdR_ zbV_ zbV_ zf_ (zu_ e.w0.cls e.a6.no (za_ 0)) (zhp_ (e.m.gv e.c9))))) (zb_ (zaa_ (l:=Qm19)) zh_)))) (zg_ (zv_ (zw_ g2 (hm hr) zs_ (zb_ (z3_ zbV_ (zu_ e.w0.cls e.a6.no (za_ 0)) (zdc_ zK_ (e.m.gb e.b1) (zb_ (zu_ e.w0.cls e.a1.no (za_ 0)) zh_))) (zb_ (zaa_ (l:=Qm8)) zh_)))) (zg_ (zv_ (zw_ g2 (hm hr) zs_ (zb_ (zbz_ (zk_ dr (hm hr) (zb_ (zu_ e.w0.cls e.a7.no (za_ 0)) zh_)) (zdq_ (zdR_ zbV_ zbV_ zf_ (zu_ e.w0.cls e.a7.no (za_ 0)) (zhp_ (e.m.gv e.c10))))) (zb_ (zaa_ (l:=Qm16)) zh_)))) (zl_ (zv_ (zw_ g2 (hm hr) zs_ (zb_ (zk_ kr (hm hr) (zb_ (zu_ e.w0.cls e.a8.no (za_ 0)) zh_)) (zb_ (zaa_ (l:=Qm9)) zh_))))))))) (zah_.2 K))
theorem zfL_ (e:En K mg)(g9:zat_ P w K mg base):zdI_ P w K mg base:=
 zbh_ e.m e.f23 (okC (N:=["asking", "place", "fields", "other_place", "work"]) (C:=(csCons (Qq0 K) (csLast tyInt))) (O:=(owL Qq1)) (t:=fun E=>zdF_ K) (g:=za3_.1) 2 3 (zN_ zq_) (fun _ _ _ _ _ _ E nd hr=>(zg_ (pst 2 (zF_ zy_ (zF_ zy_ (zcu_ (cl:=[]) (lv:=["pick"]) (fr:=[]) rfl (csm rfl fr0) (zaw_ (zu_ e.w0.cls e.a0.no (za_ 0))) (fun _ _ _ _=>(pgc 0)) (fun _ _ _ _=>zaJ_) (fun _ _ _ _=>(zC_ ix_M (za_ 0) zf_ (fun _ _=>rfl)))) (za8_ sl_M (zk_ g9 (hm hr) (zb_ (za_ 0) zh_)) zcM_ (po_M zf_))) (zu_ e.w0.cls e.a1.no (za_ 0)))) (zg_ (zcg_ PassesOwn.never rfl (zjR_ (by rfl) (e.m.gb e.b9) (zb_ (zu_ e.w0.cls e.a2.no (za_ 0)) zh_)) (zfk_ (n:=2) rfl (zB_ (pgn 3) (zB_ (pgn 4) zcE_))) (zg_ (zan_ (z5_ (zkN_ hr.u60) (za_ 3) (za_ 1)) (zl_ (zv_ (ziv_ zbU_ zH_ zG_ zaC_ (za_ 2) (zb_ (zC_ ix_M (za_ 4) zf_ (fun _ _=>rfl)) zh_)))) zI_) (zl_ (zan_ (z5_ zbV_ (za_ 3) (za_ 1)) (zl_ (zv_ (ziv_ zbU_ zbq_ zbj_ zfB_ (za_ 2) (zb_ (zS_ (zb_ (zC_ ix_M (za_ 4) zf_ (fun _ _=>rfl)) (zb_ (zC_ ix_M (za_ 4) zf_ (fun _ _=>rfl)) zh_))) zh_)))) zI_)))) (zl_ (zJ_ (za_ 2)))))) (za3_.2 K))
theorem zhb_ (e:En K mg):zeR_ P w K mg base:=
 zbh_ e.m e.f24 (okC (N:=["one", "other"]) (C:=(csCons Qq1 (csLast Qq1))) (O:=(owF tyBl)) (t:=fun E=>zeT_ K) (g:=zb9_.1) 2 0 (zN_ zq_) (fun _ _ _ _ _ _ E nd hr=>(zl_ (zJ_ (zms_ (z3_ zlK_ (zC_ ix_M (za_ 0) zf_ (fun _ _=>rfl)) (zC_ ix_M (za_ 1) zf_ (fun _ _=>rfl))) (zdq_ (z3_ zlK_ (zC_ ix_M (za_ 1) zf_ (fun _ _=>rfl)) (zC_ ix_M (za_ 0) zf_ (fun _ _=>rfl)))))))) (zb9_.2 K))
theorem zfq_ (e:En K mg)(g2:zaF_ P w K mg base)(kn:zdI_ P w K mg base)(km:zeR_ P w K mg base):zdt_ P w K mg base:=
 zbh_ e.m e.f25 (okXU (N:=["asking", "place", "work", "field"]) (C:=(csLast (Qq0 K))) (LS:=fun _:Unit=>[Zd,Zd,Zd,Zd]) (t:=fun E=>zgt_ K E) (g:=fun c=>zbF_ c) 1 3 zq_ (fun _ _ _ _ _ _ E nd hr=>(zl_ (zcg_ PassesOwn.leaving rfl (zjR_ (by rfl) (e.m.gb e.b9) (zb_ (zu_ e.w0.cls e.a2.no (za_ 0)) zh_)) (zfk_ (n:=2) rfl (zB_ (pgn 1) (zB_ (pgn 2) zcE_))) (zg_ (zv_ (zw_ g2 (hm hr) zs_ (zb_ (z3_ zkV_ (zC_ ix_M (za_ 2) zf_ (fun _ _=>rfl)) (zhp_ (e.m.gkc e.k2))) (zb_ (zaa_ (l:=Qm4)) zh_)))) (zl_ (zcg_ PassesOwn.leaving rfl (zaw_ (zk_ kn (hm hr) (zb_ (za_ 0) (zb_ (za_ 1) zh_)))) (pgn 3) (zl_ (zv_ (zw_ g2 (hm hr) zs_ (zb_ (zk_ km (hm hr) (zb_ (zC_ ix_M (za_ 2) zf_ (fun _ _=>rfl)) (zb_ (za_ 3) zh_))) (zb_ (zaa_ (l:=Qm1)) zh_))))))))))) fun c E=>at_ [(Zf (Qq0 K) c),Zd,Zd,Zd]
 (zcf_ (zbp_ (LS:=(fun _:Unit=>[(Zf (Qq0 K) c),Zd,Zd,Zd])) (zbI_ (L':=[(Zf (Qq0 K) c),Zd,Zd,Zd]) (S4 .nil) (zgH_ (LS:=(fun _:Unit=>[(Zf (Qq0 K) c),Zd,Zd,Zd])) (s0:=()) (zj3_ (zd_ (zO_ (ns:=Qn0) (by decide +kernel) (n:=4) rfl (at_s (at_s (at_s (at_s at_0)))) (zc_ 0 rfl)))) (zh1_ (zi_ zo_) (zdA_ 1 (zeW_ (zE_ 2)))) fun _ y4=>at_ [(Zf (Qq0 K) c),sI y4.1,(Zf Qq4 y4.2),Zd] (zar_ (zz_ (ze_ (zpl_ e.t1 (zP_ (i:=2) (at_s (at_s at_0)) (zc_ 2 rfl))) (zd_ (z7_ Qm4)))) fun nM=>(at_ [(Zf (Qq0 K) c),sI y4.1,(Zf Qq4 y4.2),Zd] (zcf_ (zbp_ (LS:=(fun _:Unit=>[(Zf (Qq0 K) c),sI y4.1,(Zf Qq4 y4.2),Zd])) (zbI_ (L':=[(Zf (Qq0 K) c),sI y4.1,(Zf Qq4 y4.2),Zd]) (S4 .nil) (zgH_ (LS:=(fun _:Unit=>[(Zf (Qq0 K) c),sI y4.1,(Zf Qq4 y4.2),Zd])) (s0:=()) (ei_l (EvO.fr (z9_ (ze_ (zc_ 0 rfl) (zd_ (zc_ 1 rfl)))))) (zE_ 3) fun _ iz=>at_ [(Zf (Qq0 K) c),sI y4.1,(Zf Qq4 y4.2),(Zf Qq1 iz)] (zcf_ (zar_ (zz_ (ze_ (zm_ (ze_ (zP_ (i:=0) at_0 (zc_ 2 rfl)) (zd_ (zc_ 3 rfl)))) (zd_ (z7_ Qm1)))) fun bJ=>(at_ [(Zf (Qq0 K) c),sI y4.1,(Zf Qq4 y4.2),(Zf Qq1 iz)] (zp_ (s:=()) (.same (.same (.same (.dead .nil)))))))))) fun _=>(at_ [(Zf (Qq0 K) c),sI y4.1,(Zf Qq4 y4.2),Zd] (zp_ (s:=()) (.same (.dead (.dead (.same .nil)))))))))))) fun _=>(at_ [(Zf (Qq0 K) c),Zd,Zd,Zd] (zp_ (s:=()) (.dead (.same (.same (.same .nil)))))))))
theorem zh3_ (e:En K mg)(dr:zc3_ P w K mg base):zgs_ P w K mg base:=
 zbh_ e.m e.f26 (okC (N:=["first", "last"]) (C:=(csCons tyInt (csLast tyInt))) (O:=(owF tyBl)) (t:=fun E=>zgF_ K) (g:=zcT_.1) 2 0 (zN_ zq_) (fun _ _ _ _ _ _ E nd hr=>(zl_ (zJ_ (zbz_ (zk_ dr (hm hr) (zb_ (za_ 0) zh_)) (zbz_ (zk_ dr (hm hr) (zb_ (za_ 1) zh_)) (zdq_ (zi9_ zbV_ zbV_ zbV_ zf_ (za_ 0) (za_ 1) (zhp_ (e.m.gv e.c8))))))))) (zcT_.2 K))
theorem zeI_ (e:En K mg)(g3:zcn_ P w K mg base)(g5:za0_ P w K mg base)(g8:zdB_ P w K mg base)(kD:zey_ P w K mg base)(g2:zaF_ P w K mg base)(kj:zgs_ P w K mg base)(ky:zdH_ P w K mg base)(kx:zaz_ P w K mg base)(ko:zbY_ P w K mg base)(kl:zdt_ P w K mg base):zcX_ P w K mg base:=
 zbh_ e.m e.f27 (okXU (N:=["asking", "field"]) (C:=(csLast (Qq0 K))) (LS:=fun _:Unit=>[Zd,Zd]) (t:=fun E=>zcO_ K E) (g:=zaD_.1) 1 1 zq_ (fun _ _ _ _ _ _ E nd hr=>(zg_ (zv_ (zw_ g3 (hm hr) zs_ (zb_ (za_ 0) zh_))) (zg_ (zv_ (zw_ g5 (hm hr) zs_ (zb_ (za_ 0) zh_))) (zg_ (zv_ (zw_ g8 (hm hr) zs_ (zb_ (za_ 0) zh_))) (zg_ (zcg_ PassesOwn.leaving rfl (zaw_ (zk_ kD (hm hr) (zb_ (za_ 0) zh_))) (pgn 1) (zl_ (zv_ (zw_ g2 (hm hr) zs_ (zb_ (zk_ kj (hm hr) (zb_ (zC_ ix_M (za_ 1) zf_ (fun _ _=>rfl)) (zb_ (zC_ ix_M (za_ 1) zf_ (fun _ _=>rfl)) zh_))) (zb_ (zaa_ (l:=Qm2)) zh_)))))) (zg_ (zv_ (zw_ ky (hm hr) zs_ (zb_ (za_ 0) zh_))) (zg_ (zv_ (zw_ kx (hm hr) zs_ (zb_ (za_ 0) zh_))) (zg_ (zv_ (zw_ ko (hm hr) zs_ (zb_ (za_ 0) zh_))) (zl_ (zv_ (zw_ kl (hm hr) zs_ (zb_ (za_ 0) zh_)))))))))))) (zaD_.2 K))
theorem zdn_ (e:En K mg)(g0:zcl_ P w K mg base)(g1:zcs_ P w K mg base)(ki:zcX_ P w K mg base):zbA_ P w K mg base:=
 zqq_ e.m e.w0 e.f28 (fun T f fd arr n oc od aj F lT hl=>by obtain ⟨d0,d1,d2,d3,d4,rfl⟩:=arr5 hl; exact zmR_ rfl F lT fun kV doc pm an ah ct u0 u1 u2 u3 u4 u5 u6 u7 u8 u9 s ⟨o,ho,hd⟩=>BindsTo.of_defaults rfl ho hd rfl rfl) (fun T f fd arr n oc od aj F lT hl=>by obtain ⟨d0,d1,d2,d3,d4,rfl⟩:=arr5 hl; exact zlW_ rfl F lT fun kV doc pm an ah ct u0 u1 u2 u3 u4 s ⟨o,ho,hd⟩=>BindsTo.of_defaults rfl ho hd rfl rfl) (fun T f fd d0 d1 d2 d3 d4 n oc od aj F lT s y a b c d r u t hK=>by obtain ⟨_,_,_,_,_,_,_,_,_,rfl,_,_⟩:=F.ex; exact BindsTo.of_defaults rfl (hK _ _ lT) rfl rfl rfl) (okUD (N:=["self", "deck", "picks", "middle", "order", "works", "breaks", "sums", "figures", "board"]) (O:=(owI (gA K "Asking") [] psNil)) (O2:=(Qq6 K)) (C:=(csCons tyStr (csCons (tyL Qq5) (csCons Qq3 (csCons (tyL Qq1) (csCons (tyOpt (tyL Qq4)) (csCons tyInt (csCons (tyOpt (tyL Qq1)) (csCons tyInt (csLast (tyOpt (tyL Qq1)))))))))))) (t:=fun E=>zbx_ K) (g:=zT_.1) (LS:=fun w_=>(fun x':Qq2=>[(Zo (owAt w_ (Qq6 K)) x'),Zd,Zd,Zd,Zd,Zd,Zd,Zd,Zd,Zd])) 9 0 (zN_ (zN_ (zN_ (zN_ (zN_ (zN_ (zN_ (zN_ zq_)))))))) (fun _ _ _ _ _ _ E nd hr=>(zg_ (zcI_ e.w0.cls e.a5.no (za_ 0) (za_ 1)) (zg_ (zcI_ e.w0.cls e.a0.no (za_ 0) (zkK_ "list" (zaL_ rfl) (e.m.gb e.b0) (zb_ (za_ 2) zh_))) (zg_ (zcI_ e.w0.cls e.a4.no (za_ 0) (za_ 3)) (zg_ (zcI_ e.w0.cls e.a1.no (za_ 0) (zkK_ "list" (zaL_ rfl) (e.m.gb e.b0) (zb_ (za_ 4) zh_))) (zg_ (zcI_ e.w0.cls e.a2.no (za_ 0) (zk_ g0 (hm hr) (zb_ (za_ 5) zh_))) (zg_ (zcI_ e.w0.cls e.a6.no (za_ 0) (za_ 6)) (zg_ (zcI_ e.w0.cls e.a3.no (za_ 0) (zk_ g1 (hm hr) (zb_ (za_ 7) zh_))) (zg_ (zcI_ e.w0.cls e.a7.no (za_ 0) (za_ 8)) (zg_ (zcI_ e.w0.cls e.a8.no (za_ 0) (zk_ g1 (hm hr) (zb_ (za_ 9) zh_))) (zl_ (zv_ (zw_ ki (hm hr) passX0 (zb_ (za_ 0) zh_)))))))))))))) (zT_.2 K))
theorem zfw_ (e:En K mg):zbS_ P w K mg base:=
 zbh_ e.m e.f29 (okC (N:=["_law_script", "_law_k"]) (C:=(csCons (tySc K) (csLast tyInt))) (O:=(owF tyInt)) (t:=fun E=>zdx_ K) (g:=zaY_.1) 2 0 (zN_ zq_) (fun _ _ _ _ _ _ E nd hr=>(zg_ (zan_ (z5_ zlK_ (za_ 1) (zdc_ zK_ (e.m.gb e.b1) (zb_ (za_ 0) zh_))) (zl_ (zJ_ (zC_ ix_M (za_ 0) (za_ 1) (fun _ _=>rfl)))) zI_) (zl_ (zJ_ zf_)))) (zaY_.2 K))
theorem zh5_ (e:En K mg):zgz_ P w K mg base:=
 zbh_ e.m e.f30 (okC (N:=["_law_cell", "_law_letters"]) (C:=(csLast tyInt)) (O:=(owF tyStr)) (t:=fun E=>zgf_ K) (g:=zcS_.1) 1 1 zq_ (fun _ _ _ _ _ _ E nd hr=>(zg_ (pst 1 (zaa_ (l:=Qm0))) (zl_ (zJ_ (zqz_ zfn_ ze4_ zlu_ (zaa_ (l:=[])) (zb_ (zcu_ (cl:=_) (lv:=["_law_k"]) (fr:=[("_law_letters",1),("_law_cell",0)]) rfl (csm rfl (frc (frc fr0))) (zmp_ (e.m.gb e.b3) (zb_ (zF_ zy_ zf_ (zF_ zU_ (za_ 0) zf_)) zh_)) (fun _ _ _ _=>(pgc 0)) (fun _ _ _ _=>zaJ_) (fun _ _ _ _=>(zC_ ix_M (za_ 1) (zF_ zU_ (zF_ zy_ (zF_ zau_ (za_ 2) (zF_ zy_ (za_ 0) zf_)) (zF_ zfg_ (za_ 0) (za_ 0))) zf_) (fun _ _=>rfl)))) zh_)))))) (zcS_.2 K))
theorem zil_ (e:En K mg):zcW_ P w K mg base:=
 zbh_ e.m e.f31 (okC (N:=["_law_number", "_law_high", "_law_wide", "_law_first"]) (C:=(csCons tyInt (csCons tyInt (csLast tyInt)))) (O:=(owF Qq1)) (t:=fun E=>zgD_ K) (g:=zcZ_.1) 3 1 (zN_ (zN_ zq_)) (fun _ _ _ _ _ _ E nd hr=>(zg_ (pst 3 (zF_ zy_ zf_ (zF_ zU_ (za_ 0) (za_ 1)))) (zl_ (zJ_ (zbO_ (zb_ (za_ 3) (zb_ (zdc_ (zhq_ rfl) (e.m.gb e.b10) (zb_ (za_ 1) (zb_ (zF_ zy_ (za_ 3) (zF_ zU_ (zF_ zau_ (za_ 0) zf_) (za_ 2))) zh_))) zh_))))))) (zcZ_.2 K))
theorem zgX_ (e:En K mg):ze5_ P w K mg base:=
 zbh_ e.m e.f32 (okC (N:=["_law_name_here", "_law_cell", "_law_letters", "_law_at", "_law_letter"]) (C:=(csCons tyStr (csLast tyInt))) (O:=(owF tyStr)) (t:=fun E=>zeQ_ K) (g:=zb4_.1) 2 3 (zN_ zq_) (fun _ _ _ _ _ _ E nd hr=>(zg_ (pst 2 (zaa_ (l:=Qm0))) (zg_ (pst 3 (zF_ zU_ (za_ 1) (zdc_ zK_ (e.m.gb e.b1) (zb_ (za_ 0) zh_)))) (zg_ (pst 4 (zC_ ix_M (za_ 2) (zF_ zU_ (zF_ zy_ (zF_ zy_ (zqz_ zir_ zim_ zn0_ (za_ 2) (zb_ (zC_ ix_M (za_ 0) (za_ 3) (fun _ _=>rfl)) zh_)) zf_) (zF_ zU_ (zF_ zau_ (za_ 1) zf_) zf_)) zf_) (fun _ _=>rfl))) (zl_ (zJ_ (zF_ zy_ (zF_ zy_ (za8_ sl_M (za_ 0) zcM_ (po_M (za_ 3))) (za_ 4)) (za8_ sl_M (za_ 0) (po_M (zF_ zy_ (za_ 3) zf_)) zcM_)))))))) (zb4_.2 K))
theorem zgC_ (e:En K mg)(cQ:zcW_ P w K mg base)(kf:ze5_ P w K mg base):zek_ P w K mg base:=
 zbh_ e.m e.f33 (okC (N:=["_law_name_here", "_law_cell", "_law_field", "_law_wide", "_law_first"]) (C:=(csCons tyStr (csLast tyInt))) (O:=(owF Qq3)) (t:=fun E=>zex_ K) (g:=zbo_.1) 2 3 (zN_ zq_) (fun _ _ _ _ _ _ E nd hr=>(zg_ (pst 2 (zk_ cQ (hm hr) (zb_ (zF_ zau_ (za_ 1) zf_) (zb_ zf_ (zb_ zf_ zh_))))) (zg_ (pst 3 (zF_ zd5_ (zC_ ix_M (za_ 2) zf_ (fun _ _=>rfl)) (zC_ ix_M (za_ 2) zf_ (fun _ _=>rfl)))) (zg_ (pst 4 (zF_ zy_ zf_ (zF_ zU_ (zF_ zau_ (za_ 1) zf_) (zF_ zd5_ zf_ (za_ 3))))) (zg_ (zan_ (z5_ (zbN_ hr.u60) (zF_ zU_ (za_ 1) zf_) zf_) (zl_ (zJ_ (zbO_ (zb_ (zaa_ (l:=[102,105,114,115,116])) (zb_ (za_ 2) zh_))))) zI_) (zg_ (zan_ (z5_ znk_ (zF_ zU_ (za_ 1) zf_) zf_) (zl_ (zJ_ (zbO_ (zb_ (zC_ ix_M (zS_ (zb_ (zaa_ (l:=[109,97,116,101,115])) (zb_ (zaa_ (l:=[119,105,116,104,111,117,116])) zh_))) (zF_ zU_ (za_ 1) zf_) (fun _ _=>rfl)) (zb_ (zk_ kf (hm hr) (zb_ (za_ 0) (zb_ (zF_ zau_ (za_ 1) zf_) zh_))) (zb_ (za_ 2) (zb_ (zbO_ (zb_ (za_ 4) (zb_ (zF_ zy_ (za_ 4) (za_ 3)) zh_))) zh_))))))) zI_) (zl_ (zJ_ zcU_)))))))) (zbo_.2 K))
theorem zh8_ (e:En K mg)(cQ:zcW_ P w K mg base):zgg_ P w K mg base:=
 zbh_ e.m e.f34 (okC (N:=["_law_number", "_law_k", "_law_to", "_law_one", "_law_other_here", "_law_at"]) (C:=(csCons tyInt (csLast tyInt))) (O:=(owF Qq4)) (t:=fun E=>zgi_ K) (g:=zcQ_.1) 2 4 (zN_ zq_) (fun _ _ _ _ _ _ E nd hr=>(zg_ (pst 2 (zbO_ (zb_ (zF_ zy_ zf_ (zF_ zfg_ zf_ (za_ 1))) (zb_ (zF_ zy_ (zF_ zy_ zf_ (zF_ zfg_ zf_ (za_ 1))) (zF_ zU_ (za_ 0) zf_)) zh_)))) (zg_ (pst 3 (zk_ cQ (hm hr) (zb_ (zF_ zau_ (za_ 0) zf_) (zb_ zf_ (zb_ zf_ zh_))))) (zg_ (pst 4 (zk_ cQ (hm hr) (zb_ (zF_ zau_ (za_ 0) zf_) (zb_ zf_ (zb_ zf_ zh_))))) (zg_ (zan_ (PW.pt (zlB_ (z5_ znk_ (za_ 1) zf_) (zlE_ (z5_ (zbN_ hr.u60) (zF_ zU_ (zF_ zau_ (za_ 0) zf_) zf_) zf_)))) (zg_ (pst 5 (zF_ zy_ zf_ (zF_ zfg_ zf_ (zF_ zU_ (zF_ zau_ (za_ 0) zf_) (za_ 1))))) (zl_ (pst 3 (zbO_ (zb_ (za_ 5) (zb_ (zF_ zy_ (za_ 5) (zF_ zU_ (zF_ zau_ (za_ 0) zf_) zf_)) zh_)))))) zI_) (zl_ (zJ_ (zbO_ (zb_ (za_ 2) (zb_ (za_ 3) (zb_ (zC_ ix_M (zS_ (zb_ (zaa_ (l:=[112,108,117,115])) (zb_ (zaa_ (l:=[108,101,115,115])) (zb_ (zaa_ (l:=[116,105,109,101,115])) zh_)))) (zF_ zU_ (zF_ zau_ (za_ 0) zf_) zf_) (fun _ _=>rfl)) (zb_ (za_ 4) zh_)))))))))))) (zcQ_.2 K))
theorem zg3_ (e:En K mg)(eF:zbS_ P w K mg base)(cQ:zcW_ P w K mg base)(kc:zgg_ P w K mg base):zfb_ P w K mg base:=
 zbh_ e.m e.f35 (okC (N:=["_law_script", "_law_signs", "_law_seed", "_law_some", "_law_cell", "_law_kind", "_law_number", "_law_field", "_law_text"]) (C:=(csLast (tySc K))) (O:=(owLL tyDp)) (t:=fun E=>zeZ_ K) (g:=zb6_.1) 1 8 zq_ (fun _ _ _ _ _ _ E nd hr=>(zg_ (pst 1 (zaa_ (l:=SG))) (zg_ (pst 2 (zk_ eF (hm hr) (zb_ (za_ 0) (zb_ zf_ zh_)))) (zg_ (pst 3 (zS_ (zb_ (zS_ zh_) (zb_ (zS_ zh_) (zb_ (zS_ zh_) (zb_ (zS_ zh_) (zb_ (zS_ zh_) zh_))))))) (zg_ (zcg_ PassesOwn.never rfl (zaw_ (za8_ sl_M (za_ 0) (po_M zf_) (po_M zf_))) (pgn 4) (zg_ (pst 5 (zF_ zU_ (za_ 4) zf_)) (zg_ (pst 6 (zF_ zau_ (za_ 4) zf_)) (zg_ (zan_ (z5_ zp3_ (zdc_ zK_ (e.m.gb e.b1) (zb_ (zC_ ix_M (za_ 3) (za_ 5) (fun _ _=>rfl)) zh_)) (zC_ ix_M (zS_ (zb_ zf_ (zb_ zf_ (zb_ zf_ (zb_ zf_ (zb_ zf_ zh_)))))) (za_ 5) (fun _ _=>rfl))) (zl_ zh9_) zI_) (zg_ (zan_ (z5_ (zbN_ hr.u60) (za_ 5) zf_) (zg_ (pst 7 (zk_ cQ (hm hr) (zb_ (za_ 6) (zb_ zf_ (zb_ zf_ zh_))))) (zg_ (pst 8 (zqz_ zfn_ ze4_ zlu_ (zaa_ (l:=[])) (zb_ (zcu_ (cl:=_) (lv:=["_law_at"]) (fr:=[("_law_signs",1),("_law_seed",2)]) rfl (csm rfl (frc (frc fr0))) (zlI_ (e.m.gb e.b3) (zb_ (zC_ ix_M (za_ 7) zf_ (fun _ _=>rfl)) (zb_ (zF_ zy_ (zC_ ix_M (za_ 7) zf_ (fun _ _=>rfl)) zf_) zh_))) (fun _ _ _ _=>(pgc 0)) (fun _ _ _ _=>zaJ_) (fun _ _ _ _=>(zC_ ix_M (za_ 1) (zF_ zU_ (zF_ zy_ (za_ 2) (zF_ zfg_ (zF_ zfg_ (za_ 0) (za_ 0)) (zF_ zy_ zf_ (zF_ zU_ (za_ 2) zf_)))) zf_) (fun _ _=>rfl)))) zh_))) (zl_ (zv_ (ziv_ zbU_ zH_ zG_ zaC_ (zC_ ix_M (za_ 3) zf_ (fun _ _=>rfl)) (zb_ (zbO_ (zb_ (za_ 7) (zb_ (za_ 8) zh_))) zh_)))))) zI_) (zg_ (zan_ (z5_ (zbN_ hr.u60) (za_ 5) zf_) (zl_ (zv_ (ziv_ zbU_ zH_ zG_ zaC_ (zC_ ix_M (za_ 3) zf_ (fun _ _=>rfl)) (zb_ (zk_ cQ (hm hr) (zb_ (za_ 6) (zb_ zf_ (zb_ zf_ zh_)))) zh_)))) zI_) (zg_ (zan_ (z5_ (zbN_ hr.u60) (za_ 5) zf_) (zl_ (zv_ (ziv_ zbU_ zH_ zG_ zaC_ (zC_ ix_M (za_ 3) zf_ (fun _ _=>rfl)) (zb_ (zk_ kc (hm hr) (zb_ (za_ 6) (zb_ (zdc_ zK_ (e.m.gb e.b1) (zb_ (zC_ ix_M (za_ 3) zf_ (fun _ _=>rfl)) zh_)) zh_))) zh_)))) zI_) (zg_ (zan_ (z5_ (zbN_ hr.u60) (za_ 5) zf_) (zl_ (zv_ (ziv_ zbU_ zH_ zG_ zaC_ (zC_ ix_M (za_ 3) zf_ (fun _ _=>rfl)) (zb_ (zk_ cQ (hm hr) (zb_ (za_ 6) (zb_ zf_ (zb_ zf_ zh_)))) zh_)))) zI_) (zl_ (zan_ (PW.pt (zlB_ (z5_ (zbN_ hr.u60) (za_ 5) zf_) (zlE_ (z5_ zkD_ (zF_ zy_ zf_ (zF_ zU_ (zF_ zau_ (za_ 6) zf_) zf_)) (zcu_ (cl:=[]) (lv:=["_law_wire"]) (fr:=[]) rfl (csm rfl fr0) (zaw_ (zC_ ix_M (za_ 3) zf_ (fun _ _=>rfl))) (fun _ _ _ _=>(pgc 0)) (fun _ _ _ _=>zaJ_) (fun _ _ _ _=>(zC_ ix_M (za_ 0) zf_ (fun _ _=>rfl)))))))) (zl_ (zv_ (ziv_ zbU_ zH_ zG_ zaC_ (zC_ ix_M (za_ 3) zf_ (fun _ _=>rfl)) (zb_ (zbO_ (zb_ (zF_ zy_ zf_ (zF_ zU_ (za_ 6) zf_)) (zb_ (zF_ zy_ zf_ (zF_ zU_ (zF_ zau_ (za_ 6) zf_) zf_)) zh_))) zh_)))) zI_)))))))))) (zl_ (zJ_ (za_ 3)))))))) (zb6_.2 K))
theorem zf1_ (e:En K mg):zel_ P w K mg base:=
 zbh_ e.m e.f36 (okC (N:=["_law_field"]) (C:=(csLast Qq1)) (O:=(owF Qq1)) (t:=fun E=>zev_ K) (g:=zcy_.1) 1 0 zq_ (fun _ _ _ _ _ _ E nd hr=>(zl_ (zJ_ (zbO_ (zb_ (zF_ zd5_ zf_ (zC_ ix_M (za_ 0) zf_ (fun _ _=>rfl))) (zb_ (zF_ zd5_ zf_ (zC_ ix_M (za_ 0) zf_ (fun _ _=>rfl))) zh_)))))) (zcy_.2 K))
theorem zgI_ (e:En K mg)(eF:zbS_ P w K mg base)(kg:zgz_ P w K mg base)(ke:zek_ P w K mg base)(kb:zfb_ P w K mg base)(ee:zel_ P w K mg base):zfj_ P w K mg base:=
 zbh_ e.m e.f37 (okC (N:=["_law_script", "_law_first", "_law_name_here", "_law_middle_here", "_law_second", "_law_picks", "_law_order", "_law_works", "_law_totals", "_law_wires", "_law_turned_here", "_law_to", "_law_one", "_law_word", "_law_other_here", "_law_at", "_law_wired", "_law_broken"]) (C:=(csLast (tySc K))) (O:=(owL tyDy)) (t:=fun E=>zfa_ K) (g:=zb8_.1) 1 17 zq_ (fun _ _ _ _ _ _ E nd hr=>(zg_ (pst 1 (zk_ eF (hm hr) (zb_ (za_ 0) (zb_ zf_ zh_)))) (zg_ (pst 2 (zk_ kg (hm hr) (zb_ (zF_ zau_ (za_ 1) zf_) zh_))) (zg_ (pst 3 (zk_ ke (hm hr) (zb_ (za_ 2) (zb_ (zk_ eF (hm hr) (zb_ (za_ 0) (zb_ zf_ zh_))) zh_)))) (zg_ (pst 4 (zk_ eF (hm hr) (zb_ (za_ 0) (zb_ zf_ zh_)))) (zg_ (zoS_ (zk_ kb (hm hr) (zb_ (za_ 0) zh_)) (zpM_ rfl (zB_ (pgn 5) (zB_ (pgn 6) (zB_ (pgn 7) (zB_ (pgn 8) (zB_ (pgn 9) zcE_))))))) (zg_ (zan_ (z5_ (zbN_ hr.u60) (zF_ zU_ (za_ 1) zf_) zf_) (zg_ (zb0_ (cl:=[]) (lv:=["_law_field", "_law_text"]) (fr:=[]) rfl (csm rfl fr0) (zaw_ (za_ 5)) (fun _ _ _ _=>(zfk_ (n:=2) rfl (zB_ (pgc 0) (zB_ (pgc 1) zcE_)))) (fun _ _ _ _=>zaJ_) (fun _ _ _ _=>(zbO_ (zb_ (zk_ ee (hm hr) (zb_ (za_ 0) zh_)) (zb_ (zpt_ (za_ 1) (po_M (zm4_ zf_))) zh_)))) (pgn 5)) (zg_ (zb0_ (cl:=[]) (lv:=["_law_field"]) (fr:=[]) rfl (csm rfl fr0) (zaw_ (za_ 6)) (fun _ _ _ _=>(pgc 0)) (fun _ _ _ _=>zaJ_) (fun _ _ _ _=>(zk_ ee (hm hr) (zb_ (za_ 0) zh_))) (pgn 6)) (zg_ (zb0_ (cl:=[]) (lv:=["_law_field"]) (fr:=[]) rfl (csm rfl fr0) (zaw_ (za_ 8)) (fun _ _ _ _=>(pgc 0)) (fun _ _ _ _=>zaJ_) (fun _ _ _ _=>(zk_ ee (hm hr) (zb_ (za_ 0) zh_))) (pgn 8)) (zg_ (pst 10 (zS_ zh_)) (zg_ (zcg_ PassesOwn.never rfl (zaw_ (za_ 7)) (zfk_ (n:=4) rfl (zB_ (pgn 11) (zB_ (pgn 12) (zB_ (pgn 13) (zB_ (pgn 14) zcE_))))) (zl_ (zv_ (ziv_ zbU_ zH_ zG_ zaC_ (za_ 10) (zb_ (zbO_ (zb_ (zk_ ee (hm hr) (zb_ (za_ 11) zh_)) (zb_ (zk_ ee (hm hr) (zb_ (za_ 12) zh_)) (zb_ (za_ 13) (zb_ (zk_ ee (hm hr) (zb_ (za_ 14) zh_)) zh_))))) zh_))))) (zg_ (pst 7 (za_ 10)) (zl_ (zan_ (z5_ zft_ (za_ 3) zcU_) (zg_ (pst 15 (zF_ zd5_ (zF_ zd5_ (zdc_ zK_ (e.m.gb e.b1) (zb_ (za_ 3) zh_)) zf_) (zkK_ "int" zkm_ (e.m.gb e.b6) (zb_ (z3_ (zbN_ hr.u60) (zdc_ zK_ (e.m.gb e.b1) (zb_ (za_ 3) zh_)) zf_) zh_)))) (zl_ (pst 3 (zF_ zll_ (zF_ zll_ (za8_ zl4_ (za_ 3) zcM_ (po_M (za_ 15))) (zbO_ (zb_ (zk_ ee (hm hr) (zb_ (zC_ ix_M (za_ 3) (za_ 15) (fun _ _=>rfl)) zh_)) zh_))) (za8_ zl4_ (za_ 3) (po_M (zF_ zy_ (za_ 15) zf_)) zcM_))))) zI_)))))))) zI_) (zg_ (zb0_ (cl:=[]) (lv:=["_law_there", "_law_here"]) (fr:=[]) rfl (csm rfl fr0) (zaw_ (zdc_ (zd3_ runB64 rfl) (e.m.gb e.b8) (zb_ (zcu_ (cl:=[]) (lv:=["_law_wire"]) (fr:=[]) rfl (csm rfl fr0) (zaw_ (za_ 9)) (fun _ _ _ _=>(pgc 0)) (fun _ _ _ _=>zaJ_) (fun _ _ _ _=>(zbO_ (zb_ (zC_ ix_M (za_ 0) zf_ (fun _ _=>rfl)) (zb_ (zC_ ix_M (za_ 0) zf_ (fun _ _=>rfl)) zh_))))) zh_))) (fun _ _ _ _=>(zfk_ (n:=2) rfl (zB_ (pgc 0) (zB_ (pgc 1) zcE_)))) (fun _ _ _ _=>zaJ_) (fun _ _ _ _=>(zbO_ (zb_ (za_ 1) (zb_ (za_ 0) zh_)))) (pgn 16)) (zg_ (pst 17 (zF_ zU_ (za_ 4) (zF_ zy_ (zdc_ (zhq_ rfl) (e.m.gb e.b10) (zb_ zf_ (zb_ (zdc_ zK_ (e.m.gb e.b1) (zb_ (za_ 6) zh_)) zh_))) zf_))) (zl_ (zJ_ (zS_ (zb_ (za_ 2) (zb_ (za_ 5) (zb_ (za_ 3) (zb_ (za_ 6) (zb_ (za_ 7) (zb_ (za_ 17) (zb_ (za_ 8) (zb_ (zF_ zy_ zf_ (zF_ zU_ (zF_ zau_ (za_ 4) zf_) zf_)) (zb_ (za_ 16) zh_))))))))))))))))))))) (zb8_.2 K))
theorem zh7_ (e:En K mg):zgm_ P w K mg base:=
 zbh_ e.m e.f38 (okC (N:=["_law_asking", "_law_told_here"]) (C:=(csLast (Qq0 K))) (O:=(owL tyDy)) (t:=fun E=>zge_ K) (g:=zcL_.1) 1 1 zq_ (fun _ _ _ _ _ _ E nd hr=>(zg_ (pst 1 (zS_ (zb_ (zu_ e.w0.cls e.a5.no (za_ 0)) (zb_ (zu_ e.w0.cls e.a0.no (za_ 0)) (zb_ (zu_ e.w0.cls e.a4.no (za_ 0)) (zb_ (zu_ e.w0.cls e.a1.no (za_ 0)) (zb_ (zu_ e.w0.cls e.a2.no (za_ 0)) (zb_ (zu_ e.w0.cls e.a6.no (za_ 0)) zh_)))))))) (zl_ (zJ_ (zF_ zy_ (za_ 1) (zS_ (zb_ (zu_ e.w0.cls e.a3.no (za_ 0)) (zb_ (zu_ e.w0.cls e.a7.no (za_ 0)) (zb_ (zu_ e.w0.cls e.a8.no (za_ 0)) zh_))))))))) (zcL_.2 K))
theorem zgY_ (e:En K mg):ze3_ P w K mg base:=
 zbh_ e.m e.f39 (okC (N:=["_law_found"]) (C:=(csLast tyDy)) (O:=(owF tyBl)) (t:=fun E=>ze6_ K) (g:=zdi_.1) 1 0 zq_ (fun _ _ _ _ _ _ E nd hr=>(zl_ (zJ_ (zbz_ (zdc_ zdl_ (e.m.gb e.b5) (zb_ (za_ 0) (zb_ (znq_ "int" (e.m.gb e.b6)) zh_))) (zdq_ (zly_ (zdc_ zdl_ (e.m.gb e.b5) (zb_ (za_ 0) (zb_ (znq_ "bool" (e.m.gb e.b7)) zh_))))))))) (zdi_.2 K))
theorem ziT_ (e:En K mg)(j_:zgm_ P w K mg base)(i6:ze3_ P w K mg base):zhs_ P w K mg base:=
 zbh_ e.m e.f40 (okC (N:=["_law_asking", "_law_parts_here", "_law_told_here", "_law_k"]) (C:=(csCons (Qq0 K) (csLast (tyL tyDy)))) (O:=(owF tyBl)) (t:=fun E=>zhS_ K) (g:=zdT_.1) 2 2 (zN_ zq_) (fun _ _ _ _ _ _ E nd hr=>(zg_ (pst 2 (zk_ j_ (hm hr) (zb_ (za_ 0) zh_))) (zg_ (zcg_ PassesOwn.never rfl (zaw_ (zS_ (zb_ zf_ (zb_ zf_ (zb_ zf_ (zb_ zf_ (zb_ zf_ zh_))))))) (pgn 3) (zl_ (zan_ (zej_ (zbb_ (zdc_ zdl_ (e.m.gb e.b5) (zb_ (zC_ ix_M (za_ 2) (za_ 3) (fun _ _=>rfl)) (zb_ (znq_ "list" (e.m.gb e.b0)) zh_))))) (zl_ (zJ_ znt_)) zI_))) (zg_ (zan_ (PW.pt (zkR_ (zej_ (zbb_ (zdc_ zdl_ (e.m.gb e.b5) (zb_ (zC_ ix_M (za_ 2) zf_ (fun _ _=>rfl)) (zb_ (znq_ "str" (e.m.gb e.b11)) zh_))))) (zkR_ (zej_ (zbb_ (zk_ i6 (hm hr) (zb_ (zC_ ix_M (za_ 2) zf_ (fun _ _=>rfl)) zh_)))) (zmo_ (zej_ (zbb_ (zk_ i6 (hm hr) (zb_ (zC_ ix_M (za_ 2) zf_ (fun _ _=>rfl)) zh_)))))))) (zl_ (zJ_ znt_)) zI_) (zl_ (zJ_ (z3_ (zbN_ hr.u60) (za_ 2) (za_ 1)))))))) (zdT_.2 K))
end
local macro_rules | `(tactic| walk_at "mo") => `(tactic| simp only [Mo.okB, Mo.exB, Mo.noB, Mo.noexO, Mo.optS, zcz_, zmA_, zmw_, znf_, zq6_, zlT_, zlc_, znG_, zfA_, grd_T, Bool.not_true, Bool.not_false, if_true, if_false, Bool.false_eq_true, Option.map_some, Option.map_none, ite_true, ite_false, Int.reduceLT, Int.reduceLE, Int.reduceNeg, Int.reduceSub, Int.reduceAdd, Int.reduceMul, Nat.reduceAdd, Nat.reduceLT, decide_true, decide_false, Option.isSome_none, Option.isSome_some, Option.isNone_none, Option.isNone_some, Bool.and_true, Bool.and_false])
theorem zhA_ (ns:List Int)(k:Int)(h:0<=k):∃ c,zbX_ ns k=.ok c:=by
 unfold zbX_ zaY_
 walk_at "mo"
 by_cases hk:k<(ns.length:Int)
 ·obtain ⟨x,e,_⟩:=zd2_ h hk
  rw [decide_eq_true hk,if_pos rfl,e]
  exact ⟨x,rfl⟩
 ·rw [decide_eq_false hk,if_neg (by decide)]
  exact ⟨0,rfl⟩
abbrev Fl:=Int×Int
abbrev Pk:=Fl×List Nat
abbrev Md:=Option ((List Nat×Fl) ⊕ (List Nat×List Nat×Fl×Fl))
abbrev Wk:=Fl×Fl×List Nat×Fl
abbrev Ak:=List Nat×List Pk×Md×List Fl×List Wk×Int×List Fl×Int×List Fl×Unit
def OkF (f:Fl):Prop:=1<=f.1/\f.1<=f.2/\f.2<=36
def OkN (n:Jx):Prop:=1<=n.length/\n.length<=8/\∀ c∈n,97<=c/\c<=122
def OkK (sg:Int->Nat)(p:Pk):Prop:=OkF p.1/\p.2=(rngI p.1.1 (p.1.2+1-p.1.1).toNat).map sg
def WFi:List Nat:=[102,105,114,115,116]
def WMa:List Nat:=[109,97,116,101,115]
def WWi:List Nat:=[119,105,116,104,111,117,116]
inductive OkM (d:Jx):Md->Prop
 | no:OkM d none
 | fi {f:Fl}:OkF f->OkM d (some (.inl (WFi,f)))
 | ma {w n:List Nat}{f g:Fl}:w=WMa\/w=WWi->OkN n->n≠d->OkF f->OkF g->f.2-f.1=g.2-g.1->OkM d (some (.inr (w,n,f,g)))
def WWo:Jy:=[[112,108,117,115],[108,101,115,115],[116,105,109,101,115]]
def OkW (w:Wk):Prop:=OkF w.1/\OkF w.2.1/\OkF w.2.2.2/\w.2.2.1∈WWo
def share (a b:Fl):Bool:=decide (a.1<=b.2) && decide (b.1<=a.2)
def midF (m:Md):List Fl:=match m with | none=>[] | some (.inl c)=>[c.2] | some (.inr c)=>[c.2.2.1,c.2.2.2]
def gk (k:Int)(q:Int×Wk):List Fl:=(if !decide (q.1=k) then [q.2.1] else [])++(if decide (q.1<=k) then [q.2.2.1,q.2.2.2.2] else [])
def kp (A:Ak)(k:Int):List Fl:=A.2.1.map (·.1)++(midF A.2.2.1).take 1++A.2.2.2.1++(enumL A.2.2.2.2.1).flatMap (gk k)
structure OkA (A:Ak):Prop where
 nm:OkN A.1
 pl:A.2.1.length<=8
 pk:∃ sg:Int->Nat,(∀ c,sg c∈SG)/\∀ p∈A.2.1,OkK sg p
 md:OkM A.1 A.2.2.1
 ol:A.2.2.2.1.length<=6
 od:∀ f∈A.2.2.2.1,OkF f
 wl:A.2.2.2.2.1.length<=4
 wk:∀ w∈A.2.2.2.2.1,OkW w
 br:0<=A.2.2.2.2.2.1/\A.2.2.2.2.2.1<=3/\A.2.2.2.2.2.1<=A.2.2.2.1.length
 sl:A.2.2.2.2.2.2.1.length<=4
 su:∀ f∈A.2.2.2.2.2.2.1,OkF f
 fg:1<=A.2.2.2.2.2.2.2.1/\A.2.2.2.2.2.2.2.1<=12
 bd:zbd_ A.2.2.2.2.2.2.2.2.1=.ok true
 ft:∀ q∈enumL A.2.2.2.2.1,∀ f∈kp A q.1,share q.2.1 f=false
theorem zi0_ {ρ B S S':Type}{m:Mo (Out ρ B S)}{k:S->Mo (Out ρ B S')}{Q:S'->Prop}(P:S->Prop)(h:∃ s',m=.ok (.nx s')/\P s')(hk:∀ s',P s'->∃ z,k s'=.ok (.nx z)/\Q z):∃ z,thenO m k=.ok (.nx z)/\Q z:=by
 obtain ⟨s',e,p⟩:=h
 rw [e,zcz_]
 exact hk s' p
theorem zqe_ (w:Jx):zb3_ true w=.ok ():=rfl
theorem zmc_ {α:Type}{xs:List α}{q:Int×α}(h:q∈enumL xs):q.2∈xs:=by
 obtain ⟨i,_,e,e2⟩:=zhx_ h
 exact List.mem_of_getElem? e2
theorem zmE_ (a b:Fl):zb7_ a b=.ok (!share a b):=by
 unfold zb7_ zb9_ share
 walk_at "mo"
 by_cases c1:a.2<b.1
 ·rw [decide_eq_true c1,decide_eq_false (show ¬ b.1<=a.2 by lia),Bool.and_false]; rfl
 ·rw [decide_eq_false c1,decide_eq_true (show b.1<=a.2 by lia),Bool.and_true]
  by_cases c2:b.2<a.1
  ·rw [decide_eq_true c2,decide_eq_false (show ¬ a.1<=b.2 by lia)]; rfl
  ·rw [decide_eq_false c2,decide_eq_true (show a.1<=b.2 by lia)]; rfl
theorem fieldb {f:Fl}(h:OkF f):zeB_ f.1 f.2=.ok true:=by
 obtain ⟨h1,h2,h3⟩:=h
 unfold zeB_ zcT_ zbP_ zbM_
 walk_at "mo"
 rw [decide_eq_true h1,decide_eq_true h2,decide_eq_true h3]
 rfl
theorem zmz_ (f:Fl):zgl_ f=.ok (f.2-f.1+1):=rfl
theorem zo8_ {d:List Nat}{m:Md}(h:OkM d m):∀ f∈midF m,OkF f:=by
 cases h with
 | no=>intro f hf; cases hf
 | fi h=>intro f hf; rw [List.mem_singleton.mp hf]; exact h
 | ma _ _ _ h1 h2 _ =>
  intro f hf
  rcases List.mem_cons.mp hf with rfl | hf
  ·exact h1
  ·rw [List.mem_singleton.mp hf]; exact h2
theorem zmj_ {m:Md}:(midF m).length<=2:=by
 unfold midF
 split<;>simp
theorem zjX_ {n:List Nat}(h:OkN n):zdS_ n=.ok true:=by
 obtain ⟨h1,h2,h3⟩:=h
 unfold zdS_ zdV_
 walk_at "mo"
 rw [Mo.lim_ok (by lia)]
 walk_at "mo"
 rw [decide_eq_true (show (1:Int)<=n.length by lia),decide_eq_true (show (n.length:Int)<=8 by lia)]
 walk_at "mo"
 rw [z6_ (f:=fun gc:List Nat=>cond1 (Mq true) (Mq (inS gc Qm0))) (g:=fun x=>inS x Qm0) (fun x hx=>rfl) (by simp; lia)]
 have e:(([]:List Bool)++(n.map fun c=>[c]).map fun x=>inS x Qm0).all id=true:=by
  rw [List.nil_append,List.all_eq_true]
  intro b hb
  obtain ⟨x,hx,rfl⟩:=List.mem_map.mp hb
  obtain ⟨c,hc,rfl⟩:=List.mem_map.mp hx
  have hc:=h3 c hc
  have:∀ c:Nat,c<123->97<=c->inS [c] Qm0=true:=by decide
  exact this c (by lia) hc.1
 rw [Mo.okB,e]
 rfl
section
variable {A:Ak}
theorem zmQ_ {d:List Nat}(h:OkM d A.2.2.1):zco_ A=.ok (midF A.2.2.1):=by
 obtain ⟨a,b,m,r⟩:=A
 cases h with
 | no=>rfl
 | fi _=>rfl
 | ma w _ _ _ _ _=>rcases w with rfl | rfl<;>rfl
theorem znx_ {d:List Nat}(h:OkM d A.2.2.1):zaV_ A=.ok ():=by
 obtain ⟨a,b,m,r⟩:=A
 cases h with
 | no=>rfl
 | fi _=>rfl
 | ma w _ _ _ _ _=>rcases w with rfl | rfl<;>rfl
theorem zoD_ (h:OkA A):za4_ A=.ok ():=by
 have h1:=h.pl
 have h2:=h.ol
 have h3:=h.wl
 have h4:=h.sl
 unfold za4_ zas_
 walk_at "mo"
 rw [decide_eq_true (show (A.2.1.length:Int)<=8 by lia),decide_eq_true (show (A.2.2.2.1.length:Int)<=6 by lia),decide_eq_true (show (A.2.2.2.2.1.length:Int)<=4 by lia),decide_eq_true (show (A.2.2.2.2.2.2.1.length:Int)<=4 by lia),zqe_]
 rfl
theorem zmk_ (h:OkA A):zaU_ A=.ok ():=by
 have key:∀ ns:Jy,zf4_ A=.ok ns->(ns=[A.1]\/∃ n,OkN n/\n≠A.1/\ns=[A.1,n])->zaU_ A=.ok ():=fun ns e gV=>by
  unfold zaU_ zaZ_
  walk_at "mo"
  rw [e]
  walk_at "mo"
  rw [zcC_ (fun x hx=>by
   have:zdS_ x=.ok true:=by
    rcases gV with rfl | ⟨n,hn,_,rfl⟩
    ·rw [List.mem_singleton.mp hx]; exact zjX_ h.nm
    ·rcases List.mem_cons.mp hx with rfl | hx
     ·exact zjX_ h.nm
     ·rw [List.mem_singleton.mp hx]; exact zjX_ hn
   rw [this]; rfl)]
  rcases gV with rfl | ⟨n,hn,bH,rfl⟩
  ·walk_at "mo"
   rw [show atI [A.1] 0=some A.1 from rfl,show atI [A.1] (-1)=some A.1 from rfl]
   walk_at "mo"
   rfl
  ·walk_at "mo"
   rw [show atI [A.1,n] 0=some A.1 from rfl,show atI [A.1,n] (-1)=some n from rfl]
   walk_at "mo"
   rw [decide_eq_false (Ne.symm bH)]
   rfl
 have hm:=h.md
 clear h
 obtain ⟨a,b,m,r⟩:=A
 cases hm with
 | no=>exact key _ rfl (.inl rfl)
 | fi _=>exact key _ rfl (.inl rfl)
 | ma w hn bH _ _ _=>rcases w with rfl | rfl<;>exact key _ rfl (.inr ⟨_,hn,bH,rfl⟩)
theorem zho_ (hp:A.2.1.length<=8):compM (fun bG:Pk=>cond1 (Mq true) (Mq bG.1)) A.2.1 []=.ok (A.2.1.map (·.1)):=by
 rw [z6_ (f:=fun bG:Pk=>cond1 (Mq true) (Mq bG.1)) (g:=fun x:Pk=>x.1) (fun x hx=>rfl) (by simp; lia)]; rfl
theorem zp0_ (h:OkA A):∃ fs,zcF_ A=.ok fs/\∀ f∈fs,OkF f:=by
 have l1:=h.pl
 have l2:=h.ol
 have l4:=h.sl
 have l5:=h.wl
 have l3:=zmj_ (m:=A.2.2.1)
 obtain ⟨sg,_,fX⟩:=h.pk
 unfold zcF_ zbm_
 walk_at "mo"
 rw [zho_ h.pl,zmQ_ h.md]
 walk_at "mo"
 rw [Mo.lim_ok (by simp; lia),Mo.okB,Mo.lim_ok (by simp; lia),Mo.okB,Mo.lim_ok (by simp; lia),Mo.okB]
 refine zcb_ (G:=fun mm=>∃ fs,fnO (thenO mm _)=.ok fs/\∀ f∈fs,OkF f) (fun d (s:List Fl)=>s.length<=20+3*d.length/\∀ f∈s,OkF f) ?h0 (fun d x s hx hs=>?_) (fun s hs=>⟨_,rfl,hs.2⟩)
 case h0 =>
  refine ⟨by simp; lia,fun f hf=>?_⟩
  simp only [List.mem_append,List.mem_map] at hf
  rcases hf with ((⟨p,hp,rfl⟩ | hf) | hf) | hf
  ·exact (fX p hp).1
  ·exact zo8_ h.md f hf
  ·exact h.od f hf
  ·exact h.su f hf
 ·obtain ⟨r,hr⟩:=hx
  have hd:d.length<4:=by have:=congrArg List.length hr; simp at this; lia
  obtain ⟨a1,a2,a3,_⟩:=h.wk x (by rw [hr]; simp)
  rw [Mo.lim_ok (by have:=hs.1; simp; lia)]
  refine ⟨_,rfl,by have:=hs.1; simp; lia,fun f hf=>?_⟩
  simp only [List.mem_append,List.mem_cons,List.not_mem_nil,or_false] at hf
  rcases hf with hf | rfl | rfl | rfl
  ·exact hs.2 f hf
  ·exact a1
  ·exact a2
  ·exact a3
theorem zmP_ {l:List Nat}(hl:l.length<=100)(h:∀ c∈l,c∈SG):zdm_ l=.ok true:=by
 unfold zdm_ zb2_
 walk_at "mo"
 rw [z6_ (f:=fun eI=>cond1 (Mq true) (Mq (inS eI SG))) (g:=fun x=>inS x SG) (fun x hx=>rfl) (by simp; lia)]
 have e:(([]:List Bool)++(l.map fun c=>[c]).map fun x=>inS x SG).all id=true:=by
  rw [List.nil_append,List.all_eq_true]
  intro b hb
  obtain ⟨x,hx,rfl⟩:=List.mem_map.mp hb
  obtain ⟨c,hc,rfl⟩:=List.mem_map.mp hx
  have:∀ c∈SG,inS [c] SG=true:=by decide
  exact this c (h c hc)
 rw [Mo.okB,e]
 rfl
theorem zj7_ {sg:Int->Nat}(hl:A.2.1.length<=8)(fX:∀ p∈A.2.1,OkK sg p):∃ row:List Pas,zbT_ A=.ok row/\row.length<=288/\∀ q∈row,q.2=some [sg q.1]:=by
 unfold zbT_ zaW_
 walk_at "mo"
 refine zcb_ (G:=fun mm=>∃ row:List Pas,fnO (thenO mm _)=.ok row/\row.length<=288/\∀ q∈row,q.2=some [sg q.1]) (fun d (s:List Pas)=>s.length<=36*d.length/\∀ q∈s,q.2=some [sg q.1]) ⟨Nat.zero_le _,fun q hq=>by cases hq⟩ (fun d x s hx hs=>?_) (fun s hs=>⟨_,rfl,by have:=hs.1; lia,hs.2⟩)
 obtain ⟨r,hr⟩:=hx
 have hd:d.length<8:=by have:=congrArg List.length hr; simp at this; lia
 obtain ⟨⟨a1,a2,a3⟩,ht⟩:=fX x (by rw [hr]; simp)
 have ec:zcG_ x.1=.ok (rngI x.1.1 (x.1.2+1-x.1.1).toNat):=by
  unfold zcG_ zbr_
  walk_at "mo"
  rw [Mo.grd_ok ⟨by lia,by lia,by lia,by lia⟩]
  rfl
 rw [ec]
 walk_at "mo"
 have hz:((rngI x.1.1 (x.1.2+1-x.1.1).toNat).zip (x.2.map fun c=>[c])).length<=36:=by
  rw [List.length_zip,zaj_]; lia
 rw [z6_ (f:=fun iB:Int×List Nat=>cond1 (Mq true) (Mq (iB.1,some iB.2))) (g:=fun x:Int×List Nat=>((x.1,some x.2):Pas)) (fun x hx=>rfl) (by simp only [List.length_nil]; lia)]
 rw [Mo.okB,Mo.lim_ok (by have:=hs.1; rw [List.nil_append,List.length_map]; lia)]
 refine ⟨_,rfl,by have:=hs.1; simp only [List.nil_append,List.length_append,List.length_map,List.length_singleton]; lia,fun q hq=>?_⟩
 rcases List.mem_append.mp hq with hq | hq
 ·exact hs.2 q hq
 ·rw [List.nil_append] at hq
  obtain ⟨z,hz,rfl⟩:=List.mem_map.mp hq
  rw [ht,List.map_map,show ((fun c=>[c])∘sg)=fun c=>[sg c] from rfl,show (rngI x.1.1 (x.1.2+1-x.1.1).toNat).zip ((rngI x.1.1 (x.1.2+1-x.1.1).toNat).map fun c=>[sg c])=(rngI x.1.1 (x.1.2+1-x.1.1).toNat).map fun c=>(c,[sg c]) by
   conv=>lhs; lhs; rw [<- List.map_id (rngI x.1.1 (x.1.2+1-x.1.1).toNat)]
   rw [List.zip_map']; rfl] at hz
  obtain ⟨c,_,rfl⟩:=List.mem_map.mp hz
  rfl
theorem zkL_ {m:List (Int×List Nat)}{k:Int}{d:List Nat}:(putA m k d).length<=m.length+1:=by
 unfold putA
 split
 ·rw [List.length_map]; lia
 ·simp
theorem zpE_ {sg:Int->Nat}{m:List (Int×List Nat)}{k:Int}(h:∀ q∈m,q.2=[sg q.1]):∀ q∈putA m k [sg k],q.2=[sg q.1]:=by
 unfold putA
 intro q hq
 split at hq
 ·obtain ⟨z,hz,rfl⟩:=List.mem_map.mp hq
  split
  ·rename_i e; show [sg k]=[sg z.1]; rw [e]
  ·exact h z hz
 ·rcases List.mem_append.mp hq with hq | hq
  ·exact h q hq
  ·rw [List.mem_singleton.mp hq]
theorem zkd_ {sg:Int->Nat}(row:List Pas)(hl:row.length<=288)(h:∀ q∈row,q.2=some [sg q.1]):∃ m,zbn_ row=.ok (some m):=by
 unfold zbn_ zaH_
 walk_at "mo"
 refine zcb_ (G:=fun mm=>∃ m,fnO (thenO mm _)=.ok (some m)) (fun d (s:List (Int×List Nat))=>s.length<=d.length/\∀ q∈s,q.2=[sg q.1]) ⟨Nat.zero_le _,fun q hq=>by cases hq⟩ (fun d x s hx hs=>?_) (fun s hs=>⟨_,rfl⟩)
 obtain ⟨r,hr⟩:=hx
 have hd:d.length<288:=by have:=congrArg List.length hr; simp at this; lia
 obtain ⟨c,t⟩:=x
 have ht:t=some [sg c]:=h (c,t) (by rw [hr]; simp)
 subst ht
 rw [show decide (pTag (c,some [sg c])=[112,105,99,107])=true from rfl]
 walk_at "mo"
 rw [Mo.lim_ok (by have:=hs.1; lia)]
 unfold sdA
 cases e:getA s c with
 | some a =>
  have ha:a=[sg c]:=by
   unfold getA at e
   obtain ⟨q,hq,e⟩:=Option.map_eq_some_iff.mp e
   have h1:=List.find?_some hq
   simp at h1
   rw [<- e,hs.2 q (List.mem_of_find?_eq_some hq),h1]
  subst ha
  walk_at "mo"
  exact ⟨_,rfl,by have:=hs.1; simp; lia,hs.2⟩
 | none =>
  walk_at "mo"
  exact ⟨_,rfl,by have:=hs.1; have:=zkL_ (m:=s) (k:=c) (d:=[sg c]); simp; lia,zpE_ hs.2⟩
theorem zj9_ (h:OkA A):zbR_ A=.ok ():=by
 obtain ⟨sg,de,fX⟩:=h.pk
 unfold zbR_ zaT_
 walk_at "mo"
 rw [zcC_ (fun x hx=>by
  obtain ⟨⟨a1,a2,a3⟩,ht⟩:=fX x hx
  have hl:x.2.length=(x.1.2+1-x.1.1).toNat:=by rw [ht,List.length_map,zaj_]
  rw [Mo.lim_ok (by lia),Mo.okB,zmz_]
  walk_at "mo"
  rw [decide_eq_true (show (x.2.length:Int)=x.1.2-x.1.1+1 by lia),zqe_,zmP_ (by lia) (fun c hc=>by rw [ht] at hc; obtain ⟨i,_,rfl⟩:=List.mem_map.mp hc; exact de i)]
  rfl)]
 obtain ⟨row,e,l,hr⟩:=zj7_ h.pl fX
 obtain ⟨m,em⟩:=zkd_ row l hr
 rw [zcz_,e]
 walk_at "mo"
 rw [em]
 rfl
theorem zk4_ {d:List Nat}(h:OkM d A.2.2.1):zad_ A=.ok ():=by
 unfold zad_ zL_
 walk_at "mo"
 rw [zmQ_ h]
 walk_at "mo"
 obtain ⟨a,b,m,r⟩:=A
 cases h with
 | no=>rfl
 | @fi f hf =>
  show fnU (((Mb (Mq (decide (f.2-f.1+1=f.2-f.1+1),_)) fun c=>zb3_ c.1 c.2)).bind fun _=>Mq (.nx ()))=_
  rw [decide_eq_true rfl]
  rfl
 | @ma w n f g _ _ _ _ _ e =>
  show fnU (((Mb (Mq (decide (f.2-f.1+1=g.2-g.1+1),_)) fun c=>zb3_ c.1 c.2)).bind fun _=>Mq (.nx ()))=_
  rw [decide_eq_true (by lia)]
  rfl
theorem zmI_ (h:OkA A):zaR_ A=.ok ():=by
 obtain ⟨b1,b2,b3⟩:=h.br
 obtain ⟨f1,f2⟩:=h.fg
 unfold zaR_ zah_
 walk_at "mo"
 rw [show ∀ n,zbP_ n=.ok true from fun _=>rfl]
 walk_at "mo"
 rw [show ∀ n,zbP_ n=.ok true from fun _=>rfl,h.bd,decide_eq_true b1,decide_eq_true b2,decide_eq_true b3,decide_eq_true f1,decide_eq_true f2]
 rfl
theorem zoh_ (h:OkA A)(k:Int):zaX_ A k=.ok (kp A k):=by
 have l1:=h.pl
 have l2:=h.ol
 have hl:=h.wl
 have l3:((midF A.2.2.1).take 1).length<=1:=by rw [List.length_take]; lia
 unfold zaX_ za3_
 walk_at "mo"
 rw [zho_ h.pl,zmQ_ h.md]
 walk_at "mo"
 rw [zlv_ (by decide),show (1:Int).toNat=1 from rfl,Mo.lim_ok (by simp only [List.length_append,List.length_map]; lia),Mo.okB,Mo.lim_ok (by simp only [List.length_append,List.length_map]; lia),Mo.okB]
 generalize hb:A.2.1.map (fun x:Pk=>x.1)++(midF A.2.2.1).take 1++A.2.2.2.1=base
 have lb:base.length<=15:=by rw [<- hb]; simp only [List.length_append,List.length_map]; lia
 refine zcb_ (G:=fun mm=>fnO (thenO mm _)=.ok (kp A k)) (fun d (s:List Fl)=>s=base++d.flatMap (gk k)/\s.length<=15+3*d.length) ⟨by simp,by simp; lia⟩ (fun d x s hx hs=>?_) (fun s hs=>?_)
 ·obtain ⟨r,hr⟩:=hx
  have hd:d.length<4:=by have:=congrArg List.length hr; rw [zbi_] at this; simp at this; lia
  have bE:=hs.2
  refine zi0_ (fun s'=>s'=s++(if !decide (x.1=k) then [x.2.1] else [])/\s'.length<=s.length+1) ?a1 (fun s' bR=>?_)
  case a1 =>
   cases decide (x.1=k) with
   | true=>exact ⟨_,rfl,by simp,by lia⟩
   | false =>
    show ∃ s',Mo.lim _ _=_/\_
    rw [Mo.lim_ok (by lia)]
    exact ⟨_,rfl,rfl,by simp⟩
  refine zi0_ (fun eN=>eN=s'++(if decide (x.1<=k) then [x.2.2.1,x.2.2.2.2] else [])/\eN.length<=s'.length+2) ?a2 (fun eN gT=>⟨_,rfl,?_,?_⟩)
  case a2 =>
   cases decide (x.1<=k) with
   | false=>exact ⟨_,rfl,by simp,by lia⟩
   | true =>
    show ∃ s',Mo.lim _ _=_/\_
    rw [Mo.lim_ok (by have:=bR.2; simp; lia)]
    exact ⟨_,rfl,rfl,by simp⟩
  ·rw [gT.1,bR.1,hs.1,List.flatMap_append,List.flatMap_cons,List.flatMap_nil,List.append_nil]
   unfold gk
   simp only [List.append_assoc]
  ·have a1:=bR.2
   have a2:=gT.2
   simp only [List.length_append,List.length_singleton]
   lia
 ·rw [hs.1]
  unfold kp
  rw [hb]
  rfl
theorem zmG_ (h:OkA A):zbH_ A=.ok ():=by
 unfold zbH_ zbF_
 walk_at "mo"
 rw [zcC_ (fun q hq=>by
  obtain ⟨_,_,_,hw⟩:=h.wk q.2 (zmc_ hq)
  have e:(([[112,108,117,115],[108,101,115,115],[116,105,109,101,115]]:Jy).any fun y=>decide (y=q.2.2.2.1))=true:=by
   rw [List.any_eq_true]
   exact ⟨_,hw,decide_eq_true rfl⟩
  rw [e,zqe_,zoh_ h]
  walk_at "mo"
  rw [zcC_ (fun f hf=>by
   rw [zmE_,h.ft q hq f hf]
   rfl)]
  rfl)]
 rfl
theorem zgS_ (h:OkA A):zaE_ A=.ok ():=by
 obtain ⟨fs,e,hf⟩:=zp0_ h
 unfold zaE_ zaD_
 walk_at "mo"
 rw [zoD_ h,znx_ h.md,zmk_ h,e]
 walk_at "mo"
 rw [zcC_ (fun x hx=>by rw [fieldb (hf x hx)]; rfl),zcz_,zj9_ h,zk4_ h.md,zmI_ h,zmG_ h]
 rfl
theorem zpu_ (h:OkA A):zA_ () A.1 A.2.1 A.2.2.1 A.2.2.2.1 (some A.2.2.2.2.1) A.2.2.2.2.2.1 (some A.2.2.2.2.2.2.1) A.2.2.2.2.2.2.2.1 (some A.2.2.2.2.2.2.2.2.1)=.ok ((),A):=by
 unfold zA_
 show fnMU (Mb (Mo.noex (zaE_ A)) fun _=>Mq (.nx A))=_
 rw [zgS_ h]
 rfl
end
theorem ziG_ {α S B ρ:Type}{step:S->α->Mo (Out ρ S S)}{xs:List α}{s:S}{G:Mo (Out ρ B S)->Prop}(P:List α->S->Prop)(h0:P [] s)(hs:∀ d x s,(∃ r,xs=d++x::r)->P d s->∃ s',(step s x=.ok (.nx s')\/step s x=.ok (.ct s'))/\P (d++[x]) s')(hk:∀ s',P xs s'->G (.ok (.nx s'))):G (forO step xs s):=by
 have key:∀ (ys done:List α) (s:S),xs=done++ys->P done s->∃ s',forO (B:=B) step ys s=.ok (.nx s')/\P xs s':=by
  intro ys
  induction ys with
  | nil=>intro done s e p; rw [List.append_nil] at e; subst e; exact ⟨s,rfl,p⟩
  | cons y ys ih =>
   intro done s e p
   obtain ⟨s',e1,p1⟩:=hs done y s ⟨ys,e⟩ p
   obtain ⟨z,e2,p2⟩:=ih (done++[y]) s' (by rw [e,List.append_assoc]; rfl) p1
   refine ⟨z,?_,p2⟩
   rw [zhJ_]
   rcases e1 with e1 | e1<;>rw [e1]<;>exact e2
 obtain ⟨s',e,p⟩:=key xs [] s rfl h0
 rw [e]
 exact hk s' p
abbrev iF:Fl->Dy:=iFF
abbrev iP:Pk->Dy:=iT (iC iFF (i1 Dy.str))
abbrev iW:Wk->Dy:=iT (iC iFF (iC iFF (iC Dy.str (i1 iFF))))
theorem zfl_ (n:Int){h w:Int}(h1:1<=h)(w1:1<=w):∃ f:Fl,zez_ n h w=.ok f/\1<=f.1/\f.1<=f.2/\f.2<=h/\f.2-f.1<w:=by
 have a0:0<=n % h:=Int.emod_nonneg _ (by lia)
 have a1:n % h<h:=Int.emod_lt_of_pos _ (by lia)
 have b0:0<=n / 24 % w:=Int.emod_nonneg _ (by lia)
 have b1:n / 24 % w<w:=Int.emod_lt_of_pos _ (by lia)
 unfold zez_ zcZ_
 walk_at "mo"
 rw [Mo.grd_ok (by lia),Mo.okB,Mo.grd_ok (by lia)]
 walk_at "mo"
 refine ⟨_,rfl,?_,?_,?_,?_⟩<;>simp only<;>lia
def AB:List Nat:=Qm0
theorem ab_at (k:Int):∃ c,atI AB (k % 26)=some c/\97<=c/\c<=122/\(c:Int)=97+k % 26:=by
 have h0:0<=k % 26:=Int.emod_nonneg _ (by decide)
 have h1:k % 26<26:=Int.emod_lt_of_pos _ (by decide)
 have key:∀ n:Nat,n<26->atI AB (n:Int)=some (97+n):=by decide
 obtain ⟨n,hn⟩:∃ n:Nat,k % 26=n:=⟨(k % 26).toNat,by lia⟩
 rw [hn]
 exact ⟨97+n,key n (by lia),by lia,by lia,by lia⟩
theorem zfU_ (l:Jx):joinS [] (strsL (l.map fun c=>[c]))=l:=by
 have:=L2.zkq_ l
 unfold strsL
 rw [List.map_map]
 exact this
theorem zfi_ {l:List Nat}(h:l.length<=1000):JoinOk ⟨#[]⟩ (strsL (l.map fun c=>[c]))=true:=by
 refine zhc_ ?_ ?_
 ·unfold strsL; simp [Str.length]; lia
 ·intro z hz
  unfold strsL at hz
  rw [List.map_map] at hz
  obtain ⟨b,_,rfl⟩:=List.mem_map.mp hz
  exact Nat.le_refl 1
theorem zlU_ {α β:Type}{f:α->Mo (Option β)}{xs:List α}{G:Mo (List β)->Prop}(g:α->β)(h:∀ x∈xs,f x=.ok (some (g x)))(hl:xs.length<=1000)(hk:G (.ok (xs.map g))):G (compM f xs []):=by
 rw [z6_ h (by simp; lia),List.nil_append]
 exact hk
theorem zm1_ (c:Int):∃ n,zep_ c=.ok n/\OkN n:=by
 have a0:0<=c % 8:=Int.emod_nonneg _ (by lia)
 have a1:c % 8<8:=Int.emod_lt_of_pos _ (by lia)
 have hg:∀ k:Int,∃ z,atI AB ((c / (k+1)+k*k) % 26)=some z/\97<=z/\z<=122:=fun k=>by
  obtain ⟨z,e,z1,z2,_⟩:=ab_at (c / (k+1)+k*k)
  exact ⟨z,e,z1,z2⟩
 unfold zep_ zcS_
 walk_at "mo"
 rw [Mo.grd_ok (by lia)]
 walk_at "mo"
 refine zlU_ (G:=fun m=>∃ n,fnO ((m.bind _).bind _)=.ok n/\OkN n) (fun k=>[(atI AB ((c / (k+1)+k*k) % 26)).getD 0]) (fun k hk=>?_) (by rw [zaj_]; lia) ?_
 ·obtain ⟨k0,k1⟩:=zg9_.mp hk
  obtain ⟨z,e,_⟩:=hg k
  rw [zlc_ (by lia) (by lia),zfA_ (by lia) (by lia)]
  walk_at "mo"
  rw [show atI Qm0 ((c / (k+1)+k*k) % 26)=_ from e,e]
  rfl
 ·have em:(rngI 0 (1+c % 8).toNat).map (fun k=>[(atI AB ((c / (k+1)+k*k) % 26)).getD 0])=((rngI 0 (1+c % 8).toNat).map fun k=>(atI AB ((c / (k+1)+k*k) % 26)).getD 0).map fun c=>[c]:=by rw [List.map_map]; rfl
  rw [em]
  walk_at "mo"
  rw [Mo.grd_ok (zfi_ (by rw [List.length_map,zaj_]; lia)),zfU_]
  refine ⟨_,rfl,by rw [List.length_map,zaj_]; lia,by rw [List.length_map,zaj_]; lia,fun z hz=>?_⟩
  obtain ⟨k,_,rfl⟩:=List.mem_map.mp hz
  obtain ⟨z,e,h⟩:=hg k
  rw [e]; exact h
theorem zkn_ {n:List Nat}(h:OkN n)(c:Int):∃ m,zdj_ n c=.ok m/\OkN m/\m≠n:=by
 obtain ⟨h1,h2,h3⟩:=h
 have a0:0<=c % n.length:=Int.emod_nonneg _ (by lia)
 have a1:c % n.length<n.length:=Int.emod_lt_of_pos _ (by lia)
 obtain ⟨p,hp⟩:∃ p:Nat,c % n.length=p:=⟨(c % n.length).toNat,by lia⟩
 have aB:p<n.length:=by lia
 have hx:=h3 n[p] (List.getElem_mem _)
 have hZ:∀ x:Nat,x<123->97<=x->findS AB [x]=(x:Int)-97:=fun x=>by rw [zma_]; revert x; decide
 unfold zdj_ zb4_
 walk_at "mo"
 rw [Mo.lim_ok (by lia)]
 walk_at "mo"
 rw [Mo.grd_ok (by lia)]
 walk_at "mo"
 rw [hp,zn2_ (by lia),Int.toNat_natCast,List.getElem?_eq_getElem aB,Mo.lim_ok (by lia)]
 walk_at "mo"
 obtain ⟨z,ez,z1,z2,z3⟩:=ab_at ((n[p]:Int)-97+1+c / 8 % 25)
 have b0:0<=c / 8 % 25:=Int.emod_nonneg _ (by decide)
 have b1:c / 8 % 25<25:=Int.emod_lt_of_pos _ (by decide)
 rw [show findS Qm0 [n[p]]=(n[p]:Int)-97 from hZ n[p] (by lia) hx.1]
 rw [show atI Qm0 (((n[p]:Int)-97+1+c / 8 % 25) % 26)=_ from ez]
 rw [Mo.lim_ok (by decide)]
 walk_at "mo"
 have t1:(n.take p).length=p:=by rw [List.length_take]; lia
 have t2:(n.drop (p+1)).length=n.length-(p+1):=List.length_drop ..
 rw [Mo.lim_ok (by lia),Mo.okB,zlv_ (by lia),Int.toNat_natCast,Mo.lim_ok (by rw [t1,List.length_singleton]; lia),Mo.okB]
 rw [Mo.lim_ok (by lia),Mo.okB,zko_ (by lia),show ((p:Int)+1).toNat=p+1 by lia,Mo.lim_ok (by rw [List.length_append,t1,t2,List.length_singleton]; lia)]
 refine ⟨_,rfl,⟨?_,?_,fun q hq=>?_⟩,fun e=>?_⟩
 ·rw [List.length_append,List.length_append,t1,t2,List.length_singleton]; lia
 ·rw [List.length_append,List.length_append,t1,t2,List.length_singleton]; lia
 ·rcases List.mem_append.mp hq with hq | hq
  ·rcases List.mem_append.mp hq with hq | hq
   ·exact h3 q (List.mem_of_mem_take hq)
   ·rw [List.mem_singleton.mp hq]; exact ⟨z1,z2⟩
  ·exact h3 q (List.mem_of_mem_drop hq)
 ·have e1:(n.take p++[z]++n.drop (p+1))[p]?=some z:=by
   rw [List.append_assoc,List.getElem?_append_right (by lia),t1,Nat.sub_self]; rfl
  rw [e,List.getElem?_eq_getElem aB] at e1
  have:n[p]=z:=Option.some.inj e1
  lia
def rg (s:Bool)(f:Fl):Prop:=f.1<=f.2/\(if s then 13<=f.1/\f.2<=36 else 1<=f.1/\f.2<=24)
def bk (s:Bool)(k:Int)(f:Fl):Prop:=f.1<=f.2/\(if s then 10-3*k<=f.1/\f.2<=12-3*k else 25+3*k<=f.1/\f.2<=27+3*k)
theorem zp4_ {s:Bool}{f:Fl}(h:rg s f):OkF f:=by
 unfold rg at h; unfold OkF
 cases s<;>simp at h<;>lia
theorem bk_ok {s:Bool}{k:Int}{f:Fl}(h:bk s k f)(k0:0<=k)(k1:k<=3):OkF f:=by
 unfold bk at h; unfold OkF
 cases s<;>simp at h<;>lia
theorem zpi_ {s:Bool}{k:Int}{a f:Fl}(h:bk s k a)(k0:0<=k)(k1:k<=3)(hf:rg s f):share a f=false:=by
 unfold bk at h; unfold rg at hf; unfold share
 rw [Bool.and_eq_false_iff,decide_eq_false_iff_not,decide_eq_false_iff_not]
 cases s<;>simp at h hf<;>lia
theorem sh_bk {s:Bool}{k j:Int}{a f:Fl}(h:bk s k a)(hf:bk s j f)(bH:j≠k):share a f=false:=by
 unfold bk at h hf; unfold share
 rw [Bool.and_eq_false_iff,decide_eq_false_iff_not,decide_eq_false_iff_not]
 cases s<;>simp at h hf<;>lia
def OkD (s:Bool)(q:Int×Wk):Prop:=bk s q.1 q.2.1/\(rg s q.2.2.1\/∃ j:Int,j<q.1/\0<=j/\bk s j q.2.2.1)/\rg s q.2.2.2.2/\q.2.2.2.1∈WWo
structure Dr (s:Bool)(sg:Int->Nat)(A:Ak):Prop where
 nm:OkN A.1
 pl:A.2.1.length<=8
 pk:∀ p∈A.2.1,rg s p.1/\OkK sg p
 md:∃ d,OkM d A.2.2.1
 mf:∀ f∈(midF A.2.2.1).take 1,rg s f
 ol:A.2.2.2.1.length<=6
 od:∀ f∈A.2.2.2.1,rg s f
 wl:A.2.2.2.2.1.length<=4
 wk:∀ q∈enumL A.2.2.2.2.1,OkD s q
 br:0<=A.2.2.2.2.2.1/\A.2.2.2.2.2.1<=3/\A.2.2.2.2.2.1<=A.2.2.2.1.length
 sl:A.2.2.2.2.2.2.1.length<=4
 su:∀ f∈A.2.2.2.2.2.2.1,OkF f
 fg:1<=A.2.2.2.2.2.2.2.1/\A.2.2.2.2.2.2.2.1<=12
 bd:zbd_ A.2.2.2.2.2.2.2.2.1=.ok true
theorem zja_ {α:Type}{xs:List α}{q:Int×α}(h:q∈enumL xs):0<=q.1/\q.1<xs.length:=by
 obtain ⟨i,hi,e,_⟩:=zhx_ h
 lia
theorem zl6_ {α:Type}{xs:List α}{x:α}(h:x∈xs):∃ q∈enumL xs,q.2=x:=by
 obtain ⟨i,hi,e⟩:=List.mem_iff_getElem.mp h
 refine ⟨((i:Int),x),?_,rfl⟩
 refine List.mem_of_getElem? (i:=i) ?_
 rw [zbu_,List.getElem?_eq_getElem hi,e]; rfl
theorem okd_w {s:Bool}{q:Int×Wk}(h:OkD s q)(k0:0<=q.1)(k1:q.1<=3):OkW q.2:=by
 obtain ⟨h1,h2,h3,h4⟩:=h
 refine ⟨bk_ok h1 k0 k1,?_,zp4_ h3,h4⟩
 rcases h2 with h2 | ⟨j,j1,j0,h2⟩
 ·exact zp4_ h2
 ·exact bk_ok h2 j0 (by lia)
theorem Dr.ok {s:Bool}{sg:Int->Nat}{A:Ak}(h:Dr s sg A)(de:∀ c,sg c∈SG)(hn:∀ w n f g,A.2.2.1=some (.inr (w,n,f,g))->n≠A.1):OkA A:=by
 have hl:=h.wl
 refine ⟨h.nm,h.pl,⟨sg,de,fun p hp=>(h.pk p hp).2⟩,?_,h.ol,fun f hf=>zp4_ (h.od f hf),h.wl,fun w hw=>?_,h.br,h.sl,h.su,h.fg,h.bd,fun q hq f hf=>?_⟩
 ·obtain ⟨d,hd⟩:=h.md
  have key:∀ m:Md,OkM d m->(∀ w n f g,m=some (.inr (w,n,f,g))->n≠A.1)->OkM A.1 m:=fun m hm hn=>by
   cases hm with
   | no=>exact .no
   | fi h=>exact .fi h
   | ma h1 h2 _ h4 h5 h6=>exact .ma h1 h2 (hn _ _ _ _ rfl) h4 h5 h6
  exact key _ hd hn
 ·obtain ⟨q,hq,rfl⟩:=zl6_ hw
  obtain ⟨k0,k1⟩:=zja_ hq
  exact okd_w (h.wk q hq) k0 (by lia)
 ·obtain ⟨k0,k1⟩:=zja_ hq
  obtain ⟨h1,h2,h3,h4⟩:=h.wk q hq
  unfold kp at hf
  simp only [List.mem_append,List.mem_map,List.mem_flatMap] at hf
  rcases hf with ((⟨p,hp,rfl⟩ | hf) | hf) | ⟨r,hr,hf⟩
  ·exact zpi_ h1 k0 (by lia) (h.pk p hp).1
  ·exact zpi_ h1 k0 (by lia) (h.mf f hf)
  ·exact zpi_ h1 k0 (by lia) (h.od f hf)
  ·obtain ⟨r1,r2,r3,_⟩:=h.wk r hr
   unfold gk at hf
   rcases List.mem_append.mp hf with hf | hf
   ·split at hf
    ·rename_i e
     rw [List.mem_singleton.mp hf]
     exact sh_bk h1 r1 (by simpa using e)
    ·cases hf
   ·split at hf
    ·rename_i e
     have e:r.1<=q.1:=by simpa using e
     rcases List.mem_cons.mp hf with rfl | hf
     ·rcases r2 with r2 | ⟨j,j1,j0,r2⟩
      ·exact zpi_ h1 k0 (by lia) r2
      ·exact sh_bk h1 r2 (by lia)
     ·rw [List.mem_singleton.mp hf]
      exact zpi_ h1 k0 (by lia) r3
    ·cases hf
theorem zmv_ (n:Int){k:Int}(k0:0<=k)(k1:k<=3):∃ w,zeg_ n k=.ok w/\OkD false (k,w):=by
 obtain ⟨f1,e1,a1,a2,a3,_⟩:=zfl_ (n / 3) (h:=24) (w:=6) (by decide) (by decide)
 obtain ⟨f2,e2,b1,b2,b3,_⟩:=zfl_ (n / 5) (h:=24) (w:=3) (by decide) (by decide)
 obtain ⟨wd,ew,hw⟩:=zd2_ (xs:=([[112,108,117,115],[108,101,115,115],[116,105,109,101,115]]:Jy)) (k:=n / 4 % 3) (Int.emod_nonneg _ (by decide)) (Int.emod_lt_of_pos _ (by decide))
 have c0:0<=n % 3:=Int.emod_nonneg _ (by decide)
 have c1:n % 3<3:=Int.emod_lt_of_pos _ (by decide)
 unfold zeg_ zcQ_
 walk_at "mo"
 rw [e1,e2]
 walk_at "mo"
 have fin:∀ one:Fl,(rg false one\/∃ j:Int,j<k/\0<=j/\bk false j one)->OkD false (k,((25+3*k,25+3*k+n % 3),one,wd,f2)):=fun one h=>⟨⟨by simp; lia,by simp; lia⟩,h,⟨b2,by simp; lia⟩,hw⟩
 by_cases hk:0<k
 ·rw [decide_eq_true hk]
  walk_at "mo"
  by_cases hc:n / 2 % 3=1
  ·have j0:0<=n / 7 % k:=Int.emod_nonneg _ (by lia)
   have j1:n / 7 % k<k:=Int.emod_lt_of_pos _ hk
   have d0:0<=n / 11 % 3:=Int.emod_nonneg _ (by decide)
   have d1:n / 11 % 3<3:=Int.emod_lt_of_pos _ (by decide)
   rw [decide_eq_true hc]
   walk_at "mo"
   rw [Mo.grd_ok hk]
   walk_at "mo"
   rw [ew]
   exact ⟨_,rfl,fin _ (.inr ⟨n / 7 % k,j1,j0,by simp; lia,by simp; lia⟩)⟩
  ·rw [decide_eq_false hc]
   walk_at "mo"
   rw [ew]
   exact ⟨_,rfl,fin _ (.inl ⟨a2,by simp; lia⟩)⟩
 ·rw [decide_eq_false hk]
  walk_at "mo"
  rw [ew]
  exact ⟨_,rfl,fin _ (.inl ⟨a2,by simp; lia⟩)⟩
theorem zj2_ {n:List Nat}(hn:OkN n)(c:Int):∃ m,zcv_ n c=.ok m/\OkM n m/\∀ f∈(midF m).take 1,rg false f:=by
 obtain ⟨f,ef,a1,a2,a3,a4⟩:=zfl_ (c / 4) (h:=24) (w:=6) (by decide) (by decide)
 obtain ⟨o,eo,ho,bH⟩:=zkn_ hn (c / 4)
 have g0:0<=c / 9 % (36-(f.2-f.1)):=Int.emod_nonneg _ (by lia)
 have g1:c / 9 % (36-(f.2-f.1))<36-(f.2-f.1):=Int.emod_lt_of_pos _ (by lia)
 have hF:OkF f:=⟨a1,a2,by lia⟩
 have hr:rg false f:=⟨a2,by simp; lia⟩
 unfold zcv_ zbo_
 walk_at "mo"
 rw [ef]
 walk_at "mo"
 rw [Mo.grd_ok (by lia)]
 walk_at "mo"
 by_cases c1:c % 4=1
 ·rw [decide_eq_true c1]
  refine ⟨_,rfl,.fi hF,fun g hg=>?_⟩
  rw [show g=f from List.mem_singleton.mp hg]; exact hr
 ·rw [decide_eq_false c1]
  walk_at "mo"
  by_cases c2:1<c % 4
  ·obtain ⟨wd,ew,hw⟩:=zd2_ (xs:=[WMa,WWi]) (k:=c % 2) (Int.emod_nonneg _ (by decide)) (Int.emod_lt_of_pos _ (by decide))
   rw [decide_eq_true c2]
   walk_at "mo"
   rw [show atI [[109,97,116,101,115],[119,105,116,104,111,117,116]] (c % 2)=some wd from ew,eo]
   refine ⟨_,rfl,.ma (by simpa using hw) ho bH hF ⟨by show 1<=1+_; lia,by show 1+_<=1+_+(f.2-f.1); lia,by show 1+_+(f.2-f.1)<=36; lia⟩ (by show f.2-f.1=1+_+(f.2-f.1)-(1+_); lia),fun g hg=>?_⟩
   rw [show g=f from List.mem_singleton.mp hg]; exact hr
  ·rw [decide_eq_false c2]
   exact ⟨_,rfl,.no,fun g hg=>by cases hg⟩
abbrev Wr:=Int×Int
def okW (w:Wr):Prop:=1<=w.1/\w.1<=40/\1<=w.2/\w.2<=36
theorem zhK_ {α:Type}[DecidableEq α]:∀ {xs ys:List α},xs.Nodup->(∀ x∈xs,x∈ys)->xs.length<=ys.length
 | [],ys,_,_=>Nat.zero_le _
 | x::xs,ys,hn,hs=>by
  obtain ⟨h1,h2⟩:=List.nodup_cons.mp hn
  have hx:=hs x (List.mem_cons_self ..)
  have:=zhK_ (ys:=ys.erase x) h2 fun y hy=>(List.mem_erase_of_ne (fun e=>h1 (by rw [<- e]; exact hy))).mpr (hs y (List.mem_cons_of_mem _ hy))
  rw [List.length_erase_of_mem hx] at this
  have:=List.length_pos_of_mem hx
  rw [List.length_cons]
  lia
theorem nodup36 {xs:List Int}(hn:xs.Nodup)(h:∀ x∈xs,1<=x/\x<=36):xs.length<=36:=by
 have:=zhK_ (ys:=rngI 1 36) hn fun x hx=>zg9_.mpr (by have:=h x hx; lia)
 rwa [zaj_] at this
def WF (W:List Wr):Prop:=(W.map (·.2)).Nodup/\∀ w∈W,okW w
theorem WF.len {W:List Wr}(h:WF W):W.length<=36:=by
 have:=nodup36 h.1 fun x hx=>by obtain ⟨w,hw,rfl⟩:=List.mem_map.mp hx; exact ⟨(h.2 w hw).2.2.1,(h.2 w hw).2.2.2⟩
 rwa [List.length_map] at this
def swp (w:Wr):Wr:=(w.2,w.1)
def brd (W:List Wr):List Wr:=(srtL (lxP ltI ltI) (W.map swp)).map swp
theorem zmY_ (W:List Wr):(brd W).Perm W:=by
 have:=(zbk_ (lxP ltI ltI) (W.map swp)).map swp
 rwa [List.map_map,show swp∘swp=id from rfl,List.map_id] at this
theorem zqL_ {W:List Wr}(h:WF W):WF (brd W):=by
 have p:=zmY_ W
 exact ⟨(p.map (·.2)).nodup_iff.mpr h.1,fun w hw=>h.2 w (p.mem_iff.mp hw)⟩
theorem zmM_ (B:List Wr):eqL (fun a b=>decide (a.fst=b.fst) && decide (a.snd=b.snd)) B B=true:=zjL_ (fun a=>by simp) B
def byC (W:List Wr):List (Int×Wr):=W.map fun w=>(w.2,w)
theorem zjN_ {W:List Wr}(h:(W.map (·.2)).Nodup){w:Wr}(hw:w∈W):getA (byC W) w.2=some w:=by
 induction W with
 | nil=>cases hw
 | cons v W ih =>
  rw [List.map_cons] at h
  obtain ⟨h1,h2⟩:=List.nodup_cons.mp h
  unfold getA byC
  rw [List.map_cons,List.find?_cons]
  rcases List.mem_cons.mp hw with e | hw
  ·subst e; simp
  ·have:v.2≠w.2:=fun e=>h1 (by rw [e]; exact List.mem_map_of_mem hw)
   rw [decide_eq_false this]
   exact ih h2 hw
theorem zqy_ {W:List Wr}{c:Int}(h:c∉W.map (·.2)):getA (byC W) c=none:=by
 unfold getA byC
 rw [List.find?_eq_none.mpr]
 ·rfl
 ·intro q hq
  obtain ⟨w,hw,rfl⟩:=List.mem_map.mp hq
  simp only [decide_eq_true_eq]
  exact fun e=>h (by rw [<- e]; exact List.mem_map_of_mem hw)
theorem zpp_ {W:List Wr}{w:Wr}(h:w.2∉W.map (·.2)):putA (byC W) w.2 w=byC (W++[w]):=by
 unfold putA
 have:(byC W).any (fun q=>decide (q.1=w.2))=false:=by
  rw [List.any_eq_false]
  intro q hq
  unfold byC at hq
  obtain ⟨v,hv,rfl⟩:=List.mem_map.mp hq
  simp only [decide_eq_true_eq]
  exact fun e=>h (by rw [<- e]; exact List.mem_map_of_mem hv)
 rw [this,if_neg (by decide)]
 unfold byC
 rw [List.map_append]; rfl
theorem ziL_ {W:List Wr}(h:(W.map (·.2)).Nodup):(srtL ltI (W.map (·.2))).map (fun c=>(getA (byC W) c).getD (0,0))=brd W:=by
 have e:(srtL ltI (W.map (·.2))).map (fun c=>(c,((getA (byC W) c).getD (0,0)).1))=srtL (lxP ltI ltI) (W.map swp):=by
  refine zfC_ (zhB_ zdO_ zdO_) ?_ ?_
  ·have:=(zbk_ ltI (W.map (·.2))).map (fun c=>(c,((getA (byC W) c).getD (0,0)).1))
   rw [List.map_map] at this
   refine this.trans (List.Perm.of_eq (List.map_congr_left fun w hw=>?_))
   show (w.2,((getA (byC W) w.2).getD (0,0)).1)=swp w
   rw [zjN_ h hw]; rfl
  ·refine List.pairwise_map.mpr ((zdo_ zdO_ (W.map (·.2))).imp fun {a b} q=>?_)
   unfold lxP
   show (if b=a then _ else _)=false
   split
   ·rename_i z; subst z; exact zdO_.irr _
   ·exact q
 unfold brd
 rw [<- e,List.map_map]
 refine List.map_congr_left fun c hc=>?_
 obtain ⟨w,hw,rfl⟩:=List.mem_map.mp ((zbk_ ltI (W.map (·.2))).mem_iff.mp hc)
 show _=swp (w.2,((getA (byC W) w.2).getD (0,0)).1)
 rw [zjN_ h hw]; rfl
theorem zow_ {v m:Int}(h1:1<=v)(h2:v<=m):zdp_ v m=.ok true:=by
 unfold zdp_ zb5_ zbP_ zbM_
 walk_at "mo"
 simp [h1,h2]
theorem zoE_ {W:List Wr}(h:WF W):zcH_ W=.ok (brd W):=by
 have hl:=h.len
 unfold zcH_ zbv_
 walk_at "mo"
 rw [zcC_ (fun x hx=>by
  obtain ⟨a1,a2,a3,a4⟩:=h.2 x hx
  rw [zow_ a1 a2,zow_ a3 a4]; rfl)]
 walk_at "mo"
 refine zcb_ (G:=fun m=>fnO (thenO m _)=_) (fun d (s:List (Int×Wr))=>s=byC d) rfl (fun d x s hx hs=>?_) (fun s hs=>?_)
 ·obtain ⟨r,hr⟩:=hx
  subst hs
  have nd:=h.1
  rw [hr,List.map_append,List.map_cons] at nd
  have hn:x.2∉d.map (·.2):=fun z=>by
   have:=(List.nodup_append.mp nd).2.2 _ z _ (List.mem_cons_self ..)
   exact this rfl
  have hd:d.length<=36:=by have:=congrArg List.length hr; simp at this; lia
  rw [zqy_ hn,zpp_ hn]
  walk_at "mo"
  rw [Mo.lim_ok (by unfold byC; rw [List.length_map]; lia)]
  exact ⟨_,rfl,rfl⟩
 ·subst hs
  have e:(byC W).map (fun x=>x.fst)=W.map (·.2):=by unfold byC; rw [List.map_map]; rfl
  rw [zcz_,e,Mo.grd_ok (by unfold byC; rw [List.length_map]; lia),Mo.okB]
  rw [z6_ (f:=fun jb=>cond1 (Mq true) (Mo.opt (getA (byC W) jb))) (g:=fun c=>(getA (byC W) c).getD (0,0)) (fun c hc=>by
   obtain ⟨w,hw,rfl⟩:=List.mem_map.mp ((zbk_ ltI (W.map (·.2))).mem_iff.mp hc)
   rw [zjN_ h.1 hw]; rfl) (by rw [(zbk_ _ _).length_eq,List.length_map]; simp; lia)]
  rw [List.nil_append,ziL_ h.1]
  rfl
abbrev SB (B:List Wr):Prop:=WF B/\(B.map swp).Pairwise fun a b=>lxP ltI ltI b a=false
theorem zlF_ (B:List Wr):(B.map swp).map swp=B:=by
 rw [List.map_map]
 exact (List.map_congr_left fun w _=>rfl).trans (List.map_id _)
theorem SB.brq {B:List Wr}(h:SB B):brd B=B:=by
 unfold brd
 rw [<- zfC_ (zhB_ zdO_ zdO_) (List.Perm.refl _) h.2,zlF_]
theorem SB.ok {B:List Wr}(h:SB B):zbd_ B=.ok true:=by
 unfold zbd_ zcP_
 walk_at "mo"
 rw [zoE_ h.1,h.brq]
 walk_at "mo"
 rw [zmM_]
theorem zo3_ {W:List Wr}(h:WF W):SB (brd W):=by
 refine ⟨zqL_ h,?_⟩
 unfold brd
 rw [zlF_]
 exact zdo_ (zhB_ zdO_ zdO_) _
theorem zpY_ {B B':List Wr}(h:SB B)(hs:B'.Sublist B):SB B':=⟨⟨(hs.map _).nodup h.1.1,fun w hw=>h.1.2 w (hs.subset hw)⟩,h.2.sublist (hs.map _)⟩
abbrev Dn43 (P:List Pk)(O:List Fl)(W:List Wk)(S:List Fl)(B:List Wr):List (List Dy):=[P.map iP,O.map iF,W.map iW,S.map iF,B.map iF]
structure DQ (sg:Int->Nat)(P:List Pk)(O:List Fl)(W:List Wk)(S:List Fl)(B:List Wr):Prop where
 pl:P.length<=8
 pk:∀ p∈P,rg false p.1/\OkK sg p
 ol:O.length<=6
 od:∀ f∈O,rg false f
 wl:W.length<=4
 wk:∀ q∈enumL W,OkD false q
 sl:S.length<=4
 su:∀ f∈S,OkF f
 bd:WF B
theorem zeq_ {α:Type}{P:α->Prop}{l:List α}{a:α}(h:∀ x∈l,P x)(ha:P a):∀ x∈l++[a],P x:=fun x hx=>by
 rcases List.mem_append.mp hx with z | z
 ·exact h x z
 ·rw [List.mem_singleton.mp z]; exact ha
theorem zky_ {α:Type}(xs:List α)(a:α):enumL (xs++[a])=enumL xs++[((xs.length:Int),a)]:=by
 refine List.ext_getElem? fun i=>?_
 rw [zbu_]
 by_cases h:i<xs.length
 ·rw [List.getElem?_append_left h,List.getElem?_append_left (by rw [zbi_]; exact h),zbu_]
 ·rw [List.getElem?_append_right (by lia),List.getElem?_append_right (by rw [zbi_]; lia),zbi_]
  by_cases e:i=xs.length
  ·subst e; simp
  ·rw [List.getElem?_eq_none (by simp; lia),List.getElem?_eq_none (by simp; lia)]; rfl
theorem zoa_ (k:Int):(atI SG (k % 37)).getD 0∈SG:=by
 obtain ⟨y,e,h⟩:∃ y,atI SG (k % 37)=some y/\y∈SG:=zd2_ (xs:=SG) (Int.emod_nonneg _ (by decide)) (Int.emod_lt_of_pos _ (by decide))
 rw [e]; exact h
theorem zje_ (xs:List Fl):allO oFF (xs.map iF)=some xs:=by
 induction xs with
 | nil=>rfl
 | cons x xs ih=>rw [List.map_cons]; show ((some x).bind fun a=>(allO _ (xs.map iF)).map fun as=>a::as)=_; rw [ih]; rfl
section
variable {sg:Int->Nat}{P:List Pk}{O:List Fl}{W:List Wk}{S:List Fl}{B:List Wr}
theorem DQ.addP (D:DQ sg P O W S B){p:Pk}(hl:P.length<8)(h:rg false p.1/\OkK sg p):DQ sg (P++[p]) O W S B:=⟨by rw [List.length_append,List.length_singleton]; lia,zeq_ D.pk h,D.ol,D.od,D.wl,D.wk,D.sl,D.su,D.bd⟩
theorem DQ.addO (D:DQ sg P O W S B){f:Fl}(hl:O.length<6)(h:rg false f):DQ sg P (O++[f]) W S B:=⟨D.pl,D.pk,by rw [List.length_append,List.length_singleton]; lia,zeq_ D.od h,D.wl,D.wk,D.sl,D.su,D.bd⟩
theorem DQ.addW (D:DQ sg P O W S B){w:Wk}(hl:W.length<4)(h:OkD false (W.length,w)):DQ sg P O (W++[w]) S B:=⟨D.pl,D.pk,D.ol,D.od,by rw [List.length_append,List.length_singleton]; lia,by rw [zky_]; exact zeq_ D.wk h,D.sl,D.su,D.bd⟩
theorem DQ.addS (D:DQ sg P O W S B){f:Fl}(hl:S.length<4)(h:OkF f):DQ sg P O W (S++[f]) B:=⟨D.pl,D.pk,D.ol,D.od,D.wl,D.wk,by rw [List.length_append,List.length_singleton]; lia,zeq_ D.su h,D.bd⟩
theorem DQ.addB (D:DQ sg P O W S B){w:Wr}(hn:w.2∉B.map (·.2))(h:okW w):DQ sg P O W S (B++[w]):=⟨D.pl,D.pk,D.ol,D.od,D.wl,D.wk,D.sl,D.su,by
 refine ⟨?_,zeq_ D.bd.2 h⟩
 rw [List.map_append,List.nodup_append]
 refine ⟨D.bd.1,by simp,fun a ha b hb e=>hn ?_⟩
 have hb:b=w.2:=List.mem_singleton.mp hb
 rw [<- hb,<- e]; exact ha⟩
end
abbrev DQx (sg:Int->Nat)(s:List (List Dy)):Prop:=∃ P O W S B,s=Dn43 P O W S B/\DQ sg P O W S B
theorem znh_ (ns:List Int)(hl:ns.length<=63):∃ sg:Int->Nat,(∀ c,sg c∈SG)/\∃ s,zde_ ns=.ok s/\DQx sg s:=by
 obtain ⟨bK,es⟩:=zhA_ ns 3 (by decide)
 refine ⟨fun c=>(atI SG ((bK+c*c*(1+bK % 7)) % 37)).getD 0,fun c=>zoa_ _,?_⟩
 generalize de:(fun c:Int=>(atI SG ((bK+c*c*(1+bK % 7)) % 37)).getD 0)=sg
 have nR:0<=bK % 7:=Int.emod_nonneg _ (by decide)
 have nQ:bK % 7<7:=Int.emod_lt_of_pos _ (by decide)
 unfold zde_ zb6_
 walk_at "mo"
 rw [es]
 walk_at "mo"
 rw [Mo.lim_ok (by decide)]
 walk_at "mo"
 refine ziG_ (G:=fun m=>∃ s,fnO (thenO m _)=.ok s/\DQx sg s) (fun _ (s:List (List Dy))=>DQx sg s) ⟨[],[],[],[],[],rfl,by decide,fun p h=>(by cases h),by decide,fun p h=>(by cases h),by decide,fun p h=>(by cases h),by decide,fun p h=>(by cases h),by simp [WF]⟩ (fun d x s _ hs=>?_) (fun s hs=>⟨s,rfl,hs⟩)
 obtain ⟨P,O,W,S,B,rfl,D⟩:=hs
 have l1:=D.pl
 have l2:=D.ol
 have l3:=D.wl
 have l4:=D.sl
 have k0:0<=x % 5:=Int.emod_nonneg _ (by decide)
 have k1:x % 5<5:=Int.emod_lt_of_pos _ (by decide)
 have hk:x % 5=0\/x % 5=1\/x % 5=2\/x % 5=3\/x % 5=4:=by lia
 rcases hk with hk | hk | hk | hk | hk<;>rw [hk]
 ·rw [show atI (Dn43 P O W S B) 0=some (P.map iP) from rfl,show atI [(8:Int),6,4,4,36] 0=some 8 from rfl]
  walk_at "mo"
  by_cases hc:(8:Int)<=((P.map iP).length:Int)
  ·rw [decide_eq_true hc]
   exact ⟨_,.inr rfl,P,O,W,S,B,rfl,D⟩
  ·rw [decide_eq_false hc]
   rw [List.length_map] at hc
   simp only [show decide ((0:Int)=0)=true from rfl,show decide ((0:Int)=1)=false from rfl,show decide ((0:Int)=2)=false from rfl,show decide ((0:Int)=3)=false from rfl,show decide ((0:Int)=4)=false from rfl]
   walk_at "mo"
   obtain ⟨f,ef,f1,f2,f3,f4⟩:=zfl_ (x / 5) (h:=24) (w:=5) (by decide) (by decide)
   rw [ef]
   walk_at "mo"
   rw [Mo.grd_ok ⟨by lia,by lia,by lia,by lia⟩]
   walk_at "mo"
   refine zlU_ (G:=fun m=>∃ s',(thenO (((Mb (Mb m _)) _)) _=.ok (.nx s')\/thenO (((Mb (Mb m _)) _)) _=.ok (.ct s'))/\DQx sg s') (fun c=>[sg c]) (fun c hc=>?_) (by rw [zaj_]; lia) ?_
   ·obtain ⟨c0,c1⟩:=zg9_.mp hc
    have j4:0<=c*c/\c*c<=36*36:=⟨Int.mul_nonneg (by lia) (by lia),Int.mul_le_mul (by lia) (by lia) (by lia) (by lia)⟩
    obtain ⟨y,e,_⟩:∃ y,atI SG ((bK+c*c*(1+bK % 7)) % 37)=some y/\y∈SG:=zd2_ (xs:=SG) (Int.emod_nonneg _ (by decide)) (Int.emod_lt_of_pos _ (by decide))
    rw [zfA_ (by lia) (by lia)]
    walk_at "mo"
    rw [zfA_ (by lia) (by lia)]
    walk_at "mo"
    rw [e,<- de]
    simp only [e]
    rfl
   ·have em:(rngI f.1 (f.2+1-f.1).toNat).map (fun c=>[sg c])=((rngI f.1 (f.2+1-f.1).toNat).map sg).map fun c=>[c]:=by rw [List.map_map]; rfl
    rw [em]
    walk_at "mo"
    rw [Mo.grd_ok (zfi_ (by rw [List.length_map,zaj_]; lia)),zfU_]
    walk_at "mo"
    rw [show ixN (Dn43 P O W S B).length 0=some 0 from rfl]
    walk_at "mo"
    rw [Mo.lim_ok (by show (P.map iP).length+1<=_; rw [List.length_map]; lia)]
    refine ⟨_,.inl rfl,P++[(f,(rngI f.1 (f.2+1-f.1).toNat).map sg)],O,W,S,B,?_,D.addP (by lia) ⟨⟨f2,by simp; lia⟩,⟨f1,f2,by show f.2<=36; lia⟩,rfl⟩⟩
    show _=[(P++[_]).map iP,_,_,_,_]
    rw [List.map_append]
    rfl
 ·rw [show atI (Dn43 P O W S B) 1=some (O.map iF) from rfl,show atI [(8:Int),6,4,4,36] 1=some 6 from rfl]
  walk_at "mo"
  by_cases hc:(6:Int)<=((O.map iF).length:Int)
  ·rw [decide_eq_true hc]
   exact ⟨_,.inr rfl,P,O,W,S,B,rfl,D⟩
  ·rw [decide_eq_false hc]
   rw [List.length_map] at hc
   simp only [show decide ((1:Int)=0)=false from rfl,show decide ((1:Int)=1)=true from rfl,show decide ((1:Int)=2)=false from rfl,show decide ((1:Int)=3)=false from rfl,show decide ((1:Int)=4)=false from rfl]
   walk_at "mo"
   obtain ⟨f,ef,f1,f2,f3,f4⟩:=zfl_ (x / 5) (h:=24) (w:=4) (by decide) (by decide)
   rw [show ixN (Dn43 P O W S B).length 1=some 1 from rfl,ef]
   walk_at "mo"
   rw [Mo.lim_ok (by show (O.map iF).length+1<=_; rw [List.length_map]; lia)]
   refine ⟨_,.inl rfl,P,O++[f],W,S,B,?_,D.addO (by lia) ⟨f2,by simp; lia⟩⟩
   show _=[_,(O++[_]).map iF,_,_,_]
   rw [List.map_append]
   rfl
 ·rw [show atI (Dn43 P O W S B) 2=some (W.map iW) from rfl,show atI [(8:Int),6,4,4,36] 2=some 4 from rfl]
  walk_at "mo"
  by_cases hc:(4:Int)<=((W.map iW).length:Int)
  ·rw [decide_eq_true hc]
   exact ⟨_,.inr rfl,P,O,W,S,B,rfl,D⟩
  ·rw [decide_eq_false hc]
   rw [List.length_map] at hc
   simp only [show decide ((2:Int)=0)=false from rfl,show decide ((2:Int)=1)=false from rfl,show decide ((2:Int)=2)=true from rfl,show decide ((2:Int)=3)=false from rfl,show decide ((2:Int)=4)=false from rfl]
   walk_at "mo"
   obtain ⟨w,ew,hw⟩:=zmv_ (x / 5) (k:=(W.length:Int)) (by lia) (by lia)
   rw [show ixN (Dn43 P O W S B).length 2=some 2 from rfl,show atI (Dn43 P O W S B) 2=some (W.map iW) from rfl]
   walk_at "mo"
   rw [List.length_map,ew]
   walk_at "mo"
   rw [Mo.lim_ok (by show (W.map iW).length+1<=_; rw [List.length_map]; lia)]
   refine ⟨_,.inl rfl,P,O,W++[w],S,B,?_,D.addW (by lia) hw⟩
   show _=[_,_,(W++[_]).map iW,_,_]
   rw [List.map_append]
   rfl
 ·rw [show atI (Dn43 P O W S B) 3=some (S.map iF) from rfl,show atI [(8:Int),6,4,4,36] 3=some 4 from rfl]
  walk_at "mo"
  by_cases hc:(4:Int)<=((S.map iF).length:Int)
  ·rw [decide_eq_true hc]
   exact ⟨_,.inr rfl,P,O,W,S,B,rfl,D⟩
  ·rw [decide_eq_false hc]
   rw [List.length_map] at hc
   simp only [show decide ((3:Int)=0)=false from rfl,show decide ((3:Int)=1)=false from rfl,show decide ((3:Int)=2)=false from rfl,show decide ((3:Int)=3)=true from rfl,show decide ((3:Int)=4)=false from rfl]
   walk_at "mo"
   obtain ⟨f,ef,f1,f2,f3,f4⟩:=zfl_ (x / 5) (h:=36) (w:=8) (by decide) (by decide)
   rw [show ixN (Dn43 P O W S B).length 3=some 3 from rfl,ef]
   walk_at "mo"
   rw [Mo.lim_ok (by show (S.map iF).length+1<=_; rw [List.length_map]; lia)]
   refine ⟨_,.inl rfl,P,O,W,S++[f],B,?_,D.addS (by lia) ⟨f1,f2,f3⟩⟩
   show _=[_,_,_,(S++[_]).map iF,_]
   rw [List.map_append]
   rfl
 ·rw [show atI (Dn43 P O W S B) 4=some (B.map iF) from rfl,show atI [(8:Int),6,4,4,36] 4=some 36 from rfl]
  walk_at "mo"
  by_cases hc:(36:Int)<=((B.map iF).length:Int)
  ·rw [decide_eq_true hc]
   exact ⟨_,.inr rfl,P,O,W,S,B,rfl,D⟩
  ·rw [decide_eq_false hc]
   rw [List.length_map] at hc
   simp only [show decide ((4:Int)=0)=false from rfl,show decide ((4:Int)=1)=false from rfl,show decide ((4:Int)=2)=false from rfl,show decide ((4:Int)=3)=false from rfl,show decide ((4:Int)=4)=true from rfl]
   walk_at "mo"
   have hB:=D.bd.len
   rw [show ixN (Dn43 P O W S B).length 4=some 4 from rfl,show atI (Dn43 P O W S B) 4=some (B.map iF) from rfl]
   walk_at "mo"
   have a0:0<=x / 5 / 40 % 36:=Int.emod_nonneg _ (by decide)
   have a1:x / 5 / 40 % 36<36:=Int.emod_lt_of_pos _ (by decide)
   have b0:0<=x / 5 % 40:=Int.emod_nonneg _ (by decide)
   have b1:x / 5 % 40<40:=Int.emod_lt_of_pos _ (by decide)
   rw [z6_ (f:=fun eJ:Dy=>cond1 (Mq true) ((Mo.opt (oFF eJ)).bind fun nH=>Mq nH.snd)) (g:=fun d=>((oFF d).getD (0,0)).2) (fun d hd=>by
    obtain ⟨w,hw,rfl⟩:=List.mem_map.mp hd
    rfl) (by rw [List.length_map]; simp; lia),List.nil_append,List.map_map,show ((fun d=>((oFF d).getD (0,0)).2)∘iF)=fun w:Wr=>w.2 from rfl]
   walk_at "mo"
   cases hn:(B.map fun w:Wr=>w.2).any fun y=>decide (y=1+x / 5 / 40 % 36) with
   | true =>
    exact ⟨_,.inl rfl,P,O,W,S,B,rfl,D⟩
   | false =>
    walk_at "mo"
    rw [Mo.lim_ok (by show (B.map iF).length+1<=_; rw [List.length_map]; lia)]
    refine ⟨_,.inl rfl,P,O,W,S,B++[(1+x / 5 % 40,1+x / 5 / 40 % 36)],?_,D.addB (fun h=>?_) ⟨by show 1<=1+x / 5 % 40; lia,by show 1+x / 5 % 40<=40; lia,by show 1<=1+x / 5 / 40 % 36; lia,by show 1+x / 5 / 40 % 36<=36; lia⟩⟩
    ·show _=[_,_,_,_,(B++[_]).map iF]
     rw [List.map_append]
     rfl
    ·rw [List.any_eq_false] at hn
     exact hn _ h (by simp)
abbrev iM:((List Nat×Fl) ⊕ (List Nat×List Nat×Fl×Fl))->Dy:=Sum.elim (iT (iC Dy.str (i1 iFF))) (iT (iC Dy.str (iC Dy.str (iC iFF (i1 iFF)))))
def partsL (A:Ak):List Dy:=[Dy.str A.1,iL iP A.2.1,iO iM A.2.2.1,iL iF A.2.2.2.1,iL iW A.2.2.2.2.1,.int A.2.2.2.2.2.1,iL iF A.2.2.2.2.2.2.1,.int A.2.2.2.2.2.2.2.1,iL iF A.2.2.2.2.2.2.2.2.1]
abbrev oF:=oFF
abbrev oP:=oT (oC oFF (o1 Dy.str?))
abbrev oW:=oT (oC oFF (oC oFF (oC Dy.str? (o1 oFF))))
theorem zoZ_ (xs:List Pk):allO oP (xs.map iP)=some xs:=by
 induction xs with
 | nil=>rfl
 | cons x xs ih=>rw [List.map_cons]; show ((some x).bind fun a=>(allO _ (xs.map iP)).map fun as=>a::as)=_; rw [ih]; rfl
theorem zny_ (xs:List Wk):allO oW (xs.map iW)=some xs:=by
 induction xs with
 | nil=>rfl
 | cons x xs ih=>rw [List.map_cons]; show ((some x).bind fun a=>(allO _ (xs.map iW)).map fun as=>a::as)=_; rw [ih]; rfl
def tn (f:Fl):Fl:=(37-f.2,37-f.1)
def tnP (p:Pk):Pk:=(tn p.1,p.2.reverse)
def tnW (w:Wk):Wk:=(tn w.1,tn w.2.1,w.2.2.1,tn w.2.2.2)
def tnM:Md->Md | none=>none | some (.inl c)=>some (.inl (c.1,tn c.2)) | some (.inr c)=>some (.inr (c.1,c.2.1,tn c.2.2.1,c.2.2.2))
theorem zdQ_ (f:Fl):zaO_ f=.ok (tn f):=rfl
theorem zns_ {f:Fl}(h:rg false f):rg true (tn f):=by
 unfold rg at h ⊢; unfold tn
 simp at h ⊢; lia
theorem tn_bk {k:Int}{f:Fl}(h:bk false k f):bk true k (tn f):=by
 unfold bk at h ⊢; unfold tn
 simp at h ⊢; lia
theorem zpR_ {f:Fl}(h:OkF f):OkF (tn f):=by
 unfold OkF tn at *
 simp only at *; lia
theorem zoA_ (a:Int)(n:Nat)(g:Int->Nat):((rngI a n).map g).reverse=(rngI (37-(a+n-1)) n).map fun c=>g (37-c):=by
 apply List.ext_getElem?
 intro i
 by_cases h:i<n
 ·rw [List.getElem?_reverse (by rw [List.length_map,zaj_]; exact h),List.length_map,zaj_]
  unfold rngI
  rw [List.map_map,List.map_map,List.getElem?_map,List.getElem?_map,List.getElem?_range (by lia),List.getElem?_range h]
  show some (g (a+((n-1-i:Nat):Int)))=some (g (37-(37-(a+n-1)+(i:Int))))
  congr 2
  lia
 ·rw [List.getElem?_eq_none (by rw [List.length_reverse,List.length_map,zaj_]; lia),List.getElem?_eq_none (by rw [List.length_map,zaj_]; lia)]
theorem tn_K {sg:Int->Nat}{p:Pk}(h:OkK sg p):OkK (fun c=>sg (37-c)) (tnP p):=by
 obtain ⟨h1,h2⟩:=h
 refine ⟨zpR_ h1,?_⟩
 obtain ⟨a1,a2,a3⟩:=h1
 show p.2.reverse=(rngI (37-p.1.2) (37-p.1.1+1-(37-p.1.2)).toNat).map _
 rw [h2,zoA_,show (37-p.1.1+1-(37-p.1.2)).toNat=(p.1.2+1-p.1.1).toNat by lia]
 congr 2
 lia
theorem zmZ_ {α β:Type}(g:α->β)(xs:List α):enumL (xs.map g)=(enumL xs).map fun q=>(q.1,g q.2):=by
 refine List.ext_getElem? fun i=>?_
 rw [zbu_,List.getElem?_map,List.getElem?_map,zbu_]
 cases xs[i]?<;>rfl
theorem tn_D {q:Int×Wk}(h:OkD false q):OkD true (q.1,tnW q.2):=by
 obtain ⟨h1,h2,h3,h4⟩:=h
 refine ⟨tn_bk h1,?_,zns_ h3,h4⟩
 rcases h2 with h2 | ⟨j,j1,j0,h2⟩
 ·exact .inl (zns_ h2)
 ·exact .inr ⟨j,j1,j0,tn_bk h2⟩
theorem tn_M {d:List Nat}{m:Md}(h:OkM d m):OkM d (tnM m):=by
 cases h with
 | no=>exact .no
 | fi h=>exact .fi (zpR_ h)
 | @ma w n f g h1 h2 h3 h4 h5 h6=>exact .ma h1 h2 h3 (zpR_ h4) h5 (by unfold tn; show 37-f.1-(37-f.2)=g.2-g.1; lia)
theorem tn_mf {m:Md}(h:∀ f∈(midF m).take 1,rg false f):∀ f∈(midF (tnM m)).take 1,rg true f:=by
 match m,h with
 | none,_=>intro f hf; cases hf
 | some (.inl c),h=>intro f hf; rw [show f=tn c.2 from List.mem_singleton.mp hf]; exact zns_ (h c.2 (List.mem_singleton.mpr rfl))
 | some (.inr c),h=>intro f hf; rw [show f=tn c.2.2.1 from List.mem_singleton.mp hf]; exact zns_ (h c.2.2.1 (List.mem_singleton.mpr rfl))
abbrev PQ (A:Ak):Prop:=∃ s sg,(∀ c,sg c∈SG)/\Dr s sg A/\OkM A.1 A.2.2.1/\SB A.2.2.2.2.2.2.2.2.1
theorem zjJ_ (B:List Wr)(hB:B.length<=36):compM (fun bf:Wr=>cond1 (Mq true) (Mq (bf.2,bf.1))) B []=.ok (B.map swp):=by
 rw [z6_ (f:=fun bf:Wr=>cond1 (Mq true) (Mq (bf.2,bf.1))) (g:=swp) (fun x _=>rfl) (by simp; lia)]; rfl
theorem zhD_ {ρ S:Type}{m:Mo (Out ρ Unit S)}{k:S->Mo (Out ρ Unit Unit)}{Q:Mo ρ->Prop}(F:S->Prop)(h:∃ s,m=.ok (.nx s)/\F s)(hk:∀ s,F s->Q (fnO (k s))):Q (fnO (thenO m k)):=by
 obtain ⟨s,e,p⟩:=h
 rw [e,zcz_]
 exact hk s p
abbrev FS (nm:Jx)(st:List Pk×List Fl×List Fl×List Wk×Md):Prop:=∃ s sg,(∀ c,sg c∈SG)/\st.1.length<=8/\(∀ p∈st.1,rg s p.1/\OkK sg p)/\st.2.1.length<=6/\(∀ f∈st.2.1,rg s f)/\st.2.2.1.length<=4/\(∀ f∈st.2.2.1,OkF f)/\st.2.2.2.1.length<=4/\(∀ q∈enumL st.2.2.2.1,OkD s q)/\OkM nm st.2.2.2.2/\∀ f∈(midF st.2.2.2.2).take 1,rg s f
theorem zne_ (ns:List Int)(hl:ns.length<=63):∃ A,zdf_ ns=.ok (partsL A)/\PQ A:=by
 obtain ⟨c0,e0⟩:=zhA_ ns 0 (by decide)
 obtain ⟨c1,e1⟩:=zhA_ ns 1 (by decide)
 obtain ⟨c2,e2⟩:=zhA_ ns 2 (by decide)
 obtain ⟨nm,en,hn⟩:=zm1_ (c0 / 2)
 obtain ⟨m,em,hm,hmf⟩:=zj2_ hn c1
 obtain ⟨sg,de,_,ed,P,O,W,S,B,rfl,D⟩:=znh_ ns hl
 have l1:=D.pl
 have l2:=D.ol
 have l3:=D.wl
 have l4:=D.sl
 have l5:=D.bd.len
 unfold zdf_ zb8_
 walk_at "mo"
 rw [e0,e1,e2]
 walk_at "mo"
 rw [en]
 walk_at "mo"
 rw [em,ed]
 walk_at "mo"
 rw [show five (Dn43 P O W S B)=some (P.map iP,O.map iF,W.map iW,S.map iF,B.map iF) from rfl]
 walk_at "mo"
 rw [zoZ_,zje_,zny_]
 walk_at "mo"
 rw [zje_,zje_]
 walk_at "mo"
 refine zhD_ (Q:=fun r=>∃ A,r=.ok (partsL A)/\PQ A) (F:=FS nm) ?_ (fun st bQ=>?_)
 ·by_cases hc:c0 % 2=1
  ·rw [decide_eq_true hc,if_pos rfl]
   refine ⟨(P.map tnP,O.map tn,S.map tn,W.map tnW,tnM m),?_,true,fun c=>sg (37-c),fun c=>de _,by rw [List.length_map]; exact l1,fun p hp=>?_,by rw [List.length_map]; exact l2,fun f hf=>?_,by rw [List.length_map]; exact l4,fun f hf=>?_,by rw [List.length_map]; exact l3,fun q hq=>?_,tn_M hm,tn_mf hmf⟩
   ·rw [z6_ (f:=fun gf:Pk=>cond1 (Mq true) ((zaO_ gf.1).noex.bind fun a=>(Mo.lim gf.2.length (Mq gf.2.reverse)).bind fun c=>Mq (a,c))) (g:=tnP) (fun p hp=>by
     have hk:=(D.pk p hp).2
     obtain ⟨⟨a1,a2,a3⟩,ht⟩:=hk
     have:p.2.length<=36:=by rw [ht,List.length_map,zaj_]; lia
     rw [zdQ_,Mo.lim_ok (by lia)]
     rfl) (by simp; lia),z6_ (f:=fun gd:Fl=>cond1 (Mq true) (zaO_ gd).noex) (g:=tn) (fun f hf=>rfl) (by simp; lia),z6_ (f:=fun gd:Fl=>cond1 (Mq true) (zaO_ gd).noex) (g:=tn) (fun f hf=>rfl) (by simp; lia)]
    walk_at "mo"
    refine zcb_ (G:=fun z=>thenO z _=_) (fun d (s:List Wk)=>s=d.map tnW) rfl (fun d x s hx hs=>?_) (fun s hs=>?_)
    ·obtain ⟨r,hr⟩:=hx
     have hd:d.length<4:=by have:=congrArg List.length hr; simp at this; lia
     subst hs
     rw [zdQ_,zdQ_,zdQ_]
     walk_at "mo"
     rw [Mo.lim_ok (by rw [List.length_map]; lia)]
     exact ⟨_,rfl,by rw [List.map_append]; rfl⟩
    ·subst hs
     rw [zcz_]
     match m with
     | none=>rfl
     | some (.inl c)=>rfl
     | some (.inr c)=>rfl
   ·obtain ⟨p,hp2,rfl⟩:=List.mem_map.mp hp
    exact ⟨zns_ (D.pk p hp2).1,tn_K (D.pk p hp2).2⟩
   ·obtain ⟨f,hf2,rfl⟩:=List.mem_map.mp hf
    exact zns_ (D.od f hf2)
   ·obtain ⟨f,hf2,rfl⟩:=List.mem_map.mp hf
    exact zpR_ (D.su f hf2)
   ·rw [show (P.map tnP,O.map tn,S.map tn,W.map tnW,tnM m).2.2.2.1=W.map tnW from rfl,zmZ_] at hq
    obtain ⟨r,hr,rfl⟩:=List.mem_map.mp hq
    exact tn_D (D.wk r hr)
  ·rw [decide_eq_false hc,if_neg (by decide)]
   exact ⟨_,rfl,false,sg,de,l1,D.pk,l2,D.od,l4,D.su,l3,D.wk,hm,hmf⟩
 ·obtain ⟨s,sg',hsg',q1,q2,q3,q4,q5,q6,q7,q8,q9,q10⟩:=bQ
  rw [zjJ_ B l5]
  walk_at "mo"
  rw [Mo.grd_ok (by rw [List.length_map]; lia)]
  walk_at "mo"
  have nS:(srtL (lxP ltI ltI) (B.map swp)).length<=36:=by rw [(zbk_ _ _).length_eq,List.length_map]; exact l5
  rw [z6_ (f:=fun bf:Wr=>cond1 (Mq true) (Mq (bf.2,bf.1))) (g:=swp) (fun x _=>rfl) (by simp; lia),List.nil_append,show (srtL (lxP ltI ltI) (B.map swp)).map swp=brd B from rfl]
  walk_at "mo"
  rw [Mo.grd_ok (by lia)]
  have b0:0<=c2 % (min 3 (st.2.1.length:Int)+1):=Int.emod_nonneg _ (by lia)
  have b1:c2 % (min 3 (st.2.1.length:Int)+1)<min 3 (st.2.1.length:Int)+1:=Int.emod_lt_of_pos _ (by lia)
  have f0:0<=c2 / 4 % 12:=Int.emod_nonneg _ (by decide)
  have f1:c2 / 4 % 12<12:=Int.emod_lt_of_pos _ (by decide)
  refine ⟨(nm,st.1,st.2.2.2.2,st.2.1,st.2.2.2.1,c2 % (min 3 (st.2.1.length:Int)+1),st.2.2.1,1+c2 / 4 % 12,brd B,()),rfl,s,sg',hsg',⟨hn,q1,q2,⟨_,q9⟩,q10,q3,q4,q7,q8,⟨b0,by show c2 % _<=3; lia,by show c2 % _<=(st.2.1.length:Int); lia⟩,q5,q6,⟨by show 1<=1+c2 / 4 % 12; lia,by show 1+c2 / 4 % 12<=12; lia⟩,(zo3_ D.bd).ok⟩,q9,zo3_ D.bd⟩
theorem zpe_ (A:Ak):zd4_ A=.ok (partsL A):=by
 unfold zd4_ zcL_
 walk_at "mo"
 rw [Mo.lim_ok (by show 6+3<=100000; decide)]
 rfl
theorem zn5_ (d:Dy):flatV d.flat=true:=by cases d<;>rfl
theorem zjZ_ {x:V}(hx:flatV x=true):eqV x x=true:=by
 cases x<;>first | rfl | exact beq_self_eq_true _ | (cases hx; done)
theorem zfr_:∀ (n:Nat) (d:Dy),d.fit n=true->eqDy n d d=true
 | 0,d,h=>by
  unfold Dy.fit at h
  have h:=of_decide_eq_true h
  unfold eqDy
  rw [if_pos ⟨h,h⟩,zjZ_ (zn5_ d)]
 | n+1,d,h=>by
  unfold Dy.fit at h
  unfold eqDy
  by_cases z:d.kd.1=0/\d.kd.1=0
  ·rw [if_pos z,zjZ_ (zn5_ d)]
  ·rw [if_neg z,if_pos rfl,beq_self_eq_true,Bool.and_true,List.all_eq_true]
   intro i hi
   rw [Nat.min_self] at hi
   have hi:=List.mem_range.mp hi
   rw [List.getD_eq_getElem?_getD,List.getElem?_eq_getElem hi]
   exact zfr_ n _ (List.all_eq_true.mp h _ (List.getElem_mem hi))
theorem zfs_ {α:Type}{f:α->Dy}{n:Nat}(xs:List α)(h:∀ x,Dy.fit n (f x)=true):(xs.map f).all (Dy.fit n)=true:=by
 rw [List.all_eq_true]
 intro d hd
 obtain ⟨x,_,rfl⟩:=List.mem_map.mp hd
 exact h x
theorem zdW_ (A:Ak):Dy.fit 5 (.lst (partsL A))=true:=by
 show (partsL A).all (Dy.fit 4)=true
 have h1:Dy.fit 4 (iL iP A.2.1)=true:=zfs_ (n:=3) A.2.1 fun _=>rfl
 have h2:∀ xs:List Fl,Dy.fit 4 (iL iF xs)=true:=fun xs=>zfs_ (n:=3) xs fun _=>rfl
 have h3:Dy.fit 4 (iL iW A.2.2.2.2.1)=true:=zfs_ (n:=3) A.2.2.2.2.1 fun _=>rfl
 have h4:Dy.fit 4 (iO iM A.2.2.1)=true:=by
  match A.2.2.1 with
  | none=>rfl
  | some (.inl c)=>rfl
  | some (.inr c)=>rfl
 unfold partsL
 simp only [List.all_cons,h1,h2,h3,h4,List.all_nil]
 rfl
theorem zkf_ (A:Ak):zcc_ A (partsL A)=.ok true:=by
 unfold zcc_ zdT_
 walk_at "mo"
 rw [zpe_]
 walk_at "mo"
 rw [Mo.grd_ok (zdW_ A),zfr_ 5 _ (zdW_ A)]
 rfl
theorem zqG_ {α:Type}(f:α->Dy)(hf:∀ x,(f x).plain=true)(xs:List α):allO (fun d:Dy=>if d.plain=true then some d else none) (xs.map f)=some (xs.map f):=by
 induction xs with
 | nil=>rfl
 | cons x xs ih =>
  rw [List.map_cons]
  unfold allO
  simp [hf x,ih]
theorem zfN_ {α:Type}(f:α->Dy)(hf:∀ x,(f x).plain=true)(xs:List α):oL (fun d=>if d.plain=true then some d else none) (iL f xs)=some (xs.map f):=zqG_ f hf xs
def hnd (A:Ak):List (Dy ⊕ List Dy):=[.inl (.str A.1),.inr (A.2.1.map iP),.inl (iO iM A.2.2.1),.inr (A.2.2.2.1.map iF),.inr (A.2.2.2.2.1.map iW),.inl (.int A.2.2.2.2.2.1),.inr (A.2.2.2.2.2.2.1.map iF),.inl (.int A.2.2.2.2.2.2.2.1),.inr (A.2.2.2.2.2.2.2.2.1.map iF)]
theorem owN0:za6_ none=.ok []:=rfl
theorem owW0:zcm_ none=.ok []:=rfl
theorem owN1 (S):za6_ (some S)=.ok S:=rfl
theorem i0 {n:List Nat}{P:List Pk}{m:Md}{O:List Fl}{b g:Int}(h:OkA (n,P,m,O,[],b,[],g,[],())):zA_ () n P m O none b none g none=.ok ((),n,P,m,O,[],b,[],g,[],()):=by
 unfold zA_ zT_
 walk_at "mo"
 rw [owN0,owW0]
 walk_at "mo"
 rw [zgS_ h]
 rfl
theorem i4 {n:List Nat}{P:List Pk}{m:Md}{O:List Fl}{b g:Int}{S B:List Fl}(h:OkA (n,P,m,O,[],b,S,g,B,())):zA_ () n P m O none b (some S) g (some B)=.ok ((),n,P,m,O,[],b,S,g,B,()):=by
 unfold zA_ zT_
 walk_at "mo"
 rw [owN1,owW0,owN1]
 walk_at "mo"
 rw [zgS_ h]
 rfl
theorem zmm_ (ns:List Int)(hl:ns.length<=63):f_law ns=.ok true:=by
 obtain ⟨A,eA,s,sg,de,D,hM,hB⟩:=zne_ ns hl
 have ba:OkA A:=D.ok de fun w n f g e=>by
  rw [e] at hM
  cases hM with
  | ma _ _ h _ _ _=>exact h
 unfold f_law zpQ_
 walk_at "mo"
 rw [eA]
 walk_at "mo"
 have e1:∀ xs:List Dy,xs.length<=1000->compM (fun x=>cond1 (Mq true) (Mq x)) xs []=.ok xs:=fun xs h=>by
  refine zlU_ (G:=fun m=>m=.ok xs) (fun d=>d) (fun d _=>by cases d<;>rfl) h ?_
  rw [List.map_id']
 rw [e1 _ (by show 9<=1000; decide)]
 walk_at "mo"
 refine zhD_ (Q:=fun r=>r=.ok true) (F:=fun st=>st=hnd A) ?_ (fun st bQ=>?_)
 ·have p1:=zfN_ iP (fun _=>rfl) A.2.1
  have p2:=zfN_ iF (fun _=>rfl)
  have p3:=zfN_ iW (fun _=>rfl) A.2.2.2.2.1
  refine ⟨_,?_,rfl⟩
  simp only [forO,show atI (partsL A) 1=some (iL iP A.2.1) from rfl,show atI (partsL A) 3=some (iL iF A.2.2.2.1) from rfl,show atI (partsL A) 4=some (iL iW A.2.2.2.2.1) from rfl,show atI (partsL A) 6=some (iL iF A.2.2.2.2.2.2.1) from rfl,show atI (partsL A) 8=some (iL iF A.2.2.2.2.2.2.2.2.1) from rfl,Mo.opt,Mb,p1,p2,p3]
  rfl
 ·subst bQ
  rw [show (hnd A).map udy=partsL A from rfl,show atI (partsL A) 0=some (Dy.str A.1) from rfl,show atI (partsL A) 1=some (iL iP A.2.1) from rfl,show atI (partsL A) 2=some (iO iM A.2.2.1) from rfl,show atI (partsL A) 3=some (iL iF A.2.2.2.1) from rfl]
  have q1:oL oP (iL iP A.2.1)=some A.2.1:=zoZ_ _
  have o2:oO (oU (oT (oC Dy.str? (o1 oF))) (oT (oC Dy.str? (oC Dy.str? (oC oF (o1 oF)))))) (iO iM A.2.2.1)=some A.2.2.1:=by
   match A.2.2.1 with
   | none=>rfl
   | some (.inl c)=>rfl
   | some (.inr c)=>rfl
  have o3:∀ xs:List Fl,oL oF (iL iF xs)=some xs:=fun xs=>zje_ xs
  have o4:oO (oL oW) (iL iW A.2.2.2.2.1)=some (some A.2.2.2.2.1):=by show (allO oW (A.2.2.2.2.1.map iW)).map some=_; rw [zny_]; rfl
  have o5:∀ xs:List Fl,oO (oL oF) (iL iF xs)=some (some xs):=fun xs=>by show (allO oF (xs.map iF)).map some=_; rw [zje_]; rfl
  have B0:zbd_ []=.ok true:=SB.ok (zpY_ hB (List.nil_sublist _))
  obtain ⟨n,P,m,O,W,b,S,g,B,u⟩:=A
  have okB:OkA (n,P,m,O,[],0,[],6,[],()):=⟨ba.nm,ba.pl,ba.pk,ba.md,ba.ol,ba.od,Nat.zero_le _,fun w h=>(by cases h),⟨Int.le_refl 0,by show (0:Int)<=3; decide,by show (0:Int)<=O.length; lia⟩,Nat.zero_le _,fun f h=>(by cases h),(by decide:(1:Int)<=6/\(6:Int)<=12),B0,fun q h=>(by cases h)⟩
  have mx:OkA (n,[],none,[],[],0,[],12,[],()):=⟨ba.nm,Nat.zero_le _,⟨_,de,fun p h=>(by cases h)⟩,.no,Nat.zero_le _,fun f h=>(by cases h),Nat.zero_le _,fun w h=>(by cases h),(by decide:(0:Int)<=0/\(0:Int)<=3/\(0:Int)<=(0:Nat)),Nat.zero_le _,fun f h=>(by cases h),(by decide:(1:Int)<=12/\(12:Int)<=12),B0,fun q h=>(by cases h)⟩
  have okN:OkA (n,P,m,O,[],b,S,6,B,()):=⟨ba.nm,ba.pl,ba.pk,ba.md,ba.ol,ba.od,Nat.zero_le _,fun w h=>(by cases h),ba.br,ba.sl,ba.su,(by decide:(1:Int)<=6/\(6:Int)<=12),ba.bd,fun q h=>(by cases h)⟩
  have i1:=zpu_ ba
  simp only [] at i1
  have a1:=zkf_ (n,P,m,O,W,b,S,g,B,u)
  have a2:=zkf_ (n,P,m,O,[],0,[],6,[],())
  have a3:=zkf_ (n,[],none,[],[],0,[],12,[],())
  have a4:=zkf_ (n,P,m,O,[],b,S,6,B,())
  have z0:cutG (hnd (n,P,m,O,W,b,S,g,B,u)) (some 4) none=(hnd (n,P,m,O,W,b,S,g,B,u)).drop 4:=rfl
  walk_at "mo"
  rw [show Dy.str? (Dy.str n)=some n from rfl]
  simp only [] at q1 o2 o4
  walk_at "mo"
  rw [q1,o2,o3]
  walk_at "mo"
  rw [z0,show atI ((hnd (n,P,m,O,W,b,S,g,B,u)).drop 4) 0=some (.inr (W.map iW)) from rfl,show atI ((hnd (n,P,m,O,W,b,S,g,B,u)).drop 4) 1=some (.inl (.int b)) from rfl,show atI ((hnd (n,P,m,O,W,b,S,g,B,u)).drop 4) 2=some (.inr (S.map iF)) from rfl,show atI ((hnd (n,P,m,O,W,b,S,g,B,u)).drop 4) 3=some (.inl (.int g)) from rfl,show atI ((hnd (n,P,m,O,W,b,S,g,B,u)).drop 4) 4=some (.inr (B.map iF)) from rfl]
  walk_at "mo"
  rw [show udy (.inr (W.map iW))=iL iW W from rfl,show udy (.inr (S.map iF))=iL iF S from rfl,show udy (.inr (B.map iF))=iL iF B from rfl,o4,o5,o5,show (udy (.inl (.int b))).int?=some b from rfl,show (udy (.inl (.int g))).int?=some g from rfl]
  walk_at "mo"
  rw [i1,Mo.grd_ok (zdW_ _),zfr_ 5 _ (zdW_ _)]
  walk_at "mo"
  rw [a1]
  walk_at "mo"
  rw [i0 okB,Mo.lim_ok (by show 4+5<=100000; decide)]
  walk_at "mo"
  rw [show zcc_ (n,P,m,O,[],0,[],6,[],()) (cutG (partsL (n,P,m,O,W,b,S,g,B,u)) none (some 4)++[Dy.lst [],Dy.int 0,Dy.lst [],Dy.int 6,Dy.lst []])=.ok true from a2]
  walk_at "mo"
  rw [i0 mx]
  walk_at "mo"
  rw [show zcc_ (n,[],none,[],[],0,[],12,[],()) [Dy.str n,Dy.lst [],Dy.non,Dy.lst [],Dy.lst [],Dy.int 0,Dy.lst [],Dy.int 12,Dy.lst []]=.ok true from a3]
  walk_at "mo"
  rw [i4 okN,show atI (partsL (n,P,m,O,W,b,S,g,B,u)) 5=some (.int b) from rfl,show atI (partsL (n,P,m,O,W,b,S,g,B,u)) 6=some (iL iF S) from rfl,show atI (partsL (n,P,m,O,W,b,S,g,B,u)) 8=some (iL iF B) from rfl]
  walk_at "mo"
  rw [Mo.lim_ok (by show 4+5<=100000; decide)]
  walk_at "mo"
  rw [show zcc_ (n,P,m,O,[],b,S,6,B,()) (cutG (partsL (n,P,m,O,W,b,S,g,B,u)) none (some 4)++[Dy.lst [],Dy.int b,iL iF S,Dy.int 6,iL iF B])=.ok true from a4]
  walk_at "mo"
  have hw:=hB.1.len
  have hp:=ba.pl
  have ho:=ba.ol
  have hk:=ba.wl
  have hs:=ba.sl
  simp only [] at hw hp ho hk hs
  have L:∀ {α:Type}(f:α->Dy) (xs:List α),xs.length<=99->(xs.map f).length+1<=100000:=fun f xs h=>by rw [List.length_map]; lia
  have F2:∀ {h2:List (Dy ⊕ List Dy)}{k:Int}{n:Nat}{z:List Dy},ixN h2.length k=some n->h2[n]?=some (.inr z)->z.length+1<=100000->((((Mo.opt (ixN h2.length k)).bind fun n=>(Mo.opt h2[n]?).bind fun z=>Mq (z,fun z'=>h2.set n z')).bind fun yp=>(Mo.opt (inr? yp.fst)).bind fun z=>Mq (z,fun z'=>yp.snd (Sum.inr z'))).bind fun yp=>Mo.lim (yp.fst.length+1) (Mq (Out.nx (ρ:=Bool) (B:=List (Dy ⊕ List Dy)) (yp.snd (yp.fst++[iT (iC Dy.int (L2.i1 Dy.int)) (1,36)])))))=.ok (.nx (h2.set n (.inr (z++[iT (iC Dy.int (L2.i1 Dy.int)) (1,36)])))):=fun e1 e2 e3=>by
   rw [e1]
   walk_at "mo"
   rw [e2]
   walk_at "mo"
   rw [show inr? (Sum.inr _)=some _ from rfl]
   walk_at "mo"
   rw [Mo.lim_ok e3]
  rw [zeC_ (F2 (n:=1) (z:=P.map iP) rfl rfl (L _ _ (by lia))),zeC_ (F2 (n:=3) (z:=O.map iF) rfl rfl (L _ _ (by lia))),zeC_ (F2 (n:=4) (z:=W.map iW) rfl rfl (L _ _ (by lia))),zeC_ (F2 (n:=6) (z:=S.map iF) rfl rfl (L _ _ (by lia))),zeC_ (F2 (n:=8) (z:=B.map iF) rfl rfl (L _ _ (by lia)))]
  rfl
end K40
namespace K40
open PySem PySem.Spec PyProof.Rows L2
open Mo renaming bind→Mb,ok→Mq
open Sl renaming fz→Zf,dead→Zd,ow→Zo
theorem zqR_ {l:W.OpenLaw}{w:World}{K:Fgg}{mg:Str->Option Value}{base:Heap}{f:Addr}{fd:FuncData}(e:En K mg)(ka:zfj_ l.prog w K mg base)(fZ:zbA_ l.prog w K mg base)(d_:zhs_ l.prog w K mg base)(F:Fun K "law" "law" zp6_ f fd):FnOk l.prog w K mg base CX0 9 f fd ["_law_script"] (spL K):=
 okL (l:=l) (w:=w) (K:=K) (mg:=mg) (base:=base) (k:=8) (st:=zp6_) (x:="_law_script") (N:=["_law_script", "_law_parts_here", "_law_handed", "_law_k", "_law_some", "_law_asking", "_law_bare", "_law_due", "_law_plain", "_law_named", "_law_more"]) (t:=fun E=>t_law K) (g:=zpQ_.1) 10 (fun _ _ _ _ _ _ E nd hr=>(zg_ (pst 1 (zk_ ka (hm hr) (zb_ (za_ 0) zh_))) (zg_ (zb0_ (cl:=[]) (lv:=["_law_part"]) (fr:=[]) rfl (csm rfl fr0) (zaw_ (za_ 1)) (fun _ _ _ _=>(pgc 0)) (fun _ _ _ _=>zaJ_) (fun _ _ _ _=>(za_ 0)) (pgn 2)) (zg_ (zcg_ PassesOwn.never rfl (zaw_ (zS_ (zb_ zf_ (zb_ zf_ (zb_ zf_ (zb_ zf_ (zb_ zf_ zh_))))))) (pgn 3) (zl_ (zoS_ (zkK_ "list" (zaL_ rfl) (e.m.gb e.b0) (zb_ (zC_ ix_M (za_ 1) (za_ 3) (fun _ _=>rfl)) zh_)) (zqd_ (za_ 2) (za_ 3) set_M)))) (zg_ (pst 4 (za8_ sl_M (za_ 2) (po_M zf_) zcM_)) (zg_ (pst 5 (zhh_ fZ.1 (hm hr) pass0 (zb_ (zC_ ix_M (za_ 2) zf_ (fun _ _=>rfl)) (zb_ (zC_ ix_M (za_ 2) zf_ (fun _ _=>rfl)) (zb_ (zC_ ix_M (za_ 2) zf_ (fun _ _=>rfl)) (zb_ (zC_ ix_M (za_ 2) zf_ (fun _ _=>rfl)) (zb_ (zC_ ix_M (za_ 4) zf_ (fun _ _=>rfl)) (zb_ (zC_ ix_M (za_ 4) zf_ (fun _ _=>rfl)) (zb_ (zC_ ix_M (za_ 4) zf_ (fun _ _=>rfl)) (zb_ (zC_ ix_M (za_ 4) zf_ (fun _ _=>rfl)) (zb_ (zC_ ix_M (za_ 4) zf_ (fun _ _=>rfl)) zh_))))))))))) (zg_ (zan_ (PW.pt (zkR_ (z5_ (zkN_ hr.u60) (za_ 2) (za_ 1)) (zmo_ (zej_ (zbb_ (zk_ d_ (hm hr) (zb_ (za_ 5) (zb_ (za_ 1) zh_)))))))) (zl_ (zJ_ znt_)) zI_) (zg_ (pst 6 (zhh_ fZ.2.1 (hm hr) pass0 (zb_ (zC_ ix_M (za_ 2) zf_ (fun _ _=>rfl)) (zb_ (zC_ ix_M (za_ 2) zf_ (fun _ _=>rfl)) (zb_ (zC_ ix_M (za_ 2) zf_ (fun _ _=>rfl)) (zb_ (zC_ ix_M (za_ 2) zf_ (fun _ _=>rfl)) zh_)))))) (zg_ (pst 7 (zF_ zy_ (za8_ sl_M (za_ 1) zcM_ (po_M zf_)) (zS_ (zb_ (zS_ zh_) (zb_ zf_ (zb_ (zS_ zh_) (zb_ zf_ (zb_ (zS_ zh_) zh_)))))))) (zg_ (zan_ (zej_ (zbb_ (zk_ d_ (hm hr) (zb_ (za_ 6) (zb_ (za_ 7) zh_))))) (zl_ (zJ_ znt_)) zI_) (zg_ (pst 8 (zhh_ fZ.1 (hm hr) pass0 (zb_ (zC_ ix_M (za_ 2) zf_ (fun _ _=>rfl)) (zb_ (zS_ zh_) (zb_ zcU_ (zb_ (zS_ zh_) (zb_ zcU_ (zb_ zf_ (zb_ zcU_ (zb_ zf_ (zb_ zcU_ zh_))))))))))) (zg_ (zan_ (zej_ (zbb_ (zk_ d_ (hm hr) (zb_ (za_ 8) (zb_ (zS_ (zb_ (zC_ ix_M (za_ 1) zf_ (fun _ _=>rfl)) (zb_ (zS_ zh_) (zb_ zcU_ (zb_ (zS_ zh_) (zb_ (zS_ zh_) (zb_ zf_ (zb_ (zS_ zh_) (zb_ zf_ (zb_ (zS_ zh_) zh_)))))))))) zh_))))) (zl_ (zJ_ znt_)) zI_) (zg_ (pst 9 (zmq_ fZ.2.2 (hm hr) pass0 (zb_ (zC_ ix_M (za_ 2) zf_ (fun _ _=>rfl)) (zb_ (zC_ ix_M (za_ 2) zf_ (fun _ _=>rfl)) (zb_ (zC_ ix_M (za_ 2) zf_ (fun _ _=>rfl)) (zb_ (zC_ ix_M (za_ 2) zf_ (fun _ _=>rfl)) zh_)))) (zjf_ (zC_ ix_M (za_ 4) zf_ (fun _ _=>rfl)) (zjf_ (zC_ ix_M (za_ 4) zf_ (fun _ _=>rfl)) (zjf_ (zC_ ix_M (za_ 4) zf_ (fun _ _=>rfl)) zqY_))))) (zg_ (pst 10 (zF_ zy_ (za8_ sl_M (za_ 1) zcM_ (po_M zf_)) (zS_ (zb_ (zS_ zh_) (zb_ (zC_ ix_M (za_ 1) zf_ (fun _ _=>rfl)) (zb_ (zC_ ix_M (za_ 1) zf_ (fun _ _=>rfl)) (zb_ zf_ (zb_ (zC_ ix_M (za_ 1) zf_ (fun _ _=>rfl)) zh_)))))))) (zg_ (zan_ (zej_ (zbb_ (zk_ d_ (hm hr) (zb_ (za_ 9) (zb_ (za_ 10) zh_))))) (zl_ (zJ_ znt_)) zI_) (zg_ (zcg_ PassesOwn.never rfl (zaw_ (zS_ (zb_ zf_ (zb_ zf_ (zb_ zf_ (zb_ zf_ (zb_ zf_ zh_))))))) (pgn 3) (zl_ (zv_ (ziv_ zbU_ zH_ zG_ zaC_ (zC_ ix_M (za_ 2) (za_ 3) (fun _ _=>rfl)) (zb_ (zbO_ (zb_ zf_ (zb_ zf_ zh_))) zh_))))) (zl_ (zJ_ (zbz_ (zk_ d_ (hm hr) (zb_ (za_ 5) (zb_ (za_ 1) zh_))) (zbz_ (zk_ d_ (hm hr) (zb_ (za_ 6) (zb_ (za_ 7) zh_))) (zdq_ (zk_ d_ (hm hr) (zb_ (za_ 9) (zb_ (za_ 10) zh_)))))))))))))))))))))))) (fun ns hl hb=>zmm_ ns hl) (zpQ_.2 K) f fd F
theorem all_mk {l:W.OpenLaw}{w:World}{K:Fgg}{h:Heap}{mg:Str->Option Value}{fa:Addr}(X:K.In h)(G:h.Ns mainGlobals mg)(jX:mg "law"=some (.ref fa))(k:Ek K):
  ∃ fd:FuncData,(∀ (s:Shared) (v:Value),BindsTo s fd ⟨[v],[]⟩ [("_law_script",v)])/\∀ base:Heap,K.In base->base.Ns mainGlobals mg->FnOk l.prog w K mg base CX0 9 fa fd ["_law_script"] (spL K):=by
 have e:En K mg:=⟨k,_,X,G⟩
 refine okLaw e.m e.f41 jX (fun _ _ _ _ _ _ _ _=>rfl) fun base f fd F=>?_
 have g0:=zef_ (P:=l.prog) (w:=w) (base:=base) e
 have g1:=zdY_ (P:=l.prog) (w:=w) (base:=base) e
 have g2:=zjG_ (P:=l.prog) (w:=w) (base:=base) e
 have g3:=zd1_ (P:=l.prog) (w:=w) (base:=base) e g2
 have g4:=zhX_ (P:=l.prog) (w:=w) (base:=base) e
 have g5:=zcx_ (P:=l.prog) (w:=w) (base:=base) e g2 g4
 have g6:=zis_ (P:=l.prog) (w:=w) (base:=base) e g4
 have g7:=zi1_ (P:=l.prog) (w:=w) (base:=base) e
 have g8:=zfP_ (P:=l.prog) (w:=w) (base:=base) e g6 g2 g7
 have g9:=zd9_ (P:=l.prog) (w:=w) (base:=base) e g4
 have kD:=zfZ_ (P:=l.prog) (w:=w) (base:=base) e g9
 have kC:=zha_ (P:=l.prog) (w:=w) (base:=base) e
 have kB:=zeK_ (P:=l.prog) (w:=w) (base:=base) e
 have fG:=zih_ (P:=l.prog) (w:=w) (base:=base) e
 have kA:=zfX_ (P:=l.prog) (w:=w) (base:=base) e
 have kz:=zfR_ (P:=l.prog) (w:=w) (base:=base) e kA
 have ky:=zfH_ (P:=l.prog) (w:=w) (base:=base) e g2 fG kC kB kz
 have kx:=zbE_ (P:=l.prog) (w:=w) (base:=base) e g9 g2 fG
 have dr:=zig_ (P:=l.prog) (w:=w) (base:=base) e
 have i7:=zgN_ (P:=l.prog) (w:=w) (base:=base) e dr
 have ku:=zf0_ (P:=l.prog) (w:=w) (base:=base) e i7
 have kr:=zio_ (P:=l.prog) (w:=w) (base:=base) e ku
 have ko:=zdM_ (P:=l.prog) (w:=w) (base:=base) e g2 dr kr
 have kn:=zfL_ (P:=l.prog) (w:=w) (base:=base) e g9
 have km:=zhb_ (P:=l.prog) (w:=w) (base:=base) e
 have kl:=zfq_ (P:=l.prog) (w:=w) (base:=base) e g2 kn km
 have kj:=zh3_ (P:=l.prog) (w:=w) (base:=base) e dr
 have ki:=zeI_ (P:=l.prog) (w:=w) (base:=base) e g3 g5 g8 kD g2 kj ky kx ko kl
 have fZ:=zdn_ (P:=l.prog) (w:=w) (base:=base) e g0 g1 ki
 have eF:=zfw_ (P:=l.prog) (w:=w) (base:=base) e
 have kg:=zh5_ (P:=l.prog) (w:=w) (base:=base) e
 have cQ:=zil_ (P:=l.prog) (w:=w) (base:=base) e
 have kf:=zgX_ (P:=l.prog) (w:=w) (base:=base) e
 have ke:=zgC_ (P:=l.prog) (w:=w) (base:=base) e cQ kf
 have kc:=zh8_ (P:=l.prog) (w:=w) (base:=base) e cQ
 have kb:=zg3_ (P:=l.prog) (w:=w) (base:=base) e eF cQ kc
 have ee:=zf1_ (P:=l.prog) (w:=w) (base:=base) e
 have ka:=zgI_ (P:=l.prog) (w:=w) (base:=base) e eF kg ke kb ee
 have j_:=zh7_ (P:=l.prog) (w:=w) (base:=base) e
 have i6:=zgY_ (P:=l.prog) (w:=w) (base:=base) e
 have d_:=ziT_ (P:=l.prog) (w:=w) (base:=base) e j_ i6
 exact zqR_ (l:=l) (w:=w) (base:=base) e ka fZ d_ F
theorem walk {l:W.OpenLaw}{q:Program}{loose:List Str}{XP:(Str->Option Value)->Heap->Prop}{YP:World->Heap->Prop}{d:DefRec}{K:Params->Fgg}(hn:l.most=some 63)(ib:d.params.defaults=[])
  (hY:∀ (w:World) (h:Heap),YP w h->(K w.params).In h)
  (F:∀ (w:World) (mg:Str->Option Value) (fa:Addr) (h:Heap),(K w.params).In h->h.Ns mainGlobals mg->mg d.name=some (.ref fa) ->
   ∃ fd:FuncData,(∀ (s:Shared) (u:Value),BindsTo s fd ⟨[u],[]⟩ [("_law_script",u)])/\∀ base:Heap,(K w.params).In base->base.Ns mainGlobals mg->FnOk l.prog w (K w.params) mg base CX0 9 fa fd ["_law_script"] (spL (K w.params))):
  W.WalkO q loose XP YP l.row.toRowW d [] (fun f vs=>PySem.call f vs):=
 L2.zlG_ (n:=63) (k:=9) (x:="_law_script") (CX:=fun _=>CX0) (sp:=fun w=>spL (K w.params)) hn (by decide) ib ⟨rfl,by decide,by decide⟩ hY F (fun _ _ a ns hl hb _ hS=>⟨a,ns,rfl,hS,hl,hb,fun _=>rfl⟩) fun _ _ _ _ _ z=>z
end K40
open PySem PySem.W PyProof.Rows
set_option maxRecDepth 100000 in
set_option maxHeartbeats 0 in
theorem PySem.Challenge.cw_cardshop_k40_an_asking_holds : PySem.Challenge.rw_cardshop_k40_an_asking.Holds := by
 w_on; o_law; k_head; (case hw=>w_witness2)
 k_fill
 refine K40.walk (l:=PySem.Challenge.rw_cardshop_k40_an_asking) rfl rfl (fun w h Y=>W.kIn_of Y) ?F
 case F =>
  intro w mg fa h KX G gX
  refine K40.all_mk KX G gX ?_
  constructor
  all_goals first | (refine' L2.FmD.mk_ ?x0 ?x1 ?x2 ?x3 ?x4 ?x5 ?x6 ?x7; (case x0=>k_is); (case x1=>k_is); (case x2=>k_is); (case x3=>k_is); (case x4=>k_is); (case x5=>k_is); (case x6=>k_is); (case x7=>(show _=_; kernel_rfl!))) | (refine' L2.FtT.mk_ ?x0 ?x1 ?x2 ?x3; (case x0=>k_is); (case x1=>k_is); (case x2=>(show _=_; kernel_rfl!)); (case x3=>decide)) | (refine' L2.Fg.mk_ ?x0 ?x1 ?x2 ?x3; (case x0=>k_is); (case x1=>k_is); (case x2=>k_is); (case x3=>k_is)) | (refine' L2.Fm.mk_ ?x0 ?x1 ?x2 ?x3 ?x4 ?x5; (case x0=>k_is); (case x1=>k_is); (case x2=>k_is); (case x3=>k_is); (case x4=>k_is); (case x5=>k_is)) | (refine' L2.Fs.mk_ ?x0 ?x1 ?x2 ?x3 ?x4 ?x5 ?x6; (case x0=>k_is); (case x1=>k_is); (case x2=>k_is); (case x3=>k_is); (case x4=>k_is); (case x5=>k_is); (case x6=>k_is)) | (refine' L2.Fc.mk_ ?x0 ?x1 ?x2 ?x3 ?x4 ?x5 ?x6; (case x0=>k_is); (case x1=>k_is); (case x2=>k_is); (case x3=>k_is); (case x4=>k_is); (case x5=>k_is); (case x6=>k_is)) | (refine' L2.Fa.mk_ ?x0 ?x1; (case x0=>k_is); (case x1=>k_is)) | (delta L2.Fb; k_is) | (refine' L2.Fv.mk_ ?x0 ?x1; (case x0=>k_is); (case x1=>exact ⟨_,rfl⟩)) | (refine' L2.Fk.mk_ ?x0; (case x0=>k_is)) | (refine' L2.Fe1.mk_ ?x0 ?x1; (case x0=>k_is); (case x1=>(show _=_; kernel_rfl!))) | (refine' L2.Fe2.mk_ ?x0 ?x1 ?x2; (case x0=>k_is); (case x1=>k_is); (case x2=>(show _=_; kernel_rfl!)))
#print axioms PySem.Challenge.cw_cardshop_k40_an_asking_holds
