import PyProof.Rows.All
import Wide.All
import OpenK.AllK
import Wide.FinOn
import Lean
import PyProof.EqAt
import PyProof.EqKinds
import PyProof.TupleCall
import PyProof.StrLawsRepr
import PyProof.NeKinds
import PyProof.Rows.TupIter
import PyProof.InstStoreFacts
import PyProof.ExcInit
import KE.KEqDict
import KE.KDictOf
import KE.KPairComp
import PySem.Challenge.RW_cardshop_k56_mater
set_option Elab.async false
set_option compiler.extract_closed false
set_option linter.all false
set_option maxRecDepth 100000
set_option maxHeartbeats 4000000
namespace PySem.W.Fast
def tw9197700988778486698:Unit:=()
def tw32895146662851663:Unit:=()
def tw3509343984913585551:Unit:=()
def tw12573767963858654996:Unit:=()
def tw9336581317661830983:Unit:=()
def tw4368725867752899164:Unit:=()
def tw16466653140464817635:Unit:=()
def tw7549064217376373349:Unit:=()
def tw2672911482850901575:Unit:=()
def tw6042220088470173120:Unit:=()
def tw1929101016065039394:Unit:=()
def tw11094664941004066409:Unit:=()
def tw12079415638784410236:Unit:=()
def tw2970181582227312944:Unit:=()
def tw4514074311974050721:Unit:=()
def tw933534821290249881:Unit:=()
def tw12908787859218665771:Unit:=()
def tw1744626867681444768:Unit:=()
def tw8919794888493562885:Unit:=()
def tw13404123749686026171:Unit:=()
def tw144351667708486777:Unit:=()
def tw2329434012846058271:Unit:=()
def tw17043174244522638055:Unit:=()
def tw17655987566427719014:Unit:=()
def tw13197757207027312130:Unit:=()
def tw2829244909642754705:Unit:=()
def tw6107574233386499764:Unit:=()
def tw5054594910817973020:Unit:=()
def tw15017680756913300838:Unit:=()
def tw6931794938917784124:Unit:=()
def tw1584691635875884300:Unit:=()
def tw17510935939247555987:Unit:=()
def tw11260085249772119471:Unit:=()
def tw9783125797162963442:Unit:=()
def tw12613318045142648408:Unit:=()
def tw4020434894539131755:Unit:=()
def tw11359173777742257582:Unit:=()
def tw50636292655588985:Unit:=()
def tw12759340029203148977:Unit:=()
def tw9709965576029599161:Unit:=()
def tw9508517001638619458:Unit:=()
def tw3276236935700261353:Unit:=()
def tw389749977783902442:Unit:=()
def tw11822489187351724396:Unit:=()
def tw3455833999202462429:Unit:=()
def tw1283959259276032677:Unit:=()
def tw11392064126620193521:Unit:=()
def tw3223261520317304914:Unit:=()
def tw13417069830494939030:Unit:=()
def tw2920416503338537403:Unit:=()
def tw7141157208455516399:Unit:=()
def tw1119831640452576143:Unit:=()
def tw3351828866177629950:Unit:=()
end PySem.W.Fast
noncomputable section
namespace L2
open PySem PySem.Spec PyProof.Rows
theorem sN.{u}{α:Type u}(a:α):some a≠none:=Option.some_ne_none a
abbrev Fgg:=W.Frag
abbrev Pnn:=List (Addr×Obj)
abbrev Key:=Sum Int Str
def keyIs:Key->Value->Bool
 | .inl k,v=>Value.isInt k v
 | .inr x,v=>Value.isStrOf x v
def keyH (w:World):Key->Int
 | .inl k=>hashInt k
 | .inr x=>hashStr w x
theorem z6_:∀ {k:Key}{v:Value},keyIs k v=true->(∃ i t,k=Sum.inl i/\v=Value.int i t)\/(∃ x t,k=Sum.inr x/\v=Value.str x t)
 | .inl i,v,h=>by
  obtain ⟨t,e⟩:=Value.isInt_shape (k:=i) (v:=v) h
  exact .inl ⟨i,t,rfl,e⟩
 | .inr x,v,h=>by
  obtain ⟨t,e⟩:=Value.isStrOf_shape (x:=x) (v:=v) h
  exact .inr ⟨x,t,rfl,e⟩
theorem zk8_ (i:Int)(t:Tok):keyIs (.inl i) (.int i t)=true:=by simp [keyIs,Value.isInt]
theorem zlB_ (x:Str)(t:Tok):keyIs (.inr x) (.str x t)=true:=by simp [keyIs,Value.isStrOf]
theorem zqL_ (a b:Int):decide ((Sum.inl a:Key)=Sum.inl b)=(a == b):=by
 by_cases e:a=b
 ·subst e; simp
 ·have h:¬ (Sum.inl a:Key)=Sum.inl b:=fun q=>e (Sum.inl.inj q)
  rw [decide_eq_false h]
  exact (beq_eq_false_iff_ne.mpr e).symm
theorem zqX_ (a b:Str):decide ((Sum.inr a:Key)=Sum.inr b)=decide (a=b):=by
 by_cases e:a=b
 ·subst e; simp
 ·have h:¬ (Sum.inr a:Key)=Sum.inr b:=fun q=>e (Sum.inr.inj q)
  rw [decide_eq_false h,decide_eq_false e]
theorem zqy_ (a:Int)(b:Str):decide ((Sum.inl a:Key)=Sum.inr b)=false:=decide_eq_false (fun q=>nomatch q)
theorem zqY_ (a:Str)(b:Int):decide ((Sum.inr a:Key)=Sum.inl b)=false:=decide_eq_false (fun q=>nomatch q)
def mixKind (prog:Program)(w:World):PySem.KeyKind prog w Key where
 is:=keyIs
 hash:=keyH w
 inj:=fun v a b ha hb=>by
  rcases z6_ ha with ⟨i,t,rfl,rfl⟩ | ⟨x,t,rfl,rfl⟩
  ·rcases z6_ hb with ⟨j,u,rfl,e⟩ | ⟨y,u,rfl,e⟩
   ·injection e with e1 _; rw [e1]
   ·exact nomatch e
  ·rcases z6_ hb with ⟨j,u,rfl,e⟩ | ⟨y,u,rfl,e⟩
   ·exact nomatch e
   ·injection e with e1 _; rw [e1]
 byValue:=fun k v h=>by
  rcases z6_ h with ⟨i,t,rfl,rfl⟩ | ⟨x,t,rfl,rfl⟩<;>rfl
 pyHash:=fun hv h=>by
  rcases z6_ hv with ⟨i,t,rfl,rfl⟩ | ⟨x,t,rfl,rfl⟩
  ·exact wpAny_pyHash_int h
  ·exact wpAny_pyHash_str h
 eqBool:=fun hu hv h=>by
  rcases z6_ hu with ⟨i,t,rfl,rfl⟩ | ⟨x,t,rfl,rfl⟩
  ·rcases z6_ hv with ⟨j,u,rfl,rfl⟩ | ⟨y,u,rfl,rfl⟩
   ·rw [zqL_] at h; exact wpAny_eqBool_int h
   ·rw [zqy_] at h; exact SeqAt.EqAt.int_str i t y u _ _ _ _ h
  ·rcases z6_ hv with ⟨j,u,rfl,rfl⟩ | ⟨y,u,rfl,rfl⟩
   ·rw [zqY_] at h; exact SeqAt.EqAt.str_int x t j u _ _ _ _ h
   ·rw [zqX_] at h; exact wpAny_eqBool_str h
 «strs»:=fun k x t v h=>by
  rcases z6_ h with ⟨i,u,rfl,e⟩ | ⟨y,u,rfl,e⟩
  ·exact nomatch e
  ·injection e with e1 _
   subst e1
   cases v<;>rfl
theorem zil_ (prog:Program)(w:World)(i:Int)(t:Tok):(mixKind prog w).is (.inl i) (.int i t)=true:=zk8_ i t
theorem ziB_ (prog:Program)(w:World)(x:Str)(t:Tok):(mixKind prog w).is (.inr x) (.str x t)=true:=zlB_ x t
inductive V where
 | non | bl (b:Bool) | int (i:Int) | str (x:Str) | byt (b:Array UInt8) | flt (b:UInt64) | ref (a:Addr) | ty (n:String)
 deriving DecidableEq
def RelV:V->Value->Prop
 | .non,u=>u=Value.none
 | .bl b,u=>u=Value.bool b
 | .int i,u=>∃ t,u=Value.int i t
 | .str x,u=>∃ t,u=Value.str x t
 | .byt b,u=>∃ t,u=Value.bytes b t
 | .flt b,u=>∃ t,u=Value.float b t
 | .ref a,u=>u=Value.ref a
 | .ty n,u=>u=Value.type n
abbrev Vals:List V->List Value->Prop:=Paired RelV
theorem Vals.length {xs:List V}{us:List Value}(r:Vals xs us):xs.length=us.length:=Paired.length r
theorem Vals.get:∀ {xs:List V}{us:List Value}{i:Nat}{x:V},Vals xs us->xs[i]?=some x->∃ u,us[i]?=some u/\RelV x u
 | _,_,_,_,.nil,e=>by simp at e
 | _,_,0,_,.cons r _,e=>by simp at e; subst e; exact ⟨_,rfl,r⟩
 | _,_,i+1,x,.cons _ t,e=>by
  obtain ⟨u,h1,h2⟩:=Vals.get (i:=i) (x:=x) t (by simpa using e)
  exact ⟨u,by simpa using h1,h2⟩
theorem Vals.set {x:V}{u:Value}(r:RelV x u):∀ {xs:List V}{us:List Value}(i:Nat),Vals xs us->Vals (xs.set i x) (us.set i u)
 | _,_,_,.nil=>.nil
 | _,_,0,.cons _ t=>.cons r t
 | _,_,i+1,.cons q t=>.cons q (Vals.set r i t)
theorem Vals.append:∀ {xs ys:List V}{us ws:List Value},Vals xs us->Vals ys ws->Vals (xs++ys) (us++ws)
 | _,_,_,_,.nil,s=>s
 | _,_,_,_,.cons r t,s=>.cons r (Vals.append t s)
theorem Vals.take:∀ {xs:List V}{us:List Value}(n:Nat),Vals xs us->Vals (xs.take n) (us.take n)
 | _,_,0,_=>.nil
 | _,_,_+1,.nil=>.nil
 | _,_,n+1,.cons r t=>.cons r (Vals.take n t)
theorem Vals.drop:∀ {xs:List V}{us:List Value}(n:Nat),Vals xs us->Vals (xs.drop n) (us.drop n)
 | _,_,0,r=>r
 | _,_,_+1,.nil=>.nil
 | _,_,n+1,.cons _ t=>Vals.drop n t
def RelO:Option V->Option Value->Prop
 | some v,some u=>RelV v u
 | none,none=>True
 | _,_=>False
def KV {κ:Type}:List (κ×V)->List (κ×Value)->Prop:=Paired fun (p:κ×V) (q:κ×Value)=>p.1=q.1/\RelV p.2 q.2
def kV:Key->V
 | .inl i=>.int i
 | .inr x=>.str x
inductive HO where
 | lst (xs:List V)
 | tup (xs:List V)
 | dK (aa:List (Key×V)) | dT (aa:List (List Key×V))
 | set (S:Int->Bool) (n:Nat)
 | ins (C dx:Addr) (fs:List (Str×V))
 | own (x:Addr)
 | xd (fs:List (Str×V))
 | met (f x:Addr)
 | rng (lo hi:Int)
 | frz (o:Obj) (u:HO)
 | tbl (ps:Array Value)
 | ext (φ:Heap->Prop)
abbrev Hp:=Addr->Option HO
def upd (H:Hp)(a:Addr)(o:HO):Hp:=fun b=>if b=a then some o else H b
theorem zx_ {H:Hp}{a:Addr}{o:HO}:upd H a o a=some o:=by unfold upd; rw [if_pos rfl]
theorem zI_ {H:Hp}{a b:Addr}{o:HO}(h:b≠a):upd H a o b=H b:=by unfold upd; rw [if_neg h]
theorem ne_of {H:Hp}{a b:Addr}{o u:HO}(h:H a=some o)(h':H b=some u)(d:o≠u):a≠b:=by
 intro e; subst e; rw [h] at h'; exact d (Option.some.inj h')
theorem zbp_ {H:Hp}{a b:Addr}{o:HO}(h:H a=some o)(h':H b=none):a≠b:=by
 intro e; subst e; rw [h] at h'; cases h'
section
variable (P:Program)(w:World)
def ObjOk (H:Hp)(h:Heap)(a:Addr):HO->Prop
 | .lst xs=>xs.length<=sizeLine/\∃ (ai:List Value) (n:Nat),Vals xs ai/\h.get? a=some { cls:=.type "list",data:=.seq ai.toArray n }
 | .tup xs=>xs.length<=sizeLine/\∃ ai:List Value,Vals xs ai/\IsTup h a ai.toArray
 | .dK aa=>aa.length<=sizeLine/\(a == sysModules)=false/\∃ vs,KV aa vs/\h.DictOf (mixKind P w) a vs
 | .dT aa=>aa.length<=sizeLine/\(a == sysModules)=false/\∃ xs:List (List Key×Addr×Value),
   Paired (fun (p:List Key×V) (q:List Key×Addr×Value)=>p.1=q.1/\H q.2.1=some (.tup (p.1.map kV))/\RelV p.2 q.2.2) aa xs /\
   ∃ o es ep,h.get? a=some o/\o.ExactDict/\o.data=.dict es ep/\es.toList=xs.map (entryOfKey (tupleKind (mixKind P w)))/\(xs.map (·.1)).Nodup
 | .set S n=>h.SetOf (intKind P w) a S n
 | .ins C dx fs=>H dx=some (.own a)/\fs.length<=1000/\dx≠a/\h.get? a=some (W.instObj C dx) /\
   ∃ mA,h.Ns1 dx mA/\(∀ f,RelO (fs.lookup f) (mA f))/\PySem.Within mA (fs.map (·.1))
 | .own _=>∃ o,h.get? a=some o
 | .xd fs=>∃ mA,h.Ns1 a mA/\∀ f,RelO (fs.lookup f) (mA f)
 | .rng lo hi=>∃ t u v,h.get? a=some { cls:=.type "range",data:=.fields #[.int lo t,.int hi u,.int 1 v] }
 | .frz o u=>h.get? a=some o/\ObjOk H h a u
 | .tbl ps=>h.get? a=some { cls:=.none,data:=.fields ps }
 | .met f x=>h.get? a=some (W.methodObj (.ref f) (.ref x))
 | .ext φ=>φ h/\(∃ o,h.get? a=some o)/\∀ h1 h2:Heap,φ h1->(∀ o,h1.get? a=some o->h2.get? a=some o)->φ h2
def HOk (H:Hp)(h:Heap):Prop:=∀ a o,H a=some o->ObjOk P w H h a o
end
section
variable {P:Program}{w:World}{H H':Hp}{h h':Heap}{a:Addr}{o:HO}
theorem ObjOk.lt (x:ObjOk P w H h a o):a<h.objs.size:=by
 cases o with
 | lst xs=>obtain ⟨_,_,_,_,e⟩:=x; exact Heap.lt_size e
 | tup xs=>obtain ⟨_,_,_,p⟩:=x; exact p.lt
 | dK aa=>obtain ⟨_,_,_,_,o,_,_,e,_⟩:=x; exact Heap.lt_size e
 | dT aa=>obtain ⟨_,_,_,_,o,_,_,e,_⟩:=x; exact Heap.lt_size e
 | set S n=>obtain ⟨o,_,_,_,e,_⟩:=x; exact Heap.lt_size e
 | ins C dx fs=>obtain ⟨_,_,_,e,_⟩:=x; exact Heap.lt_size e
 | own y=>obtain ⟨_,e⟩:=x; exact Heap.lt_size e
 | xd fs=>obtain ⟨_,⟨_,_,_,e,_⟩,_⟩:=x; exact Heap.lt_size e
 | rng lo hi=>obtain ⟨_,_,_,e⟩:=x; exact Heap.lt_size e
 | frz ob u=>obtain ⟨e,_⟩:=x; exact Heap.lt_size e
 | tbl ps=>exact Heap.lt_size (show h.get? a=some _ from x)
 | met f y=>exact Heap.lt_size (show h.get? a=some _ from x)
 | ext φ=>obtain ⟨_,⟨_,e⟩,_⟩:=x; exact Heap.lt_size e
theorem Paired.mapP {α β:Type}{F G:α->β->Prop}:∀ {iQ:List α}{iP:List β},Paired F iQ iP->(∀ a b,F a b->G a b)->Paired G iQ iP
 | _,_,.nil,_=>.nil
 | _,_,.cons r t,f=>.cons (f _ _ r) (Paired.mapP t f)
theorem ObjOk.stay (x:ObjOk P w H h a o)(k:∀ b u,(b=a\/H b=some (.own a))->h.get? b=some u->h'.get? b=some u)
  (ho:∀ b,H b=some (.own a)->H' b=some (.own a)) (ht:∀ b xs,H b=some (.tup xs)->H' b=some (.tup xs)):ObjOk P w H' h' a o:=by
 induction o with
 | lst xs=>obtain ⟨z,ai,n,r,e⟩:=x; exact ⟨z,ai,n,r,k _ _ (.inl rfl) e⟩
 | tup xs=>obtain ⟨z,ai,r,ob,e,c⟩:=x; exact ⟨z,ai,r,ob,k _ _ (.inl rfl) e,c⟩
 | dK aa=>obtain ⟨z,y,vs,r,ob,es,ep,e,c⟩:=x; exact ⟨z,y,vs,r,ob,es,ep,k _ _ (.inl rfl) e,c⟩
 | dT aa =>
  obtain ⟨z,y,xs,r,ob,es,ep,e,c⟩:=x
  exact ⟨z,y,xs,Paired.mapP r fun p q z=>⟨z.1,ht _ _ z.2.1,z.2.2⟩,ob,es,ep,k _ _ (.inl rfl) e,c⟩
 | set S n=>obtain ⟨ob,es,ep,t,e,c⟩:=x; exact ⟨ob,es,ep,t,k _ _ (.inl rfl) e,c⟩
 | ins C dx fs =>
  obtain ⟨d,z,ne,e,mA,⟨od,es,ep,e2,c⟩,r⟩:=x
  exact ⟨ho _ d,z,ne,k _ _ (.inl rfl) e,mA,⟨od,es,ep,k _ _ (.inr d) e2,c⟩,r⟩
 | own y=>obtain ⟨ob,e⟩:=x; exact ⟨ob,k _ _ (.inl rfl) e⟩
 | xd fs=>obtain ⟨mA,⟨od,es,ep,e,c⟩,r⟩:=x; exact ⟨mA,⟨od,es,ep,k _ _ (.inl rfl) e,c⟩,r⟩
 | rng lo hi=>obtain ⟨t,u,v,e⟩:=x; exact ⟨t,u,v,k _ _ (.inl rfl) e⟩
 | frz ob u ih=>obtain ⟨e,q⟩:=x; exact ⟨k _ _ (.inl rfl) e,ih q⟩
 | tbl ps =>
  have e:h.get? a=some { cls:=.none,data:=.fields ps }:=x
  show h'.get? a=some { cls:=.none,data:=.fields ps }
  exact k a _ (.inl rfl) e
 | met f y =>
  have e:h.get? a=some (W.methodObj (.ref f) (.ref y)):=x
  show h'.get? a=some (W.methodObj (.ref f) (.ref y))
  exact k a _ (.inl rfl) e
 | ext φ=>obtain ⟨p,⟨o,e⟩,st⟩:=x; exact ⟨st _ _ p fun o q=>k _ _ (.inl rfl) q,⟨o,k _ _ (.inl rfl) e⟩,st⟩
theorem HOk.lt (x:HOk P w H h)(e:H a=some o):a<h.objs.size:=(x a o e).lt
theorem HOk.fresh (x:HOk P w H h)(e:h.objs.size<=a):H a=none:=by
 cases q:H a with
 | none=>rfl
 | some u=>exact absurd (Nat.lt_of_lt_of_le (x.lt q) e) (Nat.lt_irrefl _)
theorem HOk.kept (x:HOk P w H h)(k:∀ b u,h.get? b=some u->h'.get? b=some u):HOk P w H h':=fun a o e =>
 (x a o e).stay (fun b u _ q=>k b u q) (fun _ q=>q) fun _ _ q=>q
theorem HOk.laid (x:HOk P w H h)(k:∀ b u,h.get? b=some u->h'.get? b=some u)(hp:h.objs.size<=a)(new:ObjOk P w (upd H a o) h' a o):HOk P w (upd H a o) h':=fun b u e=>by
 have hn:=x.fresh hp
 by_cases hb:b=a
 ·subst hb; rw [zx_] at e; cases e; exact new
 ·rw [zI_ hb] at e
  exact (x b u e).stay (fun c v _ q=>k c v q) (fun c q=>by rw [zI_ (zbp_ q hn)]; exact q) fun c xs q=>by rw [zI_ (zbp_ q hn)]; exact q
end
def Rd (H:Hp)(a:Addr)(u:HO):Prop:=H a=some u\/∃ o,H a=some (.frz o u)
theorem Rd.ok {P:Program}{w:World}{H:Hp}{h:Heap}{a:Addr}{u:HO}(r:Rd H a u)(x:HOk P w H h):ObjOk P w H h a u:=by
 rcases r with r | ⟨o,r⟩
 ·exact x a u r
 ·obtain ⟨_,q⟩:=x a _ r
  exact q
def Mut:Option HO->Prop
 | some (.lst _)=>True
 | some (.dK _)=>True
 | some (.dT _)=>True
 | some (.set _ _)=>True
 | some (.ins _ _ _)=>True
 | some (.ext _)=>True
 | _=>False
section
variable {P:Program}{w:World}{H:Hp}{h h':Heap}{x e:Addr}{o':HO}
theorem HOk.write (ok:HOk P w H h)(mu:Mut (H x))(he:e=x\/H e=some (.own x))(k:∀ b u,b≠e->h.get? b=some u->h'.get? b=some u)(dY:∃ u,h'.get? e=some u)
  (new:ObjOk P w (upd H x o') h' x o'):HOk P w (upd H x o') h':=fun b u q=>by
 have iI:∀ c y,H c=some (.own y)->c≠x:=fun c y r z=>by subst z; rw [r] at mu; exact mu
 have kQ:∀ c xs,H c=some (.tup xs)->c≠x:=fun c xs r z=>by subst z; rw [r] at mu; exact mu
 by_cases hb:b=x
 ·subst hb; rw [zx_] at q; cases q; exact new
 ·rw [zI_ hb] at q
  by_cases hbe:b=e
  ·have q':H b=some (.own x):=by
    rcases he with z | z
    ·exact absurd (hbe.trans z) hb
    ·rw [hbe]; exact z
   rw [q] at q'; cases q'
   obtain ⟨v,hv⟩:=dY
   exact ⟨v,by rw [hbe]; exact hv⟩
  ·refine (ok b u q).stay (fun c v hc r=>k c v ?_ r) (fun c r=>by rw [zI_ (iI c b r)]; exact r) fun c xs r=>by rw [zI_ (kQ c xs r)]; exact r
   rcases hc with rfl | hc
   ·exact hbe
   ·rintro rfl
    rcases he with z | z
    ·exact iI c b hc z
    ·rw [hc] at z; cases z; exact hb rfl
end
structure Un (fs ex:List Addr)(H H':Hp)(h h':Heap):Prop where
 keep:∀ b o,h.get? b=some o->H b=none->b∉fs->b∉ex->h'.get? b=some o
 slot:∀ b o,h.get? b=some o->H b=none->b∈fs->b∉ex->∃ sl,h'.get? b=some { o with slots:=sl }
 free:∀ b o,h.get? b=some o->H b=none->b∉ex->H' b=none
 there:∀ b o,h.get? b=some o->b∉ex->∃ o',h'.get? b=some o'
 tups:∀ b xs,H b=some (.tup xs)->H' b=some (.tup xs)
 frzs:∀ b o u,H b=some (.frz o u)->H' b=some (.frz o u)
 tbls:∀ b ps,H b=some (.tbl ps)->∃ more,H' b=some (.tbl (ps++more))
section
variable {fs ex:List Addr}{H H1:Hp}{h h1 h':Heap}{a x e:Addr}{o:HO}
theorem Un.any (u:Un fs ex H H1 h h1){b:Addr}{ob:Obj}(q:h.get? b=some ob)(n:H b=none)(hx:b∉ex):∃ sl,h1.get? b=some { ob with slots:=sl }:=by
 by_cases hb:b∈fs
 ·exact u.slot b ob q n hb hx
 ·exact ⟨ob.slots,u.keep b ob q n hb hx⟩
theorem Un.kept (k:∀ b u,h.get? b=some u->h'.get? b=some u):Un fs ex H H h h':=
 ⟨fun b ob q _ _ _=>k b ob q,fun b ob q _ _ _=>⟨ob.slots,k b ob q⟩,fun _ _ _ n _=>n,fun b ob q _=>⟨ob,k b ob q⟩,fun _ _ q=>q,fun _ _ _ q=>q,fun _ ps q=>⟨#[],by rw [q]; simp⟩⟩
theorem Un.refl:Un fs ex H H h h:=Un.kept fun _ _ q=>q
theorem Un.laid (k:∀ b u,h.get? b=some u->h'.get? b=some u)(hp:h.objs.size<=a)(hn:H a=none):Un fs ex H (upd H a o) h h' where
 keep:=fun b u q _ _ _=>k b u q
 slot:=fun b u q _ _ _=>⟨u.slots,k b u q⟩
 free:=fun b u q n _=>by rw [zI_ (Nat.ne_of_lt (Nat.lt_of_lt_of_le (Heap.lt_size q) hp))]; exact n
 there:=fun b u q _=>⟨u,k b u q⟩
 tups:=fun b xs q=>by rw [zI_ (zbp_ q hn)]; exact q
 frzs:=fun b u xs q=>by rw [zI_ (zbp_ q hn)]; exact q
 tbls:=fun b ps q=>⟨#[],by rw [zI_ (zbp_ q hn),q]; simp⟩
theorem Un.write (mu:Mut (H x))(he:e=x\/H e=some (.own x))(k:∀ b u,b≠e->h.get? b=some u->h'.get? b=some u)(dY:∃ u,h'.get? e=some u):Un fs ex H (upd H x o) h h':=by
 have hx:∀ b,H b=none->b≠x:=fun b n z=>by subst z; rw [n] at mu; exact mu
 have hb:∀ b,H b=none->b≠e:=fun b n z=>by
  subst z
  rcases he with r | r
  ·exact hx b n r
  ·rw [n] at r; cases r
 have hm:∀ b u,H b=some u->¬ Mut (some u)->b≠x:=fun b u q nm z=>by subst z; rw [q] at mu; exact nm mu
 refine ⟨fun b u q n _ _=>k b u (hb b n) q,fun b u q n _ _=>⟨u.slots,k b u (hb b n) q⟩,fun b u q n _=>by rw [zI_ (hx b n)]; exact n,fun b u q _=>?_,
  fun b xs q=>by rw [zI_ (hm b _ q fun z=>z)]; exact q,fun b u xs q=>by rw [zI_ (hm b _ q fun z=>z)]; exact q,fun b ps q=>⟨#[],by rw [zI_ (hm b _ q fun z=>z),q]; simp⟩⟩
 by_cases hbe:b=e
 ·subst hbe; exact dY
 ·exact ⟨u,k b u hbe q⟩
end
def trk (h:Heap)(H:Hp):List Addr:=(List.range h.objs.size).filter fun a=>(H a).isSome
def hidT (h:Heap)(H:Hp):Heap:=W.hideAll h (trk h H)
theorem zkQ_ (h:Heap)(H:Hp):(hidT h H).objs.size=h.objs.size:=W.hideAll_size _ _
theorem zmX_ {h:Heap}{H:Hp}{b:Addr}{o:Obj}(e:h.get? b=some o)(n:H b=none):(hidT h H).get? b=some o:=
 W.hideAll_get _ e fun hm=>by
  have q:(H b).isSome=true:=(List.mem_filter.mp hm).2
  rw [n] at q; simp at q
theorem zoB_ {h:Heap}{H:Hp}{b:Addr}{o:Obj}(e:(hidT h H).get? b=some o):h.get? b=some o/\H b=none:=by
 have e':h.get? b=some o:=W.of_hideAll (trk h H) e
 refine ⟨e',?_⟩
 cases q:H b with
 | none=>rfl
 | some x =>
  have hm:b∈trk h H:=List.mem_filter.mpr ⟨List.mem_range.mpr (Heap.lt_size e'),by simp [q]⟩
  have z:(hidT h H).get? b=none:=W.hideAll_none (trk h H) hm
  rw [z] at e; cases e
def allNews (g h:Heap)(L:Addr):Pnn:=(List.range h.objs.size).filterMap fun a=>if a=L\/(g.get? a).isSome=true then none else (h.get? a).map fun o=>(a,o)
def rest (g h:Heap)(L d:Addr):Pnn:=(allNews g h L).filter fun p=>decide (p.1≠d)
structure Mod (K:Fgg)(mg:Str->Option Value)(base:Heap):Prop where
 kin:K.In base
 glob:base.Ns mainGlobals mg
 blt:∃ mb,base.Ns builtinsNs mb/\∀ x:Str,x ≠ "__name__" -> mb x=bootBuiltins x
 nolimit:base.NoLimit
structure Cx where
 prog:Program
 w:World
 K:Fgg
 mg:Str->Option Value
 base:Heap
 A:Around
 N:List Str
 s₀:Shared
 H₀:Hp
 env:Env
 outer:List Env
 stack:List Env
 ex:List Addr
 fn:Str->Bool
 calm:Bool
 pn:Pnn
 xe:Value->Shared->Prop
def frs (l:List Env):List Addr:=l.filterMap (·.frame)
abbrev Cx.fs (X:Cx):List Addr:=frs X.outer
def Vis (sc:Scope)(x:Str):Prop:=sc.names.lookup x=some .local\/sc.names.lookup x=some .cell\/sc.names.lookup x=some .free
def Loc (sc:Scope)(x:Str):Prop:=sc.names.lookup x=some .local\/sc.names.lookup x=some .cell
def Look (env:Env)(h:Heap)(m:Str->Option Value)(x:Str)(u:Value):Prop:=
 (env.kindOf x=some .local/\m x=some u)\/((env.kindOf x=some .cell\/env.kindOf x=some .free)/\∃ c,env.cells.lookup x=some c/\h.IsCell c (some u))
structure Cx.Ok (X:Cx):Prop where
 mod:Mod X.K X.mg X.base
 kind:X.env.scope.kind=.function
 glob:X.env.globals=mainGlobals
 blt:X.env.builtins=builtinsNs
 above:X.s₀.heap.objs.size<=X.env.locals
 inj:∀ x y c,X.env.cells.lookup x=some c->X.env.cells.lookup y=some c->x=y
 has:∀ x,(X.env.kindOf x=some .cell\/X.env.kindOf x=some .free)->∃ c,X.env.cells.lookup x=some c
 cab:∀ x c,X.fn x=true->X.env.cells.lookup x=some c->X.s₀.heap.objs.size<=c
 hd:X.calm=true->X.A.handled=none
 frames:X.A.frames=some X.stack
 stk:X.stack=X.outer\/(X.stack=X.env::X.outer/\X.env.frame=some X.env.locals)
 exf:∀ b∈X.ex,b≠X.env.locals/\∀ x c,X.env.cells.lookup x=some c->c≠b
 bs:∀ b o,X.base.get? b=some o->X.s₀.heap.get? b=some o/\X.H₀ b=none
 bsz:X.base.objs.size<=X.s₀.heap.objs.size
 noex:∀ b o,X.base.get? b=some o->b∉X.ex
 exfs:∀ b∈X.ex,b∉X.fs
 funs:X.s₀.heap.FunFrames X.base X.outer
 frf:∀ b∈X.fs,X.H₀ b=none
structure Inv (X:Cx)(pins:Pnn)(σ:List (Option V))(H:Hp)(s:Shared):Prop where
 ok:X.Ok
 os:s.os=X.s₀.os
 bare:AllBare s.gens
 base:Un X.fs X.ex X.H₀ H X.s₀.heap s.heap
 loc:∃ m,s.heap.Ns X.env.locals m/\∀ (i:Nat) (x:Str) (v:V),X.N[i]?=some x->σ[i]?=some (some v)->Vis X.env.scope x->∃ u,RelV v u/\Look X.env s.heap m x u
 cell:∀ x c,X.env.cells.lookup x=some c->∃ v,s.heap.IsCell c v
 free:H X.env.locals=none
 freeC:∀ x c,X.env.cells.lookup x=some c->H c=none
 pin:∀ p∈X.pn++pins,s.heap.get? p.1=some p.2/\H p.1=none/\p.1≠X.env.locals/\p.1∉X.fs/\∀ v,p.2.data≠.cell v
 hok:HOk X.prog X.w H s.heap
 len:σ.length=X.N.length
section
variable {X:Cx}{pins:Pnn}{σ:List (Option V)}{H H':Hp}{s:Shared}{h':Heap}
theorem Cx.Ok.nofr (ok:X.Ok){b:Addr}{o:Obj}(e:X.base.get? b=some o):b∉X.fs:=fun hb=>by
 have:=(ok.funs.mem hb).1
 rw [e] at this; cases this
theorem Inv.bs (I:Inv X pins σ H s):∀ b o,X.base.get? b=some o->s.heap.get? b=some o/\H b=none:=fun b o e =>
 ⟨I.base.keep b o (I.ok.bs b o e).1 (I.ok.bs b o e).2 (I.ok.nofr e) (I.ok.noex b o e),I.base.free b o (I.ok.bs b o e).1 (I.ok.bs b o e).2 (I.ok.noex b o e)⟩
theorem Inv.bk (I:Inv X pins σ H s):∀ b o,X.base.get? b=some o->s.heap.get? b=some o:=fun b o e=>(I.bs b o e).1
theorem Inv.mod (I:Inv X pins σ H s):Mod X.K X.mg X.base:=I.ok.mod
theorem Inv.kIn (I:Inv X pins σ H s):X.K.In s.heap:=I.ok.mod.kin.keeps I.bk
theorem Inv.lt (I:Inv X pins σ H s):X.env.locals<s.heap.objs.size:=let ⟨_,hn,_⟩:=I.loc; hn.lt
theorem Inv.sz (I:Inv X pins σ H s):X.s₀.heap.objs.size<=s.heap.objs.size:=Nat.le_trans I.ok.above (Nat.le_of_lt I.lt)
theorem Inv.nofs (I:Inv X pins σ H s){a:Addr}(h:s.heap.objs.size<=a):a∉X.fs:=fun hb=>by
 obtain ⟨_,o,ho,_⟩:=I.ok.funs.mem hb
 exact absurd (Nat.lt_of_lt_of_le (Heap.lt_size ho) (Nat.le_trans I.sz h)) (Nat.lt_irrefl _)
theorem Inv.cne (I:Inv X pins σ H s):∀ x c,X.env.cells.lookup x=some c->c≠X.env.locals:=fun x c e z=>by
 obtain ⟨v,o,ho,hd⟩:=I.cell x c e
 obtain ⟨m,⟨o',es,ep,ho',hd',_⟩,_⟩:=I.loc
 rw [z,ho'] at ho; cases ho; rw [hd'] at hd; cases hd
theorem Inv.funs (I:Inv X pins σ H s):s.heap.FunFrames X.base X.outer:=by
 have all:∀ (l:List Env),(∀ b∈frs l,b∈X.fs)->X.s₀.heap.FunFrames X.base l->s.heap.FunFrames X.base l:=by
  intro l
  induction l with
  | nil=>intro _ _; trivial
  | cons env r ih =>
   intro hs hl
   obtain ⟨hk,⟨L,o,hf,hn,ho,hd⟩,hr⟩:=hl
   have hL:L∈X.fs:=hs L (by unfold frs; rw [List.filterMap_cons,hf]; exact List.mem_cons_self)
   obtain ⟨sl,e⟩:=I.base.slot L o ho (I.ok.frf L hL) hL fun z=>I.ok.exfs L z hL
   exact ⟨hk,⟨L,_,hf,hn,e,hd⟩,ih (fun b hb=>hs b (by unfold frs; rw [List.filterMap_cons,hf]; exact List.mem_cons_of_mem _ hb)) hr⟩
 exact all X.outer (fun _ hb=>hb) I.ok.funs
theorem Inv.stack (I:Inv X pins σ H s):s.heap.FunFrames X.base X.stack:=by
 rcases I.ok.stk with e | ⟨e,hf⟩
 ·rw [e]; exact I.funs
 ·rw [e]
  obtain ⟨m,hn,_⟩:=I.loc
  refine .cons (by rw [I.ok.kind]; decide) hf hn ?_ I.funs
  exact Heap.get?_none_of_le (Nat.le_trans I.ok.bsz I.ok.above)
theorem Inv.stkSub (I:Inv X pins σ H s):∀ b∈frs X.stack,b∈X.env.locals::X.fs:=fun b hb=>by
 rcases I.ok.stk with e | ⟨e,hf⟩
 ·rw [e] at hb; exact List.mem_cons_of_mem _ hb
 ·rw [e] at hb
  unfold frs at hb
  rw [List.filterMap_cons,hf] at hb
  exact hb
theorem Inv.stkFree (I:Inv X pins σ H s):∀ b∈frs X.stack,H b=none:=fun b hb=>by
 rcases List.mem_cons.mp (I.stkSub b hb) with e | hb
 ·rw [e]; exact I.free
 ·obtain ⟨_,o,ho,_⟩:=I.ok.funs.mem hb
  exact I.base.free b o ho (I.ok.frf b hb) fun z=>I.ok.exfs b z hb
theorem Inv.step {g':Array GenState}{t':Nat}{d':Drawn}{ch:List Addr}(I:Inv X pins σ H s)
  (e5:∀ b∈ch,(b∈X.ex\/X.s₀.heap.objs.size<=b)/\b≠X.env.locals/\(∀ x c,X.env.cells.lookup x=some c->c≠b)/\∀ p∈X.pn++pins,p.1≠b)
  (keep:∀ b o,b≠X.env.locals->b∉X.fs->b∉ch->s.heap.get? b=some o->H b=none->h'.get? b=some o)
  (slot:∀ b o,b≠X.env.locals->b∈X.fs->b∉ch->s.heap.get? b=some o->H b=none->∃ sl,h'.get? b=some { o with slots:=sl }) (free:∀ b o,b∉ch->s.heap.get? b=some o->H b=none->H' b=none)
  (there:∀ b o,b∉ch->s.heap.get? b=some o->∃ o',h'.get? b=some o')
  (tups:∀ b xs,H b=some (.tup xs)->H' b=some (.tup xs)) (frzs:∀ b o u,H b=some (.frz o u)->H' b=some (.frz o u)) (tbls:∀ b ps,H b=some (.tbl ps)->∃ more,H' b=some (.tbl (ps++more)))
  (ns:∀ m,s.heap.Ns X.env.locals m->h'.Ns X.env.locals m) (hok:HOk X.prog X.w H' h') (hg:AllBare g'):
  Inv X pins σ H' { s with heap:=h',gens:=g',drawn:=d',toks:=t' }:=by
 have nD:∀ b o,X.s₀.heap.get? b=some o->b≠X.env.locals:=fun b o e=>Nat.ne_of_lt (Nat.lt_of_lt_of_le (Heap.lt_size e) I.ok.above)
 have jV:∀ b o,X.s₀.heap.get? b=some o->b∉X.ex->b∉ch:=fun b o e hx hb=>by
  rcases (e5 b hb).1 with z | z
  ·exact hx z
  ·exact absurd (Nat.lt_of_lt_of_le (Heap.lt_size e) z) (Nat.lt_irrefl _)
 have cellK:∀ x c,X.env.cells.lookup x=some c->∀ v,s.heap.IsCell c v->h'.IsCell c v:=fun x c e v ⟨o,ho,hd⟩=>by
  have iN:c∉ch:=fun z=>(e5 c z).2.2.1 x c e rfl
  by_cases hc:c∈X.fs
  ·obtain ⟨sl,q⟩:=slot c o (I.cne x c e) hc iN ho (I.freeC x c e)
   exact ⟨_,q,hd⟩
  ·exact ⟨o,keep c o (I.cne x c e) hc iN ho (I.freeC x c e),hd⟩
 refine ⟨I.ok,I.os,hg,⟨fun b o e n hb hx=>?_,fun b o e n hb hx=>?_,fun b o e n hx=>?_,fun b o e hx=>?_,fun b xs e=>tups b xs (I.base.tups b xs e),fun b o xs e=>frzs b o xs (I.base.frzs b o xs e),fun b ps e=>?_⟩,?_,fun x c e=>?_,?_,fun x c e=>?_,fun p hp=>?_,hok,I.len⟩
 ·exact keep b o (nD b o e) hb (jV b o e hx) (I.base.keep b o e n hb hx) (I.base.free b o e n hx)
 ·obtain ⟨sl,e1⟩:=I.base.slot b o e n hb hx
  obtain ⟨fv,e2⟩:=slot b _ (nD b o e) hb (jV b o e hx) e1 (I.base.free b o e n hx)
  exact ⟨fv,e2⟩
 ·obtain ⟨o',e1⟩:=I.base.there b o e hx
  exact free b o' (jV b o e hx) e1 (I.base.free b o e n hx)
 ·obtain ⟨o',e1⟩:=I.base.there b o e hx
  exact there b o' (jV b o e hx) e1
 ·obtain ⟨m1,e1⟩:=I.base.tbls b ps e
  obtain ⟨m2,e2⟩:=tbls b _ e1
  exact ⟨m1++m2,by rw [e2,Array.append_assoc]⟩
 ·obtain ⟨m,hn,hl⟩:=I.loc
  refine ⟨m,ns m hn,fun i x v e1 e2 e3=>?_⟩
  obtain ⟨u,r,l⟩:=hl i x v e1 e2 e3
  refine ⟨u,r,?_⟩
  rcases l with l | ⟨k,c,e,z⟩
  ·exact .inl l
  ·exact .inr ⟨k,c,e,cellK x c e _ z⟩
 ·obtain ⟨v,z⟩:=I.cell x c e
  exact ⟨v,cellK x c e v z⟩
 ·obtain ⟨m,⟨o,_,_,ho,_⟩,_⟩:=I.loc
  exact free _ o (fun z=>(e5 _ z).2.1 rfl) ho I.free
 ·obtain ⟨v,o,ho,hd⟩:=I.cell x c e
  exact free c o (fun z=>(e5 c z).2.2.1 x c e rfl) ho (I.freeC x c e)
 ·obtain ⟨e,n,ne,nf,d⟩:=I.pin p hp
  have iN:p.1∉ch:=fun z=>(e5 p.1 z).2.2.2 p hp rfl
  exact ⟨keep p.1 p.2 ne nf iN e n,free p.1 p.2 iN e n,ne,nf,d⟩
theorem Inv.un {t':Nat}(I:Inv X pins σ H s)(u:Un X.fs [] H H' s.heap h')(hok:HOk X.prog X.w H' h'):Inv X pins σ H' { s with heap:=h',toks:=t' }:=by
 obtain ⟨m,⟨o,es,ep,ho,r⟩,_⟩:=id I.loc
 obtain ⟨sl,hL⟩:=u.any ho I.free (by simp)
 exact I.step (g':=s.gens) (d':=s.drawn) (ch:=[]) (fun _ z=>nomatch z) (fun b o _ hb _ e n=>u.keep b o e n hb (by simp)) (fun b o _ hb _ e n=>u.slot b o e n hb (by simp)) (fun b o _ e n=>u.free b o e n (by simp)) (fun b o _ e=>u.there b o e (by simp)) u.tups u.frzs u.tbls (fun m' hm=>by
  obtain ⟨o',es',ep',ho',r'⟩:=hm
  rw [ho] at ho'; cases ho'
  exact ⟨_,es',ep',hL,r'⟩) hok I.bare
theorem Inv.call {g':Array GenState}{t':Nat}{d':Drawn}{ch:List Addr}(I:Inv X pins σ H s)(u:Un (frs X.stack) ch H H' s.heap h')(hok:HOk X.prog X.w H' h')(hg:AllBare g')
  (e5:∀ b∈ch,(b∈X.ex\/X.s₀.heap.objs.size<=b)/\b≠X.env.locals/\(∀ x c,X.env.cells.lookup x=some c->c≠b)/\∀ p∈X.pn++pins,p.1≠b):
  Inv X pins σ H' { s with heap:=h',gens:=g',drawn:=d',toks:=t' }:=by
 obtain ⟨m,⟨o,es,ep,ho,r⟩,_⟩:=id I.loc
 obtain ⟨sl,hL⟩:=u.any ho I.free fun z=>(e5 _ z).2.1 rfl
 exact I.step (ch:=ch) e5 (fun b o hL hb hc e n=>u.keep b o e n (fun z=>(List.mem_cons.mp (I.stkSub b z)).elim hL hb) hc) (fun b o _ _ hc e n=>u.any e n hc) (fun b o hc e n=>u.free b o e n hc) (fun b o hc e=>u.there b o e hc) u.tups u.frzs u.tbls (fun m' hm=>by
  obtain ⟨o',es',ep',ho',r'⟩:=hm
  rw [ho] at ho'; cases ho'
  exact ⟨_,es',ep',hL,r'⟩) hok hg
theorem Inv.turned {t':Nat}{it:Addr}(I:Inv X pins σ H s)(k:∀ b o,b≠it->s.heap.get? b=some o->h'.get? b=some o)(hn:H it=none)(hL:it≠X.env.locals)
  (h1:it∈X.ex\/X.s₀.heap.objs.size<=it) (h2:∀ x c,X.env.cells.lookup x=some c->c≠it) (h3:∀ p∈X.pn++pins,p.1≠it):Inv X pins σ H { s with heap:=h',toks:=t' }:=by
 have iL:∀ b u,H b=some u->b≠it:=fun b u e z=>by rw [z,hn] at e; cases e
 refine I.step (g':=s.gens) (d':=s.drawn) (ch:=[it]) (fun b hb=>?_) (fun b o _ _ hc e _=>k b o (fun z=>hc (by simp [z])) e) (fun b o _ _ hc e _=>⟨o.slots,k b o (fun z=>hc (by simp [z])) e⟩) (fun _ _ _ _ n=>n)
  (fun b o hc e=>⟨o,k b o (fun z=>hc (by simp [z])) e⟩) (fun _ _ e=>e) (fun _ _ _ e=>e) (fun b ps e=>⟨#[],by rw [e]; simp⟩) (fun m hm=>?_) (fun b u e=>?_) I.bare
 ·have e:b=it:=by simpa using hb
  subst e
  exact ⟨h1,hL,h2,h3⟩
 ·obtain ⟨o,es,ep,ho,r⟩:=hm
  exact ⟨o,es,ep,k _ o (Ne.symm hL) ho,r⟩
 ·refine (I.hok b u e).stay (fun c v hc q=>k c v ?_ q) (fun _ q=>q) fun _ _ q=>q
  rcases hc with z | z
  ·rw [z]; exact iL b u e
  ·exact iL c _ z
theorem Inv.tok (I:Inv X pins σ H s)(t:Nat):Inv X pins σ H { s with toks:=t }:=I.un (h':=s.heap) (t':=t) Un.refl I.hok
theorem Inv.kept {t':Nat}(I:Inv X pins σ H s)(k:∀ b u,s.heap.get? b=some u->h'.get? b=some u):Inv X pins σ H { s with heap:=h',toks:=t' }:=I.un (Un.kept k) (I.hok.kept k)
theorem Inv.laid {a:Addr}{o:HO}{t':Nat}(I:Inv X pins σ H s)(k:∀ b u,s.heap.get? b=some u->h'.get? b=some u)(hp:s.heap.objs.size<=a)(new:ObjOk X.prog X.w (upd H a o) h' a o):
  Inv X pins σ (upd H a o) { s with heap:=h',toks:=t' }:=I.un (Un.laid k hp (I.hok.fresh hp)) (I.hok.laid k hp new)
theorem Inv.write {x e:Addr}{o:HO}{t':Nat}(I:Inv X pins σ H s)(mu:Mut (H x))(he:e=x\/H e=some (.own x))(k:∀ b u,b≠e->s.heap.get? b=some u->h'.get? b=some u)(dY:∃ u,h'.get? e=some u)
  (new:ObjOk X.prog X.w (upd H x o) h' x o):Inv X pins σ (upd H x o) { s with heap:=h',toks:=t' }:=I.un (Un.write mu he k dY) (I.hok.write mu he k dY new)
theorem Inv.pins_of {fU:Pnn}(I:Inv X pins σ H s)(h:∀ p∈fU,s.heap.get? p.1=some p.2/\H p.1=none/\p.1≠X.env.locals/\p.1∉X.fs/\∀ v,p.2.data≠.cell v):Inv X fU σ H s:=
 ⟨I.ok,I.os,I.bare,I.base,I.loc,I.cell,I.free,I.freeC,fun p hp=>(List.mem_append.mp hp).elim (fun z=>I.pin p (List.mem_append_left _ z)) (h p),I.hok,I.len⟩
theorem zg8_ {N:List Str}(hN:N.Nodup){i j:Nat}{x:Str}(a:N[i]?=some x)(b:N[j]?=some x):i=j:=by
 obtain ⟨h1,e1⟩:=List.getElem?_eq_some_iff.mp a
 obtain ⟨h2,e2⟩:=List.getElem?_eq_some_iff.mp b
 exact (List.getElem_inj hN).mp (e1.trans e2.symm)
theorem zlk_ {M:Model}{A:Around}{E:Value->Shared->Prop}{i:Nat}{x:Str}{v:V}{u:Value}{Q:Unit->Shared->Prop}(I:Inv X pins σ H s)(hN:X.N.Nodup)(hi:X.N[i]?=some x)(hx:Loc X.env.scope x)(r:RelV v u)
  (h:∀ s',Inv X pins (σ.set i (some v)) H s'->(∃ a,Heap.SameBut a s.heap s'.heap/\(a=X.env.locals\/X.env.cells.lookup x=some a))->Q () s') (hf:X.fn x=true\/X.env.scope.names.lookup x=some .local:=by first | exact .inl rfl | exact .inr rfl | assumption):wpAny M A (storeName X.env x u) Q E s:=by
 obtain ⟨m,hn,hl⟩:=id I.loc
 have gG:(X.env.scope.kind == .class || (X.env.scope.kind == .module && X.env.locals != X.env.globals))=false:=by rw [I.ok.kind]; rfl
 have eC:i<σ.length:=by rw [I.len]; exact (List.getElem?_eq_some_iff.mp hi).1
 have cne:=I.cne
 have tracked:∀ {a:Addr}{h':Heap},(∃ o,s.heap.get? a=some o/\H a=none)->Heap.SameBut a s.heap h'->HOk X.prog X.w H h':=fun {a h'} ha hs b ob e=>by
  obtain ⟨_,_,hfree⟩:=ha
  refine (I.hok b ob e).stay (fun c w' hc q=>(hs.2 c ?_).trans q) (fun _ q=>q) fun _ _ q=>q
  rintro rfl
  rcases hc with rfl | hc
  ·rw [hfree] at e; cases e
  ·rw [hfree] at hc; cases hc
 rcases hx with hk | hk
 ·refine wpAny_storeName_local hk hn (fun h' fF hs=>?_) gG
  obtain ⟨oL,_,_,hoL,_⟩:=id hn
  refine h _ ⟨I.ok,I.os,I.bare,⟨fun b o e n hb hx=>?_,fun b o e n hb hx=>?_,I.base.free,fun b o e hx=>?_,I.base.tups,I.base.frzs,I.base.tbls⟩,⟨_,fF,fun j y v' e1 e2 e3=>?_⟩,fun y c e=>?_,I.free,I.freeC,fun p hp=>?_,tracked ⟨oL,hoL,I.free⟩ hs,by simpa using I.len⟩ ⟨_,hs,.inl rfl⟩
  ·exact (hs.2 b (Nat.ne_of_lt (Nat.lt_of_lt_of_le (Heap.lt_size e) I.ok.above))).trans (I.base.keep b o e n hb hx)
  ·obtain ⟨sl,e1⟩:=I.base.slot b o e n hb hx
   exact ⟨sl,(hs.2 b (Nat.ne_of_lt (Nat.lt_of_lt_of_le (Heap.lt_size e) I.ok.above))).trans e1⟩
  ·obtain ⟨o',e1⟩:=I.base.there b o e hx
   exact ⟨o',(hs.2 b (Nat.ne_of_lt (Nat.lt_of_lt_of_le (Heap.lt_size e) I.ok.above))).trans e1⟩
  ·by_cases hj:j=i
   ·subst hj
    rw [hi] at e1; cases e1
    rw [List.getElem?_set_self eC] at e2
    cases e2
    exact ⟨u,r,.inl ⟨hk,by simp⟩⟩
   ·rw [List.getElem?_set_ne (Ne.symm hj)] at e2
    obtain ⟨u',r',q⟩:=hl j y v' e1 e2 e3
    refine ⟨u',r',?_⟩
    rcases q with ⟨k,e⟩ | ⟨k,c,e,z⟩
    ·refine .inl ⟨k,?_⟩
     have:y≠x:=fun e=>hj (zg8_ hN e1 (e ▸ hi))
     simp [this,e]
    ·exact .inr ⟨k,c,e,z.sameBut hs (cne y c e)⟩
  ·obtain ⟨w',z⟩:=I.cell y c e
   exact ⟨w',z.sameBut hs (cne y c e)⟩
  ·obtain ⟨e,n,ne,nf,d⟩:=I.pin p hp
   exact ⟨(hs.2 p.1 ne).trans e,n,ne,nf,d⟩
 ·have gD:X.fn x=true:=by
   rcases hf with z | z
   ·exact z
   ·rw [z] at hk; cases hk
  obtain ⟨c,hc⟩:=I.ok.has x (.inl hk)
  obtain ⟨w',z⟩:=I.cell x c hc
  refine wpAny_storeName_cell I.ok.kind hk hc z (fun h' hV hs=>?_)
  obtain ⟨oc,hoc,hocd⟩:=id z
  refine h { s with heap:=h' } ⟨I.ok,I.os,I.bare,⟨fun b o e n hb hx=>?_,fun b o e n hb hx=>?_,I.base.free,fun b o e hx=>?_,I.base.tups,I.base.frzs,I.base.tbls⟩,⟨m,hn.sameBut hs (Ne.symm (cne x c hc)),fun j y v' e1 e2 e3=>?_⟩,fun y c' e=>?_,I.free,I.freeC,fun p hp=>?_,tracked ⟨oc,hoc,I.freeC x c hc⟩ hs,by simpa using I.len⟩ ⟨c,hs,.inr hc⟩
  ·exact (hs.2 b (Nat.ne_of_lt (Nat.lt_of_lt_of_le (Heap.lt_size e) (I.ok.cab x c gD hc)))).trans (I.base.keep b o e n hb hx)
  ·obtain ⟨sl,e1⟩:=I.base.slot b o e n hb hx
   exact ⟨sl,(hs.2 b (Nat.ne_of_lt (Nat.lt_of_lt_of_le (Heap.lt_size e) (I.ok.cab x c gD hc)))).trans e1⟩
  ·obtain ⟨o',e1⟩:=I.base.there b o e hx
   exact ⟨o',(hs.2 b (Nat.ne_of_lt (Nat.lt_of_lt_of_le (Heap.lt_size e) (I.ok.cab x c gD hc)))).trans e1⟩
  ·by_cases hj:j=i
   ·subst hj
    rw [hi] at e1; cases e1
    rw [List.getElem?_set_self eC] at e2
    cases e2
    exact ⟨u,r,.inr ⟨.inl hk,c,hc,hV⟩⟩
   ·rw [List.getElem?_set_ne (Ne.symm hj)] at e2
    obtain ⟨u',r',q⟩:=hl j y v' e1 e2 e3
    refine ⟨u',r',?_⟩
    rcases q with q | ⟨k,c',e,z'⟩
    ·exact .inl q
    ·refine .inr ⟨k,c',e,z'.sameBut hs ?_⟩
     rintro rfl
     exact hj (zg8_ hN e1 (I.ok.inj _ _ _ e hc ▸ hi))
  ·by_cases hcc:c'=c
   ·subst hcc; exact ⟨_,hV⟩
   ·obtain ⟨w2,z2⟩:=I.cell y c' e
    exact ⟨w2,z2.sameBut hs hcc⟩
  ·obtain ⟨e,n,ne,nf,d⟩:=I.pin p hp
   refine ⟨(hs.2 p.1 ?_).trans e,n,ne,nf,d⟩
   intro q
   rw [q,hoc] at e
   have q':oc=p.2:=Option.some.inj e
   exact d w' (by rw [<- q']; exact hocd)
theorem zeT_ {M:Model}{A:Around}{E:Value->Shared->Prop}{i:Nat}{x:Str}{v:V}{u:Value}{Q:Unit->Shared->Prop}(I:Inv X pins σ H s)(hN:X.N.Nodup)(hi:X.N[i]?=some x)(hx:Loc X.env.scope x)(r:RelV v u)
  (h:∀ s',Inv X pins (σ.set i (some v)) H s'->Q () s') (hf:X.fn x=true\/X.env.scope.names.lookup x=some .local:=by first | exact .inl rfl | exact .inr rfl | assumption):wpAny M A (storeName X.env x u) Q E s:=
 zlk_ I hN hi hx r (fun s' I' _=>h s' I') hf
theorem Inv.call' {s':Shared}{ch:List Addr}(I:Inv X pins σ H s)(ho:s'.os=s.os)(u:Un (frs X.stack) ch H H' s.heap s'.heap)(hok:HOk X.prog X.w H' s'.heap)(hg:AllBare s'.gens)
  (e5:∀ b∈ch,(b∈X.ex\/X.s₀.heap.objs.size<=b)/\b≠X.env.locals/\(∀ x c,X.env.cells.lookup x=some c->c≠b)/\∀ p∈X.pn++pins,p.1≠b):Inv X pins σ H' s':=by
 obtain ⟨h',g',d',t',o'⟩:=s'
 have e:o'=s.os:=ho
 subst e
 exact I.call (g':=g') (t':=t') (d':=d') u hok hg e5
end
abbrev XK:=Value->Option Addr->Hp->Prop
abbrev St:=List (Option V)
abbrev VK:=V->Hp->Prop
abbrev TE:=St->Hp->VK->Prop
abbrev TT:=St->Hp->(Bool->Hp->Prop)->Prop
abbrev TA:=St->Hp->(List V->Hp->Prop)->Prop
structure Ends where
 nx:St->Hp->Prop
 rt:VK
 bk:St->Hp->Prop:=fun _ _=>False
 ct:St->Hp->Prop:=fun _ _=>False
abbrev TS:=Ends->St->Hp->Prop
def EP (X:Cx)(pins:Pnn)(σ:St)(Q:VK)(u:Value)(s':Shared):Prop:=∃ v H',Inv X pins σ H' s'/\RelV v u/\Q v H'
def TP (X:Cx)(pins:Pnn)(σ:St)(Q:Bool->Hp->Prop)(b:Bool)(s':Shared):Prop:=∃ H',Inv X pins σ H' s'/\Q b H'
def AP (X:Cx)(pins:Pnn)(σ:St)(Q:List V->Hp->Prop)(us:List Value)(s':Shared):Prop:=∃ vs H',Inv X pins σ H' s'/\Vals vs us/\Q vs H'
def SP (X:Cx)(pins:Pnn)(D:Ends)(f:Flow)(s':Shared):Prop:=
 match f with
 | .next=>∃ au H',Inv X pins au H' s'/\D.nx au H'
 | .brk=>∃ au H',Inv X pins au H' s'/\D.bk au H'
 | .cont=>∃ au H',Inv X pins au H' s'/\D.ct au H'
 | .ret u=>∃ v au H',Inv X pins au H' s'/\RelV v u/\D.rt v H'
def PE (X:Cx)(e:Expr)(t:TE):Prop:=
 ∀ (pins:Pnn) (s:Shared) (σ:St) (H:Hp) (Q:VK),Inv X pins σ H s->t σ H Q->wpAny (model X.prog X.w) X.A (eval e X.env) (EP X pins σ Q) X.xe s
def PT (X:Cx)(e:Expr)(t:TT):Prop:=
 ∀ (pins:Pnn) (s:Shared) (σ:St) (H:Hp) (Q:Bool->Hp->Prop),Inv X pins σ H s->t σ H Q->wpAny (model X.prog X.w) X.A (isTrue e X.env (eval e X.env)) (TP X pins σ Q) X.xe s
def PW (X:Cx)(e:Expr)(t:TT):Prop:=
 ∀ (whole:Sem Value) (pins:Pnn) (s:Shared) (σ:St) (H:Hp) (Q:Bool->Hp->Prop),Inv X pins σ H s->t σ H Q->wpAny (model X.prog X.w) X.A (isTrue e X.env whole) (TP X pins σ Q) X.xe s
theorem PW.pt {X:Cx}{e:Expr}{t:TT}(h:PW X e t):PT X e t:=h _
def PA (X:Cx)(es:List Expr)(t:TA):Prop:=
 ∀ (pos:Pos) (pins:Pnn) (s:Shared) (σ:St) (H:Hp) (Q:List V->Hp->Prop),Inv X pins σ H s->t σ H Q->wpAny (model X.prog X.w) X.A (spliced (backTo pos (starEach es X.env))) (AP X pins σ Q) X.xe s
def PS (X:Cx)(st:Stmt)(t:TS):Prop:=
 ∀ (pins:Pnn) (s:Shared) (σ:St) (H:Hp) (D:Ends),Inv X pins σ H s->t D σ H->wpAny (model X.prog X.w) X.A (exec st X.env) (SP X pins D) X.xe s
def PSs (X:Cx)(st:List Stmt)(t:TS):Prop:=
 ∀ (pins:Pnn) (s:Shared) (σ:St) (H:Hp) (D:Ends),Inv X pins σ H s->t D σ H->wpAny (model X.prog X.w) X.A (execs st X.env) (SP X pins D) X.xe s
theorem thn {α:Type}{t:Sem α}{Q Q':α->Shared->Prop}{M:Model}{A:Around}{E:Value->Shared->Prop}{s:Shared}(h:wpAny M A t Q E s)(hQ:∀ a s,Q a s->Q' a s):wpAny M A t Q' E s:=wpAny_mono h hQ fun _ _ x=>x
section
variable {X:Cx}
theorem bin {a b:Expr}{ta tb:TE}(ha:PE X a ta)(hb:PE X b tb){pins:Pnn}{s:Shared}{σ:St}{H:Hp}{R:V->V->Hp->Prop}(I:Inv X pins σ H s)(h:ta σ H fun x H1=>tb σ H1 fun y H2=>R x y H2)
  {α:Type}{Q:α->Shared->Prop}{f:Value->Value->Sem α}
  (hf:∀ v u s2 x y H2,Inv X pins σ H2 s2->RelV x v->RelV y u->R x y H2->wpAny (model X.prog X.w) X.A (f v u) Q X.xe s2):
  wpAny (model X.prog X.w) X.A (eval a X.env) (fun v av=>wpAny (model X.prog X.w) X.A (eval b X.env) (fun u bo=>wpAny (model X.prog X.w) X.A (f v u) Q X.xe bo) X.xe av) X.xe s:=by
 refine thn (ha pins s σ H _ I h) fun v s1 ao=>?_
 obtain ⟨x,H1,I1,r1,q1⟩:=ao
 refine thn (hb pins s1 σ H1 _ I1 q1) fun u s2 ao=>?_
 obtain ⟨y,H2,I2,r2,q2⟩:=ao
 exact hf v u s2 x y H2 I2 r1 r2 q2
def tVar (i:Nat):TE:=fun σ H Q=>∃ v,σ[i]?=some (some v)/\Q v H
def tC (v:V):TE:=fun _ H Q=>Q v H
theorem zq5_ {i:Nat}{x:Str}{pos:Pos}(hN:X.N[i]?=some x)(hv:Vis X.env.scope x)(hd:(x==("__debug__":Str))=false:=by decide)(cY:(x==("__classdict__":Str))=false:=by decide):PE X (.Name x pos) (tVar i):=by
 intro pins s σ H Q I h
 obtain ⟨v,e,h⟩:=h
 obtain ⟨m,hn,hl⟩:=I.loc
 obtain ⟨u,r,l⟩:=hl i x v hN e hv
 have fin:EP X pins σ Q u s:=⟨v,H,I,r,h⟩
 rcases l with ⟨hk,hm⟩ | ⟨hk,c,hc,dH⟩
 ·exact wpAny_Name (wpAny_loadName_local I.ok.kind hk hn hm fin) hd
 ·rcases hk with hk | hk
  ·exact wpAny_Name (wpAny_loadName_cell I.ok.kind hk hc dH fin) hd
  ·exact wpAny_Name (wpAny_loadName_free I.ok.kind hk hc dH fin cY) hd
theorem zk_ {i j pos}:PE X (.Constant (.int i) j pos) (tC (.int i)):=fun _ _ _ H _ I h=>wpAny_Constant_int ⟨.int i,H,I.tok _,⟨_,rfl⟩,h⟩
theorem zfg_ {b j pos}:PE X (.Constant (.bool b) j pos) (tC (.bl b)):=fun _ _ _ H _ I h=>Constant_bool ⟨.bl b,H,I,rfl,h⟩
theorem zfr_ {j pos}:PE X (.Constant .none j pos) (tC .non):=fun _ _ _ H _ I h=>Constant_none ⟨.non,H,I,rfl,h⟩
theorem zq3_ {x j pos}:PE X (.Constant (.str x) j pos) (tC (.str x)):=fun _ _ _ H _ I h=>Calls.Constant_str ⟨.str x,H,I.tok _,⟨_,rfl⟩,h⟩
def Gl (X:Cx)(x:Str):Prop:=X.env.kindOf x=some .globalImplicit
theorem zcj_ {E:Value->Shared->Prop}{pins:Pnn}{s:Shared}{σ:St}{H:Hp}{x:Str}{u:Value}{pos:Pos}{Q:Value->Shared->Prop}(I:Inv X pins σ H s)(hg:Gl X x)(hm:X.mg x=some u)(h:Q u s)
  (hd:(x==("__debug__":Str))=false:=by decide):wpAny (model X.prog X.w) X.A (eval (.Name x pos) X.env) Q E s:=
 Calls.Name_function_global I.ok.kind hg (Calls.loadGlobal_global (by rw [I.ok.glob]; exact I.mod.glob.keeps I.bk) hm h) hd
theorem zgM_ {E:Value->Shared->Prop}{pins:Pnn}{s:Shared}{σ:St}{H:Hp}{x:Str}{u:Value}{pos:Pos}{Q:Value->Shared->Prop}(I:Inv X pins σ H s)(hg:Gl X x)(hm:X.mg x=none)(hv:bootBuiltins x=some u)(h:Q u s)
  (hn:x ≠ "__name__":=by decide) (hd:(x==("__debug__":Str))=false:=by decide):wpAny (model X.prog X.w) X.A (eval (.Name x pos) X.env) Q E s:=by
 obtain ⟨mb,h1,h2⟩:=I.mod.blt
 exact Calls.Name_function_global I.ok.kind hg (Calls.loadGlobal_builtin (by rw [I.ok.glob]; exact I.mod.glob.keeps I.bk) hm (by rw [I.ok.blt]; exact h1.keeps I.bk) ((h2 x hn).trans hv) h) hd
theorem zjg_ {x:Str}{v:V}{u:Value}{pos:Pos}(hg:Gl X x)(hm:X.mg x=some u)(r:RelV v u)(hd:(x==("__debug__":Str))=false:=by decide):PE X (.Name x pos) (tC v):=
 fun _ _ _ H _ I h=>zcj_ I hg hm ⟨v,H,I,r,h⟩ hd
theorem zpP_ {x:Str}{v:V}{u:Value}{pos:Pos}(hg:Gl X x)(hm:X.mg x=none)(hv:bootBuiltins x=some u)(r:RelV v u)(hn:x ≠ "__name__":=by decide)(hd:(x==("__debug__":Str))=false:=by decide):PE X (.Name x pos) (tC v):=
 fun _ _ _ H _ I h=>zgM_ I hg hm hv ⟨v,H,I,r,h⟩ hn hd
variable {a b:Expr}{pos:Pos}
def PC (X:Cx)(op:CmpOp)(a b:Expr)(t:TE):Prop:=
 ∀ (pins:Pnn) (s:Shared) (σ:St) (H:Hp) (Q:VK),Inv X pins σ H s->t σ H Q ->
  wpAny (model X.prog X.w) X.A (eval a X.env) (fun v av=>wpAny (model X.prog X.w) X.A (eval b X.env) (fun u bo=>wpAny (model X.prog X.w) X.A (compareOp op v u) (EP X pins σ Q) X.xe bo) X.xe av) X.xe s
theorem nobehind (b:Expr){op:CmpOp}(h:op≠.In)(h2:op≠.NotIn):behindInMarks op b=false:=by
 have e1:(op == CmpOp.In)=false:=by cases op<;>first | rfl | exact absurd rfl h
 have e2:(op == CmpOp.NotIn)=false:=by cases op<;>first | rfl | exact absurd rfl h2
 cases b<;>simp [behindInMarks,e1,e2]
theorem zqp_ {op:CmpOp}{t:TE}(h:PC X op a b t)(h1:behindInMarks op b=false:=by first | exact nobehind _ (by decide) (by decide) | rfl):PE X (.Compare a [op] [b] pos) t:=fun pins s σ H Q I hw=>wpAny_Compare1 (h pins s σ H Q I hw) h1
variable {tA:TT}
def tNot (t:TT):TT:=fun σ H Q=>t σ H fun c H1=>Q (!c) H1
theorem zma_ (ha:PT X a tA):PW X (.BoolOp .And [a] pos) tA:=by
 intro wh pins s σ H Q I h
 refine isTrue_and (thn (ha pins s σ H Q I h) fun c s1 e=>?_)
 cases c with
 | true=>exact isTrue_and_nil e
 | false=>exact e
theorem ze5_ (ha:PT X a tA):PW X (.BoolOp .Or [a] pos) tA:=by
 intro wh pins s σ H Q I h
 refine isTrue_or (thn (ha pins s σ H Q I h) fun c s1 e=>?_)
 cases c with
 | false=>exact isTrue_or_nil e
 | true=>exact e
theorem zcZ_ (ha:PT X a tA):PT X (.UnaryOp .Not a pos) (tNot tA):=by
 intro pins s σ H Q I h
 exact isTrue_not (ha pins s σ H (fun c H1=>Q (!c) H1) I h)
theorem zkY_ {op}{t:TE}(h:PE X a t):PE X (.BoolOp op [a] pos) t:=fun pins s σ H Q I hw=>BoolOp_one (h pins s σ H Q I hw)
end
def SqL (K:Fgg)(H:Hp)(a:Addr)(xs:List V):Prop:=
 Rd H a (.lst xs) \/
  ∃ (o:Obj) (ai:Array Value) (n:Nat),K.lookup a=some o/\o.cls=.type "list" /\ o.dict=none/\o.data=.seq ai n/\ai.size<=sizeLine/\Vals xs ai.toList
def SqT (K:Fgg)(H:Hp)(a:Addr)(xs:List V):Prop:=
 Rd H a (.tup xs) \/
  ∃ (o:Obj) (ai:Array Value) (n:Nat),K.lookup a=some o/\o.cls=.type "tuple" /\ o.data=.seq ai n/\ai.size<=sizeLine/\Vals xs ai.toList
def absV:Value->Option V
 | .none=>some .non
 | .bool b=>some (.bl b)
 | .int i _=>some (.int i)
 | .str x _=>some (.str x)
 | .bytes b _=>some (.byt b)
 | .float b _=>some (.flt b)
 | .ref a=>some (.ref a)
 | .type n=>some (.ty n)
 | _=>none
theorem RelV.abs {x:V}{u:Value}(r:RelV x u):absV u=some x:=by
 cases x with
 | non=>cases r; rfl
 | bl _=>cases r; rfl
 | int _=>obtain ⟨t,rfl⟩:=r; rfl
 | str _=>obtain ⟨t,rfl⟩:=r; rfl
 | byt _=>obtain ⟨t,rfl⟩:=r; rfl
 | flt _=>obtain ⟨t,rfl⟩:=r; rfl
 | ref _=>cases r; rfl
 | ty _=>cases r; rfl
theorem RelV.inj {x y:V}{u:Value}(r:RelV x u)(q:RelV y u):x=y:=Option.some.inj (r.abs.symm.trans q.abs)
theorem Vals.inj:∀ {xs ys:List V}{us:List Value},Vals xs us->Vals ys us->xs=ys
 | _,_,_,.nil,.nil=>rfl
 | _,_,_,.cons r t,.cons r' t'=>by rw [r.inj r',Vals.inj t t']
section
variable {X:Cx}{pins:Pnn}{σ:St}{H:Hp}{s:Shared}{a:Addr}{xs ys:List V}
theorem SqL.of {K:Fgg}(h:H a=some (.lst xs)):SqL K H a xs:=.inl (.inl h)
theorem SqT.of {K:Fgg}(h:H a=some (.tup xs)):SqT K H a xs:=.inl (.inl h)
theorem Inv.list (I:Inv X pins σ H s)(h:SqL X.K H a xs):∃ ai:List Value,Vals xs ai/\PlainL s.heap a ai.toArray/\xs.length<=sizeLine:=by
 rcases h with h | ⟨o,ai,n,hk,hc,hd,hs,hz,r⟩
 ·obtain ⟨z,ai,n,r,e⟩:=h.ok I.hok
  exact ⟨ai,r,⟨_,n,e,rfl,rfl,rfl⟩,z⟩
 ·refine ⟨ai.toList,r,⟨o,n,I.kIn a o hk,hc,hd,by simpa using hs⟩,?_⟩
  have e:=r.length
  simp only [Array.length_toList] at e
  lia
theorem Inv.tuple (I:Inv X pins σ H s)(h:SqT X.K H a xs):∃ ai:List Value,Vals xs ai/\IsTup s.heap a ai.toArray/\xs.length<=sizeLine:=by
 rcases h with h | ⟨o,ai,n,hk,hc,hs,hz,r⟩
 ·obtain ⟨z,ai,r,p⟩:=h.ok I.hok
  exact ⟨ai,r,p,z⟩
 ·refine ⟨ai.toList,r,⟨o,I.kIn a o hk,hc,n,by simpa using hs⟩,?_⟩
  have e:=r.length
  simp only [Array.length_toList] at e
  lia
theorem Inv.list_inj (I:Inv X pins σ H s)(h:SqL X.K H a xs)(h':SqL X.K H a ys):xs=ys:=by
 obtain ⟨ai,r,⟨o,n,e,_,_,d⟩,_⟩:=I.list h
 obtain ⟨its',r',⟨o',n',e',_,_,d'⟩,_⟩:=I.list h'
 rw [e] at e'; cases e'
 rw [d] at d'
 injection d' with d1 _
 have:ai=its':=by simpa using congrArg Array.toList d1
 subst this
 exact r.inj r'
theorem Inv.tuple_inj (I:Inv X pins σ H s)(h:SqT X.K H a xs)(h':SqT X.K H a ys):xs=ys:=by
 obtain ⟨ai,r,⟨o,e,_,n,d⟩,_⟩:=I.tuple h
 obtain ⟨its',r',⟨o',e',_,n',d'⟩,_⟩:=I.tuple h'
 rw [e] at e'; cases e'
 rw [d] at d'
 injection d' with d1 _
 have:ai=its':=by simpa using congrArg Array.toList d1
 subst this
 exact r.inj r'
end
abbrev Cx.wish (X:Cx)(E:Value->Shared->Prop):Cx:={ X with xe:=E }
abbrev Cx.nox (X:Cx):Cx:=X.wish fun _ _=>False
theorem Cx.Ok.wish {X:Cx}(ok:X.Ok)(E:Value->Shared->Prop):(X.wish E).Ok:=
 ⟨ok.mod,ok.kind,ok.glob,ok.blt,ok.above,ok.inj,ok.has,ok.cab,ok.hd,ok.frames,ok.stk,ok.exf,ok.bs,ok.bsz,ok.noex,ok.exfs,ok.funs,ok.frf⟩
theorem Cx.Ok.unwish {X:Cx}{E:Value->Shared->Prop}(ok:(X.wish E).Ok):X.Ok:=
 ⟨ok.mod,ok.kind,ok.glob,ok.blt,ok.above,ok.inj,ok.has,ok.cab,ok.hd,ok.frames,ok.stk,ok.exf,ok.bs,ok.bsz,ok.noex,ok.exfs,ok.funs,ok.frf⟩
section
variable {X:Cx}{pins:Pnn}{σ:St}{H:Hp}{s:Shared}{E:Value->Shared->Prop}
theorem Inv.wish (I:Inv X pins σ H s)(E:Value->Shared->Prop):Inv (X.wish E) pins σ H s:=⟨I.ok.wish E,I.os,I.bare,I.base,I.loc,I.cell,I.free,I.freeC,I.pin,I.hok,I.len⟩
theorem Inv.unwish (I:Inv (X.wish E) pins σ H s):Inv X pins σ H s:=⟨I.ok.unwish,I.os,I.bare,I.base,I.loc,I.cell,I.free,I.freeC,I.pin,I.hok,I.len⟩
theorem SP.unwish {D:Ends}{f:Flow}{s':Shared}(h:SP (X.wish E) pins D f s'):SP X pins D f s':=by
 cases f with
 | next=>obtain ⟨au,H',I,q⟩:=h; exact ⟨au,H',I.unwish,q⟩
 | brk=>obtain ⟨au,H',I,q⟩:=h; exact ⟨au,H',I.unwish,q⟩
 | cont=>obtain ⟨au,H',I,q⟩:=h; exact ⟨au,H',I.unwish,q⟩
 | ret u=>obtain ⟨v,au,H',I,r,q⟩:=h; exact ⟨v,au,H',I.unwish,r,q⟩
theorem PE.nox {e:Expr}{t:TE}(h:PE X.nox e t):PE X e t:=fun pins s σ H Q I hw =>
 wpAny_mono (h pins s σ H Q (I.wish _) hw) (fun _ _ ⟨v,H',I',r,q⟩=>⟨v,H',I'.unwish,r,q⟩) fun _ _ z=>False.elim z
theorem PSs.nox {st:List Stmt}{t:TS}(h:PSs X.nox st t):PSs X st t:=fun pins s σ H D I hw =>
 wpAny_mono (h pins s σ H D (I.wish _) hw) (fun _ _ q=>q.unwish) fun _ _ z=>False.elim z
end
section
variable {X:Cx}{st:Stmt}{rest:List Stmt}{t u:TS}{e:Expr}{te:TE}{pos:Pos}
def tNext:TS:=fun D σ H=>D.nx σ H
def tSeq (t u:TS):TS:=fun D σ H=>t { D with nx:=u D } σ H
theorem zN_:PSs X [] tNext:=fun _ _ σ H _ I h=>wpAny_execs_nil ⟨σ,H,I,h⟩
theorem zd_ (h1:PS X st t)(h2:PSs X rest u):PSs X (st::rest) (tSeq t u):=by
 intro pins s σ H D I h
 refine wpAny_execs_cons (thn (h1 pins s σ H { D with nx:=u D } I h) fun f s1 q=>?_)
 cases f with
 | next =>
  obtain ⟨au,H',I',q⟩:=q
  exact h2 pins s1 au H' D I' q
 | ret v=>exact q
 | brk=>exact q
 | cont=>exact q
theorem zg_ (h1:PS X st t):PSs X [st] t:=by
 intro pins s σ H D I h
 refine wpAny_execs_cons (thn (h1 pins s σ H D I h) fun f s1 q=>?_)
 cases f with
 | next=>exact wpAny_execs_nil q
 | ret v=>exact q
 | brk=>exact q
 | cont=>exact q
theorem Inv.quiet {pins:Pnn}{σ:St}{H:Hp}{s:Shared}(I:Inv X pins σ H s):interactive X.env=false:=by simp [interactive,I.ok.kind]
def tDrop (te:TE):TS:=fun D σ H=>te σ H fun _ H1=>D.nx σ H1
theorem zaZ_ (he:PE X e te)(hs:swapsWith e none pos.line X.env=pure false:=by rfl):PS X (.Expr e pos) (tDrop te):=by
 intro pins s σ H D I h
 exact wpAny_Expr_any (thn (he pins s σ H _ I h) fun v s1 ⟨x,H1,I1,r1,q1⟩=>⟨σ,H1,I1,q1⟩) I.quiet hs
def tRet (te:TE):TS:=fun D σ H=>te σ H D.rt
theorem zG_ (he:PE X e te):PS X (.Return (some e) pos) (tRet te):=by
 intro pins s σ H D I h
 exact wpAny_Return_some (thn (he pins s σ H _ I h) fun v s1 ⟨x,H1,I1,r1,q1⟩=>⟨x,σ,H1,I1,r1,q1⟩)
def tRetN:TS:=fun D _ H=>D.rt .non H
theorem zpz_:PS X (.Return none pos) tRetN:=fun _ _ σ H _ I h=>wpAny_Return_none ⟨.non,σ,H,I,rfl,h⟩
def tNever:TS:=fun _ _ _=>False
theorem zdl_:PS X st tNever:=fun _ _ _ _ _ _ h=>h.elim
end
abbrev TG:=V->St->Hp->(St->Hp->Prop)->Prop
abbrev TGs:=List V->St->Hp->(St->Hp->Prop)->Prop
def PG (X:Cx)(target:Expr)(t:TG):Prop:=
 ∀ (pins:Pnn) (s:Shared) (σ:St) (H:Hp) (v:V) (u:Value) (Q:St->Hp->Prop),Inv X pins σ H s->RelV v u->t v σ H Q ->
  wpAny (model X.prog X.w) X.A (assign target X.env u) (fun _ s'=>∃ au H',Inv X pins au H' s'/\Q au H') X.xe s
def PGs (X:Cx)(ts:List Expr)(t:TGs):Prop:=
 ∀ (pins:Pnn) (s:Shared) (σ:St) (H:Hp) (vs:List V) (us:List Value) (Q:St->Hp->Prop),Inv X pins σ H s->Vals vs us->t vs σ H Q ->
  wpAny (model X.prog X.w) X.A (assignInOrder ((assignEach ts X.env).map (·.2)) us) (fun _ s'=>∃ au H',Inv X pins au H' s'/\Q au H') X.xe s
abbrev TSet:=V->V->V->Hp->(Hp->Prop)->Prop
def PSet (X:Cx)(t:TSet):Prop:=
 ∀ (pins:Pnn) (s:Shared) (σ:St) (H:Hp) (o i v:V) (ov iv u:Value) (Q:Hp->Prop),Inv X pins σ H s->RelV o ov->RelV i iv->RelV v u->t o i v H Q ->
  wpAny (model X.prog X.w) X.A (setItem ov iv u) (fun _ s'=>∃ H',Inv X pins σ H' s'/\Q H') X.xe s
section
variable {X:Cx}{pos:Pos}
def gName (i:Nat):TG:=fun v σ H Q=>Q (σ.set i (some v)) H
theorem zmg_ {i:Nat}{x:Str}(hN:X.N.Nodup)(hi:X.N[i]?=some x)(hx:Loc X.env.scope x)(hf:X.fn x=true\/X.env.scope.names.lookup x=some .local:=by first | exact .inl rfl | exact .inr rfl | assumption):PG X (.Name x pos) (gName i):=by
 intro pins s σ H v u Q I r h
 exact wpAny_assign_Name (zeT_ I hN hi hx r (fun s' I'=>⟨_,H,I',h⟩) hf)
def gNil:TGs:=fun vs σ H Q=>vs=[]/\Q σ H
def gCons (t:TG)(u:TGs):TGs:=fun vs σ H Q=>∃ v r,vs=v::r/\t v σ H fun au H'=>u r au H' Q
theorem zpo_:PGs X [] gNil:=by
 intro pins s σ H vs us Q I r h
 obtain ⟨e,h⟩:=h
 subst e
 cases r
 exact assignInOrder_nil ⟨σ,H,I,h⟩
theorem zng_ {e:Expr}{es:List Expr}{t:TG}{u:TGs}(h1:PG X e t)(h2:PGs X es u)
  (hs:(assignEach (e::es) X.env).map (·.2)=assign e X.env::(assignEach es X.env).map (·.2):=by rfl):PGs X (e::es) (gCons t u):=by
 intro pins s σ H vs us Q I r h
 obtain ⟨v,vr,e1,h⟩:=h
 subst e1
 cases r with
 | cons r rr =>
  rw [hs]
  refine assignInOrder_cons (thn (h1 pins s σ H _ _ _ I r h) fun _ s1 ao=>?_)
  obtain ⟨gS,H1,I1,q1⟩:=ao
  exact h2 pins s1 gS H1 _ _ Q I1 rr q1
def gTup (K:Fgg)(n:Nat)(t:TGs):TG:=fun v σ H Q=>∃ a xs,v=.ref a/\SqT K H a xs/\xs.length=n/\t xs σ H Q
theorem zrg_ {es:List Expr}{k:Nat}{t:TGs}{n:Nat}(hc:X.calm=true)(h:PGs X es t)
  (hn:(assignEach es X.env).length=n:=by rfl) (bE:(assignEach es X.env).findIdx? (·.1)=none:=by rfl):PG X (.Tuple es k pos) (gTup X.K n t):=by
 intro pins s σ H v u Q I r hw
 obtain ⟨a,xs,e1,hq,hl,hw⟩:=hw
 subst e1
 cases r
 obtain ⟨ai,rv,ht,hz⟩:=I.tuple hq
 refine assign_Tuple_tuple (I.ok.hd hc) ht (by simp [hn,<- hl,rv.length]) bE fun h' hx=>?_
 have I1:Inv X pins σ H { s with heap:=h' }:=I.kept (t':=s.toks) fun b o e=>hx b o (Nat.ne_of_lt (Heap.lt_size e)) e
 exact h pins _ σ H xs _ Q I1 (by simpa using rv) hw
def gSub (to ti:TE)(t:TSet):TG:=fun v σ H Q=>to σ H fun o H1=>ti σ H1 fun i H2=>t o i v H2 fun H3=>Q σ H3
theorem zq9_ {o i:Expr}{to ti:TE}{t:TSet}(ho:PE X o to)(hi:PE X i ti)(hs:PSet X t)
  (ha:∀ v,assign (.Subscript o i pos) X.env v=(do
   let ov <- holding [v] (eval o X.env)
   let iv <- holding [v,ov] (eval i X.env)
   standAt pos
   holding [v,ov,iv] (setItem ov iv v)
   release [v,ov,iv] []):=by intro _; rfl):PG X (.Subscript o i pos) (gSub to ti t):=by
 intro pins s σ H v u Q I r h
 rw [ha]
 refine wpAny_bind (wpAny_holding (thn (ho pins s σ H _ I h) fun ov s1 ao=>?_))
 obtain ⟨x,H1,I1,r1,q1⟩:=ao
 refine wpAny_bind (wpAny_holding (thn (hi pins s1 σ H1 _ I1 q1) fun iv s2 ao=>?_))
 obtain ⟨y,H2,I2,r2,q2⟩:=ao
 refine wpAny_bind (wpAny_standAt (wpAny_bind (wpAny_holding (thn (hs pins s2 σ H2 x y v ov iv u _ I2 r1 r2 r q2) fun _ s3 ao=>?_))))
 obtain ⟨H3,I3,q3⟩:=ao
 exact wpAny_release ⟨σ,H3,I3,q3⟩
def tAsg (te:TE)(g:TG):TS:=fun D σ H=>te σ H fun x H1=>g x σ H1 D.nx
theorem zqV_ {tg e:Expr}{te:TE}{g:TG}(he:PE X e te)(hg:PG X tg g)(hs:swapsWithSole [tg] e pos.line X.env=pure false:=by rfl)(hw:swappedStores [tg] e X.env=pure none:=by rfl)
  (h1:(assignEach [tg] X.env).map (·.2)=[assign tg X.env]:=by rfl):PS X (.Assign [tg] e pos) (tAsg te g):=by
 intro pins s σ H D I h
 refine wpAny_Assign_stores (thn (he pins s σ H _ I h) fun v s1 ao=>?_) hs hw
 obtain ⟨x,H1,I1,r1,q1⟩:=ao
 rw [h1]
 exact thn (hg pins s1 σ H1 x v _ I1 r1 q1) fun _ s2 q=>q
theorem zqF_ {i:Nat}{x:Str}{e:Expr}{te:TE}{pos':Pos}(hN:X.N.Nodup)(hi:X.N[i]?=some x)(hx:Loc X.env.scope x)(he:PE X e te)(hs:swapsWith e (some (.Name x pos')) pos.line X.env=pure false:=by rfl)(hf:X.fn x=true\/X.env.scope.names.lookup x=some .local:=by first | exact .inl rfl | exact .inr rfl | assumption):
  PS X (.Assign [.Name x pos'] e pos) (tAsg te (gName i)):=by
 intro pins s σ H D I h
 refine wpAny_Assign_Name (thn (he pins s σ H _ I h) fun v s1 ao=>?_) hs
 obtain ⟨y,H1,I1,r1,q1⟩:=ao
 exact zeT_ I1 hN hi hx r1 (fun s2 I2=>⟨_,H1,I2,q1⟩) hf
def tWhile (c:TT)(tb:TS):TS:=fun D σ H=>∃ W:Nat->St->Hp->Prop,(∃ m,W m σ H)/\∀ m σ H,W m σ H ->
 c σ H fun b H1=>if b=true then ∃ N:St->Hp->Prop,(∀ au H',N au H'->∃ m',m'<m/\W m' au H')/\tb { D with nx:=N,ct:=N,bk:=D.nx } σ H1 else D.nx σ H1
theorem zmS_ {c:Expr}{body:List Stmt}{tc:TT}{tb:TS}(hp:PassesOwn (model X.prog X.w) X.A X.env X.xe)(hc:PT X c tc)(hb:PSs X body tb):PS X (.While c body [] pos) (tWhile tc tb):=by
 intro pins s σ H D I h
 obtain ⟨W,⟨m0,w0⟩,turn⟩:=h
 refine wpAny_While (codeAny_whileLoop (fun n s'=>∃ au H',Inv X pins au H' s'/\W n au H') ?_ m0 ⟨σ,H,I,w0⟩)
 rintro n s1 ⟨gS,H1,I1,w1⟩
 refine wpAny_passesOwn hp (thn (hc pins s1 gS H1 _ I1 (turn n gS H1 w1)) fun b s2 ao=>?_)
 obtain ⟨H2,I2,q2⟩:=ao
 cases b with
 | true =>
  obtain ⟨N,hN,q2⟩:=q2
  rw [if_pos rfl]
  refine wpAny_passesOwn hp (thn (hb pins s2 gS H2 _ I2 q2) fun f s3 q3=>?_)
  cases f with
  | next =>
   obtain ⟨bS,H3,I3,n3⟩:=q3
   obtain ⟨m',hm,w3⟩:=hN bS H3 n3
   exact ⟨m',hm,bS,H3,I3,w3⟩
  | cont =>
   obtain ⟨bS,H3,I3,n3⟩:=q3
   obtain ⟨m',hm,w3⟩:=hN bS H3 n3
   exact ⟨m',hm,bS,H3,I3,w3⟩
  | brk=>exact q3
  | ret v=>exact q3
 | false =>
  rw [if_neg Bool.false_ne_true]
  exact wpAny_execs_nil ⟨gS,H2,I2,q2⟩
end
structure It where
 go:Nat->Hp->Prop
 yld:Nat->Hp->V->Hp->Prop
 stop:Nat->Hp->Prop
def FpOk (X:Cx)(pins:Pnn)(H:Hp)(b:Addr):Prop:=
 H b=none/\b≠X.env.locals/\b∉X.fs/\(b∈X.ex\/X.s₀.heap.objs.size<=b)/\(∀ x c,X.env.cells.lookup x=some c->c≠b)/\∀ p∈X.pn++pins,p.1≠b
theorem Inv.fpOk {X:Cx}{pins:Pnn}{σ:St}{H H':Hp}{s:Shared}{b:Addr}(I:Inv X pins σ H s)(hb:s.heap.objs.size<=b)(hn:H' b=none):FpOk X pins H' b:=by
 refine ⟨hn,Nat.ne_of_gt (Nat.lt_of_lt_of_le I.lt hb),I.nofs hb,.inr (Nat.le_trans I.sz hb),fun x c e z=>?_,fun p hp z=>?_⟩
 ·obtain ⟨v,q⟩:=I.cell x c e
  exact absurd (Nat.lt_of_lt_of_le q.lt (by rw [z]; exact hb)) (Nat.lt_irrefl _)
 ·exact absurd (Nat.lt_of_lt_of_le (Heap.lt_size (I.pin p hp).1) (by rw [z]; exact hb)) (Nat.lt_irrefl _)
structure Turn (P:Program)(w:World)(K:Fgg)(tg:Expr)(J:It)(fp:List Addr)(it:Addr)(tn:Nat->Heap->Prop):Prop where
 mem:it∈fp
 obj:∀ i h,tn i h->∀ b∈fp,∃ o,h.get? b=some o/\∀ v,o.data≠.cell v
 keep:∀ i h h',tn i h->(∀ b∈fp,∀ o,h.get? b=some o->h'.get? b=some o)->tn i h'
 item:∀ (X:Cx),X.prog=P->X.w=w->X.K=K->X.calm=true->∀ (i:Nat) (pins:Pnn) (s:Shared) (σ:St) (H:Hp) (E:Value->Shared->Prop),Inv X pins σ H s->(∀ b∈fp,FpOk X pins H b)->tn i s.heap->J.go i H ->
  wpAny (model P w) X.A (pyNext (.ref it)) (fun r s1=>∃ u,r=some u /\
   wpAny (model P w) X.A (letOwnedTupleGo tg (.ref it) u) (fun _ s2=>∃ x H',Inv X pins σ H' s2/\RelV x u/\J.yld i H x H'/\tn (i+1) s2.heap/\∀ b∈fp,H' b=none) E s1) E s
 done:∀ (X:Cx),X.prog=P->X.w=w->X.K=K->X.calm=true->∀ (i:Nat) (pins:Pnn) (s:Shared) (σ:St) (H:Hp) (E:Value->Shared->Prop),Inv X pins σ H s->(∀ b∈fp,FpOk X pins H b)->tn i s.heap->J.stop i H ->
  wpAny (model P w) X.A (pyNext (.ref it)) (fun r s1=>r=none/\Inv X pins σ H s1) E s
 self:∀ (A:Around) (i:Nat) (s:Shared) (Q:Value->Shared->Prop) (E:Value->Shared->Prop),tn i s.heap->Q (.ref it) s->wpAny (model P w) A (pyIter (.ref it)) Q E s
abbrev TI:=St->Hp->(It->Hp->Prop)->Prop
def PIE (X:Cx)(pins:Pnn)(σ:St)(tg:Expr)(R:It->Hp->Prop)(jW:Value)(s2:Shared):Prop:=
 ∃ (it:Addr) (fp:List Addr) (tn:Nat->Heap->Prop) (J:It) (H':Hp),jW=.ref it/\Inv X pins σ H' s2/\Turn X.prog X.w X.K tg J fp it tn/\tn 0 s2.heap/\(∀ b∈fp,FpOk X pins H' b)/\R J H'
def PI (X:Cx)(tg iter:Expr)(wi:TI):Prop:=
 ∀ (pins:Pnn) (s:Shared) (σ:St) (H:Hp) (R:It->Hp->Prop),Inv X pins σ H s->wi σ H R ->
  wpAny (model X.prog X.w) X.A (eval iter X.env) (fun v s1=>wpAny (model X.prog X.w) X.A (pyIter v) (PIE X pins σ tg R) X.xe s1) X.xe s
theorem zp7_ {M:Model}{A:Around}{E:Value->Shared->Prop}{s:Shared}{tg:Expr}{it:Addr}{u:Value}{o:Obj}{n:String}{vs:Array Value}{Q:Unit->Shared->Prop}(ho:s.heap.get? it=some o)(hc:o.cls=.type n)(hd:o.data=.fields vs)
  (hn:["enumerate", "zip", "dict_itemiterator", "dict_reverseitemiterator", "odict_iterator", "itertools.zip_longest", "itertools.pairwise"].contains n=false) (hQ:Q () s):wpAny M A (letOwnedTupleGo tg (.ref it) u) Q E s:=by
 unfold letOwnedTupleGo
 cases tg<;>first
  | exact wpAny_pure hQ
  | (cases u<;>first
    | exact wpAny_pure hQ
    | (refine wpAny_bind (wpAny_load ho ?_)
       rw [hc,hd]
       show wpAny M A (if (["enumerate", "zip", "dict_itemiterator", "dict_reverseitemiterator", "odict_iterator", "itertools.zip_longest", "itertools.pairwise"].contains n && vs[0]?==some (rawInt _))=true then _ else _) Q E s
       rw [if_neg (by intro h; rw [hn,Bool.false_and] at h; cases h)]
       exact wpAny_pure hQ))
def Itl (K:Fgg)(a:Addr):It:=
 ⟨fun i H=>∃ xs x,SqL K H a xs/\xs[i]?=some x,fun i H x H'=>H'=H/\∀ xs,SqL K H a xs->xs[i]?=some x,fun i H=>∃ xs,SqL K H a xs/\xs.length<=i⟩
def Itt (K:Fgg)(a:Addr):It:=
 ⟨fun i H=>∃ xs x,SqT K H a xs/\xs[i]?=some x,fun i H x H'=>H'=H/\∀ xs,SqT K H a xs->xs[i]?=some x,fun i H=>∃ xs,SqT K H a xs/\xs.length<=i⟩
def Itr (lo:Int)(n:Nat):It:=⟨fun i _=>i<n,fun i H x H'=>H'=H/\x=.int (lo+i),fun i _=>n<=i⟩
theorem zhx_ {P:Program}{w:World}{K:Fgg}{tg:Expr}(a it:Addr):Turn P w K tg (Itl K a) [it] it (fun i h=>h.IsListIter it a i) where
 mem:=by simp
 obj:=fun i h st b hb=>by
  have e:b=it:=by simpa using hb
  subst e
  obtain ⟨o,e,c,d⟩:=st
  exact ⟨o,e,fun v z=>by rw [d] at z; cases z⟩
 keep:=fun i h h' st k=>st.at fun o e=>k it (by simp) o e
 item:=by
  intro X hP hw hK hc i pins s σ H E I hf st hg
  subst hP hw hK
  obtain ⟨xs,x,hq,hx⟩:=hg
  obtain ⟨ai,rv,p,hz⟩:=I.list hq
  obtain ⟨u,hu,ru⟩:=rv.get hx
  obtain ⟨f0,f1,f2,f3,f4,f5⟩:=hf it (by simp)
  refine wpAny_pyNext_list_item st p.isList (x:=u) (by simpa using hu) fun h' d8 sb=>?_
  have I1:Inv X pins σ H { s with heap:=h' }:=I.turned (t':=s.toks) (fun b o hb e=>(sb.2 b hb).trans e) f0 f1 f3 f4 f5
  obtain ⟨o,e,c,d⟩:=id d8
  exact ⟨u,rfl,zp7_ (s:={ s with heap:=h' }) e c d (by decide) ⟨x,H,I1,ru,⟨rfl,fun ys hy=>by rw [I.list_inj hy hq]; exact hx⟩,d8,fun b hb=>(hf b hb).1⟩⟩
 done:=by
  intro X hP hw hK hc i pins s σ H E I hf st hg
  subst hP hw hK
  obtain ⟨xs,hq,hx⟩:=hg
  obtain ⟨ai,rv,p,hz⟩:=I.list hq
  obtain ⟨f0,f1,f2,f3,f4,f5⟩:=hf it (by simp)
  have hl:=rv.length
  exact wpAny_pyNext_list_end (I.ok.hd hc) st p.isList (by simp; lia) fun h' eb=>⟨rfl,I.turned (t':=s.toks) (fun b o hb e=>eb b o hb e) f0 f1 f3 f4 f5⟩
 self:=fun _ _ _ _ _ st h=>wpAny_pyIter_listiter st h
theorem zji_ {P:Program}{w:World}{K:Fgg}{tg:Expr}(a it:Addr):Turn P w K tg (Itt K a) [it] it (fun i h=>h.IsTupleIter it a i) where
 mem:=by simp
 obj:=fun i h st b hb=>by
  have e:b=it:=by simpa using hb
  subst e
  obtain ⟨o,e,c,d⟩:=st
  exact ⟨o,e,fun v z=>by rw [d] at z; cases z⟩
 keep:=fun i h h' st k=>st.at fun o e=>k it (by simp) o e
 item:=by
  intro X hP hw hK hc i pins s σ H E I hf st hg
  subst hP hw hK
  obtain ⟨xs,x,hq,hx⟩:=hg
  obtain ⟨ai,rv,p,hz⟩:=I.tuple hq
  obtain ⟨u,hu,ru⟩:=rv.get hx
  obtain ⟨f0,f1,f2,f3,f4,f5⟩:=hf it (by simp)
  refine wpAny_pyNext_tuple_item st (show s.heap.IsTuple a ai.toArray from p) (x:=u) (by simpa using hu) fun h' d8 sb=>?_
  have I1:Inv X pins σ H { s with heap:=h' }:=I.turned (t':=s.toks) (fun b o hb e=>(sb.2 b hb).trans e) f0 f1 f3 f4 f5
  obtain ⟨o,e,c,d⟩:=id d8
  exact ⟨u,rfl,zp7_ (s:={ s with heap:=h' }) e c d (by decide) ⟨x,H,I1,ru,⟨rfl,fun ys hy=>by rw [I.tuple_inj hy hq]; exact hx⟩,d8,fun b hb=>(hf b hb).1⟩⟩
 done:=by
  intro X hP hw hK hc i pins s σ H E I hf st hg
  subst hP hw hK
  obtain ⟨xs,hq,hx⟩:=hg
  obtain ⟨ai,rv,p,hz⟩:=I.tuple hq
  obtain ⟨f0,f1,f2,f3,f4,f5⟩:=hf it (by simp)
  have hl:=rv.length
  exact wpAny_pyNext_tuple_end (I.ok.hd hc) st (show s.heap.IsTuple a ai.toArray from p) (by simp; lia) fun h' eb=>⟨rfl,I.turned (t':=s.toks) (fun b o hb e=>eb b o hb e) f0 f1 f3 f4 f5⟩
 self:=fun _ _ _ _ _ st h=>wpAny_pyIter_tupleiter st h
theorem zjf_ {P:Program}{w:World}{K:Fgg}{tg:Expr}(it:Addr)(lo:Int)(n:Nat):Turn P w K tg (Itr lo n) [it] it (fun i h=>IsRangeIter h it (lo+(i:Nat)*1) ((n:Int)-(i:Nat)) 1) where
 mem:=by simp
 obj:=fun i h st b hb=>by
  have e:b=it:=by simpa using hb
  subst e
  exact ⟨_,st,fun v z=>by
   have z':Data.fields _=Data.cell v:=z
   cases z'⟩
 keep:=fun i h h' st k=>k it (by simp) _ st
 item:=by
  intro X hP hw hK hc i pins s σ H E I hf st hg
  subst hP hw hK
  obtain ⟨f0,f1,f2,f3,f4,f5⟩:=hf it (by simp)
  have W:=Walks.range (prog:=X.prog) (w:=X.w) (I.ok.hd hc) it lo 1 n
  refine W.item i s _ _ hg st fun v h' tk hv d8 kk=>?_
  obtain ⟨t,rfl⟩:=hv
  have I1:Inv X pins σ H { s with heap:=h',toks:=tk }:=I.turned (fun b o hb e=>kk b o (by simpa using hb) e) f0 f1 f3 f4 f5
  refine ⟨_,rfl,zp7_ (s:={ s with heap:=h',toks:=tk }) (n:="range_iterator") d8 rfl rfl (by decide) ⟨.int (lo+i),H,I1,⟨t,?_⟩,⟨rfl,rfl⟩,d8,fun b hb=>(hf b hb).1⟩⟩
  rw [Int.mul_one]
 done:=by
  intro X hP hw hK hc i pins s σ H E I hf st hg
  subst hP hw hK
  obtain ⟨f0,f1,f2,f3,f4,f5⟩:=hf it (by simp)
  exact wpAny_pyNext_range_end (I.ok.hd hc) st (by have:n<=i:=hg; lia) fun h' eb=>⟨rfl,I.turned (t':=s.toks) (fun b o hb e=>eb b o hb e) f0 f1 f3 f4 f5⟩
 self:=fun _ _ _ _ _ st h=>wpAny_pyIter_rangeiter st h
section
variable {X:Cx}{tg:Expr}
theorem zi1_ {pins:Pnn}{σ:St}{H:Hp}{s:Shared}{R:It->Hp->Prop}{E:Value->Shared->Prop}{lo hi:Int}{t u v:Tok}{tk:Nat}(I:Inv X pins σ H s)(h1 : -(2 ^ 62)<=lo)(h2:lo<2 ^ 62)(h3 : -(2 ^ 62)<=hi)(h4:hi<2 ^ 62)
  (q:R (Itr lo (hi-lo).toNat) H):wpAny (model X.prog X.w) X.A (pyIter (.ref s.heap.objs.size)) (PIE X pins σ tg R) E { s with heap:=s.heap.push { cls:=.type "range",data:=.fields #[.int lo t,.int hi u,.int 1 v] },toks:=tk }:=by
 refine wpAny_pyIter_range (IsRange.new ..) (small_one h1 h2 h3 h4) ?_
 have I1:Inv X pins σ H { s with heap:=s.heap.push { cls:=.type "range",data:=.fields #[.int lo t,.int hi u,.int 1 v] },toks:=tk }:=I.kept fun b o e=>Heap.get?_push_of_some _ e
 refine ⟨(s.heap.push { cls:=.type "range",data:=.fields #[.int lo t,.int hi u,.int 1 v] }).objs.size,[(s.heap.push { cls:=.type "range",data:=.fields #[.int lo t,.int hi u,.int 1 v] }).objs.size],_,_,H,rfl,
  I1.kept (t':=tk) fun b o e=>Heap.get?_push_of_some _ e,zjf_ _ lo (hi-lo).toNat,?_,fun b hb=>?_,q⟩
 ·have e1:lo+((0:Nat):Int)*1=lo:=by simp
  have e2:(((hi-lo).toNat:Nat):Int)-((0:Nat):Int)=Builtin.Range.rangeSize lo hi 1:=by rw [rangeSize_one]; split<;>omega
  show IsRangeIter _ _ (lo+((0:Nat):Int)*1) ((((hi-lo).toNat:Nat):Int)-((0:Nat):Int)) 1
  rw [e1,e2]
  exact Heap.get?_push_size _ rfl
 ·have e:b=(s.heap.push { cls:=.type "range",data:=.fields #[.int lo t,.int hi u,.int 1 v] }).objs.size:=by simpa using hb
  subst e
  exact I1.fpOk (Nat.le_refl _) (I1.hok.fresh (Nat.le_refl _))
def tFor (wi:TI)(g:TG)(tb:TS):TS:=fun D σ H=>wi σ H fun J H1=>∃ W:Nat->Nat->St->Hp->Prop,(∃ m,W 0 m σ H1)/\∀ i m σ H,W i m σ H ->
 (J.stop i H/\D.nx σ H)\/(J.go i H/\∃ N:St->Hp->Prop,(∀ au H',N au H'->∃ m',m'<m/\W (i+1) m' au H')/\∀ x H',J.yld i H x H'->g x σ H' fun eO H2=>tb { D with nx:=N,ct:=N,bk:=D.nx } eO H2)
def pinsAt (fp:List Addr)(h:Heap):Pnn:=fp.filterMap fun b=>(h.get? b).map fun o=>(b,o)
theorem zbk_ {fp:List Addr}{h:Heap}{b:Addr}{o:Obj}(hb:b∈fp)(e:h.get? b=some o):(b,o)∈pinsAt fp h:=List.mem_filterMap.mpr ⟨b,hb,by rw [e]; rfl⟩
theorem zlj_ {fp:List Addr}{h:Heap}{p:Addr×Obj}(hp:p∈pinsAt fp h):p.1∈fp/\h.get? p.1=some p.2:=by
 obtain ⟨b,hb,e⟩:=List.mem_filterMap.mp hp
 cases q:h.get? b with
 | none=>rw [q] at e; cases e
 | some o =>
  rw [q] at e
  have e':(b,o)=p:=Option.some.inj e
  subst e'
  exact ⟨hb,q⟩
theorem Inv.pinned {pins:Pnn}{σ:St}{H:Hp}{s:Shared}{fp:List Addr}(I:Inv X pins σ H s)(hf:∀ b∈fp,FpOk X pins H b)(ho:∀ b∈fp,∃ o,s.heap.get? b=some o/\∀ v,o.data≠.cell v):Inv X (pins++pinsAt fp s.heap) σ H s:=
 I.pins_of fun p hp=>(List.mem_append.mp hp).elim (fun z=>I.pin p (List.mem_append_right _ z)) fun z=>by
  obtain ⟨hb,e⟩:=zlj_ z
  obtain ⟨f0,f1,f2,_⟩:=hf p.1 hb
  obtain ⟨o,e',d⟩:=ho p.1 hb
  rw [e] at e'; cases e'
  exact ⟨e,f0,f1,f2,d⟩
theorem Inv.unpinned {pins pl:Pnn}{σ:St}{H:Hp}{s:Shared}(I:Inv X (pins++pl) σ H s):Inv X pins σ H s:=I.pins_of fun p hp=>I.pin p (List.mem_append_right _ (List.mem_append_left _ hp))
theorem zd7_ {iter:Expr}{body:List Stmt}{wi:TI}{g:TG}{tb:TS}{pos:Pos}(hp:PassesOwn (model X.prog X.w) X.A X.env X.xe)(hc:X.calm=true)(hi:PI X tg iter wi)(hg:PG X tg g)(hb:PSs X body tb)
  (hs:∀ x,foldedSetIterable iter X.env x=pure x:=by intro _; rfl):PS X (.For tg iter body [] pos) (tFor wi g tb):=by
 intro pins s σ H D I h
 refine wpAny_For (thn (hi pins s σ H _ I h) fun v s1 h1=>thn h1 fun jW s2 h2=>?_) hs
 obtain ⟨it,fp,tn,J,H2,e,I2,T,fT,f2,W,⟨m0,w0⟩,turn⟩:=h2
 subst e
 have bX:∀ {H':Hp},(∀ b∈fp,H' b=none)->∀ b∈fp,FpOk X pins H' b:=fun hn b hb=>⟨hn b hb,(f2 b hb).2⟩
 refine codeAny_forLoop_any (fun n s'=>∃ i au H',Inv X pins au H' s'/\tn i s'.heap/\(∀ b∈fp,H' b=none)/\W i n au H') ?_ m0 ⟨0,σ,H2,I2,fT,fun b hb=>(f2 b hb).1,w0⟩
 rintro n s3 ⟨i,bS,H3,I3,st3,fr3,w3⟩
 rcases turn i n bS H3 w3 with ⟨stop,qn⟩ | ⟨go,N,hN,step⟩
 ·refine wpAny_passesOwn hp (thn (T.done X rfl rfl rfl hc i pins s3 bS H3 X.xe I3 (bX fr3) st3 stop) fun r s4 ao=>?_)
  obtain ⟨hr,I4⟩:=ao
  subst hr
  exact wpAny_execs_nil ⟨bS,H3,I4,qn⟩
 ·refine wpAny_passesOwn hp (thn (T.item X rfl rfl rfl hc i pins s3 bS H3 X.xe I3 (bX fr3) st3 go) fun r s4 ao=>?_)
  obtain ⟨u,hr,h4⟩:=ao
  subst hr
  refine wpAny_passesOwn hp (thn h4 fun _ s5 ao=>?_)
  obtain ⟨x,H5,I5,r5,y5,dN,fr5⟩:=ao
  have jI:=I5.pinned (bX fr5) (T.obj _ _ dN)
  refine wpAny_passesOwn hp (thn (hg _ s5 bS H5 x u _ jI r5 (step x H5 y5)) fun _ s6 ao=>?_)
  obtain ⟨dX,H6,I6,q6⟩:=ao
  refine wpAny_passesOwn hp (thn (hb _ s6 dX H6 _ I6 q6) fun f s7 q7=>?_)
  have again:∀ {bR:St}{H7:Hp},Inv X (pins++pinsAt fp s5.heap) bR H7 s7->N bR H7->∃ m,m<n/\∃ i au H',Inv X pins au H' s7/\tn i s7.heap/\(∀ b∈fp,H' b=none)/\W i m au H':=fun {bR H7} I7 n7=>by
   obtain ⟨m',hm,w7⟩:=hN bR H7 n7
   refine ⟨m',hm,i+1,bR,H7,I7.unpinned,T.keep _ _ _ dN fun b hb o e=>(I7.pin (b,o) (List.mem_append_right _ (List.mem_append_right _ (zbk_ hb e)))).1,fun b hb=>?_,w7⟩
   obtain ⟨o,e,d⟩:=T.obj _ _ dN b hb
   exact (I7.pin (b,o) (List.mem_append_right _ (List.mem_append_right _ (zbk_ hb e)))).2.1
  cases f with
  | next=>obtain ⟨bR,H7,I7,n7⟩:=q7; exact again I7 n7
  | cont=>obtain ⟨bR,H7,I7,n7⟩:=q7; exact again I7 n7
  | brk=>obtain ⟨bR,H7,I7,q7⟩:=q7; exact ⟨bR,H7,I7.unpinned,q7⟩
  | ret v=>obtain ⟨x7,bR,H7,I7,r7,q7⟩:=q7; exact ⟨x7,bR,H7,I7.unpinned,r7,q7⟩
end
abbrev R2:=V->V->Hp->VK->Prop
def OpR (X:Cx)(f:Value->Value->Sem Value)(r:R2):Prop:=
 ∀ (pins:Pnn) (s:Shared) (σ:St) (H:Hp) (x y:V) (v u:Value) (Q:VK),Inv X pins σ H s->RelV x v->RelV y u->r x y H Q ->
  wpAny (model X.prog X.w) X.A (f v u) (EP X pins σ Q) X.xe s
def UnR (X:Cx)(f:Value->Sem Value)(r:V->Hp->VK->Prop):Prop:=
 ∀ (pins:Pnn) (s:Shared) (σ:St) (H:Hp) (x:V) (v:Value) (Q:VK),Inv X pins σ H s->RelV x v->r x H Q ->
  wpAny (model X.prog X.w) X.A (f v) (EP X pins σ Q) X.xe s
def CallR (X:Cx)(f:Value)(r:List V->Hp->VK->Prop):Prop:=
 ∀ (pins:Pnn) (s:Shared) (σ:St) (H:Hp) (xs:List V) (us:List Value) (Q:VK),Inv X pins σ H s->Vals xs us->r xs H Q ->
  wpAny (model X.prog X.w) X.A (call f us) (EP X pins σ Q) X.xe s
def tOp (r:R2)(ta tb:TE):TE:=fun σ H Q=>ta σ H fun x H1=>tb σ H1 fun y H2=>r x y H2 Q
def tUn (r:V->Hp->VK->Prop)(ta:TE):TE:=fun σ H Q=>ta σ H fun x H1=>r x H1 Q
def rI (C:Int->Int->Prop)(g:Int->Int->V):R2:=fun x y H Q=>∃ i j,x=.int i/\y=.int j/\C i j/\Q (g i j) H
def rI0 (g:Int->Int->V):R2:=fun x y H Q=>∃ i j,x=.int i/\y=.int j/\Q (g i j) H
def rU (g:Int->V):V->Hp->VK->Prop:=fun x H Q=>∃ i,x=.int i/\Q (g i) H
section
variable {X:Cx}{a b:Expr}{ta tb:TE}{pos:Pos}
theorem binT (ha:PE X a ta)(hb:PE X b tb){pins:Pnn}{s:Shared}{σ:St}{H:Hp}{R:V->V->Hp->Prop}(I:Inv X pins σ H s)
  (h:ta σ H fun x H1=>tb σ H1 fun y H2=>R x y H2) {Q:Value->Shared->Prop}{f:Value->Value->Sem Value}
  (hf:∀ v u s2 x y H2,Inv X pins σ H2 s2->RelV x v->RelV y u->R x y H2->wpAny (model X.prog X.w) X.A (f v u) Q X.xe s2):
  wpAny (model X.prog X.w) X.A (eval a X.env) (fun v av=>wpAny (model X.prog X.w) X.A (eval b X.env) (fun u bo=>wpAny (model X.prog X.w) X.A (f v u) Q X.xe bo) X.xe av) X.xe s:=by
 refine thn (ha pins s σ H _ I h) fun v s1 ao=>?_
 obtain ⟨x,H1,I1,r1,q1⟩:=ao
 refine thn (hb pins s1 σ H1 _ I1 q1) fun u s2 ao=>?_
 obtain ⟨y,H2,I2,r2,q2⟩:=ao
 exact hf v u s2 x y H2 I2 r1 r2 q2
theorem zan_ {op:Operator}{r:R2}(ho:OpR X (binaryOp op) r)(ha:PE X a ta)(hb:PE X b tb):PE X (.BinOp a op b pos) (tOp r ta tb):=by
 intro pins s σ H Q I h
 exact wpAny_BinOp (binT ha hb I h fun v u s2 x y H2 I2 rx ry q=>ho pins s2 σ H2 x y v u Q I2 rx ry q)
theorem opI {f:Value->Value->Sem Value}{C:Int->Int->Prop}{g:Int->Int->Int}
  (rule:∀ (i j:Int) (t u:Tok) (s:Shared) (Q:Value->Shared->Prop) (E:Value->Shared->Prop),C i j->Q (.int (g i j) s.toks) { s with toks:=s.toks+1 }->wpAny (model X.prog X.w) X.A (f (.int i t) (.int j u)) Q E s):
  OpR X f (rI C fun i j=>.int (g i j)):=by
 intro pins s σ H x y v u Q I rx ry h
 obtain ⟨i,j,rfl,rfl,hc,q⟩:=h
 obtain ⟨t,rfl⟩:=rx
 obtain ⟨t',rfl⟩:=ry
 exact rule i j t t' s _ _ hc ⟨.int (g i j),H,I.tok _,⟨_,rfl⟩,q⟩
theorem opI0 {f:Value->Value->Sem Value}{g:Int->Int->Int}
  (rule:∀ (i j:Int) (t u:Tok) (s:Shared) (Q:Value->Shared->Prop) (E:Value->Shared->Prop),Q (.int (g i j) s.toks) { s with toks:=s.toks+1 }->wpAny (model X.prog X.w) X.A (f (.int i t) (.int j u)) Q E s):
  OpR X f (rI0 fun i j=>.int (g i j)):=by
 intro pins s σ H x y v u Q I rx ry h
 obtain ⟨i,j,rfl,rfl,q⟩:=h
 obtain ⟨t,rfl⟩:=rx
 obtain ⟨t',rfl⟩:=ry
 exact rule i j t t' s _ _ ⟨.int (g i j),H,I.tok _,⟨_,rfl⟩,q⟩
theorem opB0 {f:Value->Value->Sem Value}{g:Int->Int->Bool}
  (rule:∀ (i j:Int) (t u:Tok) (s:Shared) (Q:Value->Shared->Prop) (E:Value->Shared->Prop),Q (.bool (g i j)) s->wpAny (model X.prog X.w) X.A (f (.int i t) (.int j u)) Q E s):
  OpR X f (rI0 fun i j=>.bl (g i j)):=by
 intro pins s σ H x y v u Q I rx ry h
 obtain ⟨i,j,rfl,rfl,q⟩:=h
 obtain ⟨t,rfl⟩:=rx
 obtain ⟨t',rfl⟩:=ry
 exact rule i j t t' s _ _ ⟨.bl (g i j),H,I,rfl,q⟩
def CDiv (i j:Int):Prop:=0<j/\j<1073741824
def CPow (i j:Int):Prop:=0<=j/\j<=1000000/\i.natAbs<2 ^ 64
def CMul (i j:Int):Prop:=(-(2 ^ 64)<i/\i<2 ^ 64)\/(-(2 ^ 64)<j/\j<2 ^ 64)
theorem CMul.ok {i j:Int}(h:CMul i j):IntMulOk i j:=by
 rcases h with ⟨h1,h2⟩ | ⟨h1,h2⟩
 ·exact .of_left (intBits_le_64 h1 h2)
 ·exact .of_right (intBits_le_64 h1 h2)
theorem zqM_:OpR X (binaryOp .Add) (rI0 fun i j=>.int (i+j)):=opI0 fun _ _ _ _ _ _ _ q=>add_int q
theorem zrm_:OpR X (binaryOp .Sub) (rI0 fun i j=>.int (i-j)):=opI0 fun _ _ _ _ _ _ _ q=>sub_int q
theorem zq1_:OpR X (binaryOp .Mod) (rI (fun _ j=>0<j) fun i j=>.int (i % j)):=opI fun i j _ _ _ _ _ hc q=>by
 have h1:(0:Int)<j:=hc
 exact mod_int' (by lia) (by rw [Int.fmod_eq_emod_of_nonneg i (by lia)]; exact q)
theorem unI {f:Value->Sem Value}{g:Int->Int}
  (rule:∀ (i:Int) (t:Tok) (s:Shared) (Q:Value->Shared->Prop) (E:Value->Shared->Prop),Q (.int (g i) s.toks) { s with toks:=s.toks+1 }->wpAny (model X.prog X.w) X.A (f (.int i t)) Q E s):
  UnR X f (rU fun i=>.int (g i)):=by
 intro pins s σ H x v Q I rx h
 obtain ⟨i,rfl,q⟩:=h
 obtain ⟨t,rfl⟩:=rx
 exact rule i t s _ _ ⟨.int (g i),H,I.tok _,⟨_,rfl⟩,q⟩
theorem zqs_:UnR X (unaryOp .USub) (rU fun i=>.int (-i)):=unI fun _ _ _ _ _ q=>neg_int q
end
def scal:V->V->Bool
 | .non,.non=>true | .non,.int _=>true | .int _,.non=>true | .non,.bl _=>true | .bl _,.non=>true | .non,.str _=>true | .str _,.non=>true
 | .int _,.int _=>true | .bl _,.bl _=>true | .str _,.str _=>true | .byt _,.byt _=>true
 | .int _,.str _=>true | .str _,.int _=>true | .bl _,.str _=>true | .str _,.bl _=>true
 | _,_=>false
def rEq:R2:=fun x y H Q=>scal x y=true/\Q (.bl (decide (x=y))) H
def rNe:R2:=fun x y H Q=>scal x y=true/\Q (.bl (!decide (x=y))) H
theorem zmr_ {i j:Int}:decide (V.int i=V.int j)=(i == j):=by
 rw [Bool.eq_iff_iff]
 simp
theorem zo8_ {i j:Bool}:decide (V.bl i=V.bl j)=(i == j):=by
 rw [Bool.eq_iff_iff]
 simp
theorem zl9_ {i j:Str}:decide (V.str i=V.str j)=(i == j):=by
 rw [Bool.eq_iff_iff]
 simp
theorem zl0_ {i j:Array UInt8}:decide (V.byt i=V.byt j)=(i.toList == j.toList):=by
 rw [Bool.eq_iff_iff]
 cases i
 cases j
 simp
section
variable {X:Cx}{a b:Expr}{ta tb:TE}{pos:Pos}
theorem z7_ {pins:Pnn}{σ:St}{H:Hp}{s:Shared}{Q:VK}{k k':Bool}(I:Inv X pins σ H s)(q:Q (.bl k) H)(e:k=k'):EP X pins σ Q (.bool k') s:=by
 subst e
 exact ⟨.bl k,H,I,rfl,q⟩
theorem op_eq:OpR X (compareOp .Eq) rEq:=by
 intro pins s σ H x y v u Q I rx ry h
 obtain ⟨hs,q⟩:=h
 cases x with
 | non =>
  cases rx
  cases y with
  | non=>cases ry; exact PySem.EqNone.eq_none_none (z7_ I q (by simp))
  | bl j=>cases ry; exact PySem.EqNone.eq_none_bool (z7_ I q (by simp))
  | int j=>obtain ⟨t',rfl⟩:=ry; exact PySem.EqNone.eq_none_int (z7_ I q (by simp))
  | str j=>obtain ⟨t',rfl⟩:=ry; exact PySem.EqNone.eq_none_str (z7_ I q (by simp))
  | _=>exact absurd (show false=true from hs) Bool.false_ne_true
 | bl i =>
  cases rx
  cases y with
  | non=>cases ry; exact PySem.EqNone.eq_bool_none (z7_ I q (by simp))
  | bl j=>cases ry; exact eq_bool (z7_ I q zo8_)
  | str j=>obtain ⟨t',rfl⟩:=ry; exact PySem.EqMixed.eq_bool_str (z7_ I q (by simp))
  | _=>exact absurd (show false=true from hs) Bool.false_ne_true
 | int i =>
  obtain ⟨t,rfl⟩:=rx
  cases y with
  | non=>cases ry; exact PySem.EqNone.eq_int_none (z7_ I q (by simp))
  | int j=>obtain ⟨t',rfl⟩:=ry; exact eq_int (z7_ I q zmr_)
  | str j=>obtain ⟨t',rfl⟩:=ry; exact PySem.EqMixed.eq_int_str (z7_ I q (by simp))
  | _=>exact absurd (show false=true from hs) Bool.false_ne_true
 | str i =>
  obtain ⟨t,rfl⟩:=rx
  cases y with
  | non=>cases ry; exact PySem.EqNone.eq_str_none (z7_ I q (by simp))
  | bl j=>cases ry; exact PySem.EqMixed.eq_str_bool (z7_ I q (by simp))
  | int j=>obtain ⟨t',rfl⟩:=ry; exact PySem.EqMixed.eq_str_int (z7_ I q (by simp))
  | str j=>obtain ⟨t',rfl⟩:=ry; exact eq_str (z7_ I q zl9_)
  | _=>exact absurd (show false=true from hs) Bool.false_ne_true
 | byt i =>
  obtain ⟨t,rfl⟩:=rx
  cases y with
  | byt j=>obtain ⟨t',rfl⟩:=ry; exact W.eq_bytes (z7_ I q zl0_)
  | _=>exact absurd (show false=true from hs) Bool.false_ne_true
 | _=>cases y<;>exact absurd (show false=true from hs) Bool.false_ne_true
theorem op_ne:OpR X (compareOp .NotEq) rNe:=by
 intro pins s σ H x y v u Q I rx ry h
 obtain ⟨hs,q⟩:=h
 cases x with
 | non =>
  cases rx
  cases y with
  | non=>cases ry; exact PySem.EqNone.ne_none_none (z7_ I q (by simp))
  | bl j=>cases ry; exact PySem.EqNone.ne_none_bool (z7_ I q (by simp))
  | int j=>obtain ⟨t',rfl⟩:=ry; exact PySem.EqNone.ne_none_int (z7_ I q (by simp))
  | str j=>obtain ⟨t',rfl⟩:=ry; exact PySem.EqNone.ne_none_str (z7_ I q (by simp))
  | _=>exact absurd (show false=true from hs) Bool.false_ne_true
 | bl i =>
  cases rx
  cases y with
  | non=>cases ry; exact PySem.EqNone.ne_bool_none (z7_ I q (by simp))
  | bl j=>cases ry; exact ne_bool (z7_ I q (congrArg not zo8_))
  | str j=>obtain ⟨t',rfl⟩:=ry; exact PySem.EqMixed.ne_bool_str (z7_ I q (by simp))
  | _=>exact absurd (show false=true from hs) Bool.false_ne_true
 | int i =>
  obtain ⟨t,rfl⟩:=rx
  cases y with
  | non=>cases ry; exact PySem.EqNone.ne_int_none (z7_ I q (by simp))
  | int j=>obtain ⟨t',rfl⟩:=ry; exact ne_int (z7_ I q (congrArg not zmr_))
  | str j=>obtain ⟨t',rfl⟩:=ry; exact PySem.EqMixed.ne_int_str (z7_ I q (by simp))
  | _=>exact absurd (show false=true from hs) Bool.false_ne_true
 | str i =>
  obtain ⟨t,rfl⟩:=rx
  cases y with
  | non=>cases ry; exact PySem.EqNone.ne_str_none (z7_ I q (by simp))
  | bl j=>cases ry; exact PySem.EqMixed.ne_str_bool (z7_ I q (by simp))
  | int j=>obtain ⟨t',rfl⟩:=ry; exact PySem.EqMixed.ne_str_int (z7_ I q (by simp))
  | str j=>obtain ⟨t',rfl⟩:=ry; exact ne_str (z7_ I q (congrArg not zl9_))
  | _=>exact absurd (show false=true from hs) Bool.false_ne_true
 | byt i =>
  obtain ⟨t,rfl⟩:=rx
  cases y with
  | byt j=>obtain ⟨t',rfl⟩:=ry; exact W.ne_bytes (z7_ I q (congrArg not zl0_))
  | _=>exact absurd (show false=true from hs) Bool.false_ne_true
 | _=>cases y<;>exact absurd (show false=true from hs) Bool.false_ne_true
theorem op_lt:OpR X (compareOp .Lt) (rI0 fun i j=>.bl (decide (i<j))):=opB0 fun _ _ _ _ _ _ _ q=>lt_int q
theorem op_gt:OpR X (compareOp .Gt) (rI0 fun i j=>.bl (decide (j<i))):=opB0 fun _ _ _ _ _ _ _ q=>gt_int q
theorem zlC_:OpR X (compareOp .Lt) (fun x y H Q=>∃ i j,x=.str i/\y=.str j/\Q (.bl (decide (i.cps.toList<j.cps.toList))) H):=by
 intro pins s σ H x y v u Q I rx ry h
 obtain ⟨i,j,rfl,rfl,q⟩:=h
 obtain ⟨t,rfl⟩:=rx
 obtain ⟨t',rfl⟩:=ry
 exact lt_str (z7_ I q rfl)
theorem zk0_:OpR X (compareOp .In) (fun x y H Q=>∃ i j,x=.str i/\y=.str j/\Q (.bl (!(Builtin.Str.occurrences j i 0 j.length 1).isEmpty)) H):=by
 intro pins s σ H x y v u Q I rx ry h
 obtain ⟨i,j,rfl,rfl,q⟩:=h
 obtain ⟨t,rfl⟩:=rx
 obtain ⟨t',rfl⟩:=ry
 exact in_str (z7_ I q rfl)
theorem zre_:OpR X (compareOp .Is) (fun x y H Q=>y=.non/\Q (.bl (decide (x=.non))) H):=by
 intro pins s σ H x y v u Q I rx ry h
 obtain ⟨rfl,q⟩:=h
 cases ry
 refine is_none_gen (z7_ I q ?_)
 cases x<;>first
  | (cases rx; rfl)
  | (obtain ⟨t,rfl⟩:=rx; rfl)
theorem zpa_:OpR X (compareOp .IsNot) (fun x y H Q=>y=.non/\Q (.bl (!decide (x=.non))) H):=by
 intro pins s σ H x y v u Q I rx ry h
 obtain ⟨rfl,q⟩:=h
 cases ry
 refine isnot_none_gen (z7_ I q ?_)
 cases x<;>first
  | (cases rx; rfl)
  | (obtain ⟨t,rfl⟩:=rx; rfl)
theorem zqe_ {op:CmpOp}{r:R2}(ho:OpR X (compareOp op) r)(ha:PE X a ta)(hb:PE X b tb)(hm:behindInMarks op b=false):PE X (.Compare a [op] [b] pos) (tOp r ta tb):=by
 intro pins s σ H Q I h
 exact wpAny_Compare1 (binT ha hb I h fun v u s2 x y H2 I2 rx ry q=>ho pins s2 σ H2 x y v u Q I2 rx ry q) hm
theorem line63:(sizeLine:Nat)<2 ^ 63:=by rw [sizeLine_eq]; decide
theorem zi7_:OpR X (binaryOp .Add) (fun x y H Q=>∃ i j,x=.str i/\y=.str j/\i.length+j.length<=sizeLine/\Q (.str (i++j)) H):=by
 intro pins s σ H x y v u Q I rx ry h
 obtain ⟨i,j,rfl,rfl,hz,q⟩:=h
 obtain ⟨t,rfl⟩:=rx
 obtain ⟨t',rfl⟩:=ry
 exact add_str (fun t' tk=>⟨.str (i++j),H,I.tok _,⟨_,rfl⟩,q⟩) hz
theorem vals1 {x:V}{us:List Value}(r:Vals [x] us):∃ u,us=[u]/\RelV x u:=by
 cases r with
 | cons r1 r2=>cases r2; exact ⟨_,rfl,r1⟩
theorem vals2 {x y:V}{us:List Value}(r:Vals [x,y] us):∃ u w',us=[u,w']/\RelV x u/\RelV y w':=by
 cases r with
 | cons r1 r2 =>
  cases r2 with
  | cons r3 r4=>cases r4; exact ⟨_,_,rfl,r1,r3⟩
theorem zln_ (hc:X.calm=true):CallR X (.builtin "max") (fun xs H Q=>∃ i j,xs=[.int i,.int j]/\Q (.int (if j > i then j else i)) H):=by
 intro pins s σ H xs us Q I r h
 obtain ⟨i,j,rfl,q⟩:=h
 obtain ⟨u,w',rfl,⟨t,rfl⟩,⟨t',rfl⟩⟩:=vals2 r
 refine max_two_ints (I.ok.hd hc) fun h' tk k=>⟨_,H,I.kept k,?_,q⟩
 by_cases hj:j > i
 ·rw [if_pos hj,if_pos hj]; exact ⟨_,rfl⟩
 ·rw [if_neg hj,if_neg hj]; exact ⟨_,rfl⟩
theorem zgO_:CallR X (.type "str") (fun xs H Q=>∃ i,xs=[.int i]/\i.natAbs.log2<1920/\Q (.str (toString i)) H):=by
 intro pins s σ H xs us Q I r h
 obtain ⟨i,rfl,hz,q⟩:=h
 obtain ⟨u,rfl,t,rfl⟩:=vals1 r
 exact PySem.P.str_of_int hz ⟨.str _,H,I.tok _,⟨_,rfl⟩,q⟩
end
structure ObjM (h:Heap)(x dx C:Addr)(mA:Str->Option Value):Prop where
 obj:h.get? x=some (W.instObj C dx)
 ns:h.Ns1 dx mA
 ne:dx≠x
theorem zkI_ {h:Heap}{dx:Addr}{mA:Str->Option Value}(n:h.Ns1 dx mA):∃ od,h.get? dx=some od/\∀ name,W.lookIn name od=some (mA name):=by
 obtain ⟨o,es,ep,ho,hd,hk,_,hm⟩:=n
 refine ⟨o,ho,fun name=>?_⟩
 have e:=hm name
 unfold nsFind findBy at e
 rw [<- Array.find?_toList] at e
 unfold W.lookIn
 rw [hd]
 dsimp only
 split
 ·rename_i y q
  rw [q] at e
  exact congrArg some e
 ·rename_i q
  rw [q] at e
  have a:es.toList.any (·.refKey)=false:=by
   rw [List.any_eq_false]
   intro y hy
   obtain ⟨z,t,hkey⟩:=hk y (Array.mem_toList_iff.mp hy)
   simp [DictEntry.refKey,hkey]
  have a':¬ es.toList.any (·.refKey)=true:=by rw [a]; exact Bool.false_ne_true
  rw [if_neg a']
  exact congrArg some e
theorem ObjM.look {h:Heap}{x dx C:Addr}{mA:Str->Option Value}(I:ObjM h x dx C mA):∃ od,W.InstAt h x (W.instObj C dx) C (some od)/\∀ name,W.lookIn name od=some (mA name):=
 let ⟨od,ho,hl⟩:=zkI_ I.ns
 ⟨od,⟨I.obj,rfl,rfl,ho⟩,hl⟩
section
variable {prog:Program}{w:World}{A:Around}{E:Value->Shared->Prop}{s:Shared}{K:Fgg}{x dx C f:Addr}{mA:Str->Option Value}{name:Str}{v:Value}
theorem zo2_ {expr:Bool}{Q:Value->Shared->Prop}(X:K.In s.heap)(I:ObjM s.heap x dx C mA)(hg:W.plainGet K C name=true)(hh:W.hasDictIn K C=true)
  (ha:W.findIn K (.ref C) name=some none) (hv:mA name=some v) (eV:W.handedIn v=true) (h:Q v { s with toks:=s.toks+1 }):
  wpAny (model prog w) A (getAttr (.ref x) name expr) Q E s:=by
 obtain ⟨od,J,hl⟩:=I.look
 exact W.get_value X J (W.plainGet_of hg).1 (W.findObj_own hh ha rfl (by rw [hl,hv])) eV h
theorem zoc_ {pl:Sem Bool}{Q:Value×List Value->Shared->Prop}(X:K.In s.heap)(I:ObjM s.heap x dx C mA)(hg:W.plainGet K C name=true)
  (hf:W.findIn K (.ref C) name=some (some (.ref f))) (ht:W.isFn K (.ref f)=true) (hv:mA name=none) (h:Q (.ref f,[.ref x]) s):
  wpAny (model prog w) A (getMethod (.ref x) name pl) Q E s:=by
 obtain ⟨od,J,hl⟩:=I.look
 exact W.method_fn X J (W.plainGet_of hg).1 (W.plainGet_of hg).2 hf (beq_iff_eq.mp ht) (by show (W.lookIn name od).map (·.isSome)=some false; rw [hl,hv]; rfl) h
theorem zoo_ {ns:List Str}{Q:Unit->Shared->Prop}(X:K.In s.heap)(I:ObjM s.heap x dx C mA)
  (hs:W.findIn K (.ref C) "__setattr__"=some (some (.builtin "object.__setattr__"))) (hp:W.plainOver K C=true) (ht:W.takerIn K C name=some none) (hh:W.hasDictIn K C=true)
  (hw:PySem.Within mA ns) (hsz:ns.length<=sizeLine)
  (h:∀ h',ObjM h' x dx C (fun y=>if y=name then some v else mA y)->Heap.SameBut dx s.heap h'->Q () { s with heap:=h',toks:=s.toks+2 }):
  wpAny (model prog w) A (setAttr (.ref x) name v) Q E s:=by
 obtain ⟨od,J,hl⟩:=I.look
 refine W.set_plain X J hs (W.osa_open (s:={ s with toks:=s.toks+1 }) (r:=none) X J hp ht fun b=>?_)
 obtain ⟨cd,hc,hd'⟩:=W.any_some hh
 have hx:s.heap.get? x=some ⟨.ref C,some dx,.plain,#[]⟩:=I.obj
 refine wpAny_bind (wpAny_pure (wpAny_bind (wpAny_bind (wpAny_loadPart hx (wpAny_bind (W.Looks.here (s:={ s with toks:=s.toks+1 }) (W.looks_clsIn X hc) ?_))))))
 rw [hd']
 refine wpAny_pure (a:=some dx) (wpAny_bind (wpAny_pure (wpAny_bind ?_)))
 refine wpAny_nsSet1 (s:={ s with toks:=s.toks+1 }) I.ns fun h' hJ bP=>?_
 obtain ⟨oD,esD,epD,hoD,hdD,hcD⟩:=hJ.count (PySem.Within.cons name v hw)
 refine wpAny_bind (wpAny_lookBehind hoD (by rw [hdD]; exact pastItsLine_dict (Nat.le_trans hcD (by rw [List.length_cons]; lia))) ?_)
 exact wpAny_pure (h _ ⟨(bP.2 _ (Ne.symm I.ne)).trans I.obj,hJ,I.ne⟩ bP)
theorem zoa_ {R:Result->Shared->Prop}{vs:List Value}{kw:List (Str×Value)}(X:K.In s.heap)(hm:W.makesIn K C=true)
  (hi:W.findIn K (.ref C) "__init__"=some (some (.ref f))) (hf:W.typeIn K (.ref f)=some (.type "function"))
  (h:codeAny (model prog w) (A.under (.builtin "type.__call__" ⟨.ref C::vs,kw⟩)) (.call (.ref f) ⟨.ref (s.heap.objs.size+1)::vs,kw⟩) (W.InitBack (s.heap.objs.size+1) R)
   { s with heap:=(s.heap.push W.emptyDict).push (W.instObj C s.heap.objs.size) }):
  codeAny (model prog w) A (.call (.ref C) ⟨vs,kw⟩) R s:=by
 obtain ⟨hh,g,d,t,os⟩:=s
 exact W.make_core (W.makes_of X hm) (W.looks_findIn X hi) (fun self=>W.bind_fn X self hf) (.inl rfl) h
end
def putF (f:Str)(v:V):List (Str×V)->List (Str×V)
 | []=>[(f,v)]
 | (g,x)::r=>if g=f then (g,v)::r else (g,x)::putF f v r
theorem zdd_ (f g:Str)(v:V):∀ fs:List (Str×V),(putF f v fs).lookup g=if g=f then some v else fs.lookup g
 | []=>by
  show List.lookup g [(f,v)]=_
  by_cases h:g=f
  ·have hb:(g == f)=true:=beq_iff_eq.mpr h
   simp only [List.lookup,hb,if_pos h]
  ·have hb:(g == f)=false:=beq_eq_false_iff_ne.mpr h
   simp only [List.lookup,hb,if_neg h]
 | (k,x)::r=>by
  have ih:=zdd_ f g v r
  rw [show putF f v ((k,x)::r)=(if k=f then (k,v)::r else (k,x)::putF f v r) from rfl]
  by_cases hk:k=f
  ·rw [if_pos hk]
   by_cases h:g=k
   ·have hb:(g == k)=true:=beq_iff_eq.mpr h
    simp only [List.lookup,hb,if_pos (h.trans hk)]
   ·have hb:(g == k)=false:=beq_eq_false_iff_ne.mpr h
    simp only [List.lookup,hb,if_neg (fun e:g=f=>h (e.trans hk.symm))]
  ·rw [if_neg hk]
   by_cases h:g=k
   ·have hb:(g == k)=true:=beq_iff_eq.mpr h
    simp only [List.lookup,hb,if_neg (fun e:g=f=>hk (h.symm.trans e))]
   ·have hb:(g == k)=false:=beq_eq_false_iff_ne.mpr h
    simp only [List.lookup,hb]
    exact ih
theorem zcG_ (f:Str)(v:V):∀ fs:List (Str×V),f∈(putF f v fs).map (·.1)/\∀ g,g∈fs.map (·.1)->g∈(putF f v fs).map (·.1)
 | []=>⟨by simp [putF],fun g h=>by simp at h⟩
 | (k,x)::r=>by
  obtain ⟨i1,i2⟩:=zcG_ f v r
  rw [show putF f v ((k,x)::r)=(if k=f then (k,v)::r else (k,x)::putF f v r) from rfl]
  by_cases hk:k=f
  ·rw [if_pos hk]
   subst hk
   exact ⟨by simp,fun g h=>by simpa using h⟩
  ·rw [if_neg hk]
   refine ⟨?_,fun g h=>?_⟩
   ·rw [List.map_cons]
    exact List.mem_cons_of_mem _ i1
   ·rw [List.map_cons] at h ⊢
    rcases List.mem_cons.mp h with e | e
    ·exact List.mem_cons.mpr (.inl e)
    ·exact List.mem_cons_of_mem _ (i2 g e)
theorem zeG_ (f:Str)(v:V):∀ fs:List (Str×V),(putF f v fs).length<=fs.length+1
 | []=>by simp [putF]
 | (k,x)::r=>by
  have ih:=zeG_ f v r
  rw [show putF f v ((k,x)::r)=(if k=f then (k,v)::r else (k,x)::putF f v r) from rfl]
  by_cases hk:k=f
  ·rw [if_pos hk,List.length_cons,List.length_cons]; lia
  ·rw [if_neg hk,List.length_cons,List.length_cons]; lia
theorem RelO.some_of {v:V}{o:Option Value}(r:RelO (some v) o):∃ u,o=some u/\RelV v u:=by
 cases o with
 | none=>exact (show False from r).elim
 | some u=>exact ⟨u,rfl,r⟩
theorem RelO.none_of {o:Option Value}(r:RelO none o):o=none:=by
 cases o with
 | none=>rfl
 | some u=>exact (show False from r).elim
theorem zhG_ {v:V}{u:Value}(r:RelV v u):W.handedIn u=true:=by
 cases v with
 | non=>cases (show u=Value.none from r); rfl
 | bl b=>cases (show u=Value.bool b from r); rfl
 | int i=>obtain ⟨t,e⟩:=(show ∃ t,u=Value.int i t from r); cases e; rfl
 | str x=>obtain ⟨t,e⟩:=(show ∃ t,u=Value.str x t from r); cases e; rfl
 | byt b=>obtain ⟨t,e⟩:=(show ∃ t,u=Value.bytes b t from r); cases e; rfl
 | flt b=>obtain ⟨t,e⟩:=(show ∃ t,u=Value.float b t from r); cases e; rfl
 | ref a=>cases (show u=Value.ref a from r); rfl
 | ty n=>cases (show u=Value.type n from r); rfl
section
variable {P:Program}{w:World}{H:Hp}{h:Heap}{a C dx:Addr}{fs:List (Str×V)}
theorem zhz_ (hok:HOk P w H h)(e:H a=some (.ins C dx fs)):∃ mA,ObjM h a dx C mA/\(∀ f,RelO (fs.lookup f) (mA f))/\PySem.Within mA (fs.map (·.1))/\fs.length<=1000/\H dx=some (.own a):=by
 obtain ⟨d,z,ne,ob,mA,n,r,q⟩:=(show ObjOk P w H h a (.ins C dx fs) from hok a _ e)
 exact ⟨mA,⟨ob,n,ne⟩,r,q,z,d⟩
end
structure Cls (K:Fgg)(C:Addr):Prop where
 pg:W.plainGet K C Str.empty=true
 hd:W.hasDictIn K C=true
 po:W.plainOver K C=true
 sa:W.findIn K (.ref C) "__setattr__"=some (some (.builtin "object.__setattr__"))
theorem Cls.get {K:Fgg}{C:Addr}(c:Cls K C)(f:Str):W.plainGet K C f=true:=c.pg
def NoAttr (K:Fgg)(C:Addr)(f:Str):Prop:=W.findIn K (.ref C) f=some none
theorem NoAttr.taker {K:Fgg}{C:Addr}{f:Str}(n:NoAttr K C f):W.takerIn K C f=some none:=by
 unfold W.takerIn
 rw [show W.findIn K (.ref C) f=some none from n]
 rfl
structure Meth (K:Fgg)(C:Addr)(m:Str)(f:Addr):Prop where
 at_:W.findIn K (.ref C) m=some (some (.ref f))
 fn:W.isFn K (.ref f)=true
 kp:W.keepIn K (.ref f)=true
section
variable {X:Cx}{pins:Pnn}{σ:St}{H:Hp}{s:Shared}{a C dx:Addr}{fs:List (Str×V)}{f:Str}{v:V}{A:Around}{E:Value->Shared->Prop}
theorem zku_ {b:Bool}{Q:Value->Shared->Prop}(I:Inv X pins σ H s)(e:H a=some (.ins C dx fs))(c:Cls X.K C)(n:NoAttr X.K C f)(l:fs.lookup f=some v)
  (h:∀ u s',Inv X pins σ H s'->RelV v u->Q u s'):wpAny (model X.prog X.w) A (getAttr (.ref a) f b) Q E s:=by
 obtain ⟨mA,O,r,_,_,_⟩:=zhz_ I.hok e
 obtain ⟨u,hu,ru⟩:=RelO.some_of (v:=v) (o:=mA f) (by rw [<- l]; exact r f)
 exact zo2_ I.kIn O (c.get f) c.hd n hu (zhG_ ru) (h u _ (I.tok _) ru)
theorem zcH_ {m:Str}{g:Addr}{pl:Sem Bool}{Q:Value×List Value->Shared->Prop}(I:Inv X pins σ H s)(e:H a=some (.ins C dx fs))(c:Cls X.K C)(k:Meth X.K C m g)(l:fs.lookup m=none)
  (h:Q (.ref g,[.ref a]) s):wpAny (model X.prog X.w) A (getMethod (.ref a) m pl) Q E s:=by
 obtain ⟨mA,O,r,_,_,_⟩:=zhz_ I.hok e
 have hn:mA m=none:=RelO.none_of (by rw [<- l]; exact r m)
 exact zoc_ I.kIn O (c.get m) k.at_ k.fn hn h
theorem zjM_ {y:V}{u:Value}{Q:Unit->Shared->Prop}(I:Inv X pins σ H s)(e:H a=some (.ins C dx fs))(c:Cls X.K C)(n:NoAttr X.K C f)(hl:fs.length<1000)(ry:RelV y u)
  (h:∀ s',Inv X pins σ (upd H a (.ins C dx (putF f y fs))) s'->Q () s'):wpAny (model X.prog X.w) A (setAttr (.ref a) f u) Q E s:=by
 obtain ⟨mA,O,r,wi,_,ho⟩:=zhz_ I.hok e
 have hz:(fs.map (·.1)).length<=sizeLine:=by rw [List.length_map,sizeLine_eq]; lia
 refine zoo_ I.kIn O c.sa c.po n.taker c.hd wi hz fun h' O' sb=>h _ ?_
 have hd:∃ o,h'.get? dx=some o:=let ⟨o,_,_,e',_⟩:=O'.ns; ⟨o,e'⟩
 refine I.write (x:=a) (e:=dx) (by rw [e]; exact True.intro) (.inr ho) (fun b q hb z=>(sb.2 b hb).trans z) hd ?_
 refine ⟨by rw [zI_ O.ne]; exact ho,?_,O.ne,O'.obj,_,O'.ns,fun g=>?_,fun g hg=>?_⟩
 ·have:=zeG_ f y fs; lia
 ·show RelO ((putF f y fs).lookup g) (if g=f then some u else mA g)
  rw [zdd_]
  by_cases q:g=f
  ·rw [if_pos q,if_pos q]; exact ry
  ·rw [if_neg q,if_neg q]; exact r g
 ·by_cases q:g=f
  ·rw [q]; exact (zcG_ f y fs).1
  ·refine (zcG_ f y fs).2 g (wi g fun z=>hg ?_)
   show (if g=f then some u else mA g)=none
   rw [if_neg q]; exact z
theorem Inv.made (I:Inv X pins σ H s):Inv X pins σ (upd (upd H s.heap.objs.size (.own (s.heap.objs.size+1))) (s.heap.objs.size+1) (.ins C s.heap.objs.size []))
  { s with heap:=(s.heap.push W.emptyDict).push (W.instObj C s.heap.objs.size) }:=by
 have e1:(s.heap.push W.emptyDict).get? s.heap.objs.size=some W.emptyDict:=Heap.get?_push_size s.heap rfl
 have e2:((s.heap.push W.emptyDict).push (W.instObj C s.heap.objs.size)).get? (s.heap.objs.size+1)=some (W.instObj C s.heap.objs.size):=by
  have:=Heap.get?_push_size (s.heap.push W.emptyDict) (o:=W.instObj C s.heap.objs.size) rfl
  rwa [Heap.size_push] at this
 have e3:(s.heap.push W.emptyDict).Ns s.heap.objs.size (fun _=>none):=⟨W.emptyDict,#[],_,e1,rfl,(fun e he=>absurd he (by simp)),fun _=>rfl⟩
 have I1:=I.laid (a:=s.heap.objs.size) (o:=.own (s.heap.objs.size+1)) (h':=s.heap.push W.emptyDict) (t':=s.toks) (fun b u q=>Heap.get?_push_of_some _ q) (Nat.le_refl _) ⟨_,e1⟩
 refine I1.laid (a:=s.heap.objs.size+1) (o:=.ins C s.heap.objs.size []) (t':=s.toks) (fun b u q=>Heap.get?_push_of_some _ q) (Nat.le_of_eq (Heap.size_push _ _)) ?_
 have ne:s.heap.objs.size≠s.heap.objs.size+1:=Nat.ne_of_lt (Nat.lt_succ_self _)
 refine ⟨by rw [zI_ ne,zx_],Nat.zero_le _,ne,e2,fun _=>none,(Heap.Ns1.of_empty e3).at fun o q=>Heap.get?_push_of_some _ q,fun _=>True.intro,fun y hy=>absurd rfl hy⟩
theorem zmt_ {prog:Program}{w:World}{env:Env}{e:Expr}{f:Str}{pos:Pos}{s:Shared}{Q:Value->Shared->Prop}(hb:attributeBase e f env (eval e env)=eval e env)
  (h:wpAny (model prog w) A (eval e env) (fun o av=>wpAny (model prog w) A (getAttr o f true) Q E av) E s):wpAny (model prog w) A (eval (.Attribute e f pos) env) Q E s:=
 Attribute_any_ h (by rw [arm_eval_Attribute,hb])
end
section
variable {X:Cx}{e:Expr}{f:Str}{pos:Pos}
theorem zok_ {pl:Sem Bool}{m:Str}{apos:Pos}{args:List Expr}{pins:Pnn}{s:Shared}{σ:St}{H:Hp}{Q:Value->Shared->Prop}{te:TE}(he:PE X e te)(I:Inv X pins σ H s)
  (h:te σ H fun x H1=>∃ a C dx fs g,x=.ref a/\H1 a=some (.ins C dx fs)/\Cls X.K C/\Meth X.K C m g/\fs.lookup m=none /\
   ∀ s1,Inv X pins σ H1 s1->wpAny (model X.prog X.w) X.A (callWith pos (.ref g) [.ref a] (backTo pos (starEach args X.env)) (backToKw pos (keywordEach [] X.env))) Q X.xe s1)
  (ht:eval (.Call (.Attribute e m apos) args [] pos) X.env=(do
   let ov <- eval e X.env
   standAt apos.atName
   let (f,first) <- holding [ov] (getMethod ov m pl)
   callWith pos f first (backTo pos (starEach args X.env)) (backToKw pos (keywordEach [] X.env)))):
  wpAny (model X.prog X.w) X.A (eval (.Call (.Attribute e m apos) args [] pos) X.env) Q X.xe s:=by
 refine W.methodCall_KW (pl:=pl) (thn (he pins s σ H _ I h) fun u s1 ao=>?_) ht
 obtain ⟨x,H1,I1,rx,a,C,dx,fs,g,ex,ea,c,k,l,q⟩:=ao
 subst ex
 obtain rfl:u=Value.ref a:=rx
 exact zcH_ I1 ea c k l (q s1 I1)
end
section
variable {X:Cx}{pins:Pnn}{σ:St}{H:Hp}{s:Shared}{A:Around}{E Q:Value->Shared->Prop}{c:Value}{b:Bool}
inductive TyOf (K:Fgg) (H:Hp):V->Value->Prop where
 | non:TyOf K H .non (.type "NoneType")
 | bl (x:Bool):TyOf K H (.bl x) (.type "bool")
 | int (i:Int):TyOf K H (.int i) (.type "int")
 | str (x:Str):TyOf K H (.str x) (.type "str")
 | flt (x:UInt64):TyOf K H (.flt x) (.type "float")
 | lst {a:Addr}{xs:List V}(e:H a=some (.lst xs)):TyOf K H (.ref a) (.type "list")
 | frz {a:Addr}{o:Obj}{xs:List V}(e:H a=some (.frz o (.lst xs))):TyOf K H (.ref a) (.type "list")
 | tup {a:Addr}{xs:List V}(e:H a=some (.tup xs)):TyOf K H (.ref a) (.type "tuple")
 | dK {a:Addr}{aa:List (Key×V)}(e:H a=some (.dK aa)):TyOf K H (.ref a) (.type "dict")
 | dT {a:Addr}{aa:List (List Key×V)}(e:H a=some (.dT aa)):TyOf K H (.ref a) (.type "dict")
 | ins {a C dx:Addr}{fs:List (Str×V)}(e:H a=some (.ins C dx fs)) (cl:Cls K C) (ha:W.findIn K (.ref C) "__class__"=some (some (.builtin "object.__class__")))
   (hn:W.specialIn K (.builtin "object.__class__") "__get__"=some (some (.builtin "getset_descriptor.__get__"))) (eW:W.takesIn K (.builtin "object.__class__")=some true)
   (hm:W.mroIn K C (.type "object")=some true):TyOf K H (.ref a) (.ref C)
theorem zhw_ {x:V}{u t:Value}(I:Inv X pins σ H s)(rx:RelV x u)(ty:TyOf X.K H x t)(e:W.kitOne X.K t c=some b)(h:∀ tk,Q (.bool b) { s with toks:=tk }):
  wpAny (model X.prog X.w) A (call (.builtin "isinstance") [u,c]) Q E s:=by
 cases ty with
 | non=>cases (show u=Value.none from rx); exact W.kia_one W.kitx_none I.kIn True.intro e (fun z=>nomatch z) h
 | bl y=>cases (show u=Value.bool y from rx); exact W.kia_one W.kitx_bool I.kIn True.intro e (fun z=>nomatch z) h
 | int i=>obtain ⟨t,q⟩:=(show ∃ t,u=Value.int i t from rx); cases q; exact W.kia_one W.kitx_int I.kIn True.intro e (fun z=>nomatch z) h
 | str y=>obtain ⟨t,q⟩:=(show ∃ t,u=Value.str y t from rx); cases q; exact W.kia_one W.kitx_str I.kIn True.intro e (fun z=>nomatch z) h
 | flt y=>obtain ⟨t,q⟩:=(show ∃ t,u=Value.float y t from rx); cases q; exact W.kia_one W.kitx_float I.kIn True.intro e (fun z=>nomatch z) h
 | @lst a xs ea =>
  cases (show u=Value.ref a from rx)
  obtain ⟨_,_,n,_,h1⟩:=(show ObjOk X.prog X.w H s.heap a (.lst xs) from I.hok a _ ea)
  exact W.kia_one W.kitx_list I.kIn ⟨_,h1,rfl⟩ e (fun z=>nomatch z) h
 | @frz a ob xs ea =>
  cases (show u=Value.ref a from rx)
  obtain ⟨_,_,_,n,_,h1⟩:=(show ObjOk X.prog X.w H s.heap a (.frz ob (.lst xs)) from I.hok a _ ea)
  exact W.kia_one W.kitx_list I.kIn ⟨_,h1,rfl⟩ e (fun z=>nomatch z) h
 | @tup a xs ea =>
  cases (show u=Value.ref a from rx)
  obtain ⟨_,_,_,p⟩:=(show ObjOk X.prog X.w H s.heap a (.tup xs) from I.hok a _ ea)
  obtain ⟨o,h1,h2,_⟩:=p
  exact W.kia_one W.kitx_tuple I.kIn ⟨o,h1,h2⟩ e (fun z=>nomatch z) h
 | @dK a aa ea =>
  cases (show u=Value.ref a from rx)
  obtain ⟨_,_,vs,_,p⟩:=(show ObjOk X.prog X.w H s.heap a (.dK aa) from I.hok a _ ea)
  obtain ⟨o,es,ep,h1,h2,_⟩:=p
  exact W.kia_one W.kitx_dict I.kIn ⟨o,h1,h2.1⟩ e (fun z=>nomatch z) h
 | @dT a aa ea =>
  cases (show u=Value.ref a from rx)
  obtain ⟨_,_,xs,_,o,es,ep,h1,h2,_⟩:=(show ObjOk X.prog X.w H s.heap a (.dT aa) from I.hok a _ ea)
  exact W.kia_one W.kitx_dict I.kIn ⟨o,h1,h2.1⟩ e (fun z=>nomatch z) h
 | @ins a C dx fs ea cl ha hn eW hm =>
  cases (show u=Value.ref a from rx)
  obtain ⟨mA,O,_⟩:=zhz_ I.hok ea
  obtain ⟨od,J,_⟩:=O.look
  exact W.kia_one (W.kitx_own (cl.get _) cl.hd ha hn eW hm) I.kIn J e (fun z=>nomatch z) h
end
structure Room (k:Nat)(A:Around):Prop where
 hd:A.handled=none
 dp:A.depth+3*k+5<recursionLimit
 un:A.units+16*k+200<cLine
theorem Room.mono {j k:Nat}{A:Around}(r:Room k A)(h:j<=k):Room j A:=⟨r.hd,by have:=r.dp; lia,by have:=r.un; lia⟩
theorem Room.deeper {k:Nat}{A:Around}(r:Room (k+1) A)(env:Env):Room k (A.deeper env):=
 ⟨r.hd,by have:=r.dp; show A.depth+1+3*k+5<_; lia,by have:=r.un; show A.units+3+16*k+200<_; lia⟩
theorem zkv_ {A:Around}{C:Addr}{us:List Value}{kw:List (Str×Value)}:(A.under (.builtin "type.__call__" ⟨.ref C::us,kw⟩)).depth=A.depth+1:=by
 first | rfl | simp [Around.under,Code.weight,Code.isCreation,Code.isGuard,Code.isCaller,Code.frames,Code.isFrame,guardIds]
theorem zi5_ {A:Around}{C:Addr}{us:List Value}{kw:List (Str×Value)}:(A.under (.builtin "type.__call__" ⟨.ref C::us,kw⟩)).units=A.units+1:=by
 first | rfl | simp [Around.under,Code.cUnits,Code.frames,Code.isFrame]
theorem Room.make {k:Nat}{A:Around}(r:Room (k+1) A)(C:Addr)(us:List Value)(kw:List (Str×Value)):Room k (A.under (.builtin "type.__call__" ⟨.ref C::us,kw⟩)):=
 ⟨r.hd,by have:=r.dp; rw [zkv_]; lia,by have:=r.un; rw [zi5_]; lia⟩
theorem Room.depth {k:Nat}{A:Around}(r:Room k A):A.depth<recursionLimit:=by have:=r.dp; lia
theorem Room.units {k:Nat}{A:Around}(r:Room k A):A.units+64<cLine:=by have:=r.un; lia
def tNil:TA:=fun _ H Q=>Q [] H
def tCons (ta:TE)(tr:TA):TA:=fun σ H Q=>ta σ H fun x H1=>tr σ H1 fun xs H2=>Q (x::xs) H2
section
variable {X:Cx}{e:Expr}{es:List Expr}{te:TE}{t:TA}{pos:Pos}
theorem zh_:PA X [] tNil:=fun _ _ _ _ H Q I h=>Calls.spliced_nil ⟨[],H,I,.nil,h⟩
theorem zb_ (ha:PE X e te)(hr:PA X es t)(hs:starEach (e::es) X.env=(false,eval e X.env)::starEach es X.env:=by rfl):PA X (e::es) (tCons te t):=by
 intro pos pins s σ H Q I h
 rw [hs]
 show wpAny _ _ (spliced ((false,eval e X.env)::backTo pos (starEach es X.env))) _ _ s
 refine Calls.spliced_cons (thn (ha pins s σ H _ I h) fun u s1 ao=>?_)
 obtain ⟨x,H1,I1,r1,q1⟩:=ao
 exact thn (hr pos pins s1 σ H1 _ I1 q1) fun us s2 ⟨xs,H2,I2,r2,q2⟩=>⟨x::xs,H2,I2,.cons r1 r2,q2⟩
def tTup (t:TA):TE:=fun σ H Q=>t σ H fun xs H1=>xs.length<=sizeLine/\∀ p,H1 p=none->Q (.ref p) (upd H1 p (.tup xs))
def tLst (t:TA):TE:=fun σ H Q=>t σ H fun xs H1=>xs.length<=sizeLine/\∀ p,H1 p=none->Q (.ref p) (upd H1 p (.lst xs))
theorem zgW_ {x1}(h:PA X es t):PE X (.Tuple es x1 pos) (tTup t):=by
 intro pins s σ H Q I hq
 refine wpAny_Tuple_spliced (thn (h pos pins s σ H _ I hq) fun us s1 ⟨xs,H1,I1,r,z,q⟩=>⟨by rw [<- r.length]; exact z,?_⟩)
 have hf:H1 s1.heap.objs.size=none:=I1.hok.fresh (Nat.le_refl _)
 refine ⟨.ref s1.heap.objs.size,upd H1 s1.heap.objs.size (.tup xs),I1.laid (t':=s1.toks) (fun b u e=>Heap.get?_push_of_some _ e) (Nat.le_refl _) ?_,rfl,q _ hf⟩
 exact ⟨z,us,r,⟨_,Heap.get?_push_size _ rfl,rfl,_,rfl⟩⟩
theorem zcE_ (h:PA X es t):PE X (.List es pos) (tLst t):=by
 intro pins s σ H Q I hq
 refine wpAny_List_spliced (thn (h pos pins s σ H _ I hq) fun us s1 ⟨xs,H1,I1,r,z,q⟩=>⟨by rw [<- r.length]; exact z,?_⟩)
 have hf:H1 s1.heap.objs.size=none:=I1.hok.fresh (Nat.le_refl _)
 refine ⟨.ref s1.heap.objs.size,upd H1 s1.heap.objs.size (.lst xs),I1.laid (t':=s1.toks) (fun b u e=>Heap.get?_push_of_some _ e) (Nat.le_refl _) ?_,rfl,q _ hf⟩
 exact ⟨z,us,0,r,Heap.get?_push_size _ rfl⟩
end
abbrev Sp:=List V->Hp->VK->XK->Prop
abbrev CXT:=List Env->Hp->Shared->XK->Value->Shared->Prop
structure Env0 (P:Program)(w:World)(K:Fgg)(mg:Str->Option Value)(base:Heap)(A:Around)(outer:List Env)(s:Shared)(H:Hp):Prop where
 frames:A.frames=some outer
 mod:Mod K mg base
 bs:∀ b o,base.get? b=some o->s.heap.get? b=some o/\H b=none
 bsz:base.objs.size<=s.heap.objs.size
 funs:s.heap.FunFrames base outer
 frf:∀ b∈frs outer,H b=none
 hok:HOk P w H s.heap
 bare:AllBare s.gens
def CE (outer:List Env)(P:Program)(w:World)(H:Hp)(s:Shared)(Q:VK)(u:Value)(s':Shared):Prop:=
 ∃ v H',s'.os=s.os/\AllBare s'.gens/\Un (frs outer) [] H H' s.heap s'.heap/\HOk P w H' s'.heap/\RelV v u/\Q v H'
def CR (CX:CXT)(outer:List Env)(P:Program)(w:World)(H:Hp)(s:Shared)(Q:VK)(E:XK)(r:Result)(s':Shared):Prop:=
 match r with
 | .ok (.ret u)=>CE outer P w H s Q u s'
 | .ok _=>False
 | .error e=>CX outer H s E e s'
structure FnOk (P:Program)(w:World)(K:Fgg)(mg:Str->Option Value)(base:Heap)(CX:CXT)(k:Nat)(f:Addr)(fd:FuncData)(ps:List Str)(sp:Sp):Prop where
 len:∀ vs H Q E,sp vs H Q E->vs.length=ps.length
 run:∀ (A:Around) (outer:List Env) (s:Shared) (H:Hp) (args:Args) (us:List Value) (vs:List V) (Q:VK) (E:XK),Room k A->Env0 P w K mg base A outer s H->BindsTo s fd args (ps.zip us)->Vals vs us->sp vs H Q E ->
  codeAny (model P w) A (.call (.ref f) args) (CR CX outer P w H s Q E) s
theorem FnOk.imp {P:Program}{w:World}{K:Fgg}{mg:Str->Option Value}{base:Heap}{CX:CXT}{k:Nat}{f:Addr}{fd:FuncData}{ps:List Str}{sp sp':Sp}(F:FnOk P w K mg base CX k f fd ps sp)
  (h:∀ vs H Q E,sp' vs H Q E->sp vs H Q E):FnOk P w K mg base CX k f fd ps sp':=
 ⟨fun vs H Q E q=>F.len vs H Q E (h _ _ _ _ q),fun A outer s H args us vs Q E hr he hb hv hs=>F.run A outer s H args us vs Q E hr he hb hv (h _ _ _ _ hs)⟩
theorem Env0.make {P:Program}{w:World}{K:Fgg}{mg:Str->Option Value}{base:Heap}{A:Around}{outer:List Env}{s:Shared}{H:Hp}(e:Env0 P w K mg base A outer s H)(C:Addr)(us:List Value)(kw:List (Str×Value)):
  Env0 P w K mg base (A.under (.builtin "type.__call__" ⟨.ref C::us,kw⟩)) outer s H:=⟨by first | exact e.frames | (simpa [Around.under,Code.envs,Code.isFrame,pushEnvs] using e.frames),e.mod,e.bs,e.bsz,e.funs,e.frf,e.hok,e.bare⟩
section
variable {X:Cx}{pins:Pnn}{σ:St}{H:Hp}{s s':Shared}
theorem Inv.env0 (I:Inv X pins σ H s):Env0 X.prog X.w X.K X.mg X.base X.A X.stack s H:=
 ⟨I.ok.frames,I.ok.mod,I.bs,Nat.le_trans I.ok.bsz I.sz,I.stack,I.stkFree,I.hok,I.bare⟩
theorem Inv.after {Q:VK}{u:Value}(I:Inv X pins σ H s)(h:CE X.stack X.prog X.w H s Q u s'):EP X pins σ Q u s':=by
 obtain ⟨v,H',os,bare,un,hok,r,q⟩:=h
 obtain ⟨hh,g,d,t,os'⟩:=s'
 obtain rfl:os'=s.os:=os
 exact ⟨v,H',I.call (h':=hh) (g':=g) (d':=d) (t':=t) (ch:=[]) un hok bare (fun b z=>absurd z (by simp)),r,q⟩
end
def tCall (sp:Sp)(cj:List V)(E:XK)(t:TA):TE:=fun σ H Q=>t σ H fun vs H1=>sp (vs++cj) H1 Q E
def tMeth (C:Addr)(m:Str)(sp:Sp)(cj:List V)(E:XK)(ta:TE)(t:TA):TE:=fun σ H Q=>ta σ H fun x H1=>∃ a dx fs,x=.ref a/\H1 a=some (.ins C dx fs)/\fs.lookup m=none /\
 t σ H1 fun vs H2=>sp (x::(vs++cj)) H2 Q E
def tMake (C:Addr)(sp:Sp)(cj:List V)(E:XK)(t:TA):TE:=fun σ H Q=>t σ H fun vs H1=>∀ x dx,H1 x=none->H1 dx=none->dx≠x ->
 sp (.ref x::(vs++cj)) (upd (upd H1 dx (.own x)) x (.ins C dx [])) (fun v H2=>v=.non/\Q (.ref x) H2) E
def Binds (K:Fgg)(fd:FuncData)(ps:List Str)(ds:List Value):Prop:=
 ∀ (s:Shared) (us:List Value),K.In s.heap->(us++ds).length=ps.length->BindsTo s fd ⟨us,[]⟩ (ps.zip (us++ds))
theorem Binds.all {K:Fgg}{fd:FuncData}{ps:List Str}(h:∀ us:List Value,us.length=ps.length->bindArgs fd ⟨us,[]⟩=pure (ps.zip us)):Binds K fd ps []:=fun s us _ hl=>by
 rw [List.append_nil] at hl ⊢
 exact .of_eq (h us hl)
def Passes (CX:CXT)(X:Cx)(E:XK):Prop:=∀ (pins:Pnn) (σ:St) (H:Hp) (s:Shared) (e:Value) (s':Shared),Inv X pins σ H s->CX X.stack H s E e s'->X.xe e s'
section
variable {X:Cx}{CX:CXT}{k:Nat}{f C:Addr}{fd:FuncData}{ps:List Str}{sp:Sp}{cj:List V}{ds:List Value}{E:XK}{x m:Str}{p pos apos:Pos}{e o:Expr}{es:List Expr}{ta:TE}{t:TA}
theorem zjq_ {pins:Pnn}{σ:St}{H:Hp}{s:Shared}{Q:VK}{us:List Value}{vs:List V}(F:FnOk X.prog X.w X.K X.mg X.base CX k f fd ps sp)(hr:Room k X.A)(hb:Binds X.K fd ps ds)(hd:Vals cj ds)(hx:Passes CX X E)
  (I:Inv X pins σ H s) (r:Vals vs us) (h:sp (vs++cj) H Q E):wpAny (model X.prog X.w) X.A (call (.ref f) us) (EP X pins σ Q) X.xe s:=by
 have r2:Vals (vs++cj) (us++ds):=r.append hd
 have hl:(us++ds).length=ps.length:=by rw [<- r2.length]; exact F.len _ _ _ _ h
 refine wpAny_call (codeAny_mono (F.run X.A X.stack s H ⟨us,[]⟩ (us++ds) (vs++cj) Q E hr I.env0 (hb s us I.kIn hl) r2 h) fun r s' hq=>?_)
 cases r with
 | error e=>exact hx pins σ H s e s' I hq
 | ok fl =>
  cases fl with
  | ret u=>exact I.after hq
  | next=>exact False.elim hq
  | brk=>exact False.elim hq
  | cont=>exact False.elim hq
theorem zmx_ (F:FnOk X.prog X.w X.K X.mg X.base CX k f fd ps sp)(hr:Room k X.A)(hg:Gl X x)(hm:X.mg x=some (.ref f))(hk:W.keepIn X.K (.ref f)=true)(hb:Binds X.K fd ps ds)(hd:Vals cj ds)(hx:Passes CX X E)
  (ha:PA X (e::es) t) (aV:(x==("__debug__":Str))=false:=by decide) (he:starEach (e::es) X.env=(false,eval e X.env)::starEach es X.env:=by rfl) (aQ:(backTo pos (starEach es X.env)).any (·.1)=false:=by rfl):
  PE X (.Call (.Name x p) (e::es) [] pos) (tCall sp cj E t):=by
 intro pins s σ H Q I h
 refine wpAny_Call_Name_kw (zcj_ I hg hm ?_ aV)
 refine W.callWith_K (h₀:=X.base) I.ok.mod.kin hk (thn (ha pos pins s σ H _ I h) fun us s1 ⟨vs,H1,I1,r,q⟩=>⟨I1.kIn,?_⟩) he aQ
 exact zjq_ F hr hb hd hx I1 r q
theorem zn8_ (F:FnOk X.prog X.w X.K X.mg X.base CX k f fd ps sp)(hr:Room k X.A)(hg:Gl X x)(hm:X.mg x=some (.ref f))(hk:W.keepIn X.K (.ref f)=true)(hb:Binds X.K fd ps ds)(hd:Vals cj ds)(hx:Passes CX X E)
  (aV:(x==("__debug__":Str))=false:=by decide):PE X (.Call (.Name x p) [] [] pos) (tCall sp cj E tNil):=by
 intro pins s σ H Q I h
 refine wpAny_Call_Name_kw (zcj_ I hg hm ?_ aV)
 exact W.callWith_K0 I.kIn hk (zjq_ (us:=[]) F hr hb hd hx I .nil h)
theorem zmn_ {pl:Sem Bool}(he:PE X o ta)(c:Cls X.K C)(hm:Meth X.K C m f)(F:FnOk X.prog X.w X.K X.mg X.base CX k f fd ps sp)(hr:Room k X.A)(hb:Binds X.K fd ps ds)(hd:Vals cj ds)(hx:Passes CX X E)(ha:PA X (e::es) t)
  (bE:starEach (e::es) X.env=(false,eval e X.env)::starEach es X.env:=by rfl) (aQ:(backTo pos (starEach es X.env)).any (·.1)=false:=by rfl)
  (ht:eval (.Call (.Attribute o m apos) (e::es) [] pos) X.env=(do
   let ov <- eval o X.env
   standAt apos.atName
   let (f,first) <- holding [ov] (getMethod ov m pl)
   callWith pos f first (backTo pos (starEach (e::es) X.env)) (backToKw pos (keywordEach [] X.env))):=by rfl):
  PE X (.Call (.Attribute o m apos) (e::es) [] pos) (tMeth C m sp cj E ta t):=by
 intro pins s σ H Q I h
 refine W.methodCall_KW (pl:=pl) (thn (he pins s σ H _ I h) fun u s1 ao=>?_) ht
 obtain ⟨x,H1,I1,rx,a,dx,fs,ex,ea,l,q⟩:=ao
 subst ex
 obtain rfl:u=Value.ref a:=rx
 refine zcH_ I1 ea c hm l ?_
 refine W.callWith_K (first:=[.ref a]) (h₀:=X.base) I.ok.mod.kin hm.kp (thn (ha pos pins s1 σ H1 _ I1 q) fun us s2 ⟨vs,H2,I2,r,q2⟩=>⟨I2.kIn,?_⟩) bE aQ
 exact zjq_ (us:=.ref a::us) (vs:=.ref a::vs) F hr hb hd hx I2 (.cons rfl r) q2
theorem znb_ {pl:Sem Bool}(he:PE X o ta)(c:Cls X.K C)(hm:Meth X.K C m f)(F:FnOk X.prog X.w X.K X.mg X.base CX k f fd ps sp)(hr:Room k X.A)(hb:Binds X.K fd ps ds)(hd:Vals cj ds)(hx:Passes CX X E)
  (ht:eval (.Call (.Attribute o m apos) [] [] pos) X.env=(do
   let ov <- eval o X.env
   standAt apos.atName
   let (f,first) <- holding [ov] (getMethod ov m pl)
   callWith pos f first (backTo pos (starEach [] X.env)) (backToKw pos (keywordEach [] X.env))):=by rfl):
  PE X (.Call (.Attribute o m apos) [] [] pos) (tMeth C m sp cj E ta tNil):=by
 intro pins s σ H Q I h
 refine W.methodCall_KW (pl:=pl) (thn (he pins s σ H _ I h) fun u s1 ao=>?_) ht
 obtain ⟨x,H1,I1,rx,a,dx,fs,ex,ea,l,q⟩:=ao
 subst ex
 obtain rfl:u=Value.ref a:=rx
 refine zcH_ I1 ea c hm l ?_
 exact W.callWith_K0 (first:=[.ref a]) I1.kIn hm.kp (zjq_ (us:=[.ref a]) (vs:=[.ref a]) F hr hb hd hx I1 (.cons rfl .nil) q)
structure Mk (K:Fgg)(C f:Addr):Prop where
 makes:W.makesIn K C=true
 init:W.findIn K (.ref C) "__init__"=some (some (.ref f))
 fn:W.isFn K (.ref f)=true
 kp:W.keepIn K (.ref C)=true
theorem zm8_ {pins:Pnn}{σ:St}{H:Hp}{s:Shared}{Q:VK}{us:List Value}{vs:List V}(M:Mk X.K C f)(F:FnOk X.prog X.w X.K X.mg X.base CX k f fd ps sp)(hr:Room (k+1) X.A)(hb:Binds X.K fd ps ds)(hd:Vals cj ds)
  (hx:Passes CX X E) (I:Inv X pins σ H s) (r:Vals vs us)
  (h:∀ x dx,H x=none->H dx=none->dx≠x->sp (.ref x::(vs++cj)) (upd (upd H dx (.own x)) x (.ins C dx [])) (fun v H2=>v=.non/\Q (.ref x) H2) E):
  wpAny (model X.prog X.w) X.A (call (.ref C) us) (EP X pins σ Q) X.xe s:=by
 have hq:=h (s.heap.objs.size+1) s.heap.objs.size (I.hok.fresh (Nat.le_succ _)) (I.hok.fresh (Nat.le_refl _)) (Nat.ne_of_lt (Nat.lt_succ_self _))
 have I2:=Inv.made (C:=C) I
 have r2:Vals (V.ref (s.heap.objs.size+1)::(vs++cj)) (Value.ref (s.heap.objs.size+1)::(us++ds)):=.cons rfl (r.append hd)
 have hl:(Value.ref (s.heap.objs.size+1)::us++ds).length=ps.length:=by
  have e:=r2.length
  rw [F.len _ _ _ _ hq] at e
  exact e.symm
 refine wpAny_call (zoa_ (f:=f) I.kIn M.makes M.init (beq_iff_eq.mp M.fn) (codeAny_mono (F.run _ X.stack _ _ ⟨Value.ref (s.heap.objs.size+1)::us,[]⟩ (Value.ref (s.heap.objs.size+1)::(us++ds)) _ _ E (hr.make C us [])
  (I2.env0.make C us []) (hb _ (Value.ref (s.heap.objs.size+1)::us) I2.kIn hl) r2 hq) fun r s' dm=>?_))
 cases r with
 | error e=>exact hx pins σ _ _ e s' I2 dm
 | ok fl =>
  cases fl with
  | ret u =>
   obtain ⟨v,H',I3,rv,ev,q3⟩:=I2.after dm
   subst ev
   exact ⟨rv,⟨V.ref (s.heap.objs.size+1),H',I3,rfl,q3⟩⟩
  | next=>exact False.elim dm
  | brk=>exact False.elim dm
  | cont=>exact False.elim dm
theorem zpZ_ (M:Mk X.K C f)(F:FnOk X.prog X.w X.K X.mg X.base CX k f fd ps sp)(hr:Room (k+1) X.A)(hg:Gl X x)(hm:X.mg x=some (.ref C))(hb:Binds X.K fd ps ds)(hd:Vals cj ds)(hx:Passes CX X E)
  (ha:PA X (e::es) t) (aV:(x==("__debug__":Str))=false:=by decide) (he:starEach (e::es) X.env=(false,eval e X.env)::starEach es X.env:=by rfl) (aQ:(backTo pos (starEach es X.env)).any (·.1)=false:=by rfl):
  PE X (.Call (.Name x p) (e::es) [] pos) (tMake C sp cj E t):=by
 intro pins s σ H Q I h
 refine wpAny_Call_Name_kw (zcj_ I hg hm ?_ aV)
 refine W.callWith_K (h₀:=X.base) I.ok.mod.kin M.kp (thn (ha pos pins s σ H _ I h) fun us s1 ⟨vs,H1,I1,r,q⟩=>⟨I1.kIn,?_⟩) he aQ
 exact zm8_ M F hr hb hd hx I1 r q
end
structure FnScope (N P:List Str)(sc:Scope):Prop where
 kind:sc.kind=.function
 co:sc.isCoroutine=false
 gen:sc.isGenerator=false
 nd:N.Nodup
 pre:N.take P.length=P
 par:∀ x∈P,sc.names.lookup x=some .local\/sc.names.lookup x=some .cell
 nofree:∀ y∈sc.names,y.2≠.free
theorem zhv_ {kindOf:Str->Option NameKind}{x:Str}:∀ {binds:List (Str×Value)}{m:Str->Option Value},(∀ v,(x,v)∉binds)->bindL kindOf binds m x=m x
 | [],_,_=>rfl
 | (n,v)::r,m,h=>by
  unfold bindL
  rw [zhv_ fun w hw=>h w (List.mem_cons_of_mem _ hw)]
  split
  ·have:x≠n:=by rintro rfl; exact h v List.mem_cons_self
   simp [this]
  ·rfl
theorem zhA_ {kindOf:Str->Option NameKind}{x:Str}:∀ {binds:List (Str×Value)}{m:Str->Option Value},(∀ v,(x,v)∉binds)->bindC kindOf binds m x=m x
 | [],_,_=>rfl
 | (n,v)::r,m,h=>by
  unfold bindC
  rw [zhA_ fun w hw=>h w (List.mem_cons_of_mem _ hw)]
  split
  ·rfl
  ·have:x≠n:=by rintro rfl; exact h v List.mem_cons_self
   simp [this]
theorem zhB_ {kindOf:Str->Option NameKind}{x:Str}{v:Value}:∀ {P:List Str}{vs:List Value}{i:Nat}{m:Str->Option Value},P.Nodup->P[i]?=some x->vs[i]?=some v->kindOf x=some .local ->
  bindL kindOf (P.zip vs) m x=some v
 | [],_,_,_,_,h,_,_=>by simp at h
 | _::_,[],_,_,_,_,h,_=>by simp at h
 | p::P,w::vs,0,m,nd,h1,h2,hk=>by
  simp at h1 h2; subst h1; subst h2
  show bindL kindOf ((p,w)::P.zip vs) m p=_
  unfold bindL
  rw [zhv_ fun v hv=>(List.nodup_cons.mp nd).1 (List.of_mem_zip hv).1,if_pos hk]
  simp
 | p::P,w::vs,i+1,m,nd,h1,h2,hk=>by
  show bindL kindOf ((p,w)::P.zip vs) m x=_
  unfold bindL
  exact zhB_ (i:=i) (List.nodup_cons.mp nd).2 (by simpa using h1) (by simpa using h2) hk
theorem zht_ {kindOf:Str->Option NameKind}{x:Str}{v:Value}:∀ {P:List Str}{vs:List Value}{i:Nat}{m:Str->Option Value},P.Nodup->P[i]?=some x->vs[i]?=some v->kindOf x≠some .local ->
  bindC kindOf (P.zip vs) m x=some v
 | [],_,_,_,_,h,_,_=>by simp at h
 | _::_,[],_,_,_,_,h,_=>by simp at h
 | p::P,w::vs,0,m,nd,h1,h2,hk=>by
  simp at h1 h2; subst h1; subst h2
  show bindC kindOf ((p,w)::P.zip vs) m p=_
  unfold bindC
  rw [zhA_ fun v hv=>(List.nodup_cons.mp nd).1 (List.of_mem_zip hv).1,if_neg hk]
  simp
 | p::P,w::vs,i+1,m,nd,h1,h2,hk=>by
  show bindC kindOf ((p,w)::P.zip vs) m x=_
  unfold bindC
  exact zht_ (i:=i) (List.nodup_cons.mp nd).2 (by simpa using h1) (by simpa using h2) hk
def start (N:List Str)(vs:List V):St:=vs.map some++List.replicate (N.length-vs.length) none
def cxOf (CX:CXT)(P:Program)(w:World)(K:Fgg)(mg:Str->Option Value)(base:Heap)(N:List Str)(qual:Str)(scope:Scope)(f:Addr)(cd:Value)(A:Around)(outer:List Env)(s:Shared)(H:Hp)(E:XK):Cx where
 prog:=P
 w:=w
 K:=K
 mg:=mg
 base:=base
 A:=A.deeper (envOfC qual scope s.heap.objs.size f cd)
 N:=N
 s₀:=s
 H₀:=H
 env:=envOfC qual scope s.heap.objs.size f cd
 outer:=outer
 stack:=envOfC qual scope s.heap.objs.size f cd::outer
 ex:=[]
 calm:=true
 fn:=fun _=>true
 pn:=[]
 xe:=fun e s'=>wpAny (model P w) (A.deeper (envOfC qual scope s.heap.objs.size f cd)) (leaving (envOfC qual scope s.heap.objs.size f cd) e) (fun _ kD=>CX outer H s E e kD) (fun e' kD=>CX outer H s E e' kD) s'
theorem ziX_ {sc:Scope}{n:Nat}{x:Str}(h:sc.names.lookup x=some .cell):∃ c,(cellsFrom n sc.names []).lookup x=some c:=by
 have q:=W.cellsFrom_some sc.names n [] (.inl h)
 exact Option.isSome_iff_exists.mp q
theorem zfz_ {CX:CXT}{P:Program}{w:World}{K:Fgg}{mg:Str->Option Value}{base:Heap}{N ps:List Str}{qual:Str}{scope:Scope}{f:Addr}{cd:Value}{A:Around}{outer:List Env}{s s1:Shared}{H:Hp}{E:XK}{us:List Value}{vs:List V}
  (S:FnScope N ps scope) (hd:A.handled=none) (e0:Env0 P w K mg base A outer s H) (hl:vs.length=ps.length) (r:Vals vs us)
  (x:InCallC s s.heap.objs.size (bindL (envOfC qual scope s.heap.objs.size f cd).kindOf (ps.zip us) fun _=>none) (cellsFrom (s.heap.objs.size+1) scope.names []) (bindC (envOfC qual scope s.heap.objs.size f cd).kindOf (ps.zip us) fun _=>none) s1):
  Inv (cxOf CX P w K mg base N qual scope f cd A outer s H E) [] (start N vs) H s1:=by
 have aQ:ps.length<=N.length:=by have:=congrArg List.length S.pre; rw [List.length_take] at this; lia
 obtain ⟨h1,tk,rfl,hk⟩:=x.done
 have iK:∀ b:Addr,b∉(cxOf CX P w K mg base N qual scope f cd A outer s H E).ex:=fun b z=>absurd (show b∈([]:List Addr) from z) (by simp)
 refine ⟨⟨e0.mod,S.kind,rfl,rfl,Nat.le_refl _,fun y z c h1 h2=>?_,fun y hy=>?_,fun y c _ h=>?_,fun _=>hd,Around.frames_deeper e0.frames,.inr ⟨rfl,rfl⟩,fun b z=>absurd z (iK b),e0.bs,e0.bsz,fun b _ _=>iK b,fun b z=>absurd z (iK b),e0.funs,e0.frf⟩,
  rfl,e0.bare,Un.kept hk,⟨_,x.toInCall.ns,fun i y v h1 h2 h3=>?_⟩,fun y c h=>⟨_,x.cell y c h⟩,e0.hok.fresh (Nat.le_refl _),fun y c h=>?_,fun p hp=>absurd (show p∈([]:Pnn) from hp) (by simp),e0.hok.kept hk,?_⟩
 ·exact name_of_addr x.apart (PySem.mem_of_lookup h1) (PySem.mem_of_lookup h2)
 ·have hy:scope.names.lookup y=some .cell\/scope.names.lookup y=some .free:=hy
  rcases hy with hy | hy
  ·exact ziX_ hy
  ·exact absurd rfl (S.nofree _ (PySem.mem_of_lookup hy))
 ·exact Nat.le_of_lt (x.above y c (PySem.mem_of_lookup h))
 ·have hi:i<vs.length:=by
   unfold start at h2
   by_cases hi:i<vs.length
   ·exact hi
   ·rw [List.getElem?_append_right (by simpa using hi)] at h2
    rw [List.getElem?_replicate] at h2
    split at h2<;>cases h2
  have ha:vs[i]?=some v:=by
   unfold start at h2
   rw [List.getElem?_append_left (by simpa using hi),List.getElem?_map] at h2
   cases e:vs[i]? with
   | none=>rw [e] at h2; cases h2
   | some a=>rw [e] at h2; cases h2; rfl
  obtain ⟨u,hu,rv⟩:=r.get ha
  have hp:ps[i]?=some y:=by
   rw [<- S.pre,List.getElem?_take_of_lt (by lia)]; exact h1
  have nE:ps.Nodup:=by rw [<- S.pre]; exact S.nd.sublist (List.take_sublist _ _)
  refine ⟨u,rv,?_⟩
  rcases S.par y (List.mem_of_getElem? hp) with k | k
  ·exact .inl ⟨k,zhB_ nE hp hu k⟩
  ·obtain ⟨c,e⟩:=ziX_ (n:=s.heap.objs.size+1) k
   refine .inr ⟨.inl k,c,e,?_⟩
   have q:=x.cell y c e
   rw [zht_ nE hp hu (by show scope.names.lookup y≠_; rw [k]; decide)] at q
   exact q
 ·exact e0.hok.fresh (Nat.le_of_lt (x.above y c (PySem.mem_of_lookup h)))
 ·unfold start
  show _=N.length
  rw [List.length_append,List.length_map,List.length_replicate]
  lia
theorem fn_of {CX:CXT}{P:Program}{w:World}{K:Fgg}{mg:Str->Option Value}{base:Heap}{k:Nat}{f:Addr}{name qual:Str}{params:Arguments}{body:List Stmt}{scope:Scope}{dV kV doc pm ar ct oc:Value}{an od:Option Addr}
  {bL:Array (Option Value)}{N ps:List Str}{sp:Sp}(lk:K.lookup f=some ⟨oc,od,.func (W.fnOf name qual params body scope dV kV doc pm an ar ct),bL⟩) (cY:W.codeIn K ar qual=true) (S:FnScope N ps scope)
  (len:∀ vs H Q E,sp vs H Q E->vs.length=ps.length)
  (bF:∀ (A:Around) (outer:List Env) (s:Shared) (H:Hp) (vs:List V) (Q:VK) (E:XK),Room k (A.deeper (envOfC qual scope s.heap.objs.size f ar))->sp vs H Q E ->
   ∃ t,PSs (cxOf CX P w K mg base N qual scope f ar A outer s H E) body t/\t { nx:=fun _ H'=>Q .non H',rt:=Q } (start N vs) H):
  FnOk P w K mg base CX (k+1) f (W.fnOf name qual params body scope dV kV doc pm an ar ct) ps sp:=by
 refine ⟨len,fun A outer s H args us vs Q E hr e0 hb r cM=>?_⟩
 have hl:=len _ _ _ _ cM
 have KX:K.In s.heap:=e0.mod.kin.keeps fun b o e=>(e0.bs b o e).1
 have lim:s.heap.NoLimit:=e0.mod.nolimit.keeps fun b o e=>(e0.bs b o e).1
 have cX:∀ y∈ps.zip us,scope.names.lookup y.1=some .local\/(scope.names.lookup y.1=some .cell/\((cellsFrom (s.heap.objs.size+1) scope.names []).lookup y.1).isSome=true):=fun ⟨n,v⟩ hy=>by
  rcases S.par n (List.of_mem_zip hy).1 with q | q
  ·exact .inl q
  ·exact .inr ⟨q,W.cellsFrom_some _ _ _ (.inl q)⟩
 refine codeAny_call_function hr.depth (KX _ _ lk) rfl S.co S.gen rfl (W.codeRec_of KX cY) (hb _ _ _ _ ?_)
 refine wpAny_newFunctionEnv_cells S.kind cX fun env he s1 x=>?_
 subst he
 refine ⟨lim.keeps x.toInCall.keep,codeAny_func ?_⟩
 obtain ⟨t,ht,hq⟩:=bF A outer s H vs Q E (hr.deeper _) cM
 have I:Inv (cxOf CX P w K mg base N qual scope f ar A outer s H E) [] (start N vs) H s1:=zfz_ S hr.hd e0 hl r x
 refine wpAny_mono (ht [] s1 (start N vs) H _ I hq) (fun fl s' hs=>?_) fun e s' hs=>hs
 have fin:∀ {au:St}{H':Hp}{v:V}{u:Value},Inv (cxOf CX P w K mg base N qual scope f ar A outer s H E) [] au H' s'->RelV v u->Q v H'->CE outer P w H s Q u s':=
  fun {au H' v u} J rv q=>⟨v,H',J.os,J.bare,J.base,J.hok,rv,q⟩
 cases fl with
 | ret u =>
  obtain ⟨v,au,H',J,rv,q⟩:=hs
  exact fin J rv q
 | next =>
  obtain ⟨au,H',J,q⟩:=hs
  exact fin (v:=V.non) (u:=Value.none) J rfl q
 | brk =>
  obtain ⟨_,_,_,q⟩:=hs
  exact False.elim q
 | cont =>
  obtain ⟨_,_,_,q⟩:=hs
  exact False.elim q
section
variable {X:Cx}{x:Str}{p pos:Pos}{e:Expr}{es:List Expr}{t:TA}{id T:String}{r:List V->Hp->VK->Prop}
def tCB (r:List V->Hp->VK->Prop)(t:TA):TE:=fun σ H Q=>t σ H fun vs H1=>r vs H1 Q
theorem zmM_ (hc:CallR X (.builtin id) r)(hg:Gl X x)(hm:X.mg x=none)(hv:bootBuiltins x=some (.builtin id))(ha:PA X (e::es) t)(hn:x ≠ "__name__":=by decide)(aV:(x==("__debug__":Str))=false:=by decide)
  (he:starEach (e::es) X.env=(false,eval e X.env)::starEach es X.env:=by rfl) (aQ:(backTo pos (starEach es X.env)).any (·.1)=false:=by rfl):PE X (.Call (.Name x p) (e::es) [] pos) (tCB r t):=by
 intro pins s σ H Q I h
 refine wpAny_Call_Name_kw (zgM_ I hg hm hv ?_ hn aV)
 exact PyProof.Rows.callWith_builtin1 (thn (ha pos pins s σ H _ I h) fun us s1 ⟨vs,H1,I1,r1,q1⟩=>hc pins s1 σ H1 vs us Q I1 r1 q1) he aQ
theorem zkM_ (hc:CallR X (.type T) r)(hg:Gl X x)(hm:X.mg x=none)(hv:bootBuiltins x=some (.type T))(ha:PA X (e::es) t)(hn:x ≠ "__name__":=by decide)(aV:(x==("__debug__":Str))=false:=by decide)
  (he:starEach (e::es) X.env=(false,eval e X.env)::starEach es X.env:=by rfl) (aQ:(backTo pos (starEach es X.env)).any (·.1)=false:=by rfl):PE X (.Call (.Name x p) (e::es) [] pos) (tCB r t):=by
 intro pins s σ H Q I h
 refine wpAny_Call_Name_kw (zgM_ I hg hm hv ?_ hn aV)
 exact PyProof.Rows.callWith_type1 (thn (ha pos pins s σ H _ I h) fun us s1 ⟨vs,H1,I1,r1,q1⟩=>hc pins s1 σ H1 vs us Q I1 r1 q1) he aQ
end
end L2
namespace HT
open PySem PyProof.Rows
def lexLt:List Int->List Int->Bool
 | [],[]=>false
 | [],_::_=>true
 | _::_,[]=>false
 | x::xs,y::ys=>if x=y then lexLt xs ys else decide (x<y)
theorem lexLt_cons (x y:Int)(xs ys:List Int):lexLt (x::xs) (y::ys)=if x=y then lexLt xs ys else decide (x<y):=rfl
theorem eqAt_int (A:Around)(s:Shared)(a:Int)(t:Tok)(c:Int)(u:Tok):∃ e,SeqAt.EqAt A s (.int a t) (.int c u) e/\(e=true↔a=c):=
 ⟨(a == c),SeqAt.EqAt.int_int a t c u,by simp⟩
theorem rcLt_int (A:Around)(s:Shared)(a:Int)(t:Tok)(c:Int)(u:Tok)(prog:Program)(w:World)(E:Value->Shared->Prop)(Q:Value->Shared->Prop)(h:Q (.bool (decide (a<c))) s):
  wpAny (model prog w) A (richCompare .Lt (.int a t) (.int c u)) Q E s:=
 (PyProof.Rows.lt_int h:wpAny (model prog w) A (compareOp .Lt (.int a t) (.int c u)) Q E s)
section
open PySem.SeqAt
open PySem.AutoSeq1 (wpAny_loadPart')
open PySem.MeetsSeq PySem.MeetsSeq2 PySem.MeetsSeq3
end
section
def sIx (n d:Nat):Option Int->Nat
 | none=>d
 | some v=>if v<0 then (v+(n:Int)).toNat else min v.toNat n
theorem sIx_le (n d:Nat)(hd:d<=n)(o:Option Int):sIx n d o<=n:=by
 cases o with
 | none=>exact hd
 | some v =>
  show (if v<0 then (v+(n:Int)).toNat else min v.toNat n)<=n
  by_cases hv:v<0
  ·rw [if_pos hv]; lia
  ·rw [if_neg hv]; exact Nat.min_le_right _ _
end
end HT
namespace L2
open PySem PySem.Spec PyProof.Rows
abbrev TO:=St->Hp->(Option Int->Hp->Prop)->Prop
def PO (X:Cx)(e:Option Expr)(t:TO):Prop:=
 ∀ (pins:Pnn) (s:Shared) (σ:St) (H:Hp) (Q:Option Int->Hp->Prop),Inv X pins σ H s->t σ H Q ->
  wpAny (model X.prog X.w) X.A (evalPart e X.env) (fun u s'=>∃ o H',Inv X pins σ H' s'/\IsPart u o/\Q o H') X.xe s
def tNoPart:TO:=fun _ H Q=>Q none H
theorem zgc_ {ns:List Int}:∀ {us:List Value},Vals (ns.map V.int) us->IntsAre us ns:=by
 induction ns with
 | nil=>intro us r; rw [List.map_nil] at r; cases r; exact .nil
 | cons n ns ih =>
  intro us r
  rw [List.map_cons] at r
  cases r with
  | cons r1 r2 =>
   obtain ⟨t,e⟩:=r1
   subst e
   exact .cons n t (ih r2)
section
variable {X:Cx}{e:Expr}{te:TE}{lo hi:Option Expr}{tl th:TO}{pos p2:Pos}
theorem zeN_:PO X none tNoPart:=by
 intro pins s σ H Q I h
 rw [evalPart_none]
 exact wpAny_pure ⟨none,H,I,.none,h⟩
def SlR (X:Cx)(r:V->Option Int->Option Int->Hp->VK->Prop):Prop:=
 ∀ (pins:Pnn) (s:Shared) (σ:St) (H:Hp) (x:V) (v vl vu:Value) (lo hi:Option Int) (sl:Addr) (Q:VK),Inv X pins σ H s->RelV x v->s.heap.IsSliceOf sl vl vu .none->IsPart vl lo->IsPart vu hi->r x lo hi H Q ->
  ∃ T id,typeLookup (.type T) "__getitem__"=pure (some (.builtin id))/\s.TypeIs v T/\wpAny (model X.prog X.w) X.A (getItem v (.ref sl)) (EP X pins σ Q) X.xe s
def tSl (r:V->Option Int->Option Int->Hp->VK->Prop)(te:TE)(tl th:TO):TE:=fun σ H Q=>te σ H fun x H1=>tl σ H1 fun l H2=>th σ H2 fun u H3=>r x l u H3 Q
theorem zbx_ {r:V->Option Int->Option Int->Hp->VK->Prop}(hr:SlR X r)(he:PE X e te)(hl:PO X lo tl)(hu:PO X hi th):PE X (.Subscript e (.Slice lo hi none p2) pos) (tSl r te tl th):=by
 intro pins s σ H Q I h
 refine Subscript_ (thn (he pins s σ H _ I h) fun v s1 ao=>?_)
 obtain ⟨x,H1,I1,r1,q1⟩:=ao
 refine wpAny_Slice (thn (hl pins s1 σ H1 _ I1 q1) fun vl s2 ⟨l,H2,I2,pl,q2⟩=>thn (hu pins s2 σ H2 _ I2 q2) fun vu s3 ao=>?_)
 obtain ⟨u,H3,I3,pu,q3⟩:=ao
 rw [evalPart_none]
 refine wpAny_pure ?_
 have I4:Inv X pins σ H3 { s3 with heap:=s3.heap.push { cls:=.type "slice",data:=.fields #[vl,vu,.none] } }:=I3.kept (t':=s3.toks) fun b ob q=>Heap.get?_push_of_some _ q
 obtain ⟨T,id,hT,ht,hg⟩:=hr pins { s3 with heap:=s3.heap.push { cls:=.type "slice",data:=.fields #[vl,vu,.none] } } σ H3 x v vl vu l u s3.heap.objs.size Q I4 r1 (Heap.IsSliceOf.new ..) pl pu q3
 show wpAny (model X.prog X.w) X.A (subscriptTail e (.Slice lo hi none p2) v (.ref s3.heap.objs.size)) (EP X pins σ Q) X.xe { s3 with heap:=s3.heap.push { cls:=.type "slice",data:=.fields #[vl,vu,.none] } }
 exact tail_any (ops:=[.ref s3.heap.objs.size,v]) ht hT hg (by with_unfolding_all rfl)
def cutV (xs:List V)(lo hi:Option Int):List V:=(xs.drop (HT.sIx xs.length 0 lo)).take (HT.sIx xs.length xs.length hi-HT.sIx xs.length 0 lo)
theorem zim_ (xs:List V)(lo hi:Option Int):(cutV xs lo hi).length<=xs.length:=by
 unfold cutV
 rw [List.length_take,List.length_drop]
 lia
end
def ixN (n:Nat)(i:Int):Option Nat:=if 0<=i then (if i<n then some i.toNat else none) else if -(n:Int)<=i then some (i+n).toNat else none
def atI {α:Type}(xs:List α)(i:Int):Option α:=(ixN xs.length i).bind fun j=>xs[j]?
theorem zme_ {n:Nat}{i:Int}{j:Nat}(h:ixN n i=some j):seqIndex? i n=some j/\j<n /\ -(n:Int)<=i/\i<n:=by
 unfold ixN at h
 by_cases h0:0<=i
 ·rw [if_pos h0] at h
  by_cases h1:i<n
  ·rw [if_pos h1] at h
   have e:i.toNat=j:=Option.some.inj h
   exact ⟨by rw [seqIndex_of h0 h1,e],by lia,by lia,h1⟩
  ·rw [if_neg h1] at h; cases h
 ·rw [if_neg h0] at h
  by_cases h1 : -(n:Int)<=i
  ·rw [if_pos h1] at h
   have e:(i+n).toNat=j:=Option.some.inj h
   exact ⟨by rw [seqIndex_neg (by lia) h1,e],by lia,h1,by lia⟩
  ·rw [if_neg h1] at h; cases h
theorem zkt_ {α:Type}{xs:List α}{i:Int}{v:α}(h:atI xs i=some v):∃ j,seqIndex? i xs.length=some j/\xs[j]?=some v/\j<xs.length /\ -(xs.length:Int)<=i/\i<xs.length:=by
 unfold atI at h
 cases e:ixN xs.length i with
 | none=>rw [e] at h; cases h
 | some j =>
  rw [e] at h
  obtain ⟨h1,h2,h3,h4⟩:=zme_ e
  exact ⟨j,h1,h,h2,h3,h4⟩
def PlainIx (b:Expr):Prop:=∀ o i,subscripted b false o i=operate [o,i] (getItem o i)
def IxR (X:Cx)(r:R2):Prop:=
 ∀ (value slice:Expr) (pins:Pnn) (s:Shared) (σ:St) (H:Hp) (x y:V) (v u:Value) (Q:VK),Inv X pins σ H s->RelV x v->RelV y u->r x y H Q ->
  subscripted slice false v u=operate [v,u] (getItem v u)->wpAny (model X.prog X.w) X.A (subscriptTail value slice v u) (EP X pins σ Q) X.xe s
def MtR (X:Cx)(id:String)(r:V->List V->Hp->VK->Prop):Prop:=
 ∀ (pins:Pnn) (s:Shared) (σ:St) (H:Hp) (x:V) (xs:List V) (v:Value) (us:List Value) (Q:VK),Inv X pins σ H s->RelV x v->Vals xs us->r x xs H Q ->
  wpAny (model X.prog X.w) X.A (call (.builtin id) (v::us)) (EP X pins σ Q) X.xe s
section
variable {X:Cx}{a b:Expr}{ta tb:TE}{pos:Pos}
theorem zbg_ {r:R2}(hr:IxR X r)(ha:PE X a ta)(hb:PE X b tb)(hs:PlainIx b):PE X (.Subscript a b pos) (tOp r ta tb):=by
 intro pins s σ H Q I h
 exact Subscript_ (binT ha hb I h fun v u s2 x y H2 I2 rx ry q=>hr a b pins s2 σ H2 x y v u Q I2 rx ry q (hs _ _))
def rIxL (K:Fgg):R2:=fun x y H Q=>∃ p xs i v,x=.ref p/\y=.int i/\SqL K H p xs/\atI xs i=some v/\Q v H
def rIxT (K:Fgg):R2:=fun x y H Q=>∃ p xs i v,x=.ref p/\y=.int i/\SqT K H p xs/\atI xs i=some v/\Q v H
def rIxS:R2:=fun x y H Q=>∃ z i c,x=.str z/\y=.int i/\z.length<=sizeLine/\atI z.cps.toList i=some c/\Q (.str ⟨#[c]⟩) H
theorem zou_:IxR X (rIxL X.K):=by
 intro value slice pins s σ H x y v u Q I rx ry h hs
 obtain ⟨p,xs,i,z,rfl,rfl,hq,he,q⟩:=h
 cases rx
 obtain ⟨t,rfl⟩:=ry
 obtain ⟨ai,r,pl,hz⟩:=I.list hq
 obtain ⟨j,h1,h2,h3,h4,h5⟩:=zkt_ he
 obtain ⟨w,ew,dw⟩:=r.get h2
 have hl:=r.length
 have hn:=line63
 have fin:EP X pins σ Q w s:=⟨z,H,I,dw,q⟩
 by_cases h0:0<=i
 ·have hj:i.toNat=j:=by
   rw [seqIndex_of h0 h5] at h1
   exact Option.some.inj h1
  exact item_listR pl.isList h0 (by lia) (by rw [hj]; simpa using ew) fin hs
 ·have hj:(i+(ai.toArray.size:Int)).toNat=j:=by
   rw [seqIndex_neg (by lia) h4] at h1
   rw [List.size_toArray,<- hl]
   exact Option.some.inj h1
  exact subscriptTail_builtinR (x:=w) pl.isList.typeIs slot_list_getitem.lookup
   (wpAny_getItem_list_neg (Q:=fun r s'=>r=w/\EP X pins σ Q r s') pl.isList (by lia) (by rw [List.size_toArray]<;>lia) (by lia) (by rw [hj]; simpa using ew) ⟨rfl,fin⟩) hs
theorem zqJ_:IxR X (rIxT X.K):=by
 intro value slice pins s σ H x y v u Q I rx ry h hs
 obtain ⟨p,xs,i,z,rfl,rfl,hq,he,q⟩:=h
 cases rx
 obtain ⟨t,rfl⟩:=ry
 obtain ⟨ai,r,pl,hz⟩:=I.tuple hq
 obtain ⟨j,h1,h2,h3,h4,h5⟩:=zkt_ he
 obtain ⟨w,ew,dw⟩:=r.get h2
 have hl:=r.length
 have hn:=line63
 have fin:EP X pins σ Q w s:=⟨z,H,I,dw,q⟩
 exact subscriptTail_builtinR (x:=w) pl.typeIs slot_tuple_getitem.lookup
  (getItem_tuple (j:=j) (Q:=fun r s'=>r=w/\EP X pins σ Q r s') pl (by lia) (by lia) (by rw [List.size_toArray,<- hl]; exact h1) (by simpa using ew) ⟨rfl,fin⟩) hs
theorem zqQ_:IxR X rIxS:=by
 intro value slice pins s σ H x y v u Q I rx ry h hs
 obtain ⟨z,i,c,rfl,rfl,hz,he,q⟩:=h
 obtain ⟨t,rfl⟩:=rx
 obtain ⟨t',rfl⟩:=ry
 obtain ⟨j,h1,h2,h3,h4,h5⟩:=zkt_ he
 have hl:z.cps.toList.length=z.length:=by simp [Str.length]
 rw [hl] at h1 h4 h5
 have hn:=line63
 exact tail_any (typeIs_str s z t) slot_str_getitem.lookup (getItem_str (c:=c) (by
  have e1:decide (i < -(2 ^ 63:Int))=false:=decide_eq_false (by lia)
  have e2:decide (i ≥ 2 ^ 63)=false:=decide_eq_false (by lia)
  rw [e1,e2,Bool.or_false]) (by rw [h1]; simpa using h2) ⟨.str ⟨#[c]⟩,H,I.tok _,⟨_,rfl⟩,q⟩) hs
theorem zj1_ (ai:List Value)(n j:Nat)(u:Value):Obj.mapSeq (·.setIfInBounds j u) { cls:=.type "list",data:=.seq ai.toArray n }={ cls:=.type "list",data:=.seq (ai.set j u).toArray n }:=by
 simp [Obj.mapSeq]
theorem Inv.lst {pins:Pnn}{σ:St}{H:Hp}{s:Shared}{p:Addr}{xs:List V}(I:Inv X pins σ H s)(h:H p=some (.lst xs)):
  ∃ (ai:List Value) (n:Nat),Vals xs ai/\s.heap.get? p=some { cls:=.type "list",data:=.seq ai.toArray n }/\xs.length<=sizeLine:=by
 obtain ⟨z,ai,n,r,e⟩:=I.hok p _ h
 exact ⟨ai,n,r,e,z⟩
theorem Inv.lstUpd {pins:Pnn}{σ:St}{H:Hp}{s:Shared}{p:Addr}{xs ys:List V}{ai its':List Value}{n n':Nat}{f:Obj->Obj}(I:Inv X pins σ H s)(h:H p=some (.lst xs))
  (ho:s.heap.get? p=some { cls:=.type "list",data:=.seq ai.toArray n }) (hf:f { cls:=.type "list",data:=.seq ai.toArray n }={ cls:=.type "list",data:=.seq its'.toArray n' }) (r:Vals ys its') (hz:ys.length<=sizeLine) (t:Nat):
  Inv X pins σ (upd H p (.lst ys)) { s with heap:=s.heap.update p f,toks:=t }:=by
 have e:(s.heap.update p f).get? p=some { cls:=.type "list",data:=.seq its'.toArray n' }:=by
  rw [Heap.get?_update_self f ho (by rw [hf]<;>rfl),hf]
 refine I.write (x:=p) (e:=p) (by rw [h]; trivial) (.inl rfl) (fun b u hb q=>(Heap.get?_update_other _ _ (Ne.symm hb)).trans q) ⟨_,e⟩ ?_
 exact ⟨hz,its',n',r,e⟩
def rSetL:V->V->V->Hp->(Hp->Prop)->Prop:=fun o i v H Q=>∃ p xs k j,o=.ref p/\i=.int k/\H p=some (.lst xs)/\ixN xs.length k=some j/\Q (upd H p (.lst (xs.set j v)))
theorem zog_:PSet X rSetL:=by
 intro pins s σ H o i v ov iv u Q I ro ri rv h
 obtain ⟨p,xs,k,j,rfl,rfl,hp,hj,q⟩:=h
 cases ro
 obtain ⟨t,rfl⟩:=ri
 obtain ⟨ai,n,r,ho,hz⟩:=I.lst hp
 obtain ⟨h1,h2,h3,h4⟩:=zme_ hj
 have hl:=r.length
 have hn:=line63
 have I':Inv X pins σ (upd H p (.lst (xs.set j v))) { s with heap:=s.heap.update p (Obj.mapSeq (·.setIfInBounds j u)) }:=
  I.lstUpd hp ho (zj1_ ai n j u) (r.set rv j) (by rw [List.length_set]; exact hz) s.toks
 by_cases h0:0<=k
 ·have hk:k.toNat=j:=by
   rw [seqIndex_of h0 h4] at h1
   exact Option.some.inj h1
  exact W.ki_setAt ho h0 (by lia) (by rw [List.size_toArray,<- hl]; exact h4) (by rw [hk]; exact ⟨_,I',q⟩)
 ·have hk:(k+(ai.toArray.size:Int)).toNat=j:=by
   rw [seqIndex_neg (by lia) h3] at h1
   rw [List.size_toArray,<- hl]
   exact Option.some.inj h1
  exact W.ki_setBack ho (by lia) (by rw [List.size_toArray,<- hl]; exact h3) (by lia) (by rw [hk]; exact ⟨_,I',q⟩)
theorem zgB_ (lo hi:Option Int)(n:Nat):(sliceBounds lo hi none n).1=((HT.sIx n 0 lo:Nat):Int)/\(sliceBounds lo hi none n).2.1=((HT.sIx n n hi:Nat):Int)/\(sliceBounds lo hi none n).2.2=1:=by
 refine ⟨?_,?_,rfl⟩
 ·cases lo with
  | none=>simp [sliceBounds,HT.sIx]
  | some i =>
   simp only [sliceBounds,HT.sIx,Option.getD_none,show (1:Int) > 0 by decide,if_true]
   by_cases h:i<0
   ·simp only [h,if_true]<;>lia
   ·simp only [h,if_false]<;>lia
 ·cases hi with
  | none=>simp [sliceBounds,HT.sIx]
  | some i =>
   simp only [sliceBounds,HT.sIx,Option.getD_none,show (1:Int) > 0 by decide,if_true]
   by_cases h:i<0
   ·simp only [h,if_true]<;>lia
   ·simp only [h,if_false]<;>lia
theorem zf3_ (ai:List Value)(lo hi:Option Int):slicePick ai.toArray lo hi none=((ai.drop (HT.sIx ai.length 0 lo)).take (HT.sIx ai.length ai.length hi-HT.sIx ai.length 0 lo)).toArray:=by
 obtain ⟨h1,h2,h3⟩:=zgB_ lo hi ai.toArray.size
 unfold slicePick
 rw [h1,h2,h3]
 simp only [sliceRange_one,pick_run,List.size_toArray]<;>rfl
def rSlL (K:Fgg):V->Option Int->Option Int->Hp->VK->Prop:=fun x lo hi H Q=>∃ a xs,x=.ref a/\SqL K H a xs/\∀ p,H p=none->Q (.ref p) (upd H p (.lst (cutV xs lo hi)))
theorem zpT_:SlR X (rSlL X.K):=by
 intro pins s σ H x v vl vu lo hi sl Q I rx hs pl pu h
 obtain ⟨a,xs,rfl,hx,q⟩:=h
 cases rx
 obtain ⟨ai,r,ht,hz⟩:=I.list hx
 have hlen:=r.length
 refine ⟨"list",_,slot_list_getitem.lookup,ht.isList.typeIs,?_⟩
 refine wpAny_getItem_list_slice ht.isList hs pl pu .none (by simp) ?_ (by rw [List.size_toArray]<;>lia)
 rw [zf3_,<- hlen]
 refine ⟨.ref s.heap.objs.size,_,I.laid (t':=s.toks) (o:=.lst (cutV xs lo hi)) (fun b ob q=>Heap.get?_push_of_some _ q) (Nat.le_refl _) ?_,rfl,q _ (I.hok.fresh (Nat.le_refl _))⟩
 exact ⟨Nat.le_trans (zim_ xs lo hi) hz,_,0,(r.drop (HT.sIx xs.length 0 lo)).take (HT.sIx xs.length xs.length hi-HT.sIx xs.length 0 lo),Heap.get?_push_size _ rfl⟩
def flatV:V->Bool
 | .non=>true
 | .bl _=>true
 | .int _=>true
 | .str _=>true
 | _=>false
def eqV:V->V->Bool
 | .non,.non=>true
 | .bl a,.bl b=>a == b
 | .bl a,.int b=>(if a then 1 else 0) == b
 | .int a,.bl b=>a == (if b then 1 else 0)
 | .int a,.int b=>a == b
 | .str a,.str b=>a == b
 | _,_=>false
theorem zpH_ {A:Around}{s:Shared}{y x:V}{u v:Value}(ry:RelV y u)(rx:RelV x v)(fy:flatV y=true)(fx:flatV x=true):SeqAt.EqAt A s u v (eqV y x):=by
 cases y with
 | non =>
  cases ry
  cases x with
  | non=>cases rx; exact SeqAt.EqAt.same _
  | bl b=>cases rx; exact SeqAt.EqAt.none_bool b
  | int b=>obtain ⟨t,rfl⟩:=rx; exact SeqAt.EqAt.none_int b t
  | str b=>obtain ⟨t,rfl⟩:=rx; exact SeqAt.EqAt.none_str b t
  | _=>exact absurd (show false=true from fx) Bool.false_ne_true
 | bl a =>
  cases ry
  cases x with
  | non=>cases rx; exact SeqAt.EqAt.bool_none a
  | bl b=>cases rx; exact SeqAt.EqAt.bool_bool a b
  | int b=>obtain ⟨t,rfl⟩:=rx; exact SeqAt.EqAt.bool_int a b t
  | str b=>obtain ⟨t,rfl⟩:=rx; exact SeqAt.EqAt.bool_str a b t
  | _=>exact absurd (show false=true from fx) Bool.false_ne_true
 | int a =>
  obtain ⟨t',rfl⟩:=ry
  cases x with
  | non=>cases rx; exact SeqAt.EqAt.int_none a t'
  | bl b=>cases rx; exact SeqAt.EqAt.int_bool a t' b
  | int b=>obtain ⟨t,rfl⟩:=rx; exact SeqAt.EqAt.int_int a t' b t
  | str b=>obtain ⟨t,rfl⟩:=rx; exact SeqAt.EqAt.int_str a t' b t
  | _=>exact absurd (show false=true from fx) Bool.false_ne_true
 | str a =>
  obtain ⟨t',rfl⟩:=ry
  cases x with
  | non=>cases rx; exact SeqAt.EqAt.str_none a t'
  | bl b=>cases rx; exact SeqAt.EqAt.str_bool a t' b
  | int b=>obtain ⟨t,rfl⟩:=rx; exact SeqAt.EqAt.str_int a t' b t
  | str b=>obtain ⟨t,rfl⟩:=rx; exact SeqAt.EqAt.str_str a t' b t
  | _=>exact absurd (show false=true from fx) Bool.false_ne_true
 | _=>exact absurd (show false=true from fy) Bool.false_ne_true
def eqU (x:V)(u:Value):Bool:=match u with
 | .none=>eqV .non x
 | .bool b=>eqV (.bl b) x
 | .int i _=>eqV (.int i) x
 | .str z _=>eqV (.str z) x
 | _=>false
theorem zpG_ {x y:V}{u:Value}(r:RelV y u)(f:flatV y=true):eqU x u=eqV y x:=by
 cases y with
 | non=>cases r; rfl
 | bl b=>cases r; rfl
 | int i=>obtain ⟨t,rfl⟩:=r; rfl
 | str z=>obtain ⟨t,rfl⟩:=r; rfl
 | _=>exact absurd (show false=true from f) Bool.false_ne_true
theorem zju_ {x:V}:∀ {xs:List V}{us:List Value},Vals xs us->xs.all flatV=true->us.any (eqU x)=xs.any fun y=>eqV y x
 | _,_,.nil,_=>rfl
 | y::xs,u::us,.cons r t,f=>by
  rw [List.all_cons,Bool.and_eq_true] at f
  rw [List.any_cons,List.any_cons,zpG_ r f.1,zju_ t f.2]
theorem zhf_ {A:Around}{s:Shared}{x:V}{v:Value}(rx:RelV x v)(fx:flatV x=true):∀ {xs:List V}{us:List Value},Vals xs us->xs.all flatV=true->∀ u∈us,SeqAt.EqAt A s u v (eqU x u)
 | _,_,.nil,_=>fun u hu=>by cases hu
 | y::xs,u::us,.cons r t,f=>fun u' hu=>by
  rw [List.all_cons,Bool.and_eq_true] at f
  rcases List.mem_cons.mp hu with rfl | hu
  ·rw [zpG_ r f.1]; exact zpH_ r rx f.1 fx
  ·exact zhf_ rx fx t f.2 u' hu
def inV (x:V)(xs:List V):Bool:=xs.any fun y=>eqV y x
def rIn (K:Fgg)(neg:Bool):R2:=fun x y H Q=>∃ p xs,y=.ref p/\(SqL K H p xs\/SqT K H p xs)/\flatV x=true/\xs.all flatV=true/\Q (.bl (if neg then !inV x xs else inV x xs)) H
theorem zll_:OpR X (compareOp .In) (rIn X.K false):=by
 intro pins s σ H x y v u Q I rx ry h
 obtain ⟨p,xs,rfl,hq,fx,fs,q⟩:=h
 cases ry
 rcases hq with hq | hq
 ·obtain ⟨ai,r,pl,hz⟩:=I.list hq
  refine SeqAt.in_listAt (eqU x) pl.isList (fun w hw=>zhf_ rx fx r fs w (by simpa using hw)) ⟨.bl _,H,I,rfl,?_⟩
  rw [show ai.toArray.any (eqU x)=ai.any (eqU x) by simp,zju_ r fs]
  exact q
 ·obtain ⟨ai,r,pl,hz⟩:=I.tuple hq
  refine SeqAt.in_tupleAt (eqU x) pl (fun w hw=>zhf_ rx fx r fs w (by simpa using hw)) ⟨.bl _,H,I,rfl,?_⟩
  rw [show ai.toArray.any (eqU x)=ai.any (eqU x) by simp,zju_ r fs]
  exact q
theorem zgS_:CallR X (.builtin "len") (fun xs H Q=>∃ p ys,xs=[.ref p]/\(SqL X.K H p ys\/SqT X.K H p ys)/\Q (.int ys.length) H):=by
 intro pins s σ H xs us Q I r h
 obtain ⟨p,ys,rfl,hq,q⟩:=h
 obtain ⟨u,rfl,rx⟩:=vals1 r
 cases rx
 have hn:=line63
 rcases hq with hq | hq
 ·obtain ⟨ai,r',pl,hz⟩:=I.list hq
  have hlen:=r'.length
  exact Calls.call_len_list pl.isList (by simp only [List.size_toArray]<;>lia) ⟨.int ys.length,H,I.tok _,⟨s.toks+1,by rw [List.size_toArray,hlen]⟩,q⟩
 ·obtain ⟨ai,r',pl,hz⟩:=I.tuple hq
  have hlen:=r'.length
  exact len_tuple pl (by simp only [List.size_toArray]<;>lia) ⟨.int ys.length,H,I.tok _,⟨s.toks+1,by rw [List.size_toArray,hlen]⟩,q⟩
theorem zg7_:CallR X (.builtin "len") (fun xs H Q=>∃ z,xs=[.str z]/\z.length<=sizeLine/\Q (.int z.length) H):=by
 intro pins s σ H xs us Q I r h
 obtain ⟨z,rfl,hz,q⟩:=h
 obtain ⟨u,rfl,t,rfl⟩:=vals1 r
 have hn:=line63
 exact len_str (by lia) ⟨.int z.length,H,I.tok _,⟨_,rfl⟩,q⟩
theorem zhj_:CallR X (.type "list") (fun xs H Q=>∃ p ys,xs=[.ref p]/\(SqL X.K H p ys\/SqT X.K H p ys)/\∀ l,H l=none->Q (.ref l) (upd H l (.lst ys))):=by
 intro pins s σ H xs us Q I r h
 obtain ⟨p,ys,rfl,hq,q⟩:=h
 obtain ⟨u,rfl,rx⟩:=vals1 r
 cases rx
 have fin:∀ (ai:List Value),Vals ys ai->ys.length<=sizeLine->∀ (h':Heap) (c':Nat),(∀ b o',s.heap.get? b=some o'->h'.get? b=some o') ->
   h'.get? s.heap.objs.size=some { cls:=.type "list",dict:=none,data:=.seq ai.toArray c',slots:=#[] }->EP X pins σ Q (.ref s.heap.objs.size) { s with heap:=h' }:=fun ai r' hz h' c' kp e =>
  ⟨.ref s.heap.objs.size,_,I.laid (t':=s.toks) kp (Nat.le_refl _) (show ObjOk X.prog X.w _ h' _ (.lst ys) from ⟨hz,ai,c',r',e⟩),rfl,q _ (I.hok.fresh (Nat.le_refl _))⟩
 rcases hq with hq | hq
 ·obtain ⟨ai,r',pl,hz⟩:=I.list hq
  have hlen:=r'.length
  obtain ⟨o,ho,hc,n,hd⟩:=pl.isList
  exact call_list_seq p (.inl rfl) ho hc hd (fun h' c' kp e=>fin ai r' hz h' c' kp e) (by simp only [List.size_toArray]<;>lia)
 ·obtain ⟨ai,r',pl,hz⟩:=I.tuple hq
  have hlen:=r'.length
  obtain ⟨o,ho,hc,n,hd⟩:=pl
  exact call_list_seq p (.inr rfl) ho hc hd (fun h' c' kp e=>fin ai r' hz h' c' kp e) (by simp only [List.size_toArray]<;>lia)
def tyV (K:Fgg)(T:String)(x:V)(H:Hp):Prop:=match x with
 | .str _=>T="str"
 | .int _=>T="int"
 | .ref p=>(T="list" /\ ∃ xs,SqL K H p xs)\/(T="tuple" /\ ∃ o,K.lookup p=some o/\o.cls=.type "tuple" /\ o.dict=none) \/
   (T="dict" /\ ((∃ aa,H p=some (.dK aa))\/∃ aa,H p=some (.dT aa)))\/(T="set" /\ ∃ S n,H p=some (.set S n))
 | _=>False
theorem zoL_ {pins:Pnn}{σ:St}{H:Hp}{s:Shared}{T:String}{x:V}{v:Value}(I:Inv X pins σ H s)(r:RelV x v)(ty:tyV X.K T x H):
  s.TypeIs v T/\∀ a,v=.ref a->∃ ob,s.heap.get? a=some ob/\ob.dict=none:=by
 cases x with
 | str z =>
  obtain ⟨t,rfl⟩:=r
  cases (show T="str" from ty)
  exact ⟨typeIs_str s z t,fun _ e=>nomatch e⟩
 | int i =>
  obtain ⟨t,rfl⟩:=r
  cases (show T="int" from ty)
  exact ⟨typeIs_int s i t,fun _ e=>nomatch e⟩
 | ref p =>
  cases r
  rcases ty with ⟨rfl,xs,hq⟩ | ⟨rfl,o,hk,hc,hd⟩ | ⟨rfl,hk⟩ | ⟨rfl,S,n,hk⟩
  ·obtain ⟨ai,_,pl,_⟩:=I.list hq
   refine ⟨pl.isList.typeIs,fun a e=>?_⟩
   cases e
   obtain ⟨o,n,e,c,hd,_⟩:=pl
   exact ⟨o,e,hd⟩
  ·refine ⟨⟨o,I.kIn p o hk,hc⟩,fun a e=>?_⟩
   cases e
   exact ⟨o,I.kIn _ o hk,hd⟩
  ·have z:∃ o,s.heap.get? p=some o/\o.ExactDict:=by
    rcases hk with ⟨aa,hk⟩ | ⟨aa,hk⟩
    ·obtain ⟨_,_,_,_,o,_,_,e,ex,_⟩:=I.hok p _ hk
     exact ⟨o,e,ex⟩
    ·obtain ⟨_,_,_,_,o,_,_,e,ex,_⟩:=I.hok p _ hk
     exact ⟨o,e,ex⟩
   obtain ⟨o,e,ex⟩:=z
   refine ⟨⟨o,e,ex.1⟩,fun a e2=>?_⟩
   cases e2
   exact ⟨o,e,ex.2.1⟩
  ·obtain ⟨o,_,_,_,e,ex,_⟩:=I.hok p _ hk
   refine ⟨⟨o,e,ex.1⟩,fun a e2=>?_⟩
   cases e2
   exact ⟨o,e,ex.2.1⟩
 | _=>exact False.elim ty
def tBM0 (K:Fgg)(T:String)(r:V->List V->Hp->VK->Prop)(to:TE):TE:=fun σ H Q=>to σ H fun x H1=>tyV K T x H1/\r x [] H1 Q
def tBM (K:Fgg)(T:String)(r:V->List V->Hp->VK->Prop)(to:TE)(t:TA):TE:=fun σ H Q=>to σ H fun x H1=>tyV K T x H1/\t σ H1 fun xs H2=>r x xs H2 Q
variable {o e:Expr}{es:List Expr}{to:TE}{t:TA}{name:Str}{apos aP:Pos}{T id:String}{r:V->List V->Hp->VK->Prop}
theorem zqz_ (pa:PlainAttrs T)(slot:Slot T name id)(iZ:typeOf (.builtin id)=pure (.type "method_descriptor"))(hm:MtR X id r)(ho:PE X o to)
  (eE:attributeBase o name X.env (eval o X.env)=eval o X.env:=by rfl) (er:(apos.endLine == aP.line)=true:=by rfl):PE X (.Call (.Attribute o name apos) [] [] aP) (tBM0 X.K T r to):=by
 intro pins s σ H Q I h
 refine wpAny_Call_method0_late eE er (thn (ho pins s σ H _ I h) fun v s1 ao=>?_)
 obtain ⟨x,H1,I1,r1,ty,q1⟩:=ao
 obtain ⟨h1,h2⟩:=zoL_ I1 r1 ty
 exact ⟨T,id,pa,slot,iZ,h1,h2,Calls.callWith_builtin rfl (PySem.evalArgs_none (hm pins s1 σ H1 x [] v [] Q I1 r1 .nil q1))⟩
theorem zlX_ (pa:PlainAttrs T)(slot:Slot T name id)(iZ:typeOf (.builtin id)=pure (.type "method_descriptor"))(hm:MtR X id r)(ho:PE X o to)(ha:PA X (e::es) t)
  (eE:attributeBase o name X.env (eval o X.env)=eval o X.env:=by rfl)
  (lN:((backTo aP (starEach (e::es) X.env)).all (fun x=>!x.1) && (backToKw aP (keywordEach [] X.env)).all (fun x=>x.1.isSome)
   && decide ((e::es).length+([]:List Keyword).length+(if ([]:List Keyword).isEmpty then 0 else 1)<30))=true:=by rfl)
  (er:(apos.endLine == aP.line)=true:=by rfl) (hs:starEach (e::es) X.env=(false,eval e X.env)::starEach es X.env:=by rfl) (gy:(backTo aP (starEach es X.env)).any (·.1)=false:=by rfl):
  PE X (.Call (.Attribute o name apos) (e::es) [] aP) (tBM X.K T r to t):=by
 intro pins s σ H Q I h
 refine wpAny_Call_method_late eE lN er rfl (thn (ho pins s σ H _ I h) fun v s1 ao=>?_)
 obtain ⟨x,H1,I1,r1,ty,q1⟩:=ao
 obtain ⟨h1,h2⟩:=zoL_ I1 r1 ty
 refine ⟨T,id,pa,slot,iZ,h1,h2,?_⟩
 have hA:=ha aP pins s1 σ H1 _ I1 q1
 rw [hs] at hA ⊢
 refine Calls.callWith_builtin (by show (false || (backTo aP (starEach es X.env)).any (·.1))=false; rw [gy]<;>rfl) (Calls.evalArgs_plain ?_)
 exact thn hA fun us s2 ⟨vs,H2,I2,r2,q2⟩=>hm pins s2 σ H2 x vs v us Q I2 r1 r2 q2
end
def MtM (X:Cx)(id:String)(r:V->List V->Hp->VK->Prop):Prop:=
 ∀ (pins:Pnn) (s:Shared) (σ:St) (H:Hp) (x:V) (xs:List V) (v:Value) (us:List Value) (Q:VK),Inv X pins σ H s->RelV x v->Vals xs us->r x xs H Q ->
  wpAny (model X.prog X.w) X.A (call (.builtin id) (v::us)) (EP X pins σ Q) X.xe s
theorem Vals.one:∀ {x:V}{us:List Value},Vals [x] us->∃ u,us=[u]/\RelV x u
 | _,_,.cons r .nil=>⟨_,rfl,r⟩
theorem Vals.zero:∀ {us:List Value},Vals [] us->us=[]
 | _,.nil=>rfl
theorem Vals.dropLast {xs:List V}{us:List Value}(h:Vals xs us):Vals xs.dropLast us.dropLast:=by
 induction h with
 | nil=>exact .nil
 | cons r t ih =>
  cases t with
  | nil=>exact .nil
  | cons q t'=>exact .cons r ih
theorem Vals.rep {xs:List V}{us:List Value}(h:Vals xs us):∀ k:Nat,Vals (List.replicate k xs).flatten (List.replicate k us).flatten
 | 0=>.nil
 | k+1=>by
  rw [List.replicate_succ,List.replicate_succ,List.flatten_cons,List.flatten_cons]
  exact Vals.append h (Vals.rep h k)
theorem zjl_ {α:Type}(l:List α):l.eraseIdx (l.length-1)=l.dropLast:=by
 induction l with
 | nil=>rfl
 | cons a r ih =>
  cases r with
  | nil=>rfl
  | cons b r =>
   have e:(a::b::r).length-1=((b::r).length-1)+1:=by
    have h1:(a::b::r).length=r.length+2:=rfl
    have h2:(b::r).length=r.length+1:=rfl
    lia
   rw [e,List.eraseIdx_cons_succ,ih]
   all_goals rfl
theorem zh5_ (ai:List Value):∀ (k:Nat) (acc:List Value),
  List.foldl (fun x1 x2=>x1++x2) acc.toArray (List.replicate k ai.toArray)=(acc++(List.replicate k ai).flatten).toArray
 | 0,acc=>by simp
 | k+1,acc=>by
  have e:acc.toArray++ai.toArray=(acc++ai).toArray:=by simp
  have e2:(acc++ai)++(List.replicate k ai).flatten=acc++(List.replicate (k+1) ai).flatten:=by
   rw [List.replicate_succ,List.flatten_cons,List.append_assoc]
  rw [<- e2,<- zh5_ ai k (acc++ai),<- e,List.replicate_succ,List.foldl_cons]
section
variable {X:Cx}{pins:Pnn}{σ:St}{H:Hp}{s:Shared}{l:Addr}{xs ys:List V}
theorem Inv.lset {ai its':List Value}{n:Nat}{f:Array Value->Array Value}{t':Nat}(I:Inv X pins σ H s)(hH:H l=some (.lst xs))
  (e:s.heap.get? l=some { cls:=.type "list",data:=.seq ai.toArray n }) (hf:f ai.toArray=its'.toArray) (hv:Vals ys its') (hz:ys.length<=sizeLine):
  Inv X pins σ (upd H l (.lst ys)) { s with heap:=s.heap.update l (Obj.mapSeq f),toks:=t' }:=by
 have q:=PySem.IsL.update e f
 rw [hf] at q
 refine I.write (x:=l) (e:=l) (by rw [hH]; exact trivial) (.inl rfl) (fun b' u hb hu=>(Heap.get?_update_other s.heap (Obj.mapSeq f) (Ne.symm hb)).trans hu) ⟨_,q⟩ ?_
 exact ⟨hz,its',_,hv,q⟩
theorem Inv.lnew {ai:List Value}{t':Nat}(I:Inv X pins σ H s)(hv:Vals ys ai)(hz:ys.length<=sizeLine):
  Inv X pins σ (upd H s.heap.objs.size (.lst ys)) { s with heap:=s.heap.push { cls:=.type "list",data:=.seq ai.toArray },toks:=t' }:=
 I.laid (fun _ _ q=>Heap.get?_push_of_some _ q) (Nat.le_refl _) ⟨hz,ai,0,hv,Heap.get?_push_size _ rfl⟩
theorem Inv.fresh (I:Inv X pins σ H s):H s.heap.objs.size=none:=I.hok.fresh (Nat.le_refl _)
theorem Inv.lstM (I:Inv X pins σ H s)(hH:H l=some (.lst xs)):xs.length<=sizeLine/\∃ (ai:List Value) (n:Nat),Vals xs ai/\xs.length=ai.length/\s.heap.get? l=some { cls:=.type "list",data:=.seq ai.toArray n }:=by
 obtain ⟨z,ai,n,r,e⟩:=I.hok l _ hH
 exact ⟨z,ai,n,r,r.length,e⟩
theorem notLongL {n:Nat}(h:n<=sizeLine):Builtin.List.listTooLong n=false:=by
 unfold Builtin.List.listTooLong
 exact decide_eq_false (by lia)
end
section
variable {X:Cx}
def rAppend:V->List V->Hp->VK->Prop:=fun x vs H Q=>∃ l xs y,x=.ref l/\vs=[y]/\H l=some (.lst xs)/\xs.length<sizeLine/\Q .non (upd H l (.lst (xs++[y])))
theorem zca_:MtM X "list.append" rAppend:=by
 intro pins s σ H x vs v us Q I rx rv h
 obtain ⟨l,xs,y,rfl,rfl,hH,hz,q⟩:=h
 cases rx
 obtain ⟨u,rfl,ru⟩:=rv.one
 obtain ⟨z,ai,n,r,hl,e⟩:=I.lstM hH
 refine call_meets F.slot_list_append ⟨_,e,rfl⟩ F.entry_list_append (F.args_list_append_2 _ _) (PySem.list_append l ai.toArray n u (by rw [List.size_toArray]; lia)) ⟨e,?_⟩
 refine ⟨.non,_,I.lset (its':=ai++[u]) hH e (by simp) (r.append (.cons ru .nil)) ?_,rfl,q⟩
 rw [List.length_append,List.length_singleton]
 lia
def rExtend:V->List V->Hp->VK->Prop:=fun x vs H Q=>∃ l b xs zs,x=.ref l/\vs=[.ref b]/\H l=some (.lst xs)/\H b=some (.lst zs)/\xs.length+zs.length<=sizeLine/\Q .non (upd H l (.lst (xs++zs)))
theorem zlb_:MtM X "list.extend" rExtend:=by
 intro pins s σ H x vs v us Q I rx rv h
 obtain ⟨l,b,xs,zs,rfl,rfl,hH,hB,hz,q⟩:=h
 cases rx
 obtain ⟨u,rfl,ru⟩:=rv.one
 cases ru
 obtain ⟨z,ai,n,r,hl,e⟩:=I.lstM hH
 obtain ⟨z2,aM,n2,r2,jX,e2⟩:=I.lstM hB
 have hsz:ai.toArray.size+aM.toArray.size<=sizeLine:=by rw [List.size_toArray,List.size_toArray]; lia
 have eg:¬ (!ai.toArray.isEmpty && Builtin.List.listTooLong (ai.toArray.size+aM.toArray.size))=true:=by
  rw [notLongL hsz,Bool.and_false]
  exact Bool.false_ne_true
 refine call_meets F.slot_list_extend ⟨_,e,rfl⟩ F.entry_list_extend (F.args_list_extend_2 _ _)
  (AutoSeq1.list_extend_list_list_0 l ai.toArray n b aM.toArray n2 eg (by rw [List.size_toArray]; lia) (by lia)) ⟨e,e2,?_⟩
 refine ⟨.non,_,I.lset (its':=ai++aM) hH e (by simp) (r.append r2) ?_,rfl,q⟩
 rw [List.length_append]
 lia
def rPop:V->List V->Hp->VK->Prop:=fun x vs H Q=>∃ l xs y,x=.ref l/\vs=[]/\H l=some (.lst xs)/\xs[xs.length-1]?=some y/\Q y (upd H l (.lst xs.dropLast))
theorem mt_pop:MtM X "list.pop" rPop:=by
 intro pins s σ H x vs v us Q I rx rv h
 obtain ⟨l,xs,y,rfl,rfl,hH,hy,q⟩:=h
 cases rx
 have iX:=rv.zero
 subst iX
 obtain ⟨z,ai,n,r,hl,e⟩:=I.lstM hH
 obtain ⟨u,hu,ru⟩:=r.get hy
 have iV:ai.toArray[ai.toArray.size-1]?=some u:=by
  show ai.toArray[ai.length-1]?=some u
  rw [<- Array.getElem?_toList,<- hl]
  exact hu
 refine call_meets F.slot_list_pop ⟨_,e,rfl⟩ F.entry_list_pop (F.args_list_pop_1 _) (MeetsSeq.list_pop_last l ai.toArray n u iV (by rw [List.size_toArray]; lia)) ⟨e,?_⟩
 refine ⟨y,_,I.lset (its':=ai.dropLast) hH e ?_ r.dropLast ?_,ru,q⟩
 ·show ai.toArray.eraseIdxIfInBounds (ai.toArray.size-1)=ai.dropLast.toArray
  rw [List.size_toArray,List.eraseIdxIfInBounds_toArray,zjl_]
 ·rw [List.length_dropLast]
  lia
def rClear:V->List V->Hp->VK->Prop:=fun x vs H Q=>∃ l xs,x=.ref l/\vs=[]/\H l=some (.lst xs)/\Q .non (upd H l (.lst []))
theorem znE_:MtM X "list.clear" rClear:=by
 intro pins s σ H x vs v us Q I rx rv h
 obtain ⟨l,xs,rfl,rfl,hH,q⟩:=h
 cases rx
 have iX:=rv.zero
 subst iX
 obtain ⟨z,ai,n,r,hl,e⟩:=I.lstM hH
 refine call_meets F.slot_list_clear ⟨_,e,rfl⟩ F.entry_list_clear (F.args_list_clear_1 _) (AutoSeq1.list_clear_list_0 l ai.toArray n (by rw [List.size_toArray]; lia)) ⟨e,?_⟩
 exact ⟨.non,_,I.lset (its':=[]) (ys:=[]) hH e rfl .nil (Nat.zero_le _),rfl,q⟩
def rCat:R2:=fun x y H Q=>∃ l b xs zs,x=.ref l/\y=.ref b/\H l=some (.lst xs)/\H b=some (.lst zs)/\xs.length+zs.length<=sizeLine/\∀ p,H p=none->Q (.ref p) (upd H p (.lst (xs++zs)))
theorem zrh_:OpR X (binaryOp .Add) rCat:=by
 intro pins s σ H x y v u Q I rx ry h
 obtain ⟨l,b,xs,zs,rfl,rfl,hH,hB,hz,q⟩:=h
 cases rx
 cases ry
 obtain ⟨z,ai,n,r,hl,e⟩:=I.lstM hH
 obtain ⟨z2,aM,n2,r2,jX,e2⟩:=I.lstM hB
 refine PySem.P.add_list e e2 ?_ (by rw [List.size_toArray,List.size_toArray]; lia)
 have ea:ai.toArray++aM.toArray=(ai++aM).toArray:=by simp
 rw [ea]
 exact ⟨.ref _,_,I.lnew (t':=s.toks) (r.append r2) (by rw [List.length_append]; lia),rfl,q _ I.fresh⟩
def rRep:R2:=fun x y H Q=>∃ l k xs,x=.ref l/\y=.int k/\H l=some (.lst xs) /\ -(2 ^ 63)<=k/\k<2 ^ 63/\xs.length*k.toNat<=sizeLine /\
 ∀ p,H p=none->Q (.ref p) (upd H p (.lst (List.replicate k.toNat xs).flatten))
theorem zmq_ {α:Type}(xs:List α)(k:Nat):(List.replicate k xs).flatten.length=k*xs.length:=by
 induction k with
 | zero=>simp
 | succ k ih=>rw [List.replicate_succ,List.flatten_cons,List.length_append,ih,Nat.succ_mul,Nat.add_comm]
theorem zrb_:OpR X (binaryOp .Mult) rRep:=by
 intro pins s σ H x y v u Q I rx ry h
 obtain ⟨l,k,xs,rfl,rfl,hH,h1,h2,hz,q⟩:=h
 cases rx
 obtain ⟨t,rfl⟩:=ry
 obtain ⟨z,ai,n,r,hl,e⟩:=I.lstM hH
 have hlen:ai.toArray.size*k.toNat<=sizeLine:=by rw [List.size_toArray,<- hl]; exact hz
 have lQ:¬ ai.toArray.size*k.toNat > (2 ^ 63-1) / 8:=by
  have:(sizeLine:Nat)<=(2 ^ 63-1) / 8:=by decide
  lia
 have gE:¬ (!Builtin.List.listFitsIndex k)=true:=by
  rw [fitsIndex_both h1 h2]
  exact Bool.false_ne_true
 have eg:¬ Builtin.List.listTooLong (ai.toArray.size*k.toNat)=true:=by
  rw [notLongL hlen]
  exact Bool.false_ne_true
 have lE:List.foldl (fun x1 x2=>x1++x2) #[] (List.replicate (if ai.toArray.isEmpty=true then 0 else k.toNat) ai.toArray)=(List.replicate k.toNat ai).flatten.toArray:=by
  have f0:∀ m:Nat,List.foldl (fun x1 x2=>x1++x2) #[] (List.replicate m ai.toArray)=(List.replicate m ai).flatten.toArray:=fun m=>by
   have:=zh5_ ai m []
   rw [List.nil_append] at this
   exact this
  rw [f0]
  cases ai with
  | nil=>simp
  | cons a r'=>rw [if_neg (by simp)]
 refine wpAny_binaryOp_repeat_ref (T:="list") (U:="int") (by decide) ⟨_,e,rfl⟩ (fun s'=>typeIs_int s' k t) noFill_list_mul F.fills_int_mul F.slot_int_rmul repeat_list F.slot_int_index.lookup
  (call_meets F.slot_int_rmul (typeIs_int s k t) F.entry_int_rmul (F.args_int_rmul_2 _ _) (int___rmul___int_list k t l ai.toArray n)
   ⟨e,rfl,⟨_,e,rfl⟩,call_meets F.slot_list_mul ⟨_,e,rfl⟩ F.entry_list_mul (F.args_list_mul_2 _ _) (AutoListH.list___mul___list_int_3 l ai.toArray n k t gE lQ eg) ⟨e,?_⟩⟩)
 rw [lE]
 exact ⟨.ref _,_,I.lnew (t':=s.toks) (r.rep k.toNat) (by rw [zmq_,Nat.mul_comm]; exact hz),rfl,q _ I.fresh⟩
end
end L2
namespace Att
open PySem PySem.W PySem.Calls PyProof.Rows
theorem zeo_ {P:Params}{h:Heap}:∀ (ns:List Int) (vs:List Value),WellAll P h vs (ns.map WData.int)->IntsAre vs ns:=by
 intro ns
 induction ns with
 | nil =>
  intro vs w
  rw [List.map_nil] at w
  cases w
  exact .nil
 | cons n ns ih =>
  intro vs w
  rw [List.map_cons] at w
  cases w with
  | cons a b =>
   cases a
   exact .cons _ _ (ih _ b)
theorem zk5_ {l:OpenLaw}{n:Nat}(hn:l.most=some n){P:Params}{h:Heap}{args:List WData}{vals:List Value}
  (fE:l.row.toRowW.claim.pre args=true) (lq:WellAll P h vals args):
  ∃ a vs ns,vals=[Value.ref a]/\args=[WData.list (ns.map WData.int)]/\h.get? a=some { cls:=.type "list",data:=.seq vs.toArray }/\IntsAre vs ns/\ns.length<=n:=by
 have qb:WShape.hasAll [] args [.list .int]=true:=(pre_splitW fE).1
 have hc:l.pre.holds [] { args:=args }=true:=(pre_splitW fE).2
 obtain ⟨d,r,rfl,h1,h2⟩:=hasAllW_cons qb
 obtain rfl:=hasAllW_nil h2
 obtain ⟨xs,rfl,h3⟩:=hasW_list h1
 obtain ⟨ns,rfl⟩:=items_int h3
 have hlen:ns.length<=n:=by
  unfold OpenLaw.pre at hc
  have h4:(WTm.not (.lt (.lit (.int (n:Int))) (.len (.arg 0)))).holds [] { args:=[.list (ns.map .int)] }=true:=by
   have h4:=(holds_andW hc).1
   rw [hn] at h4
   exact h4
  have h5:=condW_of h4 (w_not (w_lt w_lit (w_len_list (w_arg rfl))))
  rw [List.length_map] at h5
  refine Nat.le_of_not_lt fun q=>?_
  have q':(n:Int)<((ns.length:Nat):Int):=by lia
  first
   | (rw [decide_eq_true q'] at h5; exact absurd h5 (by decide))
   | (simp at h5; lia)
 cases lq with
 | cons w1 w2 =>
  cases w2
  cases w1 with
  | list ho eF=>exact ⟨_,_,ns,rfl,rfl,ho,zeo_ ns _ eF,hlen⟩
theorem zlf_ (l:OpenLaw)(args:List WData):l.row.toRowW.claim.post args (.bool true) args=true:=
 postW_of (r:=l.row.toRowW) (X:=(true == true))
  (show WShape.has [] (.bool true) .bool=true by first | rfl | decide | simp [WShape.has,WShape.arms,WShape.armsAll])
  (show (WTm.eq .res (.lit (.bool true))).value [] { args:=args,res:=some (.bool true),after:=args }=some (.bool (true == true)) from w_eq_bool (w_res rfl) w_lit) rfl
section
end
end Att
namespace L2
open PySem PySem.Spec PyProof.Rows
theorem zhR_:∀ {vs:List Value}{ns:List Int},IntsAre vs ns->Vals (ns.map V.int) vs
 | _,_,.nil=>.nil
 | _,_,.cons n t h=>.cons ⟨t,rfl⟩ (zhR_ h)
def Only (H:Hp):Prop:=∀ b,H b=none\/∃ o xs,H b=some (.frz o (.lst xs))
theorem zn4_ {P:Program}{w:World}{K:Fgg}{mg mb:Str->Option Value}{CX:CXT}{k:Nat}{fa a:Addr}{fd:FuncData}{x:Str}{sp:Sp}{av:Shared}{vs:List Value}{ns:List Int}
  (KX:K.In av.heap) (lD:av.heap.Ns mainGlobals mg) (hb:av.heap.Ns builtinsNs mb) (qo:∀ x:Str,x ≠ "__name__" -> mb x=bootBuiltins x) (lI:av.heap.NoLimit) (hg:av.gens=#[])
  (ha:av.heap.get? a=some { cls:=.type "list",data:=.seq vs.toArray }) (hi:IntsAre vs ns) (hl:ns.length<=sizeLine) (hr:Room k callerA)
  (F:∀ base:Heap,K.In base->base.Ns mainGlobals mg->FnOk P w K mg base CX k fa fd [x] sp) (jr:∀ (s:Shared) (u:Value),BindsTo s fd ⟨[u],[]⟩ [(x,u)])
  (cM:∀ H:Hp,Only H->SqL K H a (ns.map V.int)->sp [.ref a] H (fun v _=>v=.bl true) fun _ _ _=>False)
  (lU:∀ H e s',CX [] H av (fun _ _ _=>False) e s'->False):
  codeAny (model P w) callerA (.call (.ref fa) ⟨[.ref a],[]⟩) (fun r s'=>r=.ok (.ret (.bool true))/\OldK av.heap s'.heap/\s'.os=av.os/\AllBare s'.gens) av:=by
 have rv:=zhR_ hi
 have kU:=hi.length
 have core:∀ H:Hp,Only H->SqL K H a (ns.map V.int)->HOk P w H av.heap->(∀ b,H b≠none->b=a)->(H a≠none->K.lookup a=none) ->
   codeAny (model P w) callerA (.call (.ref fa) ⟨[.ref a],[]⟩) (fun r s'=>r=.ok (.ret (.bool true))/\OldK av.heap s'.heap/\s'.os=av.os/\AllBare s'.gens) av:=by
  intro H hO hS hok hA hK
  have dI:∀ {b:Addr}{o:Obj},av.heap.get? b=some o->H b=none->(hidT av.heap H).get? b=some o:=fun e n=>zmX_ e n
  have iK:∀ {b:Addr}{o:Obj}{es:Array DictEntry}{ep:Nat},av.heap.get? b=some o->o.data=.dict es ep->H b=none:=fun {b o es ep} e d=>by
   cases q:H b with
   | none=>rfl
   | some u =>
    have e':b=a:=hA b (by rw [q]; simp)
    subst e'
    rw [ha] at e; cases e
    have d':Data.seq vs.toArray _=Data.dict es ep:=d
    cases d'
  have jU:∀ {b:Addr}{m:Str->Option Value},av.heap.Ns b m->(hidT av.heap H).Ns b m:=fun {b m} ⟨o,es,ep,e,d,r⟩=>⟨o,es,ep,dI e (iK e d),d,r⟩
  have nY:K.In (hidT av.heap H):=fun b o e=>dI (KX b o e) (by
   cases q:H b with
   | none=>rfl
   | some u =>
    have e':b=a:=hA b (by rw [q]; simp)
    subst e'
    rw [hK (by rw [q]; simp)] at e; cases e)
  have hM:Mod K mg (hidT av.heap H):=⟨nY,jU lD,⟨mb,jU hb,qo⟩,let ⟨mc,h1,h2⟩:=lI; ⟨mc,jU h1,h2⟩⟩
  have e0:Env0 P w K mg (hidT av.heap H) callerA [] av H:=⟨rfl,hM,fun b o e=>zoB_ e,Nat.le_of_eq (zkQ_ _ _),trivial,fun b hb=>absurd (show b∈([]:List Addr) from hb) (by simp),hok,.of_eq hg⟩
  refine codeAny_mono ((F _ nY (jU lD)).run callerA [] av H ⟨[.ref a],[]⟩ [.ref a] [.ref a] _ _ hr e0 (jr av (.ref a)) (.cons rfl .nil) (cM H hO hS)) fun r s' h=>?_
  cases r with
  | error e=>exact (lU H e s' h).elim
  | ok fl =>
   cases fl with
   | next=>exact False.elim h
   | brk=>exact False.elim h
   | cont=>exact False.elim h
   | ret u =>
    obtain ⟨v,H',os,bare,un,hok',r',q⟩:=h
    have q':v=.bl true:=q
    subst q'
    obtain rfl:u=Value.bool true:=r'
    refine ⟨rfl,OldK.of_keep fun b o e=>?_,os,bare⟩
    cases q:H b with
    | none=>exact un.keep b o e q (by intro z; exact absurd (show b∈([]:List Addr) from z) (by simp)) (by simp)
    | some u =>
     rcases hO b with z | ⟨ob,xs,z⟩
     ·rw [q] at z; cases z
     ·have z2:=un.frzs b ob _ z
      obtain ⟨e1,_⟩:=hok b _ z
      obtain ⟨e2,_⟩:=hok' b _ z2
      rw [e] at e1; cases e1
      exact e2
 cases hk:K.lookup a with
 | some o =>
  have e:=KX a o hk
  rw [ha] at e
  cases e
  refine core (fun _=>none) (fun _=>.inl rfl) (.inr ⟨_,vs.toArray,_,hk,rfl,rfl,rfl,by rw [List.size_toArray,kU]; exact hl,by simpa using rv⟩) (fun b u z=>by have z':(none:Option HO)=some u:=z; cases z') (fun b z=>absurd rfl z) fun z=>absurd rfl z
 | none =>
  refine core (fun b=>if b=a then some (.frz { cls:=.type "list",data:=.seq vs.toArray } (.lst (ns.map V.int))) else none) (fun b=>?_) (.inl (.inr ⟨{ cls:=.type "list",data:=.seq vs.toArray },if_pos rfl⟩)) (fun b u z=>?_) (fun b z=>?_) fun _=>hk
  ·by_cases hb:b=a
   ·exact .inr ⟨_,_,if_pos hb⟩
   ·exact .inl (if_neg hb)
  ·by_cases hb:b=a
   ·have z':=(if_pos hb).symm.trans z
    cases z'
    subst hb
    exact ⟨ha,by rw [List.length_map]; exact hl,vs,_,rv,ha⟩
   ·have z':=(if_neg hb).symm.trans z
    cases z'
  ·by_cases hb:b=a
   ·exact hb
   ·exact absurd (if_neg hb) z
def inClass (s:Stmt)(j:Nat):Stmt:=match s with
 | .ClassDef _ _ _ body _ _ _ _ _ _ _=>body.getD j (.Pass ⟨0,0,0,0⟩)
 | _=>.Pass ⟨0,0,0,0⟩
def defArgs (s:Stmt):Arguments:=match s with
 | .FunctionDef _ a _ _ _ _ _ _ _ _=>a
 | _=>{ posonlyargs:=[],args:=[],vararg:=none,kwonlyargs:=[],kw_defaults:=[],kwarg:=none,defaults:=[] }
def defBody (s:Stmt):List Stmt:=match s with
 | .FunctionDef _ _ b _ _ _ _ _ _ _=>b
 | _=>[]
def defScope (s:Stmt):Scope:=match s with
 | .FunctionDef _ _ _ _ _ _ sc _ _ _=>sc
 | _=>{ kind:=.function,names:=[],isGenerator:=false,isCoroutine:=false }
abbrev CX0:CXT:=fun _ _ _ _ _ _=>False
abbrev E0:XK:=fun _ _ _=>False
theorem pass0 {X:Cx}:Passes CX0 X E0:=fun _ _ _ _ _ _ _ h=>h.elim
structure Fun (K:Fgg)(x qual:Str)(st:Stmt)(f:Addr)(fd:FuncData):Prop where
 ex:∃ (oc:Value) (od:Option Addr) (kV doc pm:Value) (an:Option Addr) (ar ct:Value) (bL:Array (Option Value)),
  fd=W.fnOf x qual (defArgs st) (defBody st) (defScope st) .none kV doc pm an ar ct/\K.lookup f=some ⟨oc,od,.func fd,bL⟩/\W.codeIn K ar qual=true
 kp:W.keepIn K (.ref f)=true
section
variable {P:Program}{w:World}{K:Fgg}{mg:Str->Option Value}{base:Heap}
theorem Fun.ok {x qual:Str}{st:Stmt}{f:Addr}{fd:FuncData}{N ps:List Str}{k:Nat}{sp:Sp}(F:Fun K x qual st f fd)(S:FnScope N ps (defScope st))(len:∀ vs H Q E,sp vs H Q E->vs.length=ps.length)
  (bF:∀ (ar:Value) (A:Around) (outer:List Env) (s:Shared) (H:Hp) (vs:List V) (Q:VK) (E:XK),Room k (A.deeper (envOfC qual (defScope st) s.heap.objs.size f ar))->sp vs H Q E ->
   ∃ t,PSs (cxOf CX0 P w K mg base N qual (defScope st) f ar A outer s H E).nox (defBody st) t/\t { nx:=fun _ H'=>Q .non H',rt:=Q } (start N vs) H):FnOk P w K mg base CX0 (k+1) f fd ps sp:=by
 obtain ⟨oc,od,kV,doc,pm,an,ar,ct,bL,rfl,lk,cY⟩:=F.ex
 refine fn_of lk cY S len fun A outer s H vs Q E hr cM=>?_
 obtain ⟨t,h,q⟩:=bF ar A outer s H vs Q E hr cM
 exact ⟨t,h.nox,q⟩
theorem Fun.binds {x qual:Str}{st:Stmt}{f:Addr}{fd:FuncData}{ps:List Str}(F:Fun K x qual st f fd)
  (h:∀ (kV doc pm:Value) (an:Option Addr) (ar ct:Value) (us:List Value),us.length=ps.length->bindArgs (W.fnOf x qual (defArgs st) (defBody st) (defScope st) .none kV doc pm an ar ct) ⟨us,[]⟩=pure (ps.zip us)):Binds K fd ps []:=by
 obtain ⟨oc,od,kV,doc,pm,an,ar,ct,bL,rfl,lk,cY⟩:=F.ex
 exact .all (h kV doc pm an ar ct)
theorem zoq_ {x qual:Str}{st:Stmt}{f:Addr}{oc:Value}{od an:Option Addr}{bL:Array (Option Value)}{kV doc pm ar ct:Value}(l:K.lookup f=some ⟨oc,od,.func (W.fnOf x qual (defArgs st) (defBody st) (defScope st) .none kV doc pm an ar ct),bL⟩)
  (c:W.codeIn K ar qual=true) (k:W.keepIn K (.ref f)=true):Fun K x qual st f (W.fnOf x qual (defArgs st) (defBody st) (defScope st) .none kV doc pm an ar ct):=⟨⟨oc,od,kV,doc,pm,an,ar,ct,bL,rfl,l,c⟩,k⟩
end
def Same (H H':Hp):Prop:=∀ b o,H b=some o->H' b=some o
theorem Same.refl (H:Hp):Same H H:=fun _ _ h=>h
theorem Same.trans {H H1 H2:Hp}(a:Same H H1)(b:Same H1 H2):Same H H2:=fun c o h=>b c o (a c o h)
theorem Same.free {H H':Hp}(e:Same H H'){l:Addr}(h:H' l=Option.none):H l=Option.none:=by
 cases q:H l with
 | none=>rfl
 | some o =>
  rw [e l o q] at h
  cases h
theorem Same.seq {K:Fgg}{H H':Hp}{a:Addr}{xs:List V}(e:Same H H')(h:SqL K H a xs):SqL K H' a xs:=by
 rcases h with (h | ⟨o,h⟩) | h
 ·exact .inl (.inl (e _ _ h))
 ·exact .inl (.inr ⟨o,e _ _ h⟩)
 ·exact .inr h
def Itp (n:Nat)(f:Nat->V):It:=⟨fun i _=>i<n,fun i H x H'=>H'=H/\x=f i,fun i _=>n<=i⟩
def ownTups:List String:=["enumerate", "zip", "dict_itemiterator", "dict_reverseitemiterator", "odict_iterator", "itertools.zip_longest", "itertools.pairwise"]
theorem zla_ {P:Program}{w:World}{K:Fgg}{tg:Expr}{it:Addr}{n:Nat}{f:Nat->V}{Pw:Nat->Value->Prop}{St:Nat->Heap->Prop}
  (W:∀ A:Around,A.handled=none->Walks P w A it [it] [it] n Pw St) (hv:∀ i v,i<n->Pw i v->RelV (f i) v)
  (ho:∀ i h,St i h->∃ o nm vs,h.get? it=some o/\o.cls=.type nm/\o.data=.fields vs/\ownTups.contains nm=false)
  (i6:∀ (A:Around) (i:Nat) (s:Shared) (Q:Value->Shared->Prop) (E:Value->Shared->Prop),St i s.heap->Q (.ref it) s->wpAny (model P w) A (pyIter (.ref it)) Q E s)
  (i_:∀ i h h',St i h->(∀ b∈[it],∀ o,h.get? b=some o->h'.get? b=some o)->St i h'):
  Turn P w K tg (Itp n f) [it] it (fun i h=>i<=n/\St i h) where
 mem:=by simp
 obj:=fun i h st b hb=>by
  have e:b=it:=by simpa using hb
  subst e
  obtain ⟨o,nm,vs,e,c,d,_⟩:=ho i h st.2
  exact ⟨o,e,fun v z=>by rw [d] at z; cases z⟩
 keep:=fun i h h' st k=>⟨st.1,i_ i h h' st.2 k⟩
 item:=by
  intro X hP hw hK hc i pins s σ H E I hf st hg
  subst hP hw hK
  obtain ⟨f0,f1,f2,f3,f4,f5⟩:=hf it (by simp)
  have hi:i<n:=hg
  refine (W X.A (I.ok.hd hc)).item i s _ _ hi st.2 fun v h' tk eV d8 kk=>?_
  have I1:Inv X pins σ H { s with heap:=h',toks:=tk }:=I.turned (fun b o hb e=>kk b o (by simpa using hb) e) f0 f1 f3 f4 f5
  obtain ⟨o,nm,vs,e,c,d,hn⟩:=ho _ _ d8
  exact ⟨_,rfl,zp7_ (s:={ s with heap:=h',toks:=tk }) (n:=nm) e c d hn ⟨f i,H,I1,hv i v hi eV,⟨rfl,rfl⟩,⟨hi,d8⟩,fun b hb=>(hf b hb).1⟩⟩
 done:=by
  intro X hP hw hK hc i pins s σ H E I hf st hg
  subst hP hw hK
  obtain ⟨f0,f1,f2,f3,f4,f5⟩:=hf it (by simp)
  have hi:n<=i:=hg
  have e:i=n:=Nat.le_antisymm st.1 hi
  subst e
  exact (W X.A (I.ok.hd hc)).done s _ _ st.2 fun h' tk kk=>⟨rfl,I.turned (fun b o hb e=>kk b o (by simpa using hb) e) f0 f1 f3 f4 f5⟩
 self:=fun A i s Q E st h=>i6 A i s Q E st.2 h
def sgn (x:Str)(i:Nat):V:=.str ⟨#[x.cps.getD i 0]⟩
theorem zly_ {P:Program}{w:World}{it:Addr}{x:Str}{t:Tok}(A:Around)(hA:A.handled=none):Walks P w A it [it] [it] x.cps.size (SignAt x) (fun i h=>h.IsStrIter it (strIterType x) x t i):=by
 cases ha:x.cps.all (·<128)
 ·have e:strIterType x="str_iterator":=by simp [strIterType,ha]
  rw [e]; exact Walks.strWide hA it x t
 ·have e:strIterType x="str_ascii_iterator":=by simp [strIterType,ha]
  rw [e]; exact Walks.strAscii hA it x t
theorem zfS_ {x:Str}{i:Nat}{v:Value}(h:SignAt x i v):RelV (sgn x i) v:=by
 obtain ⟨c,u,e,rfl⟩:=h
 refine ⟨u,?_⟩
 have:x.cps.getD i 0=c:=by simp [Array.getD_eq_getD_getElem?,e]
 rw [this]
theorem zfs_ (x:Str):ownTups.contains (strIterType x)=false:=by
 unfold strIterType; split<;>decide
theorem znD_ {P:Program}{w:World}{K:Fgg}{tg:Expr}(it:Addr)(x:Str)(t:Tok):Turn P w K tg (Itp x.cps.size (sgn x)) [it] it (fun i h=>i<=x.cps.size/\h.IsStrIter it (strIterType x) x t i):=by
 refine zla_ (Pw:=SignAt x) (fun A hA=>zly_ A hA) (fun i v _ h=>zfS_ h) (fun i h st=>?_) (fun A i s Q E st h=>?_) (fun i h h' st k=>?_)
 ·obtain ⟨o,e,c,d⟩:=st
  exact ⟨o,_,_,e,c,d,zfs_ x⟩
 ·cases ha:x.cps.all (·<128)
  ·have e:strIterType x="str_iterator":=by simp [strIterType,ha]
   rw [e] at st; exact wpAny_pyIter_striter_wide st h
  ·have e:strIterType x="str_ascii_iterator":=by simp [strIterType,ha]
   rw [e] at st; exact wpAny_pyIter_striter_ascii st h
 ·obtain ⟨o,e,r⟩:=st
  exact ⟨o,k it (by simp) o e,r⟩
section
end
theorem Inv.turnedL {X:Cx}{pins:Pnn}{σ:St}{H:Hp}{s:Shared}{h':Heap}{t':Nat}{ch:List Addr}(I:Inv X pins σ H s)(k:∀ b o,b∉ch->s.heap.get? b=some o->h'.get? b=some o)
  (hf:∀ b∈ch,FpOk X pins H b):Inv X pins σ H { s with heap:=h',toks:=t' }:=by
 have iL:∀ b u,H b=some u->b∉ch:=fun b u e z=>by rw [(hf b z).1] at e; cases e
 refine I.step (g':=s.gens) (d':=s.drawn) (ch:=ch) (fun b hb=>?_) (fun b o _ _ hc e _=>k b o hc e) (fun b o _ _ hc e _=>⟨o.slots,k b o hc e⟩) (fun _ _ _ _ n=>n)
  (fun b o hc e=>⟨o,k b o hc e⟩) (fun _ _ e=>e) (fun _ _ _ e=>e) (fun b ps e=>⟨#[],by rw [e]; simp⟩) (fun m hm=>?_) (fun b u e=>?_) I.bare
 ·obtain ⟨f0,f1,f2,f3,f4,f5⟩:=hf b hb
  exact ⟨f3,f1,f4,f5⟩
 ·obtain ⟨o,es,ep,ho,r⟩:=hm
  exact ⟨o,es,ep,k _ o (fun z=>(hf _ z).2.1 rfl) ho,r⟩
 ·refine (I.hok b u e).stay (fun c v hc q=>k c v ?_ q) (fun _ q=>q) fun _ _ q=>q
  rcases hc with z | z
  ·rw [z]; exact iL b u e
  ·exact iL c _ z
theorem zhS_ {X:Cx}{pins:Pnn}{σ:St}{H:Hp}{s:Shared}{h1:Heap}{tk:Nat}{jQ:Tok}{e it:Addr}{i:Nat}{x:Value}{y:V}{St:Heap->Prop}{elts:List Expr}{kk:Nat}{pos:Pos}{E:Value->Shared->Prop}
  (I:Inv X pins σ H s) (hf:∀ b∈[e,it],FpOk X pins H b) (he:e<s.heap.objs.size) (hit:it<s.heap.objs.size) (dS:e≠it) (dY:IsEnumOut h1 e it ((i:Int)+1) x s.heap.objs.size) (ry:RelV y x)
  (ht:h1.get? s.heap.objs.size=some { cls:=.type "tuple",data:=.seq #[.int i jQ,x] }) (hz:h1.objs.size=s.heap.objs.size+1) (hk:∀ b o,b≠e->b≠it->s.heap.get? b=some o->h1.get? b=some o)
  (qt:∀ h2,Heap.SameBut e h1 h2->St h2):
  wpAny (model X.prog X.w) X.A (letOwnedTupleGo (.Tuple elts kk pos) (.ref e) (.ref s.heap.objs.size)) (fun _ s2=>∃ z H',Inv X pins σ H' s2/\RelV z (.ref s.heap.objs.size) /\
   (∃ p,H p=none/\z=.ref p/\H'=upd H p (.tup [.int i,y]))/\(IsEnum s2.heap e it ((i+1:Nat):Int) x/\St s2.heap)/\∀ b∈[e,it],H' b=none) E { s with heap:=h1,toks:=tk }:=by
 refine wpAny_letOwnedTupleGo_enum dY fun h2 gF bP=>?_
 replace bP:Heap.SameBut e h1 h2:=bP
 have hp:H s.heap.objs.size=none:=I.hok.fresh (Nat.le_refl _)
 have cF:s.heap.objs.size≠e:=Nat.ne_of_gt he
 have dG:s.heap.objs.size≠it:=Nat.ne_of_gt hit
 have I1:Inv X pins σ (upd H s.heap.objs.size (.tup [.int i,y])) { s with heap:=s.heap.push { cls:=.type "tuple",data:=.seq #[.int i jQ,x] },toks:=tk }:=by
  refine I.laid (fun b u q=>Heap.get?_push_of_some _ q) (Nat.le_refl _) ⟨?_,[.int i jQ,x],.cons ⟨_,rfl⟩ (.cons ry .nil),⟨_,Heap.get?_push_size _ rfl,rfl,_,rfl⟩⟩
  show 2<=sizeLine
  decide
 have je:∀ b∈[e,it],FpOk X pins (upd H s.heap.objs.size (.tup [.int i,y])) b:=fun b hb=>by
  obtain ⟨f0,r⟩:=hf b hb
  refine ⟨?_,r⟩
  rw [zI_ (by rcases List.mem_cons.mp hb with rfl | hb; exact cF.symm; rcases List.mem_cons.mp hb with rfl | hb; exact dG.symm; cases hb)]
  exact f0
 have I2:Inv X pins σ (upd H s.heap.objs.size (.tup [.int i,y])) { s with heap:=h2,toks:=tk }:=by
  refine Inv.turnedL (s:={ s with heap:=s.heap.push { cls:=.type "tuple",data:=.seq #[.int i jQ,x] },toks:=tk }) (ch:=[e,it]) I1 (fun b o hb q=>?_) je
  have nF:b≠e:=fun z=>hb (by simp [z])
  have pU:b≠it:=fun z=>hb (by simp [z])
  refine (bP.2 b nF).trans ?_
  rcases Heap.get?_push_cases q with ⟨rfl,rfl⟩ | q'
  ·exact ht
  ·exact hk b o nF pU q'
 refine ⟨.ref s.heap.objs.size,_,I2,rfl,⟨s.heap.objs.size,hp,rfl,rfl⟩,⟨?_,qt h2 bP⟩,fun b hb=>(je b hb).1⟩
 have:((i+1:Nat):Int)=(i:Int)+1:=by push_cast; rfl
 rw [this]; exact gF
def Ite (K:Fgg)(l:Addr):It:=
 ⟨fun i H=>∃ xs x,SqL K H l xs/\xs[i]?=some x,fun i H y H'=>∃ p x,(∀ xs,SqL K H l xs->xs[i]?=some x)/\H p=none/\y=.ref p/\H'=upd H p (.tup [.int i,x]),fun i H=>∃ xs,SqL K H l xs/\xs.length<=i⟩
theorem ziJ_ {P:Program}{w:World}{K:Fgg}{elts:List Expr}{kk:Nat}{pos:Pos}(e it l:Addr)(dS:e≠it):
  Turn P w K (.Tuple elts kk pos) (Ite K l) [e,it] e (fun i h=>(∃ old,IsEnum h e it (i:Nat) old)/\h.IsListIter it l i) where
 mem:=by simp
 obj:=fun i h st b hb=>by
  obtain ⟨⟨old,he⟩,o,ho,c,d⟩:=st
  rcases List.mem_cons.mp hb with rfl | hb
  ·exact ⟨_,he,fun v z=>by cases z⟩
  ·have e:b=it:=by simpa using hb
   subst e
   exact ⟨o,ho,fun v z=>by rw [d] at z; cases z⟩
 keep:=fun i h h' st k=>by
  obtain ⟨⟨old,he⟩,hit⟩:=st
  exact ⟨⟨old,k e (by simp) _ he⟩,hit.at fun o q=>k it (by simp) o q⟩
 item:=by
  intro X hP hw hK hc i pins s σ H E I hf st hg
  subst hP hw hK
  obtain ⟨xs,x,hq,hx⟩:=hg
  obtain ⟨ai,rv,p,hz⟩:=I.list hq
  obtain ⟨u,hu,ru⟩:=rv.get hx
  obtain ⟨⟨old,he⟩,hit⟩:=st
  refine wpAny_pyNext_enum_item he hit p.isList (x:=u) (by simpa using hu) dS fun h1 dY gC g_ ll hU=>?_
  refine ⟨_,rfl,?_⟩
  have lP:e<s.heap.objs.size:=Heap.lt_size he
  have ja:it<s.heap.objs.size:=by obtain ⟨o,ho,_⟩:=id hit; exact Heap.lt_size ho
  refine thn (zhS_ (St:=fun h2=>h2.IsListIter it l (i+1)) I hf lP ja dS dY ru g_ ll hU fun h2 hs=>gC.extBut hs.extBut dS.symm) fun _ s2 q=>?_
  obtain ⟨z,H',I2,rz,⟨p,hp,rfl,rfl⟩,⟨gF,hit2⟩,fr⟩:=q
  exact ⟨.ref p,_,I2,rz,⟨p,x,fun ys hy=>by rw [I.list_inj hy hq]; exact hx,hp,rfl,rfl⟩,⟨⟨u,gF⟩,hit2⟩,fr⟩
 done:=by
  intro X hP hw hK hc i pins s σ H E I hf st hg
  subst hP hw hK
  obtain ⟨xs,hq,hx⟩:=hg
  obtain ⟨ai,rv,p,hz⟩:=I.list hq
  obtain ⟨⟨old,he⟩,hit⟩:=st
  have hl:=rv.length
  obtain ⟨f0,f1,f2,f3,f4,f5⟩:=hf it (by simp)
  exact wpAny_pyNext_enum_end (I.ok.hd hc) he hit p.isList (by simp; lia) fun h' eb=>⟨rfl,I.turned (t':=s.toks) (fun b o hb e=>eb b o hb e) f0 f1 f3 f4 f5⟩
 self:=fun _ _ _ _ _ st h=>by
  obtain ⟨⟨old,he⟩,_⟩:=st
  exact wpAny_pyIter_enum he h
theorem zh7_ {P:Program}{w:World}{it:Addr}{x:Str}{t:Tok}(A:Around)(hA:A.handled=none):Draws P w A it [it] x.cps.size (fun i v=>∃ c u,x.cps[i]?=some c/\v=.str ⟨#[c]⟩ u) (fun i h=>h.IsStrIter it (strIterType x) x t i):=by
 cases ha:x.cps.all (·<128)
 ·have e:strIterType x="str_iterator":=by simp [strIterType,ha]
  rw [e]; exact Draws.strWide hA it x t
 ·have e:strIterType x="str_ascii_iterator":=by simp [strIterType,ha]
  rw [e]; exact Draws.strAscii hA it x t
def Ites (n:Nat)(f:Nat->V):It:=
 ⟨fun i _=>i<n,fun i H y H'=>∃ p,H p=none/\y=.ref p/\H'=upd H p (.tup [.int i,f i]),fun i _=>n<=i⟩
theorem zj7_ {P:Program}{w:World}{K:Fgg}{elts:List Expr}{kk:Nat}{pos:Pos}(e it:Addr)(x:Str)(t:Tok)(dS:e≠it):
  Turn P w K (.Tuple elts kk pos) (Ites x.cps.size (sgn x)) [e,it] e (fun i h=>(∃ old,IsEnum h e it (i:Nat) old)/\i<=x.cps.size/\h.IsStrIter it (strIterType x) x t i) where
 mem:=by simp
 obj:=fun i h st b hb=>by
  obtain ⟨⟨old,he⟩,_,o,ho,c,d⟩:=st
  rcases List.mem_cons.mp hb with rfl | hb
  ·exact ⟨_,he,fun v z=>by cases z⟩
  ·have e:b=it:=by simpa using hb
   subst e
   exact ⟨o,ho,fun v z=>by rw [d] at z; cases z⟩
 keep:=fun i h h' st k=>by
  obtain ⟨⟨old,he⟩,hn,o,ho,r⟩:=st
  exact ⟨⟨old,k e (by simp) _ he⟩,hn,o,k it (by simp) o ho,r⟩
 item:=by
  intro X hP hw hK hc i pins s σ H E I hf st hg
  subst hP hw hK
  obtain ⟨⟨old,he⟩,hn,hit⟩:=st
  have hi:i<x.cps.size:=hg
  refine wpAny_pyNext_enum_itemD (zh7_ X.A.in1 (I.ok.hd hc)) he hit hi dS (by simpa using dS) fun u h1 tk hP dY gC g_ ll hU=>?_
  refine ⟨_,rfl,?_⟩
  have lP:e<s.heap.objs.size:=Heap.lt_size he
  have ja:it<s.heap.objs.size:=by obtain ⟨o,ho,_⟩:=id hit; exact Heap.lt_size ho
  have ru:RelV (sgn x i) u:=zfS_ hP
  refine thn (zhS_ (St:=fun h2=>h2.IsStrIter it (strIterType x) x t (i+1)) I hf lP ja dS dY ru g_ ll hU fun h2 hs=>?_) fun _ s2 q=>?_
  ·obtain ⟨o,ho,r⟩:=gC
   exact ⟨o,(hs.2 it dS.symm).trans ho,r⟩
  ·obtain ⟨z,H',I2,rz,⟨p,hp,rfl,rfl⟩,⟨gF,hit2⟩,fr⟩:=q
   exact ⟨.ref p,_,I2,rz,⟨p,hp,rfl,rfl⟩,⟨⟨u,gF⟩,hi,hit2⟩,fr⟩
 done:=by
  intro X hP hw hK hc i pins s σ H E I hf st hg
  subst hP hw hK
  obtain ⟨⟨old,he⟩,hn,hit⟩:=st
  have hi:x.cps.size<=i:=hg
  have ei:i=x.cps.size:=Nat.le_antisymm hn hi
  subst ei
  obtain ⟨f0,f1,f2,f3,f4,f5⟩:=hf it (by simp)
  exact wpAny_pyNext_enum_endD (zh7_ X.A.in1 (I.ok.hd hc)) he hit fun h' eb=>⟨rfl,I.turned (t':=s.toks) (fun b o hb e=>eb b o hb e) f0 f1 f3 f4 f5⟩
 self:=fun _ _ _ _ _ st h=>by
  obtain ⟨⟨old,he⟩,_⟩:=st
  exact wpAny_pyIter_enum he h
section
variable {prog:Program}{w:World}{A:Around}{R:Result->Shared->Prop}{s:Shared}
theorem ziz_ {elt target iter:Expr}{ifs:List Expr}{scope:Scope}{pos:Pos}{it acc:Value}{env:Env}(I:Nat->Shared->Prop)
  (turn:∀ n s,I n s->wpAny (model prog w) A (pyNext it) (fun r av=>match r with
   | none=>R (.ok .next) av
   | some v=>wpAny (model prog w) A (letOwnedTupleGo target it v) (fun _ bo=>wpAny (model prog w) A (assign target env v) (fun _ bI =>
     wpAny (model prog w) A (forIn ifs true fun c r=>if r=true then do let ok <- isTrue c env (eval c env); pure (ForInStep.yield ok) else pure (ForInStep.yield r)) (fun ok d7 =>
      if ok=true then wpAny (model prog w) A (eval elt env) (fun x iC =>
       wpAny (model prog w) A (call (.builtin "list.append") [acc,x]) (fun _ iB=>∃ m,m<n/\I m iB) (fun _ _=>False) iC) (fun _ _=>False) d7
      else ∃ m,m<n/\I m d7) (fun _ _=>False) bI) (fun _ _=>False) bo) (fun _ _=>False) av) (fun _ _=>False) s)
  (n:Nat) (h:I n s):
  codeAny (model prog w) A (.compLoop (.ListComp elt [⟨target,iter,ifs,0⟩] scope pos) 0 it acc env) R s:=by
 refine codeAny_loop rfl I (fun n s hI=>?_) n h
 show wpAny _ A ((compTurn (.ListComp elt [⟨target,iter,ifs,0⟩] scope pos) 0 it acc env).onRaise (fun x=>do noteFrame x env; theTreesLotGoes x)) _ _ s
 refine wpAny_noted ?_
 rw [compTurn_list]
 refine wpAny_bind (wpAny_standAt (wpAny_bind (wpAny_mono (turn n s hI) (fun r av bK=>?_) fun _ _ h'=>h'.elim)))
 cases r with
 | none=>exact wpAny_pure bK
 | some v =>
  refine wpAny_bind (wpAny_mono bK (fun _ bo dA=>?_) fun _ _ h'=>h'.elim)
  refine wpAny_bind (wpAny_mono dA (fun _ bI gr=>wpAny_bind (wpAny_mono gr (fun ok d7 iT=>?_) fun _ _ h'=>h'.elim)) fun _ _ h'=>h'.elim)
  cases ok with
  | false=>exact wpAny_pure ⟨rfl,iT⟩
  | true =>
   exact wpAny_bind (wpAny_bind (wpAny_mono iT (fun x iC lg=>wpAny_bind (wpAny_mono lg (fun _ iB k_=>wpAny_pure (wpAny_pure ⟨rfl,k_⟩)) fun _ _ h'=>h'.elim)) fun _ _ h'=>h'.elim))
end
def closeL (cells:List (Str×Addr)):List (Str×NameKind)->List (Str×Addr)->Option (List (Str×Addr))
 | [],acc=>some acc
 | (n,k)::r,acc=>if (k == .free)=true then (match cells.lookup n with | some c=>closeL cells r ((n,c)::acc) | none=>none) else closeL cells r acc
theorem zdX_ {env:Env}{f:Str×NameKind->List (Str×Addr)->Sem (ForInStep (List (Str×Addr)))}
  (hf:∀ n k cs,f (n,k) cs=if (k == NameKind.free)=true then (do let c <- cellOf env n; pure (ForInStep.yield ((n,c)::cs))) else pure (ForInStep.yield cs)):
  ∀ (names:List (Str×NameKind)) (acc cl:List (Str×Addr)),closeL env.cells names acc=some cl->(forIn names acc f:Sem (List (Str×Addr)))=pure cl
 | [],acc,cl,h=>by cases h; rfl
 | (n,k)::r,acc,cl,h=>by
  rw [List.forIn_cons,hf]
  unfold closeL at h
  by_cases hk:(k == NameKind.free)=true
  ·rw [if_pos hk] at h
   rw [if_pos hk]
   cases hc:env.cells.lookup n with
   | none=>rw [hc] at h; cases h
   | some c =>
    rw [hc] at h
    have e:cellOf env n=pure c:=by unfold cellOf; rw [hc]
    rw [e]
    simp only [pure_bind]
    exact zdX_ hf r _ cl h
  ·rw [if_neg hk] at h
   rw [if_neg hk]
   simp only [pure_bind]
   exact zdX_ hf r _ cl h
theorem zh8_ {env:Env}{scope:Scope}{cl:List (Str×Addr)}(h:closeL env.cells scope.names []=some cl):closureFor scope env=pure cl:=by
 unfold closureFor
 dsimp only
 rw [zdX_ (env:=env) (fun n k cs=>rfl) scope.names [] cl h]
 rfl
theorem zcX_ {cells:List (Str×Addr)}:∀ (names:List (Str×NameKind)) (acc cl:List (Str×Addr)),closeL cells names acc=some cl->(∀ x c,acc.lookup x=some c->cells.lookup x=some c) ->
  (∀ x c,cl.lookup x=some c->cells.lookup x=some c)
 | [],acc,cl,h,ha=>by cases h; exact ha
 | (n,k)::r,acc,cl,h,ha=>by
  unfold closeL at h
  by_cases hk:(k == NameKind.free)=true
  ·rw [if_pos hk] at h
   cases hc:cells.lookup n with
   | none=>rw [hc] at h; cases h
   | some c =>
    rw [hc] at h
    refine zcX_ r _ cl h fun x c' e=>?_
    rw [List.lookup_cons] at e
    cases hx:x == n with
    | true=>rw [hx] at e; cases e; rw [eq_of_beq hx]; exact hc
    | false=>rw [hx] at e; exact ha x c' e
  ·rw [if_neg hk] at h
   exact zcX_ r _ cl h ha
theorem zei_ {cells:List (Str×Addr)}:∀ (names:List (Str×NameKind)) (acc cl:List (Str×Addr)),closeL cells names acc=some cl->∀ x,((x,NameKind.free)∈names\/∃ c,acc.lookup x=some c)->∃ c,cl.lookup x=some c
 | [],acc,cl,h,x,hx=>by
  cases h
  rcases hx with hx | hx
  ·cases hx
  ·exact hx
 | (n,k)::r,acc,cl,h,x,hx=>by
  unfold closeL at h
  by_cases hk:(k == NameKind.free)=true
  ·rw [if_pos hk] at h
   cases hc:cells.lookup n with
   | none=>rw [hc] at h; cases h
   | some c =>
    rw [hc] at h
    refine zei_ r _ cl h x ?_
    rcases hx with hx | ⟨c',e⟩
    ·rcases List.mem_cons.mp hx with e | hx
     ·cases e; exact .inr ⟨c,by rw [List.lookup_cons,beq_self_eq_true]⟩
     ·exact .inl hx
    ·refine .inr ?_
     rw [List.lookup_cons]
     cases hxn:x == n with
     | true=>exact ⟨c,rfl⟩
     | false=>exact ⟨c',e⟩
  ·rw [if_neg hk] at h
   refine zei_ r _ cl h x ?_
   rcases hx with hx | hx
   ·rcases List.mem_cons.mp hx with e | hx
    ·cases e; exact absurd rfl hk
    ·exact .inl hx
   ·exact .inr hx
theorem zez_ {scope:Scope}{env:Env}{x:Str}{k:NameKind}(h:(relabel scope env).names.lookup x=some k)(hk:k=.cell\/k=.free)(dH:∀ y∈scope.names,y.2≠.cell):(x,NameKind.free)∈scope.names:=by
 have m:=PySem.mem_of_lookup h
 obtain ⟨⟨n,k0⟩,hm,e⟩:=List.mem_map.mp m
 dsimp only at e
 split at e
 ·rename_i hc
  cases e
  have:k0=.free:=by
   simp only [Bool.and_eq_true,beq_iff_eq] at hc
   exact hc.1.1
  subst this; exact hm
 ·cases e
  rcases hk with rfl | rfl
  ·exact absurd rfl (dH _ hm)
  ·exact hm
def cxComp (X:Cx)(scope:Scope)(cl:List (Str×Addr))(C:Addr)(N:List Str)(fp:List Addr)(s2:Shared)(H2:Hp):Cx where
 prog:=X.prog
 w:=X.w
 K:=X.K
 mg:=X.mg
 base:=X.base
 A:=X.A
 N:=N
 s₀:=s2
 H₀:=H2
 env:=compEnvC scope cl C X.env
 outer:=X.stack
 stack:=X.stack
 ex:=fp
 fn:=fun _=>false
 calm:=X.calm
 pn:=[]
 xe:=fun _ _=>False
structure CScope (X:Cx)(scope:Scope)(cl:List (Str×Addr))(lv:List Str)(fr:List (Str×Nat)):Prop where
 clos:closeL X.env.cells scope.names []=some cl
 cell:∀ y∈scope.names,y.2≠.cell
 kind:scope.kind=.function
 names:∀ z∈scope.names,z.2=.local->scope.names.lookup z.1=some .local
 fr:∀ q∈fr,X.N[q.2]?=some q.1/\(q.1,NameKind.free)∈scope.names/\(X.env.kindOf q.1=some .cell\/X.env.kindOf q.1=some .free) /\
  ((relabel scope X.env).names.lookup q.1=some .cell\/(relabel scope X.env).names.lookup q.1=some .free)
def cN (lv:List Str)(fr:List (Str×Nat)):List Str:=lv++fr.map (·.1)
def cS (lv:List Str)(fr:List (Str×Nat))(σ:St):St:=lv.map (fun _=>none)++fr.map fun q=>(σ[q.2]?).join
theorem zn1_ {X:Cx}{pins:Pnn}{σ:St}{H2:Hp}{s2:Shared}{scope:Scope}{cl:List (Str×Addr)}{lv:List Str}{fr:List (Str×Nat)}{fp:List Addr}{h4:Heap}{tk:Nat}{m:Str->Option Value}{n:Nat}
  (I:Inv X pins σ H2 s2) (S:CScope X scope cl lv fr) (hf:∀ b∈fp,FpOk X pins H2 b) (bw:∀ b∈fp,b<s2.heap.objs.size) (hC:h4.Ns (s2.heap.objs.size+1) m) (hD:h4.get? s2.heap.objs.size=some { cls:=.type "list",data:=.seq #[] n })
  (hk:∀ b o,s2.heap.get? b=some o->h4.get? b=some o):
  Inv (cxComp X scope cl (s2.heap.objs.size+1) (cN lv fr) fp s2 H2) [] (cS lv fr σ) (upd H2 s2.heap.objs.size (.lst [])) { s2 with heap:=h4,toks:=tk }:=by
 have fH:=zcX_ scope.names [] cl S.clos (fun x c e=>by cases e)
 have jc:=zei_ scope.names [] cl S.clos
 have qz:H2 s2.heap.objs.size=none:=I.hok.fresh (Nat.le_refl _)
 have jZ:H2 (s2.heap.objs.size+1)=none:=I.hok.fresh (Nat.le_succ _)
 have qB:s2.heap.objs.size+1≠s2.heap.objs.size:=Nat.ne_of_gt (Nat.lt_succ_self _)
 have qC:∀ b∈fp,(b∈X.ex\/X.s₀.heap.objs.size<=b):=fun b hb=>(hf b hb).2.2.2.1
 have gM:∀ x c,cl.lookup x=some c->c<s2.heap.objs.size:=fun x c e=>by
  obtain ⟨v,o,ho,_⟩:=I.cell x c (fH x c e)
  exact Heap.lt_size ho
 refine ⟨⟨I.ok.mod,S.kind,I.ok.glob,I.ok.blt,Nat.le_succ _,fun x y c h1 h2=>I.ok.inj x y c (fH x c h1) (fH y c h2),fun x hx=>?_,fun x c gD=>(by cases gD),I.ok.hd,I.ok.frames,.inl rfl,fun b hb=>?_,I.bs,Nat.le_trans I.ok.bsz I.sz,fun b o e hb=>?_,fun b hb z=>?_,I.stack,I.stkFree⟩,
  rfl,I.bare,?_,⟨m,hC,fun i x v h1 h2 h3=>?_⟩,fun x c e=>?_,?_,fun x c e=>?_,fun p hp=>absurd (show p∈([]:Pnn) from hp) (by simp),?_,?_⟩
 ·-- has
  have nP:(relabel scope X.env).names.lookup x=some .cell\/(relabel scope X.env).names.lookup x=some .free:=hx
  have hm:(x,NameKind.free)∈scope.names:=nP.elim (fun z=>zez_ z (.inl rfl) S.cell) fun z=>zez_ z (.inr rfl) S.cell
  exact jc x (.inl hm)
 ·-- exf
  obtain ⟨f0,f1,f2,f3,f4,f5⟩:=hf b hb
  refine ⟨fun z=>?_,fun x c e=>f4 x c (fH x c e)⟩
  have z':b=s2.heap.objs.size+1:=z
  have:=bw b hb
  rw [z'] at this
  exact absurd this (Nat.not_lt.mpr (Nat.le_succ _))
 ·rcases qC b hb with z | z
  ·exact I.ok.noex b o e z
  ·exact absurd (Nat.lt_of_lt_of_le (Nat.lt_of_lt_of_le (Heap.lt_size e) I.ok.bsz) z) (Nat.lt_irrefl _)
 ·obtain ⟨f0,f1,f2,_⟩:=hf b hb
  rcases List.mem_cons.mp (I.stkSub b z) with q | q
  ·exact f1 q
  ·exact f2 q
 ·exact Un.laid hk (Nat.le_refl _) qz
 ·-- loc
  have h1':(lv++fr.map (·.1))[i]?=some x:=h1
  have fK:(lv.map (fun _=>none)++fr.map fun q=>(σ[q.2]?).join:St)[i]?=some (some v):=h2
  by_cases hi:i<lv.length
  ·rw [List.getElem?_append_left (by simpa using hi),List.getElem?_map] at fK
   cases hq:lv[i]? with
   | none=>rw [hq] at fK; cases fK
   | some z=>rw [hq] at fK; cases fK
  ·rw [List.getElem?_append_right (by simpa using hi),List.getElem?_map] at fK
   rw [List.getElem?_append_right (by lia),List.getElem?_map] at h1'
   simp only [List.length_map] at fK
   cases hq:fr[i-lv.length]? with
   | none=>rw [hq] at h1'; cases h1'
   | some q =>
    rw [hq] at h1' fK
    have e1:q.1=x:=Option.some.inj h1'
    have e2:(σ[q.2]?).join=some v:=Option.some.inj fK
    have e3:σ[q.2]?=some (some v):=by
     cases hz:σ[q.2]? with
     | none=>rw [hz] at e2; cases e2
     | some z=>rw [hz] at e2; exact congrArg some e2
    obtain ⟨g1,g2,g3,g4⟩:=S.fr q (List.mem_of_getElem? hq)
    obtain ⟨m0,hn0,hl0⟩:=I.loc
    have pe:Vis X.env.scope q.1:=by
     rcases g3 with g3 | g3
     ·exact .inr (.inl g3)
     ·exact .inr (.inr g3)
    obtain ⟨u,r,l⟩:=hl0 q.2 q.1 v g1 e3 pe
    refine ⟨u,r,.inr ⟨?_,?_⟩⟩
    ·rw [<- e1]; exact g4
    ·rcases l with ⟨lk,_⟩ | ⟨_,c,ec,ic⟩
     ·rcases g3 with g3 | g3<;>(rw [lk] at g3; cases g3)
     ·obtain ⟨c',ec'⟩:=jc q.1 (.inl g2)
      have:c'=c:=by
       have:=fH q.1 c' ec'
       rw [ec] at this; exact (Option.some.inj this).symm
      subst this
      obtain ⟨o,ho,hd⟩:=ic
      exact ⟨c',by rw [<- e1]; exact ec',o,hk _ _ ho,hd⟩
 ·obtain ⟨v,o,ho,hd⟩:=I.cell x c (fH x c e)
  exact ⟨v,o,hk _ _ ho,hd⟩
 ·show upd H2 _ _ (s2.heap.objs.size+1)=none
  rw [zI_ qB]; exact jZ
 ·have:=gM x c e
  rw [zI_ (Nat.ne_of_lt this)]
  exact I.freeC x c (fH x c e)
 ·exact I.hok.laid hk (Nat.le_refl _) ⟨Nat.zero_le _,[],n,.nil,hD⟩
 ·show (cS lv fr σ).length=(cN lv fr).length
  simp [cS,cN]
def PIf (X:Cx)(ifs:List Expr)(t:TT):Prop:=
 ∀ (pins:Pnn) (s:Shared) (σ:St) (H:Hp) (Q:Bool->Hp->Prop),Inv X pins σ H s->t σ H Q ->
  wpAny (model X.prog X.w) X.A (forIn ifs true fun c r=>if r=true then do let ok <- isTrue c X.env (eval c X.env); pure (ForInStep.yield ok) else pure (ForInStep.yield r)) (TP X pins σ Q) X.xe s
def tTrue:TT:=fun _ H Q=>Q true H
theorem zj0_ {X:Cx}:PIf X [] tTrue:=fun pins s σ H Q I h=>wpAny_tests_nil ⟨H,I,h⟩
theorem zmd_ {X:Cx}{c:Expr}{t:TT}(h:PT X c t):PIf X [c] t:=fun pins s σ H Q I hw=>wpAny_tests_one (h pins s σ H Q I hw)
def tCompR (J:It)(g:TG)(tt:TT)(te:TE)(oQ:St)(H1:Hp)(Q:VK):Prop:=
 ∀ D,H1 D=none->∃ W:Nat->Nat->List V->St->Hp->Prop,(∃ m,W 0 m [] oQ (upd H1 D (.lst [])))/\∀ i m ys σ H,W i m ys σ H ->
  (J.stop i H/\Q (.ref D) H)\/(J.go i H/\∃ N:List V->St->Hp->Prop,(∀ gT au H',N gT au H'->∃ m',m'<m/\W (i+1) m' gT au H') /\
   ∀ x H',J.yld i H x H'->g x σ H' fun eO H2=>tt eO H2 fun b H3=>if b=true then te eO H3 fun v H4=>H4 D=some (.lst ys)/\ys.length<sizeLine/\N (ys++[v]) eO (upd H4 D (.lst (ys++[v]))) else N ys eO H3)
section
variable {X:Cx}{scope:Scope}{cl:List (Str×Addr)}{lv:List Str}{fr:List (Str×Nat)}{elt tg iter:Expr}{ifs:List Expr}{pos:Pos}{g:TG}{tt:TT}{te:TE}
theorem zgl_ {pins:Pnn}{σ:St}{H2:Hp}{s2:Shared}{it:Addr}{fp:List Addr}{tn:Nat->Heap->Prop}{J:It}{Q:VK}{E:Value->Shared->Prop}{use:Option (Value->Sem Unit)}{Q':Value->Shared->Prop}
  (I:Inv X pins σ H2 s2) (S:CScope X scope cl lv fr) (T:Turn X.prog X.w X.K tg J fp it tn) (st:tn 0 s2.heap) (hf:∀ b∈fp,FpOk X pins H2 b) (hc:X.calm=true)
  (hg:∀ C fp s2 H2,PG (cxComp X scope cl C (cN lv fr) fp s2 H2) tg g) (ht:∀ C fp s2 H2,PIf (cxComp X scope cl C (cN lv fr) fp s2 H2) ifs tt) (he:∀ C fp s2 H2,PE (cxComp X scope cl C (cN lv fr) fp s2 H2) elt te)
  (hq:tCompR J g tt te (cS lv fr σ) H2 Q)
  (fin:∀ D C oC H' s',Inv X (pins++[(C,oC)]) σ H' s'->(∀ h:Heap,h.get? C=some oC->∃ m,h.Ns C m)->FpOk X pins H' C->Q (.ref D) H'->compPost (model X.prog X.w) X.A E use Q' (.ref D) C (.ok .next) s'):
  wpAny (model X.prog X.w) X.A (newList []) (fun acc bI=>wpAny (model X.prog X.w) X.A (newFunctionEnv scope X.env.globals cl [] X.env.qual none .none (some X.env)) (fun jw d7 =>
   codeAny (model X.prog X.w) X.A (.compStart (.ListComp elt [⟨tg,iter,ifs,0⟩] scope pos) 0 (.ref it) acc { jw with scope:=relabel scope X.env }) (compPost (model X.prog X.w) X.A E use Q' acc jw.locals) d7) E bI) E s2:=by
 have bw:∀ b∈fp,b<s2.heap.objs.size:=fun b hb=>by
  obtain ⟨o,ho,_⟩:=T.obj 0 _ st b hb
  exact Heap.lt_size ho
 refine wpAny_newList (wpAny_newFunctionEnv S.cell (by intro y hy; simp at hy) (fun bK dB cE=>?_) S.kind)
 dsimp only at dB cE ⊢
 have hsz:(s2.heap.push { cls:=.type "list",data:=.seq ([]:List Value).toArray }).objs.size=s2.heap.objs.size+1:=Heap.size_push ..
 rw [hsz] at dB cE ⊢
 have old:∀ b o,s2.heap.get? b=some o->bK.get? b=some o:=fun b o e=>cE.extBut b o (Nat.ne_of_lt (Nat.lt_succ_of_lt (Heap.lt_size e))) (Heap.get?_push_of_some _ (Heap.get?_push_of_some _ e))
 have lR:bK.get? s2.heap.objs.size=some { cls:=.type "list",data:=.seq #[] }:=cE.extBut _ _ (Nat.ne_of_lt (Nat.lt_succ_self _)) (Heap.get?_push_of_some _ (Heap.get?_push_size _ rfl))
 have I4:Inv (cxComp X scope cl (s2.heap.objs.size+1) (cN lv fr) fp s2 H2) [] (cS lv fr σ) (upd H2 s2.heap.objs.size (.lst [])) { s2 with heap:=bK,toks:=s2.toks+([]:List (Str×Value)).length }:=
  zn1_ I S hf bw dB lR old
 generalize dq:cxComp X scope cl (s2.heap.objs.size+1) (cN lv fr) fp s2 H2=X' at I4
 have eP:X'.prog=X.prog:=by rw [<- dq]; rfl
 have ew:X'.w=X.w:=by rw [<- dq]; rfl
 have eK:X'.K=X.K:=by rw [<- dq]; rfl
 have eA:X'.A=X.A:=by rw [<- dq]; rfl
 have ec:X'.calm=true:=by rw [<- dq]; exact hc
 have ex:X'.xe=fun _ _=>False:=by rw [<- dq]; rfl
 have gK:X'.env=compEnvC scope cl (s2.heap.objs.size+1) X.env:=by rw [<- dq]; rfl
 have qk:PG X' tg g:=dq ▸ hg _ _ _ _
 have i3:PIf X' ifs tt:=dq ▸ ht _ _ _ _
 have qm:PE X' elt te:=dq ▸ he _ _ _ _
 obtain ⟨W,⟨m0,w0⟩,turn⟩:=hq s2.heap.objs.size (I.hok.fresh (Nat.le_refl _))
 have nz:tn 0 bK:=T.keep _ _ _ st fun b _ o e=>old b o e
 have f4:∀ b∈fp,FpOk X' [] (upd H2 s2.heap.objs.size (.lst [])) b:=fun b hb=>by
  obtain ⟨f0,f1,f2,f3,f4,f5⟩:=hf b hb
  have:=bw b hb
  refine ⟨?_,?_,?_,.inl ?_,?_,?_⟩
  ·rw [zI_ (Nat.ne_of_lt this)]; exact f0
  ·rw [gK]; exact Nat.ne_of_lt (Nat.lt_succ_of_lt this)
  ·intro z
   have z':b∈frs X.stack:=by rw [<- dq] at z; exact z
   rcases List.mem_cons.mp (I.stkSub b z') with q | q
   ·exact f1 q
   ·exact f2 q
  ·rw [<- dq]; exact hb
  ·intro x c e
   rw [gK] at e
   exact f4 x c (zcX_ scope.names [] cl S.clos (fun x c e=>by cases e) x c e)
  ·intro p hp
   rw [<- dq] at hp
   exact absurd (show p∈([]:Pnn) from hp) (by simp)
 have bX:∀ {H':Hp},(∀ b∈fp,H' b=none)->∀ b∈fp,FpOk X' [] H' b:=fun hn b hb=>⟨hn b hb,(f4 b hb).2⟩
 have loop:∀ bI:Shared,bI={ s2 with heap:=bK,toks:=s2.toks+([]:List (Str×Value)).length } ->
   codeAny (model X.prog X.w) X.A (.compLoop (.ListComp elt [⟨tg,iter,ifs,0⟩] scope pos) 0 (.ref it) (.ref s2.heap.objs.size) (compEnvC scope cl (s2.heap.objs.size+1) X.env))
    (compPost (model X.prog X.w) X.A E use Q' (.ref s2.heap.objs.size) (s2.heap.objs.size+1)) bI:=by
  rintro bI rfl
  refine ziz_ (fun n s'=>∃ i ys au H',Inv X' [] au H' s'/\tn i s'.heap/\(∀ b∈fp,H' b=none)/\W i n ys au H') ?_ m0 ⟨0,[],_,_,I4,nz,fun b hb=>(f4 b hb).1,w0⟩
  rintro n s3 ⟨i,ys,bS,H3,I3,st3,fr3,w3⟩
  rcases turn i n ys bS H3 w3 with ⟨stop,qn⟩ | ⟨go,N,hN,step⟩
  ·have a0:=T.done X' eP ew eK ec i [] s3 bS H3 (fun _ _=>False) I3 (bX fr3) st3 stop
   rw [eA] at a0
   refine thn a0 fun r s4 ao=>?_
   obtain ⟨hr,I4'⟩:=ao
   subst hr
   have un:Un (frs X.stack) fp H2 H3 s2.heap s4.heap:=by
    have:=I4'.base
    rw [<- dq] at this
    exact this
   have os:s4.os=s2.os:=by
    have:=I4'.os
    rw [<- dq] at this
    exact this
   have hok:HOk X.prog X.w H3 s4.heap:=by
    have:=I4'.hok
    rw [<- dq] at this
    exact this
   have J1:Inv X pins σ H3 s4:=I.call' os un hok I4'.bare fun b hb=>by
    obtain ⟨f0,f1,f2,f3,f4,f5⟩:=hf b hb
    exact ⟨f3,f1,f4,f5⟩
   obtain ⟨m,hn,_⟩:=I4'.loc
   have fF:s4.heap.Ns (s2.heap.objs.size+1) m:=by rw [gK] at hn; exact hn
   have jZ:H3 (s2.heap.objs.size+1)=none:=by
    have:=I4'.free
    rw [gK] at this; exact this
   have fC:FpOk X pins H3 (s2.heap.objs.size+1):=I.fpOk (Nat.le_succ _) jZ
   obtain ⟨oC,es,ep,hoC,hdC,rC⟩:=id fF
   have J2:Inv X (pins++[(s2.heap.objs.size+1,oC)]) σ H3 s4:=J1.pins_of fun p hp=>by
    rcases List.mem_append.mp hp with hp | hp
    ·exact J1.pin p (List.mem_append_right _ hp)
    ·have e:p=(s2.heap.objs.size+1,oC):=by simpa using hp
     subst e
     exact ⟨hoC,jZ,fC.2.1,fC.2.2.1,fun v z=>by rw [hdC] at z; cases z⟩
   exact fin _ _ oC H3 s4 J2 (fun h e=>⟨m,oC,es,ep,e,hdC,rC⟩) fC qn
  ·have a0:=T.item X' eP ew eK ec i [] s3 bS H3 (fun _ _=>False) I3 (bX fr3) st3 go
   rw [eA] at a0
   refine thn a0 fun r s4 ao=>?_
   obtain ⟨u,hr,h4⟩:=ao
   subst hr
   refine thn h4 fun _ s5 ao=>?_
   obtain ⟨x,H5,I5,r5,y5,dN,fr5⟩:=ao
   have jI:=I5.pinned (bX fr5) (T.obj _ _ dN)
   have a1:=qk _ s5 bS H5 x u _ jI r5 (step x H5 y5)
   rw [eP,ew,eA,gK,ex] at a1
   refine thn a1 fun _ s6 ao=>?_
   obtain ⟨dX,H6,I6,q6⟩:=ao
   have a2:=i3 _ s6 dX H6 _ I6 q6
   rw [eP,ew,eA,gK,ex] at a2
   refine thn a2 fun ok s7 ao=>?_
   obtain ⟨H7,I7,q7⟩:=ao
   have again:∀ {jK:List V}{H7:Hp}{s7:Shared},Inv X' ([]++pinsAt fp s5.heap) dX H7 s7->N jK dX H7->∃ m,m<n/\∃ i ys au H',Inv X' [] au H' s7/\tn i s7.heap/\(∀ b∈fp,H' b=none)/\W i m ys au H':=fun {jK H7 s7} I7 n7=>by
    obtain ⟨m',hm,w7⟩:=hN jK dX H7 n7
    refine ⟨m',hm,i+1,jK,dX,H7,I7.unpinned,T.keep _ _ _ dN fun b hb o e=>(I7.pin (b,o) (List.mem_append_right _ (List.mem_append_right _ (zbk_ hb e)))).1,fun b hb=>?_,w7⟩
    obtain ⟨o,e,d⟩:=T.obj _ _ dN b hb
    exact (I7.pin (b,o) (List.mem_append_right _ (List.mem_append_right _ (zbk_ hb e)))).2.1
   cases ok with
   | false=>exact again I7 q7
   | true =>
    have a3:=qm _ s7 dX H7 _ I7 q7
    rw [eP,ew,eA,gK,ex] at a3
    refine thn a3 fun y s8 ao=>?_
    obtain ⟨v,H8,I8,r8,hD8,hl8,n8⟩:=ao
    have a4:=zca_ (X:=X') _ s8 dX H8 (.ref s2.heap.objs.size) [v] (.ref s2.heap.objs.size) [y] (fun _ H9=>N (ys++[v]) dX H9) I8 rfl (.cons r8 .nil) ⟨_,_,_,rfl,rfl,hD8,hl8,n8⟩
    rw [eP,ew,eA,ex] at a4
    refine thn a4 fun _ s9 ao=>?_
    obtain ⟨v9,H9,I9,_,n9⟩:=ao
    exact again I9 n9
 exact codeAny_compStart_list (loop _ rfl) (T.self _ 0 _ _ _ nz (loop _ rfl))
def tComp (lv:List Str)(fr:List (Str×Nat))(wi:TI)(g:TG)(tt:TT)(te:TE):TE:=fun σ H Q=>wi σ H fun J H1=>tCompR J g tt te (cS lv fr σ) H1 Q
theorem zmi_ {wi:TI}(hc:X.calm=true)(S:CScope X scope cl lv fr)(hi:PI X tg iter wi)
  (hg:∀ C fp s2 H2,PG (cxComp X scope cl C (cN lv fr) fp s2 H2) tg g) (ht:∀ C fp s2 H2,PIf (cxComp X scope cl C (cN lv fr) fp s2 H2) ifs tt) (he:∀ C fp s2 H2,PE (cxComp X scope cl C (cN lv fr) fp s2 H2) elt te)
  (hs:∀ x,foldedSetIterable iter X.env x=pure x:=by intro _; rfl):PE X (.ListComp elt [⟨tg,iter,ifs,0⟩] scope pos) (tComp lv fr wi g tt te):=by
 intro pins s σ H Q I h
 rw [eval_ListComp]
 refine wpAny_comprehension_free (use:=none) rfl hs (zh8_ S.clos) S.kind S.names ?_
 refine thn (hi pins s σ H _ I h) fun v s1 h1=>thn h1 fun jW s2 h2=>?_
 obtain ⟨it,fp,tn,J,H2,e,I2,T,fT,f2,q⟩:=h2
 subst e
 refine zgl_ I2 S T fT f2 hc hg ht he q fun D C oC H' s' J1 lS fC qD=>?_
 have hp:=J1.pin (C,oC) (List.mem_append_right _ (List.mem_append_right _ (List.mem_singleton.mpr rfl)))
 obtain ⟨m,hm⟩:=lS s'.heap hp.1
 refine ⟨m,hm,fun h' aO=>?_⟩
 exact ⟨.ref D,H',J1.unpinned.turned (t':=s'.toks) (fun b o hb e=>(aO.2 b hb).trans e) fC.1 fC.2.1 fC.2.2.2.1 fC.2.2.2.2.1 fC.2.2.2.2.2,rfl,qD⟩
theorem zec_ {wi:TI}{j:Nat}{y:Str}{py iD:Pos}(hc:X.calm=true)(S:CScope X scope cl lv fr)(hi:PI X tg iter wi)
  (hg:∀ C fp s2 H2,PG (cxComp X scope cl C (cN lv fr) fp s2 H2) tg g) (ht:∀ C fp s2 H2,PIf (cxComp X scope cl C (cN lv fr) fp s2 H2) ifs tt) (he:∀ C fp s2 H2,PE (cxComp X scope cl C (cN lv fr) fp s2 H2) elt te)
  (hy:PG X (.Name y py) (gName j))
  (qa:swapsWith (.ListComp elt [⟨tg,iter,ifs,0⟩] scope pos) (some (.Name y py)) iD.line X.env=pure true:=by rfl)
  (hs:∀ x,foldedSetIterable iter X.env x=pure x:=by intro _; rfl):PS X (.Assign [.Name y py] (.ListComp elt [⟨tg,iter,ifs,0⟩] scope pos) iD) (tAsg (tComp lv fr wi g tt te) (gName j)):=by
 intro pins s σ H D I h
 rw [exec_Assign_Name_used _ _ _ _ qa]
 refine wpAny_bind (wpAny_standAt (wpAny_bind ?_))
 show wpAny _ X.A (do let _ <- comprehension (.ListComp elt [⟨tg,iter,ifs,0⟩] scope pos) scope X.env _ (newList []) false (eval iter X.env) (some (assign (.Name y py) X.env))) _ _ s
 refine wpAny_bind (wpAny_mono (wpAny_comprehension_free (use:=some (assign (.Name y py) X.env)) (Q:=fun _ s'=>SP X pins D .next s') rfl hs (zh8_ S.clos) S.kind S.names ?_) (fun _ s' hq=>wpAny_pure (wpAny_pure hq)) fun _ _ e=>e)
 refine thn (hi pins s σ H _ I h) fun v s1 h1=>thn h1 fun jW s2 h2=>?_
 obtain ⟨it,fp,tn,J,H2,e,I2,T,fT,f2,q⟩:=h2
 subst e
 refine zgl_ I2 S T fT f2 hc hg ht he q fun D' C oC H' s' J1 lS fC qD=>?_
 show wpAny _ X.A (assign (.Name y py) X.env (.ref D')) _ _ _
 refine thn (hy _ s' σ H' (.ref D') (.ref D') _ J1 rfl qD) fun _ s3 ao=>?_
 obtain ⟨bS,H3,I3,q3⟩:=ao
 have hp:=I3.pin (C,oC) (List.mem_append_right _ (List.mem_append_right _ (List.mem_singleton.mpr rfl)))
 obtain ⟨m,hm⟩:=lS s3.heap hp.1
 refine ⟨m,hm,fun h' aO=>?_⟩
 have ju:FpOk X pins H3 C:=⟨hp.2.1,fC.2⟩
 exact ⟨bS,H3,I3.unpinned.turned (t':=s3.toks) (fun b o hb e=>(aO.2 b hb).trans e) ju.1 ju.2.1 ju.2.2.2.1 ju.2.2.2.2.1 ju.2.2.2.2.2,q3⟩
end
abbrev tx (l:List Nat):V:=.str ⟨l.toArray⟩
def br (b:Bool)(A B:Prop):Prop:=(b=true->A)/\(b=false->B)
theorem zpA_ (a b:Str):a++b=⟨(a.cps.toList++b.cps.toList).toArray⟩:=by
 cases a; cases b
 show Str.mk (_++_)=_
 simp
theorem zbN_ (a:Str):a=⟨a.cps.toList.toArray⟩:=by cases a; simp
def cutL (l:List Nat)(lo hi:Option Int):List Nat:=(l.drop (HT.sIx l.length 0 lo)).take (HT.sIx l.length l.length hi-HT.sIx l.length 0 lo)
theorem zd0_ (lo hi:Option Int)(n:Nat):Builtin.Str.strSliceIndices lo hi 1 n=sliceRange ((HT.sIx n 0 lo:Nat):Int) ((HT.sIx n n hi:Nat):Int) 1:=by
 unfold Builtin.Str.strSliceIndices
 simp only [show (1:Int) > 0 by decide,if_true]
 congr 1
 ·cases lo with
  | none=>simp [HT.sIx]
  | some i =>
   simp only [HT.sIx]
   by_cases h:i<0
   ·simp only [h,if_true]<;>lia
   ·simp only [h,if_false]<;>lia
 ·cases hi with
  | none=>simp [HT.sIx]
  | some i =>
   simp only [HT.sIx]
   by_cases h:i<0
   ·simp only [h,if_true]<;>lia
   ·simp only [h,if_false]<;>lia
theorem zjb_ (x:Str)(lo hi:Option Int):(Builtin.Str.strSliceIndices lo hi 1 x.length).filterMap (x.cps[·]?)=cutL x.cps.toList lo hi:=by
 rw [zd0_,sliceRange_one,pick_run]
 unfold cutL Str.length
 simp only [Array.length_toList]
theorem zfk_ (l:List Nat)(lo hi:Option Int):(cutL l lo hi).length<=l.length:=by
 unfold cutL
 rw [List.length_take,List.length_drop]
 lia
theorem zlc_ {l:List Nat}{lo hi:Option Int}(h:(cutL l lo hi).length=l.length):cutL l lo hi=l:=by
 unfold cutL at h ⊢
 rw [List.length_take,List.length_drop] at h
 have h1:HT.sIx l.length l.length hi<=l.length:=HT.sIx_le _ _ (Nat.le_refl _) _
 by_cases hl:l.length=0
 ·have:l=[]:=List.length_eq_zero_iff.mp hl
  subst this
  simp
 ·have h2:HT.sIx l.length 0 lo=0:=by lia
  rw [h2,List.drop_zero,List.take_of_length_le]
  lia
section
variable {X:Cx}
def rSlS:V->Option Int->Option Int->Hp->VK->Prop:=fun x lo hi H Q=>match x with | .str z=>z.length<=sizeLine/\Q (tx (cutL z.cps.toList lo hi)) H | _=>False
theorem zej_ {v:Value}{o:Option Int}(p:IsPart v o):∃ l:Option (Int×Tok),v=partValue l/\l.map (·.1)=o:=by
 cases p with
 | none=>exact ⟨none,rfl,rfl⟩
 | int i t=>exact ⟨some (i,t),rfl,rfl⟩
theorem zqI_:SlR X rSlS:=by
 intro pins s σ H x v vl vu lo hi sl Q I rx hs pl pu h
 cases x with
 | str z =>
  obtain ⟨hz,q⟩:=h
  obtain ⟨t,rfl⟩:=rx
  obtain ⟨l,rfl,rfl⟩:=zej_ pl
  obtain ⟨u,rfl,rfl⟩:=zej_ pu
  refine ⟨"str",_,F.slot_str_getitem.lookup,typeIs_str _ _ _,?_⟩
  refine wpAny_getItem_str_slice (l:=l) (u:=u) (st:=none) hs rfl ?_
  unfold sliceMade
  have e:slicePicked z l u none=Builtin.Str.strSliceIndices (l.map (·.1)) (u.map (·.1)) 1 z.length:=rfl
  rw [e]
  have hlen:(Builtin.Str.strSliceIndices (l.map (·.1)) (u.map (·.1)) 1 z.length).length=(cutL z.cps.toList (l.map (·.1)) (u.map (·.1))).length:=by
   rw [zd0_,sliceRange_one,List.length_map,List.length_range]
   unfold cutL
   rw [List.length_take,List.length_drop]
   have h1:HT.sIx z.length z.length (u.map (·.1))<=z.length:=HT.sIx_le _ _ (Nat.le_refl _) _
   have h2:z.cps.toList.length=z.length:=by simp [Str.length]
   rw [h2]
   lia
  split
  ·rename_i hc
   have hV:(cutL z.cps.toList (l.map (·.1)) (u.map (·.1))).length=z.cps.toList.length:=by
    rw [<- hlen]
    simpa [Str.length] using hc
   rw [zlc_ hV] at q
   have q':Q (.str z) H:=by rw [zbN_ z]; exact q
   exact ⟨.str z,H,I,⟨_,rfl⟩,q'⟩
  ·rw [zjb_]
   have h3:=zfk_ z.cps.toList (l.map (·.1)) (u.map (·.1))
   have h2:z.cps.toList.length=z.length:=by simp [Str.length]
   refine ⟨?_,tx (cutL z.cps.toList (l.map (·.1)) (u.map (·.1))),H,I.tok _,⟨_,rfl⟩,q⟩
   show (cutL z.cps.toList (l.map (·.1)) (u.map (·.1))).toArray.size<=sizeLine
   rw [List.size_toArray]
   exact Nat.le_trans h3 (by rw [h2]; exact hz)
 | _=>exact h.elim
end
def mVar (i:Nat):TE:=fun σ H Q=>match σ[i]? with | some (some v)=>Q v H | _=>False
section
variable {X:Cx}{a b c:Expr}{ta tb tc:TE}{pos:Pos}
theorem za_ (i:Nat){x:Str}{pos:Pos}(hN:X.N[i]?=some x:=by rfl)(hv:Vis X.env.scope x:=by first | exact Or.inl rfl | exact Or.inr (Or.inl rfl) | exact Or.inr (Or.inr rfl))(hd:(x==("__debug__":Str))=false:=by decide)
  (cY:(x==("__classdict__":Str))=false:=by decide):PE X (.Name x pos) (mVar i):=by
 intro pins s σ H Q I h
 unfold mVar at h
 cases e:σ[i]? with
 | none=>rw [e] at h; exact h.elim
 | some o =>
  rw [e] at h
  cases o with
  | none=>exact h.elim
  | some v=>exact zq5_ hN hv hd cY pins s σ H Q I ⟨v,e,h⟩
theorem zaq_ {x:Str}{l:List Nat}{j pos}(h:x=⟨l.toArray⟩:=by rfl):PE X (.Constant (.str x) j pos) (tC (tx l)):=h ▸ zq3_
def mAdd:R2:=fun x y H Q=>match x,y with
 | .int i,.int j=>Q (.int (i+j)) H
 | .str a,.str b=>a.cps.toList.length+b.cps.toList.length<=sizeLine/\Q (tx (a.cps.toList++b.cps.toList)) H
 | .ref a,.ref b=>∃ xs zs,H a=some (.lst xs)/\H b=some (.lst zs)/\xs.length+zs.length<=sizeLine/\∀ p,H p=none->Q (.ref p) (upd H p (.lst (xs++zs)))
 | _,_=>False
theorem zaP_:OpR X (binaryOp .Add) mAdd:=by
 intro pins s σ H x y v u Q I rx ry h
 cases x<;>cases y<;>first
  | exact h.elim
  | exact zqM_ pins s σ H _ _ v u Q I rx ry ⟨_,_,rfl,rfl,h⟩
  | exact zi7_ pins s σ H _ _ v u Q I rx ry ⟨_,_,rfl,rfl,by simpa [Str.length] using h.1,by rw [zpA_]; exact h.2⟩
  | (obtain ⟨xs,zs,h1,h2,h3,h4⟩:=h; exact zrh_ pins s σ H _ _ v u Q I rx ry ⟨_,_,xs,zs,rfl,rfl,h1,h2,h3,h4⟩)
def mI (C:Int->Int->Prop)(g:Int->Int->V):R2:=fun x y H Q=>match x,y with | .int i,.int j=>C i j/\Q (g i j) H | _,_=>False
def mI0 (g:Int->Int->V):R2:=fun x y H Q=>match x,y with | .int i,.int j=>Q (g i j) H | _,_=>False
theorem opM {f:Value->Value->Sem Value}{C:Int->Int->Prop}{g:Int->Int->V}(h:OpR X f (rI C g)):OpR X f (mI C g):=by
 intro pins s σ H x y v u Q I rx ry q
 cases x<;>cases y<;>first | exact q.elim | exact h pins s σ H _ _ v u Q I rx ry ⟨_,_,rfl,rfl,q.1,q.2⟩
theorem opM0 {f:Value->Value->Sem Value}{g:Int->Int->V}(h:OpR X f (rI0 g)):OpR X f (mI0 g):=by
 intro pins s σ H x y v u Q I rx ry q
 cases x<;>cases y<;>first | exact q.elim | exact h pins s σ H _ _ v u Q I rx ry ⟨_,_,rfl,rfl,q⟩
abbrev mSub:R2:=mI0 fun i j=>.int (i-j)
abbrev mMod:R2:=mI (fun _ j=>0<j) fun i j=>.int (i % j)
theorem zbJ_:OpR X (binaryOp .Sub) mSub:=opM0 zrm_
theorem zaz_:OpR X (binaryOp .Mod) mMod:=opM zq1_
def mEqB (x y:V):Option Bool:=match x,y with
 | .int i,.int j=>some (decide (i=j))
 | .str a,.str b=>some (decide (a.cps.toList=b.cps.toList))
 | .bl a,.bl b=>some (decide (a=b))
 | .non,.non=>some true
 | .non,.int _=>some false | .int _,.non=>some false | .non,.bl _=>some false | .bl _,.non=>some false | .non,.str _=>some false | .str _,.non=>some false
 | .int _,.str _=>some false | .str _,.int _=>some false | .bl _,.str _=>some false | .str _,.bl _=>some false
 | _,_=>none
theorem zjE_ {x y:V}{b:Bool}(h:mEqB x y=some b):scal x y=true/\decide (x=y)=b:=by
 cases x<;>cases y<;>first
  | (cases (show (none:Option Bool)=some b from h); done)
  | (refine ⟨rfl,?_⟩; have h':=Option.some.inj h; rw [<- h']; first | rfl | (simp; done))
  | (rename_i a b'
     refine ⟨rfl,?_⟩
     have h':=Option.some.inj h
     rw [<- h',decide_eq_decide]
     constructor
     ·intro e; cases e; rfl
     ·intro e; rw [zbN_ a,zbN_ b',e])
def mEq:R2:=fun x y H Q=>match mEqB x y with | some b=>Q (.bl b) H | none=>False
def mNe:R2:=fun x y H Q=>match mEqB x y with | some b=>Q (.bl (!b)) H | none=>False
theorem zqv_:OpR X (compareOp .Eq) mEq:=by
 intro pins s σ H x y v u Q I rx ry h
 unfold mEq at h
 cases e:mEqB x y with
 | none=>rw [e] at h; exact h.elim
 | some b =>
  rw [e] at h
  obtain ⟨h1,h2⟩:=zjE_ e
  exact op_eq pins s σ H x y v u Q I rx ry ⟨h1,by rw [h2]; exact h⟩
theorem zrn_:OpR X (compareOp .NotEq) mNe:=by
 intro pins s σ H x y v u Q I rx ry h
 unfold mNe at h
 cases e:mEqB x y with
 | none=>rw [e] at h; exact h.elim
 | some b =>
  rw [e] at h
  obtain ⟨h1,h2⟩:=zjE_ e
  exact op_ne pins s σ H x y v u Q I rx ry ⟨h1,by rw [h2]; exact h⟩
abbrev mGt:R2:=mI0 fun i j=>.bl (decide (j<i))
theorem zmW_:OpR X (compareOp .Gt) mGt:=opM0 op_gt
def mIsB (x y:V):Option Bool:=match y with
 | .non=>some (decide (x=.non))
 | .bl b=>(match x with | .bl a=>some (decide (a=b)) | _=>none)
 | _=>none
def mIs:R2:=fun x y H Q=>match mIsB x y with | some b=>Q (.bl b) H | none=>False
def mIsNot:R2:=fun x y H Q=>match mIsB x y with | some b=>Q (.bl (!b)) H | none=>False
theorem znB_ {M:Model}{A:Around}{E:Value->Shared->Prop}{s:Shared}{a b:Bool}{Q:Value->Shared->Prop}(h:Q (.bool (decide (a=b))) s):wpAny M A (compareOp .Is (.bool a) (.bool b)) Q E s:=by
 cases a<;>cases b<;>exact wpAny_pure h
theorem zic_ {M:Model}{A:Around}{E:Value->Shared->Prop}{s:Shared}{a b:Bool}{Q:Value->Shared->Prop}(h:Q (.bool (!decide (a=b))) s):wpAny M A (compareOp .IsNot (.bool a) (.bool b)) Q E s:=by
 cases a<;>cases b<;>exact wpAny_pure h
theorem zqr_:OpR X (compareOp .Is) mIs:=by
 intro pins s σ H x y v u Q I rx ry h
 unfold mIs mIsB at h
 cases y with
 | non=>exact zre_ pins s σ H x _ v u Q I rx ry ⟨rfl,h⟩
 | bl b =>
  cases x with
  | bl a=>cases rx; cases ry; exact znB_ ⟨.bl _,H,I,rfl,h⟩
  | _=>exact h.elim
 | _=>exact h.elim
theorem zc1_:OpR X (compareOp .IsNot) mIsNot:=by
 intro pins s σ H x y v u Q I rx ry h
 unfold mIsNot mIsB at h
 cases y with
 | non=>exact zpa_ pins s σ H x _ v u Q I rx ry ⟨rfl,h⟩
 | bl b =>
  cases x with
  | bl a=>cases rx; cases ry; exact zic_ ⟨.bl _,H,I,rfl,h⟩
  | _=>exact h.elim
 | _=>exact h.elim
def inS (l:List Nat)(t:List Nat):Bool:=match l with | [c]=>decide (c∈t) | _=>!(Builtin.Str.occurrences ⟨t.toArray⟩ ⟨l.toArray⟩ 0 t.length 1).isEmpty
theorem zoJ_ (a b:Str):(!(Builtin.Str.occurrences b a 0 b.length 1).isEmpty)=inS a.cps.toList b.cps.toList:=by
 have e:b.length=b.cps.toList.length:=by simp [Str.length]
 unfold inS
 split
 ·rename_i c hc
  have ea:a=⟨#[c]⟩:=by rw [zbN_ a,hc]
  rw [ea]
  exact StrLaws.found_one b c
 ·rw [<- zbN_,<- zbN_,e]
def mIn (K:Fgg)(neg:Bool):R2:=fun x y H Q=>match y with
 | .str b=>(match x with | .str a=>Q (.bl (if neg then !inS a.cps.toList b.cps.toList else inS a.cps.toList b.cps.toList)) H | _=>False)
 | .ref p=>∃ xs,(SqL K H p xs\/SqT K H p xs)/\flatV x=true/\xs.all flatV=true/\Q (.bl (if neg then !inV x xs else inV x xs)) H
 | _=>False
theorem zqK_:OpR X (compareOp .In) (mIn X.K false):=by
 intro pins s σ H x y v u Q I rx ry h
 unfold mIn at h
 cases y with
 | str b =>
  cases x with
  | str a=>exact zk0_ pins s σ H _ _ v u Q I rx ry ⟨_,_,rfl,rfl,by rw [zoJ_]; exact h⟩
  | _=>exact h.elim
 | ref p =>
  obtain ⟨xs,h1,h2,h3,h4⟩:=h
  exact zll_ pins s σ H _ _ v u Q I rx ry ⟨_,xs,rfl,h1,h2,h3,h4⟩
 | _=>exact h.elim
def mTest (t:TE):TT:=fun σ H Q=>t σ H fun x H'=>match x with | .bl k=>Q k H' | _=>False
def mAndV (ta tb:TE):TE:=fun σ H Q=>ta σ H fun x H1=>match x with | .bl c=>br c (tb σ H1 Q) (Q (.bl false) H1) | _=>False
def mOrV (ta tb:TE):TE:=fun σ H Q=>ta σ H fun x H1=>match x with | .bl c=>br c (Q (.bl true) H1) (tb σ H1 Q) | _=>False
def mAnd (t u:TT):TT:=fun σ H Q=>t σ H fun c H1=>br c (u σ H1 Q) (Q false H1)
def mOr (t u:TT):TT:=fun σ H Q=>t σ H fun c H1=>br c (Q true H1) (u σ H1 Q)
variable {rest:List Expr}{tA jR:TT}
theorem zj9_ (ha:PE X a ta)(hb:PE X (.BoolOp .And (b::rest) pos) tb):PE X (.BoolOp .And (a::b::rest) pos) (mAndV ta tb):=by
 intro pins s σ H Q I h
 refine BoolOp_and (thn (ha pins s σ H _ I h) fun v s1 ao=>?_)
 obtain ⟨x,H1,I1,r1,q1⟩:=ao
 cases x with
 | bl c =>
  cases r1
  refine wpAny_truthy_bool ?_
  cases c with
  | true=>exact hb pins s1 σ H1 Q I1 (q1.1 rfl)
  | false=>exact ⟨.bl false,H1,I1,rfl,q1.2 rfl⟩
 | _=>exact q1.elim
theorem znZ_ (ha:PE X a ta)(hb:PE X (.BoolOp .Or (b::rest) pos) tb):PE X (.BoolOp .Or (a::b::rest) pos) (mOrV ta tb):=by
 intro pins s σ H Q I h
 refine BoolOp_or (thn (ha pins s σ H _ I h) fun v s1 ao=>?_)
 obtain ⟨x,H1,I1,r1,q1⟩:=ao
 cases x with
 | bl c =>
  cases r1
  refine wpAny_truthy_bool ?_
  cases c with
  | false=>exact hb pins s1 σ H1 Q I1 (q1.2 rfl)
  | true=>exact ⟨.bl true,H1,I1,rfl,q1.1 rfl⟩
 | _=>exact q1.elim
theorem zlZ_ (ha:PT X a tA)(hb:PW X (.BoolOp .And (b::rest) pos) jR):PW X (.BoolOp .And (a::b::rest) pos) (mAnd tA jR):=by
 intro wh pins s σ H Q I h
 refine isTrue_and (thn (ha pins s σ H _ I h) fun c s1 ao=>?_)
 obtain ⟨H1,I1,q1⟩:=ao
 cases c with
 | true=>exact hb wh pins s1 σ H1 Q I1 (q1.1 rfl)
 | false=>exact ⟨H1,I1,q1.2 rfl⟩
theorem zcO_ (ha:PT X a tA)(hb:PW X (.BoolOp .Or (b::rest) pos) jR):PW X (.BoolOp .Or (a::b::rest) pos) (mOr tA jR):=by
 intro wh pins s σ H Q I h
 refine isTrue_or (thn (ha pins s σ H _ I h) fun c s1 ao=>?_)
 obtain ⟨H1,I1,q1⟩:=ao
 cases c with
 | true=>exact ⟨H1,I1,q1.1 rfl⟩
 | false=>exact hb wh pins s1 σ H1 Q I1 (q1.2 rfl)
theorem zaa_ {e:Expr}{t:TE}(h:PE X e t)(he:∀ whole,isTrue e X.env whole=(do let v <- whole; standAt e.pos; holding [v] (truthy v)):=by intro _; rfl):PT X e (mTest t):=by
 intro pins s σ H Q I hw
 refine isTrue_plain (thn (h pins s σ H _ I hw) fun v s1 ao=>?_) (he _)
 obtain ⟨x,H1,I1,r1,q1⟩:=ao
 cases x with
 | bl c=>cases r1; exact wpAny_truthy_bool ⟨H1,I1,q1⟩
 | _=>exact q1.elim
theorem zS_ {op:CmpOp}{r:R2}(ho:OpR X (compareOp op) r)(ha:PE X a ta)(hb:PE X b tb)(hm:behindInMarks op b=false:=by first | exact nobehind _ (by decide) (by decide) | rfl):PT X (.Compare a [op] [b] pos) (mTest (tOp r ta tb)):=by
 intro pins s σ H Q I hw
 refine wpAny_isTrue_Compare1 (binT ha hb I hw fun v u s2 x y H2 I2 rx ry q=>?_) hm
 refine thn (ho pins s2 σ H2 x y v u _ I2 rx ry q) fun c s3 ao=>?_
 obtain ⟨z,H3,I3,r3,q3⟩:=ao
 cases z with
 | bl k=>cases r3; exact wpAny_truthy_bool ⟨H3,I3,q3⟩
 | _=>exact q3.elim
theorem zcI_ {op:CmpOp}{r:R2}(ho:OpR X (compareOp op) r)(ha:PE X a ta)(hb:PE X b tb)(hm:behindInMarks op b=false:=by first | exact nobehind _ (by decide) (by decide) | rfl):PE X (.Compare a [op] [b] pos) (tOp r ta tb):=zqe_ ho ha hb hm
def mIf (t:TT)(ta tb:TE):TE:=fun σ H Q=>t σ H fun c H1=>br c (ta σ H1 Q) (tb σ H1 Q)
theorem zqW_ {c:Expr}(hc:PT X c tA)(ha:PE X a ta)(hb:PE X b tb):PE X (.IfExp c a b pos) (mIf tA ta tb):=by
 intro pins s σ H Q I h
 refine wpAny_IfExp (thn (hc pins s σ H _ I h) fun d s1 ao=>?_)
 obtain ⟨H1,I1,q1⟩:=ao
 cases d with
 | true=>exact ha pins s1 σ H1 Q I1 (q1.1 rfl)
 | false=>exact hb pins s1 σ H1 Q I1 (q1.2 rfl)
def mIfS (c:TT)(t u:TS):TS:=fun D σ H=>c σ H fun b H1=>br b (t D σ H1) (u D σ H1)
theorem zab_ {c:Expr}{a b:List Stmt}{tc:TT}{t u:TS}(hc:PT X c tc)(ha:PSs X a t)(hb:PSs X b u):PS X (.If c a b pos) (mIfS tc t u):=by
 intro pins s σ H D I h
 refine wpAny_If (thn (hc pins s σ H _ I h) fun d s1 ao=>?_)
 obtain ⟨H1,I1,q1⟩:=ao
 cases d with
 | true=>exact ha pins s1 σ H1 D I1 (q1.1 rfl)
 | false=>exact hb pins s1 σ H1 D I1 (q1.2 rfl)
end
section
variable {X:Cx}{a b c e:Expr}{ta:TE}{t:TA}
def mIx (K:Fgg):R2:=fun x y H Q=>match y with
 | .int i=>(match x with
  | .ref p=>∃ xs,(SqL K H p xs\/SqT K H p xs)/\(match atI xs i with | some v=>Q v H | none=>False)
  | .str z=>z.cps.toList.length<=sizeLine/\(match atI z.cps.toList i with | some c=>Q (tx [c]) H | none=>False)
  | _=>False)
 | _=>False
theorem ix_M:IxR X (mIx X.K):=by
 intro value slice pins s σ H x y v u Q I rx ry h lu
 unfold mIx at h
 cases y with
 | int i =>
  cases x with
  | ref p =>
   obtain ⟨xs,hs,h⟩:=h
   cases ev:atI xs i with
   | none=>rw [ev] at h; exact h.elim
   | some w' =>
    rw [ev] at h
    rcases hs with hs | hs
    ·exact zou_ value slice pins s σ H _ _ v u Q I rx ry ⟨p,xs,i,w',rfl,rfl,hs,ev,h⟩ lu
    ·exact zqJ_ value slice pins s σ H _ _ v u Q I rx ry ⟨p,xs,i,w',rfl,rfl,hs,ev,h⟩ lu
  | str z =>
   obtain ⟨hz,h⟩:=h
   cases ev:atI z.cps.toList i with
   | none=>rw [ev] at h; exact h.elim
   | some w' =>
    rw [ev] at h
    exact zqQ_ value slice pins s σ H _ _ v u Q I rx ry ⟨z,i,w',rfl,rfl,by simpa [Str.length] using hz,ev,h⟩ lu
  | _=>exact h.elim
 | _=>exact h.elim
def mSl (K:Fgg):V->Option Int->Option Int->Hp->VK->Prop:=fun x lo hi H Q=>match x with
 | .str z=>z.cps.toList.length<=sizeLine/\Q (tx (cutL z.cps.toList lo hi)) H
 | .ref a=>∃ xs,SqL K H a xs/\∀ p,H p=none->Q (.ref p) (upd H p (.lst (cutV xs lo hi)))
 | _=>False
theorem sl_M:SlR X (mSl X.K):=by
 intro pins s σ H x v vl vu lo hi sl Q I rx hs pl pu h
 unfold mSl at h
 cases x with
 | str z=>exact zqI_ pins s σ H _ v vl vu lo hi sl Q I rx hs pl pu ⟨by simpa [Str.length] using h.1,h.2⟩
 | ref p =>
  obtain ⟨xs,h1,h2⟩:=h
  exact zpT_ pins s σ H _ v vl vu lo hi sl Q I rx hs pl pu ⟨p,xs,rfl,h1,h2⟩
 | _=>exact h.elim
def mPart (t:TE):TO:=fun σ H Q=>t σ H fun x H1=>match x with | .int i=>Q (some i) H1 | _=>False
theorem po_M (h:PE X e ta):PO X (some e) (mPart ta):=by
 intro pins s σ H Q I hw
 rw [evalPart_some]
 refine thn (h pins s σ H _ I hw) fun u s1 ao=>?_
 obtain ⟨x,H1,I1,r1,q1⟩:=ao
 cases x with
 | int i=>obtain ⟨t,rfl⟩:=r1; exact ⟨some i,H1,I1,.int i t,q1⟩
 | _=>exact q1.elim
def mLen (K:Fgg):List V->Hp->VK->Prop:=fun xs H Q=>match xs with
 | [.str z]=>z.cps.toList.length<=sizeLine/\Q (.int z.cps.toList.length) H
 | [.ref p]=>∃ ys,(SqL K H p ys\/SqT K H p ys)/\Q (.int ys.length) H
 | _=>False
theorem zmY_ {K:Fgg}{xs:List V}{H:Hp}{Q:VK}(h:mLen K xs H Q):(∃ z,xs=[.str z]/\z.cps.toList.length<=sizeLine/\Q (.int z.cps.toList.length) H)\/∃ p ys,xs=[.ref p]/\(SqL K H p ys\/SqT K H p ys)/\Q (.int ys.length) H:=by
 rcases xs with _ | ⟨x,_ | ⟨y,t⟩⟩
 ·exact False.elim h
 ·cases x with
  | str z=>exact .inl ⟨z,rfl,h⟩
  | ref p=>obtain ⟨ys,h⟩:=h; exact .inr ⟨p,ys,rfl,h⟩
  | _=>exact False.elim h
 ·cases x<;>exact False.elim h
theorem zaw_:CallR X (.builtin "len") (mLen X.K):=by
 intro pins s σ H xs us Q I r h
 rcases zmY_ h with ⟨z,rfl,h⟩ | ⟨p,ys,rfl,h1,h2⟩
 ·exact zg7_ pins s σ H _ us Q I r ⟨_,rfl,by simpa [Str.length] using h.1,by simpa [Str.length] using h.2⟩
 ·exact zgS_ pins s σ H _ us Q I r ⟨_,ys,rfl,h1,h2⟩
def mTwo (g:Int->Int->Int):List V->Hp->VK->Prop:=fun xs H Q=>match xs with | [.int i,.int j]=>Q (.int (g i j)) H | _=>False
theorem znJ_ {g:Int->Int->Int}{xs:List V}{H:Hp}{Q:VK}(h:mTwo g xs H Q):∃ i j,xs=[.int i,.int j]/\Q (.int (g i j)) H:=by
 rcases xs with _ | ⟨x,_ | ⟨y,_ | ⟨w,t⟩⟩⟩
 ·exact False.elim h
 ·cases x<;>exact False.elim h
 ·cases x with
  | int i=>cases y with
   | int j=>exact ⟨i,j,rfl,h⟩
   | _=>exact False.elim h
  | _=>exact False.elim h
 ·cases x with
  | int i=>cases y<;>exact False.elim h
  | _=>exact False.elim h
theorem zkF_ (hc:X.calm=true):CallR X (.builtin "max") (mTwo max):=by
 intro pins s σ H xs us Q I r h
 obtain ⟨i,j,rfl,h⟩:=znJ_ h
 refine zln_ hc pins s σ H _ us Q I r ⟨i,j,rfl,?_⟩
 have e:(if j > i then j else i)=max i j:=by split<;>lia
 rw [e]; exact h
def tyS (K:Fgg)(H:Hp):V->String->Prop:=fun x T=>match x with
 | .non=>T="NoneType" | .bl _=>T="bool" | .int _=>T="int" | .str _=>T="str"
 | .ref p=>(T="list" /\ ∃ xs,H p=some (.lst xs))\/(T="tuple" /\ ∃ xs,H p=some (.tup xs))
 | _=>False
theorem zq8_ {K:Fgg}{H:Hp}{x:V}{T:String}(h:tyS K H x T):TyOf K H x (.type T):=by
 unfold tyS at h
 cases x with
 | non=>subst h; exact .non
 | bl b=>subst h; exact .bl b
 | int i=>subst h; exact .int i
 | str z=>subst h; exact .str z
 | ref p =>
  rcases h with ⟨rfl,xs,h⟩ | ⟨rfl,xs,h⟩
  ·exact .lst h
  ·exact .tup h
 | _=>exact h.elim
def isaB (T c:String):Option Bool:=
 if T=c then some true else if T="bool" /\ c="int" then some true
 else if (T="bool" \/ T="int" \/ T="str" \/ T="list" \/ T="tuple" \/ T="NoneType")/\(c="bool" \/ c="int" \/ c="str" \/ c="list" \/ c="tuple" \/ c="dict") then some false else none
theorem zpF_ {K:Fgg}{T c:String}{b:Bool}(h:isaB T c=some b):W.kitOne K (.type T) (.type c)=some b:=by
 unfold isaB at h
 split at h
 ·rename_i e; subst e; cases h
  unfold W.kitOne
  rw [if_pos (by simp)]
 ·split at h
  ·rename_i e; obtain ⟨rfl,rfl⟩:=e; cases h; rfl
  ·split at h
   ·rename_i h1 h2 e
    cases h
    obtain ⟨e1,e2⟩:=e
    rcases e1 with rfl | rfl | rfl | rfl | rfl | rfl<;>rcases e2 with rfl | rfl | rfl | rfl | rfl | rfl<;>first | rfl | exact absurd rfl h1 | exact absurd ⟨rfl,rfl⟩ h2
   ·cases h
def mIsa (K:Fgg):List V->Hp->VK->Prop:=fun xs H Q=>match xs with
 | [.int _,.ty c]=>(match isaB "int" c with | some b=>Q (.bl b) H | none=>False)
 | [.bl _,.ty c]=>(match isaB "bool" c with | some b=>Q (.bl b) H | none=>False)
 | [.str _,.ty c]=>(match isaB "str" c with | some b=>Q (.bl b) H | none=>False)
 | [.non,.ty c]=>(match isaB "NoneType" c with | some b=>Q (.bl b) H | none=>False)
 | [.ref p,.ty c]=>∃ T,tyS K H (.ref p) T/\(match isaB T c with | some b=>Q (.bl b) H | none=>False)
 | _=>False
theorem ze4_:CallR X (.builtin "isinstance") (mIsa X.K):=by
 intro pins s σ H xs us Q I r h
 have key:∀ (x:V) (T c:String),xs=[x,.ty c]->tyS X.K H x T->(match isaB T c with | some b=>Q (.bl b) H | none=>False)->wpAny (model X.prog X.w) X.A (call (.builtin "isinstance") us) (EP X pins σ Q) X.xe s:=by
  intro x T c e ht hq
  subst e
  obtain ⟨u,w',rfl,r1,r2⟩:=vals2 r
  cases r2
  cases eb:isaB T c with
  | none=>rw [eb] at hq; exact hq.elim
  | some b =>
   rw [eb] at hq
   exact zhw_ I r1 (zq8_ ht) (zpF_ eb) fun tk=>⟨.bl b,H,I.tok tk,rfl,hq⟩
 unfold mIsa at h
 split at h
 ·exact key _ "int" _ rfl rfl h
 ·exact key _ "bool" _ rfl rfl h
 ·exact key _ "str" _ rfl rfl h
 ·exact key _ "NoneType" _ rfl rfl h
 ·obtain ⟨T,h1,h2⟩:=h
  exact key _ T _ rfl h1 h2
 ·exact h.elim
def findS (l:List Nat)(t:List Nat):Int:=Txt.find ⟨l.toArray⟩ ⟨t.toArray⟩
theorem zmE_ (l:List Nat)(c:Nat):findS l [c]=(match l.findIdx? (· == c) with | some i=>(i:Int) | none => -1):=by
 unfold findS
 rcases find_whole ⟨l.toArray⟩ ⟨[c].toArray⟩ with ⟨h1,h2⟩ | ⟨i,h1,h2,h3⟩
 ·rw [h1]
  have:l.findIdx? (· == c)=none:=by
   rw [List.findIdx?_eq_none_iff]
   intro x hx
   obtain ⟨j,hj⟩:=List.mem_iff_getElem?.mp hx
   by_cases hxc:x=c
   ·subst hxc
    exact absurd ((StrLaws.subAt_one ⟨l.toArray⟩ x j).mpr (by simpa using hj)) (h2 j)
   ·simpa using hxc
  rw [this]
 ·rw [h1]
  have hi:l[i]?=some c:=by simpa using (StrLaws.subAt_one ⟨l.toArray⟩ c i).mp h2
  have:l.findIdx? (· == c)=some i:=by
   obtain ⟨bw,hget⟩:=List.getElem?_eq_some_iff.mp hi
   rw [List.findIdx?_eq_some_iff_getElem]
   refine ⟨bw,by simp [hget],fun j hj=>?_⟩
   have qi:j<l.length:=Nat.lt_trans hj bw
   have hn:=h3 j hj
   intro hc
   have hV:l[j]=c:=by simpa using hc
   exact hn ((StrLaws.subAt_one ⟨l.toArray⟩ c j).mpr (by simp [qi,hV]))
  rw [this]
def mIndex:V->List V->Hp->VK->Prop:=fun x xs H Q=>match x,xs with | .str l,[.str t]=>findS l.cps.toList t.cps.toList ≠ -1/\Q (.int (findS l.cps.toList t.cps.toList)) H | _,_=>False
theorem zmQ_:MtR X "str.index" mIndex:=by
 intro pins s σ H x xs v us Q I rx rv h
 unfold mIndex at h
 split at h
 ·rename_i l t
  obtain ⟨k,rfl⟩:=rx
  obtain ⟨u,rfl,ru⟩:=rv.one
  obtain ⟨k',rfl⟩:=ru
  have e:Txt.find l t=findS l.cps.toList t.cps.toList:=by unfold findS; rw [<- zbN_,<- zbN_]
  rw [<- e] at h
  unfold Txt.find at h
  cases ho:Builtin.Str.occurrences l t 0 l.length 1 with
  | nil=>rw [ho] at h; exact absurd rfl h.1
  | cons i rest =>
   rw [ho] at h
   exact SC.index ho ⟨.int _,H,I.tok _,⟨_,rfl⟩,h.2⟩
 ·exact h.elim
end
def Gd (P:Program)(w:World)(K:Fgg)(mg:Str->Option Value)(base:Heap)(CX:CXT)(k:Nat)(x:Str)(ps:List Str)(sp:Sp):Prop:=
 ∃ f fd,FnOk P w K mg base CX k f fd ps sp/\mg x=some (.ref f)/\W.keepIn K (.ref f)=true/\Binds K fd ps []
def Gc (mg:Str->Option Value)(x:Str)(v:V):Prop:=∃ u,mg x=some u/\RelV v u
abbrev Gb (mg:Str->Option Value)(x:Str):Prop:=mg x=none
section
variable {X:Cx}{k:Nat}{x:Str}{ps:List Str}{sp:Sp}{p pos:Pos}{e:Expr}{es:List Expr}{t:TA}{tg:Expr}
theorem zm_ (G:Gd X.prog X.w X.K X.mg X.base CX0 k x ps sp)(hr:Room k X.A)(ha:PA X (e::es) t)(hg:Gl X x:=by rfl)(aV:(x==("__debug__":Str))=false:=by decide)
  (he:starEach (e::es) X.env=(false,eval e X.env)::starEach es X.env:=by rfl) (aQ:(backTo pos (starEach es X.env)).any (·.1)=false:=by rfl):
  PE X (.Call (.Name x p) (e::es) [] pos) (tCall sp [] E0 t):=by
 obtain ⟨f,fd,F,hm,hk,hb⟩:=G
 exact zmx_ F hr hg hm hk hb .nil pass0 ha aV he aQ
theorem zlt_ (G:Gd X.prog X.w X.K X.mg X.base CX0 k x ps sp)(hr:Room k X.A)(hg:Gl X x:=by rfl)(aV:(x==("__debug__":Str))=false:=by decide):
  PE X (.Call (.Name x p) [] [] pos) (tCall sp [] E0 tNil):=by
 obtain ⟨f,fd,F,hm,hk,hb⟩:=G
 exact zn8_ F hr hg hm hk hb .nil pass0 aV
theorem ziF_ {v:V}(h:Gc X.mg x v)(hg:Gl X x:=by rfl)(hd:(x==("__debug__":Str))=false:=by decide):PE X (.Name x pos) (tC v):=by
 obtain ⟨u,hm,r⟩:=h
 exact zjg_ hg hm r hd
theorem zo4_ (T:String)(hm:Gb X.mg x)(hg:Gl X x:=by rfl)(hv:bootBuiltins x=some (.type T):=by rfl)(hn:x ≠ "__name__":=by decide)(hd:(x==("__debug__":Str))=false:=by decide):PE X (.Name x pos) (tC (.ty T)):=
 zpP_ hg hm hv rfl hn hd
theorem zdh_ {id:String}{r:List V->Hp->VK->Prop}(hc:CallR X (.builtin id) r)(hm:Gb X.mg x)(ha:PA X (e::es) t)(hg:Gl X x:=by rfl)(hv:bootBuiltins x=some (.builtin id):=by rfl)(hn:x ≠ "__name__":=by decide)(aV:(x==("__debug__":Str))=false:=by decide)
  (hs:starEach (e::es) X.env=(false,eval e X.env)::starEach es X.env:=by rfl) (aQ:(backTo pos (starEach es X.env)).any (·.1)=false:=by rfl):PE X (.Call (.Name x p) (e::es) [] pos) (tCB r t):=
 zmM_ hc hg hm hv ha hn aV hs aQ
theorem pe_sm {o:Expr}{to:TE}{name:Str}{id:String}{r:V->List V->Hp->VK->Prop}{apos aP:Pos}(slot:Slot "str" name id)(iZ:typeOf (.builtin id)=pure (.type "method_descriptor"))(hm:MtR X id r)(ho:PE X o to)(ha:PA X (e::es) t)
  (h1:attributeBase o name X.env (eval o X.env)=eval o X.env:=by rfl) (h2:((((backTo aP (starEach (e::es) X.env)).all fun x=>!x.fst) && (backToKw aP (keywordEach [] X.env)).all fun x=>x.fst.isSome) && decide (((e::es).length+([]:List Keyword).length+if ([]:List Keyword).isEmpty=true then 0 else 1)<30))=true:=by rfl)
  (h3:(apos.endLine == aP.line)=true:=by rfl) (h4:starEach (e::es) X.env=(false,eval e X.env)::starEach es X.env:=by rfl) (h5:((backTo aP (starEach es X.env)).any fun x=>x.fst)=false:=by rfl):
  PE X (.Call (.Attribute o name apos) (e::es) [] aP) (tBM X.K "str" r to t):=zlX_ PySem.F.plainAttrs_str slot iZ hm ho ha h1 h2 h3 h4 h5
def iAny (K:Fgg)(tl:TE):TI:=fun σ H R=>tl σ H fun x H1=>match x with
 | .str z=>R (Itp z.cps.toList.length (fun i=>tx [z.cps.toList.getD i 0])) H1
 | .ref a=>((∃ xs,SqL K H1 a xs)/\R (Itl K a) H1)\/((∃ xs,SqT K H1 a xs)/\R (Itt K a) H1)
 | _=>False
theorem zpl_ (z:Str):sgn z=fun i=>tx [z.cps.toList.getD i 0]:=by
 funext i
 unfold sgn
 simp [Array.getD_eq_getD_getElem?,List.getD_eq_getElem?_getD]
theorem ze9_ {l:Expr}{tl:TE}(hl:PE X l tl):PI X tg l (iAny X.K tl):=by
 intro pins s σ H R I h
 refine thn (hl pins s σ H _ I h) fun v s1 ao=>?_
 obtain ⟨x,H1,I1,r1,q1⟩:=ao
 have pt:∀ (v:V),PE X l (tC v)->PE X l (tC v):=fun _ h=>h
 cases x with
 | str z =>
  obtain ⟨t,rfl⟩:=r1
  refine wpAny_pyIter_strU ?_
  have q:R (Itp z.cps.size (sgn z)) H1:=by
   have e:z.cps.toList.length=z.cps.size:=by simp
   rw [zpl_,<- e]
   exact q1
  refine ⟨s1.heap.objs.size,[s1.heap.objs.size],_,_,H1,rfl,I1.kept (t':=s1.toks) fun b o e=>Heap.get?_push_of_some _ e,znD_ _ z t,⟨Nat.zero_le _,⟨_,Heap.get?_push_size _ rfl,rfl,rfl⟩⟩,fun b hb=>?_,q⟩
  have e:b=s1.heap.objs.size:=by simpa using hb
  subst e
  exact I1.fpOk (Nat.le_refl _) (I1.hok.fresh (Nat.le_refl _))
 | ref a =>
  cases r1
  rcases q1 with ⟨⟨xs,hq⟩,q⟩ | ⟨⟨xs,hq⟩,q⟩
  ·obtain ⟨ai,rv,p,hz⟩:=I1.list hq
   refine wpAny_pyIter_list p.isList ?_
   refine ⟨s1.heap.objs.size,[s1.heap.objs.size],_,_,H1,rfl,I1.kept (t':=s1.toks) fun b o e=>Heap.get?_push_of_some _ e,zhx_ a _,⟨_,Heap.get?_push_size _ rfl,rfl,rfl⟩,fun b hb=>?_,q⟩
   have e:b=s1.heap.objs.size:=by simpa using hb
   subst e
   exact I1.fpOk (Nat.le_refl _) (I1.hok.fresh (Nat.le_refl _))
  ·obtain ⟨ai,rv,p,hz⟩:=I1.tuple hq
   refine wpAny_pyIter_tuple (show s1.heap.IsTuple a ai.toArray from p) ?_
   refine ⟨s1.heap.objs.size,[s1.heap.objs.size],_,_,H1,rfl,I1.kept (t':=s1.toks) fun b o e=>Heap.get?_push_of_some _ e,zji_ a _,⟨_,Heap.get?_push_size _ rfl,rfl,rfl⟩,fun b hb=>?_,q⟩
   have e:b=s1.heap.objs.size:=by simpa using hb
   subst e
   exact I1.fpOk (Nat.le_refl _) (I1.hok.fresh (Nat.le_refl _))
 | _=>exact q1.elim
def mRng1 (ta:TA):TI:=fun σ H R=>ta σ H fun vs H1=>match vs with | [.int j] => -(2 ^ 62)<=j/\j<2 ^ 62/\R (Itr 0 j.toNat) H1 | _=>False
def mRng2 (ta:TA):TI:=fun σ H R=>ta σ H fun vs H1=>match vs with | [.int i,.int j]=>(-(2 ^ 62)<=i/\i<2 ^ 62 /\ -(2 ^ 62)<=j/\j<2 ^ 62)/\R (Itr i (j-i).toNat) H1 | _=>False
end
section
variable {X:Cx}{tg:Expr}
theorem zj4_ {a:Expr}{ta:TA}{p pos:Pos}(hm:Gb X.mg "range")(ha:PA X [a] ta)(hg:Gl X "range":=by rfl)(hs:starEach [a] X.env=[(false,eval a X.env)]:=by rfl):PI X tg (.Call (.Name "range" p) [a] [] pos) (mRng1 ta):=by
 intro pins s σ H R I h
 refine Call_ (zgM_ I hg hm boot_range (PyProof.Rows.callWith_type1 (thn (ha pos pins s σ H _ I h) fun us s1 ao=>?_) hs rfl))
 obtain ⟨vs,H1,I1,r1,q1⟩:=ao
 try dsimp only at q1
 split at q1
 ·obtain ⟨q2,q3,q⟩:=q1
  cases r1 with
  | cons r rr =>
   cases rr
   obtain ⟨t,rfl⟩:=r
   exact call_range_1 (zi1_ I1 (by lia) (by lia) q2 q3 (by simpa using q))
 ·exact q1.elim
theorem zjF_ {a b:Expr}{ta:TA}{p pos:Pos}(hm:Gb X.mg "range")(ha:PA X [a,b] ta)(hg:Gl X "range":=by rfl)(hs:starEach [a,b] X.env=[(false,eval a X.env),(false,eval b X.env)]:=by rfl)(bP:starEach [b] X.env=[(false,eval b X.env)]:=by rfl):
  PI X tg (.Call (.Name "range" p) [a,b] [] pos) (mRng2 ta):=by
 intro pins s σ H R I h
 refine Call_ (zgM_ I hg hm boot_range (PyProof.Rows.callWith_type1 (thn (ha pos pins s σ H _ I h) fun us s1 ao=>?_) (by rw [hs,bP]) (by rw [bP]; rfl)))
 obtain ⟨vs,H1,I1,r1,q1⟩:=ao
 try dsimp only at q1
 split at q1
 ·obtain ⟨⟨q1,q2,q3,q4⟩,q⟩:=q1
  cases r1 with
  | cons r rr =>
   cases rr with
   | cons r' rr =>
    cases rr
    obtain ⟨t,rfl⟩:=r
    obtain ⟨t',rfl⟩:=r'
    exact call_range_2 (zi1_ I1 q1 q2 q3 q4 q)
 ·exact q1.elim
variable {elts:List Expr}{kk:Nat}{gn:Pos}
def iEnum (K:Fgg)(ta:TA):TI:=fun σ H R=>ta σ H fun vs H1=>match vs with
 | [.str z]=>R (Ites z.cps.toList.length (fun i=>tx [z.cps.toList.getD i 0])) H1
 | [.ref a]=>(∃ xs,SqL K H1 a xs)/\R (Ite K a) H1
 | _=>False
theorem zlM_ {a:Expr}{ta:TA}{p pos:Pos}(hm:Gb X.mg "enumerate")(ha:PA X [a] ta)(hg:Gl X "enumerate":=by rfl)(hs:starEach [a] X.env=[(false,eval a X.env)]:=by rfl):
  PI X (.Tuple elts kk gn) (.Call (.Name "enumerate" p) [a] [] pos) (iEnum X.K ta):=by
 intro pins s σ H R I h
 refine Call_ (zgM_ I hg hm (u:=.type "enumerate") (by rfl) (PyProof.Rows.callWith_type1 (thn (ha pos pins s σ H _ I h) fun us s1 ao=>?_) hs rfl))
 obtain ⟨vs,H1,I1,r1,q1⟩:=ao
 try dsimp only at q1
 split at q1
 ·rename_i z
  cases r1 with
  | cons r rr =>
   cases rr
   obtain ⟨t,rfl⟩:=r
   refine call_enumerate_str fun h' he hit hsz hk=>?_
   refine wpAny_pyIter_enum (s:={ s1 with heap:=h' }) he ?_
   have I2:Inv X pins σ H1 { s1 with heap:=h' }:=I1.kept (t':=s1.toks) hk
   have q:R (Ites z.cps.size (sgn z)) H1:=by
    have e:z.cps.toList.length=z.cps.size:=by simp
    rw [zpl_,<- e]
    exact q1
   refine ⟨s1.heap.objs.size+1,[s1.heap.objs.size+1,s1.heap.objs.size],_,_,H1,rfl,I2,zj7_ _ _ z t (by simp),⟨⟨_,he⟩,Nat.zero_le _,hit⟩,fun b hb=>?_,q⟩
   have f_:s1.heap.objs.size<=b:=by
    rcases List.mem_cons.mp hb with rfl | hb
    ·exact Nat.le_succ _
    ·have e:b=s1.heap.objs.size:=by simpa using hb
     subst e; exact Nat.le_refl _
   exact I1.fpOk f_ (I1.hok.fresh f_)
 ·rename_i l
  obtain ⟨⟨xs,hq⟩,q⟩:=q1
  cases r1 with
  | cons r rr =>
   cases rr
   cases r
   obtain ⟨ai,rv,p,hz⟩:=I1.list hq
   refine call_enumerate_list p.isList fun h' he hit hsz hk=>?_
   refine wpAny_pyIter_enum (s:={ s1 with heap:=h' }) he ?_
   have I2:Inv X pins σ H1 { s1 with heap:=h' }:=I1.kept (t':=s1.toks) hk
   refine ⟨s1.heap.objs.size+1,[s1.heap.objs.size+1,s1.heap.objs.size],_,_,H1,rfl,I2,ziJ_ _ _ l (by simp),⟨⟨_,he⟩,hit⟩,fun b hb=>?_,q⟩
   have f_:s1.heap.objs.size<=b:=by
    rcases List.mem_cons.mp hb with rfl | hb
    ·exact Nat.le_succ _
    ·have e:b=s1.heap.objs.size:=by simpa using hb
     subst e; exact Nat.le_refl _
   exact I1.fpOk f_ (I1.hok.fresh f_)
 ·exact q1.elim
def gNilM:TGs:=fun vs σ H Q=>match vs with | []=>Q σ H | _=>False
def gConsM (t:TG)(u:TGs):TGs:=fun vs σ H Q=>match vs with | v::r=>t v σ H fun au H'=>u r au H' Q | []=>False
theorem zfu_:PGs X [] gNilM:=by
 intro pins s σ H vs us Q I r h
 cases vs with
 | nil=>exact zpo_ pins s σ H [] us Q I r ⟨rfl,h⟩
 | cons _ _=>exact h.elim
theorem zbd_ {e:Expr}{es:List Expr}{t:TG}{u:TGs}(h1:PG X e t)(h2:PGs X es u)
  (hs:(assignEach (e::es) X.env).map (·.2)=assign e X.env::(assignEach es X.env).map (·.2):=by rfl):PGs X (e::es) (gConsM t u):=by
 intro pins s σ H vs us Q I r h
 cases vs with
 | nil=>exact h.elim
 | cons v vr=>exact zng_ h1 h2 hs pins s σ H _ us Q I r ⟨v,vr,rfl,h⟩
def gTupM (K:Fgg)(n:Nat)(t:TGs):TG:=fun v σ H Q=>match v with | .ref a=>∃ xs,SqT K H a xs/\xs.length=n/\t xs σ H Q | _=>False
theorem zjo_ {es:List Expr}{k:Nat}{t:TGs}{n:Nat}{pos:Pos}(hc:X.calm=true)(h:PGs X es t)
  (hn:(assignEach es X.env).length=n:=by rfl) (bE:(assignEach es X.env).findIdx? (·.1)=none:=by rfl):PG X (.Tuple es k pos) (gTupM X.K n t):=by
 intro pins s σ H v u Q I r hw
 cases v with
 | ref a =>
  obtain ⟨xs,h1,h2,h3⟩:=hw
  exact zrg_ hc h hn bE pins s σ H _ u Q I r ⟨a,xs,rfl,h1,h2,h3⟩
 | _=>exact hw.elim
def mNeg (ta:TE):TE:=fun σ H Q=>ta σ H fun x H1=>match x with | .int i=>Q (.int (-i)) H1 | _=>False
theorem zpS_ {a:Expr}{ta:TE}{pos:Pos}(ha:PE X a ta):PE X (.UnaryOp .USub a pos) (mNeg ta):=by
 intro pins s σ H Q I h
 refine UnaryOp_ (thn (ha pins s σ H _ I h) fun v s1 ao=>?_)
 obtain ⟨x,H1,I1,r1,q1⟩:=ao
 cases x with
 | int i=>exact zqs_ pins s1 σ H1 _ v Q I1 r1 ⟨i,rfl,q1⟩
 | _=>exact q1.elim
end
theorem zbf_ {H:Hp}{p:Addr}(h:H p=none)(o:HO):Same H (upd H p o):=fun b u q=>by rw [zI_ (zbp_ q h)]; exact q
theorem zeg_ {n:Nat}(h:n<=100000):n<=sizeLine:=by rw [sizeLine_eq]; lia
section
variable {X:Cx}
def mSet:TSet:=fun o i v H Q=>match i with
 | .int k=>(match o with
  | .ref p=>∃ xs,H p=some (.lst xs)/\(match ixN xs.length k with | some j=>Q (upd H p (.lst (xs.set j v))) | none=>False)
  | _=>False)
 | _=>False
theorem set_M:PSet X mSet:=by
 intro pins s σ H o i v ov iv u Q I ro ri rv h
 unfold mSet at h
 cases i with
 | int k =>
  cases o with
  | ref p =>
   obtain ⟨xs,h1,h⟩:=h
   cases e:ixN xs.length k with
   | none=>rw [e] at h; exact h.elim
   | some j =>
    rw [e] at h
    exact zog_ pins s σ H _ _ v ov iv u Q I ro ri rv ⟨p,xs,k,j,rfl,rfl,h1,e,h⟩
  | _=>exact h.elim
 | _=>exact h.elim
theorem znF_ {n:Nat}{k:Int}(h0:0<=k)(h1:k<n):ixN n k=some k.toNat:=by unfold ixN; rw [if_pos h0,if_pos h1]
def strI (i:Int):List Nat:=(Str.ofString (toString i)).cps.toList
def mStr:List V->Hp->VK->Prop:=fun xs H Q=>match xs with | [.int i]=>i.natAbs.log2<1920/\Q (tx (strI i)) H | _=>False
theorem zlw_:CallR X (.type "str") mStr:=by
 intro pins s σ H xs us Q I r h
 unfold mStr at h
 split at h
 ·rename_i i
  refine zgO_ pins s σ H _ us Q I r ⟨i,rfl,h.1,?_⟩
  have e:tx (strI i)=V.str (Str.ofString (toString i)):=by unfold strI tx; rw [<- zbN_]
  rw [<- e]
  exact h.2
 ·exact h.elim
def mZfill:V->List V->Hp->VK->Prop:=fun x xs H Q=>match x,xs with | .str l,[.int i]=>PadOk i=true/\Q (tx (Txt.zfill l i).cps.toList) H | _,_=>False
theorem zmG_:MtR X "str.zfill" mZfill:=by
 intro pins s σ H x xs v us Q I rx rv h
 have hi:∃ l i,x=.str l/\xs=[.int i]/\PadOk i=true/\Q (tx (Txt.zfill l i).cps.toList) H:=by
  cases x with
  | str l =>
   rcases xs with _ | ⟨y,_ | ⟨z,t⟩⟩
   ·exact False.elim h
   ·cases y with
    | int t=>exact ⟨l,t,rfl,rfl,h⟩
    | _=>exact False.elim h
   ·cases y<;>exact False.elim h
  | _=>exact False.elim h
 obtain ⟨l,i,rfl,rfl,h⟩:=hi
 obtain ⟨k,rfl⟩:=rx
 obtain ⟨u,rfl,ru⟩:=rv.one
 obtain ⟨k',rfl⟩:=ru
 exact SC.zfill h.1 fun t' k=>⟨tx (Txt.zfill l i).cps.toList,H,I.tok _,⟨t',by rw [<- zbN_]⟩,h.2⟩
variable {x:Str}{p pos:Pos}{e:Expr}{es:List Expr}{t:TA}
theorem zoj_ (T:String){r:List V->Hp->VK->Prop}(hc:CallR X (.type T) r)(hm:Gb X.mg x)(ha:PA X (e::es) t)(hg:Gl X x:=by rfl)(hv:bootBuiltins x=some (.type T):=by rfl)(hn:x ≠ "__name__":=by decide)(aV:(x==("__debug__":Str))=false:=by decide)
  (hs:starEach (e::es) X.env=(false,eval e X.env)::starEach es X.env:=by rfl) (aQ:(backTo pos (starEach es X.env)).any (·.1)=false:=by rfl):PE X (.Call (.Name x p) (e::es) [] pos) (tCB r t):=
 zkM_ hc hg hm hv ha hn aV hs aQ
end
theorem zih_ {i:Int}(h0 : -1000<=i)(h1:i<=1000):PadOk i=true:=by
 unfold PadOk fitsSsize Builtin.Str.tooLong
 have h3:(100000:Nat)<=sizeLine:=by rw [sizeLine_eq]; lia
 simp only [Bool.and_eq_true,Bool.not_eq_true',decide_eq_true_eq,decide_eq_false_iff_not,Bool.or_eq_false_iff]
 lia
def digs:Nat->Nat->List Nat
 | 0,_=>[]
 | w+1,n=>digs w (n / 10)++[48+n % 10]
theorem zey_:∀ (w n:Nat),(digs w n).length=w
 | 0,_=>rfl
 | w+1,n=>by rw [digs,List.length_append,zey_ w]; rfl
theorem zhE_:∀ (w:Nat),digs w 0=List.replicate w 48
 | 0=>rfl
 | w+1=>by rw [digs,zhE_ w,List.replicate_succ']
def dg (m:Nat):List Nat:=(Nat.toDigits 10 m).map Char.toNat
theorem zi0_ (m:Nat):strI (m:Int)=dg m:=W.KIN.signs_num m
theorem zfG_:∀ d:Nat,d<10->(Nat.digitChar d).toNat=48+d:=by decide
theorem dg_lt {m:Nat}(h:m<10):dg m=[48+m]:=by
 unfold dg
 rw [Nat.toDigits_of_lt_base h]
 show [(Nat.digitChar m).toNat]=_
 rw [zfG_ m h]
theorem dg_ge {m:Nat}(h:¬ m<10):dg m=dg (m / 10)++[48+m % 10]:=by
 unfold dg
 have hm:m % 10<10:=Nat.mod_lt m (by decide)
 have t:Nat.toDigits 10 (m / 10)++Nat.toDigits 10 (m % 10)=Nat.toDigits 10 (10*(m / 10)+m % 10):=Nat.toDigits_append_toDigits (by decide) (by lia) hm
 rw [Nat.div_add_mod] at t
 rw [<- t,List.map_append,Nat.toDigits_of_lt_base hm]
 show _++[(Nat.digitChar (m % 10)).toNat]=_
 rw [zfG_ _ hm]
theorem zo9_:∀ (w m:Nat),m<10 ^ (w+1)->(dg m).length<=w+1/\List.replicate (w+1-(dg m).length) 48++dg m=digs (w+1) m
 | w,m,h=>by
  by_cases hm:m<10
  ·rw [dg_lt hm]
   refine ⟨by show 1<=w+1; lia,?_⟩
   rw [digs,show m / 10=0 by lia,zhE_,show m % 10=m by lia]
   rfl
  ·cases w with
   | zero=>exact absurd h (by simpa using hm)
   | succ w =>
    have hd:m / 10<10 ^ (w+1):=by
     rw [Nat.div_lt_iff_lt_mul (by decide)]
     rw [Nat.pow_succ] at h
     exact h
    obtain ⟨h1,h2⟩:=zo9_ w (m / 10) hd
    rw [dg_ge hm]
    refine ⟨by rw [List.length_append]; show _+1<=_; lia,?_⟩
    have e:digs (w+1+1) m=digs (w+1) (m / 10)++[48+m % 10]:=rfl
    rw [e,<- h2,List.append_assoc,List.length_append]
    have e2:w+1+1-((dg (m / 10)).length+[48+m % 10].length)=w+1-(dg (m / 10)).length:=by
     show w+1+1-((dg (m / 10)).length+1)=_
     lia
    rw [e2]
theorem zpR_ (m:Nat):∃ c r,dg m=c::r/\48<=c:=by
 induction m using Nat.strongRecOn with
 | _ m ih =>
  by_cases h:m<10
  ·exact ⟨48+m,[],dg_lt h,by lia⟩
  ·obtain ⟨c,r,e,hc⟩:=ih (m / 10) (by lia)
   exact ⟨c,r++[48+m % 10],by rw [dg_ge h,e]; rfl,hc⟩
theorem zjj_ {w m:Nat}(hw:1<=w)(h:m<10 ^ w):(Txt.zfill ⟨(dg m).toArray⟩ (w:Int)).cps.toList=digs w m:=by
 obtain ⟨w',rfl⟩:∃ w',w=w'+1:=⟨w-1,by lia⟩
 obtain ⟨h1,h2⟩:=zo9_ w' m h
 have hl:(⟨(dg m).toArray⟩:Str).length=(dg m).length:=by simp [Str.length]
 unfold Txt.zfill
 rw [hl]
 by_cases he:((w'+1:Nat):Int)<=((dg m).length:Int)
 ·rw [if_pos he]
  have e:(dg m).length=w'+1:=by lia
  rw [<- h2,e,Nat.sub_self]
  simp
 ·rw [if_neg he]
  obtain ⟨c,r,ec,hc⟩:=zpR_ m
  have e:zfilled ⟨(dg m).toArray⟩ ((((w'+1:Nat):Int)).toNat-(dg m).length)=Builtin.Str.padded ⟨(dg m).toArray⟩ ((((w'+1:Nat):Int)).toNat-(dg m).length) 0 48:=by
   unfold zfilled
   have e0:((⟨(dg m).toArray⟩:Str).cps)[0]?=some c:=by rw [ec]; simp
   rw [e0]
   split
   ·rename_i h'; cases h'; lia
   ·rename_i h'; cases h'; lia
   ·rfl
  rw [e]
  unfold Builtin.Str.padded
  rw [<- h2]
  simp
theorem zfZ_:∀ (w n:Nat),∀ c∈digs w n,48<=c/\c<=57
 | 0,_,_,h=>by cases h
 | w+1,n,c,h=>by
  rw [digs] at h
  rcases List.mem_append.mp h with h | h
  ·exact zfZ_ w _ c h
  ·have e:c=48+n % 10:=by simpa using h
   lia
def Dc (x:Addr)(d:Option Addr)(h:Heap):Prop:=∃ o,h.get? x=some o/\o.dict=d/\∀ vs,o.data=.fields vs->vs[2]?=some .none
theorem zp0_ (o:Obj)(f):(o.mapFields f).dict=o.dict:=by obtain ⟨c,d,dt,sl⟩:=o; cases dt<;>rfl
section
variable {M:Model}{A:Around}{E:Value->Shared->Prop}{s:Shared}{base:Heap}{env:Env}{outer l:List Env}{L e:Addr}{cls a0 fl:Value}{d:Option Addr}{Q:Unit->Shared->Prop}
theorem ent_d {oe:Obj}{vs:Array Value}{head:Value}{nx:Bool}(eD:A.frames=some (env::outer))(hl:s.heap.FunFrames base (env::outer))(hf:env.frame=some L)(he:s.heap.get? e=some oe)(eB:base.StaysIn s.heap)(fG:base.get? e=none)(hd:oe.data=.fields vs)(hsz:1<vs.size)(h0:vs[0]?=some a0)(cU:vs[2]?=some .none)
  (k:∀ h',Heap.NotedW base (env::outer) e oe.cls a0 (rawInt L) s.heap h'->Dc e oe.dict h'->Q () { s with heap:=h' }):
  wpAny M A (do let a <- frameOf env; let pl <- entryPlaceOf L nx; let b <- EntryCells.newEntry head a .none (rawInt L) .none pl; setField (.ref e) 1 b) Q E s:=by
 have out:e∉(env::outer).filterMap (·.frame):=fun hm=>by obtain ⟨_,o,ho,cg⟩:=hl.mem hm; cases he.symm.trans ho; exact cg vs hd
 refine wpAny_bind (wpAny_frameOf_fun eD hl hf fun g1 so=>wpAny_bind (wpAny_entryPlaceOf fun pl aQ=>?_))
 unfold EntryCells.newEntry newFields; refine wpAny_bind (wpAny_newObj_type ?_ (aQ.sizeOk5 _ _ _ _ _))
 have e1:g1.get? e=some oe:=(so.2.1 e out).trans he
 have b1:base.StaysIn g1:=fun b o q=>(so.2.1 b fun hm=>by have:=(hl.mem hm).1; rw [q] at this; cases this).trans (eB b o q)
 have ne:g1.objs.size≠e:=Nat.ne_of_gt (Heap.lt_size e1)
 generalize qu:({ cls:=.type "traceback",dict:=none,data:=.fields ([head,.ref L,.none,rawInt L,.none]++(if pl.isEmpty then List.replicate 6 Value.none else pl)).toArray }:Obj)=ob
 have nC:ob.data=.fields ([head,.ref L,.none,rawInt L,.none]++(if pl.isEmpty then List.replicate 6 Value.none else pl)).toArray:=by rw [<- qu]
 have pJ:ob.isFreed=false:=Obj.isFreed_of_fields nC
 have e2:(g1.push ob).get? e=some oe:=Heap.get?_push_of_some ob e1
 have d3:=Obj.data_mapFields hd (·.setIfInBounds 1 (Value.ref g1.objs.size))
 have e3:=Heap.get?_update_self (Obj.mapFields (·.setIfInBounds 1 (Value.ref g1.objs.size))) e2 (Obj.isFreed_of_fields d3)
 have t3:((g1.push ob).update e (Obj.mapFields (·.setIfInBounds 1 (Value.ref g1.objs.size)))).get? g1.objs.size=some ob:=(Heap.get?_update_other _ _ ne.symm).trans (Heap.get?_push_size g1 pJ)
 have old:∀ b o,b≠e->g1.get? b=some o->((g1.push ob).update e (Obj.mapFields (·.setIfInBounds 1 (Value.ref g1.objs.size)))).get? b=some o:=fun b o hb q=>(Heap.get?_update_other _ _ hb.symm).trans (Heap.get?_push_of_some ob q)
 have cT:∀ b o,s.heap.get? b=some o->(∀ vs,o.data≠.fields vs)->b≠e:=fun b o q cg z=>by rw [z,he] at q; cases q; exact cg vs hd
 refine wpAny_setField e2 hd hsz (k _ ⟨fun b o q=>old b o (fun z=>by rw [z,fG] at q; cases q) (b1 b o q),hl.of_keeps fun b o q cg=>?_,?_,fun b o q cg=>?_⟩ ⟨_,e3,zp0_ _ _,fun ws q=>by cases d3.symm.trans q; rw [Array.getElem?_setIfInBounds_ne (by decide)]; exact cU⟩)
 ·obtain ⟨sl,z⟩:=so.2.2 b o q; exact ⟨_,old b _ (cT b o q cg) z,rfl⟩
 ·exact ⟨_,_,_,_,_,e3,⟨Obj.cls_mapFields _ _,by rw [Array.getElem?_setIfInBounds_ne (by decide)]; exact h0⟩,d3,by simp [hsz],b1.fresh,ne,t3,nC,by first | (simp; done) | (rcases aQ with rfl | ⟨_,_,_,_,_,_,_,rfl⟩<;>simp)⟩
 ·obtain ⟨sl,z⟩:=so.2.2 b o q; exact ⟨sl,old b _ (cT b o q cg) z⟩
theorem fl_d (eB:base.StaysIn s.heap)(hl:s.heap.FunFrames base l)(ht:s.heap.TracedAtW base e cls a0 fl)(hD:Dc e d s.heap)
  (k:∀ h',base.StaysIn h'->h'.FunFrames base l->h'.TracedW base e cls a0->s.heap.UpToSlots h'->Dc e d h'->Q () { s with heap:=h' }):wpAny M A (setFlight (.ref e) none) Q E s:=by
 obtain ⟨oe,vs,T,oT,ts,he,hc,hd,h1,hnT,hTe,hT,hdT,h3⟩:=ht
 have oa:3<ts.size:=(Array.getElem?_eq_some_iff.mp h3).1
 have eR:∀ b,b≠T->(s.heap.update T (Obj.mapFields (·.setIfInBounds 3 ((none:Option Addr).elim Value.none fun f=>rawInt f)))).get? b=s.heap.get? b:=fun b z=>Heap.get?_update_other _ _ (Ne.symm z)
 have cT:∀ b o,s.heap.get? b=some o->(∀ vs,o.data≠.fields vs)->b≠T:=fun b o q cg z=>by rw [z,hT] at q; cases q; exact cg ts hdT
 unfold setFlight; refine wpAny_bind (wpAny_field he hd h1 ?_); rw [if_pos (show (Value.ref T != Value.none)=true by simp)]
 refine wpAny_setField hT hdT oa (k _ (fun b o q=>(eR b fun z=>by rw [z,hnT] at q; cases q).trans (eB b o q)) (hl.of_keeps fun b o q cg=>⟨o,(eR b (cT b o q cg)).trans q,rfl⟩) ?_ (fun b o q cg=>⟨o.slots,(eR b (cT b o q cg)).trans q⟩) ?_)
 ·exact ⟨oe,vs,T,_,_,(eR e hTe.symm).trans he,hc,hd,h1,hnT,hTe,Heap.get?_update_self _ hT (Obj.isFreed_of_fields (Obj.data_mapFields hdT _)),Obj.data_mapFields hdT _,by simp [oa]⟩
 ·obtain ⟨o,q,z⟩:=hD; exact ⟨o,(eR e hTe.symm).trans q,z⟩
theorem zoY_ {oe:Obj}{vs:Array Value}(eD:A.frames=some (env::outer))(hl:s.heap.FunFrames base (env::outer))(hf:env.frame=some L)(he:s.heap.get? e=some oe)(eB:base.StaysIn s.heap)(fG:base.get? e=none)(hd:oe.data=.fields vs)(h1:vs[1]?=some .none)(h0:vs[0]?=some a0)(cU:vs[2]?=some .none)
  (k:∀ h',Heap.NotedW base (env::outer) e oe.cls a0 (rawInt L) s.heap h'->Dc e oe.dict h'->Q () { s with heap:=h' }):wpAny M A (noteFrame (.ref e) env) Q E s:=by
 unfold noteFrame; simp only [hf]; refine wpAny_bind (wpAny_field he hd h1 ?_); rw [if_neg (by decide)]
 exact ent_d eD hl hf he eB fG hd (Array.getElem?_eq_some_iff.mp h1).1 h0 cU k
theorem zlN_ (eD:A.frames=some (env::outer))(hl:s.heap.FunFrames base (env::outer))(hf:env.frame=some L)(ht:s.heap.TracedW base e cls a0)(eB:base.StaysIn s.heap)(fG:base.get? e=none)(hD:Dc e d s.heap)
  (k:∀ h',Heap.NotedW base (env::outer) e cls a0 (rawInt L) s.heap h'->Dc e d h'->Q () { s with heap:=h' }):wpAny M A (noteFrame (.ref e) env) Q E s:=by
 obtain ⟨oe,vs,T,oT,ts,he,⟨rfl,h0⟩,hd,h1,hnT,hTe,hT,hdT,h3⟩:=ht
 obtain ⟨rfl,hx⟩:oe.dict=d/\vs[2]?=some .none:=by obtain ⟨o,q,z,z2⟩:=hD; cases he.symm.trans q; exact ⟨z,z2 _ hd⟩
 unfold noteFrame; simp only [hf]; refine wpAny_bind (wpAny_field he hd h1 ?_); rw [if_pos (show (Value.ref T != Value.none)=true by simp)]
 refine wpAny_bind (wpAny_field hT hdT h3 ?_); rw [if_neg (show ¬ ((Value.none == rawInt L)=true) by simp [rawInt])]; refine wpAny_bind (wpAny_setField hT hdT (Array.getElem?_eq_some_iff.mp h3).1 ?_)
 have eR:∀ b,b≠T->(s.heap.update T (Obj.mapFields (·.setIfInBounds 3 Value.none))).get? b=s.heap.get? b:=fun b z=>Heap.get?_update_other _ _ (Ne.symm z)
 have cT:∀ b o,s.heap.get? b=some o->(∀ vs,o.data≠.fields vs)->b≠T:=fun b o q cg z=>by rw [z,hT] at q; cases q; exact cg ts hdT
 refine ent_d (s:={ s with heap:=s.heap.update T (Obj.mapFields (·.setIfInBounds 3 Value.none)) }) eD (hl.of_keeps fun b o q cg=>⟨o,(eR b (cT b o q cg)).trans q,rfl⟩) hf ((eR e hTe.symm).trans he) (fun b o q=>(eR b fun z=>by rw [z,hnT] at q; cases q).trans (eB b o q)) fG hd (Array.getElem?_eq_some_iff.mp h1).1 h0 hx
  fun h' ⟨x1,x2,x3,x4⟩ dd=>k h' ⟨x1,x2,x3,fun b o q cg=>x4 b o ((eR b (cT b o q cg)).trans q) cg⟩ dd
theorem zgg_ {h h1 h2:Heap}(n:Heap.NotedW base l e cls a0 fl h h1)(a:base.StaysIn h2)(b:h2.FunFrames base l)(c:h2.TracedW base e cls a0)(u:h1.UpToSlots h2):Heap.LeftW base l e cls a0 h h2:=
 ⟨a,b,c,fun x o q cg=>by obtain ⟨sl,z⟩:=n.2.2.2 x o q cg; obtain ⟨fv,z'⟩:=u x _ z cg; exact ⟨fv,z'⟩⟩
theorem zmD_ {oe:Obj}{vs:Array Value}(eD:A.frames=some (env::outer))(hl:s.heap.FunFrames base (env::outer))(hf:env.frame=some L)(he:s.heap.get? e=some oe)(eB:base.StaysIn s.heap)(fG:base.get? e=none)(hd:oe.data=.fields vs)(h1:vs[1]?=some .none)(h0:vs[0]?=some a0)(cU:vs[2]?=some .none)
  (k:∀ h',Heap.LeftW base (env::outer) e oe.cls a0 s.heap h'->Dc e oe.dict h'->Q () { s with heap:=h' }):wpAny M A (leaving env (.ref e)) Q E s:=by
 unfold leaving; refine wpAny_bind (zoY_ eD hl hf he eB fG hd h1 h0 cU fun h' n dd=>?_)
 exact fl_d n.1 n.2.1 n.2.2.1 dd fun h2 a b c u dd=>k h2 (zgg_ n a b c u) dd
theorem znM_ (eD:A.frames=some (env::outer))(hl:s.heap.FunFrames base (env::outer))(hf:env.frame=some L)(ht:s.heap.TracedW base e cls a0)(eB:base.StaysIn s.heap)(fG:base.get? e=none)(hD:Dc e d s.heap)
  (k:∀ h',Heap.LeftW base (env::outer) e cls a0 s.heap h'->Dc e d h'->Q () { s with heap:=h' }):wpAny M A (leaving env (.ref e)) Q E s:=by
 unfold leaving; refine wpAny_bind (zlN_ eD hl hf ht eB fG hD fun h' n dd=>?_)
 exact fl_d n.1 n.2.1 n.2.2.1 dd fun h2 a b c u dd=>k h2 (zgg_ n a b c u) dd
end
def XAt (x C:Addr)(d:Option Addr)(h:Heap):Prop:=∃ o vs,h.get? x=some o/\o.cls=.ref C/\o.dict=d/\o.data=.fields vs/\vs[2]?=some .none
abbrev XO (x C:Addr)(d:Option Addr):HO:=.ext (XAt x C d)
theorem xo_ok {P:Program}{w:World}{H:Hp}{x C:Addr}{d:Option Addr}{h:Heap}(q:XAt x C d h):ObjOk P w H h x (XO x C d):=by
 obtain ⟨o,vs,a,b⟩:=q
 exact ⟨⟨o,vs,a,b⟩,⟨o,a⟩,fun h1 h2 ⟨o,vs,z1,z2⟩ k=>⟨o,vs,k o z1,z2⟩⟩
def DAt (dx:Addr)(fs:List (Str×V))(h:Heap):Prop:=∃ mA,h.Ns1 dx mA/\(∀ f,RelO (fs.lookup f) (mA f))/\PySem.Within mA (fs.map (·.1))
abbrev XDO (dx:Addr)(fs:List (Str×V)):HO:=.ext (DAt dx fs)
theorem xd_ok {P:Program}{w:World}{H:Hp}{dx:Addr}{fs:List (Str×V)}{h:Heap}(q:DAt dx fs h):ObjOk P w H h dx (XDO dx fs):=
 ⟨q,(by obtain ⟨_,⟨_,_,_,e,_⟩,_⟩:=q; exact ⟨_,e⟩),fun h1 h2 ⟨mA,⟨o,es,ep,e,c⟩,r⟩ k=>⟨mA,⟨o,es,ep,k o e,c⟩,r⟩⟩
structure FlyX (x T C:Addr)(d:Option Addr)(H:Hp)(hb h:Heap):Prop where
 obj:∃ oe vs a0 oT ts,h.get? x=some oe/\(oe.cls=.ref C/\vs[0]?=some a0)/\oe.data=.fields vs/\vs[1]?=some (.ref T)/\T≠x/\h.get? T=some oT/\oT.data=.fields ts/\ts[3]?=some .none
 dc:Dc x d h
 hx:H x=none
 hT:H T=none
 nx:hb.get? x=none
 nT:hb.get? T=none
def CXx (P:Program)(w:World):CXT:=fun outer H s E e s'=>∃ x T C d H',e=.ref x/\s'.os=s.os/\AllBare s'.gens/\Un (frs outer) [] H H' s.heap s'.heap/\HOk P w H' s'.heap /\
 FlyX x T C d H' s.heap s'.heap/\E (.ref C) d H'
theorem passX0 {P:Program}{w:World}{X:Cx}:Passes (CXx P w) X E0:=fun _ _ _ _ _ _ _ h=>by
 obtain ⟨_,_,_,_,_,_,_,_,_,_,_,h⟩:=h
 exact h.elim
theorem HOk.at_ {P:Program}{w:World}{H:Hp}{h:Heap}{a:Addr}{o:HO}(x:HOk P w H h)(e:H a=some o):∃ u,h.get? a=some u:=by
 have q:=x a o e
 clear e x
 induction o with
 | lst xs=>obtain ⟨_,_,_,_,e⟩:=q; exact ⟨_,e⟩
 | tup xs=>obtain ⟨_,_,_,o,e,_⟩:=q; exact ⟨_,e⟩
 | dK aa=>obtain ⟨_,_,_,_,o,_,_,e,_⟩:=q; exact ⟨_,e⟩
 | dT aa=>obtain ⟨_,_,_,_,o,_,_,e,_⟩:=q; exact ⟨_,e⟩
 | set S n=>obtain ⟨o,_,_,_,e,_⟩:=q; exact ⟨_,e⟩
 | ins C dx fs=>obtain ⟨_,_,_,e,_⟩:=q; exact ⟨_,e⟩
 | own y=>obtain ⟨_,e⟩:=q; exact ⟨_,e⟩
 | xd fs=>obtain ⟨_,⟨_,_,_,e,_⟩,_⟩:=q; exact ⟨_,e⟩
 | rng lo hi=>obtain ⟨_,_,_,e⟩:=q; exact ⟨_,e⟩
 | frz ob u _=>obtain ⟨e,_⟩:=q; exact ⟨_,e⟩
 | tbl ps=>exact ⟨_,(show h.get? a=some _ from q)⟩
 | met f y=>exact ⟨_,(show h.get? a=some _ from q)⟩
 | ext φ=>obtain ⟨_,⟨_,e⟩,_⟩:=q; exact ⟨_,e⟩
theorem HOk.none_at {P:Program}{w:World}{H:Hp}{h:Heap}{a:Addr}(x:HOk P w H h)(e:h.get? a=none):H a=none:=by
 cases q:H a with
 | none=>rfl
 | some o =>
  obtain ⟨u,z⟩:=x.at_ q
  rw [e] at z; cases z
section
variable {X:Cx}{pins:Pnn}{σ:St}{H:Hp}{s:Shared}
theorem zq0_ (bE:X.stack=X.env::X.outer){b:Addr}(h:b∈X.fs):b∈frs X.stack:=by
 rw [bE]
 unfold Cx.fs frs at *
 rw [List.filterMap_cons]
 split
 ·exact h
 ·exact List.mem_cons_of_mem _ h
theorem zhs_ (I:Inv X pins σ H s)(bE:X.stack=X.env::X.outer)(hex:X.ex=[]){x C:Addr}{a0:Value}{ex:List Addr}{h2:Heap}(fD:∀ b∈ex,H b=none/\X.s₀.heap.get? b=none)(hx:x∈ex)
  {d:Option Addr}(L:Heap.LeftW (W.hideAll s.heap (frs X.stack++ex)) X.stack x (.ref C) a0 s.heap h2) (dd:Dc x d h2):
  ∃ T,Un (frs X.outer) [] X.H₀ H X.s₀.heap h2/\HOk X.prog X.w H h2/\FlyX x T C d H X.s₀.heap h2:=by
 obtain ⟨st,ff,⟨oe,vs,T,oT,ts,he,hc,hd,h1,hnT,hTe,hT,hdT,h3⟩,up⟩:=L
 have iM:∀ b:Addr,b∉X.ex:=fun b z=>by rw [hex] at z; cases z
 have cf:∀ b o,s.heap.get? b=some o->b∉frs X.stack->b∉ex->h2.get? b=some o:=fun b o q n1 n2=>st b o (W.hideAll_get _ q fun z=>(List.mem_append.mp z).elim n1 n2)
 have cp:∀ b o,s.heap.get? b=some o->b∈frs X.stack->∃ sl,h2.get? b=some { o with slots:=sl }:=fun b o q hb=>up b o q (by
  obtain ⟨_,o',q',d⟩:=I.stack.mem hb
  cases q.symm.trans q'
  exact d)
 have kR:∀ b o,X.s₀.heap.get? b=some o->b≠X.env.locals:=fun b o q=>Nat.ne_of_lt (Nat.lt_of_lt_of_le (Heap.lt_size q) I.ok.above)
 have iJ:∀ b o,X.s₀.heap.get? b=some o->b∉ex:=fun b o q z=>by
  have:=(fD b z).2
  rw [q] at this; cases this
 have kS:∀ b o,X.s₀.heap.get? b=some o->b∉X.fs->b∉frs X.stack:=fun b o q n z=>by
  rcases List.mem_cons.mp (I.stkSub b z) with e | e
  ·exact kR b o q e
  ·exact n e
 have young:∀ b,s.heap.get? b=none->X.s₀.heap.get? b=none:=fun b q=>by
  cases e:X.s₀.heap.get? b with
  | none=>rfl
  | some o =>
   obtain ⟨o',z⟩:=I.base.there b o e (iM b)
   rw [q] at z; cases z
 refine ⟨T,⟨fun b o q n hb _=>?_,fun b o q n hb _=>?_,fun b o q n _=>I.base.free b o q n (iM b),fun b o q _=>?_,I.base.tups,I.base.frzs,I.base.tbls⟩,fun a o e=>?_,⟨oe,vs,a0,oT,ts,he,hc,hd,h1,hTe,hT,hdT,h3⟩,dd,(fD x hx).1,?_,(fD x hx).2,?_⟩
 ·exact cf b o (I.base.keep b o q n hb (iM b)) (kS b o q hb) (iJ b o q)
 ·obtain ⟨sl,e⟩:=I.base.slot b o q n hb (iM b)
  obtain ⟨fv,e'⟩:=cp b _ e (zq0_ bE hb)
  exact ⟨fv,e'⟩
 ·obtain ⟨o',e⟩:=I.base.there b o q (iM b)
  by_cases hb:b∈frs X.stack
  ·obtain ⟨fv,e'⟩:=cp b _ e hb
   exact ⟨_,e'⟩
  ·exact ⟨o',cf b o' e hb (iJ b o q)⟩
 ·refine (I.hok a o e).stay (fun b u hb q=>?_) (fun _ q=>q) fun _ _ q=>q
  have tr:∃ o,H b=some o:=by
   rcases hb with rfl | hb
   ·exact ⟨_,e⟩
   ·exact ⟨_,hb⟩
  obtain ⟨ob,tr⟩:=tr
  refine cf b u q (fun z=>?_) fun z=>?_
  ·rw [I.stkFree b z] at tr; cases tr
  ·rw [(fD b z).1] at tr; cases tr
 all_goals
  by_cases hTx:T∈ex
  ·first | exact (fD T hTx).1 | exact (fD T hTx).2
  by_cases hTf:T∈frs X.stack
  ·obtain ⟨_,o',q',d⟩:=I.stack.mem hTf
   obtain ⟨sl,e'⟩:=cp T o' q' hTf
   rw [hT] at e'
   cases e'
   exact absurd hdT (d ts)
  have q:s.heap.get? T=none:=by
   cases e:s.heap.get? T with
   | none=>rfl
   | some o =>
    rw [W.hideAll_get _ e fun z=>(List.mem_append.mp z).elim hTf hTx] at hnT
    cases hnT
  first | exact I.hok.none_at q | exact young T q
end
section
variable {P:Program}{w:World}{K:Fgg}{mg:Str->Option Value}{base:Heap}{N:List Str}{qual:Str}{scope:Scope}{f:Addr}{cd:Value}{A:Around}{outer:List Env}{s0:Shared}{H0:Hp}{E:XK}
theorem znO_ {l:List Env}{more:List Addr}:∀ env∈l,∀ a,env.frame=some a->a∈frs l++more:=fun env he a hf=>List.mem_append_left _ (List.mem_filterMap.mpr ⟨env,he,hf⟩)
def Takes (X:Cx)(E:XK):Prop:=∀ (pins:Pnn) (σ:St) (H:Hp) (s:Shared) (x C:Addr) (oe:Obj) (vs:Array Value) (a0:Value),Inv X pins σ H s->H x=none->X.s₀.heap.get? x=none->s.heap.get? x=some oe->oe.cls=.ref C->oe.data=.fields vs->vs[1]?=some .none->vs[0]?=some a0->vs[2]?=some .none->E (.ref C) oe.dict H->X.xe (.ref x) s
theorem zg5_:Takes (cxOf (CXx P w) P w K mg base N qual scope f cd A outer s0 H0 E) E:=by
 intro pins σ H s x C oe vs a0 I hx p9 he hc hd h1 h0 cU hE
 show wpAny _ _ (leaving _ _) _ _ _
 refine zmD_ (base:=W.hideAll s.heap (frs (envOfC qual scope s0.heap.objs.size f cd::outer)++[x])) (a0:=a0) I.ok.frames (W.funFrames_hide I.stack znO_) rfl he (fun b o q=>W.of_hideAll _ q)
  (W.hideAll_none _ (List.mem_append_right _ List.mem_cons_self)) hd h1 h0 cU fun h2 L dd=>?_
 rw [hc] at L
 obtain ⟨T,u,ok,cP⟩:=zhs_ (ex:=[x]) I rfl rfl (fun b hb=>by
  rw [List.mem_singleton.mp hb]
  exact ⟨hx,p9⟩) List.mem_cons_self L dd
 exact ⟨x,T,C,_,H,rfl,I.os,I.bare,u,ok,cP,hE⟩
theorem Takes.made {X:Cx}(hT:Takes X E){pins:Pnn}{σ:St}{H:Hp}{s:Shared}{h:Heap}{x C:Addr}{args:List Value}(I:Inv X pins σ H s)(hex:X.ex=[])(hx:Heap.MadeExcOf s.heap h x (.ref C) args)(hE:E (.ref C) none H):X.xe (.ref x) { s with heap:=h }:=by
 obtain ⟨t,he,htn,ht⟩:=hx.there
 refine hT pins σ H { s with heap:=h } x C _ _ _ (I.kept (t':=s.toks) hx.keeps) (I.hok.none_at hx.new) ?_ he rfl rfl rfl rfl rfl hE
 cases e:X.s₀.heap.get? x with
 | none=>rfl
 | some o =>
  obtain ⟨o',z⟩:=I.base.there x o e (fun z=>by rw [hex] at z; cases z)
  rw [hx.new] at z; cases z
theorem zb7_:Passes (CXx P w) (cxOf (CXx P w) P w K mg base N qual scope f cd A outer s0 H0 E) E:=by
 intro pins σ H s e s' I h
 obtain ⟨x,T,C,d,H',rfl,os,bare,un,ok,cP,hE⟩:=h
 have I1:Inv (cxOf (CXx P w) P w K mg base N qual scope f cd A outer s0 H0 E) pins σ H' s':=I.call' (ch:=[]) os un ok bare (fun b z=>absurd z (by simp))
 obtain ⟨oe,vs,a0,oT,ts,he,hc,hd,h1,hTe,hT,hdT,h3⟩:=cP.obj
 show wpAny _ _ (leaving _ _) _ _ _
 refine znM_ (base:=W.hideAll s'.heap (frs (envOfC qual scope s0.heap.objs.size f cd::outer)++[x,T])) (cls:=.ref C) (a0:=a0) I.ok.frames (W.funFrames_hide I1.stack znO_) rfl
  ⟨oe,vs,T,oT,ts,he,hc,hd,h1,W.hideAll_none _ (List.mem_append_right _ (List.mem_cons_of_mem _ List.mem_cons_self)),hTe,hT,hdT,h3⟩ (fun b o q=>W.of_hideAll _ q)
  (W.hideAll_none _ (List.mem_append_right _ List.mem_cons_self)) cP.dc fun h2 L dd=>?_
 have old:∀ b,s.heap.get? b=none->s0.heap.get? b=none:=fun b q=>by
  cases e:s0.heap.get? b with
  | none=>rfl
  | some o =>
   obtain ⟨o',z⟩:=I.base.there b o e (fun z=>nomatch z)
   rw [q] at z; cases z
 obtain ⟨T2,u,ok2,fly2⟩:=zhs_ (ex:=[x,T]) I1 rfl rfl (fun b hb=>by
  rcases List.mem_cons.mp hb with rfl | hb
  ·exact ⟨cP.hx,old _ cP.nx⟩
  ·rw [List.mem_singleton.mp hb]
   exact ⟨cP.hT,old _ cP.nT⟩) List.mem_cons_self L dd
 exact ⟨x,T2,C,d,H',rfl,I1.os,I1.bare,u,ok2,fly2,hE⟩
end
abbrev bmV:List Value:=[.type "ValueError",.type "Exception",.type "BaseException",.type "object"]
def excK (K:Fgg)(C:Addr):Bool:=W.excIn K C bmV "ValueError.__new__"
def gA (K:Fgg)(x:Str):Addr:=match W.nsIn K mainGlobals x with | some (some (.ref c))=>c | _=>0
theorem zkT_ {K:Fgg}{x:Str}{c:Addr}(h:W.nsIn K mainGlobals x=some (some (.ref c))):gA K x=c:=by unfold gA; rw [h]
theorem zpX_ {K:Fgg}{h:Heap}{C:Addr}(kin:K.In h)(q:excK K C=true):
  ∃ nm qn N bs bm hd sn sub ab col dd k0 k1 k2 k3 k5 mN,h.get? C=some (excClassObj nm qn C N bs bm hd sn sub ab col dd k0 k1 k2 k3 k5 "ValueError.__new__")/\h.Ns N mN/\mN "__init__"=none/\OwnTail h bmV bm:=by
 unfold excK W.excIn at q
 split at q
 case h_2=>cases q
 case h_1 dx cx slx eN =>
  split at q
  case h_2=>cases q
  case h_1 Cx tl y0 y1 y2 y3 yn y5 m1 m2 =>
   rw [Bool.and_eq_true,Bool.and_eq_true,Bool.and_eq_true,Bool.and_eq_true,Bool.and_eq_true] at q
   obtain ⟨⟨⟨⟨⟨q1,q2⟩,q3⟩,q4⟩,q5⟩,q6⟩:=q
   replace q1:=beq_iff_eq.mp q1
   replace q2:=beq_iff_eq.mp q2
   replace q6:=beq_iff_eq.mp q6
   replace q3:cx.hasDel=false:=by simpa using q3
   subst q1 q2
   cases cx
   dsimp only at m1 q3 q5 q6
   subst m1 q3
   cases slx
   dsimp only at m2
   subst m2
   exact ⟨_,_,_,_,tl,_,_,_,_,_,dx,y0,y1,y2,y3,y5,_,kin _ _ eN,.of_isNs (W.isNs_of_in kin q5),W.nsMap_none_of_in kin q5 q6,W.tail_of_in kin q4⟩
section
variable {X:Cx}{E:XK}{C:Addr}{x:Str}{e:Expr}{es:List Expr}{t:TA}{np aP pos:Pos}
def tRaise (C:Addr)(E:XK)(t:TA):TS:=fun _ σ H=>t σ H fun vs H1=>vs.length<=100/\E (.ref C) none H1
theorem znp_ (hT:Takes X E)(fZ:X.calm=true)(hq:excK X.K C=true)(hm:X.mg x=some (.ref C))(ha:PA X (e::es) t)(hg:Gl X x:=by rfl)(aV:(x==("__debug__":Str))=false:=by decide)
  (he:starEach (e::es) X.env=(false,eval e X.env)::starEach es X.env:=by rfl) (aQ:(backTo aP (starEach es X.env)).any (·.1)=false:=by rfl) (hex:X.ex=[]:=by rfl):
  PS X (.Raise (some (.Call (.Name x np) (e::es) [] aP)) none pos) (tRaise C E t):=by
 intro pins s σ H D I h
 obtain ⟨nm,qn,N,bs,bm,hd,sn,sub,ab,col,dd,k0,k1,k2,k3,k5,mN,hC,hN,dG,TL⟩:=zpX_ I.ok.mod.kin hq
 refine wpAny_Raise_call_subU (C:=C) (nm:=nm) (q:=qn) (N:=N) (bs:=bs) (bm:=bm) (hdct:=hd) (sn:=sn) (sub:=sub) (ab:=ab) (col:=col) (dd:=dd) (k0:=k0) (k1:=k1) (k2:=k2) (k3:=k3) (k5:=k5)
  PySem.F.excBase_ValueError (by decide) PySem.F.excBase_ValueError (mN:=mN) (TL.hasType rfl) (I.ok.hd fZ) (by rw [he]; show (false || (backTo aP (starEach es X.env)).any (·.1))=false; rw [aQ]; rfl) dG (zcj_ I hg hm ⟨rfl,?_⟩ aV)
 have h2:=ha aP pins s σ H _ I h
 rw [he] at h2 ⊢
 refine Calls.evalArgs_plain (wpAny_mono h2 (fun us s1 q=>?_) fun _ _ y=>y)
 obtain ⟨vs,H1,I1,r,hl,q⟩:=q
 refine ⟨rfl,?_,I1.bk _ _ hC,hN.keeps I1.bk,TL.keeps I1.bk,fun h' a i9=>hT.made I1 hex i9 q⟩
 show us.length<=sizeLine
 rw [<- r.length]
 exact Nat.le_trans hl (by rw [sizeLine_eq]; decide)
end
section
variable {X:Cx}{a:Expr}{ta:TE}{pos:Pos}
def mFmt:V->Hp->VK->Prop:=fun x H Q=>match x with | .str z=>z.length<=sizeLine/\Q (.str z) H | .int i=>i.natAbs.log2<1920/\Q (tx (strI i)) H | _=>False
theorem zm2_ (ha:PE X a ta):PE X (.FormattedValue a (-1) none pos) (tUn mFmt ta):=by
 intro pins s σ H Q I h
 refine wpAny_FormattedValue_plain (thn (ha pins s σ H _ I h) fun v s1 ao=>?_)
 obtain ⟨x,H1,I1,r1,q1⟩:=ao
 cases x with
 | str z =>
  obtain ⟨k,rfl⟩:=r1
  exact wpAny_formatField_str ⟨.str z,H1,I1,⟨_,rfl⟩,q1.2⟩ ⟨.str z,H1,I1.tok _,⟨_,rfl⟩,q1.2⟩ q1.1
 | int i =>
  obtain ⟨k,rfl⟩:=r1
  refine wpAny_formatField_int q1.1 ⟨tx (strI i),H1,I1.tok _,⟨s1.toks+1,?_⟩,q1.2⟩
  unfold strI
  rw [<- zbN_]
 | _=>exact q1.elim
abbrev TJ:=Str->St->Hp->(Str->Hp->Prop)->Prop
def PJ (X:Cx)(vs:List Expr)(t:TJ):Prop:=∀ (acc:Str) (pins:Pnn) (s:Shared) (σ:St) (H:Hp) (Q:Str->Shared->Prop) (R:Str->Hp->Prop),Inv X pins σ H s->t acc σ H R->(∀ out s1 H1,Inv X pins σ H1 s1->R out H1->Q out s1) ->
 Joins (model X.prog X.w) X.A X.xe (evalEach vs X.env) acc Q s
def tJ0:TJ:=fun acc _ H R=>R acc H
def tJ1 (ta:TE)(tr:TJ):TJ:=fun acc σ H R=>ta σ H fun x H1=>match x with | .str z=>(acc++z).length<=sizeLine/\tr (acc++z) σ H1 R | _=>False
theorem zpY_:PJ X [] tJ0:=fun acc pins s σ H Q R I h hq=>hq acc s H I h
theorem zeK_ {vs:List Expr}{tr:TJ}(ha:PE X a ta)(hr:PJ X vs tr)(he:evalEach (a::vs) X.env=eval a X.env::evalEach vs X.env:=by rfl):PJ X (a::vs) (tJ1 ta tr):=by
 intro acc pins s σ H Q R I h hq
 rw [he]
 refine wpAny_mono (ha pins s σ H _ I h) (fun v s1 q=>?_) fun _ _ y=>y
 obtain ⟨x,H1,I1,r1,q1⟩:=q
 cases x with
 | str z =>
  obtain ⟨k,rfl⟩:=r1
  exact ⟨z,k,rfl,q1.1,hr (acc++z) pins s1 σ H1 Q R I1 q1.2 hq⟩
 | _=>exact q1.elim
def tJoin (tj:TJ):TE:=fun σ H Q=>tj Str.empty σ H fun out H1=>out.length<=sizeLine/\Q (.str out) H1
theorem zhY_ {b:Expr}{vs:List Expr}{tj:TJ}(h:PJ X (a::b::vs) tj):PE X (.JoinedStr (a::b::vs) pos) (tJoin tj):=by
 intro pins s σ H Q I q
 refine wpAny_JoinedStr (h Str.empty pins s σ H _ _ I q fun out s1 H1 I1 q1=>⟨q1.1,.str out,H1,I1.tok _,⟨_,rfl⟩,q1.2⟩)
end
def isaK (K:Fgg)(D:Addr)(c:Value):Option Bool:=
 if (W.findIn K (.ref D) "__getattribute__"==some (some (.builtin "BaseException.__getattribute__")) && W.findIn K (.ref D) "__getattr__"==some none && W.mroIn K D (.type "BaseException")==some true) && W.hasDictIn K D && W.findIn K (.ref D) "__class__"==some (some (.builtin "object.__class__")) && W.specialIn K (.builtin "object.__class__") "__get__"==some (some (.builtin "getset_descriptor.__get__"))
  && W.takesIn K (.builtin "object.__class__")==some true && W.mroIn K D (.type "object")==some true then W.kitOne K (.ref D) c else none
end L2
namespace LX
open PySem PySem.W PySem.Calls PyProof.Rows Builtin Builtin.ObjectAttr Builtin.Getset_descriptor
section
variable {prog:Program}{w:World}{A:Around}{K:Frag}{x D:Addr}{dc:Option Addr}
theorem ty_x {M:Model}{h:Heap}(I:L2.XAt x D dc h):Looks M h (typeOf (.ref x)) (.ref D):=by
 obtain ⟨o,_,e,c,_⟩:=I
 exact c ▸ (Looks.ld e).andThen .now
theorem check_ga {M:Model}{E:Value->Shared->Prop}{s:Shared}{fW:Value}{Q:Unit->Shared->Prop}(T0:Looks M s.heap (typeOf (.ref x)) (.ref D))(T8:Looks M s.heap (isSubtype (.ref D) (.type "BaseException")) true)(hq:Q () s):
  wpAny M A (checkBuiltinCall "BaseException.__getattribute__" ⟨[.ref x,fW],[]⟩) Q E s:=by
 have hk:builtinKind "BaseException.__getattribute__"=some .slot:=by decide +kernel
 have gu:splitId "BaseException.__getattribute__"=some ("BaseException", "__getattribute__"):=by decide +kernel
 have nV:=F.args_bexc_ga (.ref x) fW
 simp only [checkBuiltinCall,hk,gu]
 refine wpAny_bind ?_
 unfold isInstance
 cases s with
 | mk hp gs dr tk ost =>
 refine wpAny_bind (T0.at (T8.at ?_))
 repeat (first | assumption | wp_step)
theorem znh_ {E:Value->Shared->Prop}{s:Shared}{Q:Option Value->Shared->Prop}(lM:findIn K (.ref D) "__getattribute__"=some (some (.builtin "BaseException.__getattribute__")))(lL:findIn K (.ref D) "__getattr__"=some none)
  (ha:findIn K (.ref D) "__class__"=some (some (.builtin "object.__class__")))
  (hn:specialIn K (.builtin "object.__class__") "__get__"=some (some (.builtin "getset_descriptor.__get__"))) (eW:takesIn K (.builtin "object.__class__")=some true) (hm:mroIn K D (.type "object")=some true) (hb:mroIn K D (.type "BaseException")=some true)
  (kin:K.In s.heap) (I:L2.XAt x D dc s.heap) (h:Q (some (.ref D)) { s with toks:=s.toks+1 }):wpAny (model prog w) A (getAttr? (.ref x) "__class__") Q E s:=by
 cases s with
 | mk hp gs dr tk ost =>
 have T0:=ty_x (M:=model prog w) I
 have T1:=looks_findIn (M:=model prog w) kin lM
 have T2:=looks_findIn (M:=model prog w) kin lL
 have T3:=looks_findIn (M:=model prog w) kin ha
 have T4:=looks_specialIn (M:=model prog w) kin hn
 have T5:=looks_takesIn (M:=model prog w) kin eW
 have T6:=looks_mroIn (M:=model prog w) kin hm
 have T8:=looks_mroIn (M:=model prog w) kin hb
 have T7:Looks (model prog w) hp (find (.ref x) (.ref D) "__class__") (.bind (.builtin "getset_descriptor.__get__") (.builtin "object.__class__")):=
  T3.andThen (T4.andThen ((show Looks (model prog w) hp (dataDescriptor? (some (.builtin "object.__class__")) (some (.builtin "getset_descriptor.__get__"))) (some (.builtin "getset_descriptor.__get__",.builtin "object.__class__")) from T5.andThen .now).andThen (.tag .now)))
 have cU:(onTheHeap (Value.ref D) && Value.builtin "BaseException.__getattribute__"==Value.builtin "object.__getattribute__")=false:=(show (Value.builtin "BaseException.__getattribute__"==Value.builtin "object.__getattribute__")=false by decide +kernel)
 have f3:=F.excAttr_ValueError.ga.bind (.ref x)
 unfold getAttr? getAttrBy? getAttrBy
 refine wpAny_bind (wpAny_mkText ?_); refine wpAny_bind (wpAny_attempt (wpAny_holding ?_)); refine wpAny_bind (T0.at ?_); refine wpAny_bind (T1.at ?_)
 simp only [cU]
 rw [if_neg (by decide)]
 unfold getAttrByItsOwn hookBefore
 refine wpAny_bind ?_
 show wpAny _ _ (typeLookup (.ref D) "__getattr__") _ _ _
 refine T2.at ?_
 refine wpAny_bind (wpAny_attempt (wpAny_holding ?_))
 show wpAny _ _ (boundAndCalled _ _ _) _ _ _
 unfold boundAndCalled
 rw [f3]
 refine wpAny_bind (wpAny_pure ?_)
 refine wpAny_call ?_
 refine codeAny_call_builtin F.excAttr_ValueError.ga.plain F.entry_bexc_ga ?_
 refine (show wpAny _ _ (checkBuiltinCall "BaseException.__getattribute__" ⟨[.ref x,.str "__class__" tk],[]⟩) _ _ _ from ?_)
 refine check_ga T0 T8 ?_
 unfold Builtin.«object.__getattribute__»
 refine wpAny_bind (wpAny_pure ?_)
 refine wpAny_bind (wpAny_pure ?_)
 refine wpAny_bind (T0.at ?_)
 refine wpAny_bind (T7.at ?_)
 show wpAny _ _ (holding [Value.builtin "object.__class__"] (call (.builtin "getset_descriptor.__get__") [.builtin "object.__class__",.ref x,.ref D])>>=ret) _ _ _
 refine wpAny_bind (wpAny_holding (wpAny_call ?_))
 refine codeAny_call_builtin KF.slot_gs.plain KF.entry_gs (KF.slot_gs.check _ _ _ _ _ _ _ _ KF.type_class (KF.args_gs _ _ _) ?_); unfold Builtin.«getset_descriptor.__get__» descrGet; rw [dga_obj]
 refine wpAny_bind (wpAny_pure ?_); unfold descrGetter descrCheckInstance descrNameAndClass isInstance; simp only [KF.owner_class]; repeat lk
 refine ⟨Code.quiet_builtin _ (by decide +kernel),codeAny_builtin KF.entry_class ?_⟩; unfold Builtin.«object.__class__» shownTypeOf; repeat lk
 exact h
theorem it_x {h:Heap}(hd:hasDictIn K D=true)(kin:K.In h):(∃ c d cd sl,h.get? D=some ⟨c,d,.cls cd,sl⟩)/\∀ M:Model,Looks M h (isType (.ref D)) true:=by
 obtain ⟨cd,e,_⟩:=any_some hd
 unfold clsIn at e
 split at e
 case h_2=>cases e
 case h_1 c1 d1 cd1 sl1 eN =>
  refine ⟨⟨_,_,_,_,kin _ _ eN⟩,fun M A' Q' E' s' k q=>?_⟩
  unfold isType loadHead
  exact wpAny_bind (wpAny_loadPart (k _ _ (kin _ _ eN)) (wpAny_pure q))
theorem kitx_x (lM:findIn K (.ref D) "__getattribute__"=some (some (.builtin "BaseException.__getattribute__")))(lL:findIn K (.ref D) "__getattr__"=some none)(hb:mroIn K D (.type "BaseException")=some true)(hd:hasDictIn K D=true)(ha:findIn K (.ref D) "__class__"=some (some (.builtin "object.__class__")))
  (hn:specialIn K (.builtin "object.__class__") "__get__"=some (some (.builtin "getset_descriptor.__get__"))) (eW:takesIn K (.builtin "object.__class__")=some true) (hm:mroIn K D (.type "object")=some true):
  KitX K (.ref x) (.ref D) (L2.XAt x D dc):=
 ⟨fun _ _ _ I=>ty_x I,fun _ _ kin _=>(it_x hd kin).2 _,(fun h tp dd ai n sl kin e=>by
  obtain ⟨⟨c,d,cd,gp,e2⟩,_⟩:=it_x hd kin
  refine Bool.eq_false_iff.mpr fun q=>?_
  have z:=Value.ref.inj (beq_iff_eq.mp q)
  subst z
  have e3:=e2.symm.trans e
  cases e3),fun kin I k=>znh_ lM lL ha hn eW hm hb kin I k⟩
end
end LX
namespace L2
open PySem PySem.Spec PyProof.Rows
def clsV:V->Option Value
 | .ty c=>some (.type c)
 | .ref a=>some (.ref a)
 | _=>none
def mIsaX (K:Fgg):List V->Hp->VK->Prop:=fun xs H Q=>match xs with
 | [.ref p,c]=>∃ D d v b,H p=some (XO p D d)/\clsV c=some v/\isaK K D v=some b/\Q (.bl b) H
 | _=>False
theorem zaG_ {X:Cx}:CallR X (.builtin "isinstance") (mIsaX X.K):=by
 intro pins s σ H xs us Q I r h
 unfold mIsaX at h
 split at h
 ·rename_i p c
  obtain ⟨D,d,v,b,hp,hv,hk,q⟩:=h
  obtain ⟨u,z,rfl,r1,r2⟩:=vals2 r
  obtain rfl:u=.ref p:=r1
  have ez:z=v:=by
   cases c<;>first | (cases hv; exact r2) | cases hv
  subst ez
  unfold isaK at hk
  split at hk
  case isFalse=>cases hk
  case isTrue g =>
   rw [Bool.and_eq_true,Bool.and_eq_true,Bool.and_eq_true,Bool.and_eq_true,Bool.and_eq_true,Bool.and_eq_true,Bool.and_eq_true] at g
   obtain ⟨⟨⟨⟨⟨⟨⟨g1,g7⟩,g8⟩,g2⟩,g3⟩,g4⟩,g5⟩,g6⟩:=g
   obtain ⟨hx,_,_⟩:=I.hok p _ hp
   exact W.kia_one (LX.kitx_x (beq_iff_eq.mp g1) (beq_iff_eq.mp g7) (beq_iff_eq.mp g8) g2 (beq_iff_eq.mp g3) (beq_iff_eq.mp g4) (beq_iff_eq.mp g5) (beq_iff_eq.mp g6)) I.kIn hx hk (fun z=>by cases z) fun tk=>⟨.bl b,H,I.tok tk,rfl,q⟩
 ·exact h.elim
section
variable {X:Cx}{k:Nat}{x:Str}{ps:List Str}{sp:Sp}{E:XK}{p pos:Pos}{e:Expr}{es:List Expr}{t:TA}
theorem zeV_ (G:Gd X.prog X.w X.K X.mg X.base (CXx X.prog X.w) k x ps sp)(hr:Room k X.A)(hx:Passes (CXx X.prog X.w) X E)(ha:PA X (e::es) t)(hg:Gl X x:=by rfl)(aV:(x==("__debug__":Str))=false:=by decide)
  (he:starEach (e::es) X.env=(false,eval e X.env)::starEach es X.env:=by rfl) (aQ:(backTo pos (starEach es X.env)).any (·.1)=false:=by rfl):
  PE X (.Call (.Name x p) (e::es) [] pos) (tCall sp [] E t):=by
 obtain ⟨f,fd,F,hm,hk,hb⟩:=G
 exact zmx_ F hr hg hm hk hb .nil hx ha aV he aQ
end
def XP (X:Cx)(pins:Pnn)(W:St->XK)(e:Value)(s':Shared):Prop:=∃ au Hb sb,Inv X pins au Hb sb/\CXx X.prog X.w X.stack Hb sb (W au) e s'
abbrev TX:=Ends->(St->XK)->St->Hp->Prop
def PSx (X:Cx)(st:Stmt)(t:TX):Prop:=
 ∀ (pins:Pnn) (s:Shared) (σ:St) (H:Hp) (D:Ends) (W:St->XK),Inv X pins σ H s->t D W σ H->wpAny (model X.prog X.w) X.A (exec st X.env) (SP X pins D) (XP X pins W) s
def PSsx (X:Cx)(st:List Stmt)(t:TX):Prop:=
 ∀ (pins:Pnn) (s:Shared) (σ:St) (H:Hp) (D:Ends) (W:St->XK),Inv X pins σ H s->t D W σ H->wpAny (model X.prog X.w) X.A (execs st X.env) (SP X pins D) (XP X pins W) s
theorem PA.nox {X:Cx}{es:List Expr}{t:TA}(h:PA X.nox es t):PA X es t:=fun pos pins s σ H Q I hw =>
 wpAny_mono (h pos pins s σ H Q (I.wish _) hw) (fun _ _ ⟨v,H',I',r,q⟩=>⟨v,H',I'.unwish,r,q⟩) fun _ _ z=>False.elim z
section
variable {X:Cx}{st:Stmt}{t u:TX}{k:Nat}{x:Str}{ps:List Str}{sp:Sp}{p pos pos':Pos}{e:Expr}{es:List Expr}{ta:TA}
theorem zhh_ (h1:PSx X st t):PSsx X [st] t:=by
 intro pins s σ H D W I h
 refine wpAny_execs_cons (thn (h1 pins s σ H D W I h) fun f s1 q=>?_)
 cases f with
 | next=>exact wpAny_execs_nil q
 | ret v=>exact q
 | brk=>exact q
 | cont=>exact q
theorem zoN_ (G:Gd X.prog X.w X.K X.mg X.base (CXx X.prog X.w) k x ps sp)(hr:Room k X.A)(ha:PA X.nox (e::es) ta){pins:Pnn}{s:Shared}{σ:St}{H:Hp}{Q:VK}{W:St->XK}(I:Inv X pins σ H s)
  (h:ta σ H fun vs H1=>sp (vs++[]) H1 Q (W σ)) (hg:Gl X x:=by rfl) (aV:(x==("__debug__":Str))=false:=by decide)
  (he:starEach (e::es) X.env=(false,eval e X.env)::starEach es X.env:=by rfl) (aQ:(backTo pos (starEach es X.env)).any (·.1)=false:=by rfl):
  wpAny (model X.prog X.w) X.A (eval (.Call (.Name x p) (e::es) [] pos) X.env) (EP X pins σ Q) (XP X pins W) s:=by
 obtain ⟨f,fd,F,hm,hk,hb⟩:=G
 refine wpAny_Call_Name_kw (zcj_ I hg hm ?_ aV)
 have qr:=(PA.nox (X:=X.wish (XP X pins W)) ha) pos pins s σ H _ (I.wish _) h
 refine PySem.W.callWith_K (h₀:=X.base) I.ok.mod.kin hk (thn qr fun us s1 q=>?_) he aQ
 obtain ⟨vs,H1,I1,r,q⟩:=q
 have I1:=I1.unwish
 refine ⟨I1.kIn,?_⟩
 have r2:Vals (vs++[]) (us++[]):=r.append .nil
 have hl:(us++[]).length=ps.length:=by rw [<- r2.length]; exact F.len _ _ _ _ q
 refine wpAny_call (codeAny_mono (F.run X.A X.stack s1 H1 ⟨us,[]⟩ (us++[]) (vs++[]) Q (W σ) hr I1.env0 (hb s1 us I1.kIn hl) r2 q) fun r s' hq=>?_)
 cases r with
 | error e=>exact ⟨σ,H1,s1,I1,hq⟩
 | ok fl =>
  cases fl with
  | ret u=>exact I1.after hq
  | next=>exact False.elim hq
  | brk=>exact False.elim hq
  | cont=>exact False.elim hq
def tDropX (sp:Sp)(ta:TA):TX:=fun D W σ H=>ta σ H fun vs H1=>sp (vs++[]) H1 (fun _ H2=>D.nx σ H2) (W σ)
theorem zjV_ (G:Gd X.prog X.w X.K X.mg X.base (CXx X.prog X.w) k x ps sp)(hr:Room k X.A)(ha:PA X.nox (e::es) ta)(hg:Gl X x:=by rfl)(aV:(x==("__debug__":Str))=false:=by decide)
  (he:starEach (e::es) X.env=(false,eval e X.env)::starEach es X.env:=by rfl) (aQ:(backTo pos (starEach es X.env)).any (·.1)=false:=by rfl)
  (hs:swapsWith (.Call (.Name x p) (e::es) [] pos) none pos'.line X.env=pure false:=by rfl):PSx X (.Expr (.Call (.Name x p) (e::es) [] pos) pos') (tDropX sp ta):=by
 intro pins s σ H D W I h
 exact wpAny_Expr_any (thn (zoN_ G hr ha I h hg aV he aQ) fun v s1 ⟨y,H1,I1,r1,q1⟩=>⟨σ,H1,I1,q1⟩) I.quiet hs
end
section
variable {X:Cx}{pins:Pnn}{σ:St}{Hb H':Hp}{sb s1:Shared}{x T C:Addr}{d:Option Addr}
theorem landed (Ib:Inv X pins σ Hb sb)(os:s1.os=sb.os)(bare:AllBare s1.gens)(un:Un (frs X.stack) [] Hb H' sb.heap s1.heap)(ok:HOk X.prog X.w H' s1.heap)(cP:FlyX x T C d H' sb.heap s1.heap){h':Heap}{a0:Value}
  (f:Heap.FlyingW (W.hideAll s1.heap (frs X.stack++[x,T])) X.stack x (.ref C) a0 h') (up:s1.heap.UpToSlots h') (dd:Dc x d h'):Inv X pins σ (upd H' x (XO x C d)) { s1 with heap:=h' }:=by
 have ne:∀ b o,sb.heap.get? b=some o->b≠x/\b≠T:=fun b o q=>⟨(fun z=>by rw [z,cP.nx] at q; cases q),(fun z=>by rw [z,cP.nT] at q; cases q)⟩
 have nt:∀ b o,H' b=some o->b≠x/\b≠T:=fun b o q=>⟨(fun z=>by rw [z,cP.hx] at q; cases q),(fun z=>by rw [z,cP.hT] at q; cases q)⟩
 have I1:Inv X pins σ H' s1:=Ib.call' (ch:=[]) os un ok bare (fun b z=>absurd z (by simp))
 have cf:∀ b o,s1.heap.get? b=some o->b∉frs X.stack->b≠x/\b≠T->h'.get? b=some o:=fun b o q n1 n2=>f.1 b o (W.hideAll_get _ q fun z=>by
  rcases List.mem_append.mp z with z | z
  ·exact n1 z
  ·rcases List.mem_cons.mp z with z | z
   ·exact n2.1 z
   ·exact n2.2 (List.mem_singleton.mp z))
 have cp:∀ b o,s1.heap.get? b=some o->b∈frs X.stack->∃ sl,h'.get? b=some { o with slots:=sl }:=fun b o q hb=>up b o q (by
  obtain ⟨_,o',q',d⟩:=I1.stack.mem hb
  cases q.symm.trans q'
  exact d)
 have old:∀ b,b≠x->upd H' x (XO x C d) b=H' b:=fun b h=>zI_ h
 refine Ib.call' (s':={ s1 with heap:=h' }) (ch:=[]) os ⟨fun b o q n hb hx=>?_,fun b o q n hb hx=>?_,fun b o q n hx=>?_,fun b o q hx=>?_,fun b xs q=>?_,fun b o u q=>?_,fun b ps q=>?_⟩ (fun a o e=>?_) bare (fun b z=>absurd z (by simp))
 ·exact cf b o (un.keep b o q n hb hx) hb (ne b o q)
 ·obtain ⟨sl,e⟩:=un.slot b o q n hb hx
  obtain ⟨fv,e'⟩:=cp b _ e hb
  exact ⟨fv,e'⟩
 ·rw [old b (ne b o q).1]
  exact un.free b o q n hx
 ·obtain ⟨o',e⟩:=un.there b o q hx
  by_cases hb:b∈frs X.stack
  ·obtain ⟨fv,e'⟩:=cp b _ e hb
   exact ⟨_,e'⟩
  ·exact ⟨o',cf b o' e hb (ne b o q)⟩
 ·have z:=un.tups b xs q
  rw [old b (nt b _ z).1]
  exact z
 ·have z:=un.frzs b o u q
  rw [old b (nt b _ z).1]
  exact z
 ·obtain ⟨m,z⟩:=un.tbls b ps q
  exact ⟨m,by rw [old b (nt b _ z).1]; exact z⟩
 ·by_cases ha:a=x
  ·subst ha
   rw [zx_] at e
   cases e
   obtain ⟨ob,vs,q1,q2,q3,_⟩:=f.first; obtain ⟨o2,z1,z2,z3⟩:=dd; cases q1.symm.trans z1
   exact xo_ok ⟨ob,vs,q1,q2,z2,q3,z3 _ q3⟩
  ·rw [old a ha] at e
   refine (ok a o e).stay (fun b u hb q=>?_) (fun b q=>by rw [old b (nt b _ q).1]; exact q) fun b xs q=>by rw [old b (nt b _ q).1]; exact q
   have tr:∃ o,H' b=some o:=by
    rcases hb with rfl | hb
    ·exact ⟨_,e⟩
    ·exact ⟨_,hb⟩
   obtain ⟨ob,tr⟩:=tr
   refine cf b u q (fun z=>?_) (nt b ob tr)
   rw [I1.stkFree b z] at tr; cases tr
end
abbrev Cx.inX (X:Cx)(x:Addr):Cx:={ X with A:=X.A.mark (some (.ref x)),calm:=false,xe:=fun _ _=>False }
theorem Inv.inX {X:Cx}{pins:Pnn}{σ:St}{H:Hp}{s:Shared}(I:Inv X pins σ H s)(x:Addr):Inv (X.inX x) pins σ H s:=
 ⟨⟨I.ok.mod,I.ok.kind,I.ok.glob,I.ok.blt,I.ok.above,I.ok.inj,I.ok.has,I.ok.cab,(fun z=>by cases z),I.ok.frames,I.ok.stk,I.ok.exf,I.ok.bs,I.ok.bsz,I.ok.noex,I.ok.exfs,I.ok.funs,I.ok.frf⟩,I.os,I.bare,I.base,I.loc,I.cell,I.free,I.freeC,I.pin,I.hok,I.len⟩
theorem Inv.outX {X:Cx}{pins:Pnn}{σ:St}{H:Hp}{s:Shared}{x:Addr}(ok:X.Ok)(I:Inv (X.inX x) pins σ H s):Inv X pins σ H s:=
 ⟨ok,I.os,I.bare,I.base,I.loc,I.cell,I.free,I.freeC,I.pin,I.hok,I.len⟩
theorem SP.outX {X:Cx}{pins:Pnn}{D:Ends}{f:Flow}{s':Shared}{x:Addr}(ok:X.Ok)(h:SP (X.inX x) pins D f s'):SP X pins D f s':=by
 cases f with
 | next=>obtain ⟨au,H',I,q⟩:=h; exact ⟨au,H',I.outX ok,q⟩
 | brk=>obtain ⟨au,H',I,q⟩:=h; exact ⟨au,H',I.outX ok,q⟩
 | cont=>obtain ⟨au,H',I,q⟩:=h; exact ⟨au,H',I.outX ok,q⟩
 | ret u=>obtain ⟨v,au,H',I,r,q⟩:=h; exact ⟨v,au,H',I.outX ok,r,q⟩
def catN (K:Fgg)(C S:Addr):Bool:=
 W.typeIn K (.ref S)==some (.type "type") && (W.clsIn K S).isSome && W.mroIn K S (.type "BaseException")==some true && W.mroIn K C (.ref S)==some false
def catK (K:Fgg)(C S:Addr):Bool:=
 W.typeIn K (.ref S)==some (.type "type") && (W.clsIn K S).isSome && W.mroIn K S (.type "BaseException")==some true && W.mroIn K C (.ref S)==some true
theorem zkA_ {K:Fgg}{M:Model}{A:Around}{E:Value->Shared->Prop}{s:Shared}{x C S:Addr}{d:Option Addr}{Q:Bool->Shared->Prop}(kin:K.In s.heap)(I:XAt x C d s.heap)(h:catK K C S=true)(q:Q true s):
  wpAny M A (excMatches (.ref x) (.ref S)) Q E s:=by
 unfold catK at h
 rw [Bool.and_eq_true,Bool.and_eq_true,Bool.and_eq_true] at h
 obtain ⟨⟨⟨h1,h2⟩,h3⟩,h4⟩:=h
 have T1:=W.looks_typeIn (M:=M) kin (beq_iff_eq.mp h1)
 have T3:=W.looks_mroIn (M:=M) kin (beq_iff_eq.mp h3)
 have T4:=W.looks_mroIn (M:=M) kin (beq_iff_eq.mp h4)
 have T5:=LX.ty_x (M:=M) I
 have T6:W.Looks M s.heap (isSubtype (.type "type") (.type "tuple")) false:=.of_pure tc_notTuple
 have T2:W.Looks M s.heap (isType (.ref S)) true:=by
  obtain ⟨cd,e⟩:=Option.isSome_iff_exists.mp h2
  unfold W.clsIn at e
  split at e
  case h_2=>cases e
  case h_1 c1 d1 cd1 sl1 eN =>
   intro A' Q' E' s' k z
   unfold isType loadHead
   exact wpAny_bind (wpAny_loadPart (k _ _ (kin _ _ eN)) (wpAny_pure z))
 cases s with
 | mk hp gs dr tk ost =>
 unfold excMatches isInstance isExcClass
 repeat lk
 exact q
theorem zkS_ {K:Fgg}{M:Model}{A:Around}{E:Value->Shared->Prop}{s:Shared}{x C S:Addr}{d:Option Addr}{Q:Bool->Shared->Prop}(kin:K.In s.heap)(I:XAt x C d s.heap)(h:catN K C S=true)(q:Q false s):
  wpAny M A (excMatches (.ref x) (.ref S)) Q E s:=by
 unfold catN at h
 rw [Bool.and_eq_true,Bool.and_eq_true,Bool.and_eq_true] at h
 obtain ⟨⟨⟨h1,h2⟩,h3⟩,h4⟩:=h
 have T1:=W.looks_typeIn (M:=M) kin (beq_iff_eq.mp h1)
 have T3:=W.looks_mroIn (M:=M) kin (beq_iff_eq.mp h3)
 have T4:=W.looks_mroIn (M:=M) kin (beq_iff_eq.mp h4)
 have T5:=LX.ty_x (M:=M) I
 have T6:W.Looks M s.heap (isSubtype (.type "type") (.type "tuple")) false:=.of_pure tc_notTuple
 have T2:W.Looks M s.heap (isType (.ref S)) true:=by
  obtain ⟨cd,e⟩:=Option.isSome_iff_exists.mp h2
  unfold W.clsIn at e
  split at e
  case h_2=>cases e
  case h_1 c1 d1 cd1 sl1 eN =>
   intro A' Q' E' s' k z
   unfold isType loadHead
   exact wpAny_bind (wpAny_loadPart (k _ _ (kin _ _ eN)) (wpAny_pure z))
 cases s with
 | mk hp gs dr tk ost =>
 unfold excMatches isInstance isExcClass
 repeat lk
 exact q
theorem zhy_ {X:Cx}{pins:Pnn}{σ:St}{H:Hp}{s:Shared}{M:Model}{A:Around}{E:Value->Shared->Prop}{i:Nat}{n:Str}{pos:Pos}{Q:Unit->Shared->Prop}(I:Inv X pins σ H s)(hN:X.N.Nodup)(hi:X.N[i]?=some n)
  (hl:X.env.scope.names.lookup n=some .local) (h:∀ s',Inv X pins (σ.set i none) H s'->Q () s'):wpAny M A (do bindName X.env n .none; unbindBehindTheSuite X.env n pos) Q E s:=by
 have gG:(X.env.scope.kind == .class || (X.env.scope.kind == .module && X.env.locals != X.env.globals))=false:=by rw [I.ok.kind]; rfl
 have hk:X.env.kindOf n=some .local:=hl
 refine wpAny_bind (wpAny_bindName (zeT_ (v:=.non) I hN hi (.inl hl) rfl (fun s1 I1=>?_) (.inr hl)))
 obtain ⟨m,hn,lH⟩:=id I1.loc
 unfold unbindBehindTheSuite; refine wpAny_onRaise ?_; unfold unbindName
 refine wpAny_bind (wpAny_point ?_); refine wpAny_bind ?_
 unfold deleteName; simp only [hk,gG]; rw [if_neg (by decide)]
 have eC:i<σ.length:=by rw [I.len]; exact (List.getElem?_eq_some_iff.mp hi).1
 have there:(m n).isSome=true:=by
  obtain ⟨u,r,q⟩:=lH i n .non hi (List.getElem?_set_self eC) (.inl hl)
  rcases q with ⟨_,e⟩ | ⟨z,_⟩
  ·rw [e]; rfl
  ·rw [hk] at z
   rcases z with z | z<;>cases z
 refine wpAny_bind (wpAny_nsDel_keeps hn fun h2 v hJ hs=>?_)
 rw [there]
 simp only [Bool.not_true,Bool.false_eq_true,if_false]
 refine wpAny_pure (wpAny_point (h _ ?_))
 obtain ⟨oL,_,_,hoL,_⟩:=id hn
 have cne:=I1.cne
 have low:∀ b o,X.s₀.heap.get? b=some o->b≠X.env.locals:=fun b o e=>Nat.ne_of_lt (Nat.lt_of_lt_of_le (Heap.lt_size e) I1.ok.above)
 refine ⟨I1.ok,I1.os,I1.bare,⟨fun b o e n hb hx=>?_,fun b o e n hb hx=>?_,I1.base.free,fun b o e hx=>?_,I1.base.tups,I1.base.frzs,I1.base.tbls⟩,⟨_,hJ,fun j y v' e1 e2 e3=>?_⟩,fun y c e=>?_,I1.free,I1.freeC,fun p hp=>?_,fun b ob e=>?_,by simpa using I.len⟩
 ·exact (hs.2 b (low b o e)).trans (I1.base.keep b o e n hb hx)
 ·obtain ⟨sl,e1⟩:=I1.base.slot b o e n hb hx
  exact ⟨sl,(hs.2 b (low b o e)).trans e1⟩
 ·obtain ⟨o',e1⟩:=I1.base.there b o e hx
  exact ⟨o',(hs.2 b (low b o e)).trans e1⟩
 ·by_cases hj:j=i
  ·subst hj
   rw [List.getElem?_set_self eC] at e2
   cases e2
  ·rw [List.getElem?_set_ne (Ne.symm hj)] at e2
   obtain ⟨u',r',q⟩:=lH j y v' e1 (by rw [List.getElem?_set_ne (Ne.symm hj)]; exact e2) e3
   refine ⟨u',r',?_⟩
   rcases q with ⟨k,e⟩ | ⟨k,c,e,z⟩
   ·refine .inl ⟨k,?_⟩
    have:y≠n:=fun e=>hj (zg8_ hN e1 (e ▸ hi))
    simp [this,e]
   ·exact .inr ⟨k,c,e,z.sameBut hs (cne y c e)⟩
 ·obtain ⟨w',z⟩:=I1.cell y c e
  exact ⟨w',z.sameBut hs (cne y c e)⟩
 ·obtain ⟨e,n,ne,nf,d⟩:=I1.pin p hp
  exact ⟨(hs.2 p.1 ne).trans e,n,ne,nf,d⟩
 ·refine (I1.hok b ob e).stay (fun c w' hc q=>(hs.2 c ?_).trans q) (fun _ q=>q) fun _ _ q=>q
  rintro rfl
  rcases hc with rfl | hc
  ·rw [I1.free] at e; cases e
  ·rw [I1.free] at hc; cases hc
abbrev zpN_ (X:Cx)(s1:Shared)(x T:Addr):Heap:=W.hideAll s1.heap (frs X.stack++[x,T])
section
variable {X:Cx}{body:List Stmt}{tb:TX}{ts:TS}{S:Addr}{sx n:Str}{i:Nat}{dC:Stmt}{bW:List Stmt}{np cV pos:Pos}
def gone (i:Nat)(D:Ends):Ends:={ nx:=fun σ H=>D.nx (σ.set i none) H,rt:=D.rt,bk:=fun σ H=>D.bk (σ.set i none) H,ct:=fun σ H=>D.ct (σ.set i none) H }
abbrev TH:=Addr->Option Addr->Ends->St->Hp->Prop
def tH1 (K:Fgg)(S:Addr)(ts:TS)(rest:TH):TH:=fun C d D σ H=>if catK K C S=true then ∀ x,H x=none->ts D σ (upd H x (XO x C d)) else catN K C S=true/\rest C d D σ H
def tH0:TH:=fun _ _ _ _ _=>False
def tTryH (tb:TX)(th:TH):TS:=fun D σ H=>tb D (fun au c d H'=>∃ C,c=.ref C/\th C d D au H') σ H
def PH (X:Cx)(hs:List ExceptHandler)(t:TH):Prop:=∀ (pins:Pnn) (σ:St) (H:Hp) (D:Ends) (s:Shared) (x C:Addr) (d:Option Addr) (E:Value->Shared->Prop),Inv X pins σ (upd H x (XO x C d)) s->H x=none ->
 (∀ A' Q' E',(∀ h2,Inv X pins σ (upd H x (XO x C d)) { s with heap:=h2 }->Q' () { s with heap:=h2 })->wpAny (model X.prog X.w) A' (setFlight (.ref x) none) Q' E' s)->t C d D σ H->wpAny (model X.prog X.w) X.A (handleBy (.ref x) X.env hs) (SP X pins D) E s
variable {th rest:TH}{hs:List ExceptHandler}
theorem znc_:PH X [] tH0:=fun _ _ _ _ _ _ _ _ _ _ _ _ h=>h.elim
theorem zl1_ {t:Prop}{nm:Option Str}(hm:X.mg sx=some (.ref S))(hg:Gl X sx)(aV:(sx==("__debug__":Str))=false){pins:Pnn}{σ:St}{H:Hp}{D:Ends}{s:Shared}{x C:Addr}{d:Option Addr}{E:Value->Shared->Prop}(I:Inv X pins σ (upd H x (XO x C d)) s)
  (h:if catK X.K C S=true then codeAny (model X.prog X.w) (X.A.mark (some (.ref x))) (.handlers (.ref x) [.ExceptHandler none nm (dC::bW) cV] X.env) (fun r bo=>match r with
     | .ok f=>(match nm with
      | none=>SP X pins D f bo
      | some n=>wpAny (model X.prog X.w) X.A (do bindName X.env n .none; unbindBehindTheSuite X.env n cV) (fun _ bI=>SP X pins D f bI) E bo)
     | .error y=>cameBackBy (model X.prog X.w) X.A X.env E y bo) s else catN X.K C S=true/\wpAny (model X.prog X.w) X.A (handleBy (.ref x) X.env hs) (SP X pins D) E s):
  wpAny (model X.prog X.w) X.A (handleBy (.ref x) X.env (.ExceptHandler (some (.Name sx np)) nm (dC::bW) cV::hs)) (SP X pins D) E s:=by
 refine wpAny_handleBy_cons (codeAny_handlers_test (zcj_ (X:=X.inX x) (I.inX x) hg hm ?_ aV)) (by intro q; cases q)
 obtain ⟨xa,_⟩:=I.hok x _ zx_
 split at h
 case isTrue hc=>exact zkA_ (K:=X.K) I.kIn xa hc h
 case isFalse hc=>exact zkS_ (K:=X.K) I.kIn xa h.1 h.2
theorem ph_1 (hm:X.mg sx=some (.ref S))(lr:∀ x,PSs (X.inX x) (dC::bW) ts)(hr:PH X hs rest)
  (hg:Gl X sx:=by rfl) (aV:(sx==("__debug__":Str))=false:=by decide):PH X (.ExceptHandler (some (.Name sx np)) none (dC::bW) cV::hs) (tH1 X.K S ts rest):=by
 intro pins σ H D s x C d E I hx fl h
 refine zl1_ (t:=True) hm hg aV I ?_
 unfold tH1 at h
 split at h
 case isFalse hc=>rw [if_neg hc]; exact ⟨h.1,hr pins σ H D s x C d E I hx fl h.2⟩
 case isTrue hc =>
  rw [if_pos hc]
  refine codeAny_handlers_suite (fl _ _ _ fun h6 I6=>?_)
  exact wpAny_mono (lr x pins _ _ _ _ (I6.inX x) (h x hx)) (fun f s8 q=>q.outX I.ok) fun _ _ z=>z.elim
theorem zjr_ {h₀:ExceptHandler}(bE:X.stack=X.env::X.outer)(eD:X.env.frame=some X.env.locals)(hb:PSsx X body tb)(hh:PH X (h₀::hs) th):PS X (.Try body (h₀::hs) [] [] pos) (tTryH tb th):=by
 intro pins s σ H D I h
 refine wpAny_Try_except (wpAny_mono (hb pins s σ H D _ I h) (fun f s1 q=>?_) fun e s1 q=>?_)
 ·cases f with
  | next=>exact wpAny_execs_nil q
  | ret v=>exact q
  | brk=>exact q
  | cont=>exact q
 ·obtain ⟨au,Hb,sb,Ib,x,T,C,d,H',rfl,os,bare,un,ok,cP,C',hC',q⟩:=q
  cases hC'
  have I1:Inv X pins au H' s1:=Ib.call' (ch:=[]) os un ok bare (fun b z=>absurd z (by simp))
  obtain ⟨oe,vs,a0,oT,ts',he,fH,hd,h1,hTe,hT,hdT,h3⟩:=cP.obj
  have land:∀ h',zpN_ X s1 x T |>.StaysIn h'->h'.FunFrames (zpN_ X s1 x T) X.stack->h'.TracedW (zpN_ X s1 x T) x (.ref C) a0->s1.heap.UpToSlots h'->Dc x d h'->Inv X pins au (upd H' x (XO x C d)) { s1 with heap:=h' }:=fun h' a b c up dd=>landed Ib os bare un ok cP ⟨a,W.hideAll_none _ (List.mem_append_right _ List.mem_cons_self),b,c⟩ up dd
  have tr:s1.heap.TracedW (zpN_ X s1 x T) x (.ref C) a0:=⟨oe,vs,T,oT,ts',he,fH,hd,h1,W.hideAll_none _ (List.mem_append_right _ (List.mem_cons_of_mem _ List.mem_cons_self)),hTe,hT,hdT,h3⟩
  have oj:s1.heap.FunFrames (zpN_ X s1 x T) X.stack:=W.funFrames_hide I1.stack znO_
  rw [bE] at oj
  refine zlN_ (outer:=X.outer) (I1.ok.frames.trans (congrArg some bE)) oj eD tr (fun b o q=>W.of_hideAll _ q) (W.hideAll_none _ (List.mem_append_right _ List.mem_cons_self)) cP.dc fun h4 n4 d4=>?_
  refine fl_d n4.1 n4.2.1 n4.2.2.1 d4 fun h5 a5 b5 c5 u5 d5=>?_
  have u4:s1.heap.UpToSlots h4:=n4.2.2.2
  rw [<- bE] at b5
  refine hh pins au H' D _ x C d _ (land h5 a5 b5 c5 (u4.trans u5) d5) cP.hx (fun A' Q' E' kk=>?_) q
  exact fl_d a5 b5 c5.at d5 fun h6 a6 b6 c6 u6 d6=>kk h6 (land h6 a6 b6 c6 ((u4.trans u5).trans u6) d6)
end
structure RoomN (k:Nat)(A:Around):Prop where
 dp:A.depth+3*k+5<recursionLimit
 un:A.units+16*k+200<cLine
theorem Room.nX {k:Nat}{A:Around}(r:Room k A)(x:Addr):RoomN k (A.mark (some (.ref x))):=⟨r.dp,r.un⟩
theorem RoomN.mono {j k:Nat}{A:Around}(r:RoomN k A)(h:j<=k):RoomN j A:=⟨by have:=r.dp; lia,by have:=r.un; lia⟩
theorem RoomN.deeper {k:Nat}{A:Around}(r:RoomN (k+1) A)(env:Env):RoomN k (A.deeper env):=⟨by have:=r.dp; show A.depth+1+3*k+5<_; lia,by have:=r.un; show A.units+3+16*k+200<_; lia⟩
structure FnOkN (P:Program)(w:World)(K:Fgg)(mg:Str->Option Value)(base:Heap)(k:Nat)(f:Addr)(fd:FuncData)(ps:List Str)(sp:Sp):Prop where
 len:∀ vs H Q E,sp vs H Q E->vs.length=ps.length
 run:∀ (A:Around) (outer:List Env) (s:Shared) (H:Hp) (args:Args) (us:List Value) (vs:List V) (Q:VK) (E:XK),RoomN k A->Env0 P w K mg base A outer s H->BindsTo s fd args (ps.zip us)->Vals vs us->sp vs H Q E ->
  codeAny (model P w) A (.call (.ref f) args) (CR CX0 outer P w H s Q E) s
def cxN (P:Program)(w:World)(K:Fgg)(mg:Str->Option Value)(base:Heap)(N:List Str)(qual:Str)(scope:Scope)(f:Addr)(cd:Value)(A:Around)(outer:List Env)(s:Shared)(H:Hp):Cx:=
 { cxOf CX0 P w K mg base N qual scope f cd A outer s H E0 with calm:=false,xe:=fun _ _=>False }
section
variable {P:Program}{w:World}{K:Fgg}{mg:Str->Option Value}{base:Heap}
theorem Fun.okN {x qual:Str}{st:Stmt}{f:Addr}{fd:FuncData}{N ps:List Str}{k:Nat}{sp:Sp}(F:Fun K x qual st f fd)(S:FnScope N ps (defScope st))(len:∀ vs H Q E,sp vs H Q E->vs.length=ps.length)
  (bF:∀ (ar:Value) (A:Around) (outer:List Env) (s:Shared) (H:Hp) (vs:List V) (Q:VK) (E:XK),RoomN k (A.deeper (envOfC qual (defScope st) s.heap.objs.size f ar))->sp vs H Q E ->
   ∃ t,PSs (cxN P w K mg base N qual (defScope st) f ar A outer s H) (defBody st) t/\t { nx:=fun _ H'=>Q .non H',rt:=Q } (start N vs) H):FnOkN P w K mg base (k+1) f fd ps sp:=by
 obtain ⟨oc,od,kV,doc,pm,an,ar,ct,bL,rfl,lk,cY⟩:=F.ex
 refine ⟨len,fun A outer s H args us vs Q E hr e0 hb r cM=>?_⟩
 have hl:=len _ _ _ _ cM
 have KX:K.In s.heap:=e0.mod.kin.keeps fun b o e=>(e0.bs b o e).1
 have lim:s.heap.NoLimit:=e0.mod.nolimit.keeps fun b o e=>(e0.bs b o e).1
 have cX:∀ y∈ps.zip us,(defScope st).names.lookup y.1=some .local\/((defScope st).names.lookup y.1=some .cell/\((cellsFrom (s.heap.objs.size+1) (defScope st).names []).lookup y.1).isSome=true):=fun ⟨n,v⟩ hy=>by
  rcases S.par n (List.of_mem_zip hy).1 with q | q
  ·exact .inl q
  ·exact .inr ⟨q,W.cellsFrom_some _ _ _ (.inl q)⟩
 refine codeAny_call_function (by have:=hr.dp; lia) (KX _ _ lk) rfl S.co S.gen rfl (W.codeRec_of KX cY) (hb _ _ _ _ ?_)
 refine wpAny_newFunctionEnv_cells S.kind cX fun env he s1 x=>?_
 subst he
 refine ⟨lim.keeps x.toInCall.keep,codeAny_func ?_⟩
 obtain ⟨t,ht,hq⟩:=bF ar A outer s H vs Q E (hr.deeper _) cM
 have J:Inv (cxOf CX0 P w K mg base N qual (defScope st) f ar { A with handled:=none } outer s H E0) [] (start N vs) H s1:=zfz_ S rfl ⟨e0.frames,e0.mod,e0.bs,e0.bsz,e0.funs,e0.frf,e0.hok,e0.bare⟩ hl r x
 have I:Inv (cxN P w K mg base N qual (defScope st) f ar A outer s H) [] (start N vs) H s1:=
  ⟨⟨J.ok.mod,J.ok.kind,J.ok.glob,J.ok.blt,J.ok.above,J.ok.inj,J.ok.has,J.ok.cab,(fun z=>by cases z),Around.frames_deeper e0.frames,J.ok.stk,J.ok.exf,J.ok.bs,J.ok.bsz,J.ok.noex,J.ok.exfs,J.ok.funs,J.ok.frf⟩,J.os,J.bare,J.base,J.loc,J.cell,J.free,J.freeC,J.pin,J.hok,J.len⟩
 refine wpAny_mono (ht [] s1 (start N vs) H _ I hq) (fun fl s' hs=>?_) fun e s' hs=>hs.elim
 have fin:∀ {au:St}{H':Hp}{v:V}{u:Value},Inv (cxN P w K mg base N qual (defScope st) f ar A outer s H) [] au H' s'->RelV v u->Q v H'->CE outer P w H s Q u s':=
  fun {au H' v u} J rv q=>⟨v,H',J.os,J.bare,J.base,J.hok,rv,q⟩
 cases fl with
 | ret u =>
  obtain ⟨v,au,H',J,rv,q⟩:=hs
  exact fin J rv q
 | next =>
  obtain ⟨au,H',J,q⟩:=hs
  exact fin (v:=V.non) (u:=Value.none) J rfl q
 | brk =>
  obtain ⟨_,_,_,q⟩:=hs
  exact False.elim q
 | cont =>
  obtain ⟨_,_,_,q⟩:=hs
  exact False.elim q
theorem Fun.okX {x qual:Str}{st:Stmt}{f:Addr}{fd:FuncData}{N ps:List Str}{k:Nat}{sp:Sp}(F:Fun K x qual st f fd)(S:FnScope N ps (defScope st))(len:∀ vs H Q E,sp vs H Q E->vs.length=ps.length)
  (bF:∀ (ar:Value) (A:Around) (outer:List Env) (s:Shared) (H:Hp) (vs:List V) (Q:VK) (E:XK),Room k (A.deeper (envOfC qual (defScope st) s.heap.objs.size f ar))->sp vs H Q E ->
   ∃ t,PSs (cxOf (CXx P w) P w K mg base N qual (defScope st) f ar A outer s H E) (defBody st) t/\t { nx:=fun _ H'=>Q .non H',rt:=Q } (start N vs) H):FnOk P w K mg base (CXx P w) (k+1) f fd ps sp:=by
 obtain ⟨oc,od,kV,doc,pm,an,ar,ct,bL,rfl,lk,cY⟩:=F.ex
 exact fn_of lk cY S len fun A outer s H vs Q E hr cM=>bF ar A outer s H vs Q E hr cM
end
def GdN (P:Program)(w:World)(K:Fgg)(mg:Str->Option Value)(base:Heap)(k:Nat)(x:Str)(ps:List Str)(sp:Sp):Prop:=
 ∃ f fd,FnOkN P w K mg base k f fd ps sp/\mg x=some (.ref f)/\W.keepIn K (.ref f)=true/\Binds K fd ps []
section
variable {X:Cx}{k:Nat}{x:Str}{ps:List Str}{sp:Sp}{p pos:Pos}{e:Expr}{es:List Expr}{t:TA}
theorem zna_ (G:GdN X.prog X.w X.K X.mg X.base k x ps sp)(hr:RoomN k X.A)(ha:PA X (e::es) t)(hg:Gl X x:=by rfl)(aV:(x==("__debug__":Str))=false:=by decide)
  (he:starEach (e::es) X.env=(false,eval e X.env)::starEach es X.env:=by rfl) (aQ:(backTo pos (starEach es X.env)).any (·.1)=false:=by rfl):
  PE X (.Call (.Name x p) (e::es) [] pos) (tCall sp [] E0 t):=by
 intro pins s σ H Q I h
 obtain ⟨f,fd,F,hm,hk,hb⟩:=G
 refine wpAny_Call_Name_kw (zcj_ I hg hm ?_ aV)
 refine W.callWith_K (h₀:=X.base) I.ok.mod.kin hk (thn (ha pos pins s σ H _ I h) fun us s1 q=>?_) he aQ
 obtain ⟨vs,H1,I1,r,q⟩:=q
 refine ⟨I1.kIn,?_⟩
 have r2:Vals (vs++[]) (us++[]):=r.append .nil
 have hl:(us++[]).length=ps.length:=by rw [<- r2.length]; exact F.len _ _ _ _ q
 refine wpAny_call (codeAny_mono (F.run X.A X.stack s1 H1 ⟨us,[]⟩ (us++[]) (vs++[]) Q E0 hr I1.env0 (hb s1 us I1.kIn hl) r2 q) fun r s' hq=>?_)
 cases r with
 | error e=>exact False.elim hq
 | ok fl =>
  cases fl with
  | ret u=>exact I1.after hq
  | next=>exact False.elim hq
  | brk=>exact False.elim hq
  | cont=>exact False.elim hq
end
def SG:List Nat:=[32,48,49,50,51,52,53,54,55,56,57,65,66,67,68,69,70,71,72,73,74,75,76,77,78,79,80,81,82,83,84,85,86,87,88,89,90]
def rk (l:List Nat):Option Nat:=match l with | [c]=>SG.findIdx? (· == c) | _=>none
section
variable {X:Cx}
def mRange:List V->Hp->VK->Prop:=fun xs H Q=>match xs with
 | [.int j]=>∀ p,H p=none->Q (.ref p) (upd H p (.rng 0 j))
 | [.int i,.int j]=>∀ p,H p=none->Q (.ref p) (upd H p (.rng i j))
 | _=>False
theorem zip_:CallR X (.type "range") mRange:=by
 intro pins s σ H xs us Q I r h
 unfold mRange at h
 split at h
 ·rename_i j
  obtain ⟨u,rfl,t,rfl⟩:=vals1 r
  refine call_range_1 ⟨.ref s.heap.objs.size,_,I.laid (o:=.rng 0 j) (fun b ob q=>Heap.get?_push_of_some _ q) (Nat.le_refl _) ?_,rfl,h _ (I.hok.fresh (Nat.le_refl _))⟩
  exact ⟨_,_,_,Heap.get?_push_size _ rfl⟩
 ·rename_i i j
  obtain ⟨u,u',rfl,⟨t,rfl⟩,⟨t',rfl⟩⟩:=vals2 r
  refine call_range_2 ⟨.ref s.heap.objs.size,_,I.laid (o:=.rng i j) (fun b ob q=>Heap.get?_push_of_some _ q) (Nat.le_refl _) ?_,rfl,h _ (I.hok.fresh (Nat.le_refl _))⟩
  exact ⟨_,_,_,Heap.get?_push_size _ rfl⟩
 ·exact h.elim
def intsV (lo hi:Int):List V:=(List.range (hi-lo).toNat).map fun (i:Nat)=>V.int (lo+i)
def mList (K:Fgg):List V->Hp->VK->Prop:=fun xs H Q=>match xs with
 | [.ref p]=>(∃ ys,(SqL K H p ys\/SqT K H p ys)/\∀ l,H l=none->Q (.ref l) (upd H l (.lst ys))) \/
   (∃ lo hi,H p=some (.rng lo hi)/\(-50000<=lo/\lo<=50000 /\ -50000<=hi/\hi<=50000)/\∀ l,H l=none->Q (.ref l) (upd H l (.lst (intsV lo hi))))
 | _=>False
theorem znP_ {lo:Int}:∀ {n:Nat}{us:List Value},us.length=n->(∀ (j:Nat) (v:Value),us[j]?=some v->∃ t,v=Value.int (lo+j) t)->Vals ((List.range n).map fun (i:Nat)=>V.int (lo+i)) us
 | n,us,hl,h=>by
  refine paired_of (by rw [List.length_map,List.length_range,hl]) fun j x u hx hu=>?_
  rw [List.getElem?_map] at hx
  cases e:(List.range n)[j]? with
  | none=>rw [e] at hx; cases hx
  | some i =>
   rw [e] at hx; cases hx
   have:=List.getElem?_eq_some_iff.mp e
   obtain ⟨hj,ej⟩:=this
   rw [List.getElem_range] at ej
   subst ej
   exact h j u hu
 where paired_of:∀ {xs:List V}{us:List Value},xs.length=us.length->(∀ (j:Nat) x u,xs[j]?=some x->us[j]?=some u->RelV x u)->Vals xs us
 | [],[],_,_=>.nil
 | x::xs,u::us,hl,h=>.cons (h 0 x u rfl rfl) (paired_of (Nat.succ.inj hl) fun j x u a b=>h (j+1) x u a b)
theorem zcJ_ (hc:X.calm=true):CallR X (.type "list") (mList X.K):=by
 intro pins s σ H xs us Q I r h
 have hv:∃ p,xs=[.ref p]:=by
  rcases xs with _ | ⟨y,_ | ⟨z,t⟩⟩
  ·exact False.elim h
  ·cases y with
   | ref p=>exact ⟨p,rfl⟩
   | _=>exact False.elim h
  ·cases y<;>exact False.elim h
 obtain ⟨p,rfl⟩:=hv
 ·rcases h with ⟨ys,hq,q⟩ | ⟨lo,hi,hp,⟨h1,h2,h3,h4⟩,q⟩
  ·exact zhj_ pins s σ H _ us Q I r ⟨p,ys,rfl,hq,q⟩
  ·obtain ⟨u,rfl,rx⟩:=vals1 r
   cases rx
   obtain ⟨t,u,v,e⟩:=I.hok p _ hp
   have hn:Builtin.Range.rangeSize lo hi 1=(((hi-lo).toNat:Nat):Int):=by rw [rangeSize_one]; split<;>lia
   refine call_list_range (I.ok.hd hc) e (small_one (by lia) (by lia) (by lia) (by lia)) hn (by lia) fun h' tk acc c' kp e' ao=>?_
   obtain ⟨hs,lK⟩:=ao
   refine ⟨.ref s.heap.objs.size,_,I.laid (o:=.lst (intsV lo hi)) (t':=tk) kp (Nat.le_refl _) ?_,rfl,q _ (I.hok.fresh (Nat.le_refl _))⟩
   refine ⟨?_,acc.toList,c',znP_ (by simpa using hs) (fun j v hv=>?_),by simpa using e'⟩
   ·unfold intsV; rw [List.length_map,List.length_range]; exact zeg_ (by lia)
   ·obtain ⟨t,ht⟩:=lK j v (by simpa using hv)
    exact ⟨t,by rw [ht]; simp⟩
end
inductive EqD (K:Fgg) (H:Hp):Nat->V->V->Bool->Prop
 | flat {x y:V}(hx:flatV x=true) (hy:flatV y=true):EqD K H 0 x y (eqV x y)
 | lst {n:Nat}{p q:Addr}{xs ys:List V}(e:Nat->Bool) (hp:SqL K H p xs) (hq:SqL K H q ys) (hl:xs.length=ys.length) (h:∀ (i:Nat) x y,xs[i]?=some x->ys[i]?=some y->EqD K H n x y (e i)):EqD K H (n+1) (.ref p) (.ref q) ((List.range xs.length).all e)
 | lstN {n:Nat}{p q:Addr}{xs ys:List V}(hp:SqL K H p xs) (hq:SqL K H q ys) (hl:xs.length≠ys.length):EqD K H n (.ref p) (.ref q) false
 | tup {n:Nat}{p q:Addr}{xs ys:List V}(e:Nat->Bool) (hp:SqT K H p xs) (hq:SqT K H q ys) (h:∀ (i:Nat) x y,xs[i]?=some x->ys[i]?=some y->EqD K H n x y (e i)):EqD K H (n+1) (.ref p) (.ref q) ((List.range (min xs.length ys.length)).all e && xs.length == ys.length)
 | lt {n:Nat}{p q:Addr}{xs ys:List V}(hp:SqL K H p xs) (hq:SqT K H q ys):EqD K H n (.ref p) (.ref q) false
 | tl {n:Nat}{p q:Addr}{xs ys:List V}(hp:SqT K H p xs) (hq:SqL K H q ys):EqD K H n (.ref p) (.ref q) false
 | lf {n:Nat}{p:Addr}{xs:List V}{y:V}(hp:SqL K H p xs) (hy:flatV y=true):EqD K H n (.ref p) y false
 | fl {n:Nat}{p:Addr}{xs:List V}{y:V}(hp:SqL K H p xs) (hy:flatV y=true):EqD K H n y (.ref p) false
 | tf {n:Nat}{p:Addr}{xs:List V}{y:V}(hp:SqT K H p xs) (hy:flatV y=true):EqD K H n (.ref p) y false
 | ft {n:Nat}{p:Addr}{xs:List V}{y:V}(hp:SqT K H p xs) (hy:flatV y=true):EqD K H n y (.ref p) false
 | up {n:Nat}{x y:V}{b:Bool}(h:EqD K H n x y b):EqD K H (n+1) x y b
section
variable {X:Cx}{pins:Pnn}{σ:St}{H:Hp}{s:Shared}
theorem zdA_ {xs:List V}{us:List Value}(r:Vals xs us){i:Nat}(h:i<us.toArray.size):∃ x,xs[i]?=some x/\RelV x us.toArray[i]:=by
 have hi:i<us.length:=by simpa using h
 have hl:=r.length
 obtain ⟨u,hu,ru⟩:=r.get (List.getElem?_eq_getElem (show i<xs.length by lia))
 refine ⟨_,List.getElem?_eq_getElem (by lia),?_⟩
 rw [List.getElem?_eq_getElem hi] at hu
 cases hu
 simpa using ru
theorem zke_ (I:Inv X pins σ H s){n:Nat}{x y:V}{b:Bool}(h:EqD X.K H n x y b):x=y->b=true:=by
 induction h with
 | flat hx hy =>
  rename_i x y
  rintro rfl
  cases x<;>first | (cases hx; done) | (simp [eqV]; done) | rfl
 | lst e hp hq hl h ih =>
  rename_i n p q xs ys
  intro e0
  cases e0
  have gJ:=I.list_inj hp hq
  subst gJ
  rw [List.all_eq_true]
  intro i hi
  have hi:=List.mem_range.mp hi
  exact ih i _ _ (List.getElem?_eq_getElem hi) (List.getElem?_eq_getElem hi) rfl
 | lstN hp hq hl =>
  intro e0
  cases e0
  exact absurd (by rw [I.list_inj hp hq]) hl
 | tup e hp hq h ih =>
  rename_i n p q xs ys
  intro e0
  cases e0
  have gJ:=I.tuple_inj hp hq
  subst gJ
  rw [Bool.and_eq_true,List.all_eq_true]
  refine ⟨?_,by simp⟩
  intro i hi
  have hi:=List.mem_range.mp hi
  have hi:i<xs.length:=by lia
  exact ih i _ _ (List.getElem?_eq_getElem hi) (List.getElem?_eq_getElem hi) rfl
 | lt hp hq =>
  intro e0
  cases e0
  obtain ⟨ai,r1,p1,z1⟩:=I.list hp
  obtain ⟨aM,r2,p2,z2⟩:=I.tuple hq
  exact absurd rfl (SeqAt.ne_of_list_tuple p1.isList p2)
 | tl hp hq =>
  intro e0
  cases e0
  obtain ⟨ai,r1,p1,z1⟩:=I.tuple hp
  obtain ⟨aM,r2,p2,z2⟩:=I.list hq
  exact absurd rfl (SeqAt.ne_of_list_tuple p2.isList p1)
 | lf hp hy=>rintro rfl; cases hy
 | fl hp hy=>rintro rfl; cases hy
 | tf hp hy=>rintro rfl; cases hy
 | ft hp hy=>rintro rfl; cases hy
 | up h ih=>exact ih
theorem znC_ (I:Inv X pins σ H s){n:Nat}{x y:V}{b:Bool}(h:EqD X.K H n x y b):∀ (A:Around) (v u:Value),A.units+n<cLine->RelV x v->RelV y u ->
  SeqAt.EqAt A s v u b/\(∀ p q,x=.ref p->y=.ref q->SeqAt.RcAt A s v u b):=by
 induction h with
 | flat hx hy =>
  intro A v u _ rx ry
  refine ⟨zpH_ rx ry hx hy,fun p q e _=>?_⟩
  subst e; cases hx
 | lst e hp hq hl h ih =>
  rename_i n p q xs ys
  intro A v u hu rx ry
  cases rx; cases ry
  obtain ⟨ai,r1,p1,z1⟩:=I.list hp
  obtain ⟨aM,r2,p2,z2⟩:=I.list hq
  have l1:=r1.length
  have l2:=r2.length
  have rc:SeqAt.RcAt A s (.ref p) (.ref q) ((List.range xs.length).all e):=by
   have:=SeqAt.RcAt.lists (A:=A) (e:=e) p1.isList p2.isList (by simp only [List.size_toArray]; lia) (by lia) (fun j h1 h2=>by
    obtain ⟨x,ex,rx⟩:=zdA_ r1 h1
    obtain ⟨y,ey,ry⟩:=zdA_ r2 h2
    exact (ih j x y ex ey A.in1 _ _ (by show A.units+1+n<_; lia) rx ry).1)
   rw [List.size_toArray,<- l1] at this
   exact this
  refine ⟨?_,fun _ _ _ _=>rc⟩
  by_cases hpq:p=q
  ·subst hpq
   have gJ:=I.list_inj hp hq
   subst gJ
   have:(List.range xs.length).all e=true:=by
    rw [List.all_eq_true]
    intro i hi
    have hi:=List.mem_range.mp hi
    exact zke_ I (h i _ _ (List.getElem?_eq_getElem hi) (List.getElem?_eq_getElem hi)) rfl
   rw [this]
   exact SeqAt.EqAt.same _
  ·exact .of_refs hpq rc
 | lstN hp hq hl =>
  rename_i n p q xs ys
  intro A v u hu rx ry
  cases rx; cases ry
  obtain ⟨ai,r1,p1,z1⟩:=I.list hp
  obtain ⟨aM,r2,p2,z2⟩:=I.list hq
  have l1:=r1.length
  have l2:=r2.length
  have rc:SeqAt.RcAt A s (.ref p) (.ref q) false:=SeqAt.RcAt.lists_lengths p1.isList p2.isList (by simp only [List.size_toArray,bne_iff_ne,ne_eq]; lia) (by lia)
  refine ⟨.of_refs (fun e=>?_) rc,fun _ _ _ _=>rc⟩
  subst e
  exact hl (by rw [I.list_inj hp hq])
 | tup e hp hq h ih =>
  rename_i n p q xs ys
  intro A v u hu rx ry
  cases rx; cases ry
  obtain ⟨ai,r1,p1,z1⟩:=I.tuple hp
  obtain ⟨aM,r2,p2,z2⟩:=I.tuple hq
  have l1:=r1.length
  have l2:=r2.length
  have rc:SeqAt.RcAt A s (.ref p) (.ref q) ((List.range (min xs.length ys.length)).all e && xs.length == ys.length):=by
   have:=SeqAt.RcAt.tuples (A:=A) (e:=e) (show s.heap.IsTuple p ai.toArray from p1) (show s.heap.IsTuple q aM.toArray from p2) (by lia) (fun j h1 h2=>by
    obtain ⟨x,ex,rx⟩:=zdA_ r1 h1
    obtain ⟨y,ey,ry⟩:=zdA_ r2 h2
    exact (ih j x y ex ey A.in1 _ _ (by show A.units+1+n<_; lia) rx ry).1)
   rw [List.size_toArray,List.size_toArray,<- l1,<- l2] at this
   exact this
  refine ⟨?_,fun _ _ _ _=>rc⟩
  by_cases hpq:p=q
  ·subst hpq
   have gJ:=I.tuple_inj hp hq
   subst gJ
   have:((List.range (min xs.length xs.length)).all e && xs.length == xs.length)=true:=by
    rw [Bool.and_eq_true,List.all_eq_true]
    refine ⟨?_,by simp⟩
    intro i hi
    have hi:=List.mem_range.mp hi
    have hi:i<xs.length:=by lia
    exact zke_ I (h i _ _ (List.getElem?_eq_getElem hi) (List.getElem?_eq_getElem hi)) rfl
   rw [this]
   exact SeqAt.EqAt.same _
  ·exact .of_refs hpq rc
 | lt hp hq =>
  intro A v u hu rx ry
  cases rx; cases ry
  obtain ⟨ai,r1,p1,z1⟩:=I.list hp
  obtain ⟨aM,r2,p2,z2⟩:=I.tuple hq
  exact ⟨.list_tuple p1.isList p2 (by lia),fun _ _ _ _=>.list_tuple p1.isList p2 (by lia)⟩
 | tl hp hq =>
  intro A v u hu rx ry
  cases rx; cases ry
  obtain ⟨ai,r1,p1,z1⟩:=I.tuple hp
  obtain ⟨aM,r2,p2,z2⟩:=I.list hq
  exact ⟨.tuple_list p1 p2.isList (by lia),fun _ _ _ _=>.tuple_list p1 p2.isList (by lia)⟩
 | lf hp hy =>
  rename_i n p xs y
  intro A v u hu rx ry
  cases rx
  obtain ⟨ai,r1,p1,z1⟩:=I.list hp
  refine ⟨?_,fun _ _ _ e=>by subst e; cases hy⟩
  cases y with
  | non=>cases ry; exact .list_none p1.isList (by lia)
  | bl b=>cases ry; exact .list_bool b p1.isList (by lia)
  | int b=>obtain ⟨t,rfl⟩:=ry; exact .list_int b t p1.isList (by lia)
  | str b=>obtain ⟨t,rfl⟩:=ry; exact .list_str b t p1.isList (by lia)
  | _=>cases hy
 | fl hp hy =>
  rename_i n p xs y
  intro A v u hu rx ry
  cases ry
  obtain ⟨ai,r1,p1,z1⟩:=I.list hp
  refine ⟨?_,fun _ _ e _=>by subst e; cases hy⟩
  cases y with
  | non=>cases rx; exact .none_list p1.isList (by lia)
  | bl b=>cases rx; exact .bool_list b p1.isList (by lia)
  | int b=>obtain ⟨t,rfl⟩:=rx; exact .int_list b t p1.isList (by lia)
  | str b=>obtain ⟨t,rfl⟩:=rx; exact .str_list b t p1.isList (by lia)
  | _=>cases hy
 | tf hp hy =>
  rename_i n p xs y
  intro A v u hu rx ry
  cases rx
  obtain ⟨ai,r1,p1,z1⟩:=I.tuple hp
  refine ⟨?_,fun _ _ _ e=>by subst e; cases hy⟩
  cases y with
  | non=>cases ry; exact .tuple_none p1 (by lia)
  | bl b=>cases ry; exact .tuple_bool b p1 (by lia)
  | int b=>obtain ⟨t,rfl⟩:=ry; exact .tuple_int b t p1 (by lia)
  | str b=>obtain ⟨t,rfl⟩:=ry; exact .tuple_str b t p1 (by lia)
  | _=>cases hy
 | ft hp hy =>
  rename_i n p xs y
  intro A v u hu rx ry
  cases ry
  obtain ⟨ai,r1,p1,z1⟩:=I.tuple hp
  refine ⟨?_,fun _ _ e _=>by subst e; cases hy⟩
  cases y with
  | non=>cases rx; exact .none_tuple p1 (by lia)
  | bl b=>cases rx; exact .bool_tuple b p1 (by lia)
  | int b=>obtain ⟨t,rfl⟩:=rx; exact .int_tuple b t p1 (by lia)
  | str b=>obtain ⟨t,rfl⟩:=rx; exact .str_tuple b t p1 (by lia)
  | _=>cases hy
 | up h ih =>
  intro A v u hu rx ry
  exact ih A v u (by lia) rx ry
end
section
variable {X:Cx}
def mEqK (K:Fgg):R2:=fun x y H Q=>match x,y with
 | .ref p,.ref q=>∃ n b,n<=50/\EqD K H n (.ref p) (.ref q) b/\Q (.bl b) H
 | _,_=>mEq x y H Q
def mNeK (K:Fgg):R2:=fun x y H Q=>match x,y with
 | .ref p,.ref q=>∃ n b,n<=50/\EqD K H n (.ref p) (.ref q) b/\Q (.bl (!b)) H
 | _,_=>mNe x y H Q
theorem zcc_ (hu:X.A.units+60<cLine):OpR X (compareOp .Eq) (mEqK X.K):=by
 intro pins s σ H x y v u Q I rx ry h
 unfold mEqK at h
 split at h
 ·rename_i p q
  obtain ⟨n,b,hn,h,q⟩:=h
  have:=(znC_ I h X.A v u (by lia) rx ry).2 _ _ rfl rfl
  exact this X.prog X.w X.xe _ ⟨.bl b,H,I,rfl,q⟩
 ·exact zqv_ pins s σ H x y v u Q I rx ry h
variable {pins:Pnn}{σ:St}{H:Hp}{s:Shared}
theorem zqx_ (I:Inv X pins σ H s){n:Nat}{x y:V}{b:Bool}(h:EqD X.K H n x y b):∀ (A:Around) (v u:Value),A.units+n<cLine->RelV x v->RelV y u->∀ p q,x=.ref p->y=.ref q->SeqAt.RcNeAt A s v u (!b):=by
 induction h with
 | flat hx hy=>intro A v u _ rx ry p q e _; subst e; cases hx
 | lst e hp hq hl h ih =>
  rename_i n p q xs ys
  intro A v u hu rx ry _ _ _ _
  cases rx; cases ry
  obtain ⟨ai,r1,p1,z1⟩:=I.list hp
  obtain ⟨aM,r2,p2,z2⟩:=I.list hq
  have l1:=r1.length
  have l2:=r2.length
  have:=SeqAt.RcNeAt.lists (A:=A) (e:=e) p1.isList p2.isList (by simp only [List.size_toArray]; lia) (by lia) (fun j h1 h2=>by
   obtain ⟨x,ex,rx⟩:=zdA_ r1 h1
   obtain ⟨y,ey,ry⟩:=zdA_ r2 h2
   exact (znC_ I (h j x y ex ey) A.in1 _ _ (by show A.units+1+n<_; lia) rx ry).1)
  rw [List.size_toArray,<- l1] at this
  exact this
 | lstN hp hq hl =>
  intro A v u hu rx ry _ _ _ _
  cases rx; cases ry
  obtain ⟨ai,r1,p1,z1⟩:=I.list hp
  obtain ⟨aM,r2,p2,z2⟩:=I.list hq
  have l1:=r1.length
  have l2:=r2.length
  exact SeqAt.RcNeAt.lists_lengths p1.isList p2.isList (by simp only [List.size_toArray,bne_iff_ne,ne_eq]; lia) (by lia)
 | tup e hp hq h ih =>
  rename_i n p q xs ys
  intro A v u hu rx ry _ _ _ _
  cases rx; cases ry
  obtain ⟨ai,r1,p1,z1⟩:=I.tuple hp
  obtain ⟨aM,r2,p2,z2⟩:=I.tuple hq
  have l1:=r1.length
  have l2:=r2.length
  have:=SeqAt.RcNeAt.tuples (A:=A) (e:=e) (show s.heap.IsTuple p ai.toArray from p1) (show s.heap.IsTuple q aM.toArray from p2) (by lia) (fun j h1 h2=>by
   obtain ⟨x,ex,rx⟩:=zdA_ r1 h1
   obtain ⟨y,ey,ry⟩:=zdA_ r2 h2
   exact (znC_ I (h j x y ex ey) A.in1 _ _ (by show A.units+1+n<_; lia) rx ry).1)
  rw [List.size_toArray,List.size_toArray,<- l1,<- l2] at this
  exact this
 | lt hp hq =>
  intro A v u hu rx ry _ _ _ _
  cases rx; cases ry
  obtain ⟨ai,r1,p1,z1⟩:=I.list hp
  obtain ⟨aM,r2,p2,z2⟩:=I.tuple hq
  exact .list_tuple p1.isList p2 (by lia)
 | tl hp hq =>
  intro A v u hu rx ry _ _ _ _
  cases rx; cases ry
  obtain ⟨ai,r1,p1,z1⟩:=I.tuple hp
  obtain ⟨aM,r2,p2,z2⟩:=I.list hq
  exact .tuple_list p1 p2.isList (by lia)
 | lf hp hy=>intro A v u hu rx ry _ _ _ e; subst e; cases hy
 | fl hp hy=>intro A v u hu rx ry _ _ e _; subst e; cases hy
 | tf hp hy=>intro A v u hu rx ry _ _ _ e; subst e; cases hy
 | ft hp hy=>intro A v u hu rx ry _ _ e _; subst e; cases hy
 | up h ih=>intro A v u hu rx ry; exact ih A v u (by lia) rx ry
theorem zjD_ (hu:X.A.units+60<cLine):OpR X (compareOp .NotEq) (mNeK X.K):=by
 intro pins s σ H x y v u Q I rx ry h
 unfold mNeK at h
 split at h
 ·rename_i p q
  obtain ⟨n,b,hn,h,q⟩:=h
  have:=zqx_ I h X.A v u (by lia) rx ry _ _ rfl rfl
  exact this X.prog X.w X.xe _ ⟨.bl (!b),H,I,rfl,q⟩
 ·exact zrn_ pins s σ H x y v u Q I rx ry h
end
theorem Room.u60 {k:Nat}{A:Around}(r:Room k A):A.units+60<cLine:=by have:=r.units; lia
theorem RoomN.u60 {k:Nat}{A:Around}(r:RoomN k A):A.units+60<cLine:=by have:=r.un; lia
end L2
namespace LX
open PySem Builtin Builtin.Str
section
end
end LX
namespace L2
open PySem PySem.Spec PyProof.Rows
section
end
section
variable {κ:Type}[DecidableEq κ]
def valV (aa:List (κ×V))(k:κ):Option V:=(aa.find? fun kv=>decide (kv.1=k)).map (·.2)
def putK (aa:List (κ×V))(k:κ)(v:V):List (κ×V):=
 if (aa.any fun kv=>decide (kv.1=k))=true then aa.map (fun kv=>if kv.1=k then (kv.1,v) else kv) else aa++[(k,v)]
theorem zgL_ {p:κ×V}{r:List (κ×V)}{k:κ}(e:p.1=k):valV (p::r) k=some p.2:=by simp [valV,List.find?_cons,e]
theorem zha_ {p:κ×V}{r:List (κ×V)}{k:κ}(e:¬ p.1=k):valV (p::r) k=valV r k:=by simp [valV,List.find?_cons,e]
theorem zjh_ (k:κ):∀ aa:List (κ×V),(aa.any fun kv=>decide (kv.1=k))=(valV aa k).isSome
 | []=>rfl
 | p::r=>by
  rw [List.any_cons]
  by_cases e:p.1=k
  ·simp only [zgL_ e,decide_eq_true e,Bool.true_or,Option.isSome_some]
  ·rw [zha_ e,decide_eq_false e,Bool.false_or]; exact zjh_ k r
theorem zc8_ (aa:List (κ×V))(k:κ)(v:V):(putK aa k v).length<=aa.length+1:=by
 unfold putK
 split
 ·rw [List.length_map]; lia
 ·rw [List.length_append,List.length_cons,List.length_nil]; lia
theorem RelO.isSome_eq {o:Option V}{u:Option Value}(r:RelO o u):o.isSome=u.isSome:=by
 cases o with
 | none=>cases u with
  | none=>rfl
  | some _=>exact (show False from r).elim
 | some _=>cases u with
  | none=>exact (show False from r).elim
  | some _=>rfl
theorem KV.val {aa:List (κ×V)}{vs:List (κ×Value)}(r:KV aa vs)(k:κ):RelO (valV aa k) (valueAt vs k):=by
 unfold KV at r
 induction r with
 | nil=>exact True.intro
 | @cons p q ps qs h t ih =>
  obtain ⟨h1,h2⟩:=h
  by_cases e:p.1=k
  ·have e':q.1=k:=h1.symm.trans e
   have b:valueAt (q::qs) k=some q.2:=by simp [valueAt,List.find?_cons,e']
   rw [zgL_ e,b]; exact h2
  ·have e':¬ q.1=k:=fun z=>e (h1.trans z)
   have b:valueAt (q::qs) k=valueAt qs k:=by simp [valueAt,List.find?_cons,e']
   rw [zha_ e,b]; exact ih
theorem KV.any {aa:List (κ×V)}{vs:List (κ×Value)}(r:KV aa vs)(k:κ):(aa.any fun kv=>decide (kv.1=k))=vs.any fun kv=>decide (kv.1=k):=by
 unfold KV at r
 induction r with
 | nil=>rfl
 | cons h t ih=>rw [List.any_cons,List.any_cons,ih,h.1]
theorem KV.repl {aa:List (κ×V)}{vs:List (κ×Value)}(r:KV aa vs)(k:κ){y:V}{u:Value}(ry:RelV y u):
  KV (aa.map fun kv=>if kv.1=k then (kv.1,y) else kv) (vs.map fun kv=>if kv.1=k then (kv.1,u) else kv):=by
 unfold KV at r ⊢
 induction r with
 | nil=>exact .nil
 | @cons p q ps qs h t ih =>
  rw [List.map_cons,List.map_cons]
  refine .cons ?_ ih
  obtain ⟨h1,h2⟩:=h
  by_cases e:p.1=k
  ·rw [if_pos e,if_pos (h1.symm.trans e)]; exact ⟨h1,ry⟩
  ·rw [if_neg e,if_neg (fun z=>e (h1.trans z))]; exact ⟨h1,h2⟩
theorem KV.put {aa:List (κ×V)}{vs:List (κ×Value)}(r:KV aa vs)(k:κ){y:V}{u:Value}(ry:RelV y u):KV (putK aa k y) (stored vs k u):=by
 unfold putK stored
 rw [r.any k]
 by_cases e:(vs.any fun kv=>decide (kv.1=k))=true
 ·rw [if_pos e,if_pos e]; exact r.repl k ry
 ·rw [if_neg e,if_neg e]; exact Paired.snoc r ⟨rfl,ry⟩
theorem KV.length {aa:List (κ×V)}{vs:List (κ×Value)}(r:KV aa vs):aa.length=vs.length:=Paired.length r
end
theorem zoi_ {P:Program}{w:World}{k:Key}{u:Value}(r:RelV (kV k) u):(mixKind P w).is k u=true:=by
 cases k with
 | inl i=>obtain ⟨t,e⟩:=(show ∃ t,u=Value.int i t from r); subst e; exact zil_ P w i t
 | inr x=>obtain ⟨t,e⟩:=(show ∃ t,u=Value.str x t from r); subst e; exact ziB_ P w x t
theorem zhK_ {P:Program}{w:World}:∀ {ks:List Key}{us:List Value},Vals (ks.map kV) us->ItemsAre (mixKind P w) ks us
 | [],_,r=>by rw [List.map_nil] at r; cases r; exact .nil
 | k::ks,_,r=>by
  rw [List.map_cons] at r
  cases r with
  | cons h t=>exact .cons (zoi_ h) (zhK_ t)
abbrev KT (H:Hp):List (List Key×V)->List (List Key×Addr×Value)->Prop:=Paired fun p q=>p.1=q.1/\H q.2.1=some (.tup (p.1.map kV))/\RelV p.2 q.2.2
theorem KT.val {H:Hp}{aa:List (List Key×V)}{xs:List (List Key×Addr×Value)}(r:KT H aa xs)(k:List Key):RelO (valV aa k) ((atKey xs k).map (·.2)):=by
 induction r with
 | nil=>exact True.intro
 | @cons p q ps qs h t ih =>
  obtain ⟨h1,_,h2⟩:=h
  by_cases e:p.1=k
  ·have e':q.1=k:=h1.symm.trans e
   have b:atKey (q::qs) k=some q.2:=by simp [atKey,List.find?_cons,e']
   rw [zgL_ e,b]; exact h2
  ·have e':¬ q.1=k:=fun z=>e (h1.trans z)
   have b:atKey (q::qs) k=atKey qs k:=by simp [atKey,List.find?_cons,e']
   rw [zha_ e,b]; exact ih
theorem KT.repl {H:Hp}{aa:List (List Key×V)}{xs:List (List Key×Addr×Value)}(r:KT H aa xs)(k:List Key){y:V}{u:Value}(ry:RelV y u):
  KT H (aa.map fun kv=>if kv.1=k then (kv.1,y) else kv) (xs.map (putAt k u)):=by
 induction r with
 | nil=>exact .nil
 | @cons p q ps qs h t ih =>
  rw [List.map_cons,List.map_cons]
  refine .cons ?_ ih
  obtain ⟨h1,h2,h3⟩:=h
  unfold putAt
  by_cases e:p.1=k
  ·rw [if_pos e,if_pos (h1.symm.trans e)]; exact ⟨h1,h2,ry⟩
  ·rw [if_neg e,if_neg (fun z=>e (h1.trans z))]; exact ⟨h1,h2,h3⟩
theorem KT.put {H:Hp}{aa:List (List Key×V)}{xs:List (List Key×Addr×Value)}(r:KT H aa xs)(k:List Key){b:Addr}{y:V}{u:Value}(hb:H b=some (.tup (k.map kV)))(ry:RelV y u):
  KT H (putK aa k y) (storedH xs k b u):=by
 have e:(aa.any fun kv=>decide (kv.1=k))=(atKey xs k).isSome:=by
  rw [zjh_,(r.val k).isSome_eq,Option.isSome_map]
 unfold putK storedH
 rw [e]
 by_cases q:(atKey xs k).isSome=true
 ·rw [if_pos q,if_pos q]; exact r.repl k ry
 ·rw [if_neg q,if_neg q]; exact Paired.snoc r ⟨rfl,hb,ry⟩
theorem KT.keeps {H H':Hp}{aa:List (List Key×V)}{xs:List (List Key×Addr×Value)}(r:KT H aa xs)(ht:∀ b ys,H b=some (.tup ys)->H' b=some (.tup ys)):KT H' aa xs:=
 Paired.mapP r fun _ _ z=>⟨z.1,ht _ _ z.2.1,z.2.2⟩
section
variable {P:Program}{w:World}{H:Hp}{h:Heap}{a:Addr}
theorem rd_of {u:HO}(ok:HOk P w H h)(e:Rd H a u):ObjOk P w H h a u:=e.ok ok
theorem zqf_ {aa:List (Key×V)}(ok:HOk P w H h)(e:Rd H a (.dK aa)):aa.length<=sizeLine/\(a == sysModules)=false/\∃ vs,KV aa vs/\h.DictOf (mixKind P w) a vs:=
 show ObjOk P w H h a (.dK aa) from rd_of ok e
theorem dk_of {aa:List (Key×V)}(ok:HOk P w H h)(e:H a=some (.dK aa)):aa.length<=sizeLine/\(a == sysModules)=false/\∃ vs,KV aa vs/\h.DictOf (mixKind P w) a vs:=zqf_ ok (.inl e)
theorem zjp_ {ks:List Key}(ok:HOk P w H h)(e:H a=some (.tup (ks.map kV))):(tupleKind (mixKind P w)).is h ks a:=by
 obtain ⟨_,ai,r,o,h1,h2,n,h3⟩:=(show ObjOk P w H h a (.tup (ks.map kV)) from ok a _ e)
 exact ⟨o,ai.toArray,n,h1,h2,h3,by simpa using zhK_ r⟩
theorem zpJ_ {aa:List (List Key×V)}(ok:HOk P w H h)(e:Rd H a (.dT aa)):aa.length<=sizeLine/\(a == sysModules)=false /\
  ∃ xs,KT H aa xs/\h.DictOfH (tupleKind (mixKind P w)) a xs:=by
 obtain ⟨z,y,xs,r,o,es,ep,h1,h2,h3,h4,h5⟩:=(show ObjOk P w H h a (.dT aa) from rd_of ok e)
 refine ⟨z,y,xs,r,o,es,ep,h1,h2,h3,h4,fun x hx=>?_,h5⟩
 have all:∀ {l:List (List Key×V)}{m:List (List Key×Addr×Value)},KT H l m->∀ x∈m,(tupleKind (mixKind P w)).is h x.1 x.2.1:=by
  intro l m q
  induction q with
  | nil=>intro x hx; exact nomatch hx
  | @cons p q ps qs hq t ih =>
   intro x hx
   rcases List.mem_cons.mp hx with e | hx
   ·subst e
    exact zjp_ ok (by rw [<- hq.1]; exact hq.2.1)
   ·exact ih x hx
 exact all r x hx
theorem dt_of {aa:List (List Key×V)}(ok:HOk P w H h)(e:H a=some (.dT aa)):aa.length<=sizeLine/\(a == sysModules)=false /\
  ∃ xs,KT H aa xs/\h.DictOfH (tupleKind (mixKind P w)) a xs:=zpJ_ ok (.inl e)
end
def DGet (H:Hp)(a:Addr)(y:V)(r:Option V):Prop:=
 (∃ aa k,Rd H a (.dK aa)/\y=kV k/\r=valV aa k)\/∃ aa k b,Rd H a (.dT aa)/\y=.ref b/\H b=some (.tup (k.map kV))/\r=valV aa k
def DPut (H:Hp)(a:Addr)(y v:V)(H':Hp):Prop:=
 (∃ aa k,H a=some (.dK aa)/\y=kV k/\aa.length<sizeLine/\H'=upd H a (.dK (putK aa k v))) \/
 ∃ aa k b,H a=some (.dT aa)/\y=.ref b/\H b=some (.tup (k.map kV))/\aa.length<sizeLine/\H'=upd H a (.dT (putK aa k v))
theorem DGet.k {H:Hp}{a:Addr}{aa:List (Key×V)}{k:Key}(e:H a=some (.dK aa)):DGet H a (kV k) (valV aa k):=.inl ⟨aa,k,.inl e,rfl,rfl⟩
theorem DPut.k {H:Hp}{a:Addr}{aa:List (Key×V)}{k:Key}{v:V}(e:H a=some (.dK aa))(hl:aa.length<sizeLine):DPut H a (kV k) v (upd H a (.dK (putK aa k v))):=.inl ⟨aa,k,e,rfl,hl,rfl⟩
section
variable {X:Cx}{pins:Pnn}{σ:St}{H:Hp}{s:Shared}{a:Addr}{y v:V}{u r:Value}{o:Option V}{A:Around}{E:Value->Shared->Prop}
theorem Inv.big (I:Inv X pins σ H s):sysModules<s.heap.objs.size:=by
 have h:mainGlobals<s.heap.objs.size:=(I.mod.glob.keeps I.bk).lt
 exact Nat.lt_trans (by decide) h
theorem zk1_ {Q:Value->Shared->Prop}(hu:A.units+1<cLine)(I:Inv X pins σ H s)(g:DGet H a y (some v))(ry:RelV y u)(h:∀ w' s',Inv X pins σ H s'->RelV v w'->Q w' s'):
  wpAny (model X.prog X.w) A (getItem (.ref a) u) Q E s:=by
 rcases g with ⟨aa,k,e,ey,l⟩ | ⟨aa,k,b,e,ey,eb,l⟩
 ·subst ey
  obtain ⟨z,hd,vs,rel,dd⟩:=zqf_ I.hok e
  obtain ⟨w',hw,dw⟩:=RelO.some_of (v:=v) (o:=valueAt vs k) (by rw [l]; exact rel.val k)
  exact wpAny_getItem_of (zoi_ ry) dd.mapOf hw (h w' _ (I.tok _) dw)
 ·subst ey
  cases (show u=Value.ref b from ry)
  obtain ⟨z,hd,xs,rel,dd⟩:=zpJ_ I.hok e
  obtain ⟨w',hw,dw⟩:=RelO.some_of (v:=v) (o:=(atKey xs k).map (·.2)) (by rw [l]; exact rel.val k)
  obtain ⟨p,hp,cW⟩:=Option.map_eq_some_iff.mp hw
  refine wpAny_getItem_heap (tupleKind_room_in1 hu) (zjp_ I.hok eb) dd hp ?_
  rw [cW]
  exact h w' _ (I.tok _) dw
theorem d_in {Q:Value->Shared->Prop}(hu:A.units+1<cLine)(I:Inv X pins σ H s)(g:DGet H a y o)(ry:RelV y u)(h:∀ s',Inv X pins σ H s'->Q (.bool o.isSome) s'):
  wpAny (model X.prog X.w) A (compareOp .In u (.ref a)) Q E s:=by
 rcases g with ⟨aa,k,e,ey,l⟩ | ⟨aa,k,b,e,ey,eb,l⟩
 ·subst ey
  obtain ⟨z,hd,vs,rel,dd⟩:=zqf_ I.hok e
  refine wpAny_in_of (zoi_ ry) hd dd.mapOf ?_
  rw [<- (rel.val k).isSome_eq,<- l]
  exact h _ (I.tok _)
 ·subst ey
  cases (show u=Value.ref b from ry)
  obtain ⟨z,hd,xs,rel,dd⟩:=zpJ_ I.hok e
  refine wpAny_in_heap (tupleKind_room_in1 hu) (zjp_ I.hok eb) hd dd ?_
  have q:=(rel.val k).isSome_eq
  rw [Option.isSome_map] at q
  rw [<- q,<- l]
  exact h _ (I.tok _)
theorem zoV_ {Q:Value->Shared->Prop}(hu:A.units+1<cLine)(I:Inv X pins σ H s)(g:DGet H a y o)(ry:RelV y u)(h:∀ s',Inv X pins σ H s'->Q (.bool (!o.isSome)) s'):
  wpAny (model X.prog X.w) A (compareOp .NotIn u (.ref a)) Q E s:=by
 rcases g with ⟨aa,k,e,ey,l⟩ | ⟨aa,k,b,e,ey,eb,l⟩
 ·subst ey
  obtain ⟨z,hd,vs,rel,dd⟩:=zqf_ I.hok e
  refine wpAny_notIn_of (zoi_ ry) hd dd.mapOf ?_
  rw [<- (rel.val k).isSome_eq,<- l]
  exact h _ (I.tok _)
 ·subst ey
  cases (show u=Value.ref b from ry)
  obtain ⟨z,hd,xs,rel,dd⟩:=zpJ_ I.hok e
  refine wpAny_notIn_heap (tupleKind_room_in1 hu) (zjp_ I.hok eb) hd dd ?_
  have q:=(rel.val k).isSome_eq
  rw [Option.isSome_map] at q
  rw [<- q,<- l]
  exact h _ (I.tok _)
theorem ziN_ {h':Heap}{t':Nat}{ob:HO}(I:Inv X pins σ H s)(mu:Mut (H a))(hs:Heap.SameBut a s.heap h')(he:∃ q,h'.get? a=some q)(new:ObjOk X.prog X.w (upd H a ob) h' a ob):
  Inv X pins σ (upd H a ob) { s with heap:=h',toks:=t' }:=
 I.write (x:=a) (e:=a) mu (.inl rfl) (fun b q hb z=>(hs.2 b hb).trans z) he new
theorem zp9_ {P:Program}{w:World}{H':Hp}{h':Heap}{aa:List (Key×V)}{vs:List (Key×Value)}(z:aa.length<=sizeLine)(hd:(a == sysModules)=false)(rel:KV aa vs)(dd:h'.DictOf (mixKind P w) a vs):
  ObjOk P w H' h' a (.dK aa):=⟨z,hd,vs,rel,dd⟩
theorem zls_ {H':Hp}{Q:Unit->Shared->Prop}(hu:A.units+1<cLine)(I:Inv X pins σ H s)(g:DPut H a y v H')(ry:RelV y u)(rv:RelV v r)(h:∀ s',Inv X pins σ H' s'->Q () s'):
  wpAny (model X.prog X.w) A (setItem (.ref a) u r) Q E s:=by
 rcases g with ⟨aa,k,e,ey,l,eH⟩ | ⟨aa,k,b,e,ey,eb,l,eH⟩
 ·subst ey eH
  obtain ⟨z,hd,vs,rel,dd⟩:=dk_of I.hok e
  have hz:vs.length<=sizeLine:=by rw [<- rel.length]; exact z
  have hl:(putK aa k v).length<=sizeLine:=by have:=zc8_ aa k v; lia
  refine wpAny_setItem_pairs (hsz:=hz) (zoi_ ry) dd fun h' gL hs=>h _ ?_
  have he:∃ q,h'.get? a=some q:=let ⟨q,_,_,hq,_⟩:=gL; ⟨q,hq⟩
  exact ziN_ I (by rw [e]; exact True.intro) hs he (zp9_ hl hd (rel.put k rv) gL)
 ·subst ey eH
  cases (show u=Value.ref b from ry)
  obtain ⟨z,hd,xs,rel,dd⟩:=dt_of I.hok e
  have hz:xs.length<=sizeLine:=by rw [<- Paired.length rel]; exact z
  have hl:(putK aa k v).length<=sizeLine:=by have:=zc8_ aa k v; lia
  refine wpAny_setItem_heap (hsz:=hz) (tupleKind_room_in1 hu) (zjp_ I.hok eb) dd fun h' gL hs=>h _ ?_
  obtain ⟨q,es,ep,hq,h2,h3,h4,_,h5⟩:=gL
  refine ziN_ I (by rw [e]; exact True.intro) hs ⟨q,hq⟩ ⟨hl,hd,_,(rel.put k eb rv).keeps fun c ys ec=>?_,q,es,ep,hq,h2,h3,h4,h5⟩
  rw [zI_ (ne_of ec e (fun z=>nomatch z))]
  exact ec
end
def NoSl (i:Expr):Prop:=∀ ov iv,subscripted i false ov iv=operate [ov,iv] (getItem ov iv)
theorem zpk_ {prog:Program}{w:World}{A:Around}{E:Value->Shared->Prop}{s:Shared}{env:Env}{value slice:Expr}{pos:Pos}{T id:String}{Q:Value->Shared->Prop}
  (hl:typeLookup (.type T) "__getitem__"=pure (some (.builtin id))) (hs:NoSl slice)
  (h:wpAny (model prog w) A (eval value env) (fun o av=>wpAny (model prog w) A (eval slice env) (fun i bo=>bo.TypeIs o T/\wpAny (model prog w) A (getItem o i) Q E bo) E av) E s):
  wpAny (model prog w) A (eval (.Subscript value slice pos) env) Q E s:=by
 refine Subscript_ (wpAny_mono h (fun o av bK=>wpAny_mono bK (fun i bo dA=>?_) fun _ _ x=>x) fun _ _ x=>x)
 obtain ⟨hT,dA⟩:=dA
 unfold subscriptTail
 refine wpAny_bind ?_
 rw [getitemInPython_of_ne hT.not_modules]
 refine wpAny_bind (wpAny_specialOf hT hl ?_)
 have fin:wpAny (model prog w) A (subscripted slice false o i) (fun r bI=>wpAny (model prog w) A (letTemporaryGo value o r>>=fun _=>pure r) Q E bI) E bo:=by
  rw [hs o i]
  exact wpAny_operating (wpAny_mono dA (fun r bI gr=>wpAny_bind (wpAny_letTemporaryGo (wpAny_pure gr))) fun _ _ x=>x)
 first
  | exact wpAny_pure (wpAny_bind fin)
  | exact wpAny_bind (wpAny_pure (wpAny_bind fin))
  | exact wpAny_bind fin
theorem ziw_ {X:Cx}{pins:Pnn}{σ:St}{H:Hp}{s:Shared}{a:Addr}{y:V}{o:Option V}(I:Inv X pins σ H s)(g:DGet H a y o):s.TypeIs (.ref a) "dict":=by
 rcases g with ⟨aa,k,e,_,_⟩ | ⟨aa,k,b,e,_,_,_⟩
 ·obtain ⟨_,_,vs,_,dd⟩:=zqf_ I.hok e
  exact dd.typeIs
 ·obtain ⟨_,_,xs,_,dd⟩:=zpJ_ I.hok e
  exact dd.typeIs
section
end
theorem ziK_ {P:Program}{w:World}{H:Hp}(h:Heap)(hb:sysModules<h.objs.size):ObjOk P w H (h.push { cls:=.type "dict",data:=.dict #[] }) h.objs.size (.dK []):=
 ⟨Nat.zero_le _,beq_eq_false_iff_ne.mpr (Ne.symm (Nat.ne_of_lt hb)),[],.nil,Heap.DictOf.new h⟩
def tDNewK:TE:=fun _ H Q=>∀ p,H p=none->Q (.ref p) (upd H p (.dK []))
section
variable {X:Cx}{pos:Pos}
theorem zi8_:PE X (.Dict [] [] pos) tDNewK:=fun pins s σ H Q I h =>
 wpAny_Dict_empty ⟨.ref s.heap.objs.size,_,I.laid (a:=s.heap.objs.size) (o:=.dK []) (t':=s.toks) (fun _ _ q=>Heap.get?_push_of_some _ q) (Nat.le_refl _) (ziK_ s.heap I.big),rfl,h _ (I.hok.fresh (Nat.le_refl _))⟩
end
def tPairs:List (TE×TE)->St->Hp->(List (V×V)->Hp->Prop)->Prop
 | [],_,H,Q=>Q [] H
 | (tk,tv)::r,σ,H,Q=>tk σ H fun x H1=>tv σ H1 fun y H2=>tPairs r σ H2 fun ps H3=>Q ((x,y)::ps) H3
abbrev VV:List (V×V)->List (Value×Value)->Prop:=Paired fun p q=>RelV p.1 q.1/\RelV p.2 q.2
def PPs (X:Cx)(pos:Pos)(keys:List (Option Expr))(values:List Expr)(cJ:List (TE×TE)):Prop:=
 ∀ (pins:Pnn) (s:Shared) (σ:St) (H:Hp) (Q:List (V×V)->Hp->Prop),Inv X pins σ H s->tPairs cJ σ H Q ->
  wpAny (model X.prog X.w) X.A (evalPairs (pairTrees keys values X.env pos)) (fun vs s'=>∃ ps H',Inv X pins σ H' s'/\VV ps vs/\Q ps H') X.xe s
theorem zlO_ {X:Cx}{pos:Pos}:PPs X pos [] [] []:=fun pins s σ H Q I h=>pairTrees_nil_walk ⟨[],H,I,.nil,h⟩
theorem zhk_ {X:Cx}{pos:Pos}{k v:Expr}{ks:List (Option Expr)}{vs:List Expr}{tk tv:TE}{cJ:List (TE×TE)}(hk:PE X k tk)(hv:PE X v tv)(hr:PPs X pos ks vs cJ):
  PPs X pos (some k::ks) (v::vs) ((tk,tv)::cJ):=fun pins s σ H Q I h =>
 pairTrees_cons_walk (thn (hk pins s σ H _ I h) fun u s1 ⟨x,H1,I1,rx,q1⟩=>thn (hv pins s1 σ H1 _ I1 q1) fun w2 s2 ⟨y,H2,I2,ry,q2⟩ =>
  thn (hr pins s2 σ H2 _ I2 q2) fun ws s3 ⟨ps,H3,I3,rel,q3⟩=>⟨(x,y)::ps,H3,I3,.cons ⟨rx,ry⟩ rel,q3⟩)
def mergeK (aa more:List (Key×V)):List (Key×V):=more.foldl (fun acc kv=>putK acc kv.1 kv.2) aa
theorem KV.merge:∀ {more:List (Key×V)}{rs:List (Key×Value)}{aa:List (Key×V)}{vs:List (Key×Value)},KV more rs->KV aa vs->KV (mergeK aa more) (merged vs rs):=by
 intro more rs aa vs r
 unfold KV at r
 induction r generalizing aa vs with
 | nil=>intro q; exact q
 | @cons p q ps qs h t ih =>
  intro r0
  have e:KV (putK aa p.1 p.2) (stored vs q.1 q.2):=by
   have:=r0.put p.1 h.2
   rw [<- h.1]; exact this
  exact ih e
theorem zdt_:∀ (more aa:List (Key×V)),(mergeK aa more).length<=aa.length+more.length
 | [],aa=>by show aa.length<=aa.length+0; lia
 | p::r,aa=>by
  have h1:=zdt_ r (putK aa p.1 p.2)
  have h2:=zc8_ aa p.1 p.2
  show (mergeK (putK aa p.1 p.2) r).length<=_
  rw [List.length_cons]; lia
theorem zfK_ {P:Program}{w:World}:∀ {aa:List (Key×V)}{ws:List (Value×Value)},VV (aa.map fun kv=>(kV kv.1,kv.2)) ws->∃ rs,Carries (mixKind P w) ws rs/\KV aa rs
 | [],_,r=>by rw [List.map_nil] at r; cases r; exact ⟨[],True.intro,.nil⟩
 | p::aa,_,r=>by
  rw [List.map_cons] at r
  cases r with
  | @cons a b as bs h t =>
   obtain ⟨rs,c,q⟩:=zfK_ (P:=P) (w:=w) t
   obtain ⟨b1,b2⟩:=b
   exact ⟨(p.1,b2)::rs,⟨zoi_ h.1,rfl,c⟩,.cons ⟨rfl,h.2⟩ q⟩
def tDisp (cJ:List (TE×TE)):TE:=fun σ H Q=>∀ p,H p=none->tPairs cJ σ (upd H p (.dK [])) fun ps H2=>H2 p=some (.dK [])/\∃ aa:List (Key×V),ps=aa.map (fun kv=>(kV kv.1,kv.2))/\aa.length<=15/\Q (.ref p) (upd H2 p (.dK (mergeK [] aa)))
theorem zl7_ {X:Cx}{pos:Pos}{keys:List (Option Expr)}{values:List Expr}{cJ:List (TE×TE)}(h:PPs X pos keys values cJ)(eF:keys.all (·.isSome)=true)(hl:keys.length=values.length)(h0:keys≠[])
  (oh:keys.length<=15):PE X (.Dict keys values pos) (tDisp cJ):=by
 intro pins s σ H Q I q
 have hn:=I.hok.fresh (Nat.le_refl s.heap.objs.size)
 have I1:=I.laid (a:=s.heap.objs.size) (o:=.dK []) (h':=s.heap.push { cls:=.type "dict",data:=.dict #[] }) (t':=s.toks) (fun _ _ q=>Heap.get?_push_of_some _ q) (Nat.le_refl _) (ziK_ s.heap I.big)
 refine wpAny_Dict_walk (knd:=mixKind X.prog X.w) eF hl h0 oh (thn (h pins _ σ _ _ I1 (q _ hn)) fun ws s2 ao=>?_)
 obtain ⟨ps,H2,I2,rel,e,aa,ep,lk,q2⟩:=ao
 subst ep
 obtain ⟨rs,c,rk⟩:=zfK_ (P:=X.prog) (w:=X.w) rel
 obtain ⟨z,hd,vs0,r0,dd⟩:=dk_of I2.hok e
 cases r0
 refine ⟨rs,c,dd,fun h' gL hs=>⟨.ref s.heap.objs.size,_,?_,rfl,q2⟩⟩
 have hz:(mergeK [] aa).length<=sizeLine:=by
  have h1:=zdt_ aa []
  rw [List.length_nil] at h1
  rw [sizeLine_eq]; lia
 have he:∃ q,h'.get? s.heap.objs.size=some q:=let ⟨q,_,_,hq,_⟩:=gL; ⟨q,hq⟩
 exact ziN_ I2 (by rw [e]; exact True.intro) hs he (zp9_ hz hd (rk.merge .nil) gL)
section
end
section
namespace L2
open PySem PySem.Spec PyProof.Rows
section
end
section
variable {κ:Type}[DecidableEq κ]
end
end L2
end
section
variable {X:Cx}
def insV (xs:List V)(k:Nat)(y:V):List V:=xs.take k++y::xs.drop k
def mInsert:V->List V->Hp->VK->Prop:=fun x vs H Q=>match x,vs with
 | .ref l,[.int i,y]=>∃ xs,H l=some (.lst xs)/\xs.length<sizeLine/\(0<=i/\i<2 ^ 62)/\Q .non (upd H l (.lst (insV xs (min i.toNat xs.length) y)))
 | _,_=>False
theorem zli_:MtR X "list.insert" mInsert:=by
 intro pins s σ H x vs v us Q I rx rv h
 unfold mInsert at h
 split at h
 ·rename_i l i y
  obtain ⟨xs,hH,hz,⟨h0,h1⟩,q⟩:=h
  cases rx
  obtain ⟨u1,u2,rfl,⟨t,rfl⟩,r2⟩:=vals2 rv
  obtain ⟨z,ai,n,r,hl,e⟩:=I.lstM hH
  have gE:¬ (!Builtin.List.listFitsIndex i)=true:=by
   unfold Builtin.List.listFitsIndex
   simp
   lia
  refine call_meets F.slot_list_insert ⟨_,e,rfl⟩ F.entry_list_insert (F.args_list_insert_3 _ _ _) (AutoSeq1.list_insert_list_int_val_1 l ai.toArray n i t u2 gE (by rw [List.size_toArray]; lia)) ⟨e,?_⟩
  have hk:(if i<0 then (i+(ai.toArray.size:Int)).toNat else min i.toNat ai.toArray.size)=min i.toNat xs.length:=by
   rw [if_neg (by lia),List.size_toArray,hl]
  refine ⟨.non,_,I.lset (its':=ai.take (min i.toNat xs.length)++u2::ai.drop (min i.toNat xs.length)) hH e ?_ ((r.take _).append (.cons r2 (r.drop _))) ?_,rfl,q⟩
  ·show ((ai.toArray.extract 0 (if i<0 then (i+(ai.toArray.size:Int)).toNat else min i.toNat ai.toArray.size)).push u2++ai.toArray.extract (if i<0 then (i+(ai.toArray.size:Int)).toNat else min i.toNat ai.toArray.size))=_
   rw [hk]
   simp
   exact List.take_of_length_le (by rw [List.length_drop]; lia)
  ·rw [List.length_append,List.length_cons,List.length_take,List.length_drop]
   lia
 ·exact h.elim
end
def Itz (K:Fgg)(l m:Addr):It:=
 ⟨fun i H=>∃ xs ys x y,SqL K H l xs/\SqL K H m ys/\xs[i]?=some x/\ys[i]?=some y,
  fun i H v H'=>∃ p x y,(∀ xs,SqL K H l xs->xs[i]?=some x)/\(∀ ys,SqL K H m ys->ys[i]?=some y)/\H p=none/\v=.ref p/\H'=upd H p (.tup [x,y]),
  fun i H=>∃ xs ys,SqL K H l xs/\SqL K H m ys/\(xs.length<=i\/ys.length<=i)⟩
theorem znz_ {P:Program}{w:World}{K:Fgg}{elts:List Expr}{kk:Nat}{pos:Pos}(z TI TO i1 i2 l m:Addr)(D:ZipApart z TI TO i1 i2 l m):
  Turn P w K (.Tuple elts kk pos) (Itz K l m) [z,TI,TO,i1,i2] z (fun i h=>IsZip h z TI TO .none/\IsPair h TI (.ref i1) (.ref i2)/\(∃ a b,IsPair h TO a b)/\h.IsListIter i1 l i/\h.IsListIter i2 m i) where
 mem:=by simp
 obj:=fun i h st b hb=>by
  obtain ⟨hz,eG,⟨a,c,e6⟩,⟨o1,ho1,c1,d1⟩,⟨o2,ho2,c2,d2⟩⟩:=st
  rcases List.mem_cons.mp hb with rfl | hb
  ·exact ⟨_,hz,fun v z=>by cases z⟩
  rcases List.mem_cons.mp hb with rfl | hb
  ·exact ⟨_,eG,fun v z=>by cases z⟩
  rcases List.mem_cons.mp hb with rfl | hb
  ·exact ⟨_,e6,fun v z=>by cases z⟩
  rcases List.mem_cons.mp hb with rfl | hb
  ·exact ⟨o1,ho1,fun v z=>by rw [d1] at z; cases z⟩
  ·have e:b=i2:=by simpa using hb
   subst e
   exact ⟨o2,ho2,fun v z=>by rw [d2] at z; cases z⟩
 keep:=fun i h h' st k=>by
  obtain ⟨hz,eG,⟨a,c,e6⟩,h1,h2⟩:=st
  exact ⟨k z (by simp) _ hz,k TI (by simp) _ eG,⟨a,c,k TO (by simp) _ e6⟩,h1.at fun o q=>k i1 (by simp) o q,h2.at fun o q=>k i2 (by simp) o q⟩
 item:=by
  intro X hP hw hK hc i pins s σ H E I hf st hg
  subst hP hw hK
  obtain ⟨xs,ys,x,y,hq,hq2,hx,hy⟩:=hg
  obtain ⟨ai,rv,p,hz0⟩:=I.list hq
  obtain ⟨aM,rv2,p2,lj⟩:=I.list hq2
  obtain ⟨u,hu,ru⟩:=rv.get hx
  obtain ⟨v,hv,dw⟩:=rv2.get hy
  obtain ⟨hz,eG,⟨a,c,e6⟩,h1,h2⟩:=st
  have lt:∀ {c o},s.heap.get? c=some o->c<s.heap.objs.size:=fun e=>Heap.lt_size e
  have lz:=lt hz
  have pZ:=lt eG
  have pY:=lt e6
  have l1:i1<s.heap.objs.size:=by obtain ⟨o,e,_⟩:=id h1; exact lt e
  have l2:i2<s.heap.objs.size:=by obtain ⟨o,e,_⟩:=id h2; exact lt e
  refine wpAny_pyNext_zip_item D hz eG e6 h1 h2 p.isList p2.isList (x:=u) (y:=v) (by simpa using hu) (by simpa using hv) fun h3 z3 r9 kZ kY pI r_ nS=>?_
  refine ⟨_,rfl,?_⟩
  refine wpAny_letOwnedTupleGo_zip z3 fun h4 z4 gx=>?_
  replace gx:Heap.SameBut z h3 h4:=gx
  have hp:H s.heap.objs.size=none:=I.hok.fresh (Nat.le_refl _)
  have I1:Inv X pins σ (upd H s.heap.objs.size (.tup [x,y])) { s with heap:=s.heap.push { cls:=.type "tuple",data:=.seq #[u,v] },toks:=s.toks }:=by
   refine I.laid (fun b u q=>Heap.get?_push_of_some _ q) (Nat.le_refl _) ⟨?_,[u,v],.cons ru (.cons dw .nil),⟨_,Heap.get?_push_size _ rfl,rfl,_,rfl⟩⟩
   show 2<=sizeLine
   decide
  have bw:∀ b∈[z,TI,TO,i1,i2],b<s.heap.objs.size:=fun b hb=>by
   rcases List.mem_cons.mp hb with rfl | hb
   ·exact lz
   rcases List.mem_cons.mp hb with rfl | hb
   ·exact pZ
   rcases List.mem_cons.mp hb with rfl | hb
   ·exact pY
   rcases List.mem_cons.mp hb with rfl | hb
   ·exact l1
   ·have e:b=i2:=by simpa using hb
    rw [e]; exact l2
  have je:∀ b∈[z,TI,TO,i1,i2],FpOk X pins (upd H s.heap.objs.size (.tup [x,y])) b:=fun b hb=>by
   obtain ⟨f0,r⟩:=hf b hb
   refine ⟨?_,r⟩
   rw [zI_ (Nat.ne_of_lt (bw b hb))]
   exact f0
  have I2:Inv X pins σ (upd H s.heap.objs.size (.tup [x,y])) { s with heap:=h4,toks:=s.toks }:=by
   refine Inv.turnedL (s:={ s with heap:=s.heap.push { cls:=.type "tuple",data:=.seq #[u,v] },toks:=s.toks }) (ch:=[z,TI,TO,i1,i2]) I1 (fun b o hb q=>?_) je
   have n1:b≠z:=fun e=>hb (by simp [e])
   have n2:b≠TO:=fun e=>hb (by simp [e])
   have n3:b≠i1:=fun e=>hb (by simp [e])
   have n4:b≠i2:=fun e=>hb (by simp [e])
   refine (gx.2 b n1).trans ?_
   rcases Heap.get?_push_cases q with ⟨rfl,rfl⟩ | q'
   ·exact pI
   ·exact nS b o n1 n2 n3 n4 q'
  refine ⟨.ref s.heap.objs.size,_,I2,rfl,⟨s.heap.objs.size,x,y,fun zs iV=>by rw [I.list_inj iV hq]; exact hx,fun zs iV=>by rw [I.list_inj iV hq2]; exact hy,hp,rfl,rfl⟩,⟨z4,?_,⟨u,v,?_⟩,?_,?_⟩,fun b hb=>(je b hb).1⟩
  ·exact (gx.2 TI D.TIz).trans (nS TI _ D.TIz D.TITO D.TIi1 D.TIi2 eG)
  ·exact (gx.2 TO D.TOz).trans r9
  ·exact kZ.extBut gx.extBut D.i1z
  ·exact kY.extBut gx.extBut D.i2z
 done:=by
  intro X hP hw hK hc i pins s σ H E I hf st hg
  subst hP hw hK
  obtain ⟨xs,ys,hq,hq2,hx⟩:=hg
  obtain ⟨ai,rv,p,hz0⟩:=I.list hq
  obtain ⟨aM,rv2,p2,lj⟩:=I.list hq2
  obtain ⟨hz,eG,⟨a,c,e6⟩,h1,h2⟩:=st
  have hl:=rv.length
  have jX:=rv2.length
  refine wpAny_pyNext_zip_end (I.ok.hd hc) D hz eG e6 h1 h2 p.isList p2.isList ?_ fun h' eb=>⟨rfl,?_⟩
  ·rcases hx with hx | hx
   ·exact .inl (by simp; lia)
   ·exact .inr (by simp; lia)
  ·refine Inv.turnedL (s:=s) (t':=s.toks) (ch:=[z,TI,TO,i1,i2]) I (fun b o hb q=>eb b o (fun e=>hb (by simp [e])) (fun e=>hb (by simp [e])) (fun e=>hb (by simp [e])) (fun e=>hb (by simp [e])) q) hf
 self:=fun _ _ _ _ _ st h=>wpAny_pyIter_zip st.1 h
theorem zk2_ {N l m:Nat}(hl:l<N)(hm:m<N):ZipApart (N+4) (N+2) (N+3) N (N+1) l m:=by
 constructor<;>(intro e; have e':(_:Nat)=_:=congrArg (fun x:Nat=>x) e; lia)
section
variable {X:Cx}{elts:List Expr}{kk:Nat}{gn:Pos}
def iZip (K:Fgg)(ta:TA):TI:=fun σ H R=>ta σ H fun vs H1=>match vs with
 | [.ref a,.ref b]=>(∃ xs,SqL K H1 a xs)/\(∃ ys,SqL K H1 b ys)/\R (Itz K a b) H1
 | _=>False
theorem zqD_ {a b:Expr}{ta:TA}{p pos:Pos}(hm:Gb X.mg "zip")(ha:PA X [a,b] ta)(hg:Gl X "zip":=by rfl)(hs:starEach [a,b] X.env=[(false,eval a X.env),(false,eval b X.env)]:=by rfl)(bP:starEach [b] X.env=[(false,eval b X.env)]:=by rfl):
  PI X (.Tuple elts kk gn) (.Call (.Name "zip" p) [a,b] [] pos) (iZip X.K ta):=by
 intro pins s σ H R I h
 refine Call_ (zgM_ I hg hm (u:=.type "zip") (by rfl) (PyProof.Rows.callWith_type1 (thn (ha pos pins s σ H _ I h) fun us s1 ao=>?_) (by rw [hs,bP]) (by rw [bP]; rfl)))
 obtain ⟨vs,H1,I1,r1,q1⟩:=ao
 try dsimp only at q1
 split at q1
 ·rename_i l m
  obtain ⟨⟨xs,hq⟩,⟨ys,hq2⟩,q⟩:=q1
  cases r1 with
  | cons r rr =>
   cases rr with
   | cons r' rr =>
    cases rr
    cases r
    cases r'
    obtain ⟨ai,rv,p1,hz⟩:=I1.list hq
    obtain ⟨aM,rv2,p2,lj⟩:=I1.list hq2
    refine call_zip_2 p1.isList p2.isList fun h' nO eG e6 h1 h2 hsz hk=>?_
    refine wpAny_pyIter_zip (s:={ s1 with heap:=h' }) nO ?_
    have I2:Inv X pins σ H1 { s1 with heap:=h' }:=I1.kept (t':=s1.toks) hk
    have la:l<s1.heap.objs.size:=by obtain ⟨o,e,_⟩:=p1.isList; exact Heap.lt_size e
    have lb:m<s1.heap.objs.size:=by obtain ⟨o,e,_⟩:=p2.isList; exact Heap.lt_size e
    have DD:ZipApart (s1.heap.objs.size+4) (s1.heap.objs.size+2) (s1.heap.objs.size+3) s1.heap.objs.size (s1.heap.objs.size+1) l m:=by
     exact zk2_ la lb
    refine ⟨s1.heap.objs.size+4,[s1.heap.objs.size+4,s1.heap.objs.size+2,s1.heap.objs.size+3,s1.heap.objs.size,s1.heap.objs.size+1],_,_,H1,rfl,I2,znz_ _ _ _ _ _ l m DD,⟨nO,eG,⟨_,_,e6⟩,h1,h2⟩,fun b hb=>?_,q⟩
    have f_:s1.heap.objs.size<=b:=by
     simp only [List.mem_cons,List.not_mem_nil,or_false] at hb
     rcases hb with rfl | rfl | rfl | rfl | rfl
     ·exact Nat.le_add_right _ _
     ·exact Nat.le_add_right _ _
     ·exact Nat.le_add_right _ _
     ·exact Nat.le_refl _
     ·exact Nat.le_add_right _ _
    exact I1.fpOk f_ (I1.hok.fresh f_)
 ·exact q1.elim
end
def keyV:V->Option Key
 | .int i=>some (.inl i)
 | .str z=>some (.inr z)
 | _=>none
theorem zpi_ {y:V}{k:Key}(h:keyV y=some k):y=kV k:=by
 cases y<;>first | (cases h; rfl) | cases h
def atD (x y:V)(H:Hp)(R:Addr->List (Key×V)->Key->Prop):Prop:=match x with
 | .ref a=>(match keyV y with | some k=>∃ aa,H a=some (.dK aa)/\R a aa k | none=>False)
 | _=>False
theorem zld_ {x y:V}{H:Hp}{R:Addr->List (Key×V)->Key->Prop}(h:atD x y H R):∃ a aa k,x=.ref a/\y=kV k/\H a=some (.dK aa)/\R a aa k:=by
 unfold atD at h
 cases x with
 | ref a =>
  cases e:keyV y with
  | none=>rw [e] at h; exact h.elim
  | some k =>
   rw [e] at h
   obtain ⟨aa,h1,h2⟩:=h
   exact ⟨a,aa,k,rfl,zpi_ e,h1,h2⟩
 | _=>exact h.elim
def mDGet (td ty:TE):TE:=fun σ H Q=>td σ H fun x H1=>ty σ H1 fun y H2=>atD x y H2 fun _ aa k=>∃ v,valV aa k=some v/\Q v H2
def mDIn (neg:Bool)(ty td:TE):TE:=fun σ H Q=>ty σ H fun y H1=>td σ H1 fun x H2=>atD x y H2 fun _ aa k=>Q (.bl (if neg then !(valV aa k).isSome else (valV aa k).isSome)) H2
def mDPut (td ty tv:TE):TS:=fun D σ H=>tv σ H fun v H1=>td σ H1 fun x H2=>ty σ H2 fun y H3=>atD x y H3 fun a aa k=>aa.length<sizeLine/\D.nx σ (upd H3 a (.dK (putK aa k v)))
section
variable {X:Cx}{o i value:Expr}{pos pos':Pos}{td ty tv:TE}
theorem znR_ (hu:X.A.units+60<cLine)(ho:PE X o td)(hi:PE X i ty)(hs:NoSl i:=by exact fun _ _=>rfl):PE X (.Subscript o i pos) (mDGet td ty):=by
 intro pins s σ H Q I h
 refine zpk_ PySem.F.slot_dict_getitem.lookup hs (thn (ho pins s σ H _ I h) fun u s1 ⟨x,H1,I1,rx,q1⟩=>thn (hi pins s1 σ H1 _ I1 q1) fun iv s2 ao=>?_)
 obtain ⟨y,H2,I2,ry,q2⟩:=ao
 obtain ⟨a,aa,k,rfl,rfl,hd,v,hv,q⟩:=zld_ q2
 obtain rfl:u=Value.ref a:=rx
 have g:DGet H2 a (kV k) (some v):=by rw [<- hv]; exact DGet.k hd
 exact ⟨ziw_ I2 g,zk1_ (by lia) I2 g ry fun w' s3 I3 dw=>⟨v,H2,I3,dw,q⟩⟩
theorem zpW_ (hu:X.A.units+60<cLine)(hi:PE X i ty)(ho:PE X o td):PC X .In i o (mDIn false ty td):=by
 intro pins s σ H Q I h
 refine thn (hi pins s σ H _ I h) fun iv s1 ⟨y,H1,I1,ry,q1⟩=>thn (ho pins s1 σ H1 _ I1 q1) fun u s2 ao=>?_
 obtain ⟨x,H2,I2,rx,q2⟩:=ao
 obtain ⟨a,aa,k,rfl,rfl,hd,q⟩:=zld_ q2
 obtain rfl:u=Value.ref a:=rx
 exact d_in (by lia) I2 (DGet.k (k:=k) hd) ry fun s3 I3=>⟨.bl (valV aa k).isSome,H2,I3,rfl,q⟩
theorem zi2_ (hu:X.A.units+60<cLine)(hi:PE X i ty)(ho:PE X o td):PC X .NotIn i o (mDIn true ty td):=by
 intro pins s σ H Q I h
 refine thn (hi pins s σ H _ I h) fun iv s1 ⟨y,H1,I1,ry,q1⟩=>thn (ho pins s1 σ H1 _ I1 q1) fun u s2 ao=>?_
 obtain ⟨x,H2,I2,rx,q2⟩:=ao
 obtain ⟨a,aa,k,rfl,rfl,hd,q⟩:=zld_ q2
 obtain rfl:u=Value.ref a:=rx
 exact zoV_ (by lia) I2 (DGet.k (k:=k) hd) ry fun s3 I3=>⟨.bl (!(valV aa k).isSome),H2,I3,rfl,q⟩
theorem ziM_ (hu:X.A.units+60<cLine)(hi:PE X i ty)(ho:PE X o td)(h1:behindInMarks .In o=false:=by rfl):PE X (.Compare i [.In] [o] pos) (mDIn false ty td):=zqp_ (zpW_ hu hi ho) h1
theorem zjK_ (hu:X.A.units+60<cLine)(ho:PE X o td)(hi:PE X i ty)(hv:PE X value tv)(hs:swapsWith value (some (.Subscript o i pos')) pos.line X.env=pure false:=by rfl):
  PS X (.Assign [.Subscript o i pos'] value pos) (mDPut td ty tv):=by
 intro pins s σ H D I h
 refine wpAny_Assign_Subscript (thn (hv pins s σ H _ I h) fun r s1 ⟨v,H1,I1,rv,q1⟩=>thn (ho pins s1 σ H1 _ I1 q1) fun u s2 ⟨x,H2,I2,rx,q2⟩=>thn (hi pins s2 σ H2 _ I2 q2) fun iv s3 ao=>?_) hs
 obtain ⟨y,H3,I3,ry,q3⟩:=ao
 obtain ⟨a,aa,k,rfl,rfl,hd,hl,q⟩:=zld_ q3
 obtain rfl:u=Value.ref a:=rx
 exact zls_ (by lia) I3 (DPut.k hd hl) ry rv fun s4 I4=>⟨σ,_,I4,q⟩
theorem znU_ {op:CmpOp}{a b:Expr}{t:TE}(h:PC X op a b t)(h1:behindInMarks op b=false):PT X (.Compare a [op] [b] pos) (mTest t):=by
 intro pins s σ H Q I hw
 refine wpAny_isTrue_Compare1 (thn (h pins s σ H _ I hw) fun v s1 q=>thn q fun u s2 q=>thn q fun c s3 ao=>?_) h1
 obtain ⟨x,H1,I1,r,q⟩:=ao
 cases x with
 | bl k=>cases r; exact wpAny_truthy_bool ⟨H1,I1,q⟩
 | _=>exact q.elim
theorem ziS_ (hu:X.A.units+60<cLine)(hi:PE X i ty)(ho:PE X o td)(h1:behindInMarks .NotIn o=false:=by rfl):PT X (.Compare i [.NotIn] [o] pos) (mTest (mDIn true ty td)):=znU_ (zi2_ hu hi ho) h1
end
inductive Av where
 | i (n:Int) | p (a b:Int)
inductive Xc where
 | pl (c:String) | at (c:String) (as:List (Str×Av))
instance:Coe String Xc:=⟨Xc.pl⟩
inductive Mo (α:Type) where
 | ok (a:α) | ex (c:Xc) | no
namespace Mo
variable {α β:Type}
def bind (x:Mo α)(f:α->Mo β):Mo β:=match x with | .ok a=>f a | .ex c=>.ex c | .no=>.no
theorem ok_bind (a:α)(f:α->Mo β):(Mo.ok a).bind f=f a:=rfl
def noex (x:Mo α):Mo α:=match x with | .ok a=>.ok a | _=>.no
def lim (n:Nat)(k:Mo α):Mo α:=if n<=sizeLine then k else .no
theorem lim_ok {n:Nat}{k:Mo α}(h:n<=100000):lim n k=k:=if_pos (zeg_ h)
def grd (p:Prop)[Decidable p](k:Mo α):Mo α:=if p then k else .no
theorem grd_ok {p:Prop}[Decidable p]{k:Mo α}(h:p):grd p k=k:=if_pos h
def opt (x:Option α):Mo α:=match x with | some a=>.ok a | none=>.no
end Mo
def un (F h:Hp):Hp:=fun p=>match F p with | some o=>some o | none=>h p
def Dj (F h:Hp):Prop:=∀ p,F p=none\/h p=none
def Jn (h1 h2 h:Hp):Prop:=∀ p,(h1 p=none/\h p=h2 p)\/(h2 p=none/\h p=h1 p)
def Ext (F H F' H':Hp):Prop:=Same F F'/\Same F' H'/\Same H H'/\∀ p,F p=none->F' p≠none->H p=none
theorem Ext.refl {F H:Hp}(h:Same F H):Ext F H F H:=⟨Same.refl _,h,Same.refl _,fun p a b=>absurd a b⟩
theorem Ext.trans {F H F1 H1 F2 H2:Hp}(a:Ext F H F1 H1)(b:Ext F1 H1 F2 H2):Ext F H F2 H2:=by
 obtain ⟨a1,a2,a3,a4⟩:=a
 obtain ⟨b1,b2,b3,b4⟩:=b
 refine ⟨a1.trans b1,b2,a3.trans b3,fun p hp hq=>?_⟩
 cases e:F1 p with
 | none=>exact a3.free (b4 p e hq)
 | some o=>exact a4 p hp (by rw [e]; exact sN _)
theorem Ext.heap {F H H':Hp}(h:Same F H)(g:Same H H'):Ext F H F H':=⟨Same.refl _,h.trans g,g,fun p a b=>absurd a b⟩
theorem Ext.new {F H:Hp}(h:Same F H){p:Addr}{o:HO}(hp:H p=none):Ext F H (upd F p o) (upd H p o):=by
 refine ⟨zbf_ (h.free hp) _,fun b u e=>?_,zbf_ hp _,fun q a b=>?_⟩
 ·unfold upd at e ⊢
  split
  ·rename_i z; rw [if_pos z] at e; exact e
  ·rename_i z; rw [if_neg z] at e; exact h _ _ e
 ·unfold upd at b
  split at b
  ·rename_i z; rw [z]; exact hp
  ·exact absurd a b
structure Ty (α:Type) where
 R:α->V->Hp->Prop
 mono:∀ {a v H H'},Same H H'->R a v H->R a v H'
def Tups (H H':Hp):Prop:=∀ p xs,H p=some (.tup xs)->H' p=some (.tup xs)
theorem Same.tups {H H':Hp}(h:Same H H'):Tups H H':=fun p xs e=>h _ _ e
def Imm {α:Type}(T:Ty α):Prop:=∀ {a v H H'},Tups H H'->T.R a v H->T.R a v H'
abbrev tyInt:Ty Int:=⟨fun a v _=>v=.int a,fun _ h=>h⟩
abbrev tyStr:Ty (List Nat):=⟨fun a v _=>v=tx a,fun _ h=>h⟩
abbrev tyBl:Ty Bool:=⟨fun a v _=>v=.bl a,fun _ h=>h⟩
abbrev tyNon:Ty Unit:=⟨fun _ v _=>v=.non,fun _ h=>h⟩
theorem zi_:Imm tyInt:=fun _ h=>h
theorem zj_:Imm tyStr:=fun _ h=>h
theorem zz_:Imm tyBl:=fun _ h=>h
theorem zgm_:Imm tyNon:=fun _ h=>h
abbrev tyOpt {α:Type}(T:Ty α):Ty (Option α):=⟨fun a v H=>match a with | none=>v=.non | some x=>T.R x v H/\v≠.non,fun {a v H H'} g h=>by cases a with | none=>exact h | some x=>exact ⟨T.mono g h.1,h.2⟩⟩
theorem zak_ {α:Type}{T:Ty α}(i:Imm T):Imm (tyOpt T):=fun {a v H H'} g h=>by cases a with | none=>exact h | some x=>exact ⟨i g h.1,h.2⟩
structure Cs (γ:Type) where
 R:γ->List V->Hp->Prop
 mono:∀ {c vs H H'},Same H H'->R c vs H->R c vs H'
def ImmC {γ:Type}(C:Cs γ):Prop:=∀ {c vs H H'},Tups H H'->C.R c vs H->C.R c vs H'
abbrev csNil:Cs Unit:=⟨fun _ vs _=>vs=[],fun _ h=>h⟩
abbrev csLast {α:Type}(T:Ty α):Cs α:=⟨fun a vs H=>∃ v,vs=[v]/\T.R a v H,fun g ⟨v,e,h⟩=>⟨v,e,T.mono g h⟩⟩
abbrev csCons {α γ:Type}(T:Ty α)(C:Cs γ):Cs (α×γ):=⟨fun a vs H=>∃ v us,vs=v::us/\T.R a.1 v H/\C.R a.2 us H,fun g ⟨v,us,e,h,q⟩=>⟨v,us,e,T.mono g h,C.mono g q⟩⟩
theorem zB_ {α:Type}{T:Ty α}(i:Imm T):ImmC (csLast T):=fun g ⟨v,e,h⟩=>⟨v,e,i g h⟩
theorem zF_ {α γ:Type}{T:Ty α}{C:Cs γ}(i:Imm T)(j:ImmC C):ImmC (csCons T C):=fun g ⟨v,us,e,h,q⟩=>⟨v,us,e,i g h,j g q⟩
abbrev tyTup {γ:Type}(C:Cs γ):Ty γ:=⟨fun c v H=>∃ p us,v=.ref p/\H p=some (.tup us)/\C.R c us H,fun g ⟨p,us,e,h,q⟩=>⟨p,us,e,g _ _ h,C.mono g q⟩⟩
theorem zao_ {γ:Type}{C:Cs γ}(i:ImmC C):Imm (tyTup C):=fun g ⟨p,us,e,h,q⟩=>⟨p,us,e,g _ _ h,i g q⟩
abbrev Prs {α:Type}(T:Ty α)(H:Hp)(xs:List α)(vs:List V):Prop:=Paired (fun x v=>T.R x v H) xs vs
theorem zbs_ {α β:Type}{R R':α->β->Prop}(h:∀ a b,R a b->R' a b):∀ {xs:List α}{ys:List β},Paired R xs ys->Paired R' xs ys
 | _,_,.nil=>.nil
 | _,_,.cons a t=>.cons (h _ _ a) (zbs_ h t)
theorem Prs.mono {α:Type}{T:Ty α}{H H':Hp}{xs:List α}{vs:List V}(g:Same H H')(h:Prs T H xs vs):Prs T H' xs vs:=zbs_ (fun _ _ r=>T.mono g r) h
theorem Prs.imm {α:Type}{T:Ty α}(i:Imm T){H H':Hp}{xs:List α}{vs:List V}(g:Tups H H')(h:Prs T H xs vs):Prs T H' xs vs:=zbs_ (fun _ _ r=>i g r) h
abbrev tyL {α:Type}(T:Ty α):Ty (List α):=⟨fun xs v H=>∃ p vs,v=.ref p/\H p=some (.lst vs)/\Prs T H xs vs,fun g ⟨p,vs,e,h,q⟩=>⟨p,vs,e,g _ _ h,q.mono g⟩⟩
abbrev tySc (K:Fgg):Ty (List Int):=⟨fun xs v H=>∃ p,v=.ref p/\SqL K H p (xs.map V.int),fun g ⟨p,e,h⟩=>⟨p,e,g.seq h⟩⟩
structure Own (α:Type) where
 O:α->V->Hp->Hp->Prop
 fr:Ty α
 mono:∀ {a v F F' h},Same F F'->O a v F h->O a v F' h
 frz:∀ {a v F h},Dj F h->O a v F h->fr.R a v (un F h)
 notup:∀ {a v F h},O a v F h->∀ p xs,h p≠some (.tup xs)
def ImmO {α:Type}(O:Own α):Prop:=∀ {a v F F' h},Tups F F'->O.O a v F h->O.O a v F' h
theorem zO_ {F h:Hp}:Same F (un F h):=fun p o e=>by unfold un; rw [e]
theorem zg6_ {F h:Hp}(d:Dj F h):Same h (un F h):=fun p o e=>by
 unfold un
 rcases d p with z | z
 ·rw [z]; exact e
 ·rw [z] at e; cases e
abbrev owF {α:Type}(T:Ty α):Own α:=⟨fun a v F h=>(∀ p,h p=none)/\T.R a v F,T,fun g ⟨e,h⟩=>⟨e,T.mono g h⟩,fun _ ⟨_,h⟩=>T.mono zO_ h,fun ⟨e,_⟩ p xs z=>by rw [e] at z; cases z⟩
theorem zs_ {α:Type}{T:Ty α}(i:Imm T):ImmO (owF T):=fun g ⟨e,h⟩=>⟨e,i g h⟩
def one (p:Addr)(o:HO):Hp:=fun q=>if q=p then some o else none
theorem z9_ {p:Addr}{o:HO}:one p o p=some o:=if_pos rfl
abbrev owL {α:Type}(T:Ty α):Own (List α):=⟨fun xs v F h=>∃ p vs,v=.ref p/\h=one p (.lst vs)/\Prs T F xs vs,tyL T,fun g ⟨p,vs,e,z,q⟩=>⟨p,vs,e,z,q.mono g⟩,
 fun d ⟨p,vs,e,z,q⟩=>⟨p,vs,e,zg6_ d _ _ (by rw [z]; exact z9_),q.mono zO_⟩,
 fun ⟨p,vs,e,z,q⟩ b xs y=>by rw [z] at y; unfold one at y; split at y<;>cases y⟩
theorem zH_ {α:Type}{T:Ty α}(i:Imm T):ImmO (owL T):=fun g ⟨p,vs,e,z,q⟩=>⟨p,vs,e,z,q.imm i g⟩
inductive Sl:Type 1 where
 | dead
 | fz {α:Type}(T:Ty α) (a:α)
 | ow {α:Type}(O:Own α) (a:α)
def Sl.P:Sl->Option V->Hp->Hp->Prop
 | .dead,_,_,_=>True
 | .fz T a,o,F,_=>∃ v,o=some v/\T.R a v F
 | .ow O a,o,F,h=>∃ v,o=some v/\O.O a v F h
def Sl.Z:Sl->Option V->Hp->Prop
 | .dead,_,_=>True
 | .fz T a,o,F=>∃ v,o=some v/\T.R a v F
 | .ow O a,o,F=>∃ v,o=some v/\O.fr.R a v F
def Sl.cold:Sl->Sl
 | .ow _ _=>.dead
 | s=>s
def Hold:List Sl->St->Hp->Hp->Prop
 | [],[],_,_=>True
 | s::L,o::σ,F,h=>∃ h1 h2,Jn h1 h2 h/\s.P o F h1/\Hold L σ F h2
 | _,_,_,_=>False
def HoldF (L:List Sl)(σ:St)(F:Hp):Prop:=∀ (i:Nat) (s:Sl),L[i]?=some s->s.Z (σ[i]?.join) F
theorem Sl.P.mono {s:Sl}{o:Option V}{F F' h:Hp}(g:Same F F')(q:s.P o F h):s.P o F' h:=by
 cases s with
 | dead=>exact q
 | fz T a=>obtain ⟨v,e,r⟩:=q; exact ⟨v,e,T.mono g r⟩
 | ow O a=>obtain ⟨v,e,r⟩:=q; exact ⟨v,e,O.mono g r⟩
theorem Sl.Z.mono {s:Sl}{o:Option V}{F F':Hp}(g:Same F F')(q:s.Z o F):s.Z o F':=by
 cases s with
 | dead=>exact q
 | fz T a=>obtain ⟨v,e,r⟩:=q; exact ⟨v,e,T.mono g r⟩
 | ow O a=>obtain ⟨v,e,r⟩:=q; exact ⟨v,e,O.fr.mono g r⟩
theorem HoldF.mono {L:List Sl}{σ:St}{F F':Hp}(g:Same F F')(q:HoldF L σ F):HoldF L σ F':=fun i s e=>(q i s e).mono g
theorem Hold.mono:∀ {L:List Sl}{σ:St}{F F' h:Hp},Same F F'->Hold L σ F h->Hold L σ F' h
 | [],[],_,_,_,_,q=>q
 | s::L,o::σ,F,F',h,g,⟨h1,h2,j,p,r⟩=>⟨h1,h2,j,p.mono g,r.mono g⟩
 | [],_::_,_,_,_,_,q=>q.elim
 | _::_,[],_,_,_,_,q=>q.elim
theorem Hold.len:∀ {L:List Sl}{σ:St}{F h:Hp},Hold L σ F h->L.length=σ.length
 | [],[],_,_,_=>rfl
 | s::L,o::σ,F,h,⟨h1,h2,j,p,r⟩=>by rw [List.length_cons,List.length_cons,r.len]
 | [],_::_,_,_,q=>q.elim
 | _::_,[],_,_,q=>q.elim
theorem Jn.l {h1 h2 h:Hp}(j:Jn h1 h2 h):Same h1 h:=fun p o e=>by
 rcases j p with ⟨a,b⟩ | ⟨a,b⟩
 ·rw [a] at e; cases e
 ·rw [b]; exact e
theorem Jn.r {h1 h2 h:Hp}(j:Jn h1 h2 h):Same h2 h:=fun p o e=>by
 rcases j p with ⟨a,b⟩ | ⟨a,b⟩
 ·rw [b]; exact e
 ·rw [a] at e; cases e
theorem Jn.dj {h1 h2 h:Hp}(j:Jn h1 h2 h):Dj h1 h2:=fun p=>by
 rcases j p with ⟨a,b⟩ | ⟨a,b⟩
 ·exact .inl a
 ·exact .inr a
theorem zcv_ {h1 h2:Hp}(d:Dj h1 h2):Jn h1 h2 (un h1 h2):=fun p=>by
 unfold un
 rcases d p with a | a
 ·rw [a]; exact .inl ⟨rfl,rfl⟩
 ·refine .inr ⟨a,?_⟩
  cases h1 p with
  | none=>exact a
  | some o=>rfl
theorem Hold.at:∀ {L:List Sl}{σ:St}{F h:Hp}(i:Nat) {s:Sl},Hold L σ F h->L[i]?=some s ->
  ∃ o h1 h2,σ[i]?=some o/\Jn h1 h2 h/\s.P o F h1/\∀ s' o' h1' h',Jn h1' h2 h'->s'.P o' F h1'->Hold (L.set i s') (σ.set i o') F h'
 | [],_,_,_,_,_,_,e=>by cases e
 | s::L,[],_,_,_,_,q,_=>q.elim
 | s::L,o::σ,F,h,0,t,⟨h1,h2,j,p,r⟩,e=>by
  cases e
  exact ⟨o,h1,h2,rfl,j,p,fun s' o' h1' h' j' p'=>⟨h1',h2,j',p',r⟩⟩
 | s::L,o::σ,F,h,i+1,t,⟨h1,h2,j,p,r⟩,e=>by
  obtain ⟨o1,k1,k2,e1,j1,p1,f⟩:=Hold.at i r (by simpa using e)
  have d1:Dj h1 k1:=fun p=>by
   rcases j.dj p with a | a
   ·exact .inl a
   ·exact .inr (j1.l.free a)
  have d2:Dj h1 k2:=fun p=>by
   rcases j.dj p with a | a
   ·exact .inl a
   ·exact .inr (j1.r.free a)
  refine ⟨o1,k1,un h1 k2,by simpa using e1,fun p=>?_,p1,fun s' o' aI h' j' p'=>?_⟩
  ·rcases j p with ⟨a,b⟩ | ⟨a,b⟩
   ·rcases j1 p with ⟨c,d⟩ | ⟨c,d⟩
    ·refine .inl ⟨c,?_⟩; unfold un; rw [a,b,d]
    ·refine .inr ⟨?_,by rw [b,d]⟩; unfold un; rw [a,c]
   ·refine .inl ⟨j1.l.free a,?_⟩
    have:k2 p=none:=j1.r.free a
    unfold un; rw [b]
    cases h1 p with
    | none=>rw [this]
    | some u=>rfl
  ·have dd:Dj aI k2:=fun p=>by
    rcases j' p with ⟨a,b⟩ | ⟨a,b⟩
    ·exact .inl a
    ·right; unfold un at a
     cases z:h1 p with
     | none=>rw [z] at a; exact a
     | some u=>rw [z] at a; cases a
   refine ⟨h1,un aI k2,fun p=>?_,p,f s' o' aI _ (zcv_ dd) p'⟩
   rcases j' p with ⟨a,b⟩ | ⟨a,b⟩
   ·unfold un at b ⊢
    cases z:h1 p with
    | none=>rw [z] at b; exact .inl ⟨rfl,by rw [b,a]⟩
    | some u =>
     rw [z] at b
     refine .inr ⟨?_,b⟩
     rw [a]
     rcases d2 p with y | y
     ·rw [y] at z; cases z
     ·exact y
   ·unfold un at a
    cases z:h1 p with
    | some u=>rw [z] at a; cases a
    | none =>
     rw [z] at a
     refine .inl ⟨rfl,?_⟩
     unfold un; rw [b]
     cases aI p with
     | none=>exact a.symm
     | some u=>rfl
theorem Hold.froz {L:List Sl}{σ:St}{F h:Hp}(d:Dj F h)(q:Hold L σ F h):HoldF L σ (un F h):=by
 intro i s e
 obtain ⟨o,h1,h2,e1,j,p,_⟩:=q.at i e
 rw [e1]
 have d1:Dj F h1:=fun p=>by
  rcases d p with a | a
  ·exact .inl a
  ·exact .inr (j.l.free a)
 cases s with
 | dead=>trivial
 | fz T a=>obtain ⟨v,e2,r⟩:=p; exact ⟨v,e2,T.mono zO_ r⟩
 | ow O a =>
  obtain ⟨v,e2,r⟩:=p
  refine ⟨v,e2,O.fr.mono (fun p u z=>?_) (O.frz d1 r)⟩
  unfold un at z ⊢
  cases y:F p with
  | some w=>rw [y] at z; exact z
  | none=>rw [y] at z; exact j.l _ _ z
theorem Hold.coldF {L:List Sl}{σ:St}{F h:Hp}(q:Hold L σ F h):HoldF (L.map Sl.cold) σ F:=by
 intro i s e
 rw [List.getElem?_map] at e
 cases e1:L[i]? with
 | none=>rw [e1] at e; cases e
 | some t =>
  rw [e1] at e
  cases e
  obtain ⟨o,h1,h2,e2,j,p,_⟩:=q.at i e1
  rw [e2]
  cases t with
  | dead=>trivial
  | fz T a=>obtain ⟨v,e2,r⟩:=p; exact ⟨v,e2,r⟩
  | ow O a=>trivial
end L2
namespace L2
open PySem PySem.Spec PyProof.Rows
def Av.R:Av->V->Hp->Prop
 | .i n,v,_=>v=.int n
 | .p a b,v,H=>∃ q,v=.ref q/\H q=some (.tup [.int a,.int b])
theorem Av.imm {x:Av}{v:V}{H H':Hp}(g:Tups H H')(h:x.R v H):x.R v H':=by
 cases x with
 | i n=>exact h
 | p a b=>obtain ⟨q,e,z⟩:=h; exact ⟨q,e,g _ _ z⟩
def AtR (as:List (Str×Av))(fs:List (Str×V))(F:Hp):Prop:=Paired (fun a f=>a.1=f.1/\a.2.R f.2 F) as fs
theorem AtR.imm {as:List (Str×Av)}{fs:List (Str×V)}{H H':Hp}(g:Tups H H')(h:AtR as fs H):AtR as fs H':=zbs_ (fun _ _ r=>⟨r.1,Av.imm g r.2⟩) h
def Tell (K:Fgg)(E:XK)(x:Xc)(H0 F H:Hp):Prop:=match x with
 | .pl c=>E (.ref (gA K c)) none H
 | .at c as=>∀ dx fs,H0 dx=none->F dx=some (XDO dx fs)->AtR as fs F->E (.ref (gA K c)) (some dx) H
theorem Tell.up {K:Fgg}{E:XK}{x:Xc}{H0 H1 F H:Hp}(s:Same H0 H1)(h:Tell K E x H0 F H):Tell K E x H1 F H:=by
 cases x with
 | pl c=>exact h
 | «at» c as=>exact fun dx fs e=>h dx fs (s.free e)
def After {α:Type}(K:Fgg)(r:Mo α)(E:XK)(F H:Hp)(k:α->Hp->Hp->Prop):Prop:=match r with
 | .ok a=>∀ F' H',Ext F H F' H'->k a F' H'
 | .ex c=>∀ F' H',Ext F H F' H'->Tell K E c H F' H'
 | .no=>False
section
variable {K:Fgg}{E:XK}{α β γ ρ:Type}{F H:Hp}
theorem After.bind {r:Mo α}{f:α->Mo β}{k:β->Hp->Hp->Prop}(h:After K (r.bind f) E F H k):After K r E F H fun a F1 H1=>After K (f a) E F1 H1 k:=by
 cases r with
 | ok a =>
  intro F1 H1 x
  have h':After K (f a) E F H k:=h
  cases e:f a with
  | ok b=>rw [e] at h'; exact fun F2 H2 y=>h' F2 H2 (x.trans y)
  | ex c=>rw [e] at h'; exact fun F2 H2 y=>(h' F2 H2 (x.trans y)).up x.2.2.1
  | no=>rw [e] at h'; exact h'
 | ex c=>exact h
 | no=>exact h
theorem After.imp {r:Mo α}{k k':α->Hp->Hp->Prop}(h:After K r E F H k)(g:∀ a F' H',Ext F H F' H'->k a F' H'->k' a F' H'):After K r E F H k':=by
 cases r with
 | ok a=>exact fun F' H' x=>g a F' H' x (h F' H' x)
 | ex c=>exact h
 | no=>exact h
theorem After.ok {a:α}{k:α->Hp->Hp->Prop}(hs:Same F H)(h:After K (.ok a) E F H k):k a F H:=h F H (.refl hs)
theorem After.noex {r:Mo α}{k:α->Hp->Hp->Prop}(h:After K r.noex E F H k):After K r E0 F H k:=by
 cases r with
 | ok a=>exact h
 | ex c=>exact h.elim
 | no=>exact h
theorem After.lim {n:Nat}{r:Mo α}{k:α->Hp->Hp->Prop}(h:After K (Mo.lim n r) E F H k):n<=sizeLine/\After K r E F H k:=by
 unfold Mo.lim at h
 split at h
 ·exact ⟨by assumption,h⟩
 ·exact h.elim
theorem After.grd {p:Prop}[Decidable p]{r:Mo α}{k:α->Hp->Hp->Prop}(h:After K (Mo.grd p r) E F H k):p/\After K r E F H k:=by
 unfold Mo.grd at h
 split at h
 ·exact ⟨by assumption,h⟩
 ·exact h.elim
theorem After.opt {x:Option α}{k:α->Hp->Hp->Prop}(h:After K (Mo.opt x) E F H k):∃ a,x=some a/\After K (.ok a) E F H k:=by
 cases x with
 | none=>exact h.elim
 | some a=>exact ⟨a,rfl,h⟩
def EvF (K:Fgg)(e:TE)(E:XK)(L:List Sl)(r:Mo α)(T:Ty α):Prop:=
 ∀ σ F H (Q:VK),HoldF L σ F->Same F H->After K r E F H (fun a F' H'=>∀ v,T.R a v F'->Q v H')->e σ H Q
def OwnK (O:Own α)(H:Hp)(Q:VK)(a:α)(F' H':Hp):Prop:=∀ v h,(∀ p,h p≠none->H p=none)->Dj F' h->Same h H'->O.O a v F' h->Q v H'
def EvO (K:Fgg)(e:TE)(E:XK)(L:List Sl)(r:Mo α)(O:Own α):Prop:=
 ∀ σ F H (Q:VK),HoldF L σ F->Same F H->After K r E F H (OwnK O H Q)->e σ H Q
def EvT (K:Fgg)(t:TT)(E:XK)(L:List Sl)(r:Mo Bool):Prop:=
 ∀ σ F H (Q:Bool->Hp->Prop),HoldF L σ F->Same F H->After K r E F H (fun b _ H'=>Q b H')->t σ H Q
def EvA (K:Fgg)(t:TA)(E:XK)(L:List Sl)(r:Mo γ)(C:Cs γ):Prop:=
 ∀ σ F H (Q:List V->Hp->Prop),HoldF L σ F->Same F H->After K r E F H (fun c F' H'=>∀ vs,C.R c vs F'->Q vs H')->t σ H Q
variable {L:List Sl}{e e1 e2:TE}{T:Ty α}{r:Mo α}
theorem EvO.fr {O:Own α}(h:EvO K e E L r O):EvF K e E L r O.fr:=by
 intro σ F H Q hL hs q
 refine h σ F H Q hL hs ?_
 cases r with
 | ok a =>
  intro F' H' x v h' fresh d s o
  refine q (un F' h') H' ⟨x.1.trans zO_,fun p o e=>?_,x.2.2.1,fun p a b=>?_⟩ v (O.frz d o)
  ·unfold un at e
   cases z:F' p with
   | some w=>rw [z] at e; cases e; exact x.2.1 _ _ z
   | none=>rw [z] at e; exact s _ _ e
  ·unfold un at b
   cases z:F' p with
   | some w=>exact x.2.2.2 p a (by rw [z]; exact sN _)
   | none=>rw [z] at b; exact fresh p b
 | ex c=>exact q
 | no=>exact q
theorem EvF.ow (h:EvF K e E L r T):EvO K e E L r (owF T):=by
 intro σ F H Q hL hs q
 refine h σ F H Q hL hs (q.imp fun a F' H' x k v hv=>?_)
 exact k v (fun _=>none) (fun p z=>absurd rfl z) (fun p=>.inr rfl) (fun p o z=>by cases z) ⟨fun _=>rfl,hv⟩
theorem ev_c {v:V}{a:α}(h:∀ F,T.R a v F):EvF K (tC v) E L (.ok a) T:=fun σ F H Q hL hs q=>q.ok hs v (h F)
theorem zq_ (i:Int):EvF K (tC (.int i)) E L (.ok i) tyInt:=ev_c fun _=>rfl
theorem zah_ (l:List Nat):EvF K (tC (tx l)) E L (.ok l) tyStr:=ev_c fun _=>rfl
theorem zeL_ (b:Bool):EvF K (tC (.bl b)) E L (.ok b) tyBl:=ev_c fun _=>rfl
theorem zg4_:EvF K (tC .non) E L (.ok ()) tyNon:=ev_c fun _=>rfl
theorem zj6_ {β:Type}{T:Ty β}:EvF K (tC .non) E L (.ok (none:Option β)) (tyOpt T):=ev_c fun _=>rfl
theorem ziG_ (hn:∀ a v F,T.R a v F->v≠.non)(h:EvF K e E L r T):EvF K e E L (r.bind fun a=>.ok (some a)) (tyOpt T):=by
 intro σ F H Q hL hs q
 exact h σ F H Q hL hs (q.bind.imp fun a F1 H1 x k v hv=>k.ok x.2.1 v ⟨hv,hn _ _ _ hv⟩)
theorem zc_ (i:Nat){a:α}(h:L[i]?=some (.fz T a)):EvF K (mVar i) E L (.ok a) T:=by
 intro σ F H Q hL hs q
 obtain ⟨v,e,r⟩:=hL i _ h
 unfold mVar
 cases z:σ[i]? with
 | none=>rw [z] at e; cases e
 | some o =>
  rw [z] at e
  cases (show o=some v from e)
  exact q.ok hs v r
theorem zhX_ (i:Nat){O:Own α}{a:α}(h:L[i]?=some (.ow O a)):EvF K (mVar i) E L (.ok a) O.fr:=by
 intro σ F H Q hL hs q
 obtain ⟨v,e,r⟩:=hL i _ h
 unfold mVar
 cases z:σ[i]? with
 | none=>rw [z] at e; cases e
 | some o =>
  rw [z] at e
  cases (show o=some v from e)
  exact q.ok hs v r
def Op2 (K:Fgg)(m:R2)(E:XK)(T1:Ty α)(T2:Ty β)(g:α->β->Mo γ)(T:Ty γ):Prop:=
 ∀ a b x y F H (Q:VK),Same F H->T1.R a x F->T2.R b y F->After K (g a b) E F H (fun c F' H'=>∀ v,T.R c v F'->Q v H')->m x y H Q
def Op2O (K:Fgg)(m:R2)(E:XK)(T1:Ty α)(T2:Ty β)(g:α->β->Mo γ)(O:Own γ):Prop:=
 ∀ a b x y F H (Q:VK),Same F H->T1.R a x F->T2.R b y F->After K (g a b) E F H (OwnK O H Q)->m x y H Q
theorem OwnK.back {O:Own α}{H H1:Hp}{Q:VK}{a:α}{F' H':Hp}(g:Same H H1)(h:OwnK O H Q a F' H'):OwnK O H1 Q a F' H':=
 fun v k fresh d s o=>h v k (fun p z=>g.free (fresh p z)) d s o
theorem zE_ {m:R2}{T1:Ty α}{T2:Ty β}{T:Ty γ}{g:α->β->Mo γ}{r1:Mo α}{r2:Mo β}(lC:Op2 K m E T1 T2 g T)(h1:EvF K e1 E L r1 T1)(h2:EvF K e2 E L r2 T2):
  EvF K (tOp m e1 e2) E L (r1.bind fun a=>r2.bind fun b=>g a b) T:=by
 intro σ F H Q hL hs q
 refine h1 σ F H _ hL hs (q.bind.imp fun a F1 H1 x1 k1 v1 dP=>?_)
 refine h2 σ F1 H1 _ (hL.mono x1.1) x1.2.1 (k1.bind.imp fun b F2 H2 x2 k2 v2 dk=>?_)
 exact lC a b v1 v2 F2 H2 Q x2.2.1 (T1.mono x2.1 dP) dk k2
theorem zq6_ {m:R2}{T1:Ty α}{T2:Ty β}{O:Own γ}{g:α->β->Mo γ}{r1:Mo α}{r2:Mo β}(lC:Op2O K m E T1 T2 g O)(h1:EvF K e1 E L r1 T1)(h2:EvF K e2 E L r2 T2):
  EvO K (tOp m e1 e2) E L (r1.bind fun a=>r2.bind fun b=>g a b) O:=by
 intro σ F H Q hL hs q
 refine h1 σ F H _ hL hs (q.bind.imp fun a F1 H1 x1 k1 v1 dP=>?_)
 refine h2 σ F1 H1 _ (hL.mono x1.1) x1.2.1 (k1.bind.imp fun b F2 H2 x2 k2 v2 dk=>?_)
 exact lC a b v1 v2 F2 H2 Q x2.2.1 (T1.mono x2.1 dP) dk (k2.imp fun c F3 H3 x3 k3=>k3.back (x1.2.2.1.trans x2.2.2.1))
theorem op_i0 {g:Int->Int->V}{f:Int->Int->α}(h:∀ i j F,T.R (f i j) (g i j) F):Op2 K (mI0 g) E tyInt tyInt (fun i j=>.ok (f i j)) T:=by
 intro a b x y F H Q hs hx hy q
 cases hx; cases hy
 exact q.ok hs _ (h a b F)
theorem op_i {C:Int->Int->Prop}[∀ i j,Decidable (C i j)]{g:Int->Int->V}{f:Int->Int->α}(h:∀ i j F,T.R (f i j) (g i j) F):Op2 K (mI C g) E tyInt tyInt (fun i j=>.grd (C i j) (.ok (f i j))) T:=by
 intro a b x y F H Q hs hx hy q
 cases hx; cases hy
 obtain ⟨c,q⟩:=q.grd
 exact ⟨c,q.ok hs _ (h a b F)⟩
instance (i j:Int):Decidable (CMul i j):=inferInstanceAs (Decidable (_\/_))
instance (i j:Int):Decidable (CDiv i j):=inferInstanceAs (Decidable (_/\_))
instance (i j:Int):Decidable (CPow i j):=inferInstanceAs (Decidable (_/\_/\_))
theorem zbr_:Op2 K mAdd E tyInt tyInt (fun i j=>.ok (i+j)) tyInt:=by
 intro a b x y F H Q hs hx hy q
 cases hx; cases hy
 exact q.ok hs _ rfl
theorem zbI_:Op2 K mSub E tyInt tyInt (fun i j=>.ok (i-j)) tyInt:=op_i0 fun _ _ _=>rfl
theorem zaA_:Op2 K mMod E tyInt tyInt (fun i j=>.grd (0<j) (.ok (i % j))) tyInt:=op_i (C:=fun _ j=>0<j) fun _ _ _=>rfl
theorem zm9_:Op2 K mGt E tyInt tyInt (fun i j=>.ok (decide (j<i))) tyBl:=op_i0 fun _ _ _=>rfl
theorem zl2_:Op2 K mAdd E tyStr tyStr (fun i j=>.lim (i.length+j.length) (.ok (i++j))) tyStr:=by
 intro a b x y F H Q hs hx hy q
 cases hx; cases hy
 obtain ⟨c,q⟩:=q.lim
 exact ⟨c,q.ok hs _ rfl⟩
theorem Prs.append {xs ys:List α}{vs us:List V}(a:Prs T H xs vs)(b:Prs T H ys us):Prs T H (xs++ys) (vs++us):=by
 induction a with
 | nil=>exact b
 | cons r t ih=>exact .cons r ih
theorem Prs.len {xs:List α}{vs:List V}(a:Prs T H xs vs):xs.length=vs.length:=Paired.length a
theorem Prs.get {xs:List α}{vs:List V}(a:Prs T H xs vs)(i:Nat):(xs[i]?=none/\vs[i]?=none)\/∃ x v,xs[i]?=some x/\vs[i]?=some v/\T.R x v H:=by
 induction a generalizing i with
 | nil=>exact .inl ⟨rfl,rfl⟩
 | cons r t ih =>
  cases i with
  | zero=>exact .inr ⟨_,_,rfl,rfl,r⟩
  | succ i=>simpa using ih i
theorem Prs.take {xs:List α}{vs:List V}(a:Prs T H xs vs)(n:Nat):Prs T H (xs.take n) (vs.take n):=by
 induction a generalizing n with
 | nil=>rw [List.take_nil,List.take_nil]; exact .nil
 | cons r t ih =>
  cases n with
  | zero=>exact .nil
  | succ n=>exact .cons r (ih n)
theorem Prs.drop {xs:List α}{vs:List V}(a:Prs T H xs vs)(n:Nat):Prs T H (xs.drop n) (vs.drop n):=by
 induction a generalizing n with
 | nil=>rw [List.drop_nil,List.drop_nil]; exact .nil
 | cons r t ih =>
  cases n with
  | zero=>exact .cons r t
  | succ n=>exact ih n
theorem Prs.set {xs:List α}{vs:List V}(a:Prs T H xs vs)(i:Nat){x:α}{v:V}(q:T.R x v H):Prs T H (xs.set i x) (vs.set i v):=by
 induction a generalizing i with
 | nil=>exact .nil
 | cons r t ih =>
  cases i with
  | zero=>exact .cons q t
  | succ i=>exact .cons r (ih i)
theorem zpf_ {vs:List V}{xs:List α}{p:Addr}{F' H':Hp}{Q:VK}(hp:H p=none)(h2:H' p=some (.lst vs))(hf:F' p=none)(hr:Prs T F' xs vs)(q:OwnK (owL T) H Q xs F' H'):Q (.ref p) H':=by
 refine q (.ref p) (one p (.lst vs)) (fun b z=>?_) (fun b=>?_) (fun b o z=>?_) ⟨p,vs,rfl,rfl,hr⟩
 ·unfold one at z; split at z
  ·rename_i e; rw [e]; exact hp
  ·exact absurd rfl z
 ·unfold one; split
  ·rename_i e; rw [e]; exact .inl hf
  ·exact .inr rfl
 ·unfold one at z; split at z
  ·rename_i e; rw [e]; cases z; exact h2
  ·cases z
theorem zea_ {vs:List V}{xs:List α}{p:Addr}{Q:VK}(hs:Same F H)(hp:H p=none)(hr:Prs T F xs vs)(q:After K (.ok xs) E F H (OwnK (owL T) H Q)):Q (.ref p) (upd H p (.lst vs)):=
 zpf_ hp zx_ (hs.free hp) hr (q F _ (.heap hs (zbf_ hp _)))
theorem zps_:Op2O K mAdd E (tyL T) (tyL T) (fun i j=>.lim (i.length+j.length) (.ok (i++j))) (owL T):=by
 rintro a b x y F H Q hs ⟨p,vs,rfl,h1,r1⟩ ⟨p2,us,rfl,h2,r2⟩ q
 obtain ⟨c,q⟩:=q.lim
 exact ⟨vs,us,hs _ _ h1,hs _ _ h2,by rw [<- r1.len,<- r2.len]; exact c,fun p hp=>zea_ hs hp (r1.append r2) q⟩
theorem zqa_:EvA K tNil E L (.ok ()) csNil:=fun σ F H Q hL hs q=>q.ok hs [] rfl
theorem ze_ (h:EvF K e E L r T):EvA K (tCons e tNil) E L r (csLast T):=by
 intro σ F H Q hL hs q
 exact h σ F H _ hL hs (q.imp fun a F1 H1 x k v hv=>k [v] ⟨v,rfl,hv⟩)
theorem zf_ {ta:TA}{r2:Mo γ}{C:Cs γ}(h:EvF K e E L r T)(h2:EvA K ta E L r2 C):EvA K (tCons e ta) E L (r.bind fun a=>r2.bind fun c=>.ok (a,c)) (csCons T C):=by
 intro σ F H Q hL hs q
 refine h σ F H _ hL hs (q.bind.imp fun a F1 H1 x1 k1 v1 dP=>?_)
 refine h2 σ F1 H1 _ (hL.mono x1.1) x1.2.1 (k1.bind.imp fun c F2 H2 x2 k2 vs bD=>?_)
 exact k2.ok x2.2.1 (v1::vs) ⟨v1,vs,rfl,T.mono x2.1 dP,bD⟩
def Ct (K:Fgg)(C:Cs γ)(f:γ->Mo ρ)(O:Own ρ):Sp:=fun vs H Q E=>∃ F c,Same F H/\C.R c vs F/\After K (f c) E F H (OwnK O H Q)
theorem zjB_ {C:Cs γ}{f:γ->Mo ρ}{O:Own ρ}{ta:TA}{r:Mo γ}(h:EvA K ta E L r C):EvO K (tCall (Ct K C f O) [] E ta) E L (r.bind f) O:=by
 intro σ F H Q hL hs q
 refine h σ F H _ hL hs (q.bind.imp fun c F1 H1 x1 k1 vs bD=>?_)
 rw [List.append_nil]
 exact ⟨F1,c,x1.2.1,bD,k1.imp fun r F2 H2 x2 k2=>k2.back x1.2.2.1⟩
theorem zaK_ {C:Cs γ}{f:γ->Mo ρ}{O:Own ρ}{ta:TA}{r:Mo γ}(h:EvA K ta E L r C):EvO K (tCall (Ct K C f O) [] E0 ta) E L (r.bind fun c=>(f c).noex) O:=by
 intro σ F H Q hL hs q
 refine h σ F H _ hL hs (q.bind.imp fun c F1 H1 x1 k1 vs bD=>?_)
 rw [List.append_nil]
 exact ⟨F1,c,x1.2.1,bD,k1.noex.imp fun r F2 H2 x2 k2=>k2.back x1.2.2.1⟩
def Bl (K:Fgg)(m:List V->Hp->VK->Prop)(E:XK)(C:Cs γ)(g:γ->Mo α)(T:Ty α):Prop:=
 ∀ c vs F H (Q:VK),Same F H->C.R c vs F->After K (g c) E F H (fun c F' H'=>∀ v,T.R c v F'->Q v H')->m vs H Q
def BlO (K:Fgg)(m:List V->Hp->VK->Prop)(E:XK)(C:Cs γ)(g:γ->Mo α)(O:Own α):Prop:=
 ∀ c vs F H (Q:VK),Same F H->C.R c vs F->After K (g c) E F H (OwnK O H Q)->m vs H Q
theorem zh2_ {m:List V->Hp->VK->Prop}{C:Cs γ}{g:γ->Mo α}{ta:TA}{r:Mo γ}(hb:Bl K m E C g T)(h:EvA K ta E L r C):EvF K (tCB m ta) E L (r.bind g) T:=by
 intro σ F H Q hL hs q
 exact h σ F H _ hL hs (q.bind.imp fun c F1 H1 x1 k1 vs bD=>hb c vs F1 H1 Q x1.2.1 bD k1)
theorem zlh_ {m:List V->Hp->VK->Prop}{C:Cs γ}{g:γ->Mo α}{O:Own α}{ta:TA}{r:Mo γ}(hb:BlO K m E C g O)(h:EvA K ta E L r C):EvO K (tCB m ta) E L (r.bind g) O:=by
 intro σ F H Q hL hs q
 exact h σ F H _ hL hs (q.bind.imp fun c F1 H1 x1 k1 vs bD=>hb c vs F1 H1 Q x1.2.1 bD (k1.imp fun a F2 H2 x2 k2=>k2.back x1.2.2.1))
theorem zlH_:Bl K (mLen K) E (csLast tyStr) (fun l=>.lim l.length (.ok (l.length:Int))) tyInt:=by
 rintro c vs F H Q hs ⟨v,rfl,rfl⟩ q
 obtain ⟨z,q⟩:=q.lim
 exact ⟨z,q.ok hs _ rfl⟩
theorem zdz_:Bl K (mLen K) E (csLast (tyL T)) (fun l=>.ok (l.length:Int)) tyInt:=by
 rintro c vs F H Q hs ⟨v,rfl,p,us,rfl,h,r⟩ q
 exact ⟨us,.inl (.of (hs _ _ h)),q.ok hs _ (by rw [r.len])⟩
theorem zm0_:Bl K (mLen K) E (csLast (tySc K)) (fun l=>.ok (l.length:Int)) tyInt:=by
 rintro c vs F H Q hs ⟨v,rfl,p,rfl,h⟩ q
 exact ⟨_,.inl (hs.seq h),q.ok hs _ (by rw [List.length_map])⟩
theorem zqB_:Bl K (mTwo max) E (csCons tyInt (csLast tyInt)) (fun c=>.ok (max c.1 c.2)) tyInt:=by
 rintro c vs F H Q hs ⟨v,us,rfl,rfl,w,rfl,rfl⟩ q
 exact q.ok hs _ rfl
theorem zrl_:Bl K mStr E (csLast tyInt) (fun i=>.grd (i.natAbs.log2<1920) (.ok (strI i))) tyStr:=by
 rintro c vs F H Q hs ⟨v,rfl,rfl⟩ q
 obtain ⟨z,q⟩:=q.grd
 exact ⟨z,q.ok hs _ rfl⟩
theorem zkk_:BlO K (mList K) E (csLast (tyL T)) (fun l=>.ok l) (owL T):=by
 rintro c vs F H Q hs ⟨v,rfl,p,us,rfl,h,r⟩ q
 exact .inl ⟨us,.inl (.of (hs _ _ h)),fun l hl=>zea_ hs hl r q⟩
theorem zjc_ {xs:List Int}:Prs tyInt H xs (xs.map V.int):=by
 induction xs with
 | nil=>exact .nil
 | cons x xs ih=>exact .cons rfl ih
theorem zph_:Op2 K (mIx K) E tyStr tyInt (fun l i=>.lim l.length (.opt ((atI l i).map fun c=>[c]))) tyStr:=by
 rintro a b x y F H Q hs rfl rfl q
 obtain ⟨z,q⟩:=q.lim
 obtain ⟨l,e,q⟩:=q.opt
 refine ⟨z,?_⟩
 show (match atI a b with | some c=>Q (tx [c]) H | none=>False)
 cases e1:atI a b with
 | none=>rw [e1] at e; cases e
 | some c=>rw [e1] at e; cases e; exact q.ok hs _ rfl
theorem zl8_ {xs:List α}{vs:List V}(r:Prs T H xs vs){i:Int}{x:α}(e:atI xs i=some x):∃ v,atI vs i=some v/\T.R x v H:=by
 unfold atI at e ⊢
 rw [<- r.len]
 cases e1:ixN xs.length i with
 | none=>rw [e1] at e; cases e
 | some j =>
  rw [e1] at e
  rcases r.get j with ⟨a,b⟩ | ⟨y,v,a,b,c⟩
  ·have:xs[j]?=some x:=e
   rw [a] at this; cases this
  ·have:xs[j]?=some x:=e
   rw [a] at this; cases this
   exact ⟨v,b,c⟩
theorem zc3_:Op2 K (mIx K) E (tyL T) tyInt (fun l i=>.opt (atI l i)) T:=by
 rintro a b x y F H Q hs ⟨p,vs,rfl,h,r⟩ rfl q
 obtain ⟨l,e,q⟩:=q.opt
 refine ⟨vs,.inl (.of (hs _ _ h)),?_⟩
 obtain ⟨v,e2,rv⟩:=zl8_ r e
 rw [e2]
 exact q.ok hs v rv
theorem zpd_:Op2 K (mIx K) E (tySc K) tyInt (fun l i=>.opt (atI l i)) tyInt:=by
 rintro a b x y F H Q hs ⟨p,rfl,h⟩ rfl q
 obtain ⟨l,e,q⟩:=q.opt
 refine ⟨_,.inl (hs.seq h),?_⟩
 obtain ⟨v,e2,rv⟩:=zl8_ (H:=F) zjc_ e
 rw [e2]
 exact q.ok hs v rv
def CsAt (C:Cs γ)(i:Nat)(T:Ty α)(pr:γ->α):Prop:=∀ {c vs H},C.R c vs H->∃ v,vs[i]?=some v/\T.R (pr c) v H
theorem zcd_:CsAt (csLast T) 0 T id:=fun ⟨v,e,h⟩=>⟨v,by rw [e]; rfl,h⟩
theorem at_0 {C:Cs γ}:CsAt (csCons T C) 0 T Prod.fst:=fun ⟨v,us,e,h,q⟩=>⟨v,by rw [e]; rfl,h⟩
theorem at_s {C:Cs γ}{i:Nat}{pr:γ->α}{T':Ty β}(h:CsAt C i T pr):CsAt (csCons T' C) (i+1) T (fun c=>pr c.2):=fun ⟨v,us,e,_,q⟩=>by
 obtain ⟨w,e2,r⟩:=h q
 exact ⟨w,by rw [e]; exact e2,r⟩
theorem zaM_ {C:Cs γ}{i:Nat}{pr:γ->α}{r:Mo γ}(ha:CsAt C i T pr)(h:EvF K e E L r (tyTup C)):EvF K (tOp (mIx K) e (tC (.int i))) E L (r.bind fun c=>.ok (pr c)) T:=by
 intro σ F H Q hL hs q
 refine h σ F H _ hL hs (q.bind.imp fun c F1 H1 x1 k1 v1 ao=>?_)
 obtain ⟨p,us,ev,hp,hc⟩:=ao
 subst ev
 obtain ⟨w,e2,dw⟩:=ha hc
 refine ⟨us,.inr (.of (x1.2.1 _ _ hp)),?_⟩
 have e3:atI us (i:Int)=some w:=by
  unfold atI
  rw [znF_ (by lia) (by have:=(List.getElem?_eq_some_iff.mp e2).1; lia)]
  simpa using e2
 rw [e3]
 exact k1.ok x1.2.1 w dw
end
section
variable {K:Fgg}{E:XK}{α γ:Type}{F H:Hp}{L:List Sl}{e e1 e2:TE}{T:Ty α}{r:Mo α}
variable {t t1 t2:TT}{b b1 b2:Mo Bool}
theorem zK_ (h:EvF K e E L b tyBl):EvT K (mTest e) E L b:=by
 intro σ F H Q hL hs q
 refine h σ F H _ hL hs (q.imp fun a F1 H1 x k v hv=>?_)
 cases hv
 exact k
theorem zcL_ (h:EvT K t E L b):EvT K (tNot t) E L (b.bind fun c=>.ok (!c)):=by
 intro σ F H Q hL hs q
 exact h σ F H _ hL hs (q.bind.imp fun a F1 H1 x k=>k.ok x.2.1)
theorem zoK_ (h1:EvT K t1 E L b1)(h2:EvT K t2 E L b2):EvT K (mAnd t1 t2) E L (b1.bind fun c=>if c then b2 else .ok false):=by
 intro σ F H Q hL hs q
 refine h1 σ F H _ hL hs (q.bind.imp fun a F1 H1 x k=>⟨fun c=>?_,fun c=>?_⟩)
 ·rw [if_pos c] at k; exact h2 σ F1 H1 _ (hL.mono x.1) x.2.1 k
 ·rw [if_neg (by rw [c]; decide)] at k; exact k.ok x.2.1
theorem ziv_ (h1:EvT K t1 E L b1)(h2:EvT K t2 E L b2):EvT K (mOr t1 t2) E L (b1.bind fun c=>if c then .ok true else b2):=by
 intro σ F H Q hL hs q
 refine h1 σ F H _ hL hs (q.bind.imp fun a F1 H1 x k=>⟨fun c=>?_,fun c=>?_⟩)
 ·rw [if_pos c] at k; exact k.ok x.2.1
 ·rw [if_neg (by rw [c]; decide)] at k; exact h2 σ F1 H1 _ (hL.mono x.1) x.2.1 k
theorem zmF_ (h1:EvF K e1 E L b1 tyBl)(h2:EvF K e2 E L b2 tyBl):EvF K (mAndV e1 e2) E L (b1.bind fun c=>if c then b2 else .ok false) tyBl:=by
 intro σ F H Q hL hs q
 refine h1 σ F H _ hL hs (q.bind.imp fun a F1 H1 x k v hv=>?_)
 cases hv
 refine ⟨fun c=>?_,fun c=>?_⟩
 ·rw [if_pos c] at k; exact h2 σ F1 H1 _ (hL.mono x.1) x.2.1 k
 ·rw [if_neg (by rw [c]; decide)] at k; exact k.ok x.2.1 _ rfl
theorem zq2_ (h1:EvF K e1 E L b1 tyBl)(h2:EvF K e2 E L b2 tyBl):EvF K (mOrV e1 e2) E L (b1.bind fun c=>if c then .ok true else b2) tyBl:=by
 intro σ F H Q hL hs q
 refine h1 σ F H _ hL hs (q.bind.imp fun a F1 H1 x k v hv=>?_)
 cases hv
 refine ⟨fun c=>?_,fun c=>?_⟩
 ·rw [if_pos c] at k; exact k.ok x.2.1 _ rfl
 ·rw [if_neg (by rw [c]; decide)] at k; exact h2 σ F1 H1 _ (hL.mono x.1) x.2.1 k
theorem zpr_ {r:Mo Int}(h1:EvF K e1 E L r tyInt):EvF K (mNeg e1) E L (r.bind fun c=>.ok (-c)) tyInt:=by
 intro σ F H Q hL hs q
 refine h1 σ F H _ hL hs (q.bind.imp fun a F1 H1 x k v hv=>?_)
 cases hv
 exact k.ok x.2.1 _ rfl
theorem ev_if {r1 r2:Mo α}(ht:EvT K t E L b)(h1:EvF K e1 E L r1 T)(h2:EvF K e2 E L r2 T):EvF K (mIf t e1 e2) E L (b.bind fun c=>if c then r1 else r2) T:=by
 intro σ F H Q hL hs q
 refine ht σ F H _ hL hs (q.bind.imp fun a F1 H1 x k=>⟨fun c=>?_,fun c=>?_⟩)
 ·rw [if_pos c] at k; exact h1 σ F1 H1 _ (hL.mono x.1) x.2.1 k
 ·rw [if_neg (by rw [c]; decide)] at k; exact h2 σ F1 H1 _ (hL.mono x.1) x.2.1 k
theorem After.more {k:α->Hp->Hp->Prop}(h:After K r E F H k):After K r E F H fun a F1 H1=>∀ F2 H2,Ext F1 H1 F2 H2->k a F2 H2:=by
 cases r with
 | ok a=>exact fun F1 H1 x F2 H2 y=>h F2 H2 (x.trans y)
 | ex c=>exact h
 | no=>exact h
def CsN (C:Cs γ)(n:Nat):Prop:=∀ {c vs H},C.R c vs H->vs.length=n
theorem zcg_:CsN csNil 0:=fun e=>by rw [e]; rfl
theorem zC_:CsN (csLast T) 1:=fun ⟨v,e,_⟩=>by rw [e]; rfl
theorem zv_ {C:Cs γ}{n:Nat}(h:CsN C n):CsN (csCons T C) (n+1):=fun ⟨v,us,e,_,q⟩=>by rw [e,List.length_cons,h q]
theorem zgR_ {ta:TA}{C:Cs γ}{r:Mo γ}{n:Nat}(hl:CsN C n)(h:EvA K ta E L r C)(hn:n<=100:=by decide):EvF K (tTup ta) E L r (tyTup C):=by
 intro σ F H Q hL hs q
 refine h σ F H _ hL hs (q.more.imp fun c F1 H1 x1 k1 vs bD=>⟨zeg_ (by rw [hl bD]; lia),fun p hp=>?_⟩)
 have x:=Ext.new (o:=.tup vs) x1.2.1 hp
 exact k1 _ _ x _ ⟨p,vs,rfl,zx_,C.mono x.1 bD⟩
def CsL (C:Cs γ)(T:Ty α)(f:γ->List α):Prop:=∀ {c vs H},C.R c vs H->Prs T H (f c) vs
theorem zgH_:CsL (csLast T) T fun a=>[a]:=fun ⟨v,e,h⟩=>by rw [e]; exact .cons h .nil
theorem zdV_ {C:Cs γ}{f:γ->List α}(h:CsL C T f):CsL (csCons T C) T fun c=>c.1::f c.2:=fun ⟨v,us,e,q,z⟩=>by rw [e]; exact .cons q (h z)
theorem znG_ {ta:TA}{C:Cs γ}{r:Mo γ}{n:Nat}{f:γ->List α}(hl:CsN C n)(hf:CsL C T f)(h:EvA K ta E L r C)(hn:n<=100:=by decide):EvO K (tLst ta) E L (r.bind fun c=>.ok (f c)) (owL T):=by
 intro σ F H Q hL hs q
 refine h σ F H _ hL hs (q.bind.imp fun c F1 H1 x1 k1 vs bD=>⟨zeg_ (by rw [hl bD]; omega),fun p hp=>?_⟩)
 exact zea_ x1.2.1 hp (hf bD) (k1.imp fun a F2 H2 x2 k2=>k2.back x1.2.2.1)
theorem zce_ (T:Ty α):EvO K (tLst tNil) E L (.ok []) (owL T):=by
 intro σ F H Q hL hs q
 exact ⟨Nat.zero_le _,fun p hp=>zea_ hs hp (T:=T) .nil q⟩
def EvP (K:Fgg)(t:TO)(E:XK)(L:List Sl)(r:Mo (Option Int)):Prop:=
 ∀ σ F H (Q:Option Int->Hp->Prop),HoldF L σ F->Same F H->After K r E F H (fun b _ H'=>Q b H')->t σ H Q
theorem zol_:EvP K tNoPart E L (.ok none):=fun σ F H Q hL hs q=>q.ok hs
theorem ziE_ {r:Mo Int}(h:EvF K e E L r tyInt):EvP K (mPart e) E L (r.bind fun i=>.ok (some i)):=by
 intro σ F H Q hL hs q
 refine h σ F H _ hL hs (q.bind.imp fun a F1 H1 x k v hv=>?_)
 cases hv
 exact k.ok x.2.1
def cutG (xs:List α)(lo hi:Option Int):List α:=(xs.drop (HT.sIx xs.length 0 lo)).take (HT.sIx xs.length xs.length hi-HT.sIx xs.length 0 lo)
theorem zlS_ {xs:List α}{vs:List V}(q:Prs T H xs vs)(lo hi:Option Int):Prs T H (cutG xs lo hi) (cutV vs lo hi):=by
 unfold cutG cutV
 rw [<- q.len]
 exact (q.drop _).take _
variable {tl th:TO}{rl rh:Mo (Option Int)}
theorem zoy_ {r:Mo (List Nat)}(h:EvF K e E L r tyStr)(hl:EvP K tl E L rl)(hh:EvP K th E L rh):EvF K (tSl (mSl K) e tl th) E L (r.bind fun l=>rl.bind fun a=>rh.bind fun b=>.lim l.length (.ok (cutG l a b))) tyStr:=by
 intro σ F H Q hL hs q
 refine h σ F H _ hL hs (q.bind.imp fun l F1 H1 x1 k1 v hv=>?_)
 refine hl σ F1 H1 _ (hL.mono x1.1) x1.2.1 (k1.bind.imp fun a F2 H2 x2 k2=>?_)
 refine hh σ F2 H2 _ (hL.mono (x1.1.trans x2.1)) x2.2.1 (k2.bind.imp fun b F3 H3 x3 k3=>?_)
 cases hv
 obtain ⟨z,k3⟩:=k3.lim
 exact ⟨z,k3.ok x3.2.1 _ rfl⟩
theorem zis_ {r:Mo (List α)}(h:EvF K e E L r (tyL T))(hl:EvP K tl E L rl)(hh:EvP K th E L rh):EvO K (tSl (mSl K) e tl th) E L (r.bind fun l=>rl.bind fun a=>rh.bind fun b=>.ok (cutG l a b)) (owL T):=by
 intro σ F H Q hL hs q
 refine h σ F H _ hL hs (q.bind.imp fun l F1 H1 x1 k1 v hv=>?_)
 refine hl σ F1 H1 _ (hL.mono x1.1) x1.2.1 (k1.bind.imp fun a F2 H2 x2 k2=>?_)
 refine hh σ F2 H2 _ (hL.mono (x1.1.trans x2.1)) x2.2.1 (k2.bind.imp fun b F3 H3 x3 k3=>?_)
 obtain ⟨p,vs,rfl,hp,hr⟩:=hv
 have x:=x2.1.trans x3.1
 exact ⟨vs,.of (x3.2.1 _ _ (x _ _ hp)),fun q hq=>zea_ x3.2.1 hq (zlS_ (hr.mono x) a b) (k3.imp fun _ _ _ _ z=>z.back ((x1.2.2.1.trans x2.2.2.1).trans x3.2.2.1))⟩
theorem zpL_ {r:Mo (List Int)}(h:EvF K e E L r (tySc K))(hl:EvP K tl E L rl)(hh:EvP K th E L rh):EvO K (tSl (mSl K) e tl th) E L (r.bind fun l=>rl.bind fun a=>rh.bind fun b=>.ok (cutG l a b)) (owL tyInt):=by
 intro σ F H Q hL hs q
 refine h σ F H _ hL hs (q.bind.imp fun l F1 H1 x1 k1 v hv=>?_)
 refine hl σ F1 H1 _ (hL.mono x1.1) x1.2.1 (k1.bind.imp fun a F2 H2 x2 k2=>?_)
 refine hh σ F2 H2 _ (hL.mono (x1.1.trans x2.1)) x2.2.1 (k2.bind.imp fun b F3 H3 x3 k3=>?_)
 obtain ⟨p,rfl,hp⟩:=hv
 have x:=x2.1.trans x3.1
 exact ⟨_,x3.2.1.seq (x.seq hp),fun q hq=>zea_ x3.2.1 hq (zlS_ zjc_ a b) (k3.imp fun _ _ _ _ z=>z.back ((x1.2.2.1.trans x2.2.2.1).trans x3.2.2.1))⟩
structure EqT (K:Fgg)(T:Ty α)(n:Nat)(q:α->α->Bool):Prop where
 eq:∀ {a b x y H},T.R a x H->T.R b y H->EqD K H n x y (q a b)
theorem zlU_:EqT K tyStr 0 (fun a b=>decide (a=b)):=⟨by
 rintro a b x y H rfl rfl
 have:eqV (tx a) (tx b)=decide (a=b):=by
  unfold eqV
  rw [Bool.eq_iff_iff,decide_eq_true_iff]
  constructor
  ·intro h
   have h:=eq_of_beq h
   injection h with h
   have:=congrArg Array.toList h
   simpa using this
  ·rintro rfl; exact beq_self_eq_true _
 rw [<- this]; exact .flat rfl rfl⟩
def eqL (q:α->α->Bool):List α->List α->Bool
 | [],[]=>true
 | x::xs,y::ys=>q x y && eqL q xs ys
 | _,_=>false
theorem zlI_ {q:α->α->Bool}:∀ {xs ys:List α},xs.length≠ys.length->eqL q xs ys=false
 | [],[],h=>absurd rfl h
 | [],_::_,_=>rfl
 | _::_,[],_=>rfl
 | x::xs,y::ys,h=>by unfold eqL; rw [zlI_ (by simpa using h),Bool.and_false]
theorem zmb_ {q:α->α->Bool}:∀ {xs ys:List α},xs.length=ys.length->eqL q xs ys=(List.range xs.length).all fun i=>match xs[i]?,ys[i]? with | some x,some y=>q x y | _,_=>true
 | [],[],_=>rfl
 | x::xs,y::ys,h=>by
  unfold eqL
  rw [List.length_cons,List.range_succ_eq_map,List.all_cons,List.all_map,zmb_ (by simpa using h)]
  rfl
theorem eqt_l {n:Nat}{q:α->α->Bool}(h:EqT K T n q):EqT K (tyL T) (n+1) (eqL q):=⟨by
 rintro a b x y H ⟨p,vs,rfl,hp,hr⟩ ⟨p2,us,rfl,cW,ee⟩
 by_cases hl:a.length=b.length
 ·rw [zmb_ hl,hr.len]
  refine .lst _ (.of hp) (.of cW) (by rw [<- hr.len,<- ee.len,hl]) fun i x y hx hy=>?_
  rcases hr.get i with ⟨_,z⟩ | ⟨x1,v1,e1,e2,r1⟩
  ·rw [z] at hx; cases hx
  rcases ee.get i with ⟨_,z⟩ | ⟨x2,v2,e3,e4,r2⟩
  ·rw [z] at hy; cases hy
  rw [e2] at hx; cases hx
  rw [e4] at hy; cases hy
  simp only [e1,e3]
  exact h.eq r1 r2
 ·rw [zlI_ hl]
  exact .lstN (.of hp) (.of cW) (by rw [<- hr.len,<- ee.len]; exact hl)⟩
theorem zqO_ {n:Nat}{q:α->α->Bool}(h:EqT K T n q)(hn:n<=50:=by decide)(hr:∀ {a x H},T.R a x H->∃ p,x=.ref p):Op2 K (mEqK K) E T T (fun a b=>.ok (q a b)) tyBl:=by
 intro a b x y F H Q hs hx hy k
 have hd:=h.eq (T.mono hs hx) (T.mono hs hy)
 obtain ⟨p,rfl⟩:=hr hx
 obtain ⟨p2,rfl⟩:=hr hy
 exact ⟨n,_,hn,hd,k.ok hs _ rfl⟩
theorem zrc_ {n:Nat}{q:α->α->Bool}(h:EqT K T n q)(hn:n<=50:=by decide)(hr:∀ {a x H},T.R a x H->∃ p,x=.ref p):Op2 K (mNeK K) E T T (fun a b=>.ok (!(q a b))) tyBl:=by
 intro a b x y F H Q hs hx hy k
 have hd:=h.eq (T.mono hs hx) (T.mono hs hy)
 obtain ⟨p,rfl⟩:=hr hx
 obtain ⟨p2,rfl⟩:=hr hy
 exact ⟨n,_,hn,hd,k.ok hs _ rfl⟩
theorem ref_l {a:List α}{x:V}{H:Hp}(h:(tyL T).R a x H):∃ p,x=.ref p:=by obtain ⟨p,_,e,_⟩:=h; exact ⟨p,e⟩
theorem zqH_ {n:Nat}{q:α->α->Bool}(h:EqT K (tyL T) n (eqL q))(hn:n<=50:=by decide):Op2 K (mEqK K) E (tyL T) (tyL T) (fun a b=>.ok (eqL q a b)) tyBl:=zqO_ h hn ref_l
theorem zqR_ {n:Nat}{q:α->α->Bool}(h:EqT K (tyL T) n (eqL q))(hn:n<=50:=by decide):Op2 K (mNeK K) E (tyL T) (tyL T) (fun a b=>.ok (!(eqL q a b))) tyBl:=zrc_ h hn ref_l
theorem zjC_:Op2 K (mEqK K) E tyInt tyInt (fun a b=>.ok (decide (a=b))) tyBl:=by
 rintro a b x y F H Q hs rfl rfl k
 exact k.ok hs _ rfl
theorem zo1_:Op2 K (mNeK K) E tyInt tyInt (fun a b=>.ok (!decide (a=b))) tyBl:=by
 rintro a b x y F H Q hs rfl rfl k
 exact k.ok hs _ rfl
theorem zoD_:Op2 K (mEqK K) E tyBl tyBl (fun a b=>.ok (decide (a=b))) tyBl:=by
 rintro a b x y F H Q hs rfl rfl k
 exact k.ok hs _ rfl
theorem zqC_:Op2 K (mNeK K) E tyBl tyBl (fun a b=>.ok (!decide (a=b))) tyBl:=by
 rintro a b x y F H Q hs rfl rfl k
 exact k.ok hs _ rfl
theorem zf9_:Op2 K (mEqK K) E tyStr tyStr (fun a b=>.ok (decide (a=b))) tyBl:=by
 rintro a b x y F H Q hs rfl rfl k
 exact k.ok hs _ rfl
theorem zqn_:Op2 K (mNeK K) E tyStr tyStr (fun a b=>.ok (!decide (a=b))) tyBl:=by
 rintro a b x y F H Q hs rfl rfl k
 exact k.ok hs _ rfl
theorem op_isNo:Op2 K mIs E (tyOpt T) tyNon (fun a _=>.ok a.isNone) tyBl:=by
 rintro a b x y F H Q hs hx rfl k
 have:decide (x=.non)=a.isNone:=by
  cases a with
  | none=>cases hx; rfl
  | some a=>exact decide_eq_false hx.2
 show (match mIsB x .non with | some b=>Q (.bl b) H | none=>False)
 have e:mIsB x .non=some (decide (x=.non)):=rfl
 rw [e,this]
 exact k.ok hs _ rfl
theorem zg2_:Op2 K mIsNot E (tyOpt T) tyNon (fun a _=>.ok a.isSome) tyBl:=by
 rintro a b x y F H Q hs hx rfl k
 have:(!decide (x=.non))=a.isSome:=by
  cases a with
  | none=>cases hx; rfl
  | some a=>rw [decide_eq_false hx.2]; rfl
 show (match mIsB x .non with | some b=>Q (.bl (!b)) H | none=>False)
 have e:mIsB x .non=some (decide (x=.non)):=rfl
 rw [e]
 show Q (.bl (!decide (x=.non))) H
 rw [this]
 exact k.ok hs _ rfl
theorem zqP_:Op2 K (mIn K false) E tyStr tyStr (fun a b=>.ok (inS a b)) tyBl:=by
 rintro a b x y F H Q hs rfl rfl k
 exact k.ok hs _ rfl
def TyN (K:Fgg)(T:Ty α)(n:String):Prop:=∀ {a x H},T.R a x H->tyS K H x n
theorem zpm_:TyN K tyInt "int":=fun h=>by cases h; rfl
theorem zqG_:TyN K tyStr "str":=fun h=>by cases h; rfl
theorem tn_l:TyN K (tyL T) "list":=fun ⟨p,vs,e,h,_⟩=>by subst e; exact .inl ⟨rfl,vs,h⟩
theorem zpU_ {x:V}{n c:String}{bb:Bool}{Q:VK}(h:tyS K H x n)(hb:isaB n c=some bb)(q:Q (.bl bb) H):mIsa K [x,.ty c] H Q:=by
 cases x with
 | non=>cases (show n=_ from h); show (match isaB "NoneType" c with | some b=>Q (.bl b) H | none=>False); rw [hb]; exact q
 | bl _=>cases (show n=_ from h); show (match isaB "bool" c with | some b=>Q (.bl b) H | none=>False); rw [hb]; exact q
 | int _=>cases (show n=_ from h); show (match isaB "int" c with | some b=>Q (.bl b) H | none=>False); rw [hb]; exact q
 | str _=>cases (show n=_ from h); show (match isaB "str" c with | some b=>Q (.bl b) H | none=>False); rw [hb]; exact q
 | ref p=>exact ⟨n,h,by rw [hb]; exact q⟩
 | _=>exact h.elim
theorem zkG_ {n c:String}{bb:Bool}(hn:TyN K T n)(h:EvF K e E L r T)(hb:isaB n c=some bb:=by decide):EvF K (tCB (mIsa K) (tCons e (tCons (tC (.ty c)) tNil))) E L (r.bind fun _=>.ok bb) tyBl:=by
 intro σ F H Q hL hs q
 refine h σ F H _ hL hs (q.bind.imp fun l F1 H1 x1 k1 v hv=>?_)
 exact zpU_ (hn (T.mono x1.2.1 hv)) hb (k1.ok x1.2.1 _ rfl)
def Me (K:Fgg)(m:V->List V->Hp->VK->Prop)(E:XK)(C:Cs γ)(g:List Nat->γ->Mo α)(T:Ty α):Prop:=
 ∀ l c vs F H (Q:VK),Same F H->C.R c vs F->After K (g l c) E F H (fun c F' H'=>∀ v,T.R c v F'->Q v H')->m (tx l) vs H Q
theorem ev_me {m:V->List V->Hp->VK->Prop}{C:Cs γ}{g:List Nat->γ->Mo α}{ta:TA}{r0:Mo (List Nat)}{r:Mo γ}(hb:Me K m E C g T)(h0:EvF K e E L r0 tyStr)(h:EvA K ta E L r C):EvF K (tBM K "str" m e ta) E L (r0.bind fun l=>r.bind fun c=>g l c) T:=by
 intro σ F H Q hL hs q
 refine h0 σ F H _ hL hs (q.bind.imp fun l F1 H1 x1 k1 v hv=>?_)
 cases hv
 refine ⟨rfl,h σ F1 H1 _ (hL.mono x1.1) x1.2.1 (k1.bind.imp fun c F2 H2 x2 k2 vs bD=>hb l c vs F2 H2 Q x2.2.1 bD k2)⟩
theorem znn_:Me K mIndex E (csLast tyStr) (fun l c=>.grd (findS l c ≠ -1) (.ok (findS l c))) tyInt:=by
 rintro l c vs F H Q hs ⟨v,rfl,rfl⟩ k
 obtain ⟨z,k⟩:=k.grd
 exact ⟨z,k.ok hs _ rfl⟩
def zfL (l:List Nat)(i:Int):List Nat:=(Txt.zfill ⟨l.toArray⟩ i).cps.toList
theorem zmI_:Me K mZfill E (csLast tyInt) (fun l i=>.grd (PadOk i=true) (.ok (zfL l i))) tyStr:=by
 rintro l c vs F H Q hs ⟨v,rfl,rfl⟩ k
 obtain ⟨z,k⟩:=k.grd
 exact ⟨z,k.ok hs _ rfl⟩
end
section
variable {K:Fgg}{E:XK}{α β γ:Type}{F H:Hp}{L:List Sl}{e:TE}{T:Ty α}{r:Mo α}
def setL (L:List Sl)(ss:List (Nat×Sl)):List Sl:=ss.foldl (fun L q=>L.set q.1 q.2) L
def setS (σ:St)(ss:List (Nat×Option V)):St:=ss.foldl (fun L q=>L.set q.1 q.2) σ
inductive Plain (F:Hp):List (Nat×Sl)->List (Nat×Option V)->Prop
 | nil:Plain F [] []
 | cons {α:Type}{T:Ty α}{a:α}{i:Nat}{v:V}{ss vs} (h:T.R a v F) (t:Plain F ss vs):Plain F ((i,.fz T a)::ss) ((i,some v)::vs)
def TgR (K:Fgg)(g:TG)(T:Ty α)(ss:α->List (Nat×Sl)):Prop:=
 ∀ a v σ F H (Q:St->Hp->Prop),Same F H->T.R a v F->(∀ vs,Plain F (ss a) vs->Q (setS σ vs) H)->g v σ H Q
theorem zaJ_ (i:Nat):TgR K (gName i) T fun a=>[(i,.fz T a)]:=by
 intro a v σ F H Q hs hv q
 exact q [(i,some v)] (.cons hv .nil)
def TgC (K:Fgg)(g:TGs)(C:Cs γ)(ss:γ->List (Nat×Sl)):Prop:=
 ∀ a vs σ F H (Q:St->Hp->Prop),Same F H->C.R a vs F->(∀ us,Plain F (ss a) us->Q (setS σ us) H)->g vs σ H Q
theorem zh1_ {g:TG}{ss:α->List (Nat×Sl)}(h:TgR K g T ss):TgC K (gConsM g gNilM) (csLast T) ss:=by
 rintro a vs σ F H Q hs ⟨v,rfl,hv⟩ q
 exact h a v σ F H _ hs hv fun us hu=>q us hu
theorem zia_ (i:Nat){g:TGs}{C:Cs γ}{ss:γ->List (Nat×Sl)}(h:TgC K g C ss):TgC K (gConsM (gName i) g) (csCons T C) fun c=>(i,.fz T c.1)::ss c.2:=by
 rintro a vs σ F H Q hs ⟨v,us,rfl,hv,hc⟩ q
 exact h a.2 us _ F H _ hs hc fun ws hw=>q ((i,some v)::ws) (.cons hv hw)
theorem zkD_ {n:Nat}{g:TGs}{C:Cs γ}{ss:γ->List (Nat×Sl)}(hn:CsN C n)(h:TgC K g C ss):TgR K (gTupM K n g) (tyTup C) ss:=by
 rintro a v σ F H Q hs ⟨p,us,rfl,hp,hc⟩ q
 exact ⟨us,.of (hs _ _ hp),hn hc,h a us σ F H Q hs hc q⟩
theorem ziP_ {σ:St}{i j:Nat}{o:Option V}(h:i<σ.length):((σ.set i o)[j]?).join=if i=j then o else (σ[j]?).join:=by
 rw [List.getElem?_set]
 split
 ·rename_i e; subst e; first | rfl | (rw [if_pos h]; rfl)
 ·rfl
theorem zle_ {σ:St}{i:Nat}{s:Sl}{o:Option V}(hl:L.length=σ.length)(h:HoldF L σ F)(hs:s.Z o F):HoldF (L.set i s) (σ.set i o) F:=by
 intro j t e
 rw [List.getElem?_set] at e
 split at e
 ·rename_i z; subst z
  split at e
  ·rename_i y; cases e
   rw [ziP_ (by rw [<- hl]; exact y),if_pos rfl]; exact hs
  ·cases e
 ·rename_i z
  by_cases y:i<σ.length
  ·rw [ziP_ y,if_neg z]; exact h j t e
  ·rw [List.set_eq_of_length_le (by lia)]; exact h j t e
theorem ziA_ {ss:List (Nat×Sl)}{vs:List (Nat×Option V)}(p:Plain F ss vs):∀ {L:List Sl}{σ:St},L.length=σ.length->HoldF L σ F->HoldF (setL L ss) (setS σ vs) F/\(setS σ vs).length=σ.length/\(setL L ss).length=L.length:=by
 induction p with
 | nil=>exact fun hl h=>⟨h,rfl,rfl⟩
 | cons hv t ih =>
  rename_i T a i v ss vs
  intro L σ hl h
  obtain ⟨a1,b,c⟩:=ih (L:=L.set i (.fz T a)) (σ:=σ.set i (some v)) (by rw [List.length_set,List.length_set]; exact hl) (zle_ (s:=.fz T a) hl h ⟨v,rfl,hv⟩)
  exact ⟨a1,b.trans (by rw [List.length_set]),c.trans (by rw [List.length_set])⟩
def DeadAt (L:List Sl)(is:List Nat):Prop:=∀ i∈is,∀ s,L[i]?=some s->s=.dead
theorem zm3_ {ss:List (Nat×Sl)}{vs:List (Nat×Option V)}(p:Plain F ss vs){j:Nat}:∀ {σ:St},j∉ss.map (·.1)->(setS σ vs)[j]?=σ[j]?:=by
 induction p with
 | nil=>exact fun _=>rfl
 | cons hv t ih =>
  rename_i i v ss vs
  intro σ hj
  have h1:i≠j:=fun z=>hj (by rw [<- z]; exact List.mem_cons_self)
  have h2:=ih (σ:=σ.set i (some v)) fun z=>hj (List.mem_cons_of_mem _ z)
  exact h2.trans (List.getElem?_set_ne h1)
structure Yl (K:Fgg)(J:It)(xs:List α)(T:Ty α)(F1:Hp):Prop where
 go:∀ i H x,Same F1 H->xs[i]?=some x->J.go i H/\∀ v H',J.yld i H v H'->∀ F,Same F1 F->Same F H->∃ F',Ext F H F' H'/\T.R x v F'
 stop:∀ H,Same F1 H->J.stop xs.length H
def EvI (K:Fgg)(wi:TI)(E:XK)(L:List Sl)(r:Mo (List α))(T:Ty α):Prop:=
 ∀ σ F H (R:It->Hp->Prop),HoldF L σ F->Same F H->After K r E F H (fun xs F' H'=>∀ J,Yl K J xs T F'->R J H')->wi σ H R
theorem ei_l {r:Mo (List α)}(h:EvF K e E L r (tyL T)):EvI K (iAny K e) E L r T:=by
 intro σ F H R hL hs q
 refine h σ F H _ hL hs (q.imp fun l F1 H1 x1 k1 v hv=>?_)
 obtain ⟨p,vs,rfl,hp,hr⟩:=hv
 refine .inl ⟨⟨vs,.of (x1.2.1 _ _ hp)⟩,k1 _ ⟨fun i H x hH hx=>?_,fun H hH=>⟨vs,.of (hH _ _ hp),by rw [hr.len]; exact Nat.le_refl _⟩⟩⟩
 rcases hr.get i with ⟨a,_⟩ | ⟨y,u,a,b,c⟩
 ·rw [a] at hx; cases hx
 ·rw [a] at hx; cases hx
  refine ⟨⟨vs,u,.of (hH _ _ hp),b⟩,?_⟩
  rintro v H' ⟨rfl,z⟩ F hF fJ
  have e:=z vs (.of (hH _ _ hp))
  rw [b] at e; cases e
  exact ⟨F,.refl fJ,T.mono hF c⟩
def rngI (lo:Int)(n:Nat):List Int:=(List.range n).map fun (i:Nat)=>lo+i
theorem zo7_ {lo:Int}{n:Nat}{F1:Hp}:Yl K (Itr lo n) (rngI lo n) tyInt F1:=by
 refine ⟨fun i H x hH hx=>?_,fun H hH=>?_⟩
 ·unfold rngI at hx
  rw [List.getElem?_map] at hx
  cases e:(List.range n)[i]? with
  | none=>rw [e] at hx; cases hx
  | some c =>
   rw [e] at hx; cases hx
   obtain ⟨hi,e⟩:=List.getElem?_eq_some_iff.mp e
   rw [List.getElem_range] at e; subst e
   rw [List.length_range] at hi
   refine ⟨hi,?_⟩
   rintro v H' ⟨rfl,rfl⟩ F _ hF
   exact ⟨F,.refl hF,rfl⟩
 ·show n<=_
  unfold rngI; rw [List.length_map,List.length_range]; exact Nat.le_refl _
theorem zl3_ {r:Mo Int}{ta:TA}(h:EvA K ta E L r (csLast tyInt)):EvI K (mRng1 ta) E L (r.bind fun j=>.grd (-(2 ^ 62)<=j/\j<2 ^ 62) (.ok (rngI 0 j.toNat))) tyInt:=by
 intro σ F H R hL hs q
 refine h σ F H _ hL hs (q.bind.imp fun l F1 H1 x1 k1 v hv=>?_)
 obtain ⟨u,rfl,rfl⟩:=hv
 obtain ⟨z,k1⟩:=k1.grd
 exact ⟨z.1,z.2,k1.ok x1.2.1 _ zo7_⟩
theorem zlE_ {r:Mo (Int×Int)}{ta:TA}(h:EvA K ta E L r (csCons tyInt (csLast tyInt))):EvI K (mRng2 ta) E L (r.bind fun c=>.grd (-(2 ^ 62)<=c.1/\c.1<2 ^ 62 /\ -(2 ^ 62)<=c.2/\c.2<2 ^ 62) (.ok (rngI c.1 (c.2-c.1).toNat))) tyInt:=by
 intro σ F H R hL hs q
 refine h σ F H _ hL hs (q.bind.imp fun l F1 H1 x1 k1 v hv=>?_)
 obtain ⟨u,us,rfl,rfl,w,rfl,rfl⟩:=hv
 obtain ⟨z,k1⟩:=k1.grd
 exact ⟨z,k1.ok x1.2.1 _ zo7_⟩
def enumL (xs:List α):List (Int×α):=(List.range xs.length).zip xs |>.map fun q=>((q.1:Int),q.2)
theorem zeQ_ (xs:List α)(i:Nat):(enumL xs)[i]?=(xs[i]?).map fun x=>((i:Int),x):=by
 unfold enumL
 rw [List.getElem?_map]
 cases e:xs[i]? with
 | none =>
  have:=List.getElem?_eq_none_iff.mp e
  rw [List.getElem?_eq_none (by rw [List.length_zip,List.length_range]; lia)]; rfl
 | some x =>
  have hi:=(List.getElem?_eq_some_iff.mp e).1
  have:((List.range xs.length).zip xs)[i]?=some (i,x):=List.getElem?_zip_eq_some.mpr ⟨by rw [List.getElem?_range hi],e⟩
  rw [this]; rfl
theorem zdL_ (xs:List α):(enumL xs).length=xs.length:=by unfold enumL; rw [List.length_map,List.length_zip,List.length_range,Nat.min_self]
theorem zlR_ {r:Mo (List α)}{ta:TA}(h:EvA K ta E L r (csLast (tyL T))):EvI K (iEnum K ta) E L (r.bind fun l=>.ok (enumL l)) (tyTup (csCons tyInt (csLast T))):=by
 intro σ F H R hL hs q
 refine h σ F H _ hL hs (q.bind.imp fun l F1 H1 x1 k1 vs hv=>?_)
 obtain ⟨v,rfl,p,us,rfl,hp,hr⟩:=hv
 refine ⟨⟨us,.of (x1.2.1 _ _ hp)⟩,k1.ok x1.2.1 _ ⟨fun i H x hH hx=>?_,fun H hH=>?_⟩⟩
 ·rw [zeQ_] at hx
  rcases hr.get i with ⟨a,_⟩ | ⟨y,u,a,b,c⟩
  ·rw [a] at hx; cases hx
  ·rw [a] at hx; cases hx
   refine ⟨⟨us,u,.of (hH _ _ hp),b⟩,?_⟩
   rintro v H' ⟨p2,w,z,cW,rfl,rfl⟩ F hF fJ
   have e:=z us (.of (hH _ _ hp))
   rw [b] at e; cases e
   have x:=Ext.new (o:=.tup [.int i,u]) fJ cW
   exact ⟨_,x,p2,_,rfl,zx_,_,_,rfl,rfl,u,rfl,T.mono (hF.trans x.1) c⟩
 ·exact ⟨us,.of (hH _ _ hp),by rw [zdL_,hr.len]; exact Nat.le_refl _⟩
theorem zqT_ {T2:Ty β}{r:Mo (List α×List β)}{ta:TA}(h:EvA K ta E L r (csCons (tyL T) (csLast (tyL T2)))):EvI K (iZip K ta) E L (r.bind fun c=>.ok (c.1.zip c.2)) (tyTup (csCons T (csLast T2))):=by
 intro σ F H R hL hs q
 refine h σ F H _ hL hs (q.bind.imp fun l F1 H1 x1 k1 vs hv=>?_)
 obtain ⟨v,ws,rfl,⟨p,us,rfl,hp,hr⟩,v2,rfl,p2,us2,rfl,cW,ee⟩:=hv
 refine ⟨⟨us,.of (x1.2.1 _ _ hp)⟩,⟨us2,.of (x1.2.1 _ _ cW)⟩,k1.ok x1.2.1 _ ⟨fun i H x hH hx=>?_,fun H hH=>?_⟩⟩
 ·obtain ⟨eU,cU⟩:=List.getElem?_zip_eq_some.mp (show (l.1.zip l.2)[i]?=some (x.1,x.2) from hx)
  rcases hr.get i with ⟨a,_⟩ | ⟨y,u,a,b,c⟩
  ·rw [a] at eU; cases eU
  rcases ee.get i with ⟨a',_⟩ | ⟨y',u',a',b',c'⟩
  ·rw [a'] at cU; cases cU
  rw [a] at eU; rw [a'] at cU
  injection eU with eU
  injection cU with cU
  refine ⟨⟨us,us2,u,u',.of (hH _ _ hp),.of (hH _ _ cW),b,b'⟩,?_⟩
  rintro v H' ⟨p3,w,w',z,z',hp3,rfl,rfl⟩ F hF fJ
  have e:=z us (.of (hH _ _ hp))
  have e':=z' us2 (.of (hH _ _ cW))
  rw [b] at e; cases e
  rw [b'] at e'; cases e'
  have x':=Ext.new (o:=.tup [u,u']) fJ hp3
  refine ⟨_,x',p3,_,rfl,zx_,_,_,rfl,?_,u',rfl,?_⟩
  ·rw [<- eU]; exact T.mono (hF.trans x'.1) c
  ·rw [<- cU]; exact T2.mono (hF.trans x'.1) c'
 ·refine ⟨us,us2,.of (hH _ _ hp),.of (hH _ _ cW),?_⟩
  rw [List.length_zip,hr.len,ee.len]
  omega
def compM (f:α->Mo (Option β)):List α->List β->Mo (List β)
 | [],acc=>.ok acc
 | x::xs,acc=>(f x).bind fun o=>match o with | none=>compM f xs acc | some y=>.lim (acc.length+1) (compM f xs (acc++[y]))
theorem zfe_ {f:α->Mo (Option β)}{g:α->β}:∀ {xs:List α}{acc:List β},(∀ x∈xs,f x=.ok (some (g x)))->acc.length+xs.length<=100000->compM f xs acc=.ok (acc++xs.map g)
 | [],acc,_,_=>by unfold compM; rw [List.map_nil,List.append_nil]
 | x::xs,acc,h,hl=>by
  rw [List.length_cons] at hl
  unfold compM
  rw [h x List.mem_cons_self,Mo.ok_bind]
  show Mo.lim _ _=_
  rw [Mo.lim_ok (by lia),zfe_ (fun y hy=>h y (List.mem_cons_of_mem _ hy)) (by rw [List.length_append,List.length_singleton]; lia)]
  simp
theorem zbj_ {f:α->Mo (Option β)}{g:α->Option β}:∀ {xs:List α}{acc:List β},(∀ x∈xs,f x=.ok (g x))->acc.length+xs.length<=100000->compM f xs acc=.ok (acc++xs.filterMap g)
 | [],acc,_,_=>by unfold compM; rw [List.filterMap_nil,List.append_nil]
 | x::xs,acc,h,hl=>by
  rw [List.length_cons] at hl
  unfold compM
  rw [h x List.mem_cons_self,Mo.ok_bind,List.filterMap_cons]
  cases e:g x with
  | none=>exact zbj_ (fun y hy=>h y (List.mem_cons_of_mem _ hy)) (by lia)
  | some z =>
   show Mo.lim _ _=_
   rw [Mo.lim_ok (by lia),zbj_ (fun y hy=>h y (List.mem_cons_of_mem _ hy)) (by rw [List.length_append,List.length_singleton]; lia)]
   simp
theorem zd5_ {f:α->Mo (Option α)}{g:α->Bool}{xs acc:List α}(h:∀ x∈xs,f x=.ok (if g x then some x else none))(hl:acc.length+xs.length<=100000):compM f xs acc=.ok (acc++xs.filter g):=by
 rw [zbj_ h hl]
 congr 2
 induction xs with
 | nil=>rfl
 | cons x xs ih =>
  rw [List.filterMap_cons,List.filter_cons]
  cases e:g x with
  | true=>simp only [if_true]; rw [ih (fun y hy=>h y (List.mem_cons_of_mem _ hy)) (by rw [List.length_cons] at hl; lia)]
  | false=>exact ih (fun y hy=>h y (List.mem_cons_of_mem _ hy)) (by rw [List.length_cons] at hl; lia)
def cL (lv:List Str)(fr:List (Str×Nat))(L:List Sl):List Sl:=lv.map (fun _=>Sl.dead)++fr.map fun q=>(L[q.2]?).getD .dead
theorem ziL_ {lv:List Str}{fr:List (Str×Nat)}{σ:St}(h:HoldF L σ F):HoldF (cL lv fr L) (cS lv fr σ) F:=by
 intro i s e
 unfold cL at e
 unfold cS
 by_cases hi:i<lv.length
 ·rw [List.getElem?_append_left (by rw [List.length_map]; exact hi),List.getElem?_map,List.getElem?_eq_getElem hi] at e
  cases e; trivial
 ·rw [List.getElem?_append_right (by rw [List.length_map]; lia),List.length_map,List.getElem?_map] at e
  rw [List.getElem?_append_right (by rw [List.length_map]; lia),List.length_map,List.getElem?_map]
  cases z:fr[i-lv.length]? with
  | none=>rw [z] at e; cases e
  | some q =>
   rw [z] at e
   have e:(L[q.2]?).getD .dead=s:=by simpa using e
   show Sl.Z s (σ[q.2]?).join F
   cases y:L[q.2]? with
   | none=>rw [y] at e; rw [<- e]; trivial
   | some t=>rw [y] at e; cases e; exact h _ _ y
theorem zn5_ {lv:List Str}{fr:List (Str×Nat)}{σ:St}:(cL lv fr L).length=(cS lv fr σ).length:=by unfold cL cS; simp
def cond1 (c:Mo Bool)(f:Mo β):Mo (Option β):=(c.bind fun b=>if b then f.bind fun y=>.ok (some y) else .ok none).noex
end
inductive Out (ρ B S:Type) where
 | nx (s:S) | rt (r:ρ) | bk (b:B) | ct (b:B)
def Okk (F0 H0 F h H:Hp):Prop:=Ext F0 H0 F H/\Dj F h/\Same h H/\(∀ p,h p≠none->H0 p=none)/\∀ p xs,h p≠some (.tup xs)
section
variable {K:Fgg}{E:XK}{α γ ρ S S' B:Type}{F0 H0 F h H:Hp}{L:List Sl}{e e1 e2:TE}{T:Ty α}{r:Mo α}{O:Own ρ}
def Fin (K:Fgg)(r:Mo (Out ρ B S))(E:XK)(LS:S->List Sl)(LB:B->List Sl)(O:Own ρ)(F0 H0:Hp)(D:Ends):Prop:=match r with
 | .ok (.nx s)=>∀ σ F h H,Hold (LS s) σ F h->Okk F0 H0 F h H->D.nx σ H
 | .ok (.bk b)=>∀ σ F h H,Hold (LB b) σ F h->Okk F0 H0 F h H->D.bk σ H
 | .ok (.ct b)=>∀ σ F h H,Hold (LB b) σ F h->Okk F0 H0 F h H->D.ct σ H
 | .ok (.rt a)=>∀ v F h H,Okk F0 H0 F h H->O.O a v F h->D.rt v H
 | .ex c=>∀ F h H,Okk F0 H0 F h H->Tell K E c H0 F H
 | .no=>False
def EvS (K:Fgg)(t:TS)(E:XK)(L:List Sl)(r:Mo (Out ρ B S))(LS:S->List Sl)(LB:B->List Sl)(O:Own ρ):Prop:=
 ∀ F0 H0 σ F h H (D:Ends),Hold L σ F h->Okk F0 H0 F h H->Fin K r E LS LB O F0 H0 D->t D σ H
variable {t u:TS}{LS:S->List Sl}{oP:S'->List Sl}{LB:B->List Sl}
def thenO (r:Mo (Out ρ B S))(k:S->Mo (Out ρ B S')):Mo (Out ρ B S'):=r.bind fun o=>match o with | .nx s=>k s | .rt a=>.ok (.rt a) | .bk b=>.ok (.bk b) | .ct b=>.ok (.ct b)
theorem zbv_ {r:Mo (Out ρ B S)}{k:S->Mo (Out ρ B S')}(h1:EvS K t E L r LS LB O)(h2:∀ s,EvS K u E (LS s) (k s) oP LB O):EvS K (tSeq t u) E L (thenO r k) oP LB O:=by
 intro F0 H0 σ F h H D hL ok fin
 refine h1 F0 H0 σ F h H { D with nx:=u D } hL ok ?_
 cases r with
 | no=>exact fin
 | ex c=>exact fin
 | ok o =>
  cases o with
  | nx s=>exact fun σ F h H hL ok=>h2 s F0 H0 σ F h H D hL ok fin
  | rt a=>exact fin
  | bk b=>exact fin
  | ct b=>exact fin
theorem Okk.thaw (ok:Okk F0 H0 F h H):Same (un F h) H:=fun p o e=>by
 unfold un at e
 cases z:F p with
 | some w=>rw [z] at e; cases e; exact ok.1.2.1 _ _ z
 | none=>rw [z] at e; exact ok.2.2.1 _ _ e
def less (G h:Hp):Hp:=fun p=>match h p with | none=>G p | some _=>none
theorem zr_ {G h:Hp}{p:Addr}(e:h p=none):less G h p=G p:=by unfold less; rw [e]
theorem Okk.back (ok:Okk F0 H0 F h H){G' H':Hp}(x:Ext (un F h) H G' H'):Okk F0 H0 (less G' h) h H'/\Same F (less G' h)/\Tups G' (less G' h):=by
 obtain ⟨o1,o2,o3,o4,o5⟩:=ok
 have hs:Same F (less G' h):=fun p o e=>by
  have hp:h p=none:=by
   rcases o2 p with z | z
   ·rw [z] at e; cases e
   ·exact z
  rw [zr_ hp]; exact x.1 _ _ (zO_ _ _ e)
 refine ⟨⟨⟨o1.1.trans hs,fun p o e=>?_,o1.2.2.1.trans x.2.2.1,fun p a b=>?_⟩,fun p=>?_,fun p o e=>?_,o4,o5⟩,hs,fun p xs e=>?_⟩
 ·unfold less at e
  split at e
  ·exact x.2.1 _ _ e
  ·cases e
 ·unfold less at b
  split at b
  ·rename_i z
   cases y:un F h p with
   | none=>exact o1.2.2.1.free (x.2.2.2 p y b)
   | some o =>
    unfold un at y
    cases w:F p with
    | some _=>exact o1.2.2.2 p a (by rw [w]; exact sN _)
    | none=>rw [w,z] at y; cases y
  ·exact absurd rfl b
 ·unfold less
  cases z:h p with
  | none=>exact .inr rfl
  | some o=>exact .inl rfl
 ·exact x.2.1 _ _ (x.1 _ _ (zg6_ o2 _ _ e))
 ·unfold less
  cases z:h p with
  | none=>exact e
  | some o =>
   have:=x.1 _ _ (zg6_ o2 _ _ z)
   rw [e] at this; cases this
   exact absurd z (o5 p xs)
theorem Tell.back {x:Xc}(ok:Okk F0 H0 F h H){G' H':Hp}(y:Ext (un F h) H G' H')(t:Tell K E x H0 (less G' h) H'):Tell K E x H G' H':=by
 cases x with
 | pl c=>exact t
 | «at» c as =>
  refine fun dx fs e q r=>t dx fs (ok.1.2.2.1.free e) ?_ (r.imm (ok.back y).2.2)
  rw [zr_ (ok.2.2.1.free e)]; exact q
theorem zW_ {r:Mo α}{k:α->Mo (Out ρ B S)}{G:Hp}{D:Ends}{kk:α->Hp->Hp->Prop}(ok:Okk F0 H0 F h H)(G1:Hp)(hG:G1=un F h\/G1=F)(fin:Fin K (r.bind k) E LS LB O F0 H0 D)
  (hk:∀ a F' H',r=.ok a->Ext G1 H F' H'->kk a F' H'):After K r E G1 H kk:=by
 cases r with
 | ok a=>exact fun F' H' x=>hk a F' H' rfl x
 | no=>exact fin
 | ex c =>
  intro F' H' x
  rcases hG with rfl | rfl
  ·exact (fin _ _ _ (ok.back x).1).back ok x
  ·refine Tell.up ok.1.2.2.1 (fin F' h H' ⟨ok.1.trans x,fun p=>?_,ok.2.2.1.trans x.2.2.1,ok.2.2.2.1,ok.2.2.2.2⟩)
   cases z:h p with
   | none=>exact .inr rfl
   | some o =>
    left
    rcases ok.2.1 p with y | y
    ·cases w:F' p with
     | none=>rfl
     | some o'=>have:=x.2.2.2 p y (by rw [w]; exact sN _); rw [ok.2.2.1 _ _ z] at this; cases this
    ·rw [y] at z; cases z
theorem Okk.cold (ok:Okk F0 H0 F h H){F' H':Hp}(x:Ext F H F' H'):Okk F0 H0 F' h H':=by
 refine ⟨ok.1.trans x,fun p=>?_,ok.2.2.1.trans x.2.2.1,ok.2.2.2.1,ok.2.2.2.2⟩
 cases z:h p with
 | none=>exact .inr rfl
 | some o =>
  left
  rcases ok.2.1 p with y | y
  ·cases w:F' p with
   | none=>rfl
   | some o'=>have:=x.2.2.2 p y (by rw [w]; exact sN _); rw [ok.2.2.1 _ _ z] at this; cases this
  ·rw [y] at z; cases z
theorem zdJ_ {i:Nat}{s:Sl}{σ:St}{a:α}{v:V}(hi:L[i]?=some s)(hL:Hold L σ F h)(hv:T.R a v F):Hold (L.set i (.fz T a)) (σ.set i (some v)) F h:=by
 obtain ⟨o,h1,h2,_,j,_,f⟩:=hL.at i hi
 exact f (.fz T a) (some v) h1 h j ⟨v,rfl,hv⟩
theorem zkZ_ {i:Nat}{s:Sl}{σ:St}{a:α}{v:V}{O1:Own α}{hn:Hp}(ok:Okk F0 H0 F h H)(hi:L[i]?=some s)(hL:Hold L σ F h)(fresh:∀ p,hn p≠none->H0 p=none)(dj:Dj F hn)(dh:Dj hn h)(hs:Same hn H)(hv:O1.O a v F hn):
  ∃ h',Hold (L.set i (.ow O1 a)) (σ.set i (some v)) F h'/\Okk F0 H0 F h' H:=by
 obtain ⟨o,h1,h2,_,j,_,f⟩:=hL.at i hi
 have d2:Dj hn h2:=fun p=>by
  rcases dh p with z | z
  ·exact .inl z
  ·exact .inr (j.r.free z)
 refine ⟨un hn h2,f (.ow O1 a) (some v) hn _ (zcv_ d2) ⟨v,rfl,hv⟩,ok.1,fun p=>?_,fun p o e=>?_,fun p e=>?_,fun p xs e=>?_⟩
 ·unfold un
  cases z:hn p with
  | some w =>
   rcases dj p with y | y
   ·exact .inl y
   ·rw [y] at z; cases z
  | none =>
   rcases ok.2.1 p with y | y
   ·exact .inl y
   ·exact .inr (j.r.free y)
 ·unfold un at e
  cases z:hn p with
  | some w=>rw [z] at e; cases e; exact hs _ _ z
  | none=>rw [z] at e; exact ok.2.2.1 _ _ (j.r _ _ e)
 ·unfold un at e
  cases z:hn p with
  | some w=>exact fresh p (by rw [z]; exact sN _)
  | none =>
   rw [z] at e
   cases y:h2 p with
   | none=>exact absurd y e
   | some w=>exact ok.2.2.2.1 p (by rw [j.r _ _ y]; exact sN _)
 ·unfold un at e
  cases z:hn p with
  | some w=>rw [z] at e; cases e; exact O1.notup hv p xs z
  | none=>rw [z] at e; exact ok.2.2.2.2 p xs (j.r _ _ e)
theorem zc7_ {i:Nat}{s:Sl}{k:α->Mo (Out ρ B S)}(hi:L[i]?=some s)(hT:Imm T)(he:EvF K e E L r T)(hk:∀ a,EvS K u E (L.set i (.fz T a)) (k a) LS LB O):EvS K (tSeq (tAsg e (gName i)) u) E L (r.bind k) LS LB O:=by
 intro F0 H0 σ F h H D hL ok fin
 refine he σ (un F h) H _ (hL.froz ok.2.1) ok.thaw (zW_ (G:=F) ok _ (.inl rfl) fin fun a F' H' hr x v hv=>?_)
 obtain ⟨o,hs,ht⟩:=ok.back x
 rw [hr] at fin
 exact hk a F0 H0 _ _ h H' D (zdJ_ hi (hL.mono hs) (hT ht hv)) o fin
theorem zqk_ {hn h:Hp}(hh:Same h H)(fresh:∀ p,hn p≠none->H p=none):Dj hn h:=fun p=>by
 cases z:hn p with
 | none=>exact .inl rfl
 | some w =>
  have:=fresh p (by rw [z]; exact sN _)
  exact .inr (hh.free this)
theorem zb1_ {i:Nat}{s:Sl}{O1:Own α}{k:α->Mo (Out ρ B S)}(hi:L[i]?=some s)(hO:ImmO O1)(he:EvO K e E L r O1)(hk:∀ a,EvS K u E (L.set i (.ow O1 a)) (k a) LS LB O):EvS K (tSeq (tAsg e (gName i)) u) E L (r.bind k) LS LB O:=by
 intro F0 H0 σ F h H D hL ok fin
 refine he σ (un F h) H _ (hL.froz ok.2.1) ok.thaw (zW_ (G:=F) ok _ (.inl rfl) fin fun a F' H' hr x v hn fresh dj eZ hv=>?_)
 obtain ⟨o,hs,ht⟩:=ok.back x
 rw [hr] at fin
 have qJ:Dj (less F' h) hn:=fun p=>by
  unfold less
  cases z:h p with
  | none=>exact dj p
  | some w=>exact .inl rfl
 obtain ⟨h',a1,a2⟩:=zkZ_ o hi (hL.mono hs) (fun p z=>ok.1.2.2.1.free (fresh p z)) qJ (zqk_ ok.2.2.1 fresh) eZ (hO ht hv)
 exact hk a F0 H0 _ _ h' H' D a1 a2 fin
theorem zaY_ {α:Type}{l:List α}{i:Nat}{o:α}(h:l[i]?=some o):l.set i o=l:=by
 obtain ⟨hi,e⟩:=List.getElem?_eq_some_iff.mp h
 rw [<- e]; exact List.set_getElem_self hi
theorem zl6_ {i:Nat}{O1:Own α}{a:α}{r:Mo (Out ρ B S)}(hi:L[i]?=some (.ow O1 a))(hk:EvS K u E (L.set i (.fz O1.fr a)) r LS LB O):EvS K u E L r LS LB O:=by
 intro F0 H0 σ F h H D hL ok fin
 obtain ⟨o,h1,h2,e1,j,⟨v,e2,hv⟩,f⟩:=hL.at i hi
 obtain ⟨o1,o2,o3,o4,o5⟩:=ok
 have qI:Dj F h1:=fun p=>by
  rcases o2 p with z | z
  ·exact .inl z
  ·exact .inr (j.l.free z)
 have mC:Dj F h2:=fun p=>by
  rcases o2 p with z | z
  ·exact .inl z
  ·exact .inr (j.r.free z)
 have g1:Hold (L.set i (.dead)) σ F h2:=by
  have:=f .dead o (fun _=>none) h2 (fun p=>.inl ⟨rfl,rfl⟩) trivial
  rwa [zaY_ e1] at this
 have g2:Hold (L.set i (.fz O1.fr a)) σ (un F h1) h2:=by
  have g3:=g1.mono (zO_ (h:=h1))
  have lK:(L.set i Sl.dead)[i]?=some .dead:=by
   rw [List.getElem?_set_self]
   exact (List.getElem?_eq_some_iff.mp hi).1
  have:=zdJ_ (T:=O1.fr) lK g3 (O1.frz qI hv)
  rw [List.set_set] at this
  subst e2
  rwa [zaY_ e1] at this
 refine hk F0 H0 σ _ h2 H D g2 ⟨⟨o1.1.trans zO_,fun p o e=>?_,o1.2.2.1,fun p a b=>?_⟩,fun p=>?_,j.r.trans o3,fun p z=>?_,fun p xs e=>o5 p xs (j.r _ _ e)⟩ fin
 ·unfold un at e
  cases z:F p with
  | some w=>rw [z] at e; cases e; exact o1.2.1 _ _ z
  | none=>rw [z] at e; exact o3 _ _ (j.l _ _ e)
 ·unfold un at b
  cases z:F p with
  | some w=>exact o1.2.2.2 p a (by rw [z]; exact sN _)
  | none =>
   rw [z] at b
   cases y:h1 p with
   | none=>exact absurd y b
   | some w=>exact o4 p (by rw [j.l _ _ y]; exact sN _)
 ·unfold un
  cases z:F p with
  | some w =>
   rcases mC p with y | y
   ·rw [y] at z; cases z
   ·exact .inr y
  | none=>exact j.dj p
 ·cases y:h2 p with
  | none=>exact absurd y z
  | some w=>exact o4 p (by rw [j.r _ _ y]; exact sN _)
theorem zaW_ {r:Mo ρ}(hO:ImmO O)(he:EvO K e E L r O):EvS K (tRet e) E L (r.bind fun a=>.ok (.rt a)) LS LB O:=by
 intro F0 H0 σ F h H D hL ok fin
 refine he σ (un F h) H _ (hL.froz ok.2.1) ok.thaw (zW_ (G:=F) ok _ (.inl rfl) fin fun a F' H' hr x v hn fresh dj eZ hv=>?_)
 obtain ⟨o,hs,ht⟩:=ok.back x
 rw [hr] at fin
 refine fin v _ hn H' ⟨o.1,fun p=>?_,eZ,fun p z=>ok.1.2.2.1.free (fresh p z),O.notup hv⟩ (hO ht hv)
 unfold less
 cases z:h p with
 | none=>exact dj p
 | some w=>exact .inl rfl
theorem ziU_ {i:Nat}{a:ρ}(hi:L[i]?=some (.ow O a)):EvS K (tRet (mVar i)) E L (.ok (.rt a)) LS LB O:=by
 intro F0 H0 σ F h H D hL ok fin
 obtain ⟨o,h1,h2,e1,j,⟨v,e2,hv⟩,f⟩:=hL.at i hi
 subst e2
 show mVar i σ H D.rt
 unfold mVar
 rw [e1]
 obtain ⟨o1,o2,o3,o4,o5⟩:=ok
 refine fin v F h1 H ⟨o1,fun p=>?_,j.l.trans o3,fun p z=>?_,O.notup hv⟩ hv
 ·rcases o2 p with z | z
  ·exact .inl z
  ·exact .inr (j.l.free z)
 ·cases y:h1 p with
  | none=>exact absurd y z
  | some w=>exact o4 p (by rw [j.l _ _ y]; exact sN _)
theorem s_if {c:TT}{b:Mo Bool}{r1 r2:Mo (Out ρ B S)}(hc:EvT K c E L b)(h1:EvS K t E L r1 LS LB O)(h2:EvS K u E L r2 LS LB O):EvS K (mIfS c t u) E L (b.bind fun c=>if c then r1 else r2) LS LB O:=by
 intro F0 H0 σ F h H D hL ok fin
 refine hc σ (un F h) H _ (hL.froz ok.2.1) ok.thaw (zW_ (G:=F) ok _ (.inl rfl) fin fun a F' H' hr x=>?_)
 obtain ⟨o,hs,ht⟩:=ok.back x
 rw [hr] at fin
 have a_:Fin K (if a then r1 else r2) E LS LB O F0 H0 D:=fin
 refine ⟨fun z=>?_,fun z=>?_⟩
 ·rw [if_pos z] at a_; exact h1 F0 H0 σ _ h H' D (hL.mono hs) o a_
 ·rw [if_neg (by rw [z]; decide)] at a_; exact h2 F0 H0 σ _ h H' D (hL.mono hs) o a_
inductive Sub:List Sl->List Sl->Prop
 | nil:Sub [] []
 | same {s:Sl}{L L':List Sl}(h:Sub L L'):Sub (s::L) (s::L')
 | dead {s:Sl}{L L':List Sl}(h:Sub L L'):Sub (s::L) (.dead::L')
theorem Sub.hold {L L':List Sl}(w:Sub L L'):∀ {σ:St}{F h:Hp},Hold L σ F h->Hold L' σ F h:=by
 induction w with
 | nil=>exact fun h=>h
 | same _ ih =>
  intro σ F h q
  cases σ with
  | nil=>exact q.elim
  | cons o σ=>obtain ⟨h1,h2,j,p,r⟩:=q; exact ⟨h1,h2,j,p,ih r⟩
 | dead _ ih =>
  intro σ F h q
  cases σ with
  | nil=>exact q.elim
  | cons o σ=>obtain ⟨h1,h2,j,p,r⟩:=q; exact ⟨h1,h2,j,trivial,ih r⟩
theorem zo_ {s:S}(w:Sub L (LS s)):EvS K tNext E L (.ok (.nx s)) LS LB O:=fun F0 H0 σ F h H D hL ok fin=>fin σ F h H (w.hold hL) ok
theorem zev_ {r:Mo (Out ρ B S)}(h:EvS K (tSeq t tNext) E L r LS LB O):EvS K t E L r LS LB O:=h
def forO (step:S->α->Mo (Out ρ S S)):List α->S->Mo (Out ρ B S)
 | [],s=>.ok (.nx s)
 | x::xs,s=>(step s x).bind fun o=>match o with | .nx s'=>forO step xs s' | .ct s'=>forO step xs s' | .bk s'=>.ok (.nx s') | .rt a=>.ok (.rt a)
theorem ziW_ {ss:List (Nat×Sl)}{vs:List (Nat×Option V)}(p:Plain F ss vs):∀ {L:List Sl}{σ:St},Hold L σ F h->Hold (setL L ss) (setS σ vs) F h:=by
 induction p with
 | nil=>exact fun h=>h
 | cons hv t ih =>
  rename_i T a i v ss vs
  intro L σ q
  refine ih (L:=L.set i (.fz T a)) (σ:=σ.set i (some v)) ?_
  by_cases hi:i<L.length
  ·exact zdJ_ (List.getElem?_eq_getElem hi) q hv
  ·rw [List.set_eq_of_length_le (by lia),List.set_eq_of_length_le (by have:=q.len; lia)]; exact q
theorem Okk.rebase {F1 H1:Hp}(x:Ext F0 H0 F1 H1)(ok:Okk F0 H0 F h H)(s:Same F1 F):Okk F1 H0 F h H:=by
 obtain ⟨o1,o2,o3,o4,o5⟩:=ok
 refine ⟨⟨s,o1.2.1,o1.2.2.1,fun p a b=>o1.2.2.2 p (x.1.free a) b⟩,o2,o3,o4,o5⟩
theorem Okk.unbase {F1 H1:Hp}(x:Ext F0 H0 F1 H1)(ok:Okk F1 H0 F h H):Okk F0 H0 F h H:=by
 obtain ⟨o1,o2,o3,o4,o5⟩:=ok
 refine ⟨⟨x.1.trans o1.1,o1.2.1,o1.2.2.1,fun p a b=>?_⟩,o2,o3,o4,o5⟩
 cases z:F1 p with
 | none=>exact o1.2.2.2 p z b
 | some w=>exact x.2.2.2 p a (by rw [z]; exact sN _)
theorem ziD_ {wi:TI}{g:TG}{tb:TS}{s0:S}{r:Mo (List α)}{ss:α->List (Nat×Sl)}{step:S->α->Mo (Out ρ S S)}(hi:EvI K wi E ((LS s0).map Sl.cold) r T)(hg:TgR K g T ss)
  (hb:∀ s a,EvS K tb E (setL (LS s) (ss a)) (step s a) LS LS O):EvS K (tFor wi g tb) E (LS s0) (r.bind fun xs=>forO step xs s0) LS LB O:=by
 intro F0 H0 σ F h H D hL ok fin
 refine hi σ F H _ hL.coldF ok.1.2.1 (zW_ (G:=F) ok _ (.inr rfl) fin fun xs F1 H1 hr x1 J Y=>?_)
 rw [hr] at fin
 have xx:=ok.1.trans x1
 refine ⟨fun i m σ H=>m=xs.length-i/\i<=xs.length/\∃ s F h,Hold (LS s) σ F h/\Okk F1 H0 F h H/\Fin K (forO (B:=B) step (xs.drop i) s) E LS LB O F0 H0 D,
  ⟨_,rfl,Nat.zero_le _,s0,F1,h,hL.mono x1.1,(ok.cold x1).rebase xx (Same.refl _),fin⟩,?_⟩
 rintro i m σ H ⟨rfl,hi,s,F,h,hL,ok,fin⟩
 have s1:Same F1 H:=ok.1.1.trans ok.1.2.1
 by_cases bw:i<xs.length
 ·right
  obtain ⟨g1,g2⟩:=Y.go i H xs[i] s1 (List.getElem?_eq_getElem bw)
  refine ⟨g1,fun au H'=>i+1<=xs.length/\∃ s F h,Hold (LS s) au F h/\Okk F1 H0 F h H'/\Fin K (forO (B:=B) step (xs.drop (i+1)) s) E LS LB O F0 H0 D,fun au H' z=>⟨xs.length-(i+1),by omega,rfl,z⟩,fun v H2 hy=>?_⟩
  obtain ⟨F2,x2,hv⟩:=g2 v H2 hy F ok.1.1 ok.1.2.1
  refine hg xs[i] v σ F2 H2 _ x2.2.1 hv fun vs hp=>?_
  refine hb s xs[i] F1 H0 _ F2 h H2 _ (ziW_ hp (hL.mono x2.1)) (ok.cold x2) ?_
  rw [List.drop_eq_getElem_cons bw] at fin
  unfold forO at fin
  cases e:step s xs[i] with
  | no=>rw [e] at fin; exact fin
  | ex c=>rw [e] at fin; exact fun F h H ok=>fin F h H (ok.unbase xx)
  | ok o =>
   rw [e] at fin
   cases o with
   | nx s'=>exact fun au F' h' H' cq fA=>⟨bw,s',F',h',cq,fA,fin⟩
   | ct s'=>exact fun au F' h' H' cq fA=>⟨bw,s',F',h',cq,fA,fin⟩
   | bk s'=>exact fun au F' h' H' cq fA=>fin au F' h' H' cq (fA.unbase xx)
   | rt a=>exact fun v F h H ok=>fin v F h H (ok.unbase xx)
 ·left
  have e:i=xs.length:=by omega
  subst e
  rw [List.drop_length] at fin
  exact ⟨Y.stop H s1,fin σ F h H hL (ok.unbase xx)⟩
def whileO (c:S->Mo Bool)(step:S->Mo (Out ρ S S)):Nat->S->Mo (Out ρ B S)
 | 0,_=>.no
 | n+1,s=>(c s).bind fun b=>if b then (step s).bind fun o=>match o with | .nx s'=>whileO c step n s' | .ct s'=>whileO c step n s' | .bk s'=>.ok (.nx s') | .rt a=>.ok (.rt a) else .ok (.nx s)
theorem zow_ {tc:TT}{tb:TS}{s0:S}(n:Nat){c:S->Mo Bool}{step:S->Mo (Out ρ S S)}(hc:∀ s,EvT K tc E (LS s) (c s))(hb:∀ s,EvS K tb E (LS s) (step s) LS LS O):
  EvS K (tWhile tc tb) E (LS s0) (whileO c step n s0) LS LB O:=by
 intro F0 H0 σ F h H D hL ok fin
 refine ⟨fun m σ H=>∃ s F h,Hold (LS s) σ F h/\Okk F0 H0 F h H/\Fin K (whileO (B:=B) c step m s) E LS LB O F0 H0 D,⟨n,s0,F,h,hL,ok,fin⟩,?_⟩
 rintro m σ H ⟨s,F,h,hL,ok,fin⟩
 cases m with
 | zero=>exact fin.elim
 | succ m =>
  unfold whileO at fin
  refine hc s σ (un F h) H _ (hL.froz ok.2.1) ok.thaw (zW_ (G:=F) ok _ (.inl rfl) fin fun a F' H' hr x=>?_)
  obtain ⟨o,hs,ht⟩:=ok.back x
  rw [hr] at fin
  cases a with
  | false=>rw [if_neg (by decide)]; exact fin σ _ h H' (hL.mono hs) o
  | true =>
   rw [if_pos rfl]
   refine ⟨fun au gR=>∃ s F h,Hold (LS s) au F h/\Okk F0 H0 F h gR/\Fin K (whileO (B:=B) c step m s) E LS LB O F0 H0 D,fun au gR z=>⟨m,Nat.lt_succ_self _,z⟩,?_⟩
   refine hb s F0 H0 σ _ h H' _ (hL.mono hs) o ?_
   have a_:Fin K ((step s).bind fun o=>match o with | .nx s'=>whileO (B:=B) c step m s' | .ct s'=>whileO c step m s' | .bk s'=>.ok (.nx s') | .rt a=>.ok (.rt a)) E LS LB O F0 H0 D:=fin
   cases e:step s with
   | no=>rw [e] at a_; exact a_
   | ex c=>rw [e] at a_; exact a_
   | ok o =>
    rw [e] at a_
    cases o with
    | nx s'=>exact fun au F' h' H' cq fA=>⟨s',F',h',cq,fA,a_⟩
    | ct s'=>exact fun au F' h' H' cq fA=>⟨s',F',h',cq,fA,a_⟩
    | bk s'=>exact a_
    | rt a=>exact a_
theorem zbz_ {i:Nat}{σ:St}{xs:List α}(hL:Hold L σ F h)(hi:L[i]?=some (.ow (owL T) xs))(ok:Okk F0 H0 F h H):
  ∃ p vs,σ[i]?=some (some (.ref p))/\H p=some (.lst vs)/\Prs T F xs vs/\∀ gU bB,Prs T F gU bB->∃ h',Hold (L.set i (.ow (owL T) gU)) σ F h'/\Okk F0 H0 F h' (upd H p (.lst bB)):=by
 obtain ⟨o,h1,h2,e1,j,⟨v,e2,p,vs,rfl,rfl,hr⟩,f⟩:=hL.at i hi
 subst e2
 obtain ⟨o1,o2,o3,o4,o5⟩:=ok
 have hp:h p=some (.lst vs):=j.l _ _ z9_
 have lV:h2 p=none:=by
  rcases j.dj p with z | z
  ·rw [z9_] at z; cases z
  ·exact z
 have Fp:F p=none:=by
  rcases o2 p with z | z
  ·exact z
  ·rw [hp] at z; cases z
 have jJ:H0 p=none:=o4 p (by rw [hp]; exact sN _)
 refine ⟨p,vs,e1,o3 _ _ hp,hr,fun gU bB cO=>?_⟩
 have d2:Dj (one p (.lst bB)) h2:=fun q=>by
  unfold one; split
  ·rename_i z; rw [z]; exact .inr lV
  ·exact .inl rfl
 have g:=f (.ow (owL T) gU) (some (.ref p)) (one p (.lst bB)) _ (zcv_ d2) ⟨_,rfl,p,bB,rfl,rfl,cO⟩
 rw [zaY_ e1] at g
 refine ⟨_,g,⟨o1.1,fun q o z=>?_,fun q o z=>?_,o1.2.2.2⟩,fun q=>?_,fun q o z=>?_,fun q z=>?_,fun q ys z=>?_⟩
 ·unfold upd; split
  ·rename_i w; rw [w,Fp] at z; cases z
  ·exact o1.2.1 _ _ z
 ·unfold upd; split
  ·rename_i w; rw [w,jJ] at z; cases z
  ·exact o1.2.2.1 _ _ z
 ·by_cases w:q=p
  ·rw [w]; exact .inl Fp
  ·unfold un one; simp only [if_neg w]
   rcases o2 q with z | z
   ·exact .inl z
   ·exact .inr (j.r.free z)
 ·unfold un one at z
  unfold upd
  by_cases w:q=p
  ·rw [if_pos w]; simp only [if_pos w] at z; exact z
  ·rw [if_neg w]; simp only [if_neg w] at z; exact o3 _ _ (j.r _ _ z)
 ·unfold un one at z
  by_cases w:q=p
  ·rw [w]; exact jJ
  ·simp only [if_neg w] at z
   cases y:h2 q with
   | none=>exact absurd y z
   | some u=>exact o4 q (by rw [j.r _ _ y]; exact sN _)
 ·unfold un one at z
  by_cases w:q=p
  ·simp only [if_pos w] at z; cases z
  ·simp only [if_neg w] at z; exact o5 q ys (j.r _ _ z)
theorem zcl_ {i:Nat}{σ:St}{v:V}{Q:VK}(e:σ[i]?=some (some v))(q:Q v H):mVar i σ H Q:=by unfold mVar; rw [e]; exact q
theorem zeP_ {n:Nat}{r:Mo (Out ρ B S)}{D:Ends}(h:Fin K (Mo.lim n r) E LS LB O F0 H0 D):n<=sizeLine/\Fin K r E LS LB O F0 H0 D:=by
 unfold Mo.lim at h
 split at h
 ·exact ⟨by assumption,h⟩
 ·exact h.elim
theorem zpI_ {x:Option α}{k:α->Mo (Out ρ B S)}{D:Ends}(h:Fin K ((Mo.opt x).bind k) E LS LB O F0 H0 D):∃ a,x=some a/\Fin K (k a) E LS LB O F0 H0 D:=by
 cases x with
 | none=>exact h.elim
 | some a=>exact ⟨a,rfl,h⟩
theorem ziO_ {i:Nat}{xs:List α}{k:α->Mo (Out ρ B S)}(hi:L[i]?=some (.ow (owL T) xs))(hT:Imm T)(he:EvF K e E L r T)(hk:∀ a,EvS K u E (L.set i (.ow (owL T) (xs++[a]))) (k a) LS LB O):
  EvS K (tSeq (tDrop (tBM K "list" rAppend (mVar i) (tCons e tNil))) u) E L (r.bind fun a=>.lim (xs.length+1) (k a)) LS LB O:=by
 intro F0 H0 σ F h H D hL ok fin
 obtain ⟨p,vs,e1,hp,hr,_⟩:=zbz_ hL hi ok
 show mVar i σ H fun x H1=>tyV K "list" x H1/\tCons e tNil σ H1 fun xs H2=>rAppend x xs H2 (fun _ H3=>u D σ H3)
 refine zcl_ e1 ⟨.inl ⟨rfl,vs,.of hp⟩,?_⟩
 refine he σ (un F h) H _ (hL.froz ok.2.1) ok.thaw (zW_ (G:=F) ok _ (.inl rfl) fin fun a F' H' bh x v hv=>?_)
 obtain ⟨o,hs,ht⟩:=ok.back x
 rw [bh] at fin
 obtain ⟨hz,fin⟩:=zeP_ (show Fin K (Mo.lim (xs.length+1) (k a)) E LS LB O F0 H0 D from fin)
 obtain ⟨p',bB,cG,hp',cO,mm⟩:=zbz_ (hL.mono hs) hi o
 rw [e1] at cG; cases cG
 obtain ⟨h',a1,a2⟩:=mm (xs++[a]) (bB++[v]) (cO.append (.cons (hT ht hv) .nil))
 exact ⟨p,bB,v,rfl,rfl,hp',by rw [<- cO.len]; lia,hk a F0 H0 σ _ h' _ D a1 a2 fin⟩
theorem znN_ {i:Nat}{xs:List α}{r:Mo (List α)}{k:List α->Mo (Out ρ B S)}(hi:L[i]?=some (.ow (owL T) xs))(hT:Imm T)(he:EvF K e E L r (tyL T))(hk:∀ a,EvS K u E (L.set i (.ow (owL T) (xs++a))) (k a) LS LB O):
  EvS K (tSeq (tDrop (tBM K "list" rExtend (mVar i) (tCons e tNil))) u) E L (r.bind fun a=>.lim (xs.length+a.length) (k a)) LS LB O:=by
 intro F0 H0 σ F h H D hL ok fin
 obtain ⟨p,vs,e1,hp,hr,_⟩:=zbz_ hL hi ok
 show mVar i σ H fun x H1=>tyV K "list" x H1/\tCons e tNil σ H1 fun xs H2=>rExtend x xs H2 (fun _ H3=>u D σ H3)
 refine zcl_ e1 ⟨.inl ⟨rfl,vs,.of hp⟩,?_⟩
 refine he σ (un F h) H _ (hL.froz ok.2.1) ok.thaw (zW_ (G:=F) ok _ (.inl rfl) fin fun a F' H' bh x v ao=>?_)
 obtain ⟨p2,us,ev,cW,ee⟩:=ao
 obtain ⟨o,hs,ht⟩:=ok.back x
 rw [bh] at fin
 subst ev
 obtain ⟨hz,fin⟩:=zeP_ (show Fin K (Mo.lim (xs.length+a.length) (k a)) E LS LB O F0 H0 D from fin)
 obtain ⟨p',bB,cG,hp',cO,mm⟩:=zbz_ (hL.mono hs) hi o
 rw [e1] at cG; cases cG
 obtain ⟨h',a1,a2⟩:=mm (xs++a) (bB++us) (cO.append (ee.imm hT ht))
 exact ⟨p,p2,bB,us,rfl,rfl,hp',x.2.1 _ _ cW,by rw [<- cO.len,<- ee.len]; exact hz,hk a F0 H0 σ _ h' _ D a1 a2 fin⟩
theorem zp1_ {i:Nat}{xs:List α}{k:Mo (Out ρ B S)}(hi:L[i]?=some (.ow (owL T) xs))(hk:EvS K u E (L.set i (.ow (owL T) [])) k LS LB O):
  EvS K (tSeq (tDrop (tBM0 K "list" rClear (mVar i))) u) E L k LS LB O:=by
 intro F0 H0 σ F h H D hL ok fin
 obtain ⟨p,vs,e1,hp,hr,mm⟩:=zbz_ hL hi ok
 obtain ⟨h',a1,a2⟩:=mm [] [] .nil
 show mVar i σ H fun x H1=>tyV K "list" x H1/\rClear x [] H1 (fun _ H3=>u D σ H3)
 exact zcl_ e1 ⟨.inl ⟨rfl,vs,.of hp⟩,p,vs,rfl,rfl,hp,hk F0 H0 σ _ h' _ D a1 a2 fin⟩
theorem zqq_ {i:Nat}{xs:List α}{ei:TE}{ri:Mo Int}{k:List α->Mo (Out ρ B S)}(hi:L[i]?=some (.ow (owL T) xs))(hT:Imm T)(he:EvF K e E L r T)(dS:EvF K ei E L ri tyInt)(hk:∀ a,EvS K u E (L.set i (.ow (owL T) a)) (k a) LS LB O):
  EvS K (tSeq (tAsg e (gSub (mVar i) ei mSet)) u) E L (r.bind fun a=>ri.bind fun j=>(Mo.opt ((ixN xs.length j).map fun n=>xs.set n a)).bind k) LS LB O:=by
 intro F0 H0 σ F h H D hL ok fin
 refine he σ (un F h) H _ (hL.froz ok.2.1) ok.thaw (zW_ (G:=F) ok _ (.inl rfl) fin fun a F' H' bh x v hv=>?_)
 obtain ⟨o,hs,ht⟩:=ok.back x
 rw [bh] at fin
 have cq:=hL.mono hs
 obtain ⟨p,vs,e1,hp,hr,_⟩:=zbz_ cq hi o
 refine zcl_ e1 ?_
 have eV:=hT ht hv
 refine dS σ (un _ h) H' _ (cq.froz o.2.1) o.thaw (zW_ (G:=F) o _ (.inl rfl) fin fun j F2 H2 lx x2 v2 dk=>?_)
 cases dk
 obtain ⟨o',aO,i3⟩:=o.back x2
 rw [lx] at fin
 obtain ⟨ys,ey,fin⟩:=zpI_ fin
 obtain ⟨p',bB,cG,hp',cO,mm⟩:=zbz_ (cq.mono aO) hi o'
 rw [e1] at cG; cases cG
 cases ej:ixN xs.length j with
 | none=>rw [ej] at ey; cases ey
 | some n =>
  rw [ej] at ey; cases ey
  obtain ⟨h',a1,a2⟩:=mm (xs.set n a) (bB.set n v) (cO.set n (T.mono aO eV))
  refine ⟨bB,hp',?_⟩
  rw [<- cO.len,ej]
  exact hk _ F0 H0 σ _ h' _ D a1 a2 fin
theorem zqZ_ {k:α->Mo (Out ρ B S)}(he:EvF K e E L r T)(hk:∀ a,EvS K u E L (k a) LS LB O):EvS K (tSeq (tDrop e) u) E L (r.bind k) LS LB O:=by
 intro F0 H0 σ F h H D hL ok fin
 refine he σ (un F h) H _ (hL.froz ok.2.1) ok.thaw (zW_ (G:=F) ok _ (.inl rfl) fin fun a F' H' hr x v hv=>?_)
 obtain ⟨o,hs,ht⟩:=ok.back x
 rw [hr] at fin
 exact hk a F0 H0 σ _ h H' D (hL.mono hs) o fin
theorem zp6_ {c:String}{ta:TA}{C:Cs γ}{n:Nat}{r:Mo γ}(hl:CsN C n)(h:EvA K ta E L r C)(hn:n<=100:=by decide):EvS K (tRaise (gA K c) E ta) E L (r.bind fun _=>.ex c) LS LB O:=by
 intro F0 H0 σ F hh H D hL ok fin
 refine h σ (un F hh) H _ (hL.froz ok.2.1) ok.thaw (zW_ (G:=F) ok _ (.inl rfl) fin fun a F' H' hr x vs hv=>?_)
 obtain ⟨o,hs,ht⟩:=ok.back x
 rw [hr] at fin
 exact ⟨by rw [hl hv]; exact hn,fin _ hh H' o⟩
def fnO (r:Mo (Out ρ Unit Unit)):Mo ρ:=r.bind fun o=>match o with | .rt a=>.ok a | _=>.no
inductive Args (F:Hp):List V->List Sl->Prop
 | nil:Args F [] []
 | cons {α:Type}{T:Ty α}{a:α}{v:V}{vs ss} (h:T.R a v F) (t:Args F vs ss):Args F (v::vs) (.fz T a::ss)
theorem Args.hold {vs:List V}{ss:List Sl}(a:Args F vs ss)(n:Nat):Hold (ss++List.replicate n .dead) (vs.map some++List.replicate n none) F (fun _=>none):=by
 induction a with
 | nil =>
  induction n with
  | zero=>trivial
  | succ n ih=>exact ⟨fun _=>none,fun _=>none,fun p=>.inl ⟨rfl,rfl⟩,trivial,ih⟩
 | cons hv t ih=>exact ⟨fun _=>none,fun _=>none,fun p=>.inl ⟨rfl,rfl⟩,⟨_,rfl,hv⟩,ih⟩
def CsS (C:Cs γ)(ss:γ->List Sl):Prop:=∀ {c vs F},C.R c vs F->Args F vs (ss c)
theorem zmk_:CsS csNil fun _=>[]:=fun e=>by rw [e]; exact .nil
theorem zn_:CsS (csLast T) fun a=>[.fz T a]:=fun ⟨v,e,h⟩=>by rw [e]; exact .cons h .nil
theorem zp_ {C:Cs γ}{ss:γ->List Sl}(h:CsS C ss):CsS (csCons T C) fun c=>.fz T c.1::ss c.2:=fun ⟨v,us,e,q,z⟩=>by rw [e]; exact .cons q (h z)
theorem zhO_ (hs:Same F H):Okk F H F (fun _=>none) H:=by
 refine ⟨.refl hs,fun p=>.inr rfl,fun p o e=>?_,fun p e=>absurd rfl e,fun p xs e=>?_⟩
 ·cases e
 ·cases e
theorem zp2_ {t:XK->TS}{C:Cs γ}{ss:γ->List Sl}{f:γ->Mo (Out ρ Unit Unit)}{N:List Str}(n m:Nat)(hn:CsN C n)(hm:N.length-n=m)(hC:CsS C ss)(h:∀ c E,EvS K (t E) E (ss c++List.replicate m .dead) (f c) (fun _:Unit=>[]) (fun _:Unit=>[]) O):
  ∀ vs H Q E,Ct K C (fun c=>fnO (f c)) O vs H Q E->t E { nx:=fun _ H'=>Q .non H',rt:=Q } (start N vs) H:=by
 rintro vs H Q E ⟨F,c,hs,hc,q⟩
 have aZ:start N vs=vs.map some++List.replicate m none:=by unfold start; rw [hn hc,hm]
 rw [aZ]
 refine h c E F H _ F (fun _=>none) H _ ((hC hc).hold m) (zhO_ hs) ?_
 have q:After K (fnO (f c)) E F H (OwnK O H Q):=q
 cases e:f c with
 | no=>rw [e] at q; exact q
 | ex cc=>rw [e] at q; exact fun F h H ok=>q F H ok.1
 | ok o =>
  rw [e] at q
  cases o with
  | nx s=>exact q.elim
  | bk s=>exact q.elim
  | ct s=>exact q.elim
  | rt a=>exact fun v F' h' H' ok hv=>q F' H' ok.1 v h' (fun p z=>ok.2.2.2.1 p z) ok.2.1 ok.2.2.1 hv
end
section
variable {K:Fgg}{E:XK}{α ρ S B:Type}{F0 H0 F h H:Hp}{L L':List Sl}{e e1:TE}{T:Ty α}{r:Mo α}{O:Own ρ}{t u:TS}{LS:S->List Sl}{LB:B->List Sl}
def CDivG (i j:Int):Prop:=0<j/\Builtin.divisionGoesByPylong i j=false
instance (i j:Int):Decidable (CDivG i j):=inferInstanceAs (Decidable (_/\_))
instance (i j:Int):Decidable (IntMulOk i j):=inferInstanceAs (Decidable (¬ _))
abbrev mMulG:R2:=mI IntMulOk fun i j=>.int (i*j)
abbrev mDivG:R2:=mI CDivG fun i j=>.int (i / j)
theorem zpe_ {X:Cx}:OpR X (binaryOp .Mult) mMulG:=opM (opI fun _ _ _ _ _ _ _ hc q=>mul_int q hc)
theorem zcm_ {X:Cx}:OpR X (binaryOp .FloorDiv) mDivG:=opM (opI fun i j _ _ _ _ _ hc q=>by
 have h1:(0:Int)<j:=hc.1
 exact floordiv_int (by lia) (by rw [Int.fdiv_eq_ediv_of_nonneg i (by lia)]; exact q) (.inl hc.2))
theorem zbh_:Op2 K mDivG E tyInt tyInt (fun i j=>.grd (CDivG i j) (.ok (i / j))) tyInt:=op_i fun _ _ _=>rfl
theorem zpj_ {Pq:α->Prop}{a:α}{l:List α}(h:Pq a)(t:∀ q∈l,Pq q):∀ q∈a::l,Pq q:=List.forall_mem_cons.mpr ⟨h,t⟩
theorem zeE_:EvS K t E L (.no:Mo (Out ρ B S)) LS LB O:=fun _ _ _ _ _ _ _ _ _ fin=>fin.elim
theorem zdc_ {r:Mo (Out ρ B S)}(w:Sub L L')(hk:EvS K t E L' r LS LB O):EvS K t E L r LS LB O:=fun F0 H0 σ F h H D hL ok fin=>hk F0 H0 σ F h H D (w.hold hL) ok fin
theorem at_ {r:Mo (Out ρ B S)}(L:List Sl)(hk:EvS K t E L r LS LB O):EvS K t E L r LS LB O:=hk
theorem zeM_ (i:Nat){xs:List α}(h:L[i]?=some (.ow (owL T) xs)):EvF K (mVar i) E L (.ok xs) (tyL T):=zhX_ i h
theorem zjU_:EvT K tTrue E L (.ok true):=fun σ F H Q hL hs q=>q.ok hs
theorem dead1 {L:List Sl}:DeadAt (.dead::L) [0]:=fun i hi s e=>by
 cases (List.mem_singleton.mp hi); cases e; rfl
theorem zoQ_ {a:Int}{v:V}{F:Hp}(h:tyInt.R a v F):v≠.non:=by cases h; exact fun z=>V.noConfusion z
theorem zrf_ {a:List Nat}{v:V}{F:Hp}(h:tyStr.R a v F):v≠.non:=by cases h; exact fun z=>V.noConfusion z
def insL (xs:List α)(j:Int)(a:α):List α:=xs.take j.toNat++a::xs.drop j.toNat
theorem zoZ_ {p:Prop}[Decidable p]{r:Mo (Out ρ B S)}{D:Ends}(h:Fin K (Mo.grd p r) E LS LB O F0 H0 D):p/\Fin K r E LS LB O F0 H0 D:=by
 unfold Mo.grd at h
 split at h
 ·exact ⟨by assumption,h⟩
 ·exact h.elim
theorem zpx_ {xs:List α}{vs:List V}(q:Prs T H xs vs)(n:Nat){a:α}{v:V}(hv:T.R a v H):Prs T H (xs.take n++a::xs.drop n) (vs.take n++v::vs.drop n):=(q.take n).append (.cons hv (q.drop n))
theorem zob_ {i:Nat}{xs:List α}{ei:TE}{ri:Mo Int}{k:Int->α->Mo (Out ρ B S)}(hi:L[i]?=some (.ow (owL T) xs))(hT:Imm T)(dS:EvF K ei E L ri tyInt)(he:EvF K e E L r T)(hk:∀ j a,EvS K u E (L.set i (.ow (owL T) (insL xs j a))) (k j a) LS LB O):
  EvS K (tSeq (tDrop (tBM K "list" mInsert (mVar i) (tCons ei (tCons e tNil)))) u) E L (ri.bind fun j=>r.bind fun a=>.grd (0<=j/\j<=xs.length) (.lim (xs.length+1) (k j a))) LS LB O:=by
 intro F0 H0 σ F h H D hL ok fin
 obtain ⟨p,vs,e1,hp,hr,_⟩:=zbz_ hL hi ok
 show mVar i σ H fun x H1=>tyV K "list" x H1/\tCons ei (tCons e tNil) σ H1 fun xs H2=>mInsert x xs H2 (fun _ H3=>u D σ H3)
 refine zcl_ e1 ⟨.inl ⟨rfl,vs,.of hp⟩,?_⟩
 refine dS σ (un F h) H _ (hL.froz ok.2.1) ok.thaw (zW_ (G:=F) ok _ (.inl rfl) fin fun j F1 H1 lx x1 v1 dP=>?_)
 cases dP
 obtain ⟨o,hs,ht⟩:=ok.back x1
 rw [lx] at fin
 have cq:=hL.mono hs
 refine he σ (un _ h) H1 _ (cq.froz o.2.1) o.thaw (zW_ (G:=F) o _ (.inl rfl) fin fun a F2 H2 bh x2 v hv=>?_)
 obtain ⟨o',aO,i3⟩:=o.back x2
 rw [bh] at fin
 obtain ⟨hj,fin⟩:=zoZ_ (show Fin K (Mo.grd (0<=j/\j<=xs.length) (Mo.lim (xs.length+1) (k j a))) E LS LB O F0 H0 D from fin)
 obtain ⟨hz,fin⟩:=zeP_ fin
 obtain ⟨p',bB,cG,hp',cO,mm⟩:=zbz_ (cq.mono aO) hi o'
 rw [e1] at cG; cases cG
 obtain ⟨h',a1,a2⟩:=mm (insL xs j a) (bB.take j.toNat++v::bB.drop j.toNat) (zpx_ cO _ (hT i3 hv))
 have hl:=cO.len
 have hm:min j.toNat bB.length=j.toNat:=by lia
 refine ⟨bB,hp',by lia,⟨hj.1,by rw [sizeLine_eq] at hz; lia⟩,?_⟩
 rw [hm]
 exact hk j a F0 H0 σ _ h' _ D a1 a2 fin
end
section
variable {α β ρ S S' B:Type}
@[simp] theorem Mo.okB (a:α) (f:α->Mo β):(Mo.ok a).bind f=f a:=of_eq_true (eq_self _)
@[simp] theorem Mo.exB (c:Xc) (f:α->Mo β):(Mo.ex c:Mo α).bind f=.ex c:=of_eq_true (eq_self _)
@[simp] theorem Mo.noB (f:α->Mo β):(Mo.no:Mo α).bind f=.no:=of_eq_true (eq_self _)
@[simp] theorem Mo.noexO (a:α):(Mo.ok a).noex=.ok a:=of_eq_true (eq_self _)
@[simp] theorem Mo.optS (a:α):Mo.opt (some a)=.ok a:=of_eq_true (eq_self _)
@[simp] theorem zoe_ (s:S) (k:S->Mo (Out ρ B S')):thenO (.ok (.nx s)) k=k s:=of_eq_true (eq_self _)
@[simp] theorem znd_ (a:ρ) (k:S->Mo (Out ρ B S')):thenO (.ok (.rt a)) k=.ok (.rt a):=of_eq_true (eq_self _)
@[simp] theorem zod_ (b:B) (k:S->Mo (Out ρ B S')):thenO (.ok (.bk b)) k=.ok (.bk b):=of_eq_true (eq_self _)
@[simp] theorem znk_ (b:B) (k:S->Mo (Out ρ B S')):thenO (.ok (.ct b)) k=.ok (.ct b):=of_eq_true (eq_self _)
@[simp] theorem zqA_ (a:ρ):fnO (.ok (.rt a))=.ok a:=of_eq_true (eq_self _)
@[simp] theorem znW_ (step:S->α->Mo (Out ρ S S)) (s:S):forO (B:=B) step [] s=.ok (.nx s):=of_eq_true (eq_self _)
theorem zhQ_ (step:S->α->Mo (Out ρ S S))(x:α)(xs:List α)(s:S):forO (B:=B) step (x::xs) s=(step s x).bind fun o=>match o with | .nx s'=>forO step xs s' | .ct s'=>forO step xs s' | .bk s'=>.ok (.nx s') | .rt a=>.ok (.rt a):=rfl
theorem ziV_ {step:S->α->Mo (Out ρ S S)}{x:α}{xs:List α}{s s':S}(h:step s x=.ok (.nx s')):forO (B:=B) step (x::xs) s=forO step xs s':=by rw [zhQ_,h]; rfl
theorem zn2_ {step:S->α->Mo (Out ρ S S)}{x:α}{xs:List α}{s:S}{a:ρ}(h:step s x=.ok (.rt a)):forO (B:=B) step (x::xs) s=.ok (.rt a):=by rw [zhQ_,h]; rfl
theorem zko_ {step:S->α->Mo (Out ρ S S)}(P:List α->S->Prop):∀ {xs:List α}(done:List α) {s:S},P done s->(∀ d x s,(∃ r,done++xs=d++x::r)->P d s->∃ s',step s x=.ok (.nx s')/\P (d++[x]) s')->∃ s',forO (B:=B) step xs s=.ok (.nx s')/\P (done++xs) s'
 | [],done,s,h0,_=>⟨s,rfl,by rw [List.append_nil]; exact h0⟩
 | x::xs,done,s,h0,h=>by
  obtain ⟨s1,e1,p1⟩:=h done x s ⟨xs,rfl⟩ h0
  obtain ⟨s2,e2,p2⟩:=zko_ P (xs:=xs) (done++[x]) p1 fun d y s ⟨r,hr⟩ hp=>h d y s ⟨r,by rw [<- hr]; simp⟩ hp
  exact ⟨s2,by rw [ziV_ e1,e2],by simpa using p2⟩
theorem zg0_ {step:Unit->α->Mo (Out ρ Unit Unit)}:∀ {xs:List α},(∀ x∈xs,step () x=.ok (.nx ()))->forO (B:=B) step xs ()=.ok (.nx ())
 | [],_=>rfl
 | x::xs,h=>by rw [ziV_ (h x List.mem_cons_self),zg0_ fun y hy=>h y (List.mem_cons_of_mem _ hy)]
theorem ze2_ {step:Unit->α->Mo (Out ρ Unit Unit)}{p:α->Bool}{a:α->ρ}:∀ {xs:List α},(∀ x∈xs,step () x=if p x then .ok (.rt (a x)) else .ok (.nx ()))->forO (B:=B) step xs ()=match xs.find? p with | some x=>.ok (.rt (a x)) | none=>.ok (.nx ())
 | [],_=>rfl
 | x::xs,h=>by
  have h1:=h x List.mem_cons_self
  rw [List.find?_cons]
  cases e:p x with
  | true=>rw [e,if_pos rfl] at h1; rw [zn2_ h1]
  | false=>rw [e,if_neg (by decide)] at h1; rw [ziV_ h1,ze2_ fun y hy=>h y (List.mem_cons_of_mem _ hy)]
open PySem PySem.Spec PyProof.Rows in
theorem zoI_ {a j:Int}(h0:0<j)(h:j.natAbs.log2<9000):CDivG a j:=by
 refine ⟨h0,?_⟩
 unfold Builtin.divisionGoesByPylong
 simp only
 rw [Bool.and_eq_false_iff]
 left
 rw [decide_eq_false_iff_not]
 split<;>lia
theorem log2_lt {n k:Nat}(h:n<2 ^ k):n.log2<k\/n=0:=by
 by_cases hz:n=0
 ·exact .inr hz
 ·exact .inl ((Nat.log2_lt hz).mpr h)
theorem zpM_ {a j:Int}(h0:0<j)(h:j<2 ^ 1000):CDivG a j:=by
 refine zoI_ h0 ?_
 have h1:j.natAbs<2 ^ 1000:=by
  have:((2:Int) ^ 1000)=((2 ^ 1000:Nat):Int):=by rw [Int.natCast_pow]; rfl
  rw [this] at h
  lia
 rcases log2_lt h1 with h | h
 ·lia
 ·rw [h]; decide
open PySem PySem.Spec PyProof.Rows in
theorem zcY_ {i j:Int}(h : -(2 ^ 64)<i/\i<2 ^ 64 \/ -(2 ^ 64)<j/\j<2 ^ 64):IntMulOk i j:=CMul.ok h
@[simp] theorem zox_ {a j:Int}{k:Mo α}(h0:0<j) (h1:j<1073741824):Mo.grd (CDivG a j) k=k:=Mo.grd_ok (zpM_ h0 (by lia))
@[simp] theorem grd_T {k:Mo α} [Decidable True]:Mo.grd True k=k:=Mo.grd_ok trivial
@[simp] theorem zml_ {j:Int}{k:Mo α}(h0:0<j):Mo.grd (0<j) k=k:=Mo.grd_ok h0
open PySem PySem.Spec PyProof.Rows in
@[simp] theorem zoh_ {i j:Int}{k:Mo α}(h0 : -18446744073709551616<i) (h1:i<18446744073709551616):Mo.grd (IntMulOk i j) k=k:=Mo.grd_ok (zcY_ (.inl ⟨by lia,by lia⟩))
open PySem PySem.Spec PyProof.Rows in
theorem znV_ {i j:Int}{k:Mo α}(h0 : -18446744073709551616<j)(h1:j<18446744073709551616):Mo.grd (IntMulOk i j) k=k:=Mo.grd_ok (zcY_ (.inr ⟨by lia,by lia⟩))
theorem zho_ (lo:Int)(n:Nat):(rngI lo n).length=n:=by unfold rngI; rw [List.length_map,List.length_range]
theorem zd2_ {lo x:Int}{n:Nat}:x∈rngI lo n↔lo<=x/\x<lo+n:=by
 unfold rngI
 simp only [List.mem_map,List.mem_range]
 constructor
 ·rintro ⟨a,h,rfl⟩; lia
 ·rintro ⟨h1,h2⟩; exact ⟨(x-lo).toNat,by lia,by lia⟩
theorem zeq_ {xs:List α}{k:Int}(h0:0<=k):atI xs k=xs[k.toNat]?:=by
 unfold atI ixN
 rw [if_pos h0]
 split
 ·rfl
 ·rename_i h
  rw [List.getElem?_eq_none (by omega)]; rfl
theorem zd3_ {xs:List α}{k:Int}(h0:0<=k)(h1:k<xs.length):∃ x,atI xs k=some x/\x∈xs:=by
 rw [zeq_ h0,List.getElem?_eq_getElem (show k.toNat<xs.length by lia)]
 exact ⟨_,rfl,List.getElem_mem _⟩
theorem zoE_ {xs:List α}(k:Int)(h:xs≠[]):∃ x,atI xs (k % (xs.length:Int))=some x/\x∈xs:=by
 have:0<xs.length:=List.length_pos_iff.mpr h
 exact zd3_ (Int.emod_nonneg _ (by lia)) (Int.emod_lt_of_pos _ (by lia))
theorem zkn_ {q:α->α->Bool}(hq:∀ a,q a a=true):∀ xs:List α,eqL q xs xs=true
 | []=>rfl
 | x::xs=>by unfold eqL; rw [hq,zkn_ hq xs]; rfl
theorem zg9_ (xs:List α)(lo hi:Option Int):(cutG xs lo hi).length<=xs.length:=by
 unfold cutG; rw [List.length_take,List.length_drop]; lia
theorem ziT_ {xs:List α}{lo hi:Option Int}{x:α}(h:x∈cutG xs lo hi):x∈xs:=List.mem_of_mem_drop (List.mem_of_mem_take h)
end
section
variable {α:Type}{F0 H0 F h H:Hp}
theorem znQ_ {n:Nat}{j:Int}{k:Nat}(h:ixN n j=some k):k<n:=by
 unfold ixN at h
 split at h
 ·split at h
  ·cases h; lia
  ·cases h
 ·split at h
  ·cases h; lia
  ·cases h
theorem zoz_ {p:Addr}{o':HO}{h1' hr h':Hp}(ok:Okk F0 H0 F h H)(hp:h p≠none)(nt:∀ xs,o'≠.tup xs)(h':Hp)(hh:∀ q,h' q=if q=p then some o' else h q):Okk F0 H0 F h' (upd H p o'):=by
 obtain ⟨o1,o2,o3,o4,o5⟩:=ok
 have Fp:F p=none:=by
  rcases o2 p with z | z
  ·exact z
  ·exact absurd z hp
 have jJ:H0 p=none:=o4 p hp
 refine ⟨⟨o1.1,fun q o z=>?_,fun q o z=>?_,o1.2.2.2⟩,fun q=>?_,fun q o z=>?_,fun q z=>?_,fun q ys z=>?_⟩
 ·unfold upd; split
  ·rename_i w; rw [w,Fp] at z; cases z
  ·exact o1.2.1 _ _ z
 ·unfold upd; split
  ·rename_i w; rw [w,jJ] at z; cases z
  ·exact o1.2.2.1 _ _ z
 ·rw [hh]; split
  ·rename_i w; rw [w]; exact .inl Fp
  ·exact o2 q
 ·rw [hh] at z; unfold upd
  split at z
  ·rename_i w; rw [if_pos w]; exact z
  ·rename_i w; rw [if_neg w]; exact o3 _ _ z
 ·rw [hh] at z; split at z
  ·rename_i w; rw [w]; exact jJ
  ·exact o4 q z
 ·rw [hh] at z; split at z
  ·exact nt ys (by injection z)
  ·exact o5 q ys z
def appN (fP:List (List α))(j:Nat)(a:α):List (List α):=match fP[j]? with | some xs=>fP.set j (xs++[a]) | none=>fP
variable {u:TS}
@[irreducible] def fuelW:Nat:=100000
theorem zmP_:fuelW=100000:=by unfold fuelW; rfl
def mLtS:R2:=fun x y H Q=>match x,y with
 | .int i,.int j=>Q (.bl (decide (i<j))) H
 | .str i,.str j=>Q (.bl (decide (i.cps.toList<j.cps.toList))) H
 | _,_=>False
theorem zpO_ {X:Cx}:OpR X (compareOp .Lt) mLtS:=by
 intro pins s σ H x y v u Q I rx ry h
 cases x<;>cases y<;>first
  | exact h.elim
  | exact op_lt pins s σ H _ _ v u Q I rx ry ⟨_,_,rfl,rfl,h⟩
  | exact zlC_ pins s σ H _ _ v u Q I rx ry ⟨_,_,rfl,rfl,h⟩
end
section
variable {α:Type}
theorem zbw_ {S B ρ:Type}{step:S->α->Mo (Out ρ S S)}{xs:List α}{s:S}{G:Mo (Out ρ B S)->Prop}(P:List α->S->Prop)(h0:P [] s)(hs:∀ d x s,(∃ r,xs=d++x::r)->P d s->∃ s',step s x=.ok (.nx s')/\P (d++[x]) s')(hk:∀ s',P xs s'->G (.ok (.nx s'))):G (forO step xs s):=by
 obtain ⟨s',e,p⟩:=zko_ (B:=B) P (xs:=xs) [] h0 (fun d x s hr hp=>hs d x s hr hp)
 rw [e]
 exact hk s' p
theorem zeI_ {ρ B:Type}{c:Int->Mo Bool}{step:Int->Mo (Out ρ Int Int)}{f:Nat->Nat}(p:Nat->Bool):∀ (m n:Nat),n<m->(∀ i,0<i->i<=n->c (i:Nat)=.ok (p i)/\step (i:Nat)=.ok (.nx ((i:Int)-1)))->c ((0:Nat):Int)=.ok false->(∀ i,i<n->f (i+1)=if p (i+1) then f i else i+1)->f 0=0->whileO (B:=B) c step m (n:Nat)=.ok (.nx ((f n:Nat):Int))
 | 0,n,h,_,_,_,_=>absurd h (Nat.not_lt_zero _)
 | m+1,0,_,_,h0,_,f0=>by unfold whileO; rw [h0,Mo.okB,if_neg (by decide),f0]
 | m+1,n+1,hn,hs,h0,hf,f0=>by
  unfold whileO
  obtain ⟨h1,h2⟩:=hs (n+1) (by lia) (Nat.le_refl _)
  rw [h1,Mo.okB,hf n (by lia)]
  cases p (n+1) with
  | false=>rfl
  | true =>
   rw [if_pos rfl,if_pos rfl,h2,Mo.okB]
   have e:((n+1:Nat):Int)-1=(n:Nat):=by lia
   rw [e]
   exact zeI_ p m n (by lia) (fun i h h'=>hs i h (by lia)) h0 (fun i h=>hf i (by lia)) f0
end
abbrev Crd:=List Nat
def isC (c:Crd):Prop:=c.length=40/\∀ x∈c,x∈SG
def sg (c:Crd)(col:Int):Nat:=c.getD (col-1).toNat 0
def rk1 (x:Nat):Nat:=(SG.findIdx? (· == x)).getD 0 % 37
def rnk (c:Crd)(col:Int):Nat:=rk1 (sg c col)
def colOk (col:Int):Prop:=1<=col/\col<=40
theorem sg_at {c:Crd}{col:Int}(h:isC c)(hc:colOk col):atI c (col-1)=some (sg c col)/\sg c col∈SG:=by
 obtain ⟨h1,h2⟩:=h
 obtain ⟨a,b⟩:=hc
 obtain ⟨x,e,hx⟩:=zd3_ (xs:=c) (k:=col-1) (by lia) (by lia)
 have:sg c col=x:=by
  rw [zeq_ (by lia)] at e
  unfold sg; rw [List.getD_eq_getElem?_getD,e]; rfl
 rw [this]
 exact ⟨e,h2 x hx⟩
theorem znw_ {x:Nat}(h:x∈SG):findS SG [x]=(rk1 x:Int):=by
 rw [zmE_]
 unfold rk1
 have:∃ i,SG.findIdx? (· == x)=some i/\i<37:=by
  cases e:SG.findIdx? (· == x) with
  | none =>
   rw [List.findIdx?_eq_none_iff] at e
   have:=e x h
   simp at this
  | some i =>
   refine ⟨i,rfl,?_⟩
   rw [List.findIdx?_eq_some_iff_getElem] at e
   obtain ⟨hi,_⟩:=e
   exact hi
 obtain ⟨i,e,hi⟩:=this
 rw [e]
 show (i:Int)=_
 rw [Option.getD_some,Nat.mod_eq_of_lt hi]
def kv:List Int->Crd->Nat
 | [],_=>0
 | c::L,a=>rnk a c*37 ^ L.length+kv L a
theorem zm6_ {n:Nat}(f:Nat->List Crd)(r:Nat)(x:Crd)(h:r<n):appN ((List.range n).map f) r x=(List.range n).map fun i=>if i=r then f i++[x] else f i:=by
 unfold appN
 rw [List.getElem?_map,List.getElem?_range h]
 simp only [Option.map_some]
 refine List.ext_getElem? fun i=>?_
 rw [List.getElem?_set,List.getElem?_map,List.length_map,List.length_range]
 by_cases hi:i<n
 ·rw [List.getElem?_map,List.getElem?_range hi]
  by_cases e:r=i
  ·subst e
   simp [h]
  ·rw [if_neg e]
   simp [show ¬ i=r from fun z=>e z.symm]
 ·rw [List.getElem?_map,List.getElem?_eq_none (by simpa using hi)]
  by_cases e:r=i
  ·lia
  ·rw [if_neg e]; rfl
def pkts (n:Nat)(ps:List (Crd×Nat)):List (List Crd):=(List.range n).map fun i=>(ps.filter fun q=>decide (q.2=i)).map Prod.fst
def logs (ps:List (Crd×Nat)):List Int:=ps.map fun q=>(q.2:Int)
theorem zjW_ (n:Nat)(ps:List (Crd×Nat)):(pkts n ps).length=n:=by unfold pkts; rw [List.length_map,List.length_range]
theorem zlz_ {n:Nat}(ps:List (Crd×Nat))(c:Crd){m:Nat}(h:m<n):pkts n (ps++[(c,m)])=appN (pkts n ps) m c:=by
 unfold pkts
 rw [zm6_ _ m c h]
 refine List.map_congr_left fun r _=>?_
 rw [List.filter_append]
 by_cases e:r=m
 ·rw [if_pos e,List.filter_cons_of_pos (by simpa using e.symm)]; simp
 ·rw [if_neg e,List.filter_cons_of_neg (by simpa using fun z=>e (Eq.symm z))]; simp
theorem zgU_ {n m:Nat}(ps:List (Crd×Nat))(h:m<n):(pkts n ps)[m]?=some ((ps.filter fun q=>decide (q.2=m)).map Prod.fst):=by
 unfold pkts; rw [List.getElem?_map,List.getElem?_range h]; rfl
theorem zoO_ {d r:List (Crd×Nat)}{c:Crd}{m:Nat}:(((d++(c,m)::r).filter fun q=>decide (q.2=m)).map Prod.fst)[(d.filter fun q=>decide (q.2=m)).length]?=some c:=by
 rw [List.filter_append,List.map_append,List.getElem?_append_right (by rw [List.length_map]; exact Nat.le_refl _),List.length_map,Nat.sub_self,List.filter_cons_of_pos (by simp)]
 rfl
def cnts (n:Nat)(ps:List (Crd×Nat)):List Int:=(List.range n).map fun i=>((ps.filter fun q=>decide (q.2=i)).length:Int)
theorem zfb_ (n:Nat)(ps:List (Crd×Nat)):(cnts n ps).length=n:=by unfold cnts; rw [List.length_map,List.length_range]
theorem zhg_ {n m:Nat}(ps:List (Crd×Nat))(h:m<n):(cnts n ps)[m]?=some ((ps.filter fun q=>decide (q.2=m)).length:Int):=by
 unfold cnts; rw [List.getElem?_map,List.getElem?_range h]; rfl
theorem zlu_ {n:Nat}(ps:List (Crd×Nat))(c:Crd){m:Nat}(h:m<n):cnts n (ps++[(c,m)])=(cnts n ps).set m (((ps.filter fun q=>decide (q.2=m)).length:Int)+1):=by
 refine List.ext_getElem? fun i=>?_
 rw [List.getElem?_set,zfb_]
 by_cases hi:i<n
 ·rw [zhg_ _ hi,List.filter_append,List.length_append]
  by_cases e:m=i
  ·subst e
   rw [if_pos rfl,if_pos h,List.filter_cons_of_pos (by simp)]; rfl
  ·rw [if_neg e,zhg_ _ hi,List.filter_cons_of_neg (by simpa using e)]; rfl
 ·rw [List.getElem?_eq_none (by rw [zfb_]; lia)]
  by_cases e:m=i
  ·lia
  ·rw [if_neg e,List.getElem?_eq_none (by rw [zfb_]; lia)]
open PySem.SeqAt
open PySem.AutoSeq1 (wpAny_loadPart')
open PySem.MeetsSeq PySem.MeetsSeq2 PySem.MeetsSeq3
theorem zkc_:entryFor table "list.__eq__.loop"=some Builtin.«list.__eq__.loop»:=by kernel_rfl!
theorem zgo_ (A:Around)(args:PySem.Args):A.under (Code.builtin "list.__eq__.loop" args)=A.in1:=by rfl
theorem zgj_ (args:PySem.Args):(Code.builtin "list.__eq__.loop" args).quiet=true:=by first | kernel_rfl! | simp [Code.quiet] | (unfold Code.quiet; decide +kernel)
theorem zdR_:∀ {vs:List Value}{ns:List Int},IntsAre vs ns->∀ i:Nat,(vs[i]?=none/\ns[i]?=none)\/∃ a t,vs[i]?=some (.int a t)/\ns[i]?=some a
 | _,_,.nil,i=>.inl ⟨rfl,rfl⟩
 | _,_,.cons a t h,0=>.inr ⟨a,t,rfl,rfl⟩
 | _,_,.cons a t h,i+1=>by simpa using zdR_ h i
theorem zdf_ {α:Type}{xs:List α}{i:Nat}{a:α}(h:xs[i]?=some a):xs.drop i=a::xs.drop (i+1):=by
 obtain ⟨hi,e⟩:=List.getElem?_eq_some_iff.mp h
 rw [<- e]; exact List.drop_eq_getElem_cons hi
theorem zfp_ {α:Type}{xs:List α}{i:Nat}(h:xs[i]?=none):xs.drop i=[]:=List.drop_eq_nil_of_le (List.getElem?_eq_none_iff.mp h)
theorem zgI_ (l b:Addr)(items aG:Array Value)(n n2:Nat)(dd ie:Option Addr)(sl gp:Array (Option Value))(ns ms:List Int)(hi:IntsAre items.toList ns)(hj:IntsAre aG.toList ms):∀ (k i:Nat),items.size-i=k->i<=items.size->i<=aG.size ->
  Meets (Builtin.«list.__eq__.loop» ⟨[.ref l,.ref b,rawInt (i:Nat),rawInt 0],[]⟩)
   (fun _ R s=>s.heap.get? l=some { cls:=.type "list",dict:=dd,data:=.seq items n,slots:=sl }/\s.heap.get? b=some { cls:=.type "list",dict:=ie,data:=.seq aG n2,slots:=gp } /\
    R (.ok (.ret (.bool (HT.lexLt (ns.drop i) (ms.drop i))))) s):=by
 intro k
 induction k with
 | zero =>
  intro i hk b1 b2 prog w A R s h
  obtain ⟨hl,hb,h⟩:=h
  wp_walk using wpAny_listItems hl rfl,wpAny_listItems hb rfl
  have e1:items[i]?=none:=Array.getElem?_eq_none (by lia)
  have cG:ns[i]?=none:=by
   rcases zdR_ hi i with ⟨_,z⟩ | ⟨a,t,z,_⟩
   ·exact z
   ·rw [Array.getElem?_toList,e1] at z; cases z
  rw [Int.toNat_natCast,e1]
  rw [zfp_ cG] at h
  rcases zdR_ hj i with ⟨z1,z2⟩ | ⟨c,u,z1,z2⟩
  ·rw [Array.getElem?_toList] at z1
   rw [z1]
   rw [zfp_ z2] at h
   wp_walk using wpAny_listItems hl rfl,wpAny_listItems hb rfl
   show R (.ok (.ret (.bool (decide (items.size<aG.size))))) s
   have z1:=Array.getElem?_eq_none_iff.mp z1
   rw [decide_eq_false (by lia)]; exact h
  ·rw [Array.getElem?_toList] at z1
   rw [z1]
   rw [zdf_ z2] at h
   wp_walk using wpAny_listItems hl rfl,wpAny_listItems hb rfl
   show R (.ok (.ret (.bool (decide (items.size<aG.size))))) s
   have z3:=(Array.getElem?_eq_some_iff.mp z1).1
   rw [decide_eq_true (by lia)]; exact h
 | succ k ih =>
  intro i hk b1 b2 prog w A R s h
  obtain ⟨hl,hb,h⟩:=h
  wp_walk using wpAny_listItems hl rfl,wpAny_listItems hb rfl
  rw [Int.toNat_natCast]
  rcases zdR_ hi i with ⟨z1,z2⟩ | ⟨a,t,z1,z2⟩
  ·rw [Array.getElem?_toList] at z1
   rw [Array.getElem?_eq_none_iff] at z1; lia
  rw [Array.getElem?_toList] at z1
  rw [z1]
  rw [zdf_ z2] at h
  rcases zdR_ hj i with ⟨y1,y2⟩ | ⟨c,u,y1,y2⟩
  ·rw [Array.getElem?_toList] at y1
   rw [y1]
   rw [zfp_ y2] at h
   wp_walk using wpAny_listItems hl rfl,wpAny_listItems hb rfl
   show R (.ok (.ret (.bool (decide (items.size<aG.size))))) s
   have z3:=(Array.getElem?_eq_some_iff.mp z1).1
   have y3:=Array.getElem?_eq_none_iff.mp y1
   rw [decide_eq_false (by lia)]; exact h
  rw [Array.getElem?_toList] at y1
  rw [y1]
  rw [zdf_ y2,HT.lexLt_cons] at h
  obtain ⟨e,he,hiff⟩:=HT.eqAt_int A.in1 s a t c u
  refine wpAny_bind (he prog w _ _ ?_)
  cases e with
  | true =>
   rw [if_pos (hiff.mp rfl)] at h
   wp_walk
   refine ⟨zgj_ _,codeAny_builtin zkc_ ?_⟩
   rw [zgo_]
   have q1:=(Array.getElem?_eq_some_iff.mp z1).1
   have q2:=(Array.getElem?_eq_some_iff.mp y1).1
   exact ih (i+1) (by lia) (by lia) (by lia) prog w A R s ⟨hl,hb,h⟩
  | false =>
   rw [if_neg (fun q=>absurd (hiff.mpr q) Bool.false_ne_true)] at h
   have qd:=HT.rcLt_int A.in1 s a t c u prog w
   wp_walk using wpAny_listItems hl rfl,wpAny_listItems hb rfl
   rw [z1,y1]
   wp_walk using qd
   exact h
theorem zgT_ (l b:Addr)(items aG:Array Value)(n n2:Nat)(dd ie:Option Addr)(sl gp:Array (Option Value))(ns ms:List Int)(hi:IntsAre items.toList ns)(hj:IntsAre aG.toList ms):
  Meets (Builtin.«list.__lt__» ⟨[.ref l,.ref b],[]⟩)
   (fun _ R s=>s.heap.get? l=some { cls:=.type "list",dict:=dd,data:=.seq items n,slots:=sl }/\s.heap.get? b=some { cls:=.type "list",dict:=ie,data:=.seq aG n2,slots:=gp } /\
    R (.ok (.ret (.bool (HT.lexLt ns ms)))) s):=by
 intro prog w A R s h
 obtain ⟨hl,hb,h⟩:=h
 have f2:=AutoSeq1.sub_list_list
 wp_walk using wpAny_loadPart' hl,wpAny_loadPart' hb
 refine ⟨zgj_ _,codeAny_builtin zkc_ ?_⟩
 rw [zgo_]
 exact zgI_ l b items aG n n2 dd ie sl gp ns ms hi hj _ 0 rfl (Nat.zero_le _) (Nat.zero_le _) prog w A R s ⟨hl,hb,h⟩
theorem ziu_ {prog:Program}{w:World}{A:Around}{E:Value->Shared->Prop}{s:Shared}{l b:Addr}{items aG:Array Value}{ns ms:List Int}{Q:Value->Shared->Prop}(hl:s.heap.IsList l items)(hb:s.heap.IsList b aG)(hi:IntsAre items.toList ns)(hj:IntsAre aG.toList ms)
  (hu:A.units<cLine) (h:Q (.bool (HT.lexLt ns ms)) s):wpAny (model prog w) A (compareOp .Lt (.ref l) (.ref b)) Q E s:=by
 obtain ⟨⟨cls,dd,data,sl⟩,ho,hc,n,hd⟩:=id hl
 obtain ⟨⟨qO,ie,data2,gp⟩,ho2,hc2,n2,hd2⟩:=id hb
 simp only at hc hd hc2 hd2
 subst hc hd hc2 hd2
 exact richCompare_meets_room (op:=.Lt) ⟨_,ho,rfl⟩ ⟨_,ho2,rfl⟩ PySem.F.slot_list_lt PySem.F.entry_list_lt (PySem.F.args_list_lt_2 _ _) (zgT_ l b items aG n n2 dd ie sl gp ns ms hi hj)
  ⟨ho,ho2,show Value.bool (HT.lexLt ns ms)≠Value.notImplemented/\Q (.bool (HT.lexLt ns ms)) s from ⟨(fun x=>nomatch x),h⟩⟩ hu
def mLtK (K:Fgg):R2:=fun x y H Q=>match x,y with
 | .ref a,.ref b=>∃ ns ms,SqL K H a (ns.map V.int)/\SqL K H b (ms.map V.int)/\Q (.bl (HT.lexLt ns ms)) H
 | _,_=>mLtS x y H Q
theorem zjZ_ {X:Cx}(hu:X.A.units+60<cLine):OpR X (compareOp .Lt) (mLtK X.K):=by
 intro pins s σ H x y v u Q I rx ry h
 cases x<;>cases y<;>first
  | exact zpO_ pins s σ H _ _ v u Q I rx ry h
  | (obtain ⟨ns,ms,ha,hb,q⟩:=h
     cases rx
     cases ry
     obtain ⟨ai,r1,p1,_⟩:=I.list ha
     obtain ⟨aM,r2,p2,_⟩:=I.list hb
     have i1:IntsAre ai.toArray.toList ns:=zgc_ r1
     have i2:IntsAre aM.toArray.toList ms:=zgc_ r2
     exact ziu_ p1.isList p2.isList i1 i2 (by lia) ⟨.bl (HT.lexLt ns ms),H,I,rfl,q⟩)
section
variable {K:Fgg}{E:XK}{H:Hp}
theorem zqd_:Op2 K (mLtK K) E tyInt tyInt (fun i j=>.ok (decide (i<j))) tyBl:=by
 rintro a b x y F H Q hs rfl rfl k
 exact k.ok hs _ rfl
theorem zks_:Op2 K (mLtK K) E tyStr tyStr (fun i j=>.ok (decide (i<j))) tyBl:=by
 rintro a b x y F H Q hs rfl rfl k
 exact k.ok hs _ rfl
theorem zkr_ {xs:List Int}{vs:List V}(h:Prs tyInt H xs vs):vs=xs.map V.int:=by
 induction h with
 | nil=>rfl
 | cons r t ih=>rw [List.map_cons,<- ih,r]
theorem zpK_:Op2 K (mLtK K) E (tyL tyInt) (tyL tyInt) (fun i j=>.ok (HT.lexLt i j)) tyBl:=by
 rintro a b x y F H Q hs ⟨p,vs,rfl,hp,hr⟩ ⟨p2,us,rfl,cW,ee⟩ k
 refine ⟨a,b,.of ?_,.of ?_,k.ok hs _ rfl⟩
 ·rw [<- zkr_ hr]; exact hs _ _ hp
 ·rw [<- zkr_ ee]; exact hs _ _ cW
variable {α:Type}
theorem znH_ {n d:Nat}{i:Int}(h:0<=i):HT.sIx n d (some i)=min i.toNat n:=by
 unfold HT.sIx
 simp only
 split<;>lia
theorem zmy_ {xs:List α}{i:Int}(h:0<=i):cutG xs none (some i)=xs.take i.toNat:=by
 unfold cutG
 rw [znH_ h,show HT.sIx xs.length 0 none=0 from rfl,List.drop_zero,Nat.sub_zero,<- List.take_take,List.take_length]
variable {γ:Type}{h:Hp}{L:List Sl}{T:Ty α}{r:Mo α}
theorem zmV_ {C:Cs γ}{f:γ->Mo α}{ta:TA}{r:Mo γ}(h:EvA K ta E L r C):EvF K (tCall (Ct K C f (owF T)) [] E ta) E L (r.bind f) T:=(zjB_ h).fr
theorem zl_ {C:Cs γ}{f:γ->Mo α}{ta:TA}{r:Mo γ}(h:EvA K ta E L r C):EvF K (tCall (Ct K C f (owF T)) [] E0 ta) E L (r.bind fun c=>(f c).noex) T:=(zaK_ h).fr
end
def repL {α:Type}(xs:List α)(n:Int):List α:=(List.replicate n.toNat xs).flatten
def CRep (m:Nat)(n:Int):Prop:=0<=n/\n<=100000/\m<=100000/\m*n.toNat<=100000
instance (m:Nat) (n:Int):Decidable (CRep m n):=inferInstanceAs (Decidable (_/\_))
def mMulX:R2:=fun x y H Q=>match x,y with
 | .int i,.int j=>IntMulOk i j/\Q (.int (i*j)) H
 | .str z,.int n=>CRep z.cps.toList.length n/\Q (tx (repL z.cps.toList n)) H
 | .ref l,.int k=>∃ xs,H l=some (.lst xs)/\CRep xs.length k/\∀ p,H p=none->Q (.ref p) (upd H p (.lst (repL xs k)))
 | _,_=>False
theorem zlT_ (z:Array Nat)(n:Nat):(List.foldl (fun x1 x2=>x1++x2) #[] (List.replicate n z)).toList=(List.replicate n z.toList).flatten:=by
 have:∀ (l:List (Array Nat)) (acc:Array Nat),(l.foldl (fun x1 x2=>x1++x2) acc).toList=acc.toList++(l.map Array.toList).flatten:=by
  intro l
  induction l with
  | nil=>intro acc; simp
  | cons a l ih=>intro acc; rw [List.foldl_cons,ih]; simp
 rw [this]
 simp
theorem zh3_ {X:Cx}:OpR X (binaryOp .Mult) mMulX:=by
 intro pins s σ H x y v u Q I rx ry h
 cases x<;>cases y<;>first
  | exact h.elim
  | exact zpe_ pins s σ H _ _ v u Q I rx ry h
  | (obtain ⟨xs,hl,⟨c1,c2,c3,c4⟩,q⟩:=h
     exact zrb_ pins s σ H _ _ v u Q I rx ry ⟨_,_,xs,rfl,rfl,hl,by lia,by lia,zeg_ c4,q⟩)
  | (rename_i z n
     obtain ⟨⟨c1,c2,c3,c4⟩,q⟩:=h
     obtain ⟨t,rfl⟩:=rx
     obtain ⟨t',rfl⟩:=ry
     have hz:z.length=z.cps.toList.length:=by simp [Str.length]
     refine PySem.P.mul_str (by simp; lia) (fun h1 h2=>?_) (fun h1 h2=>?_) ?_
     ·rw [hz]
      have hn:0<n:=by lia
      have:(z.cps.toList.length:Int)*n<=2 ^ 63-1:=by
       have e:n=(n.toNat:Int):=by lia
       rw [e,<- Int.natCast_mul]; lia
      have:=Int.le_ediv_of_mul_le hn this
      lia
     ·unfold Builtin.Str.tooLong
      rw [hz]
      have:=zeg_ c4
      exact decide_eq_false (by lia)
     ·by_cases h1:n<1
      ·rw [if_pos h1]
       have:n=0:=by lia
       subst this
       exact ⟨Nat.zero_le _,tx [],H,I.tok _,⟨_,rfl⟩,q⟩
      ·rw [if_neg h1]
       by_cases h2:(n == 1 || z.length == 0)=true
       ·rw [if_pos h2]
        have e:repL z.cps.toList n=z.cps.toList:=by
         unfold repL
         rw [Bool.or_eq_true] at h2
         rcases h2 with h2 | h2
         ·have:n=1:=by simpa using h2
          subst this; simp
         ·have:z.cps.toList=[]:=List.length_eq_zero_iff.mp (by rw [<- hz]; simpa using h2)
          rw [this]; simp
        rw [e] at q
        refine ⟨tx z.cps.toList,H,I,⟨t,?_⟩,q⟩
        show Value.str z t=Value.str ⟨z.cps.toList.toArray⟩ t
        rw [<- zbN_]
       ·rw [if_neg h2]
        refine ⟨?_,tx (repL z.cps.toList n),H,I.tok _,⟨s.toks,?_⟩,q⟩
        ·have e:(⟨List.foldl (fun x1 x2=>x1++x2) #[] (List.replicate n.toNat z.cps)⟩:Str).length=(List.replicate n.toNat z.cps.toList).flatten.length:=by
          rw [<- zlT_]; simp [Str.length]
         rw [e,zmq_]
         exact zeg_ (by rw [Nat.mul_comm]; exact c4)
        show Value.str _ _=Value.str _ _
        congr 1
        unfold repL
        rw [<- zlT_])
section
variable {K:Fgg}{E:XK}{F H:Hp}
theorem zfw_:Op2 K mMulX E tyInt tyInt (fun i j=>.grd (IntMulOk i j) (.ok (i*j))) tyInt:=by
 rintro a b x y F H Q hs rfl rfl k
 obtain ⟨c,k⟩:=k.grd
 exact ⟨c,k.ok hs _ rfl⟩
end
structure KyT (κ:Type) where
 T:Ty κ
 key:κ->Key
 inj:∀ {a b},key a=key b->a=b
 of:∀ {a v H},T.R a v H->keyV v=some (key a)
abbrev kStr:KyT (List Nat):=⟨tyStr,fun l=>Sum.inr ⟨l.toArray⟩,fun h=>by
 injection h with h; injection h with h; simpa using congrArg Array.toList h,fun h=>by cases h; rfl⟩
section
variable {K:Fgg}{E:XK}{α ρ κ S B:Type}{F0 H0 F h H:Hp}{L:List Sl}{e e1 e2:TE}{T:Ty α}{r:Mo α}{O:Own ρ}{t u:TS}{LS:S->List Sl}{LB:B->List Sl}{KY:KyT κ}
abbrev DPr (KY:KyT κ)(T:Ty α)(H:Hp)(m:List (κ×α))(aa:List (Key×V)):Prop:=Paired (fun (q:κ×α) (w:Key×V)=>w.1=KY.key q.1/\T.R q.2 w.2 H) m aa
theorem DPr.mono {m:List (κ×α)}{aa:List (Key×V)}{H H':Hp}(g:Same H H')(h:DPr KY T H m aa):DPr KY T H' m aa:=zbs_ (fun _ _ r=>⟨r.1,T.mono g r.2⟩) h
theorem DPr.imm (i:Imm T){m:List (κ×α)}{aa:List (Key×V)}{H H':Hp}(g:Tups H H')(h:DPr KY T H m aa):DPr KY T H' m aa:=zbs_ (fun _ _ r=>⟨r.1,i g r.2⟩) h
abbrev tyD (KY:KyT κ)(T:Ty α):Ty (List (κ×α)):=⟨fun m v H=>∃ p aa,v=.ref p/\H p=some (.dK aa)/\DPr KY T H m aa,fun g ⟨p,aa,e,h,q⟩=>⟨p,aa,e,g _ _ h,q.mono g⟩⟩
abbrev owD (KY:KyT κ)(T:Ty α):Own (List (κ×α)):=⟨fun m v F h=>∃ p aa,v=.ref p/\h=one p (.dK aa)/\DPr KY T F m aa,tyD KY T,fun g ⟨p,vs,e,z,q⟩=>⟨p,vs,e,z,q.mono g⟩,
 fun d ⟨p,vs,e,z,q⟩=>⟨p,vs,e,zg6_ d _ _ (by rw [z]; exact z9_),q.mono zO_⟩,
 fun ⟨p,vs,e,z,q⟩ b xs y=>by rw [z] at y; unfold one at y; split at y<;>cases y⟩
theorem zcV_ (i:Imm T):ImmO (owD KY T):=fun g ⟨p,vs,e,z,q⟩=>⟨p,vs,e,z,q.imm i g⟩
variable [DecidableEq κ]
def getA (m:List (κ×α))(k:κ):Option α:=(m.find? fun q=>decide (q.1=k)).map (·.2)
def putA (m:List (κ×α))(k:κ)(v:α):List (κ×α):=if (m.any fun q=>decide (q.1=k))=true then m.map (fun q=>if q.1=k then (q.1,v) else q) else m++[(k,v)]
theorem zlJ_ (a b:κ):decide (KY.key a=KY.key b)=decide (a=b):=by rw [decide_eq_decide]; exact ⟨KY.inj,fun h=>by rw [h]⟩
theorem zl4_ {m:List (κ×α)}{aa:List (Key×V)}(h:DPr KY T H m aa)(k:κ):(getA m k=none/\valV aa (KY.key k)=none)\/∃ a v,getA m k=some a/\valV aa (KY.key k)=some v/\T.R a v H:=by
 induction h with
 | nil=>exact .inl ⟨rfl,rfl⟩
 | cons r t ih =>
  rename_i q w m aa
  unfold getA valV at ih ⊢
  rw [List.find?_cons,List.find?_cons,r.1,zlJ_]
  by_cases e:q.1=k
  ·rw [decide_eq_true e]; exact .inr ⟨_,_,rfl,rfl,r.2⟩
  ·rw [decide_eq_false e]; exact ih
theorem zpE_ {m:List (κ×α)}{aa:List (Key×V)}(h:DPr KY T H m aa)(k:κ):(aa.any fun w=>decide (w.1=KY.key k))=m.any fun q=>decide (q.1=k):=by
 induction h with
 | nil=>rfl
 | cons r t ih=>rw [List.any_cons,List.any_cons,ih,r.1,zlJ_]
theorem zpC_ {m m':List (κ×α)}{aa bN:List (Key×V)}(h:DPr KY T H m aa)(h':DPr KY T H m' bN):DPr KY T H (m++m') (aa++bN):=by
 induction h with
 | nil=>exact h'
 | cons r t ih=>exact .cons r ih
theorem zqg_ {m:List (κ×α)}{aa:List (Key×V)}(h:DPr KY T H m aa)(k:κ){a:α}{v:V}(hv:T.R a v H):DPr KY T H (m.map fun q=>if q.1=k then (q.1,a) else q) (aa.map fun w=>if w.1=KY.key k then (w.1,v) else w):=by
 induction h with
 | nil=>exact .nil
 | cons r t ih =>
  rename_i q w m aa
  rw [List.map_cons,List.map_cons]
  refine .cons ?_ ih
  by_cases e:q.1=k
  ·rw [if_pos e,if_pos (by rw [r.1,e])]; exact ⟨r.1,hv⟩
  ·rw [if_neg e,if_neg (fun z=>e (KY.inj (by rw [<- r.1,z])))]; exact r
theorem zmp_ {m:List (κ×α)}{aa:List (Key×V)}(h:DPr KY T H m aa)(k:κ){a:α}{v:V}(hv:T.R a v H):DPr KY T H (putA m k a) (putK aa (KY.key k) v):=by
 unfold putA putK
 rw [zpE_ h]
 split
 ·exact zqg_ h k hv
 ·exact zpC_ h (.cons ⟨rfl,hv⟩ .nil)
theorem zlG_ (KY:KyT κ)(T:Ty α):EvO K tDNewK E L (.ok []) (owD KY T):=by
 intro σ F H Q hL hs q p hp
 have q':OwnK (owD KY T) H Q [] F (upd H p (.dK [])):=q F _ (.heap hs (zbf_ hp _))
 refine q' (.ref p) (one p (.dK [])) (fun b z=>?_) (fun b=>?_) (fun b o z=>?_) ⟨p,[],rfl,rfl,.nil⟩
 ·unfold one at z; split at z
  ·rename_i e; rw [e]; exact hp
  ·exact absurd rfl z
 ·unfold one; split
  ·rename_i e; rw [e]; exact .inl (hs.free hp)
  ·exact .inr rfl
 ·unfold one at z; split at z
  ·rename_i e; rw [e]; cases z; exact zx_
  ·cases z
theorem zmu_ (i:Nat){m:List (κ×α)}(h:L[i]?=some (.ow (owD KY T) m)):EvF K (mVar i) E L (.ok m) (tyD KY T):=zhX_ i h
theorem at_d {x y:V}{R:Addr->List (Key×V)->Key->Prop}{m:List (κ×α)}{k:κ}(hx:(tyD KY T).R m x F)(hy:KY.T.R k y F)(hs:Same F H)(hr:∀ p aa,H p=some (.dK aa)->DPr KY T F m aa->R p aa (KY.key k)):atD x y H R:=by
 obtain ⟨p,aa,rfl,hp,hd⟩:=hx
 unfold atD
 simp only
 rw [KY.of hy]
 exact ⟨aa,hs _ _ hp,hr p aa (hs _ _ hp) hd⟩
theorem zoW_ {r1:Mo (List (κ×α))}{r2:Mo κ}(h1:EvF K e1 E L r1 (tyD KY T))(h2:EvF K e2 E L r2 KY.T):EvF K (mDGet e1 e2) E L (r1.bind fun m=>r2.bind fun k=>.opt (getA m k)) T:=by
 intro σ F H Q hL hs q
 refine h1 σ F H _ hL hs (q.bind.imp fun m F1 H1 x1 k1 v1 dP=>?_)
 refine h2 σ F1 H1 _ (hL.mono x1.1) x1.2.1 (k1.bind.imp fun k F2 H2 x2 k2 v2 dk=>?_)
 refine at_d ((tyD KY T).mono x2.1 dP) dk x2.2.1 fun p aa hp hd=>?_
 obtain ⟨a,ea,k3⟩:=k2.opt
 rcases zl4_ hd k with ⟨z,_⟩ | ⟨a',v,z1,z2,z3⟩
 ·rw [z] at ea; cases ea
 ·rw [z1] at ea; cases ea
  exact ⟨v,z2,k3.ok x2.2.1 v z3⟩
theorem zkJ_ (neg:Bool){r1:Mo (List (κ×α))}{r2:Mo κ}(h2:EvF K e2 E L r2 KY.T)(h1:EvF K e1 E L r1 (tyD KY T)):EvF K (mDIn neg e2 e1) E L (r2.bind fun k=>r1.bind fun m=>.ok (if neg then !(getA m k).isSome else (getA m k).isSome)) tyBl:=by
 intro σ F H Q hL hs q
 refine h2 σ F H _ hL hs (q.bind.imp fun k F1 H1 x1 k1 v1 dP=>?_)
 refine h1 σ F1 H1 _ (hL.mono x1.1) x1.2.1 (k1.bind.imp fun m F2 H2 x2 k2 v2 dk=>?_)
 refine at_d dk (KY.T.mono x2.1 dP) x2.2.1 fun p aa hp hd=>?_
 have e:(valV aa (KY.key k)).isSome=(getA m k).isSome:=by
  rcases zl4_ hd k with ⟨z1,z2⟩ | ⟨a',v,z1,z2,z3⟩
  ·rw [z1,z2]; rfl
  ·rw [z1,z2]; rfl
 rw [e]
 exact k2.ok x2.2.1 _ rfl
theorem zh0_ {i:Nat}{σ:St}{m:List (κ×α)}(hL:Hold L σ F h)(hi:L[i]?=some (.ow (owD KY T) m))(ok:Okk F0 H0 F h H):
  ∃ p aa,σ[i]?=some (some (.ref p))/\H p=some (.dK aa)/\DPr KY T F m aa/\∀ m' bN,DPr KY T F m' bN->∃ h',Hold (L.set i (.ow (owD KY T) m')) σ F h'/\Okk F0 H0 F h' (upd H p (.dK bN)):=by
 obtain ⟨o,h1,h2,e1,j,⟨v,e2,p,aa,rfl,rfl,hr⟩,f⟩:=hL.at i hi
 subst e2
 have hp:h p=some (.dK aa):=j.l _ _ z9_
 have lV:h2 p=none:=by
  rcases j.dj p with z | z
  ·rw [z9_] at z; cases z
  ·exact z
 refine ⟨p,aa,e1,ok.2.2.1 _ _ hp,hr,fun m' bN cO=>?_⟩
 have d2:Dj (one p (.dK bN)) h2:=fun q=>by
  unfold one; split
  ·rename_i z; rw [z]; exact .inr lV
  ·exact .inl rfl
 have g:=f (.ow (owD KY T) m') (some (.ref p)) (one p (.dK bN)) _ (zcv_ d2) ⟨_,rfl,p,bN,rfl,rfl,cO⟩
 rw [zaY_ e1] at g
 refine ⟨_,g,zoz_ (h1':=h) (hr:=h) (h':=h) ok (by rw [hp]; exact sN _) (fun xs z=>by cases z) _ fun b=>?_⟩
 unfold un one
 by_cases z:b=p
 ·simp only [if_pos z]
 ·simp only [if_neg z]
  rcases j b with ⟨_,c⟩ | ⟨a,c⟩
  ·exact c.symm
  ·rw [c,a]; unfold one; rw [if_neg z]
theorem zpb_ {i:Nat}{m:List (κ×α)}{r2:Mo κ}{k:α->κ->Mo (Out ρ B S)}(hi:L[i]?=some (.ow (owD KY T) m))(hT:Imm T)(sf:Imm KY.T)(he:EvF K e E L r T)(gF:EvF K e2 E L r2 KY.T)(hk:∀ a y,EvS K u E (L.set i (.ow (owD KY T) (putA m y a))) (k a y) LS LB O):
  EvS K (tSeq (mDPut (mVar i) e2 e) u) E L (r.bind fun a=>r2.bind fun y=>.lim (m.length+1) (k a y)) LS LB O:=by
 intro F0 H0 σ F h H D hL ok fin
 show e σ H fun v H1=>mVar i σ H1 fun x H2=>e2 σ H2 fun y H3=>atD x y H3 fun a aa k=>aa.length<sizeLine/\u D σ (upd H3 a (.dK (putK aa k v)))
 refine he σ (un F h) H _ (hL.froz ok.2.1) ok.thaw (zW_ (G:=F) ok _ (.inl rfl) fin fun a F1 H1 bh x1 v hv=>?_)
 obtain ⟨o,hs,ht⟩:=ok.back x1
 rw [bh] at fin
 have cq:=hL.mono hs
 have eV:=hT ht hv
 obtain ⟨p,aa,e1,hp,hr,_⟩:=zh0_ cq hi o
 refine zcl_ e1 ?_
 refine gF σ (un _ h) H1 _ (cq.froz o.2.1) o.thaw (zW_ (G:=F) o _ (.inl rfl) fin fun y F2 H2 qc x2 v2 dk=>?_)
 obtain ⟨o',aO,i3⟩:=o.back x2
 rw [qc] at fin
 obtain ⟨hz,fin⟩:=zeP_ (show Fin K (Mo.lim (m.length+1) (k a y)) E LS LB O F0 H0 D from fin)
 obtain ⟨p',bN,cG,hp',cO,mm⟩:=zh0_ (cq.mono aO) hi o'
 rw [e1] at cG; cases cG
 obtain ⟨h',a1,a2⟩:=mm (putA m y a) (putK bN (KY.key y) v) (zmp_ cO y (T.mono aO eV))
 unfold atD
 simp only
 rw [KY.of dk]
 refine ⟨bN,hp',?_,hk a y F0 H0 σ _ h' _ D a1 a2 fin⟩
 have:=Paired.length cO
 lia
end
section
variable {α κ:Type}[DecidableEq κ]
theorem zjn_ (m:List (κ×α))(k j:κ)(v:α):getA (putA m k v) j=if k=j then some v else getA m j:=by
 unfold getA putA
 by_cases ha:(m.any fun q=>decide (q.1=k))=true
 ·rw [if_pos ha]
  induction m with
  | nil=>cases ha
  | cons q m ih =>
   rw [List.map_cons,List.find?_cons,List.find?_cons]
   by_cases e:q.1=k
   ·rw [if_pos e]
    by_cases e2:k=j
    ·rw [if_pos e2]
     simp [e,e2]
    ·rw [if_neg e2]
     have:¬ q.1=j:=fun z=>e2 (by rw [<- e,z])
     simp only [decide_eq_false this]
     by_cases hb:(m.any fun q=>decide (q.1=k))=true
     ·have:=ih hb
      rw [if_neg e2] at this
      exact this
     ·have e3:m.map (fun q=>if q.1=k then (q.1,v) else q)=m:=by
       rw [List.map_congr_left (g:=id) (fun x hx=>?_),List.map_id]
       have:¬ x.1=k:=fun z=>hb (List.any_eq_true.mpr ⟨x,hx,by simpa using z⟩)
       simp [this]
      rw [e3]
   ·rw [if_neg e]
    have hb:(m.any fun q=>decide (q.1=k))=true:=by
     rw [List.any_cons,decide_eq_false e,Bool.false_or] at ha; exact ha
    by_cases e2:q.1=j
    ·simp only [decide_eq_true e2]
     have:¬ k=j:=fun z=>e (by rw [e2,z])
     rw [if_neg this]
    ·simp only [decide_eq_false e2]
     exact ih hb
 ·rw [if_neg ha,List.find?_append]
  by_cases e2:k=j
  ·subst e2
   have:m.find? (fun q=>decide (q.1=k))=none:=by
    rw [List.find?_eq_none]
    intro x hx z
    exact ha (List.any_eq_true.mpr ⟨x,hx,z⟩)
   rw [this,if_pos rfl]
   simp
  ·rw [if_neg e2]
   cases m.find? (fun q=>decide (q.1=j)) with
   | some z=>rfl
   | none=>simp [e2]
theorem zkm_ (m:List (κ×α))(k:κ)(v:α):(putA m k v).length<=m.length+1:=by
 unfold putA
 split
 ·rw [List.length_map]; lia
 ·rw [List.length_append]; exact Nat.le_refl _
end
section
end
end L2
namespace Att
open PySem PySem.W PySem.Calls PyProof.Rows
theorem zmT_ {ns:List Int}(h:WData.layableAll [WData.list (ns.map WData.int)]=true):∀ x∈ns,Builtin.Int.intBits x<=1048576:=by
 intro x hx
 have h1:=layableW_arg h _ (List.mem_singleton.mpr rfl)
 have h2:=layableW_item h1 (.int x) (List.mem_map.mpr ⟨x,hx,rfl⟩)
 exact PyData.bits_of_layable (layable_int h2)
theorem attach_callB {l:OpenLaw}{n:Nat}{q:Program}{loose:List Str}{XP:(Str->Option Value)->Heap->Prop}{YP:World->Heap->Prop}{d:DefRec}
  (hn:l.most=some n) (jl:d.params.defaults=[])
  (call:∀ (w:World) (s₀ av:Shared) (mg mb:Str->Option Value) (fa:Addr) (o:Obj) (pm cd doc:Value) (a:Addr) (vs:List Value) (ns:List Int),
   (∀ x∈ns,Builtin.Int.intBits x<=1048576) ->
   Ground q loose [] XP w s₀ mg mb av.heap->YP w av.heap ->
   av.heap.get? fa=some o->o.data=.func (docDef d.name d.params d.body d.scope pm cd doc)->av.heap.CodeRec cd d.name->mg d.name=some (.ref fa) ->
   av.heap.get? a=some { cls:=.type "list",data:=.seq vs.toArray }->IntsAre vs ns->ns.length<=n->av.gens=#[] ->
   codeAny (model l.prog w) callerA (.call (.ref fa) ⟨[.ref a],[]⟩) (fun r s'=>r=.ok (.ret (.bool true))/\OldK av.heap s'.heap/\s'.os=av.os/\AllBare s'.gens) av):
  WalkO q loose XP YP l.row.toRowW d [] (fun f vs=>PySem.call f vs):=by
 intro w s₀ av mg mb G Y fa o pm cd doc dV kV ho hd cY hD i8 hg args vals as fE lJ sd lq lH
 obtain rfl:dV=.none:=Dflts.none hD jl
 obtain rfl:kV=.none:=Dflts.noKw hD
 obtain ⟨a,vs,ns,rfl,rfl,gz,hints,hlen⟩:=zk5_ hn fE lq
 refine enter_call (codeAny_mono (call w s₀ av mg mb fa o pm cd doc a vs ns (zmT_ lJ) G Y ho (fd_plain hd) cY i8 gz hints hlen hg) fun r s' hq=>?_)
 obtain ⟨rfl,h2,h3,h4⟩:=hq
 exact ⟨.inl ⟨.bool true,.bool true,[],rfl,fun _=>rfl,.bool true,zlf_ l _,fun _=>⟨List.Pairwise.nil,fun _ hm=>(nomatch hm)⟩⟩,h2,h3,h4⟩
end Att
namespace L2
open PySem PySem.Spec PyProof.Rows
theorem zmN_ {l:W.OpenLaw}{n k:Nat}{q:Program}{loose:List Str}{XP:(Str->Option Value)->Heap->Prop}{YP:World->Heap->Prop}{d:DefRec}{K:Params->Fgg}{CX:World->CXT}{sp:World->Sp}{x:Str}
  (hn:l.most=some n) (hJ:n<=sizeLine) (jl:d.params.defaults=[]) (hr:Room k callerA)
  (hY:∀ (w:World) (h:Heap),YP w h->(K w.params).In h)
  (F:∀ (w:World) (mg:Str->Option Value) (fa:Addr) (h:Heap),(K w.params).In h->h.Ns mainGlobals mg->mg d.name=some (.ref fa) ->
   ∃ fd:FuncData,(∀ (s:Shared) (u:Value),BindsTo s fd ⟨[u],[]⟩ [(x,u)]) /\
    ∀ base:Heap,(K w.params).In base->base.Ns mainGlobals mg->FnOk l.prog w (K w.params) mg base (CX w) k fa fd [x] (sp w))
  (cM:∀ (w:World) (H:Hp) (a:Addr) (ns:List Int),ns.length<=n->(∀ x∈ns,Builtin.Int.intBits x<=1048576)->Only H->SqL (K w.params) H a (ns.map V.int)->sp w [.ref a] H (fun v _=>v=.bl true) fun _ _ _=>False)
  (lU:∀ (w:World) (H:Hp) (s:Shared) (e:Value) (s':Shared),CX w [] H s (fun _ _ _=>False) e s'->False):
  W.WalkO q loose XP YP l.row.toRowW d [] (fun f vs=>PySem.call f vs):=by
 refine Att.attach_callB hn jl fun w s₀ av mg mb fa o pm cd doc a vs ns jq G Y ho hd cY i8 gz hints hlen hg=>?_
 have KX:=hY w _ Y
 obtain ⟨fd,hb,hF⟩:=F w mg fa _ KX G.T.g i8
 exact zn4_ KX G.T.g G.T.b G.T.builtins G.T.nolimit hg gz hints (Nat.le_trans hlen hJ) hr hF hb (fun H hO hS=>cM w H a ns hlen jq hO hS) fun H e s'=>lU w H av e s'
abbrev BitsOk (ns:List Int):Prop:=∀ x∈ns,Builtin.Int.intBits x<=1048576
open PySem PySem.Spec PyProof.Rows PySem.W
section
end
def knd:V->Nat | .int _=>1 | .str _=>2 | _=>0
section
variable {α:Type}
structure LOr (lt:α->α->Bool):Prop where
 asym:∀ {a b},lt a b=true->lt b a=false
 tr:∀ {a b c},lt b a=false->lt c b=false->lt c a=false
 anti:∀ {a b},lt a b=false->lt b a=false->a=b
theorem LOr.irr {lt:α->α->Bool}(o:LOr lt)(a:α):lt a a=false:=by
 cases h:lt a a with
 | false=>rfl
 | true=>rw [<- h]; exact o.asym h
def ltI (a b:Int):Bool:=decide (a<b)
def ltS (a b:List Nat):Bool:=decide (a<b)
theorem lo_int:LOr ltI:=by
 unfold ltI
 refine ⟨fun h=>?_,fun h h'=>?_,fun h h'=>?_⟩<;>simp only [decide_eq_true_eq,decide_eq_false_iff_not] at*<;> lia
theorem zoF_:LOr ltS:=by
 unfold ltS
 refine ⟨fun h=>?_,fun h h'=>?_,fun h h'=>?_⟩<;>simp only [decide_eq_true_eq,decide_eq_false_iff_not] at *
 ·exact fun h2=>List.lt_irrefl _ (List.lt_trans h h2)
 ·exact List.not_lt.mpr (List.le_trans (List.not_lt.mp h) (List.not_lt.mp h'))
 ·exact List.le_antisymm (List.not_lt.mp h') (List.not_lt.mp h)
end
end L2
universe u
namespace L2
open PySem PySem.Spec PyProof.Rows
section
end
open PySem PySem.Spec PyProof.Rows PySem.W
section
variable {α β ρ:Type}{F0 H0 F h H:Hp}{L:List Sl}{e:TE}{r:Mo α}{O:Own ρ}{u:TS}
theorem Hold.atM:∀ {L:List Sl}{σ:St}{F h:Hp}(i:Nat) {s:Sl},Hold L σ F h->L[i]?=some s ->
  ∃ o h1 h2,σ[i]?=some o/\Jn h1 h2 h/\s.P o F h1/\∀ F' s' o' h1' h',Same F F'->Jn h1' h2 h'->s'.P o' F' h1'->Hold (L.set i s') (σ.set i o') F' h'
 | [],_,_,_,_,_,_,e=>by cases e
 | s::L,[],_,_,_,_,q,_=>q.elim
 | s::L,o::σ,F,h,0,t,⟨h1,h2,j,p,r⟩,e=>by
  cases e
  exact ⟨o,h1,h2,rfl,j,p,fun F' s' o' h1' h' g j' p'=>⟨h1',h2,j',p',r.mono g⟩⟩
 | s::L,o::σ,F,h,i+1,t,⟨h1,h2,j,p,r⟩,e=>by
  obtain ⟨o1,k1,k2,e1,j1,p1,f⟩:=Hold.atM i r (by simpa using e)
  have d1:Dj h1 k1:=fun p=>by
   rcases j.dj p with a | a
   ·exact .inl a
   ·exact .inr (j1.l.free a)
  have d2:Dj h1 k2:=fun p=>by
   rcases j.dj p with a | a
   ·exact .inl a
   ·exact .inr (j1.r.free a)
  refine ⟨o1,k1,un h1 k2,by simpa using e1,fun p=>?_,p1,fun F' s' o' aI h' g j' p'=>?_⟩
  ·rcases j p with ⟨a,b⟩ | ⟨a,b⟩
   ·rcases j1 p with ⟨c,d⟩ | ⟨c,d⟩
    ·refine .inl ⟨c,?_⟩; unfold un; rw [a,b,d]
    ·refine .inr ⟨?_,by rw [b,d]⟩; unfold un; rw [a,c]
   ·refine .inl ⟨j1.l.free a,?_⟩
    have:k2 p=none:=j1.r.free a
    unfold un; rw [b]
    cases h1 p with
    | none=>rw [this]
    | some u=>rfl
  ·have dd:Dj aI k2:=fun p=>by
    rcases j' p with ⟨a,b⟩ | ⟨a,b⟩
    ·exact .inl a
    ·right; unfold un at a
     cases z:h1 p with
     | none=>rw [z] at a; exact a
     | some u=>rw [z] at a; cases a
   refine ⟨h1,un aI k2,fun p=>?_,p.mono g,f F' s' o' aI _ g (zcv_ dd) p'⟩
   rcases j' p with ⟨a,b⟩ | ⟨a,b⟩
   ·unfold un at b ⊢
    cases z:h1 p with
    | none=>rw [z] at b; exact .inl ⟨rfl,by rw [b,a]⟩
    | some u =>
     rw [z] at b
     refine .inr ⟨?_,b⟩
     rw [a]
     rcases d2 p with y | y
     ·rw [y] at z; cases z
     ·exact y
   ·unfold un at a
    cases z:h1 p with
    | some u=>rw [z] at a; cases a
    | none =>
     rw [z] at a
     refine .inl ⟨rfl,?_⟩
     unfold un; rw [b]
     cases aI p with
     | none=>exact a.symm
     | some u=>rfl
structure PutC (F2 H2 h H0 k k' F3 H3:Hp):Prop where
 ff:Same F2 F3
 fh:Same F3 H3
 ol:Same (less H2 k) H3
 nw:∀ q,F2 q=none->F3 q≠none->H2 q=none\/k q≠none
 kh:Same k' H3
 dj:Dj F3 k'
 fr:∀ q,k q=none->k' q≠none->h q=none/\H0 q=none
theorem zhe_ {O1:Own α}{i:Nat}{σ:St}{x:α}(hL:Hold L σ F h)(hi:L[i]?=some (.ow O1 x))(ok:Okk F0 H0 F h H):
  ∃ v k,σ[i]?=some (some v)/\O1.O x v F k/\Same k H/\Same k h/\Dj F k/\∀ {β:Type}(O2:Own β) (x':β) (v':V) (k' F3 H3:Hp),PutC F H h H0 k k' F3 H3->O2.O x' v' F3 k' ->
   ∃ h',Hold (L.set i (.ow O2 x')) (σ.set i (some v')) F3 h'/\Okk F0 H0 F3 h' H3:=by
 obtain ⟨o,k,hr,e1,j,⟨v,e2,ho⟩,f⟩:=hL.atM i hi
 subst e2
 obtain ⟨o1,o2,o3,o4,o5⟩:=ok
 have kh:Same k h:=j.l
 have rh:Same hr h:=j.r
 have nK:∀ q,k q≠none->h q≠none:=fun q z w=>z (kh.free w)
 refine ⟨v,k,e1,ho,kh.trans o3,kh,fun q=>?_,?_⟩
 ·rcases o2 q with z | z
  ·exact .inl z
  ·exact .inr (kh.free z)
 intro β O2 x' v' k' F3 H3 P eV
 have rk:∀ {q o},hr q=some o->k q=none:=fun {q o} z=>by
  rcases j.dj q with y | y
  ·exact y
  ·rw [y] at z; cases z
 have dj:Dj k' hr:=fun q=>by
  by_cases w:k' q=none
  ·exact .inl w
  ·right
   by_cases w2:k q=none
   ·exact rh.free (P.fr q w2 w).1
   ·rcases j.dj q with y | y
    ·exact absurd y w2
    ·exact y
 have rH:∀ {q o},hr q=some o->H3 q=some o:=fun {q o} z=>P.ol q o (by rw [zr_ (rk z)]; exact o3 _ _ (rh _ _ z))
 refine ⟨un k' hr,f F3 (.ow O2 x') (some v') k' _ P.ff (zcv_ dj) ⟨_,rfl,eV⟩,⟨o1.1.trans P.ff,P.fh,fun q o z=>?_,fun q a b=>?_⟩,fun q=>?_,fun q o z=>?_,fun q z=>?_,fun q xs z=>?_⟩
 ·have hq:h q=none:=by
   cases w:h q with
   | none=>rfl
   | some s=>have:=o4 q (by rw [w]; exact sN _); rw [this] at z; cases z
  exact P.ol q o (by rw [zr_ (kh.free hq)]; exact o1.2.2.1 _ _ z)
 ·by_cases w:F q=none
  ·rcases P.nw q w b with y | y
   ·exact o1.2.2.1.free y
   ·exact o4 q (nK q y)
  ·exact o1.2.2.2 q a w
 ·unfold un
  cases w:k' q with
  | some s =>
   left
   rcases P.dj q with y | y
   ·exact y
   ·rw [y] at w; cases w
  | none =>
   cases y:hr q with
   | none=>exact .inr rfl
   | some s =>
    left
    have hq:h q=some s:=rh _ _ y
    have Fq:F q=none:=by
     rcases o2 q with d | d
     ·exact d
     ·rw [d] at hq; cases hq
    by_cases w3:F3 q=none
    ·exact w3
    ·rcases P.nw q Fq w3 with d | d
     ·rw [o3 _ _ hq] at d; cases d
     ·exact absurd (rk y) d
 ·unfold un at z
  cases w:k' q with
  | some s=>rw [w] at z; rw [P.kh q s w]; exact z
  | none=>rw [w] at z; exact rH z
 ·unfold un at z
  cases w:k' q with
  | some s =>
   by_cases y:k q=none
   ·exact (P.fr q y (by rw [w]; exact sN _)).2
   ·exact o4 q (nK q y)
  | none =>
   rw [w] at z
   exact o4 q fun y=>z (rh.free y)
 ·unfold un at z
  cases w:k' q with
  | some s=>rw [w] at z; refine O2.notup eV q xs ?_; rw [w]; exact z
  | none=>rw [w] at z; exact o5 q xs (rh _ _ z)
theorem PutC.same {k k':Hp}{H3:Hp}(ok:Okk F0 H0 F h H)(kh:Same k h)(a:Same k' H3)(b:∀ q,k q=none->k' q=none->H3 q=H q)(c:∀ q,k q=none->k' q≠none->F q=none/\h q=none/\H0 q=none/\H q=k' q):PutC F H h H0 k k' F H3:=by
 have dj:Dj F k':=fun q=>by
  by_cases w:k' q=none
  ·exact .inr w
  ·left
   by_cases y:k q=none
   ·exact (c q y w).1
   ·rcases ok.2.1 q with d | d
    ·exact d
    ·exact absurd (kh.free d) y
 have ol:∀ q o,k q=none->H q=some o->H3 q=some o:=fun q o y z=>by
  by_cases w:k' q=none
  ·rw [b q y w]; exact z
  ·obtain ⟨_,_,_,e⟩:=c q y w
   rw [z] at e
   exact a _ _ e.symm
 refine ⟨Same.refl _,fun q o z=>?_,fun q o z=>?_,fun q y z=>absurd y z,a,dj,fun q y z=>⟨(c q y z).2.1,(c q y z).2.2.1⟩⟩
 ·have y:k q=none:=by
   rcases ok.2.1 q with d | d
   ·rw [d] at z; cases z
   ·exact kh.free d
  exact ol q o y (ok.1.2.1 _ _ z)
 ·unfold less at z
  split at z
  ·rename_i y; exact ol q o y z
  ·cases z
theorem PutC.one {p:Addr}{o o':HO}(ok:Okk F0 H0 F h H)(kh:Same (one p o) h):PutC F H h H0 (one p o) (one p o') F (upd H p o'):=by
 have ne:∀ q,L2.one p o q=none->q≠p:=fun q z w=>by rw [w,z9_] at z; cases z
 refine PutC.same ok kh (fun q s z=>?_) (fun q z1 z2=>zI_ (ne q z1)) fun q z1 z2=>?_
 ·unfold L2.one at z
  split at z
  ·rename_i w; unfold upd; rw [if_pos w]; exact z
  ·cases z
 ·unfold L2.one at z2
  rw [if_neg (ne q z1)] at z2
  exact absurd rfl z2
end
section
variable {α:Type}
def OwAll (O:Own α)(F:Hp):List α->List V->Hp->Prop
 | [],[],h=>∀ p,h p=none
 | x::xs,v::vs,h=>∃ h1 h2,Jn h1 h2 h/\O.O x v F h1/\OwAll O F xs vs h2
 | _,_,_=>False
variable {O:Own α}
theorem OwAll.mono:∀ {xs:List α}{vs:List V}{F F' h:Hp},Same F F'->OwAll O F xs vs h->OwAll O F' xs vs h
 | [],[],_,_,_,_,q=>q
 | x::xs,v::vs,F,F',h,g,⟨h1,h2,j,o,r⟩=>⟨h1,h2,j,O.mono g o,r.mono g⟩
 | [],_::_,_,_,_,_,q=>q.elim
 | _::_,[],_,_,_,_,q=>q.elim
theorem OwAll.imm (i:ImmO O):∀ {xs:List α}{vs:List V}{F F' h:Hp},Tups F F'->OwAll O F xs vs h->OwAll O F' xs vs h
 | [],[],_,_,_,_,q=>q
 | x::xs,v::vs,F,F',h,g,⟨h1,h2,j,o,r⟩=>⟨h1,h2,j,i g o,r.imm i g⟩
 | [],_::_,_,_,_,_,q=>q.elim
 | _::_,[],_,_,_,_,q=>q.elim
theorem OwAll.notup:∀ {xs:List α}{vs:List V}{F h:Hp},OwAll O F xs vs h->∀ p ys,h p≠some (.tup ys)
 | [],[],_,_,q,p,ys=>by rw [q p]; exact fun z=>by cases z
 | x::xs,v::vs,F,h,⟨h1,h2,j,o,r⟩,p,ys=>by
  rcases j p with ⟨_,b⟩ | ⟨_,b⟩
  ·rw [b]; exact r.notup p ys
  ·rw [b]; exact O.notup o p ys
 | [],_::_,_,_,q,_,_=>q.elim
 | _::_,[],_,_,q,_,_=>q.elim
theorem OwAll.len:∀ {xs:List α}{vs:List V}{F h:Hp},OwAll O F xs vs h->xs.length=vs.length
 | [],[],_,_,_=>rfl
 | x::xs,v::vs,F,h,⟨h1,h2,j,o,r⟩=>by rw [List.length_cons,List.length_cons,r.len]
 | [],_::_,_,_,q=>q.elim
 | _::_,[],_,_,q=>q.elim
theorem zdp_ {F h1 h:Hp}(d:Dj F h)(s:Same h1 h):Same (un F h1) (un F h):=fun p o e=>by
 unfold un at e ⊢
 cases z:F p with
 | some w=>rw [z] at e; exact e
 | none=>rw [z] at e; exact s _ _ e
theorem OwAll.prs:∀ {xs:List α}{vs:List V}{F h G:Hp},Dj F h->Same (un F h) G->OwAll O F xs vs h->Prs O.fr G xs vs
 | [],[],_,_,_,_,_,_=>.nil
 | x::xs,v::vs,F,h,G,d,g,⟨h1,h2,j,o,r⟩=>by
  have d1:Dj F h1:=fun p=>by
   rcases d p with z | z
   ·exact .inl z
   ·exact .inr (j.l.free z)
  have d2:Dj F h2:=fun p=>by
   rcases d p with z | z
   ·exact .inl z
   ·exact .inr (j.r.free z)
  exact .cons (O.fr.mono ((zdp_ d j.l).trans g) (O.frz d1 o)) (r.prs d2 ((zdp_ d j.r).trans g))
 | [],_::_,_,_,_,_,_,q=>q.elim
 | _::_,[],_,_,_,_,_,q=>q.elim
theorem zi6_ {h1 h2 h:Hp}(j:Jn h1 h2 h):Jn h2 h1 h:=fun p=>by
 rcases j p with ⟨a,b⟩ | ⟨a,b⟩
 ·exact .inr ⟨a,b⟩
 ·exact .inl ⟨a,b⟩
theorem zeh_ {h1 h2 oi h3 h:Hp}(j:Jn h1 h2 oi)(k:Jn oi h3 h):∃ og,Jn h2 h3 og/\Jn h1 og h:=by
 have d:Dj h2 h3:=fun p=>by
  rcases k.dj p with z | z
  ·exact .inl (j.r.free z)
  ·exact .inr z
 refine ⟨un h2 h3,zcv_ d,fun p=>?_⟩
 unfold un
 rcases k p with ⟨a,b⟩ | ⟨a,b⟩
 ·refine .inl ⟨j.l.free a,?_⟩
  rw [j.r.free a]; exact b
 ·rcases j p with ⟨c,e⟩ | ⟨c,e⟩
  ·refine .inl ⟨c,?_⟩
   rw [b,e]
   cases z:h2 p with
   | none=>exact a.symm ▸ rfl
   | some w=>rfl
  ·refine .inr ⟨?_,by rw [b,e]⟩
   rw [c]; exact a
theorem OwAll.at:∀ {xs:List α}{vs:List V}{F h:Hp}(i:Nat) {x:α},OwAll O F xs vs h->xs[i]?=some x ->
  ∃ v h1 h2,vs[i]?=some v/\Jn h1 h2 h/\O.O x v F h1/\∀ x' h1' h' F3,Same F F3->O.O x' v F3 h1'->Jn h1' h2 h'->OwAll O F3 (xs.set i x') vs h'
 | [],_,_,_,_,_,_,e=>by cases e
 | x::xs,[],_,_,_,_,q,_=>q.elim
 | x::xs,v::vs,F,h,0,y,⟨h1,h2,j,o,r⟩,e=>by
  cases e
  exact ⟨v,h1,h2,rfl,j,o,fun x' h1' h' F3 g o' j'=>⟨h1',h2,j',o',r.mono g⟩⟩
 | x::xs,v::vs,F,h,i+1,y,⟨h1,h2,j,o,r⟩,e=>by
  obtain ⟨w,k1,k2,e1,j1,o1,f⟩:=OwAll.at i r (by simpa using e)
  obtain ⟨m,jm,jh⟩:=zeh_ j1 (zi6_ j)
  refine ⟨w,k1,m,by simpa using e1,jh,o1,fun x' aI h' F3 g o' j'=>?_⟩
  have d:Dj aI k2:=fun p=>by
   rcases j'.dj p with z | z
   ·exact .inl z
   ·exact .inr (jm.l.free z)
  refine ⟨h1,un aI k2,?_,O.mono g o,f x' aI _ F3 g o' (zcv_ d)⟩
  intro p
  rcases j' p with ⟨a,b⟩ | ⟨a,b⟩
  ·rcases jm p with ⟨c,e⟩ | ⟨c,e⟩
   ·right
    refine ⟨by unfold un; rw [a,c],by rw [b,e]⟩
   ·left
    refine ⟨c,by unfold un; rw [a,b,e]⟩
  ·left
   refine ⟨jm.r.free a,?_⟩
   unfold un
   rw [b]
   cases z:aI p with
   | none=>exact (jm.l.free a).symm ▸ rfl
   | some w=>rfl
theorem OwAll.snoc:∀ {xs:List α}{vs:List V}{F h:Hp}{x:α}{v:V}{hn:Hp},OwAll O F xs vs h->O.O x v F hn->Dj h hn->OwAll O F (xs++[x]) (vs++[v]) (un h hn)
 | [],[],F,h,x,v,hn,q,o,d=>by
  refine ⟨hn,fun _=>none,fun p=>.inr ⟨rfl,?_⟩,o,fun _=>rfl⟩
  unfold un; rw [q p]
 | y::xs,w::vs,F,h,x,v,hn,⟨h1,h2,j,o1,r⟩,o,d=>by
  obtain ⟨m,jm,jh⟩:=zeh_ j (zcv_ d)
  have d2:Dj h2 hn:=jm.dj
  have e:m=un h2 hn:=by
   funext p
   unfold un
   rcases jm p with ⟨a,b⟩ | ⟨a,b⟩
   ·rw [a]; exact b
   ·rw [b]
    cases z:h2 p with
    | none=>exact a.symm ▸ rfl
    | some w=>rfl
  rw [e] at jh
  exact ⟨h1,_,jh,o1,r.snoc o d2⟩
 | [],_::_,_,_,_,_,_,q,_,_=>q.elim
 | _::_,[],_,_,_,_,_,q,_,_=>q.elim
abbrev owLO (O:Own α):Own (List α):=⟨fun xs v F h=>∃ p vs h2,v=.ref p/\Jn (one p (.lst vs)) h2 h/\OwAll O F xs vs h2,tyL O.fr,fun g ⟨p,vs,h2,e,j,q⟩=>⟨p,vs,h2,e,j,q.mono g⟩,
 fun {a v F h} d ⟨p,vs,h2,e,j,q⟩=>⟨p,vs,e,zg6_ d _ _ (j.l _ _ z9_),q.prs (fun b=>by
  rcases d b with z | z
  ·exact .inl z
  ·exact .inr (j.r.free z)) (zdp_ d j.r)⟩,
 fun ⟨p,vs,h2,e,j,q⟩ b xs y=>by
  rcases j b with ⟨_,z⟩ | ⟨_,z⟩
  ·rw [z] at y; exact q.notup b xs y
  ·rw [z] at y; unfold one at y; split at y<;>cases y⟩
theorem zaQ_ (i:ImmO O):ImmO (owLO O):=fun g ⟨p,vs,h2,e,j,q⟩=>⟨p,vs,h2,e,j,q.imm i g⟩
end
section
variable {K:Fgg}{E:XK}{α β ρ S B:Type}{F0 H0 F h H:Hp}{L:List Sl}{e te ei:TE}{T:Ty α}{r:Mo α}{Or:Own ρ}{u:TS}{LS:S->List Sl}{LB:B->List Sl}{σ:St}
def Foc (F0 H0:Hp)(σ:St)(h F1:Hp)(O':Own β)(y:β)(u:V)(LF:β->List Sl):Prop:=
 ∀ F2 H2,Same F1 F2->Okk F0 H0 F2 h H2->∃ k,O'.O y u F2 k/\Same k h /\
  ∀ y' k' F3 H3,PutC F2 H2 h H0 k k' F3 H3->O'.O y' u F3 k'->∃ h',Hold (LF y') σ F3 h'/\Okk F0 H0 F3 h' H3
theorem znu_ {O:Own α}{x:α}{i:Nat}(hL:Hold L σ F h)(hi:L[i]?=some (.ow O x)):∃ v,σ[i]?=some (some v)/\Foc F0 H0 σ h F O x v (fun x'=>L.set i (.ow O x')):=by
 obtain ⟨o,_,_,e1,_,⟨v,e2,_⟩,_⟩:=hL.at i hi
 subst e2
 refine ⟨v,e1,fun F2 H2 s ok=>?_⟩
 obtain ⟨v',k,cG,ho,_,kh,_,g⟩:=zhe_ (hL.mono s) hi ok
 rw [e1] at cG; cases cG
 refine ⟨k,ho,kh,fun y' k' F3 H3 a b=>?_⟩
 obtain ⟨h',a1,a2⟩:=g O y' v k' F3 H3 a b
 rw [zaY_ e1] at a1
 exact ⟨h',a1,a2⟩
theorem Foc.part {O:Own α}{O':Own β}{F1:Hp}{y:α}{z:β}{w u:V}{LF:α->List Sl}{put:β->α}(f:Foc F0 H0 σ h F1 O y u LF)
  (pt:∀ F2 k,Same F1 F2->Same k h->O.O y u F2 k->∃ k1 k2,Jn k1 k2 k/\O'.O z w F2 k1/\∀ z' aI k' F3,Same F2 F3->O'.O z' w F3 aI->Jn aI k2 k'->O.O (put z') u F3 k'):Foc F0 H0 σ h F1 O' z w (fun z'=>LF (put z')):=by
 intro F2 H2 s ok
 obtain ⟨k,ho,kh,g⟩:=f F2 H2 s ok
 obtain ⟨k1,k2,j,ho',pp⟩:=pt F2 k s kh ho
 refine ⟨k1,ho',j.l.trans kh,fun z' aI F3 H3 P hz=>?_⟩
 have d:Dj aI k2:=fun q=>by
  by_cases w1:aI q=none
  ·exact .inl w1
  ·right
   by_cases w2:k1 q=none
   ·exact (j.r.trans kh).free (P.fr q w2 w1).1
   ·rcases j.dj q with y | y
    ·exact absurd y w2
    ·exact y
 have nN:∀ {q o},k2 q=some o->k1 q=none/\H3 q=some o:=fun {q o} e=>by
  have y1:k1 q=none:=by
   rcases j.dj q with y1 | y1
   ·exact y1
   ·rw [y1] at e; cases e
  exact ⟨y1,P.ol q o (by rw [zr_ y1]; exact ok.2.2.1 _ _ (kh _ _ (j.r _ _ e)))⟩
 refine g (put z') (un aI k2) F3 H3 ⟨P.ff,P.fh,fun q o e=>?_,(fun q a b=>(P.nw q a b).imp id fun z w=>z (j.l.free w)),fun q o e=>?_,fun q=>?_,fun q a1 a2=>?_⟩ (pp z' aI _ F3 P.ff hz (zcv_ d))
 ·unfold less at e
  split at e
  ·rename_i y; exact P.ol q o (by rw [zr_ (j.l.free y)]; exact e)
  ·cases e
 ·unfold un at e
  cases y:aI q with
  | some s=>rw [y] at e; rw [P.kh q s y]; exact e
  | none=>rw [y] at e; exact (nN e).2
 ·unfold un
  cases y:aI q with
  | some s =>
   rcases P.dj q with d | d
   ·exact .inl d
   ·rw [d] at y; cases y
  | none =>
   cases e:k2 q with
   | none=>exact .inr rfl
   | some s =>
    left
    have hq:h q=some s:=kh _ _ (j.r _ _ e)
    have Fq:F2 q=none:=by
     rcases ok.2.1 q with d | d
     ·exact d
     ·rw [d] at hq; cases hq
    by_cases w3:F3 q=none
    ·exact w3
    ·rcases P.nw q Fq w3 with d | d
     ·rw [ok.2.2.1 _ _ hq] at d; cases d
     ·exact absurd (nN e).1 d
 ·unfold un at a2
  have y2:k2 q=none:=j.r.free a1
  have y:aI q≠none:=fun y=>by rw [y] at a2; exact a2 y2
  exact P.fr q (j.l.free a1) y
def EvPt (K:Fgg)(te:TE)(E:XK)(L:List Sl)(i:Nat)(O:Own α)(O':Own β)(r:Mo (β×(β->α))):Prop:=
 ∀ F0 H0 σ F h H (Q:VK),Hold L σ F h->Okk F0 H0 F h H->After K r E (un F h) H (fun yp G1 H1=>∀ u,Foc F0 H0 σ h (less G1 h) O' yp.1 u (fun z=>L.set i (.ow O (yp.2 z)))->Q u H1)->te σ H Q
theorem zdw_ {O:Own α}{x:α}{i:Nat}(hi:L[i]?=some (.ow O x)):EvPt K (mVar i) E L i O O (.ok (x,fun z=>z)):=by
 intro F0 H0 σ F h H Q hL ok q
 obtain ⟨o,hs,_⟩:=ok.back (Ext.refl ok.thaw)
 obtain ⟨v,ev,fc⟩:=znu_ (F0:=F0) (H0:=H0) (hL.mono hs) hi
 exact zcl_ ev (q.ok ok.thaw v fc)
theorem zoC_ {O:Own β}{p:Addr}{xs:List β}{n:Nat}{y:β}{vs:List V}{w:V}(hv:h p=some (.lst vs))(hw:vs[n]?=some w)(e:xs[n]?=some y):
  ∀ F2 k,Same k h->(owLO O).O xs (.ref p) F2 k->∃ k1 k2,Jn k1 k2 k/\O.O y w F2 k1/\∀ y' aI k' F3,Same F2 F3->O.O y' w F3 aI->Jn aI k2 k'->(owLO O).O (xs.set n y') (.ref p) F3 k':=by
 rintro F2 k kh ⟨p',bB,k2,ep,j,all⟩
 cases ep
 have ev:bB=vs:=by
  have:=kh _ _ (j.l _ _ z9_)
  rw [hv] at this
  injection this with this
  injection this with this
  exact this.symm
 subst ev
 obtain ⟨w',a1,a2,e1,j1,o1,f⟩:=all.at n e
 rw [hw] at e1; cases e1
 obtain ⟨m,jm,jk⟩:=zeh_ j1 (zi6_ j)
 refine ⟨a1,m,jk,o1,fun y' aI k' F3 g o' j'=>?_⟩
 have d:Dj aI a2:=fun q=>by
  rcases j'.dj q with z | z
  ·exact .inl z
  ·exact .inr (jm.l.free z)
 refine ⟨p,bB,un aI a2,rfl,?_,f y' aI _ F3 g o' (zcv_ d)⟩
 intro q
 rcases j' q with ⟨a,b⟩ | ⟨a,b⟩
 ·rcases jm q with ⟨c,e⟩ | ⟨c,e⟩
  ·right
   refine ⟨by unfold un; rw [a,c],by rw [b,e]⟩
  ·left
   refine ⟨c,by unfold un; rw [a,b,e]⟩
 ·left
  refine ⟨jm.r.free a,?_⟩
  unfold un
  rw [b]
  cases z:aI q with
  | none=>exact (jm.l.free a).symm ▸ rfl
  | some w=>rfl
theorem zh4_ {G1 G2 h:Hp}(s:Same G1 G2):Same (less G1 h) (less G2 h):=fun p o e=>by
 unfold less at e ⊢
 split at e
 ·exact s _ _ e
 ·cases e
theorem zqo_ {O:Own α}{O':Own β}{i:Nat}{r:Mo (List β×(List β->α))}{rj:Mo Int}(hp:EvPt K te E L i O (owLO O') r)(hj:EvF K ei E L rj tyInt):
  EvPt K (tOp (mIx K) te ei) E L i O O' (r.bind fun yp=>rj.bind fun j=>(Mo.opt (ixN yp.1.length j)).bind fun n=>(Mo.opt (yp.1[n]?)).bind fun z=>.ok (z,fun z'=>yp.2 (yp.1.set n z'))):=by
 intro F0 H0 σ F h H Q hL ok q
 refine hp F0 H0 σ F h H _ hL ok (q.bind.imp fun yp G1 H1 x1 k1 u fc=>?_)
 refine hj σ G1 H1 _ ((hL.froz ok.2.1).mono x1.1) x1.2.1 (k1.bind.imp fun j G2 H2 x2 k2 v2 dk=>?_)
 cases dk
 obtain ⟨n,en,k3⟩:=k2.bind.opt
 obtain ⟨z,ez,k4⟩:=(k3.ok x2.2.1).bind.opt
 have k5:=(k4.ok x2.2.1).ok x2.2.1
 obtain ⟨o2,_,_⟩:=ok.back (x1.trans x2)
 obtain ⟨k,⟨p,vs,m,rfl,jn,all⟩,kh,_⟩:=fc (less G2 h) H2 (zh4_ x2.1) o2
 have ck:h p=some (.lst vs):=kh _ _ (jn.l _ _ z9_)
 refine ⟨vs,.inl (.of (o2.2.2.1 _ _ ck)),?_⟩
 have hl:=all.len
 have hn:=znQ_ en
 have hw:vs[n]?=some vs[n]:=List.getElem?_eq_getElem (by lia)
 have qF:ixN vs.length j=some n:=by rw [<- hl]; exact en
 have ea:atI vs j=some vs[n]:=by unfold atI; rw [qF]; exact hw
 rw [ea]
 refine k5 _ (Foc.part (O:=owLO O') (y:=yp.1) (put:=fun z'=>yp.1.set n z') (LF:=fun y'=>L.set i (.ow O (yp.2 y'))) (u:=.ref p) (fun F2 H3 s ok=>fc F2 H3 ((zh4_ x2.1).trans s) ok) fun F2 k s kh ho=>?_)
 exact zoC_ ck hw ez F2 k kh ho
theorem zk9_ {O:Own β}{i:Nat}{r0:Mo (List α×(List α->β))}{k:β->Mo (Out ρ B S)}(hp:EvPt K te E L i O (owL T) r0)(hT:Imm T)(he:EvF K e E L r T)(hk:∀ x',EvS K u E (L.set i (.ow O x')) (k x') LS LB Or):
  EvS K (tSeq (tDrop (tBM K "list" rAppend te (tCons e tNil))) u) E L (r0.bind fun yp=>r.bind fun a=>.lim (yp.1.length+1) (k (yp.2 (yp.1++[a])))) LS LB Or:=by
 intro F0 H0 σ F h H D hL ok fin
 show te σ H fun x H1=>tyV K "list" x H1/\tCons e tNil σ H1 fun xs H2=>rAppend x xs H2 (fun _ H3=>u D σ H3)
 refine hp F0 H0 σ F h H _ hL ok (zW_ (G:=F) ok _ (.inl rfl) fin fun yp G1 H1 dQ x1 u0 fc=>?_)
 obtain ⟨o1,hs1,_⟩:=ok.back x1
 rw [dQ] at fin
 obtain ⟨k0,⟨p,vs,rfl,rfl,_⟩,kh,_⟩:=fc _ H1 (Same.refl _) o1
 have ly:h p=some (.lst vs):=kh _ _ z9_
 refine ⟨.inl ⟨rfl,vs,.of (o1.2.2.1 _ _ ly)⟩,?_⟩
 refine he σ (un (less G1 h) h) H1 _ ((hL.mono hs1).froz o1.2.1) o1.thaw (zW_ (G:=F) o1 _ (.inl rfl) fin fun a G2 H2 bh x2 v hv=>?_)
 obtain ⟨o2,bP,ht2⟩:=o1.back x2
 rw [bh] at fin
 obtain ⟨hz,fin⟩:=zeP_ (show Fin K (Mo.lim (yp.1.length+1) (k (yp.2 (yp.1++[a])))) E LS LB Or F0 H0 D from fin)
 obtain ⟨k1,⟨p',bB,e',rfl,pr⟩,kh',g⟩:=fc _ H2 bP o2
 cases e'
 have ev:bB=vs:=by
  have:=kh' _ _ z9_
  rw [ly] at this
  injection this with this
  injection this with this
  exact this.symm
 subst ev
 obtain ⟨h',a1,a2⟩:=g (yp.1++[a]) (one p (.lst (bB++[v]))) _ (upd H2 p (.lst (bB++[v]))) (PutC.one o2 kh') ⟨p,_,rfl,rfl,pr.append (.cons (hT ht2 hv) .nil)⟩
 exact ⟨p,bB,v,rfl,rfl,o2.2.2.1 _ _ ly,by rw [<- pr.len]; lia,hk _ F0 H0 σ _ h' _ D a1 a2 fin⟩
end
def mFld (C:Addr)(te:TE)(f:Str):TE:=fun σ H Q=>te σ H fun x H1=>match x with
 | .ref a=>∃ dx fs v,H1 a=some (.ins C dx fs)/\fs.lookup f=some v/\Q v H1
 | _=>False
def mSFld (C:Addr)(te tv:TE)(f:Str):TS:=fun D σ H=>tv σ H fun y H1=>te σ H1 fun x H2=>match x with
 | .ref a=>∃ dx fs,H2 a=some (.ins C dx fs)/\fs.length<1000/\D.nx σ (upd H2 a (.ins C dx (putF f y fs)))
 | _=>False
def Gm (P:Program)(w:World)(K:Fgg)(mg:Str->Option Value)(base:Heap)(CX:CXT)(k:Nat)(C:Addr)(m:Str)(ps:List Str)(sp:Sp):Prop:=
 ∃ f fd,FnOk P w K mg base CX k f fd ps sp/\Cls K C/\Meth K C m f/\Binds K fd ps []
def Gk (P:Program)(w:World)(K:Fgg)(mg:Str->Option Value)(base:Heap)(CX:CXT)(k:Nat)(x:Str)(C:Addr)(ps:List Str)(sp:Sp):Prop:=
 ∃ f fd,FnOk P w K mg base CX k f fd ps sp/\Mk K C f/\mg x=some (.ref C)/\Binds K fd ps []
section
variable {X:Cx}{e value o:Expr}{es:List Expr}{f m x:Str}{pos pos' apos:Pos}{ta tv:TE}{t:TA}{C:Addr}{k:Nat}{ps:List Str}{sp:Sp}
theorem zbn_ (c:Cls X.K C)(n:NoAttr X.K C f)(he:PE X e ta)(hb:attributeBase e f X.env (eval e X.env)=eval e X.env:=by rfl):PE X (.Attribute e f pos) (mFld C ta f):=by
 intro pins s σ H Q I h
 refine zmt_ hb (thn (he pins s σ H _ I h) fun u s1 ao=>?_)
 obtain ⟨x,H1,I1,rx,q1⟩:=ao
 cases x with
 | ref a =>
  obtain ⟨dx,fs,v,ea,l,q⟩:=q1
  obtain rfl:u=Value.ref a:=rx
  exact zku_ I1 ea c n l fun u' s2 I2 ru=>⟨v,H1,I2,ru,q⟩
 | _=>exact q1.elim
theorem zdv_ (c:Cls X.K C)(n:NoAttr X.K C f)(ha:PE X o ta)(hv:PE X value tv)(hs:swapsWith value (some (.Attribute o f pos')) pos.line X.env=pure false:=by rfl):PS X (.Assign [.Attribute o f pos'] value pos) (mSFld C ta tv f):=by
 intro pins s σ H D I h
 refine plainObj_wpAny_Assign_Attribute (thn (hv pins s σ H _ I h) fun u s1 ⟨y,H1,I1,ry,q⟩=>thn (ha pins s1 σ H1 _ I1 q) fun ov s2 ao=>?_) hs
 obtain ⟨x,H2,I2,rx,q2⟩:=ao
 cases x with
 | ref a =>
  obtain ⟨dx,fs,ea,l,q3⟩:=q2
  obtain rfl:ov=Value.ref a:=rx
  exact zjM_ I2 ea c n l ry fun s3 I3=>⟨σ,_,I3,q3⟩
 | _=>exact q2.elim
theorem zgK_ {pl:Sem Bool}(G:Gm X.prog X.w X.K X.mg X.base CX0 k C m ps sp)(hr:Room k X.A)(he:PE X o ta)(ha:PA X (e::es) t)
  (bE:starEach (e::es) X.env=(false,eval e X.env)::starEach es X.env:=by rfl) (aQ:(backTo pos (starEach es X.env)).any (·.1)=false:=by rfl)
  (ht:eval (.Call (.Attribute o m apos) (e::es) [] pos) X.env=(do
   let ov <- eval o X.env
   standAt apos.atName
   let (f,first) <- holding [ov] (getMethod ov m pl)
   callWith pos f first (backTo pos (starEach (e::es) X.env)) (backToKw pos (keywordEach [] X.env))):=by rfl):
  PE X (.Call (.Attribute o m apos) (e::es) [] pos) (tMeth C m sp [] E0 ta t):=by
 obtain ⟨f,fd,F,c,hm,hb⟩:=G
 exact zmn_ he c hm F hr hb .nil pass0 ha bE aQ ht
theorem zaI_ {pl:Sem Bool}(G:Gm X.prog X.w X.K X.mg X.base CX0 k C m ps sp)(hr:Room k X.A)(he:PE X o ta)
  (ht:eval (.Call (.Attribute o m apos) [] [] pos) X.env=(do
   let ov <- eval o X.env
   standAt apos.atName
   let (f,first) <- holding [ov] (getMethod ov m pl)
   callWith pos f first (backTo pos (starEach [] X.env)) (backToKw pos (keywordEach [] X.env))):=by rfl):
  PE X (.Call (.Attribute o m apos) [] [] pos) (tMeth C m sp [] E0 ta tNil):=by
 obtain ⟨f,fd,F,c,hm,hb⟩:=G
 exact znb_ he c hm F hr hb .nil pass0 ht
end
theorem zdS_:∀ {ns:List Str}{vs:List V}{i:Nat}{f:Str}{v:V},ns.Nodup->ns[i]?=some f->vs[i]?=some v->(ns.zip vs).lookup f=some v
 | [],_,_,_,_,_,h,_=>by simp at h
 | n::ns,[],_,_,_,_,_,h=>by simp at h
 | n::ns,w::vs,0,f,v,_,h,h'=>by
  simp at h h'; subst h h'
  rw [List.zip_cons_cons,List.lookup_cons,beq_self_eq_true]
 | n::ns,w::vs,i+1,f,v,nd,h,h'=>by
  obtain ⟨h1,h2⟩:=List.nodup_cons.mp nd
  have hf:ns[i]?=some f:=by simpa using h
  have cF:(f == n)=false:=beq_eq_false_iff_ne.mpr fun z=>h1 (z ▸ List.mem_of_getElem? hf)
  rw [List.zip_cons_cons,List.lookup_cons,cF]
  exact zdS_ h2 hf (by simpa using h')
theorem z0_:∀ {ns:List Str}{vs:List V}{f:Str},f∉ns->(ns.zip vs).lookup f=none
 | [],_,_,_=>rfl
 | n::ns,[],_,_=>rfl
 | n::ns,w::vs,f,h=>by
  have cF:(f == n)=false:=beq_eq_false_iff_ne.mpr fun z=>h (z ▸ List.mem_cons_self ..)
  rw [List.zip_cons_cons,List.lookup_cons,cF]
  exact z0_ fun z=>h (List.mem_cons_of_mem _ z)
theorem zgY_:∀ {ns:List Str}{vs:List V}{i:Nat}{f:Str}(v:V),ns.Nodup->ns[i]?=some f->i<vs.length->putF f v (ns.zip vs)=ns.zip (vs.set i v)
 | [],_,_,_,_,_,h,_=>by simp at h
 | n::ns,[],_,_,_,_,_,h=>by simp at h
 | n::ns,w::vs,0,f,v,_,h,_=>by
  simp at h; subst h
  rw [List.zip_cons_cons,putF,if_pos rfl]; rfl
 | n::ns,w::vs,i+1,f,v,nd,h,h'=>by
  obtain ⟨h1,h2⟩:=List.nodup_cons.mp nd
  have hf:ns[i]?=some f:=by simpa using h
  have cF:¬ n=f:=fun z=>h1 (z ▸ List.mem_of_getElem? hf)
  rw [List.zip_cons_cons,putF,if_neg cF,zgY_ v h2 hf (by simpa using h')]; rfl
theorem zgD_:∀ {ns:List Str}{vs:List V}{f:Str}(v:V),f∉ns->vs.length=ns.length->putF f v (ns.zip vs)=(ns++[f]).zip (vs++[v])
 | [],[],f,v,_,_=>rfl
 | [],_::_,_,_,_,h=>by simp at h
 | _::_,[],_,_,_,h=>by simp at h
 | n::ns,w::vs,f,v,h,hl=>by
  have cF:¬ n=f:=fun z=>h (z ▸ List.mem_cons_self ..)
  rw [List.zip_cons_cons,putF,if_neg cF,zgD_ v (fun z=>h (List.mem_cons_of_mem _ z)) (by simpa using hl)]; rfl
theorem zlY_:∀ {ns:List Str}{vs us:List V},vs.length=ns.length->us.length=ns.length->ns.zip vs=ns.zip us->vs=us
 | [],[],[],_,_,_=>rfl
 | n::ns,v::vs,u::us,h1,h2,e=>by
  rw [List.zip_cons_cons,List.zip_cons_cons] at e
  injection e with e1 e2
  injection e1 with _ e1
  rw [e1,zlY_ (by simpa using h1) (by simpa using h2) e2]
 | [],_::_,_,h,_,_=>by simp at h
 | [],[],_::_,_,h,_=>by simp at h
 | _::_,[],_,h,_,_=>by simp at h
 | _::_,_::_,[],_,h,_=>by simp at h
structure Ps (γ:Type) where
 P:γ->List V->Hp->Hp->Prop
 fr:Cs γ
 mono:∀ {c vs F F' h},Same F F'->P c vs F h->P c vs F' h
 frz:∀ {c vs F h},Dj F h->P c vs F h->fr.R c vs (un F h)
 notup:∀ {c vs F h},P c vs F h->∀ p xs,h p≠some (.tup xs)
section
variable {α β γ:Type}
theorem dj_l {F h1 h2 h:Hp}(d:Dj F h)(j:Jn h1 h2 h):Dj F h1:=fun p=>by
 rcases d p with z | z
 ·exact .inl z
 ·exact .inr (j.l.free z)
theorem dj_r {F h1 h2 h:Hp}(d:Dj F h)(j:Jn h1 h2 h):Dj F h2:=fun p=>by
 rcases d p with z | z
 ·exact .inl z
 ·exact .inr (j.r.free z)
abbrev psNil:Ps Unit:=⟨fun _ vs _ h=>vs=[]/\∀ p,h p=none,csNil,fun _ q=>q,fun _ q=>q.1,fun q p xs z=>by rw [q.2 p] at z; cases z⟩
abbrev psO (O:Own α)(P:Ps γ):Ps (α×γ):=⟨fun c vs F h=>∃ v us h1 h2,vs=v::us/\Jn h1 h2 h/\O.O c.1 v F h1/\P.P c.2 us F h2,csCons O.fr P.fr,
 fun g ⟨v,us,h1,h2,e,j,a,b⟩=>⟨v,us,h1,h2,e,j,O.mono g a,P.mono g b⟩,
 fun d ⟨v,us,h1,h2,e,j,a,b⟩=>⟨v,us,e,O.fr.mono (zdp_ d j.l) (O.frz (dj_l d j) a),P.fr.mono (zdp_ d j.r) (P.frz (dj_r d j) b)⟩,
 fun ⟨v,us,h1,h2,e,j,a,b⟩ p xs z=>by
  rcases j p with ⟨_,y⟩ | ⟨_,y⟩
  ·rw [y] at z; exact P.notup b p xs z
  ·rw [y] at z; exact O.notup a p xs z⟩
def two (p dx:Addr)(o:HO):Hp:=fun q=>if q=p then some o else if q=dx then some (.own p) else none
theorem zhu_ {p dx:Addr}{o:HO}:two p dx o p=some o:=if_pos rfl
theorem znm_ {p dx:Addr}{o:HO}(h:dx≠p):two p dx o dx=some (.own p):=by unfold two; rw [if_neg h,if_pos rfl]
theorem zoS_ {p dx q:Addr}{o:HO}(h:two p dx o q=none):q≠p/\q≠dx:=by
 refine ⟨fun e=>?_,fun e=>?_⟩
 ·rw [e,zhu_] at h; cases h
 ·unfold two at h; split at h
  ·cases h
  ·first | cases h | (rw [if_pos e] at h; cases h)
abbrev tyI (C:Addr)(ns:List Str)(Q:Cs γ):Ty γ:=⟨fun c v H=>∃ p dx vs,v=.ref p/\H p=some (.ins C dx (ns.zip vs))/\vs.length=ns.length/\Q.R c vs H,fun g ⟨p,dx,vs,e,h,l,q⟩=>⟨p,dx,vs,e,g _ _ h,l,Q.mono g q⟩⟩
abbrev owI (C:Addr)(ns:List Str)(P:Ps γ):Own γ:=⟨fun c v F h=>∃ p dx vs k,v=.ref p/\dx≠p/\Jn (two p dx (.ins C dx (ns.zip vs))) k h/\vs.length=ns.length/\P.P c vs F k,tyI C ns P.fr,
 fun g ⟨p,dx,vs,k,e,n,j,l,q⟩=>⟨p,dx,vs,k,e,n,j,l,P.mono g q⟩,
 fun d ⟨p,dx,vs,k,e,n,j,l,q⟩=>⟨p,dx,vs,e,zg6_ d _ _ (j.l _ _ zhu_),l,P.fr.mono (zdp_ d j.r) (P.frz (dj_r d j) q)⟩,
 fun ⟨p,dx,vs,k,e,n,j,l,q⟩ b xs y=>by
  rcases j b with ⟨_,z⟩ | ⟨_,z⟩
  ·rw [z] at y; exact P.notup q b xs y
  ·rw [z] at y; unfold two at y; split at y
   ·cases y
   ·split at y<;>cases y⟩
abbrev owAt (u:V)(O:Own α):Own α:=⟨fun a v F h=>v=u/\O.O a v F h,O.fr,fun g q=>⟨q.1,O.mono g q.2⟩,fun d q=>O.frz d q.2,fun q=>O.notup q.2⟩
def PsAt (P:Ps γ)(n:Nat)(O:Own β)(pr:γ->β)(st:γ->β->γ):Prop:=∀ {c vs F h},P.P c vs F h->∃ v h1 h2,vs[n]?=some v/\Jn h1 h2 h/\O.O (pr c) v F h1/\∀ z' h1' h' F3,Same F F3->O.O z' v F3 h1'->Jn h1' h2 h'->P.P (st c z') vs F3 h'
theorem pat_0 {O:Own β}{P:Ps γ}:PsAt (psO O P) 0 O (fun c=>c.1) (fun c z=>(z,c.2)):=fun ⟨v,us,h1,h2,e,j,a,b⟩=>by
 subst e
 exact ⟨v,h1,h2,rfl,j,a,fun z' h1' h' F3 g o' j'=>⟨v,us,h1',h2,rfl,j',o',P.mono g b⟩⟩
theorem zqi_ {b t m a h:Hp}(jm:Jn b t m)(j:Jn a m h):Jn t (un a b) h:=fun q=>by
 rcases j q with ⟨x,y⟩ | ⟨x,y⟩
 ·rcases jm q with ⟨c,e⟩ | ⟨c,e⟩
  ·right
   refine ⟨by unfold un; rw [x,c],by rw [y,e]⟩
  ·left
   refine ⟨c,by unfold un; rw [x,y,e]⟩
 ·left
  refine ⟨jm.r.free x,?_⟩
  unfold un
  rw [y]
  cases z:a q with
  | none=>exact (jm.l.free x).symm ▸ rfl
  | some w=>rfl
theorem zqj_ {a b t m h:Hp}(jm:Jn b t m)(j:Jn a m h):Dj a b:=fun q=>by
 rcases j.dj q with z | z
 ·exact .inl z
 ·exact .inr (jm.l.free z)
theorem pat_s {O:Own α}{O':Own β}{P:Ps γ}{n:Nat}{pr:γ->β}{st:γ->β->γ}(h:PsAt P n O' pr st):PsAt (psO O P) (n+1) O' (fun c=>pr c.2) (fun c z=>(c.1,st c.2 z)):=fun ⟨v,us,h1,h2,e,j,a,b⟩=>by
 subst e
 obtain ⟨w,k1,k2,e1,j1,o1,f⟩:=h b
 obtain ⟨m,jm,jh⟩:=zeh_ j1 (zi6_ j)
 refine ⟨w,k1,m,by simpa using e1,jh,o1,fun z' aI h' F3 g o' j'=>?_⟩
 exact ⟨v,us,h1,un aI k2,rfl,zqi_ jm j',O.mono g a,f z' aI _ F3 g o' (zcv_ (zqj_ jm j'))⟩
def PsPut (P:Ps γ)(n:Nat)(O:Own β)(st:γ->β->γ):Prop:=∀ {c vs F h},P.P c vs F h->n<vs.length/\∃ h2,Same h2 h/\∀ z' v' h1' h' F3,Same F F3->O.O z' v' F3 h1'->Jn h1' h2 h'->P.P (st c z') (vs.set n v') F3 h'
theorem zoH_ {O:Own β}{P:Ps γ}:PsPut (psO O P) 0 O (fun c z=>(z,c.2)):=fun ⟨v,us,h1,h2,e,j,a,b⟩=>by
 subst e
 exact ⟨by simp,h2,j.r,fun z' v' h1' h' F3 g o' j'=>⟨v',us,h1',h2,rfl,j',o',P.mono g b⟩⟩
theorem znT_ {O:Own α}{O':Own β}{P:Ps γ}{n:Nat}{st:γ->β->γ}(h:PsPut P n O' st):PsPut (psO O P) (n+1) O' (fun c z=>(c.1,st c.2 z)):=fun ⟨v,us,h1,h2,e,j,a,b⟩=>by
 subst e
 obtain ⟨hn,k2,ks,f⟩:=h b
 have d:Dj k2 h1:=fun q=>by
  rcases j.dj q with z | z
  ·exact .inr z
  ·exact .inl (ks.free z)
 refine ⟨by simpa using hn,un k2 h1,fun q o z=>?_,fun z' v' aI h' F3 g o' j'=>?_⟩
 ·unfold un at z
  cases y:k2 q with
  | some w=>rw [y] at z; rw [<- z]; exact j.r _ _ (ks _ _ y)
  | none=>rw [y] at z; exact j.l _ _ z
 ·exact ⟨v,us.set n v',h1,un aI k2,rfl,zqi_ (zcv_ d) j',O.mono g a,f z' v' aI _ F3 g o' (zcv_ (zqj_ (zcv_ d) j'))⟩
def PsAdd (P:Ps γ)(O:Own β){δ:Type}(P':Ps δ)(ad:γ->β->δ):Prop:=∀ {c vs F h},P.P c vs F h->∀ z v' h1' h' F3,Same F F3->O.O z v' F3 h1'->Jn h1' h h'->P'.P (ad c z) (vs++[v']) F3 h'
theorem zin_ {O:Own β}:PsAdd psNil O (psO O psNil) (fun _ z=>(z,())):=fun q z v' h1' h' F3 g o' j'=>by
 rw [q.1]
 exact ⟨v',[],h1',_,rfl,j',o',rfl,q.2⟩
theorem zco_ {O:Own α}{O':Own β}{P:Ps γ}{δ:Type}{P':Ps δ}{ad:γ->β->δ}(h:PsAdd P O' P' ad):PsAdd (psO O P) O' (psO O P') (fun c z=>(c.1,ad c.2 z)):=fun ⟨v,us,h1,h2,e,j,a,b⟩ z v' aI h' F3 g o' j'=>by
 subst e
 have jm:Jn h2 h1 _:=zi6_ j
 exact ⟨v,us++[v'],h1,un aI h2,rfl,zqi_ jm j',O.mono g a,h b z v' aI _ F3 g o' (zcv_ (zqj_ jm j'))⟩
variable {K:Fgg}{E:XK}{δ ρ S B:Type}{F0 H0 F h H:Hp}{L:List Sl}{e te:TE}{T:Ty α}{r:Mo α}{Or:Own ρ}{u:TS}{LS:S->List Sl}{LB:B->List Sl}{σ:St}{C:Addr}{ns:List Str}{f:Str}{i n:Nat}
theorem zd8_ {Q:Cs γ}{pr:γ->α}{r:Mo γ}(nd:ns.Nodup)(hf:ns[n]?=some f)(ha:CsAt Q n T pr)(he:EvF K te E L r (tyI C ns Q)):EvF K (mFld C te f) E L (r.bind fun c=>.ok (pr c)) T:=by
 intro σ F H R hL hs q
 refine he σ F H _ hL hs (q.bind.imp fun c F1 H1 x1 k1 v ao=>?_)
 obtain ⟨p,dx,vs,e,hp,hl,hc⟩:=ao
 subst e
 obtain ⟨w,ew,dw⟩:=ha hc
 exact ⟨dx,_,w,x1.2.1 _ _ hp,zdS_ nd hf ew,k1.ok x1.2.1 w dw⟩
theorem zfT_ {O:Own α}{O':Own β}{w:V}{r:Mo (β×(β->α))}(hp:EvPt K te E L i O (owAt w O') r):EvPt K te E L i O O' r:=by
 intro F0 H0 σ F h H Q hL ok q
 refine hp F0 H0 σ F h H _ hL ok (q.imp fun yp G1 H1 x1 k1 u fc=>k1 u fun F2 H2 s o2=>?_)
 obtain ⟨k,⟨e,ho⟩,kh,g⟩:=fc F2 H2 s o2
 exact ⟨k,ho,kh,fun y' k' F3 H3 P hy=>g y' k' F3 H3 P ⟨e,hy⟩⟩
theorem zq7_ {P:Ps γ}{O':Own β}{pr:γ->β}{st:γ->β->γ}{p dx:Addr}{vs:List V}{w:V}{c:γ}(pa:PsAt P n O' pr st)(hv:h p=some (.ins C dx (ns.zip vs)))(hl:vs.length=ns.length)(hw:vs[n]?=some w):
  ∀ F2 k,Same k h->(owI C ns P).O c (.ref p) F2 k->∃ k1 k2,Jn k1 k2 k/\O'.O (pr c) w F2 k1/\∀ y' aI k' F3,Same F2 F3->O'.O y' w F3 aI->Jn aI k2 k'->(owI C ns P).O (st c y') (.ref p) F3 k':=by
 rintro F2 k kh ⟨p',dx',bB,m,ep,cb,j,nR,ps⟩
 cases ep
 have ev:=kh _ _ (j.l _ _ zhu_)
 rw [hv] at ev
 injection ev with ev
 injection ev with _ e1 e2
 subst e1
 have ev:=zlY_ hl nR e2
 subst ev
 obtain ⟨w',a1,a2,e3,j1,o1,g⟩:=pa ps
 rw [hw] at e3; cases e3
 obtain ⟨mm,jm,jk⟩:=zeh_ j1 (zi6_ j)
 refine ⟨a1,mm,jk,o1,fun y' aI k' F3 s o' j'=>?_⟩
 exact ⟨p,dx,vs,un aI a2,rfl,cb,zqi_ jm j',hl,g y' aI _ F3 s o' (zcv_ (zqj_ jm j'))⟩
theorem zmw_ {O:Own α}{P:Ps γ}{O':Own β}{pr:γ->β}{st:γ->β->γ}{r:Mo (γ×(γ->α))}(nd:ns.Nodup)(hf:ns[n]?=some f)(pa:PsAt P n O' pr st)(hp:EvPt K te E L i O (owI C ns P) r):
  EvPt K (mFld C te f) E L i O O' (r.bind fun yp=>.ok (pr yp.1,fun z'=>yp.2 (st yp.1 z'))):=by
 intro F0 H0 σ F h H Q hL ok q
 refine hp F0 H0 σ F h H _ hL ok (q.bind.imp fun yp G1 H1 x1 k1 u fc=>?_)
 obtain ⟨o1,_,_⟩:=ok.back x1
 obtain ⟨k,⟨p,dx,vs,m,rfl,cb,jn,hl,ps⟩,kh,_⟩:=fc _ H1 (Same.refl _) o1
 have ck:h p=some (.ins C dx (ns.zip vs)):=kh _ _ (jn.l _ _ zhu_)
 obtain ⟨w,_,_,ew,_⟩:=pa ps
 refine ⟨dx,_,w,o1.2.2.1 _ _ ck,zdS_ nd hf ew,?_⟩
 exact k1.ok x1.2.1 w (Foc.part (put:=st yp.1) (LF:=fun y'=>L.set i (.ow O (yp.2 y'))) fc fun F2 k s kh ho=>zq7_ pa ck hl ew F2 k kh ho)
theorem zhD_ {p dx:Addr}{o o':HO}{m h2 hn:Hp}{k:Hp}(ok:Okk F0 H0 F h H)(kh:Same k h)(cb:dx≠p)(jn:Jn (two p dx o) m k)(gc:Same h2 m)(fresh:∀ q,hn q≠none->F q=none/\h q=none/\H0 q=none)(hs:Same hn H)(dn:Dj hn h2):
  Jn (two p dx o') (un hn h2) (un (two p dx o') (un hn h2))/\PutC F H h H0 k (un (two p dx o') (un hn h2)) F (upd H p o'):=by
 have qg:∀ q,hn q≠none->k q=none:=fun q z=>kh.free (fresh q z).2.1
 have kp:k p=some o:=jn.l _ _ zhu_
 have kW:k dx=some (.own p):=jn.l _ _ (znm_ cb)
 have m0:∀ q,two p dx o q≠none->m q=none:=fun q z=>by
  rcases jn.dj q with y | y
  ·exact absurd y z
  ·exact y
 have cv:∀ {o:HO}{q},two p dx o q≠none->q=p\/q=dx:=fun {o q} z=>by
  by_cases a:q=p
  ·exact .inl a
  ·by_cases b:q=dx
   ·exact .inr b
   ·exact absurd (by unfold two; rw [if_neg a,if_neg b]) z
 have dj:Dj (two p dx o') (un hn h2):=fun q=>by
  by_cases z:two p dx o' q=none
  ·exact .inl z
  ·right
   have kq:k q≠none:=by
    rcases cv z with e | e
    ·rw [e,kp]; exact sN _
    ·rw [e,kW]; exact sN _
   have hq:hn q=none:=by
    by_cases y:hn q=none
    ·exact y
    ·exact absurd (qg q y) kq
   have mq:m q=none:=m0 q (by
    rcases cv z with e | e
    ·rw [e,zhu_]; exact sN _
    ·rw [e,znm_ cb]; exact sN _)
   unfold un; rw [hq]; exact gc.free mq
 refine ⟨zcv_ dj,PutC.same ok kh (fun q s z=>?_) (fun q z1 z2=>zI_ fun e=>?_) fun q z1 z2=>?_⟩
 ·unfold un at z
  cases y:two p dx o' q with
  | some w =>
   rw [y] at z
   by_cases e:q=p
   ·rw [e,zhu_] at y; rw [e,zx_,y]; exact z
   ·rw [zI_ e]
    have e2:q=dx:=by
     rcases cv (o:=o') (q:=q) (by rw [y]; exact sN _) with a | a
     ·exact absurd a e
     ·exact a
    rw [e2,znm_ cb] at y
    rw [<- z,<- y,e2]; exact ok.2.2.1 _ _ (kh _ _ kW)
  | none =>
   rw [y] at z
   have e:=(zoS_ y).1
   rw [zI_ e]
   cases x:hn q with
   | some w=>rw [x] at z; rw [<- z]; exact hs _ _ x
   | none=>rw [x] at z; exact ok.2.2.1 _ _ (kh _ _ (jn.r _ _ (gc _ _ z)))
 ·rw [e,kp] at z1; cases z1
 ·have e1:two p dx o' q=none:=by
   by_cases y:two p dx o' q=none
   ·exact y
   ·rcases cv y with e | e
    ·rw [e,kp] at z1; cases z1
    ·rw [e,kW] at z1; cases z1
  have e2:h2 q=none:=gc.free (jn.r.free z1)
  have eu:un (two p dx o') (un hn h2) q=hn q:=by
   unfold un; rw [e1]
   cases x:hn q with
   | some w=>rfl
   | none=>exact e2
  rw [eu] at z2 ⊢
  obtain ⟨a,b,c⟩:=fresh q z2
  refine ⟨a,b,c,?_⟩
  cases x:hn q with
  | none=>exact absurd x z2
  | some w=>exact hs _ _ x
theorem zqN_ {O:Own β}{P:Ps γ}{st:γ->α->γ}{r0:Mo (γ×(γ->β))}{k:β->Mo (Out ρ B S)}(nd:ns.Nodup)(hf:ns[n]?=some f)(gw:ns.length<1000)(pp:PsPut P n (owF T) st)(hT:Imm T)(he:EvF K e E L r T)(hp:EvPt K te E L i O (owI C ns P) r0)(hk:∀ x',EvS K u E (L.set i (.ow O x')) (k x') LS LB Or):
  EvS K (tSeq (mSFld C te e f) u) E L (r.bind fun a=>r0.bind fun yp=>k (yp.2 (st yp.1 a))) LS LB Or:=by
 intro F0 H0 σ F h H D hL ok fin
 refine he σ (un F h) H _ (hL.froz ok.2.1) ok.thaw (zW_ (G:=F) ok _ (.inl rfl) fin fun a F' H' bh x v hv=>?_)
 obtain ⟨o,hs,ht⟩:=ok.back x
 rw [bh] at fin
 refine hp F0 H0 σ (less F' h) h H' _ (hL.mono hs) o (zW_ (G:=F) o _ (.inl rfl) fin fun yp G1 H1 dQ x1 u0 fc=>?_)
 obtain ⟨o1,hs1,_⟩:=o.back x1
 rw [dQ] at fin
 obtain ⟨k0,⟨p,dx,vs,m,rfl,cb,jn,hl,ps⟩,kh,g⟩:=fc _ H1 (Same.refl _) o1
 obtain ⟨hn,h2,gc,pf⟩:=pp ps
 have ck:H1 p=some (.ins C dx (ns.zip vs)):=o1.2.2.1 _ _ (kh _ _ (jn.l _ _ zhu_))
 refine ⟨dx,_,ck,by rw [List.length_zip]; omega,?_⟩
 rw [zgY_ v nd hf hn]
 have nul:∀ q,(fun _:Addr=>(none:Option HO)) q≠none->less G1 h q=none/\h q=none/\H0 q=none:=fun q z=>absurd rfl z
 obtain ⟨j',P'⟩:=zhD_ (o':=.ins C dx (ns.zip (vs.set n v))) (hn:=fun _=>none) o1 kh cb jn gc nul (fun q o z=>by cases z) (fun q=>.inl rfl)
 have eu:un (fun _=>none) h2=h2:=by funext q; rfl
 rw [eu] at j' P'
 obtain ⟨h',a1,a2⟩:=g (st yp.1 a) _ _ _ P' ⟨p,dx,vs.set n v,h2,rfl,cb,j',by rw [List.length_set]; exact hl,pf a v (fun _=>none) h2 _ (Same.refl _) ⟨fun _=>rfl,T.mono hs1 (hT ht hv)⟩ (fun q=>.inl ⟨rfl,rfl⟩)⟩
 exact hk _ F0 H0 σ _ h' _ D a1 a2 fin
theorem zqu_ {P:Ps γ}{P':Ps δ}{ad:γ->α->δ}{x:γ}{w:V}{k:δ->Mo (Out ρ B S)}(hi:L[i]?=some (.ow (owAt w (owI C ns P)) x))(hf:f∉ns)(gw:ns.length<900)(pp:PsAdd P (owF T) P' ad)(hT:Imm T)(he:EvF K e E L r T)(hk:∀ x',EvS K u E (L.set i (.ow (owAt w (owI C (ns++[f]) P')) x')) (k x') LS LB Or):
  EvS K (tSeq (mSFld C (mVar i) e f) u) E L (r.bind fun a=>k (ad x a)) LS LB Or:=by
 intro F0 H0 σ F h H D hL ok fin
 refine he σ (un F h) H _ (hL.froz ok.2.1) ok.thaw (zW_ (G:=F) ok _ (.inl rfl) fin fun a F' H' bh x1 v hv=>?_)
 obtain ⟨o,hs,ht⟩:=ok.back x1
 rw [bh] at fin
 obtain ⟨v0,k0,e1,⟨ew,p,dx,vs,m,rfl,cb,jn,hl,ps⟩,kH,kh,_,g⟩:=zhe_ (hL.mono hs) hi o
 have ck:H' p=some (.ins C dx (ns.zip vs)):=kH _ _ (jn.l _ _ zhu_)
 refine zcl_ e1 ⟨dx,_,ck,by rw [List.length_zip]; omega,?_⟩
 rw [zgD_ v hf hl]
 have nul:∀ q,(fun _:Addr=>(none:Option HO)) q≠none->less F' h q=none/\h q=none/\H0 q=none:=fun q z=>absurd rfl z
 obtain ⟨j',PC⟩:=zhD_ (o':=.ins C dx ((ns++[f]).zip (vs++[v]))) (hn:=fun _=>none) o kh cb jn (Same.refl m) nul (fun q o z=>by cases z) (fun q=>.inl rfl)
 have eu:un (fun _=>none) m=m:=by funext q; rfl
 rw [eu] at j' PC
 obtain ⟨h',a1,a2⟩:=g (owAt w (owI C (ns++[f]) P')) (ad x a) (.ref p) _ _ _ PC ⟨ew,p,dx,vs++[v],m,rfl,cb,j',by rw [List.length_append,List.length_append,hl]; rfl,pp ps a v (fun _=>none) m _ (Same.refl _) ⟨fun _=>rfl,hT ht hv⟩ (fun q=>.inl ⟨rfl,rfl⟩)⟩
 rw [zaY_ e1] at a1
 exact hk _ F0 H0 σ _ h' _ D a1 a2 fin
variable {aX:Type}{t:TS}{m:Str}
def FinM (K:Fgg)(r:Mo ρ)(E:XK)(F0 H0:Hp)(kk:ρ->Hp->Hp->Hp->Prop):Prop:=match r with
 | .ok a=>∀ F h H,Okk F0 H0 F h H->kk a F h H
 | .ex c=>∀ F h H,Okk F0 H0 F h H->Tell K E c H0 F H
 | .no=>False
abbrev owRM (w:V)(O2:Own β)(Or:Own ρ):Own (ρ×β):=⟨fun r v F h=>∃ h1 h2,Jn h1 h2 h/\Or.O r.1 v F h1/\O2.O r.2 w F h2,⟨fun r v H=>Or.fr.R r.1 v H,fun g q=>Or.fr.mono g q⟩,
 fun g ⟨h1,h2,j,a,b⟩=>⟨h1,h2,j,Or.mono g a,O2.mono g b⟩,
 fun d ⟨h1,h2,j,a,b⟩=>Or.fr.mono (zdp_ d j.l) (Or.frz (dj_l d j) a),
 fun ⟨h1,h2,j,a,b⟩ p xs z=>by
  rcases j p with ⟨_,y⟩ | ⟨_,y⟩
  ·rw [y] at z; exact O2.notup b p xs z
  ·rw [y] at z; exact Or.notup a p xs z⟩
def CtM (K:Fgg)(O:Own α)(O2:Own β)(Q:Cs γ)(g:α->γ->Mo (ρ×β))(Or:Own ρ):Sp:=fun vs H R E=>∃ F h x c w ws,vs=w::ws/\Same F H/\Dj F h/\Same h H/\O.O x w F h/\Q.R c ws F /\
 FinM K (g x c) E F (less H h) fun r F' h' H'=>∀ v,(owRM w O2 Or).O r v F' h'->R v H'
theorem zeb_ {k:Hp}(ok:Okk F0 H0 F h H)(s:Same k h):Okk F0 H0 F k H:=by
 refine ⟨ok.1,fun p=>?_,s.trans ok.2.2.1,fun p z=>ok.2.2.2.1 p fun y=>z (s.free y),fun p xs z=>ok.2.2.2.2 p xs (s _ _ z)⟩
 rcases ok.2.1 p with z | z
 ·exact .inl z
 ·exact .inr (s.free z)
theorem zA_ {h:Hp}(p:Addr)(z:h p≠none):less H h p=none:=by
 unfold less
 cases y:h p with
 | none=>exact absurd y z
 | some w=>rfl
theorem z1_:Same (less H h) H:=fun p o z=>by
 unfold less at z
 split at z
 ·exact z
 ·cases z
theorem zdZ_ (hs:Same F H)(dj:Dj F h)(hh:Same h H)(nt:∀ p xs,h p≠some (.tup xs)):Okk F (less H h) F h H:=by
 refine ⟨⟨Same.refl _,hs,z1_,fun p a b=>absurd a b⟩,dj,hh,fun p z=>zA_ p z,nt⟩
def fnMU (r:Mo (Out (Unit×β) Unit β)):Mo (Unit×β):=r.bind fun o=>match o with | .rt a=>.ok a | .nx x=>.ok ((),x) | _=>.no
def fnMR (r:Mo (Out (ρ×β) Unit Unit)):Mo (ρ×β):=r.bind fun o=>match o with | .rt a=>.ok a | _=>.no
theorem zge_ {O:Own α}{Q:Cs γ}{ss:γ->List Sl}{x:α}{c:γ}{w:V}{ws:List V}(m:Nat)(hC:CsS Q ss)(hO:O.O x w F h)(hc:Q.R c ws F):Hold (.ow (owAt w O) x::(ss c++List.replicate m .dead)) (some w::(ws.map some++List.replicate m none)) F h:=
 ⟨h,fun _=>none,fun _=>.inr ⟨rfl,rfl⟩,⟨w,rfl,rfl,hO⟩,(hC hc).hold m⟩
theorem zjP_ {t:XK->TS}{O:Own α}{O2:Own β}{Q:Cs γ}{ss:γ->List Sl}{g:α->γ->Mo (Out (Unit×β) Unit β)}{N:List Str}{LS:V->β->List Sl}(n m:Nat)(hn:CsN Q n)(hm:N.length-(n+1)=m)(hC:CsS Q ss)(fI:∀ w x,(LS w x)[0]?=some (.ow (owAt w O2) x))
  (hb:∀ w x c E,EvS K (t E) E (.ow (owAt w O) x::(ss c++List.replicate m .dead)) (g x c) (LS w) (fun _:Unit=>[]) (owRM w O2 (owF tyNon))):
  ∀ vs H R E,CtM K O O2 Q (fun x c=>fnMU (g x c)) (owF tyNon) vs H R E->t E { nx:=fun _ H'=>R .non H',rt:=R } (start N vs) H:=by
 rintro vs H R E ⟨F,h,x,c,w,ws,rfl,hs,dj,hh,hO,hc,q⟩
 have aZ:start N (w::ws)=some w::(ws.map some++List.replicate m none):=by
  unfold start
  rw [List.length_cons,hn hc,hm]; rfl
 rw [aZ]
 refine hb w x c E F (less H h) _ F h H _ (zge_ m hC hO hc) (zdZ_ hs dj hh (O.notup hO)) ?_
 cases e:g x c with
 | no=>simp only [fnMU,e] at q; exact q
 | ex cc=>simp only [fnMU,e] at q; exact q
 | ok o =>
  simp only [fnMU,e] at q
  cases o with
  | nx s =>
   intro σ F' h' H' hL ok
   obtain ⟨o,k,hr,e1,j,⟨v,e2,e3,ho⟩,_⟩:=hL.at 0 (fI w s)
   subst e3
   exact q F' k H' (zeb_ ok j.l) .non ⟨fun _=>none,k,fun _=>.inl ⟨rfl,rfl⟩,⟨fun _=>rfl,rfl⟩,ho⟩
  | bk s=>exact q.elim
  | ct s=>exact q.elim
  | rt a=>exact fun v F' h' H' ok hv=>q F' h' H' ok v hv
theorem zql_ {O2:Own β}{x:β}{w:V}(h0:L[i]?=some (.ow (owAt w O2) x))(hT:Imm T)(he:EvF K e E L r T):EvS K (tRet e) E L (r.bind fun a=>.ok (.rt (a,x))) LS LB (owRM w O2 (owF T)):=by
 intro F0 H0 σ F h H D hL ok fin
 refine he σ (un F h) H _ (hL.froz ok.2.1) ok.thaw (zW_ (G:=F) ok _ (.inl rfl) fin fun a F' H' hr x1 v hv=>?_)
 obtain ⟨o,hs,ht⟩:=ok.back x1
 rw [hr] at fin
 obtain ⟨_,k,_,_,j,⟨v',_,e3,ho⟩,_⟩:=(hL.mono hs).at i h0
 subst e3
 exact fin v _ k H' (zeb_ o j.l) ⟨fun _=>none,k,fun _=>.inl ⟨rfl,rfl⟩,⟨fun _=>rfl,hT ht hv⟩,ho⟩
theorem zor_ {O:Own α}{P:Ps β}{r0:Mo (β×(β->α))}{Q:Cs γ}{ta:TA}{ra:Mo γ}{g:β->γ->Mo (aX×β)}{aU:Own aX}{k:α->Mo (Out ρ B S)}(dR:m∉ns)(hI:ImmO (owI C ns P))(hp:EvPt K te E L i O (owI C ns P) r0)(hC:ImmC Q)(ha:EvA K ta E L ra Q)
  (hk:∀ x',EvS K u E (L.set i (.ow O x')) (k x') LS LB Or):
  EvS K (tSeq (tDrop (tMeth C m (CtM K (owI C ns P) (owI C ns P) Q g aU) [] E0 te ta)) u) E L (r0.bind fun yp=>ra.bind fun c=>(g yp.1 c).noex.bind fun q=>k (yp.2 q.2)) LS LB Or:=by
 intro F0 H0 σ F h H D hL ok fin
 show te σ H fun x H1=>∃ a dx fs,x=.ref a/\H1 a=some (.ins C dx fs)/\fs.lookup m=none/\ta σ H1 fun vs H2=>CtM K (owI C ns P) (owI C ns P) Q g aU (x::(vs++[])) H2 (fun _ H3=>u D σ H3) E0
 refine hp F0 H0 σ F h H _ hL ok (zW_ (G:=F) ok _ (.inl rfl) fin fun yp G1 H1 dQ x1 u0 fc=>?_)
 obtain ⟨o1,hs1,_⟩:=ok.back x1
 rw [dQ] at fin
 obtain ⟨k0,⟨p,dx,vs0,m0,rfl,cb,jn,hl,ps⟩,kh,_⟩:=fc _ H1 (Same.refl _) o1
 refine ⟨p,dx,_,rfl,o1.2.2.1 _ _ (kh _ _ (jn.l _ _ zhu_)),z0_ dR,?_⟩
 refine ha σ (un (less G1 h) h) H1 _ ((hL.mono hs1).froz o1.2.1) o1.thaw (zW_ (G:=F) o1 _ (.inl rfl) fin fun c G2 H2 bh x2 vs bD=>?_)
 obtain ⟨o2,bP,ht2⟩:=o1.back x2
 rw [bh] at fin
 rw [List.append_nil]
 obtain ⟨k1,hO,di,gg⟩:=fc _ H2 bP o2
 have si:∀ q,less h k1 q≠none->k1 q=none:=fun q z=>by
  cases y:k1 q with
  | none=>rfl
  | some s=>exact absurd (zA_ (H:=h) q (by rw [y]; exact sN _)) z
 have eQ:Same (un (less G2 h) (less h k1)) H2:=fun q o z=>by
  unfold un at z
  cases y:less G2 h q with
  | some s=>rw [y] at z; rw [<- z]; exact o2.1.2.1 _ _ y
  | none=>rw [y] at z; exact o2.2.2.1 _ _ (z1_ _ _ z)
 have e7:Dj (un (less G2 h) (less h k1)) k1:=fun q=>by
  by_cases z:k1 q=none
  ·exact .inr z
  ·left
   unfold un
   have:less G2 h q=none:=zA_ q fun y=>z (di.free y)
   rw [this]; exact zA_ q z
 refine ⟨un (less G2 h) (less h k1),k1,yp.1,c,.ref p,vs,rfl,eQ,e7,di.trans o2.2.2.1,(owI C ns P).mono zO_ hO,Q.mono zO_ (hC ht2 bD),?_⟩
 have fin:Fin K ((g yp.1 c).noex.bind fun q=>k (yp.2 q.2)) E LS LB Or F0 H0 D:=fin
 cases e:g yp.1 c with
 | no=>rw [e] at fin; exact fin
 | ex cc=>rw [e] at fin; exact fin.elim
 | ok q =>
  rw [e] at fin
  rintro F' h' H' aE v ⟨hr,aO,j,_,hO2⟩
  have lo:∀ q',less h k1 q'≠none->h q'≠none:=fun q' z y=>z (by unfold less; split; exact y; rfl)
  have tp:Tups F' (less F' (less h k1)):=fun b xs z=>by
   cases y:less h k1 b with
   | none=>rw [zr_ y]; exact z
   | some s =>
    exfalso
    have y2:un (less G2 h) (less h k1) b=some s:=by
     unfold un
     have:less G2 h b=none:=zA_ b (lo b (by rw [y]; exact sN _))
     rw [this]; exact y
    have:=aE.1.1 _ _ y2
    rw [z] at this
    injection this with this
    exact o2.2.2.2.2 b xs (by rw [this]; exact z1_ _ _ y)
  have PC:PutC (less G2 h) H2 h H0 k1 aO (less F' (less h k1)) H':=by
   refine ⟨fun b o z=>?_,fun b o z=>aE.1.2.1 _ _ (z1_ _ _ z),aE.1.2.2.1,fun b a1 a2=>?_,j.r.trans aE.2.2.1,fun b=>?_,fun b a1 a2=>?_⟩
   ·have hb:h b=none:=by
     cases y:h b with
     | none=>rfl
     | some s=>rw [zA_ b (by rw [y]; exact sN _)] at z; cases z
    have:less h k1 b=none:=z1_.free hb
    rw [zr_ this]
    exact aE.1.1 _ _ (zO_ _ _ z)
   ·have y:less h k1 b=none:=by
     cases y:less h k1 b with
     | none=>rfl
     | some s=>exact absurd (zA_ b (by rw [y]; exact sN _)) a2
    rw [zr_ y] at a2
    have y2:un (less G2 h) (less h k1) b=none:=by unfold un; rw [a1]; exact y
    have y3:=aE.1.2.2.2 b y2 a2
    by_cases z:k1 b=none
    ·left; rw [zr_ z] at y3; exact y3
    ·exact .inr z
   ·by_cases z:aO b=none
    ·exact .inr z
    ·left
     rcases aE.2.1 b with y | y
     ·exact z1_.free y
     ·exact absurd (j.r.free y) z
   ·have y:=aE.2.2.2.1 b fun y=>a2 (j.r.free y)
    rw [zr_ a1] at y
    exact ⟨o2.2.2.1.free y,o2.1.2.2.1.free y⟩
  obtain ⟨h3,a1,a2⟩:=gg q.2 aO _ H' PC (hI tp hO2)
  exact hk _ F0 H0 σ _ h3 H' D a1 a2 fin
theorem zkH_ {Q:Cs γ}{r0:Mo γ}{g:γ->Mo α}(dR:m∉ns)(he:EvF K te E L r0 (tyI C ns Q)):
  EvF K (tMeth C m (Ct K (csLast (tyI C ns Q)) g (owF T)) [] E0 te tNil) E L (r0.bind fun x=>(g x).noex) T:=by
 intro σ F H R hL hs q
 refine he σ F H _ hL hs (q.bind.imp fun x F1 H1 x1 k1 v hv=>?_)
 obtain ⟨p,dx,vs,rfl,hp,hl,hc⟩:=id hv
 refine ⟨p,dx,_,rfl,x1.2.1 _ _ hp,z0_ dR,?_⟩
 exact ⟨F1,x,x1.2.1,⟨_,rfl,hv⟩,k1.noex.imp fun a F3 H3 x3 k3 w hw _ _ _ hv=>k3 w hv.2⟩
def ImmP (P:Ps γ):Prop:=∀ {c vs F F' h},Tups F F'->P.P c vs F h->P.P c vs F' h
theorem zax_:ImmP psNil:=fun _ q=>q
theorem zt_ {O:Own α}{P:Ps γ}(a:ImmO O)(b:ImmP P):ImmP (psO O P):=fun g ⟨v,us,h1,h2,e,j,x,y⟩=>⟨v,us,h1,h2,e,j,a g x,b g y⟩
theorem zc0_ {P:Ps γ}(b:ImmP P):ImmO (owI C ns P):=fun g ⟨p,dx,vs,k,e,nd,j,l,q⟩=>⟨p,dx,vs,k,e,nd,j,l,b g q⟩
theorem zpQ_ {O:Own β}{P:Ps γ}{st:γ->α->γ}{r0:Mo (γ×(γ->β))}{k:β->Mo (Out ρ B S)}(nd:ns.Nodup)(hf:ns[n]?=some f)(gw:ns.length<1000)(pp:PsPut P n (owF T) st)(hT:Imm T)(he:EvF K e E L r T)(hp:EvPt K te E L i O (owI C ns P) r0)(hk:∀ x',EvS K u E (L.set i (.ow O x')) (k x') LS LB Or):
  EvS K (tSeq (mSFld C te e f) u) E L (r.bind fun a=>r0.bind fun yp=>(Mo.ok (yp.2 (st yp.1 a))).bind k) LS LB Or:=zqN_ nd hf gw pp hT he hp hk
theorem zkg_ {P:Ps γ}{P':Ps δ}{ad:γ->α->δ}{x:γ}{w:V}{k:δ->Mo (Out ρ B S)}(hi:L[i]?=some (.ow (owAt w (owI C ns P)) x))(hf:f∉ns)(gw:ns.length<900)(pp:PsAdd P (owF T) P' ad)(hT:Imm T)(he:EvF K e E L r T)(hk:∀ x',EvS K u E (L.set i (.ow (owAt w (owI C (ns++[f]) P')) x')) (k x') LS LB Or):
  EvS K (tSeq (mSFld C (mVar i) e f) u) E L (r.bind fun a=>(Mo.ok (ad x a)).bind k) LS LB Or:=zqu_ hi hf gw pp hT he hk
theorem zhb_ {O:Own α}{P:Ps β}{r0:Mo (β×(β->α))}{Q:Cs γ}{ta:TA}{ra:Mo γ}{g:β->γ->Mo (aX×β)}{aU:Own aX}{k:α->Mo (Out ρ B S)}(dR:m∉ns)(hI:ImmO (owI C ns P))(hp:EvPt K te E L i O (owI C ns P) r0)(hC:ImmC Q)(ha:EvA K ta E L ra Q)
  (hk:∀ x',EvS K u E (L.set i (.ow O x')) (k x') LS LB Or):
  EvS K (tSeq (tDrop (tMeth C m (CtM K (owI C ns P) (owI C ns P) Q g aU) [] E0 te ta)) u) E L (r0.bind fun yp=>ra.bind fun c=>(g yp.1 c).noex.bind fun q=>(Mo.ok (yp.2 q.2)).bind k) LS LB Or:=zor_ dR hI hp hC ha hk
theorem zgr_ {O:Own β}{r0:Mo (List α×(List α->β))}{k:β->Mo (Out ρ B S)}(hp:EvPt K te E L i O (owL T) r0)(hT:Imm T)(he:EvF K e E L r T)(hk:∀ x',EvS K u E (L.set i (.ow O x')) (k x') LS LB Or):
  EvS K (tSeq (tDrop (tBM K "list" rAppend te (tCons e tNil))) u) E L (r0.bind fun yp=>r.bind fun a=>.lim (yp.1.length+1) ((Mo.ok (yp.2 (yp.1++[a]))).bind k)) LS LB Or:=zk9_ hp hT he hk
def EvAO (K:Fgg)(t:TA)(E:XK)(L:List Sl)(r:Mo (List α))(O:Own α):Prop:=
 ∀ σ F H (Q:List V->Hp->Prop),HoldF L σ F->Same F H->After K r E F H (fun xs F' H'=>∀ vs h,(∀ p,h p≠none->H p=none)->Dj F' h->Same h H'->OwAll O F' xs vs h->Q vs H')->t σ H Q
theorem zpw_ {O:Own α}:EvAO K tNil E L (.ok ([]:List α)) O:=fun σ F H Q hL hs q=>q.ok hs [] (fun _=>none) (fun p z=>absurd rfl z) (fun p=>.inr rfl) (fun p o z=>by cases z) fun _=>rfl
theorem zot_ {O:Own α}{t:TA}{r:Mo (List α)}(ht:EvAO K t E L r O):EvO K (tLst t) E L (r.bind fun xs=>.lim xs.length (.ok xs)) (owLO O):=by
 intro σ F H Q hL hs q
 refine ht σ F H _ hL hs (q.bind.imp fun xs F1 H1 x1 k1 vs h1 fr d s o=>?_)
 obtain ⟨hz,k1⟩:=k1.lim
 refine ⟨by rw [<- o.len]; exact hz,fun p hp=>?_⟩
 have ck:h1 p=none:=s.free hp
 have dj:Dj (one p (.lst vs)) h1:=fun q=>by
  by_cases z:q=p
  ·rw [z]; exact .inr ck
  ·left; unfold one; rw [if_neg z]
 have xx:Ext F1 H1 F1 (upd H1 p (.lst vs)):=⟨Same.refl _,fun b o z=>by rw [zI_ (fun e=>by rw [e] at z; have:=x1.2.1 _ _ z; rw [hp] at this; cases this)]; exact x1.2.1 _ _ z,fun b o z=>by rw [zI_ (fun e=>by rw [e,hp] at z; cases z)]; exact z,fun b a c=>absurd a c⟩
 refine k1 F1 _ xx (.ref p) (un (one p (.lst vs)) h1) (fun b z=>?_) (fun b=>?_) (fun b o' z=>?_) ⟨p,vs,h1,rfl,zcv_ dj,o⟩
 ·unfold un at z
  by_cases e:b=p
  ·rw [e]; exact x1.2.2.1.free hp
  ·unfold one at z; rw [if_neg e] at z; exact fr b z
 ·unfold un
  by_cases e:b=p
  ·left; rw [e]; exact x1.2.1.free hp
  ·unfold one; rw [if_neg e]; exact d b
 ·unfold un at z
  by_cases e:b=p
  ·rw [e,z9_] at z; rw [e,zx_]; exact z
  ·unfold one at z; rw [if_neg e] at z; rw [zI_ e]; exact s _ _ z
theorem zjs_ {hn:Hp}(ok:Okk F0 H0 F h H)(fr:∀ p,hn p≠none->H0 p=none/\h p=none)(s:Same hn H):Okk F0 H0 (un F hn) h H:=by
 refine ⟨⟨ok.1.1.trans zO_,fun p o z=>?_,ok.1.2.2.1,fun p a b=>?_⟩,fun p=>?_,ok.2.2.1,ok.2.2.2.1,ok.2.2.2.2⟩
 ·unfold un at z
  cases y:F p with
  | some w=>rw [y] at z; rw [<- z]; exact ok.1.2.1 _ _ y
  | none=>rw [y] at z; exact s _ _ z
 ·unfold un at b
  cases y:F p with
  | some w=>exact ok.1.2.2.2 p a (by rw [y]; exact sN _)
  | none=>rw [y] at b; exact (fr p b).1
 ·unfold un
  cases y:F p with
  | some w =>
   right
   rcases ok.2.1 p with z | z
   ·rw [z] at y; cases y
   ·exact z
  | none =>
   by_cases z:hn p=none
   ·exact .inl z
   ·exact .inr (fr p z).2
end
section
variable {K:Fgg}{E:XK}{γ:Type}{L:List Sl}{C:Addr}{ns:List Str}
theorem zhJ_ (i:Nat){P:Ps γ}{x:γ}(h:L[i]?=some (.ow (owI C ns P) x)):EvF K (mVar i) E L (.ok x) (tyI C ns P.fr):=zhX_ i h
theorem zdi_ (i:Nat){P:Ps γ}{x:γ}{w:V}(h:L[i]?=some (.ow (owAt w (owI C ns P)) x)):EvF K (mVar i) E L (.ok x) (tyI C ns P.fr):=zhX_ i h
end
section
variable {X:Cx}
def mTrL (K:Fgg)(t:TE):TT:=fun σ H Q=>t σ H fun x H'=>match x with
 | .bl k=>Q k H'
 | .ref a=>∃ xs,SqL K H' a xs/\Q (!xs.isEmpty) H'
 | _=>False
theorem zpt_ {e:Expr}{t:TE}(h:PE X e t)(he:∀ whole,isTrue e X.env whole=(do let v <- whole; standAt e.pos; holding [v] (truthy v)):=by intro _; rfl):PT X e (mTrL X.K t):=by
 intro pins s σ H Q I hw
 refine isTrue_plain (thn (h pins s σ H _ I hw) fun v s1 ao=>?_) (he _)
 obtain ⟨x,H1,I1,r1,q1⟩:=ao
 cases x with
 | bl c=>cases r1; exact wpAny_truthy_bool ⟨H1,I1,q1⟩
 | ref a =>
  cases r1
  obtain ⟨xs,hq,q⟩:=q1
  obtain ⟨ai,rv,p,hz⟩:=I1.list hq
  have hl:=rv.length
  refine wpAny_truthy_list p.isList (by rw [List.size_toArray,<- hl]; rw [sizeLine_eq] at hz; lia) ?_
  have e:ai.isEmpty=xs.isEmpty:=by cases rv<;>rfl
  refine ⟨H1,I1.tok _,?_⟩
  simpa [e] using q
 | _=>exact q1.elim
variable {K:Fgg}{E:XK}{α:Type}{L:List Sl}{e:TE}{T:Ty α}
theorem zpV_ {b:Mo Bool}(h:EvF K e E L b tyBl):EvT K (mTrL K e) E L b:=by
 intro σ F H Q hL hs q
 refine h σ F H _ hL hs (q.imp fun a F1 H1 x k v hv=>?_)
 cases hv
 exact k
theorem zgX_ {r:Mo (Option α)}(h:EvF K e E L r (tyOpt T)):EvF K e E L (r.bind fun o=>Mo.opt o) T:=by
 intro σ F H Q hL hs q
 refine h σ F H _ hL hs (q.bind.imp fun o F1 H1 x k v hv=>?_)
 cases o with
 | none=>exact k.elim
 | some a=>exact k.ok x.2.1 v hv.1
def EvJ (K:Fgg)(k:Nat)(tj:TJ)(E:XK)(L:List Sl)(r:Mo (List Nat)):Prop:=
 ∀ (n:Nat) (acc:List Nat) σ F H (R:Str->Hp->Prop),acc.length<=1000*n->n+k<=90->HoldF L σ F->Same F H->After K r E F H (fun l F' H'=>l.length<=1000*k->R ⟨(acc++l).toArray⟩ H')->tj ⟨acc.toArray⟩ σ H R
theorem zoX_:EvJ K 0 tJ0 E L (.ok []):=fun n acc σ F H R ha hn hL hs q=>by
 have:=q.ok hs (Nat.zero_le _)
 rwa [List.append_nil] at this
theorem zeB_ {ta:TE}{tr:TJ}{k:Nat}{r r':Mo (List Nat)}(h:EvF K ta E L r tyStr)(hr:EvJ K k tr E L r'):EvJ K (k+1) (tJ1 ta tr) E L (r.bind fun a=>.grd (a.length<=1000) (r'.bind fun l=>.ok (a++l))):=by
 intro n acc σ F H R ha hn hL hs q
 refine h σ F H _ hL hs (q.bind.imp fun a F1 H1 x1 k1 v hv=>?_)
 cases hv
 obtain ⟨hz,k1⟩:=k1.grd
 have e:((⟨acc.toArray⟩:Str)++(⟨a.toArray⟩:Str))=⟨(acc++a).toArray⟩:=by
  show (⟨acc.toArray++a.toArray⟩:Str)=_
  simp
 show ((⟨acc.toArray⟩:Str)++(⟨a.toArray⟩:Str)).length<=sizeLine/\tr ((⟨acc.toArray⟩:Str)++(⟨a.toArray⟩:Str)) σ H1 R
 rw [e]
 refine ⟨by show (acc++a).toArray.size<=sizeLine; rw [List.size_toArray,List.length_append,sizeLine_eq]; lia,hr (n+1) (acc++a) σ F1 H1 R (by rw [List.length_append]; lia) (by lia) (hL.mono x1.1) x1.2.1 (k1.bind.imp fun l F2 H2 x2 k2 hl=>?_)⟩
 have:=k2.ok x2.2.1 (by rw [List.length_append]; lia)
 rwa [<- List.append_assoc] at this
theorem zhT_ {tj:TJ}{k:Nat}{r:Mo (List Nat)}(h:EvJ K k tj E L r)(hk:k<=80:=by decide):EvF K (tJoin tj) E L r tyStr:=by
 intro σ F H Q hL hs q
 refine h 0 [] σ F H _ (by simp) (by lia) hL hs (q.imp fun l F' H' x k1 hl=>?_)
 rw [List.nil_append]
 exact ⟨by show l.toArray.size<=sizeLine; rw [List.size_toArray,sizeLine_eq]; lia,k1 _ rfl⟩
theorem zqc_ {r:Mo (List Nat)}(h:EvF K e E L r tyStr):EvF K (tUn mFmt e) E L (r.bind fun l=>.lim l.length (.ok l)) tyStr:=by
 intro σ F H Q hL hs q
 refine h σ F H _ hL hs (q.bind.imp fun l F1 H1 x1 k1 v hv=>?_)
 cases hv
 obtain ⟨hz,k1⟩:=k1.lim
 exact ⟨by show l.toArray.size<=sizeLine; rw [List.size_toArray]; exact hz,k1.ok x1.2.1 _ rfl⟩
theorem zl5_ {r:Mo Int}(h:EvF K e E L r tyInt):EvF K (tUn mFmt e) E L (r.bind fun i=>.grd (i.natAbs.log2<1920) (.ok (strI i))) tyStr:=by
 intro σ F H Q hL hs q
 refine h σ F H _ hL hs (q.bind.imp fun l F1 H1 x1 k1 v hv=>?_)
 cases hv
 obtain ⟨hz,k1⟩:=k1.grd
 exact ⟨hz,k1.ok x1.2.1 _ rfl⟩
variable {β:Type}
abbrev owPn (u:V)(O':Own β)(put:β->α)(O:Own α):Own β:=⟨fun z v F k=>∃ k1 k2,Jn k1 k2 k/\O'.O z u F k1/\∀ z' aI k' F3,Same F F3->O'.O z' u F3 aI->Jn aI k2 k'->O.O (put z') v F3 k',
 ⟨fun z v H=>O.fr.R (put z) v H/\O'.fr.R z u H,fun g q=>⟨O.fr.mono g q.1,O'.fr.mono g q.2⟩⟩,
 fun g ⟨k1,k2,j,a,b⟩=>⟨k1,k2,j,O'.mono g a,fun z' aI k' F3 s=>b z' aI k' F3 (g.trans s)⟩,
 fun d ⟨k1,k2,j,a,b⟩=>⟨O.frz d (b _ k1 _ _ (Same.refl _) a j),O'.fr.mono (zdp_ d j.l) (O'.frz (dj_l d j) a)⟩,
 fun ⟨k1,k2,j,a,b⟩=>O.notup (b _ k1 _ _ (Same.refl _) a j)⟩
theorem zq4_ {k:Hp}:Jn k (fun _=>none) k:=fun p=>.inr ⟨rfl,rfl⟩
theorem zlp_ {k k':Hp}(j:Jn k (fun _=>none) k'):k'=k:=by
 funext p
 rcases j p with ⟨a,b⟩ | ⟨a,b⟩
 ·rw [a,b]
 ·exact b
variable {ρ aX:Type}{F0 H0 F h H:Hp}{te:TE}{r:Mo α}{t u:TS}{σ:St}{f:Str}{i:Nat}
theorem zi9_ {O1:Own α}{O2:Own β}{x:α}{x2:β}(hL:Hold L σ F h)(hi:L[i]?=some (.ow O1 x))(g:∀ v k,σ[i]?=some (some v)->Same k h->O1.O x v F k->O2.O x2 v F k):Hold (L.set i (.ow O2 x2)) σ F h:=by
 obtain ⟨o,k,hr,e1,j,⟨v,e2,ho⟩,f⟩:=hL.at i hi
 subst e2
 have:=f (.ow O2 x2) (some v) k h j ⟨v,rfl,g v k e1 j.l ho⟩
 rwa [zaY_ e1] at this
def EvPw (K:Fgg)(te:TE)(E:XK)(L:List Sl)(i:Nat)(O:Own α)(O':Own β)(r:Mo (β×(β->α))):Prop:=
 ∀ F0 H0 σ F h H (Q:VK),Hold L σ F h->Okk F0 H0 F h H->After K r E (un F h) H (fun yp G1 H1=>∀ u,i<L.length->Hold (L.set i (.ow (owPn u O' yp.2 O) yp.1)) σ (less G1 h) h->Q u H1)->te σ H Q
theorem zmf_ {O:Own α}{x:α}(hi:L[i]?=some (.ow O x)):EvPw K (mVar i) E L i O O (.ok (x,fun z=>z)):=by
 intro F0 H0 σ F h H Q hL ok q
 obtain ⟨o,hs,_⟩:=ok.back (Ext.refl ok.thaw)
 obtain ⟨_,k,hr,e1,j,⟨v,e2,ho⟩,f⟩:=(hL.mono hs).at i hi
 subst e2
 refine zcl_ e1 (q.ok ok.thaw v (List.getElem?_eq_some_iff.mp hi).1 (zi9_ (hL.mono hs) hi fun v' k ev kh ho=>?_))
 rw [e1] at ev; cases ev
 exact ⟨k,fun _=>none,zq4_,ho,fun z' aI k' F3 s o' j'=>by rw [zlp_ j']; exact o'⟩
theorem zlL_ {r:Mo α}{k:α->Mo ρ}{p5:ρ->Hp->Hp->Hp->Prop}{kk:α->Hp->Hp->Prop}(ok:Okk F0 H0 F h H)(fin:FinM K (r.bind k) E F0 H0 p5)(hk:∀ a F' H',r=.ok a->Ext (un F h) H F' H'->kk a F' H'):After K r E (un F h) H kk:=by
 cases r with
 | ok a=>exact fun F' H' x=>hk a F' H' rfl x
 | no=>exact fin
 | ex c=>exact fun F' H' x=>(fin _ _ _ (ok.back x).1).back ok x
def EvM (K:Fgg)(t:TE)(E:XK)(L:List Sl)(i:Nat)(O:Own α)(aU:Own aX)(r:Mo (aX×α)):Prop:=
 ∀ F0 H0 σ F h H (Q:VK),Hold L σ F h->Okk F0 H0 F h H->FinM K r E F0 H0 (fun q F' h' H'=>∀ v h1 h2,Jn h1 h2 h'->Hold (L.set i (.ow O q.2)) σ F' h1->aU.O q.1 v F' h2->Q v H')->t σ H Q
theorem zhm_ {G2 H2 ka kb aH aO hr F' h' H' k:Hp}(o2:Okk F0 H0 (less G2 h) h H2)(j:Jn k aH h)(jk:Jn ka kb k)(aE:Okk (un (less G2 h) (less h ka)) (less H2 ka) F' h' H')(j':Jn hr aO h'):
  Same (less G2 h) (less F' (less h ka))/\Tups F' (less F' (less h ka))/\Dj aO kb/\Dj (un aO kb) aH/\Dj (un (un aO kb) aH) hr/\Okk F0 H0 (less F' (less h ka)) (un (un (un aO kb) aH) hr) H':=by
 have nM:Same ka h:=jk.l.trans j.l
 have kX:∀ q,kb q≠none->h q=kb q/\ka q=none:=fun q z=>by
  cases y:kb q with
  | none=>exact absurd y z
  | some o =>
   refine ⟨j.l _ _ (jk.r _ _ y),?_⟩
   rcases jk.dj q with x | x
   ·exact x
   ·rw [x] at y; cases y
 have kE:∀ q,aH q≠none->h q=aH q/\ka q=none:=fun q z=>by
  cases y:aH q with
  | none=>exact absurd y z
  | some o =>
   refine ⟨j.r _ _ y,?_⟩
   rcases j.dj q with x | x
   ·exact jk.l.free x
   ·rw [x] at y; cases y
 have key:∀ q,h' q≠none->h q≠none->ka q=none->False:=fun q z1 z2 z3=>by
  have:=aE.2.2.2.1 q z1
  rw [zr_ z3] at this
  exact z2 (o2.2.2.1.free this)
 have h0:∀ q,less H2 ka q=none->H0 q=none:=fun q z=>by
  by_cases y:ka q=none
  ·rw [zr_ y] at z; exact o2.1.2.2.1.free z
  ·exact o2.2.2.2.1 q fun x=>y (nM.free x)
 have old:∀ q o,h q=some o->ka q=none->H' q=some o:=fun q o z1 z2=>aE.1.2.2.1 q o (by rw [zr_ z2]; exact o2.2.2.1 _ _ z1)
 have d1:Dj aO kb:=fun q=>by
  by_cases z:aO q=none
  ·exact .inl z
  ·by_cases y:kb q=none
   ·exact .inr y
   ·obtain ⟨a,b⟩:=kX q y
    exact (key q (fun x=>z (j'.r.free x)) (by rw [a]; exact y) b).elim
 have d2:Dj (un aO kb) aH:=fun q=>by
  by_cases y:aH q=none
  ·exact .inr y
  ·left
   obtain ⟨a,b⟩:=kE q y
   have z1:aO q=none:=by
    by_cases z:aO q=none
    ·exact z
    ·exact (key q (fun x=>z (j'.r.free x)) (by rw [a]; exact y) b).elim
   have z2:kb q=none:=by
    rcases j.dj q with x | x
    ·exact jk.r.free x
    ·exact absurd x y
   unfold un; rw [z1]; exact z2
 have d3:Dj (un (un aO kb) aH) hr:=fun q=>by
  by_cases y:hr q=none
  ·exact .inr y
  ·left
   have hq:h' q≠none:=fun x=>y (j'.l.free x)
   have z1:aO q=none:=by
    rcases j'.dj q with x | x
    ·exact absurd x y
    ·exact x
   have z2:kb q=none:=by
    by_cases z:kb q=none
    ·exact z
    ·obtain ⟨a,b⟩:=kX q z
     exact (key q hq (by rw [a]; exact z) b).elim
   have z3:aH q=none:=by
    by_cases z:aH q=none
    ·exact z
    ·obtain ⟨a,b⟩:=kE q z
     exact (key q hq (by rw [a]; exact z) b).elim
   unfold un; rw [z1]; simp only; rw [z2]; exact z3
 have parts:∀ q o,un (un (un aO kb) aH) hr q=some o->h' q=some o\/(h q=some o/\ka q=none):=fun q o z=>by
  unfold un at z
  cases z1:aO q with
  | some a=>rw [z1] at z; left; rw [<- z]; exact j'.r _ _ z1
  | none =>
   rw [z1] at z; simp only at z
   cases z2:kb q with
   | some a=>rw [z2] at z; right; obtain ⟨x,y⟩:=kX q (by rw [z2]; exact sN _); exact ⟨by rw [x,z2]; exact z,y⟩
   | none =>
    rw [z2] at z; simp only at z
    cases z3:aH q with
    | some a=>rw [z3] at z; right; obtain ⟨x,y⟩:=kE q (by rw [z3]; exact sN _); exact ⟨by rw [x,z3]; exact z,y⟩
    | none=>rw [z3] at z; left; exact j'.l _ _ z
 have ff:Same (less G2 h) (less F' (less h ka)):=fun b o z=>by
  have hb:h b=none:=by
   cases y:h b with
   | none=>rfl
   | some s=>rw [zA_ b (by rw [y]; exact sN _)] at z; cases z
  have:less h ka b=none:=z1_.free hb
  rw [zr_ this]
  exact aE.1.1 _ _ (zO_ _ _ z)
 have lo:∀ q',less h ka q'≠none->h q'≠none:=fun q' z y=>z (by unfold less; split; exact y; rfl)
 have tp:Tups F' (less F' (less h ka)):=fun b xs z=>by
  cases y:less h ka b with
  | none=>rw [zr_ y]; exact z
  | some s =>
   exfalso
   have y2:un (less G2 h) (less h ka) b=some s:=by
    unfold un
    have:less G2 h b=none:=zA_ b (lo b (by rw [y]; exact sN _))
    rw [this]; exact y
   have:=aE.1.1 _ _ y2
   rw [z] at this
   injection this with this
   exact o2.2.2.2.2 b xs (by rw [this]; exact z1_ _ _ y)
 refine ⟨ff,tp,d1,d2,d3,⟨o2.1.1.trans ff,fun b o z=>aE.1.2.1 _ _ (z1_ _ _ z),fun b o z=>?_,fun b a1 a2=>?_⟩,fun b=>?_,fun b o z=>?_,fun b z=>?_,fun b xs z=>?_⟩
 ·have nL:ka b=none:=by
   by_cases y:ka b=none
   ·exact y
   ·have:=o2.2.2.2.1 b fun x=>y (nM.free x)
    rw [z] at this; cases this
  exact aE.1.2.2.1 b o (by rw [zr_ nL]; exact o2.1.2.2.1 _ _ z)
 ·by_cases y0:less G2 h b=none
  ·have y:less h ka b=none:=by
    cases y:less h ka b with
    | none=>rfl
    | some s=>exact absurd (zA_ b (by rw [y]; exact sN _)) a2
   rw [zr_ y] at a2
   exact h0 b (aE.1.2.2.2 b (by unfold un; rw [y0]; exact y) a2)
  ·exact o2.1.2.2.2 b a1 y0
 ·cases z:un (un (un aO kb) aH) hr b with
  | none=>exact .inr rfl
  | some o =>
   left
   rcases parts b o z with y | ⟨y1,y2⟩
   ·rcases aE.2.1 b with x | x
    ·exact z1_.free x
    ·rw [x] at y; cases y
   ·exact zA_ b (by rw [zr_ y2,y1]; exact sN _)
 ·rcases parts b o z with y | ⟨y1,y2⟩
  ·exact aE.2.2.1 _ _ y
  ·exact old b o y1 y2
 ·cases y:un (un (un aO kb) aH) hr b with
  | none=>exact absurd y z
  | some o =>
   rcases parts b o y with x | ⟨x,_⟩
   ·exact h0 b (aE.2.2.2.1 b (by rw [x]; exact sN _))
   ·exact o2.2.2.2.1 b (by rw [x]; exact sN _)
 ·rcases parts b _ z with y | ⟨y,_⟩
  ·exact aE.2.2.2.2 b xs y
  ·exact o2.2.2.2.2 b xs y
variable {S B:Type}{Or:Own ρ}{LS:S->List Sl}{LB:B->List Sl}{w:Nat}
theorem zhU_ {r:Mo aX}{k:aX->Mo (Out ρ B S)}{D:Ends}{kk:aX->Hp->Hp->Hp->Prop}(fin:Fin K (r.bind k) E LS LB Or F0 H0 D)(hk:∀ q F' h' H',r=.ok q->Okk F0 H0 F' h' H'->kk q F' h' H'):FinM K r E F0 H0 kk:=by
 cases r with
 | ok q=>exact fun F h H o=>hk q F h H rfl o
 | ex c=>exact fin
 | no=>exact fin
theorem zqS_ {O:Own α}{O':Own β}{w:V}{r:Mo (β×(β->α))}(hp:EvPw K te E L i O (owAt w O') r):EvPw K te E L i O O' r:=by
 intro F0 H0 σ F h H Q hL ok q
 refine hp F0 H0 σ F h H _ hL ok (q.imp fun yp G1 H1 x1 k1 uu il hh=>k1 uu il ?_)
 have hi:(L.set i (.ow (owPn uu (owAt w O') yp.2 O) yp.1))[i]?=some (.ow (owPn uu (owAt w O') yp.2 O) yp.1):=by rw [List.getElem?_set_self (by exact il)]
 have:=zi9_ (O2:=owPn uu O' yp.2 O) (x2:=yp.1) hh hi fun v k ev kh ⟨ka,kb,jk,⟨e,ho⟩,wand⟩=>⟨ka,kb,jk,ho,fun z' aI k' F3 s oz j'=>wand z' aI k' F3 s ⟨e,oz⟩ j'⟩
 rwa [List.set_set] at this
end
section
variable {K:Fgg}{E:XK}{α β γ δ ρ S B:Type}{F0 H0 F h H:Hp}{L:List Sl}{e te:TE}{T:Ty α}{r:Mo α}{Or:Own ρ}{t u:TS}{LS:S->List Sl}{LB:B->List Sl}{σ:St}{C:Addr}{ns:List Str}{f m:Str}{i n w j:Nat}
theorem zkj_ {lv:List Str}{fr:List (Str×Nat)}{wi:TI}{g:TG}{tt:TT}{te:TE}{r:Mo (List α)}{ss:α->List (Nat×Sl)}{c:α->Mo Bool}{f:α->Mo β}{O':Own β}
  (hi:EvI K wi E L r T) (hg:TgR K g T ss) (hd:∀ a,DeadAt (cL lv fr L) ((ss a).map (·.1))) (ht:∀ a,EvT K tt E0 (setL (cL lv fr L) (ss a)) (c a)) (he:∀ a,EvO K te E0 (setL (cL lv fr L) (ss a)) (f a) O'):
  EvO K (tComp lv fr wi g tt te) E L (r.bind fun xs=>compM (fun x=>cond1 (c x) (f x)) xs []) (owLO O'):=by
 intro σ F0 H0 Q hL hs q
 refine hi σ F0 H0 _ hL hs (q.bind.imp fun xs F1 H1 x1 k1 J Y D hD=>?_)
 have qv:=hL.mono x1.1
 refine ⟨fun i m ys au H'=>m=xs.length-i/\i<=xs.length/\∃ acc Fi hh,Ext F1 H1 Fi H'/\Fi D=none/\hh D=none/\H' D=some (.lst ys)/\OwAll O' Fi acc ys hh/\Dj Fi hh/\Same hh H'/\(∀ p,hh p≠none->H1 p=none)/\HoldF (cL lv fr L) au F1/\au.length=(cL lv fr L).length/\After K (compM (fun x=>cond1 (c x) (f x)) (xs.drop i) acc) E F1 H1 (OwnK (owLO O') H0 Q),
  ⟨_,rfl,Nat.zero_le _,[],F1,fun _=>none,.heap x1.2.1 (zbf_ hD _),x1.2.1.free hD,rfl,zx_,fun _=>rfl,fun _=>.inr rfl,(fun p o z=>by cases z),fun p z=>absurd rfl z,ziL_ qv,zn5_.symm,k1⟩,?_⟩
 rintro i m ys au H' ⟨rfl,hi,acc,Fi,hh,xi,hDi,hDh,hy,hp,dj,sh,fresh,fX,hln,A⟩
 by_cases bw:i<xs.length
 ·right
  have ex:xs[i]?=some xs[i]:=List.getElem?_eq_getElem bw
  obtain ⟨g1,g2⟩:=Y.go i H' xs[i] (xi.1.trans xi.2.1) ex
  refine ⟨g1,fun gT gj gR=>i+1<=xs.length/\∃ acc Fi hh,Ext F1 H1 Fi gR/\Fi D=none/\hh D=none/\gR D=some (.lst gT)/\OwAll O' Fi acc gT hh/\Dj Fi hh/\Same hh gR/\(∀ p,hh p≠none->H1 p=none)/\HoldF (cL lv fr L) gj F1/\gj.length=(cL lv fr L).length/\After K (compM (fun x=>cond1 (c x) (f x)) (xs.drop (i+1)) acc) E F1 H1 (OwnK (owLO O') H0 Q),fun gT gj gR z=>⟨xs.length-(i+1),by omega,rfl,z⟩,fun v H2 p8=>?_⟩
  obtain ⟨F2,x2,hv⟩:=g2 v H2 p8 Fi xi.1 xi.2.1
  have keep:∀ {Fa Ha Fb Hb:Hp},Ext Fa Ha Fb Hb->Fa D=none->Ha D=some (.lst ys)->Dj Fa hh->Same hh Ha->(Fb D=none/\Hb D=some (.lst ys))/\Dj Fb hh/\Same hh Hb:=by
   intro Fa Ha Fb Hb x h1 h2 h3 h4
   refine ⟨⟨?_,x.2.2.1 _ _ h2⟩,fun p=>?_,h4.trans x.2.2.1⟩
   ·cases z:Fb D with
    | none=>rfl
    | some o=>have:=x.2.2.2 D h1 (by rw [z]; exact sN _); rw [h2] at this; cases this
   ·cases y:hh p with
    | none=>exact .inr rfl
    | some w =>
     left
     rcases h3 p with z | z
     ·cases zz:Fb p with
      | none=>rfl
      | some o=>have:=x.2.2.2 p z (by rw [zz]; exact sN _); rw [h4 _ _ y] at this; cases this
     ·rw [z] at y; cases y
  obtain ⟨⟨qA,hy2⟩,mC,sh2⟩:=keep x2 hDi hy dj sh
  refine hg xs[i] v au F2 H2 _ x2.2.1 hv fun vs aQ=>?_
  have lh:HoldF (cL lv fr L) au F2:=fX.mono (xi.1.trans x2.1)
  obtain ⟨a1,a2,a3⟩:=ziA_ aQ hln.symm lh
  have iU:HoldF (cL lv fr L) (setS au vs) F1:=by
   have jo:=hd xs[i]
   refine fun j s e=>?_
   by_cases hj:∃ q∈(ss xs[i]).map (·.1),q=j
   ·obtain ⟨q,hq,rfl⟩:=hj
    rw [jo q hq s e]; trivial
   ·have:((setS au vs)[j]?)=au[j]?:=zm3_ aQ (fun hq=>hj ⟨j,hq,rfl⟩)
    rw [this]; exact fX j s e
  have ji:xs.drop i=xs[i]::xs.drop (i+1):=List.drop_eq_getElem_cons bw
  rw [ji] at A
  unfold compM at A
  cases ec:c xs[i] with
  | no=>unfold cond1 at A; rw [ec] at A; exact A.elim
  | ex cc=>unfold cond1 at A; rw [ec] at A; exact A.elim
  | ok bb =>
   refine ht xs[i] _ F2 H2 _ a1 x2.2.1 ?_
   rw [ec]
   intro F3 H3 x3
   obtain ⟨⟨n6,hy3⟩,dj3,sh3⟩:=keep x3 qA hy2 mC sh2
   have ko:=(xi.trans x2).trans x3
   cases bb with
   | false =>
    rw [if_neg (by decide)]
    refine ⟨bw,acc,F3,hh,ko,n6,hDh,hy3,hp.mono (x2.1.trans x3.1),dj3,sh3,fresh,iU,by rw [a2]; exact hln,?_⟩
    unfold cond1 at A; rw [ec] at A
    exact A
   | true =>
    rw [if_pos rfl]
    cases ef:f xs[i] with
    | no=>unfold cond1 at A; rw [ec,ef] at A; exact A.elim
    | ex cc=>unfold cond1 at A; rw [ec,ef] at A; exact A.elim
    | ok y =>
     unfold cond1 at A; rw [ec,ef] at A
     have A':After K (Mo.lim (acc.length+1) (compM (fun x=>cond1 (c x) (f x)) (xs.drop (i+1)) (acc++[y]))) E F1 H1 (OwnK (owLO O') H0 Q):=A
     obtain ⟨hz,A'⟩:=A'.lim
     refine he xs[i] _ F3 H3 _ (a1.mono x3.1) x3.2.1 ?_
     rw [ef]
     intro F4 H4 x4 v4 hn mz mB pv p_
     obtain ⟨⟨n5,hy4⟩,qH,sh4⟩:=keep x4 n6 hy3 dj3 sh3
     have hlen:=hp.len
     have nQ:hn D=none:=by
      cases z:hn D with
      | none=>rfl
      | some w=>have:=mz D (by rw [z]; exact sN _); rw [hy3] at this; cases this
     have qG:Dj hh hn:=fun p=>by
      cases z:hn p with
      | none=>exact .inr rfl
      | some w=>exact .inl (sh3.free (mz p (by rw [z]; exact sN _)))
     have jN:=ko.trans x4
     refine ⟨hy4,by omega,bw,acc++[y],F4,un hh hn,?_,n5,by unfold un; rw [hDh]; exact nQ,zx_,(hp.mono ((x2.1.trans x3.1).trans x4.1)).snoc p_ qG,fun p=>?_,fun p o z=>?_,fun p z=>?_,iU,by rw [a2]; exact hln,A'⟩
     ·refine ⟨jN.1,fun b o z=>?_,fun b o z=>?_,jN.2.2.2⟩
      ·unfold upd; split
       ·rename_i w; rw [w,n5] at z; cases z
       ·exact jN.2.1 _ _ z
      ·unfold upd; split
       ·rename_i w; rw [w,hD] at z; cases z
       ·exact jN.2.2.1 _ _ z
     ·unfold un
      cases z:hh p with
      | some w =>
       rcases qH p with y | y
       ·exact .inl y
       ·rw [y] at z; cases z
      | none=>exact mB p
     ·have qe:p≠D:=fun w=>by
       unfold un at z; rw [w,hDh,nQ] at z; cases z
      unfold upd; rw [if_neg qe]
      unfold un at z
      cases w:hh p with
      | some o'=>rw [w] at z; cases z; exact sh4 _ _ w
      | none=>rw [w] at z; exact pv _ _ z
     ·unfold un at z
      cases w:hh p with
      | some o'=>exact fresh p (by rw [w]; exact sN _)
      | none=>rw [w] at z; exact ko.2.2.1.free (mz p z)
 ·left
  have e:i=xs.length:=by omega
  subst e
  refine ⟨Y.stop H' (xi.1.trans xi.2.1),?_⟩
  rw [List.drop_length] at A
  have A':OwnK (owLO O') H0 Q acc Fi H':=A Fi H' xi
  have dD:Dj (one D (.lst ys)) hh:=fun p=>by
   unfold one; split
   ·rename_i w; rw [w]; exact .inr hDh
   ·exact .inl rfl
  refine A' (.ref D) (un (one D (.lst ys)) hh) (fun p z=>?_) (fun p=>?_) (fun p o z=>?_) ⟨D,ys,hh,rfl,zcv_ dD,hp⟩
  ·unfold un one at z
   by_cases w:p=D
   ·rw [w]; exact x1.2.2.1.free hD
   ·simp only [if_neg w] at z; exact x1.2.2.1.free (fresh p z)
  ·by_cases w:p=D
   ·rw [w]; exact .inl hDi
   ·unfold un one; simp only [if_neg w]; exact dj p
  ·unfold un one at z
   by_cases w:p=D
   ·simp only [if_pos w] at z; rw [w]; cases z; exact hy
   ·simp only [if_neg w] at z; exact sh _ _ z
theorem EvO.weak {O O2:Own α}{e:TE}{r:Mo α}(h:∀ {a v F h},O.O a v F h->O2.O a v F h)(he:EvO K e E L r O):EvO K e E L r O2:=by
 intro σ F H Q hL hs q
 exact he σ F H Q hL hs (q.imp fun a F1 H1 x1 k1 v hp fresh d s o=>k1 v hp fresh d s (h o))
theorem zqh_ {h1 h2 h:Hp}(j:Jn h1 h2 h)(n:∀ p,h2 p=none):h=h1:=funext fun p=>by
 rcases j p with ⟨a,b⟩ | ⟨_,b⟩
 ·rw [b,n,a]
 ·exact b
theorem OwAll.plain {T':Ty β}:∀ {xs:List β}{vs:List V}{F h:Hp},OwAll (owF T') F xs vs h->(∀ p,h p=none)/\Prs T' F xs vs
 | [],[],_,_,q=>⟨q,.nil⟩
 | x::xs,v::vs,_,_,⟨h1,h2,j,⟨e,r⟩,q⟩=>have z:=OwAll.plain q; ⟨fun p=>by rw [zqh_ j z.1]; exact e p,.cons r z.2⟩
 | [],_::_,_,_,q=>q.elim
 | _::_,[],_,_,q=>q.elim
theorem ze1_ {lv:List Str}{fr:List (Str×Nat)}{wi:TI}{g:TG}{tt:TT}{te:TE}{r:Mo (List α)}{ss:α->List (Nat×Sl)}{c:α->Mo Bool}{f:α->Mo β}{T':Ty β}
  (hi:EvI K wi E L r T) (hg:TgR K g T ss) (hd:∀ a,DeadAt (cL lv fr L) ((ss a).map (·.1))) (ht:∀ a,EvT K tt E0 (setL (cL lv fr L) (ss a)) (c a)) (he:∀ a,EvF K te E0 (setL (cL lv fr L) (ss a)) (f a) T'):
  EvO K (tComp lv fr wi g tt te) E L (r.bind fun xs=>compM (fun x=>cond1 (c x) (f x)) xs []) (owL T'):=
 EvO.weak (O:=owLO (owF T')) (O2:=owL T') (fun ⟨p,vs,k,e,j,q⟩=>have z:=OwAll.plain q; ⟨p,vs,e,zqh_ j z.1,z.2⟩) (zkj_ hi hg hd ht fun a=>EvF.ow (he a))
section
open PySem PySem.Spec PyProof.Rows PySem.W
end
theorem zae_ {α:Type}{us:List α}{n:Nat}(h:us.length=n+1):∃ a t,us=a::t/\t.length=n:=by
 cases us with
 | nil=>cases h
 | cons a t=>exact ⟨a,t,rfl,Nat.succ.inj h⟩
theorem Fun.binds1 {x qual:Str}{st:Stmt}{f:Addr}{fd:FuncData}{ps:List Str}(hp:ps.length=1)(F:Fun K x qual st f fd)(h:∀ (kV doc pm:Value) (an:Option Addr) (ar ct:Value) (ua:Value),bindArgs (W.fnOf x qual (defArgs st) (defBody st) (defScope st) .none kV doc pm an ar ct) ⟨[ua],[]⟩=pure (ps.zip [ua])):Binds K fd ps []:=by
 refine F.binds fun kV doc pm an ar ct us hl=>?_
 have h0:=hl.trans hp
 obtain ⟨ua,t1,rfl,h1⟩:=zae_ h0
 cases List.length_eq_zero_iff.mp h1
 exact h kV doc pm an ar ct ua
theorem Fun.binds2 {x qual:Str}{st:Stmt}{f:Addr}{fd:FuncData}{ps:List Str}(hp:ps.length=2)(F:Fun K x qual st f fd)(h:∀ (kV doc pm:Value) (an:Option Addr) (ar ct:Value) (ua ub:Value),bindArgs (W.fnOf x qual (defArgs st) (defBody st) (defScope st) .none kV doc pm an ar ct) ⟨[ua,ub],[]⟩=pure (ps.zip [ua,ub])):Binds K fd ps []:=by
 refine F.binds fun kV doc pm an ar ct us hl=>?_
 have h0:=hl.trans hp
 obtain ⟨ua,t1,rfl,h1⟩:=zae_ h0
 obtain ⟨ub,t2,rfl,h2⟩:=zae_ h1
 cases List.length_eq_zero_iff.mp h2
 exact h kV doc pm an ar ct ua ub
theorem Fun.binds3 {x qual:Str}{st:Stmt}{f:Addr}{fd:FuncData}{ps:List Str}(hp:ps.length=3)(F:Fun K x qual st f fd)(h:∀ (kV doc pm:Value) (an:Option Addr) (ar ct:Value) (ua ub uc:Value),bindArgs (W.fnOf x qual (defArgs st) (defBody st) (defScope st) .none kV doc pm an ar ct) ⟨[ua,ub,uc],[]⟩=pure (ps.zip [ua,ub,uc])):Binds K fd ps []:=by
 refine F.binds fun kV doc pm an ar ct us hl=>?_
 have h0:=hl.trans hp
 obtain ⟨ua,t1,rfl,h1⟩:=zae_ h0
 obtain ⟨ub,t2,rfl,h2⟩:=zae_ h1
 obtain ⟨uc,t3,rfl,h3⟩:=zae_ h2
 cases List.length_eq_zero_iff.mp h3
 exact h kV doc pm an ar ct ua ub uc
theorem Fun.binds4 {x qual:Str}{st:Stmt}{f:Addr}{fd:FuncData}{ps:List Str}(hp:ps.length=4)(F:Fun K x qual st f fd)(h:∀ (kV doc pm:Value) (an:Option Addr) (ar ct:Value) (ua ub uc ud:Value),bindArgs (W.fnOf x qual (defArgs st) (defBody st) (defScope st) .none kV doc pm an ar ct) ⟨[ua,ub,uc,ud],[]⟩=pure (ps.zip [ua,ub,uc,ud])):Binds K fd ps []:=by
 refine F.binds fun kV doc pm an ar ct us hl=>?_
 have h0:=hl.trans hp
 obtain ⟨ua,t1,rfl,h1⟩:=zae_ h0
 obtain ⟨ub,t2,rfl,h2⟩:=zae_ h1
 obtain ⟨uc,t3,rfl,h3⟩:=zae_ h2
 obtain ⟨ud,t4,rfl,h4⟩:=zae_ h3
 cases List.length_eq_zero_iff.mp h4
 exact h kV doc pm an ar ct ua ub uc ud
theorem Fun.binds5 {x qual:Str}{st:Stmt}{f:Addr}{fd:FuncData}{ps:List Str}(hp:ps.length=5)(F:Fun K x qual st f fd)(h:∀ (kV doc pm:Value) (an:Option Addr) (ar ct:Value) (ua ub uc ud ue:Value),bindArgs (W.fnOf x qual (defArgs st) (defBody st) (defScope st) .none kV doc pm an ar ct) ⟨[ua,ub,uc,ud,ue],[]⟩=pure (ps.zip [ua,ub,uc,ud,ue])):Binds K fd ps []:=by
 refine F.binds fun kV doc pm an ar ct us hl=>?_
 have h0:=hl.trans hp
 obtain ⟨ua,t1,rfl,h1⟩:=zae_ h0
 obtain ⟨ub,t2,rfl,h2⟩:=zae_ h1
 obtain ⟨uc,t3,rfl,h3⟩:=zae_ h2
 obtain ⟨ud,t4,rfl,h4⟩:=zae_ h3
 obtain ⟨ue,t5,rfl,h5⟩:=zae_ h4
 cases List.length_eq_zero_iff.mp h5
 exact h kV doc pm an ar ct ua ub uc ud ue
theorem zj5_ {P:Ps γ}{P':Ps δ}{O1:Own α}{ad:γ->α->δ}{x:γ}{w:V}{k:δ->Mo (Out ρ B S)}(hi:L[i]?=some (.ow (owAt w (owI C ns P)) x))(hf:f∉ns)(gw:ns.length<900)(pp:PsAdd P O1 P' ad)(hO:ImmO O1)(he:EvO K e E L r O1)(hk:∀ x',EvS K u E (L.set i (.ow (owAt w (owI C (ns++[f]) P')) x')) (k x') LS LB Or):
  EvS K (tSeq (mSFld C (mVar i) e f) u) E L (r.bind fun a=>(Mo.ok (ad x a)).bind k) LS LB Or:=by
 intro F0 H0 σ F h H D hL ok fin
 refine he σ (un F h) H _ (hL.froz ok.2.1) ok.thaw (zW_ (G:=F) ok _ (.inl rfl) fin fun a F' H' bh x1 v hn fresh dj eZ hv=>?_)
 obtain ⟨o,hs,ht⟩:=ok.back x1
 rw [bh] at fin
 obtain ⟨v0,k0,e1,⟨ew,p,dx,vs,m,rfl,cb,jn,hl,ps⟩,kH,kh,_,g⟩:=zhe_ (hL.mono hs) hi o
 have ck:H' p=some (.ins C dx (ns.zip vs)):=kH _ _ (jn.l _ _ zhu_)
 refine zcl_ e1 ⟨dx,_,ck,by rw [List.length_zip]; lia,?_⟩
 rw [zgD_ v hf hl]
 have fr:∀ q,hn q≠none->less F' h q=none/\h q=none/\H0 q=none:=fun q z=>⟨by
  rcases dj q with y | y
  ·exact z1_.free y
  ·exact absurd y z,ok.2.2.1.free (fresh q z),ok.1.2.2.1.free (fresh q z)⟩
 have dn:Dj hn m:=fun q=>by
  by_cases z:hn q=none
  ·exact .inl z
  ·exact .inr (jn.r.free (kh.free (fr q z).2.1))
 obtain ⟨j',PC⟩:=zhD_ (o':=.ins C dx ((ns++[f]).zip (vs++[v]))) (hn:=hn) o kh cb jn (Same.refl m) fr eZ dn
 obtain ⟨h',a1,a2⟩:=g (owAt w (owI C (ns++[f]) P')) (ad x a) (.ref p) _ _ _ PC ⟨ew,p,dx,vs++[v],un hn m,rfl,cb,j',by rw [List.length_append,List.length_append,hl]; rfl,pp ps a v hn _ _ (Same.refl _) (hO ht hv) (zcv_ dn)⟩
 rw [zaY_ e1] at a1
 exact hk _ F0 H0 σ _ h' _ D a1 a2 fin
end
section
variable {K:Fgg}{E:XK}{α β γ ρ aX S B:Type}{F0 H0 F h H:Hp}{L:List Sl}{e te tc:TE}{ta:TA}{T:Ty α}{r:Mo α}{Or:Own ρ}{aU:Own aX}{t u:TS}{LS:S->List Sl}{LB:B->List Sl}{σ:St}{C:Addr}{ns:List Str}{f m:Str}{i j:Nat}
def EvN (K:Fgg)(e:TE)(E:XK)(L:List Sl)(r:Mo α)(T:Ty α):Prop:=
 ∀ σ F H (Q:VK),HoldF L σ F->Same F H->After K r E F H (fun a G H'=>∀ v,(∀ h,Same h F->(∀ p xs,h p≠some (.tup xs))->T.R a v (less G h))->Q v H')->e σ H Q
def EvAN (K:Fgg)(t:TA)(E:XK)(L:List Sl)(r:Mo γ)(C:Cs γ):Prop:=
 ∀ σ F H (Q:List V->Hp->Prop),HoldF L σ F->Same F H->After K r E F H (fun c G H'=>∀ vs,(∀ h,Same h F->(∀ p xs,h p≠some (.tup xs))->C.R c vs (less G h))->Q vs H')->t σ H Q
theorem zlm_ {G:Hp}(s:Same h G)(nt:∀ p xs,h p≠some (.tup xs)):Tups G (less G h):=fun p xs z=>by
 cases y:h p with
 | none=>rw [zr_ y]; exact z
 | some o=>have:=s _ _ y; rw [z] at this; cases this; exact absurd y (nt p xs)
theorem zmj_ (hT:Imm T)(he:EvF K e E L r T):EvN K e E L r T:=by
 intro σ F H Q hL hs q
 exact he σ F H Q hL hs (q.imp fun a G H' x k v hv=>k v fun h sh nt=>hT (zlm_ (sh.trans x.1) nt) hv)
theorem zjJ_ (h:EvN K e E L r T):EvAN K (tCons e tNil) E L r (csLast T):=by
 intro σ F H Q hL hs q
 exact h σ F H _ hL hs (q.imp fun a G H' x k v hv=>k [v] fun h sh nt=>⟨v,rfl,hv h sh nt⟩)
theorem zh6_ {O:Own α}{P:Ps β}{r0:Mo (β×(β->α))}{Q:Cs γ}{ta:TA}{ra:Mo γ}{g:β->γ->Mo (aX×β)}{aU:Own aX}(dR:m∉ns)(hI:ImmO (owI C ns P))(hR:ImmO aU)(hp:EvPw K te E L i O (owI C ns P) r0)(ha:EvAN K ta E L ra Q):
  EvM K (tMeth C m (CtM K (owI C ns P) (owI C ns P) Q g aU) [] E0 te ta) E L i O aU (r0.bind fun yp=>ra.bind fun c=>(g yp.1 c).noex.bind fun q=>.ok (q.1,yp.2 q.2)):=by
 intro F0 H0 σ F h H R hL ok fin
 show te σ H fun x H1=>∃ a dx fs,x=.ref a/\H1 a=some (.ins C dx fs)/\fs.lookup m=none/\ta σ H1 fun vs H2=>CtM K (owI C ns P) (owI C ns P) Q g aU (x::(vs++[])) H2 R E0
 refine hp F0 H0 σ F h H _ hL ok (zlL_ ok fin fun yp G1 H1 dQ x1 uu il hh=>?_)
 obtain ⟨o1,hs1,_⟩:=ok.back x1
 rw [dQ] at fin
 have hi:(L.set i (.ow (owPn uu (owI C ns P) yp.2 O) yp.1))[i]?=some (.ow (owPn uu (owI C ns P) yp.2 O) yp.1):=by rw [List.getElem?_set_self (by exact il)]
 obtain ⟨_,_,_,_,j0,⟨_,_,ka0,nL,jk0,⟨p,dx,vs0,m0,rfl,cb,jn,hl,ps⟩,_⟩,_⟩:=hh.at i hi
 refine ⟨p,dx,_,rfl,o1.2.2.1 _ _ (j0.l _ _ (jk0.l _ _ (jn.l _ _ zhu_))),z0_ dR,?_⟩
 refine ha σ (un (less G1 h) h) H1 _ ((hL.mono hs1).froz o1.2.1) o1.thaw (zlL_ o1 fin fun c G2 H2 bh x2 vs bD=>?_)
 obtain ⟨o2,bP,ht2⟩:=o1.back x2
 rw [bh] at fin
 rw [List.append_nil]
 obtain ⟨_,k,aH,e1,j,⟨v0,rfl,ka,kb,jk,hO,wand⟩,f⟩:=(hh.mono bP).atM i hi
 have di:Same ka h:=jk.l.trans j.l
 have eQ:Same (un (less G2 h) (less h ka)) H2:=fun q o z=>by
  unfold un at z
  cases y:less G2 h q with
  | some s=>rw [y] at z; rw [<- z]; exact o2.1.2.1 _ _ y
  | none=>rw [y] at z; exact o2.2.2.1 _ _ (z1_ _ _ z)
 have e7:Dj (un (less G2 h) (less h ka)) ka:=fun q=>by
  by_cases z:ka q=none
  ·exact .inr z
  ·left
   unfold un
   have:less G2 h q=none:=zA_ q fun y=>z (di.free y)
   rw [this]; exact zA_ q z
 refine ⟨un (less G2 h) (less h ka),ka,yp.1,c,.ref p,vs,rfl,eQ,e7,di.trans o2.2.2.1,(owI C ns P).mono zO_ hO,Q.mono zO_ (bD h (zg6_ o1.2.1) o1.2.2.2.2),?_⟩
 have fin:FinM K ((g yp.1 c).noex.bind fun q=>.ok (q.1,yp.2 q.2)) E F0 H0 _:=fin
 cases e:g yp.1 c with
 | no=>rw [e] at fin; exact fin
 | ex cc=>rw [e] at fin; exact fin.elim
 | ok q =>
  rw [e] at fin
  rintro F' h' H' aE v ⟨hr,aO,j',hRes,hO2⟩
  obtain ⟨ff,tp,d1,d2,d3,okk⟩:=zhm_ o2 j jk aE j'
  have hold:=f (less F' (less h ka)) (.ow O (yp.2 q.2)) (some v0) (un aO kb) _ ff (zcv_ d2) ⟨v0,rfl,wand q.2 aO _ _ ff (hI tp hO2) (zcv_ d1)⟩
  rw [zaY_ e1,List.set_set] at hold
  exact fin _ _ H' okk v _ hr (zcv_ d3) hold (hR tp hRes)
theorem zmz_ {O:Own α}{r:Mo (aX×α)}{k:aX×α->Mo (Out ρ B S)}(hm:EvM K tc E L i O aU r)(hk:∀ q,EvS K u E (L.set i (.ow O q.2)) (k q) LS LB Or):EvS K (tSeq (tDrop tc) u) E L (r.bind k) LS LB Or:=by
 intro F0 H0 σ F h H D hL ok fin
 show tc σ H fun _ H3=>u D σ H3
 refine hm F0 H0 σ F h H _ hL ok (zhU_ fin fun q F' h' H' hr o v h1 h2 j hold res=>?_)
 rw [hr] at fin
 exact hk q F0 H0 σ F' h1 H' D hold (zeb_ o j.l) fin
end
section
variable {κ:Type}[DecidableEq κ]
end
section
variable {K:Fgg}{E:XK}{α γ ρ aX S B:Type}{F0 H0 F h H:Hp}{L:List Sl}{e te te2 tc:TE}{T:Ty α}{r:Mo α}{aU:Own aX}{t:TS}{LS:S->List Sl}{LB:B->List Sl}{σ:St}{C:Addr}{ns:List Str}{m:Str}{i w j:Nat}
theorem zaT_ {Q:Cs γ}{r0:Mo γ}{g:γ->Mo α}{O:Own α}(dR:m∉ns)(he:EvF K te E L r0 (tyI C ns Q)):
  EvO K (tMeth C m (Ct K (csLast (tyI C ns Q)) g O) [] E0 te tNil) E L (r0.bind fun x=>(g x).noex) O:=by
 intro σ F H R hL hs q
 refine he σ F H _ hL hs (q.bind.imp fun x F1 H1 x1 k1 v hv=>?_)
 obtain ⟨p,dx,vs,rfl,hp,hl,hc⟩:=id hv
 refine ⟨p,dx,_,rfl,x1.2.1 _ _ hp,z0_ dR,?_⟩
 exact ⟨F1,x,x1.2.1,⟨_,rfl,hv⟩,k1.noex.imp fun a F3 H3 x3 k3 w h fresh d s o=>k3 w h (fun p z=>x1.2.2.1.free (fresh p z)) d s o⟩
theorem zdU_ {s:Sl}{o:Option V}(hl:L.length=σ.length)(h:HoldF L σ F)(hs:s.Z o F):HoldF (L++[s]) (σ++[o]) F:=by
 intro j t e
 by_cases hj:j<L.length
 ·rw [List.getElem?_append_left hj] at e
  rw [List.getElem?_append_left (by lia)]
  exact h j t e
 ·rw [List.getElem?_append_right (by lia)] at e
  rw [List.getElem?_append_right (by lia)]
  have nU:j-L.length=0:=by
   by_cases z:j-L.length=0
   ·exact z
   ·rw [List.getElem?_eq_none (by simp; lia)] at e; cases e
  rw [nU] at e
  cases e
  rw [<- hl,nU]
  exact hs
theorem zrj_ {O:Own α}{T:Ty ρ}{r:Mo (aX×α)}{k:aX×α->Mo ρ}(hT:Imm T)(hm:EvM K tc E L i O aU r)(hk:∀ q,EvF K te2 E ((L.set i (.ow O q.2))++[.fz aU.fr q.1]) (k q) T)
  (i0:∀ (σ:St),σ.length=L.length->∀ (H:Hp) (Q:VK),(tc σ H fun v H1=>te2 (σ++[some v]) H1 Q)->te σ H Q):EvS K (tRet te) E L (r.bind fun q=>(k q).bind fun a=>.ok (.rt a)) LS LB (owF T):=by
 intro F0 H0 σ F h H D hL ok fin
 show te σ H D.rt
 refine i0 σ hL.len.symm H D.rt (hm F0 H0 σ F h H _ hL ok (zhU_ fin fun q F' h' H' hr o v h1 h2 j hold res=>?_))
 rw [hr] at fin
 have o2:Okk F0 H0 (un F' h2) h1 H':=zjs_ (zeb_ o j.l) (fun p z=>⟨o.2.2.2.1 p fun y=>z (j.r.free y),by
  rcases j.dj p with y | y
  ·exact y
  ·exact absurd y z⟩) (j.r.trans o.2.2.1)
 have d2:Dj F' h2:=fun p=>by
  rcases o.2.1 p with z | z
  ·exact .inl z
  ·exact .inr (j.r.free z)
 have fin:Fin K ((k q).bind fun a=>.ok (.rt a)) E LS LB (owF T) F0 H0 D:=fin
 have hv:aU.fr.R q.1 v (un (un F' h2) h1):=aU.fr.mono zO_ (aU.frz d2 res)
 refine hk q _ (un (un F' h2) h1) H' _ (zdU_ (by rw [hold.len]) ((hold.mono zO_).froz o2.2.1) ⟨v,rfl,hv⟩) o2.thaw (zW_ (G:=F') o2 _ (.inl rfl) fin fun a G2 H2 bh x2 w hw=>?_)
 obtain ⟨o3,_,ht⟩:=o2.back x2
 rw [bh] at fin
 exact fin w _ (fun _=>none) H2 ⟨o3.1,fun p=>.inr rfl,(fun p o z=>by cases z),fun p z=>absurd rfl z,fun p xs z=>by cases z⟩ ⟨fun _=>rfl,hT ht hw⟩
end
theorem atF {K:Fgg}{E:XK}{α:Type}{e:TE}{r:Mo α}{T:Ty α}(L:List Sl)(h:EvF K e E L r T):EvF K e E L r T:=h
section
end
section
variable {κ:Type}[DecidableEq κ]
end
section
end
abbrev hpE:Hp:=fun _=>none
section
end
section
variable {κ:Type}
variable [DecidableEq κ]
end
section
variable {κ:Type}[DecidableEq κ]
end
section
variable {K:Fgg}{E E0:XK}{α β γ ρ aX:Type}{F0 H0 F h H:Hp}{L:List Sl}{Or:Own ρ}{t:TS}{e:TE}{i j n:Nat}{σ:St}
def putL.{uu}{α:Type uu}:Nat->α->List α->List α
 | 0,x,l=>x::l
 | n+1,x,y::l=>y::putL n x l
 | _+1,x,[]=>[x]
theorem putL_len.{uu}{α:Type uu}(x:α):∀ (n:Nat) (l:List α),(putL n x l).length=l.length+1
 | 0,l=>rfl
 | n+1,y::l=>by show (putL n x l).length+1=_; rw [putL_len x n l]; rfl
 | n+1,[]=>rfl
theorem zjw_ {α β:Type}(f:α->β)(x:α):∀ (n:Nat) (l:List α),(putL n x l).map f=putL n (f x) (l.map f)
 | 0,l=>rfl
 | n+1,y::l=>by show f y::(putL n x l).map f=f y::putL n (f x) (l.map f); rw [zjw_ f x n l]
 | n+1,[]=>rfl
theorem zka_ {α:Type}(x:α):∀ (n:Nat) (l l':List α),n<=l.length->putL n x l++l'=putL n x (l++l')
 | 0,l,l',_=>rfl
 | n+1,y::l,l',h=>by show y::(putL n x l++l')=y::putL n x (l++l'); rw [zka_ x n l l' (Nat.le_of_succ_le_succ h)]
 | n+1,[],l',h=>by cases h
def CtMk (K:Fgg)(n:Nat)(O:Own α)(O2:Own β)(Q:Cs γ)(g:α->γ->Mo (ρ×β))(Or:Own ρ):Sp:=fun vs H R E=>∃ F h x c w ws,vs=putL n w ws/\Same F H/\Dj F h/\Same h H/\O.O x w F h/\Q.R c ws F /\
 FinM K (g x c) E F (less H h) fun r F' h' H'=>∀ v,(owRM w O2 Or).O r v F' h'->R v H'
theorem znK_ {h1 h2:Hp}(j:Jn h1 h2 hpE):h1=hpE/\h2=hpE:=by
 refine ⟨funext fun p=>?_,funext fun p=>?_⟩
 ·rcases j p with ⟨a,_⟩ | ⟨_,b⟩
  ·exact a
  ·exact b.symm
 ·rcases j p with ⟨_,b⟩ | ⟨a,_⟩
  ·exact b.symm
  ·exact a
theorem zkl_ {s:Sl}{o:Option V}(hp:s.P o F h):∀ (n:Nat) {L:List Sl}{σ:St},Hold L σ F hpE->Hold (putL n s L) (putL n o σ) F h
 | 0,L,σ,q=>⟨h,hpE,fun _=>.inr ⟨rfl,rfl⟩,hp,q⟩
 | n+1,[],[],q=>⟨h,hpE,fun _=>.inr ⟨rfl,rfl⟩,hp,q⟩
 | n+1,s'::L,o'::σ,⟨h1,h2,jj,p,r⟩=>by
  obtain ⟨e1,e2⟩:=znK_ jj
  subst e1; subst e2
  exact ⟨hpE,h,fun _=>.inl ⟨rfl,rfl⟩,p,zkl_ hp n r⟩
 | n+1,[],_::_,q=>q.elim
 | n+1,_::_,[],q=>q.elim
theorem zn6_ {t:XK->TS}{O:Own α}{O2:Own β}{Q:Cs γ}{ss:γ->List Sl}{g:α->γ->Mo (Out (ρ×β) Unit Unit)}{N:List Str}(k n m:Nat)(hk:k<=n)(hn:CsN Q n)(hm:N.length-(n+1)=m)(hC:CsS Q ss)
  (hb:∀ w x c E,EvS K (t E) E (putL k (.ow (owAt w O) x) (ss c++List.replicate m .dead)) (g x c) (fun _:Unit=>[]) (fun _:Unit=>[]) (owRM w O2 Or)):
  ∀ vs H R E,CtMk K k O O2 Q (fun x c=>fnMR (g x c)) Or vs H R E->t E { nx:=fun _ H'=>R .non H',rt:=R } (start N vs) H:=by
 rintro vs H R E ⟨F,h,x,c,w,ws,rfl,hs,dj,hh,hO,hc,q⟩
 have aZ:start N (putL k w ws)=putL k (some w) (ws.map some++List.replicate m none):=by
  unfold start
  rw [putL_len,hn hc,hm,zjw_,zka_ _ _ _ _ (by rw [List.length_map,hn hc]; exact hk)]
 rw [aZ]
 refine hb w x c E F (less H h) _ F h H _ (zkl_ (s:=.ow (owAt w O) x) ⟨w,rfl,rfl,hO⟩ k ((hC hc).hold m)) (zdZ_ hs dj hh (O.notup hO)) ?_
 cases e:g x c with
 | no=>simp only [fnMR,e] at q; exact q
 | ex cc=>simp only [fnMR,e] at q; exact q
 | ok o =>
  simp only [fnMR,e] at q
  cases o with
  | nx s=>exact q.elim
  | bk s=>exact q.elim
  | ct s=>exact q.elim
  | rt a=>exact fun v F' h' H' ok hv=>q F' h' H' ok v hv
inductive TaIn (i:Nat):Nat->TA->TA->Prop
 | zero {ta:TA}:TaIn i 0 ta (tCons (mVar i) ta)
 | succ {n:Nat}{e:TE}{ta fu:TA}(h:TaIn i n ta fu):TaIn i (n+1) (tCons e ta) (tCons e fu)
theorem zpD_ {w:V}(e:σ[i]?=some (some w))(H:Hp)(Q:VK):mVar i σ H Q=Q w H:=by unfold mVar; rw [e]
theorem TaIn.eq {ta fu:TA}{w:V}(h:TaIn i n ta fu)(e:σ[i]?=some (some w)):∀ (H:Hp) (Q:List V->Hp->Prop),fu σ H Q=ta σ H fun vs H1=>Q (putL n w vs) H1:=by
 induction h with
 | zero=>intro H Q; exact zpD_ e H _
 | succ _ ih =>
  intro H Q
  unfold tCons
  congr 1
  funext x H1
  exact ih H1 _
theorem zmc_ (d:Dj F h):less F h=F:=funext fun p=>by
 cases y:h p with
 | none=>exact zr_ y
 | some w =>
  rw [zA_ p (by rw [y]; exact sN _)]
  rcases d p with z | z
  ·exact z.symm
  ·rw [y] at z; cases z
theorem zm5_ {O':Own β}{x:β}{Q:Cs γ}{ta fu:TA}{ra:Mo γ}{g:β->γ->Mo (aX×β)}{aU:Own aX}(hi:L[i]?=some (.ow O' x))(hI:ImmO O')(hR:ImmO aU)(ht:TaIn i n ta fu)(ha:EvA K ta E (L.map Sl.cold) ra Q):
  EvM K (tCall (CtMk K n O' O' Q g aU) [] E0 fu) E L i O' aU (ra.bind fun c=>(g x c).noex.bind fun q=>.ok (q.1,q.2)):=by
 intro F0 H0 σ F h H R hL ok fin
 obtain ⟨_,_,_,e0,_,⟨v0,rfl,_⟩,_⟩:=hL.at i hi
 show fu σ H fun vs H1=>CtMk K n O' O' Q g aU (vs++[]) H1 R E0
 rw [ht.eq e0]
 have mY:∀ {kk:γ->Hp->Hp->Prop},(∀ c F' H',ra=.ok c->Ext F H F' H'->kk c F' H')->After K ra E F H kk:=fun {kk} hk=>by
  cases e:ra with
  | ok c=>exact fun F' H' x=>hk c F' H' e x
  | no=>rw [e] at fin; exact fin
  | ex cc=>rw [e] at fin; exact fun F' H' x=>(fin _ _ _ (ok.cold x)).up ok.1.2.2.1
 refine ha σ F H _ hL.coldF ok.1.2.1 (mY fun c F2 H2 bh x2 vs bD=>?_)
 rw [bh] at fin
 have o2:=ok.cold x2
 rw [List.append_nil]
 obtain ⟨_,k,aH,e1,j,⟨v1,e2,hO⟩,f⟩:=(hL.mono x2.1).atM i hi
 rw [e0] at e1
 cases e1
 cases e2
 have di:Same k h:=j.l
 have eQ:Same (un F2 (less h k)) H2:=fun q o z=>by
  unfold un at z
  cases y:F2 q with
  | some s=>rw [y] at z; rw [<- z]; exact o2.1.2.1 _ _ y
  | none=>rw [y] at z; exact o2.2.2.1 _ _ (z1_ _ _ z)
 have e7:Dj (un F2 (less h k)) k:=fun q=>by
  by_cases z:k q=none
  ·exact .inr z
  ·left
   unfold un
   have:F2 q=none:=by
    rcases o2.2.1 q with y | y
    ·exact y
    ·exact absurd (di.free y) z
   rw [this]; exact zA_ q z
 refine ⟨un F2 (less h k),k,x,c,v0,vs,rfl,eQ,e7,di.trans o2.2.2.1,O'.mono zO_ hO,Q.mono zO_ bD,?_⟩
 have fin:FinM K ((g x c).noex.bind fun q=>.ok (q.1,q.2)) E F0 H0 _:=fin
 cases e:g x c with
 | no=>rw [e] at fin; exact fin
 | ex cc=>rw [e] at fin; exact fin.elim
 | ok q =>
  rw [e] at fin
  rintro F' h' H' aE v ⟨hr,aO,j',hRes,hO2⟩
  have el:=zmc_ o2.2.1
  have jk:Jn k hpE k:=fun _=>.inr ⟨rfl,rfl⟩
  obtain ⟨ff,tp,d1,d2,d3,okk⟩:=zhm_ (G2:=F2) (by rw [el]; exact o2) j jk (by rw [el]; exact aE) j'
  rw [el] at ff
  have eh:un aO hpE=aO:=zqh_ (zcv_ d1) fun _=>rfl
  have hold:=f (less F' (less h k)) (.ow O' q.2) (some v0) (un aO hpE) _ ff (zcv_ d2) ⟨v0,rfl,by rw [eh]; exact hI tp hO2⟩
  rw [zaY_ e0] at hold
  exact fin _ _ H' okk v _ hr (zcv_ d3) hold (hR tp hRes)
theorem zn7_ {aU:Own aX}{a:aX}{v:V}{F' h' h1 h2 H':Hp}(o:Okk F0 H0 F' h' H')(j:Jn h1 h2 h')(res:aU.O a v F' h2):Okk F0 H0 (un F' h2) h1 H'/\aU.fr.R a v (un F' h2):=by
 refine ⟨zjs_ (zeb_ o j.l) (fun p z=>⟨o.2.2.2.1 p fun y=>z (j.r.free y),?_⟩) (j.r.trans o.2.2.1),aU.frz (fun p=>?_) res⟩
 ·rcases j.dj p with y | y
  ·exact y
  ·exact absurd y z
 ·rcases o.2.1 p with z | z
  ·exact .inl z
  ·exact .inr (j.r.free z)
end
def Fi (K:Fgg)(x q:Str)(st:Stmt)(f:Addr):Prop:=∃ (oc:Value) (od:Option Addr) (kV doc pm:Value) (an:Option Addr) (ar ct:Value) (bL:Array (Option Value)),
 K.lookup f=some ⟨oc,od,.func (W.fnOf x q (defArgs st) (defBody st) (defScope st) .none kV doc pm an ar ct),bL⟩/\W.codeIn K ar q=true/\W.keepIn K (.ref f)=true
def Fg (K:Fgg)(x:Str)(st:Stmt):Prop:=∃ f,W.nsIn K mainGlobals x=some (some (.ref f))/\Fi K x x st f
def Fm (K:Fgg)(c m q:Str)(st:Stmt):Prop:=∃ cw f,W.nsIn K mainGlobals c=some (some (.ref cw))/\W.findIn K (.ref cw) m=some (some (.ref f))/\W.isFn K (.ref f)=true/\Fi K m q st f
def Fc (K:Fgg)(c:Str):Prop:=∃ cw,W.nsIn K mainGlobals c=some (some (.ref cw))/\W.plainGet K cw Str.empty=true/\W.hasDictIn K cw=true/\W.plainOver K cw=true /\
 W.findIn K (.ref cw) "__setattr__"=some (some (.builtin "object.__setattr__"))/\W.makesIn K cw=true/\W.keepIn K (.ref cw)=true
def Fa (K:Fgg)(c a:Str):Prop:=∃ cw,W.nsIn K mainGlobals c=some (some (.ref cw))/\W.findIn K (.ref cw) a=some none
def Fb (K:Fgg)(x:Str):Prop:=W.nsIn K mainGlobals x=some none
def Fv (K:Fgg)(x:Str)(v:V):Prop:=∃ u,W.nsIn K mainGlobals x=some (some u)/\RelV v u
def Fk (K:Fgg)(x:Str):Prop:=∃ c,W.nsIn K mainGlobals x=some (some (.ref c))
def Mgo (K:Fgg)(mg:Str->Option Value):Prop:=∃ h:Heap,K.In h/\h.Ns mainGlobals mg
section
variable {P:Program}{w:World}{K:Fgg}{mg:Str->Option Value}{base:Heap}{CX:CXT}{x q c m a:Str}{st:Stmt}{f:Addr}{fd:FuncData}{ps:List Str}{k j:Nat}{sp:Sp}{A:Around}{v:V}
theorem Fg.mk_ {oc:Value}{od:Option Addr}{kV doc pm:Value}{an:Option Addr}{ar ct:Value}{bL:Array (Option Value)}(h:W.nsIn K mainGlobals x=some (some (.ref f)))(l:K.lookup f=some ⟨oc,od,.func (W.fnOf x x (defArgs st) (defBody st) (defScope st) .none kV doc pm an ar ct),bL⟩)(c:W.codeIn K ar x=true)(k:W.keepIn K (.ref f)=true):Fg K x st:=⟨f,h,oc,od,kV,doc,pm,an,ar,ct,bL,l,c,k⟩
theorem Fm.mk_ {cw:Addr}{oc:Value}{od:Option Addr}{kV doc pm:Value}{an:Option Addr}{ar ct:Value}{bL:Array (Option Value)}(h:W.nsIn K mainGlobals c=some (some (.ref cw)))(h1:W.findIn K (.ref cw) m=some (some (.ref f)))(h2:W.isFn K (.ref f)=true)(l:K.lookup f=some ⟨oc,od,.func (W.fnOf m q (defArgs st) (defBody st) (defScope st) .none kV doc pm an ar ct),bL⟩)(h3:W.codeIn K ar q=true)(k:W.keepIn K (.ref f)=true):Fm K c m q st:=⟨cw,f,h,h1,h2,oc,od,kV,doc,pm,an,ar,ct,bL,l,h3,k⟩
theorem Fc.mk_ {cw:Addr}(h:W.nsIn K mainGlobals c=some (some (.ref cw)))(h1:W.plainGet K cw Str.empty=true)(h2:W.hasDictIn K cw=true)(h3:W.plainOver K cw=true)(h4:W.findIn K (.ref cw) "__setattr__"=some (some (.builtin "object.__setattr__")))(h5:W.makesIn K cw=true)(h6:W.keepIn K (.ref cw)=true):Fc K c:=⟨cw,h,h1,h2,h3,h4,h5,h6⟩
theorem Fa.mk_ {cw:Addr}(h:W.nsIn K mainGlobals c=some (some (.ref cw)))(h1:W.findIn K (.ref cw) a=some none):Fa K c a:=⟨cw,h,h1⟩
theorem Fv.mk_ {u:Value}(h:W.nsIn K mainGlobals x=some (some u))(h1:RelV v u):Fv K x v:=⟨u,h,h1⟩
theorem Fk.mk_ {cw:Addr}(h:W.nsIn K mainGlobals x=some (some (.ref cw))):Fk K x:=⟨cw,h⟩
theorem Fi.fun_ (h:Fi K x q st f):∃ fd,Fun K x q st f fd:=by
 obtain ⟨oc,od,kV,doc,pm,an,ar,ct,bL,l,c,k⟩:=h
 exact ⟨_,zoq_ l c k⟩
theorem Mgo.gb (M:Mgo K mg)(h:Fb K x):Gb mg x:=by
 obtain ⟨_,X,G⟩:=M
 exact W.mg_none_of X G h
theorem Mgo.gv (M:Mgo K mg)(h:Fv K x v):Gc mg x v:=by
 obtain ⟨_,X,G⟩:=M; obtain ⟨u,e,r⟩:=h
 exact ⟨u,W.mg_of X G e,r⟩
theorem Mgo.gk (M:Mgo K mg)(h:Fk K x):mg x=some (.ref (gA K x)):=by
 obtain ⟨_,X,G⟩:=M; obtain ⟨u,e⟩:=h
 rw [zkT_ e]; exact W.mg_of X G e
theorem Mgo.gkc (M:Mgo K mg)(h:Fk K x):Gc mg x (.ref (gA K x)):=⟨_,M.gk h,rfl⟩
theorem Fc.cls (h:Fc K c):Cls K (gA K c):=by
 obtain ⟨cw,e,h1,h2,h3,h4,_⟩:=h
 rw [zkT_ e]; exact ⟨h1,h2,h3,h4⟩
theorem Fa.no (h:Fa K c a):NoAttr K (gA K c) a:=by
 obtain ⟨cw,e,h⟩:=h
 rw [zkT_ e]; exact h
abbrev OkF (P:Program)(w:World)(K:Fgg)(mg:Str->Option Value)(base:Heap)(CX:CXT)(k:Nat)(x q:Str)(st:Stmt)(ps:List Str)(sp:Sp):Prop:=∀ f fd,Fun K x q st f fd->FnOk P w K mg base CX k f fd ps sp/\Binds K fd ps []
theorem zc4_ (M:Mgo K mg)(F:Fg K x st)(h:OkF P w K mg base CX k x x st ps sp):Gd P w K mg base CX k x ps sp:=by
 obtain ⟨_,X,G⟩:=M; obtain ⟨f,e,i⟩:=F; obtain ⟨fd,F⟩:=i.fun_
 exact ⟨f,fd,(h f fd F).1,W.mg_of X G e,F.kp,(h f fd F).2⟩
theorem zkz_ (C:Fc K c)(F:Fm K c m q st)(h:OkF P w K mg base CX k m q st ps sp):Gm P w K mg base CX k (gA K c) m ps sp:=by
 obtain ⟨cw,f,e,e2,e3,i⟩:=F; obtain ⟨fd,F⟩:=i.fun_
 exact ⟨f,fd,(h f fd F).1,C.cls,by rw [zkT_ e]; exact ⟨e2,e3,F.kp⟩,(h f fd F).2⟩
theorem gk_of (M:Mgo K mg)(C:Fc K c)(F:Fm K c "__init__" q st)(h:OkF P w K mg base CX k "__init__" q st ps sp):Gk P w K mg base CX k c (gA K c) ps sp:=by
 obtain ⟨cw,f,e,e2,e3,i⟩:=F; obtain ⟨fd,F⟩:=i.fun_
 obtain ⟨sj,e',_,_,_,_,h5,h6⟩:=C
 cases e.symm.trans e'
 refine ⟨f,fd,(h f fd F).1,by rw [zkT_ e]; exact ⟨h5,e2,e3,h6⟩,M.gk ⟨_,e⟩,(h f fd F).2⟩
theorem gn_of (M:Mgo K mg)(F:Fg K x st)(h:∀ f fd,Fun K x x st f fd->FnOkN P w K mg base k f fd ps sp/\Binds K fd ps []):GdN P w K mg base k x ps sp:=by
 obtain ⟨_,X,G⟩:=M; obtain ⟨f,e,i⟩:=F; obtain ⟨fd,F⟩:=i.fun_
 exact ⟨f,fd,(h f fd F).1,W.mg_of X G e,F.kp,(h f fd F).2⟩
theorem hm (hr:Room k A)(h:j<=k:=by decide):Room j A:=hr.mono h
theorem hmN (hr:RoomN k A)(h:j<=k:=by decide):RoomN j A:=hr.mono h
end
section
variable {P:Program}{w:World}{K:Fgg}{mg:Str->Option Value}{base:Heap}{x q:Str}{st:Stmt}{N ps:List Str}{k:Nat}{α β γ ρ:Type}
abbrev Tm (P:Program)(w:World)(K:Fgg)(mg:Str->Option Value)(base:Heap)(k:Nat)(N:List Str)(q:Str)(st:Stmt)(t:XK->TS):Prop:=
 ∀ (ar:Value) (A:Around) (outer:List Env) (s:Shared) (H:Hp) (f:Addr) (E:XK),N.Nodup->Room k (A.deeper (envOfC q (defScope st) s.heap.objs.size f ar))->PSs (cxOf CX0 P w K mg base N q (defScope st) f ar A outer s H E).nox (defBody st) (t E)
abbrev TmX (P:Program)(w:World)(K:Fgg)(mg:Str->Option Value)(base:Heap)(k:Nat)(N:List Str)(q:Str)(st:Stmt)(t:XK->TS):Prop:=
 ∀ (ar:Value) (A:Around) (outer:List Env) (s:Shared) (H:Hp) (f:Addr) (E:XK),N.Nodup->Room k (A.deeper (envOfC q (defScope st) s.heap.objs.size f ar))->PSs (cxOf (CXx P w) P w K mg base N q (defScope st) f ar A outer s H E) (defBody st) (t E)
abbrev TmN (P:Program)(w:World)(K:Fgg)(mg:Str->Option Value)(base:Heap)(k:Nat)(N:List Str)(q:Str)(st:Stmt)(t:XK->TS):Prop:=
 ∀ (ar:Value) (A:Around) (outer:List Env) (s:Shared) (H:Hp) (f:Addr) (E:XK),N.Nodup->RoomN k (A.deeper (envOfC q (defScope st) s.heap.objs.size f ar))->PSs (cxN P w K mg base N q (defScope st) f ar A outer s H) (defBody st) (t E)
abbrev Bnd (K:Fgg)(x q:Str)(st:Stmt)(ps:List Str):Prop:=∀ f fd,Fun K x q st f fd->Binds K fd ps []
theorem okC {C:Cs γ}{O:Own ρ}{ss:γ->List Sl}{g:γ->Mo (Out ρ Unit Unit)}{t:XK->TS}(n m:Nat)(hC:CsS C ss)(tm:Tm P w K mg base k N q st t)
  (ev:∀ c E,EvS K (t E) E (ss c++List.replicate m .dead) (g c) (fun _:Unit=>[]) (fun _:Unit=>[]) O) (hn:CsN C n:=by repeat first | exact zC_ | exact zcg_ | refine zv_ ?_) (S:FnScope N ps (defScope st):=by exact ⟨rfl,rfl,rfl,by decide +kernel,rfl,by decide +kernel,by decide +kernel⟩) (b:Bnd K x q st ps:=by first | exact fun _ _ F=>Fun.binds1 rfl F fun _ _ _ _ _ _ _=>rfl | exact fun _ _ F=>Fun.binds2 rfl F fun _ _ _ _ _ _ _ _=>rfl | exact fun _ _ F=>Fun.binds3 rfl F fun _ _ _ _ _ _ _ _ _=>rfl | exact fun _ _ F=>Fun.binds4 rfl F fun _ _ _ _ _ _ _ _ _ _=>rfl | exact fun _ _ F=>Fun.binds5 rfl F fun _ _ _ _ _ _ _ _ _ _ _=>rfl | exact fun _ _ F=>Fun.binds6 rfl F fun _ _ _ _ _ _ _ _ _ _ _ _=>rfl | exact fun _ _ F=>Fun.binds7 rfl F fun _ _ _ _ _ _ _ _ _ _ _ _ _=>rfl) (hp:ps.length=n:=by rfl) (hm:N.length-n=m:=by rfl):OkF P w K mg base CX0 (k+1) x q st ps (Ct K C (fun c=>fnO (g c)) O):=fun f fd F =>
 ⟨F.ok S (fun vs H Q E h=>by obtain ⟨F,c,_,hc,_⟩:=h; exact (hn hc).trans hp.symm) fun ar A outer s H vs Q E hr h=>⟨t E,tm ar A outer s H f E S.nd hr,zp2_ (N:=N) (t:=t) n m hn hm hC ev vs H Q E h⟩,b f fd F⟩
theorem okX {C:Cs γ}{O:Own ρ}{ss:γ->List Sl}{g:γ->Mo (Out ρ Unit Unit)}{t:XK->TS}(n m:Nat)(hC:CsS C ss)(tm:TmX P w K mg base k N q st t)
  (ev:∀ c E,EvS K (t E) E (ss c++List.replicate m .dead) (g c) (fun _:Unit=>[]) (fun _:Unit=>[]) O) (hn:CsN C n:=by repeat first | exact zC_ | exact zcg_ | refine zv_ ?_) (S:FnScope N ps (defScope st):=by exact ⟨rfl,rfl,rfl,by decide +kernel,rfl,by decide +kernel,by decide +kernel⟩) (b:Bnd K x q st ps:=by first | exact fun _ _ F=>Fun.binds1 rfl F fun _ _ _ _ _ _ _=>rfl | exact fun _ _ F=>Fun.binds2 rfl F fun _ _ _ _ _ _ _ _=>rfl | exact fun _ _ F=>Fun.binds3 rfl F fun _ _ _ _ _ _ _ _ _=>rfl | exact fun _ _ F=>Fun.binds4 rfl F fun _ _ _ _ _ _ _ _ _ _=>rfl | exact fun _ _ F=>Fun.binds5 rfl F fun _ _ _ _ _ _ _ _ _ _ _=>rfl | exact fun _ _ F=>Fun.binds6 rfl F fun _ _ _ _ _ _ _ _ _ _ _ _=>rfl | exact fun _ _ F=>Fun.binds7 rfl F fun _ _ _ _ _ _ _ _ _ _ _ _ _=>rfl) (hp:ps.length=n:=by rfl) (hm:N.length-n=m:=by rfl):OkF P w K mg base (CXx P w) (k+1) x q st ps (Ct K C (fun c=>fnO (g c)) O):=fun f fd F =>
 ⟨F.okX S (fun vs H Q E h=>by obtain ⟨F,c,_,hc,_⟩:=h; exact (hn hc).trans hp.symm) fun ar A outer s H vs Q E hr h=>⟨t E,tm ar A outer s H f E S.nd hr,zp2_ (N:=N) (t:=t) n m hn hm hC ev vs H Q E h⟩,b f fd F⟩
theorem okN {C:Cs γ}{O:Own ρ}{ss:γ->List Sl}{g:γ->Mo (Out ρ Unit Unit)}{t:XK->TS}(n m:Nat)(hC:CsS C ss)(tm:TmN P w K mg base k N q st t)
  (ev:∀ c E,EvS K (t E) E (ss c++List.replicate m .dead) (g c) (fun _:Unit=>[]) (fun _:Unit=>[]) O) (hn:CsN C n:=by repeat first | exact zC_ | exact zcg_ | refine zv_ ?_) (S:FnScope N ps (defScope st):=by exact ⟨rfl,rfl,rfl,by decide +kernel,rfl,by decide +kernel,by decide +kernel⟩) (b:Bnd K x q st ps:=by first | exact fun _ _ F=>Fun.binds1 rfl F fun _ _ _ _ _ _ _=>rfl | exact fun _ _ F=>Fun.binds2 rfl F fun _ _ _ _ _ _ _ _=>rfl | exact fun _ _ F=>Fun.binds3 rfl F fun _ _ _ _ _ _ _ _ _=>rfl | exact fun _ _ F=>Fun.binds4 rfl F fun _ _ _ _ _ _ _ _ _ _=>rfl | exact fun _ _ F=>Fun.binds5 rfl F fun _ _ _ _ _ _ _ _ _ _ _=>rfl | exact fun _ _ F=>Fun.binds6 rfl F fun _ _ _ _ _ _ _ _ _ _ _ _=>rfl | exact fun _ _ F=>Fun.binds7 rfl F fun _ _ _ _ _ _ _ _ _ _ _ _ _=>rfl) (hp:ps.length=n:=by rfl) (hm:N.length-n=m:=by rfl):∀ f fd,Fun K x q st f fd->FnOkN P w K mg base (k+1) f fd ps (Ct K C (fun c=>fnO (g c)) O)/\Binds K fd ps []:=fun f fd F =>
 ⟨F.okN S (fun vs H Q E h=>by obtain ⟨F,c,_,hc,_⟩:=h; exact (hn hc).trans hp.symm) fun ar A outer s H vs Q E hr h=>⟨t E,tm ar A outer s H f E S.nd hr,zp2_ (N:=N) (t:=t) n m hn hm hC ev vs H Q E h⟩,b f fd F⟩
theorem okU {O:Own α}{O2:Own β}{C:Cs γ}{ss:γ->List Sl}{g:α->γ->Mo (Out (Unit×β) Unit β)}{t:XK->TS}{LS:V->β->List Sl}(n m:Nat)(hC:CsS C ss)(tm:Tm P w K mg base k N q st t)
  (ev:∀ w x c E,EvS K (t E) E (.ow (owAt w O) x::(ss c++List.replicate m .dead)) (g x c) (LS w) (fun _:Unit=>[]) (owRM w O2 (owF tyNon))) (hn:CsN C n:=by repeat first | exact zC_ | exact zcg_ | refine zv_ ?_) (S:FnScope N ps (defScope st):=by exact ⟨rfl,rfl,rfl,by decide +kernel,rfl,by decide +kernel,by decide +kernel⟩) (b:Bnd K x q st ps:=by first | exact fun _ _ F=>Fun.binds1 rfl F fun _ _ _ _ _ _ _=>rfl | exact fun _ _ F=>Fun.binds2 rfl F fun _ _ _ _ _ _ _ _=>rfl | exact fun _ _ F=>Fun.binds3 rfl F fun _ _ _ _ _ _ _ _ _=>rfl | exact fun _ _ F=>Fun.binds4 rfl F fun _ _ _ _ _ _ _ _ _ _=>rfl | exact fun _ _ F=>Fun.binds5 rfl F fun _ _ _ _ _ _ _ _ _ _ _=>rfl | exact fun _ _ F=>Fun.binds6 rfl F fun _ _ _ _ _ _ _ _ _ _ _ _=>rfl | exact fun _ _ F=>Fun.binds7 rfl F fun _ _ _ _ _ _ _ _ _ _ _ _ _=>rfl) (hp:ps.length=n+1:=by rfl) (hm:N.length-(n+1)=m:=by rfl) (fI:∀ w x,(LS w x)[0]?=some (.ow (owAt w O2) x):=by exact fun _ _=>rfl):OkF P w K mg base CX0 (k+1) x q st ps (CtM K O O2 C (fun x c=>fnMU (g x c)) (owF tyNon)):=fun f fd F =>
 ⟨F.ok S (fun vs H Q E h=>by obtain ⟨F,h,x,c,w,ws,rfl,_,_,_,_,hc,_⟩:=h; rw [List.length_cons,hn hc,hp]) fun ar A outer s H vs Q E hr h=>⟨t E,tm ar A outer s H f E S.nd hr,zjP_ (N:=N) (t:=t) n m hn hm hC fI ev vs H Q E h⟩,b f fd F⟩
theorem okRk {O:Own α}{O2:Own β}{Or:Own ρ}{C:Cs γ}{ss:γ->List Sl}{g:α->γ->Mo (Out (ρ×β) Unit Unit)}{t:XK->TS}(j n m:Nat)(hC:CsS C ss)(tm:Tm P w K mg base k N q st t)
  (ev:∀ w x c E,EvS K (t E) E (putL j (.ow (owAt w O) x) (ss c++List.replicate m .dead)) (g x c) (fun _:Unit=>[]) (fun _:Unit=>[]) (owRM w O2 Or)) (hn:CsN C n:=by repeat first | exact zC_ | exact zcg_ | refine zv_ ?_) (S:FnScope N ps (defScope st):=by exact ⟨rfl,rfl,rfl,by decide +kernel,rfl,by decide +kernel,by decide +kernel⟩) (b:Bnd K x q st ps:=by first | exact fun _ _ F=>Fun.binds1 rfl F fun _ _ _ _ _ _ _=>rfl | exact fun _ _ F=>Fun.binds2 rfl F fun _ _ _ _ _ _ _ _=>rfl | exact fun _ _ F=>Fun.binds3 rfl F fun _ _ _ _ _ _ _ _ _=>rfl | exact fun _ _ F=>Fun.binds4 rfl F fun _ _ _ _ _ _ _ _ _ _=>rfl | exact fun _ _ F=>Fun.binds5 rfl F fun _ _ _ _ _ _ _ _ _ _ _=>rfl | exact fun _ _ F=>Fun.binds6 rfl F fun _ _ _ _ _ _ _ _ _ _ _ _=>rfl | exact fun _ _ F=>Fun.binds7 rfl F fun _ _ _ _ _ _ _ _ _ _ _ _ _=>rfl) (hp:ps.length=n+1:=by rfl) (hm:N.length-(n+1)=m:=by rfl) (hj:j<=n:=by decide):OkF P w K mg base CX0 (k+1) x q st ps (CtMk K j O O2 C (fun x c=>fnMR (g x c)) Or):=fun f fd F =>
 ⟨F.ok S (fun vs H Q E h=>by obtain ⟨F,h,x,c,w,ws,rfl,_,_,_,_,hc,_⟩:=h; rw [putL_len,hn hc,hp]) fun ar A outer s H vs Q E hr h=>⟨t E,tm ar A outer s H f E S.nd hr,zn6_ (N:=N) (t:=t) j n m hj hn hm hC ev vs H Q E h⟩,b f fd F⟩
end
section
variable {l:PySem.W.OpenLaw}{w:World}{K:Fgg}{mg:Str->Option Value}{st:Stmt}{x:Str}{k:Nat}{sp:Sp}{fa:Addr}
theorem okLaw (M:Mgo K mg)(F:Fg K "law" st)(lO:mg "law"=some (.ref fa))(hb:∀ (kV doc pm:Value) (an:Option Addr) (ar ct:Value) (s:Shared) (v:Value),bindArgs (W.fnOf "law" "law" (defArgs st) (defBody st) (defScope st) .none kV doc pm an ar ct) ⟨[v],[]⟩=pure [(x,v)])
  (h:∀ (base:Heap) (f:Addr) (fd:FuncData),Fun K "law" "law" st f fd->FnOk l.prog w K mg base CX0 k f fd [x] sp):
  ∃ fd:FuncData,(∀ (s:Shared) (v:Value),BindsTo s fd ⟨[v],[]⟩ [(x,v)])/\∀ base:Heap,K.In base->base.Ns mainGlobals mg->FnOk l.prog w K mg base CX0 k fa fd [x] sp:=by
 obtain ⟨_,X,G⟩:=M
 obtain ⟨f,e,oc,od,kV,doc,pm,an,ar,ct,bL,l',c,kk⟩:=F
 cases lO.symm.trans (W.mg_of X G e)
 exact ⟨_,fun s v=>.of_eq (hb kV doc pm an ar ct s v),fun base _ _=>h base _ _ (zoq_ l' c kk)⟩
def spL (K:Fgg):Sp:=fun vs H Q _=>∃ (a:Addr) (ns:List Int),vs=[.ref a]/\SqL K H a (ns.map V.int)/\ns.length<=63/\BitsOk ns/\∀ H',Q (.bl true) H'
theorem okL {base:Heap}{N:List Str}{g:List Int->Mo (Out Bool Unit Unit)}{t:XK->TS}(m:Nat)(tm:Tm l.prog w K mg base k N "law" st t)
  (hf:∀ ns:List Int,ns.length<=63->BitsOk ns->fnO (g ns)=.ok true)
  (ev:∀ c E,EvS K (t E) E (.fz (tySc K) c::List.replicate m .dead) (g c) (fun _:Unit=>[]) (fun _:Unit=>[]) (owF tyBl)) (f:Addr) (fd:FuncData) (F:Fun K "law" "law" st f fd) (S:FnScope N [x] (defScope st):=by exact ⟨rfl,rfl,rfl,by decide +kernel,rfl,by decide +kernel,by decide +kernel⟩) (hm:N.length-1=m:=by rfl):FnOk l.prog w K mg base CX0 (k+1) f fd [x] (spL K):=
 F.ok S (fun vs H Q E h=>by obtain ⟨a,ns,rfl,_⟩:=h; rfl) fun ar A outer s H vs Q E hr h=>⟨t E,tm ar A outer s H f E S.nd hr,by
  obtain ⟨a,ns,rfl,hS,hl,hb,q⟩:=h
  refine zp2_ (K:=K) (N:=N) (C:=csLast (tySc K)) (O:=owF tyBl) (t:=t) (ss:=fun c=>[.fz (tySc K) c]) (f:=g) 1 m zC_ hm zn_ ev _ H Q E ⟨H,ns,Same.refl _,⟨_,rfl,a,rfl,hS⟩,?_⟩
  show After K (fnO (g ns)) E H H _
  rw [hf ns hl hb]
  rintro F' H' x v h _ _ _ ⟨_,rfl⟩
  exact q H'⟩
variable {X:Cx}{pos pos':Pos}{e:Expr}{te:TE}
abbrev FrP (X:Cx)(scope:Scope)(q:Str×Nat):Prop:=X.N[q.2]?=some q.1/\(q.1,NameKind.free)∈scope.names/\(X.env.kindOf q.1=some .cell\/X.env.kindOf q.1=some .free)/\((relabel scope X.env).names.lookup q.1=some .cell\/(relabel scope X.env).names.lookup q.1=some .free)
theorem pgn (i:Nat)(hN:X.N.Nodup:=by assumption)(hi:X.N[i]?=some x:=by rfl)(hx:Loc X.env.scope x:=by first | exact Or.inl rfl | exact Or.inr rfl)(hf:X.fn x=true\/X.env.scope.names.lookup x=some .local:=by first | exact .inl rfl | exact .inr rfl | assumption):PG X (.Name x pos) (gName i):=zmg_ hN hi hx hf
theorem pst (i:Nat)(he:PE X e te)(hN:X.N.Nodup:=by assumption)(hi:X.N[i]?=some x:=by rfl)(hx:Loc X.env.scope x:=by first | exact Or.inl rfl | exact Or.inr rfl)(hs:swapsWith e (some (.Name x pos')) pos.line X.env=pure false:=by rfl)(hf:X.fn x=true\/X.env.scope.names.lookup x=some .local:=by first | exact .inl rfl | exact .inr rfl | assumption):
  PS X (.Assign [.Name x pos'] e pos) (tAsg te (gName i)):=zqF_ hN hi hx he hs hf
theorem csm {scope:Scope}{cl:List (Str×Addr)}{lv:List Str}{fr:List (Str×Nat)}(h:closeL X.env.cells scope.names []=some cl)(f:∀ q∈fr,FrP X scope q)(h2:∀ y∈scope.names,y.2≠.cell:=by decide +kernel)(h3:scope.kind=.function:=by rfl)(h4:∀ z∈scope.names,z.2=.local->scope.names.lookup z.1=some .local:=by decide +kernel):CScope X scope cl lv fr:=⟨h,h2,h3,h4,f⟩
theorem frc {scope:Scope}{q:Str×Nat}{fr:List (Str×Nat)}(t:∀ q∈fr,FrP X scope q)(h:FrP X scope q:=by refine ⟨rfl,by decide +kernel,?_,?_⟩<;>first | exact Or.inl rfl | exact Or.inr rfl):∀ z∈q::fr,FrP X scope z:=zpj_ h t
theorem fr0 {scope:Scope}:∀ q∈([]:List (Str×Nat)),FrP X scope q:=fun _ h=>by cases h
theorem pgc {scope:Scope}{cl:List (Str×Addr)}{C:Addr}{lv:List Str}{fr:List (Str×Nat)}{fp:List Addr}{s2:Shared}{H2:Hp}(i:Nat)(hN:(cN lv fr).Nodup:=by decide +kernel)(hi:(cN lv fr)[i]?=some x:=by rfl)(hx:Loc (cxComp X scope cl C (cN lv fr) fp s2 H2).env.scope x:=by exact Or.inl rfl)(hf:(cxComp X scope cl C (cN lv fr) fp s2 H2).fn x=true\/(cxComp X scope cl C (cN lv fr) fp s2 H2).env.scope.names.lookup x=some .local:=by first | exact .inl rfl | exact .inr rfl | assumption):PG (cxComp X scope cl C (cN lv fr) fp s2 H2) (.Name x pos) (gName i):=zmg_ hN hi hx hf
end
abbrev zhc_:=@PySem.F.slot_str_zfill
abbrev zgZ_:=@PySem.F.type_str_zfill
abbrev zgJ_:=@PySem.F.slot_str_index
abbrev zgF_:=@PySem.F.type_str_index
abbrev zdB_:=@PySem.F.plainAttrs_list
abbrev zfo_:=@PySem.F.slot_list_insert
abbrev zfj_:=@PySem.F.type_list_insert
abbrev zap_:=@PySem.F.slot_list_append
abbrev zat_:=@PySem.F.type_list_append
abbrev zeX_:=@PySem.F.slot_list_extend
abbrev zeU_:=@PySem.F.type_list_extend
abbrev zfU_:=@PySem.F.slot_list_clear
abbrev zgp_:=@PySem.F.type_list_clear
section
abbrev T7:Type:=Option (Array Keyed)×Array Keyed×Nat×Nat×Nat×Nat×Nat
abbrev T6:Type:=Option (Array Keyed)×Array Keyed×Nat×Nat×Nat×Nat
abbrev T5:Type:=Option (Array Keyed)×Array Keyed×Nat×Nat×Nat
variable {lt:Nat->Nat->Bool}
abbrev op (lt:Nat->Nat->Bool):Nat->Nat->Bool:=fun a b=>lt b a
variable {K:Fgg}{E:XK}{γ S:Type}{F h H:Hp}{e:TE}{t:TS}{LS:S->List Sl}
abbrev tyRng:Ty (Int×Int):=⟨fun a v F=>∃ p,v=.ref p/\F p=some (.rng a.1 a.2),fun g ⟨p,e,h⟩=>⟨p,e,g _ _ h⟩⟩
theorem zlv_:Bl K mRange E (csCons tyInt (csLast tyInt)) (fun c=>.ok c) tyRng:=by
 rintro c vs F H Q hs ⟨v,us,rfl,rfl,w,rfl,rfl⟩ q p hp
 have x:=Ext.new (o:=.rng c.1 c.2) hs hp
 exact q _ _ x _ ⟨p,rfl,zx_⟩
theorem zkb_:BlO K (mList K) E (csLast tyRng) (fun c=>.grd (-50000<=c.1/\c.1<=50000 /\ -50000<=c.2/\c.2<=50000) (.ok (rngI c.1 (c.2-c.1).toNat))) (owL tyInt):=by
 rintro c vs F H Q hs ⟨v,rfl,p,rfl,h⟩ q
 obtain ⟨z,q⟩:=q.grd
 refine .inr ⟨_,_,hs _ _ h,z,fun l hl=>zea_ hs hl ?_ q⟩
 have e:intsV c.1 c.2=(rngI c.1 (c.2-c.1).toNat).map V.int:=by unfold intsV rngI; rw [List.map_map]; rfl
 rw [e]; exact zjc_
def fnU (r:Mo (Out Unit Unit Unit)):Mo Unit:=r.bind fun o=>match o with | .rt a=>.ok a | .nx _=>.ok () | _=>.no
theorem zpv_ {t:XK->TS}{C:Cs γ}{ss:γ->List Sl}{f:γ->Mo (Out Unit Unit Unit)}{LS:Unit->List Sl}{N:List Str}(n m:Nat)(hn:CsN C n)(hm:N.length-n=m)(hC:CsS C ss)(h:∀ c E,EvS K (t E) E (ss c++List.replicate m .dead) (f c) LS (fun _:Unit=>[]) (owF tyNon)):
  ∀ vs H Q E,Ct K C (fun c=>fnU (f c)) (owF tyNon) vs H Q E->t E { nx:=fun _ H'=>Q .non H',rt:=Q } (start N vs) H:=by
 rintro vs H Q E ⟨F,c,hs,hc,q⟩
 have aZ:start N vs=vs.map some++List.replicate m none:=by unfold start; rw [hn hc,hm]
 rw [aZ]
 refine h c E F H _ F (fun _=>none) H _ ((hC hc).hold m) (zhO_ hs) ?_
 have q:After K (fnU (f c)) E F H (OwnK (owF tyNon) H Q):=q
 cases e:f c with
 | no=>rw [e] at q; exact q
 | ex cc=>rw [e] at q; exact fun F h H ok=>q F H ok.1
 | ok o =>
  rw [e] at q
  cases o with
  | nx s=>exact fun σ F' h' H' _ ok=>q F' H' ok.1 .non (fun _=>none) (fun p z=>absurd rfl z) (fun p=>.inr rfl) (fun p o z=>by cases z) ⟨fun _=>rfl,rfl⟩
  | bk s=>exact q.elim
  | ct s=>exact q.elim
  | rt a=>exact fun v F' h' H' ok hv=>q F' H' ok.1 v h' (fun p z=>ok.2.2.2.1 p z) ok.2.1 ok.2.2.1 hv
end
section
variable {P:Program}{w:World}{K:Fgg}{mg:Str->Option Value}{base:Heap}{x q:Str}{st:Stmt}{N ps:List Str}{k:Nat}{γ:Type}
theorem okCU {C:Cs γ}{ss:γ->List Sl}{g:γ->Mo (Out Unit Unit Unit)}{LS:Unit->List Sl}{t:XK->TS}(n m:Nat)(hC:CsS C ss)(tm:Tm P w K mg base k N q st t)
  (ev:∀ c E,EvS K (t E) E (ss c++List.replicate m .dead) (g c) LS (fun _:Unit=>[]) (owF tyNon)) (hn:CsN C n:=by repeat first | exact zC_ | exact zcg_ | refine zv_ ?_) (S:FnScope N ps (defScope st):=by exact ⟨rfl,rfl,rfl,by decide +kernel,rfl,by decide +kernel,by decide +kernel⟩) (b:Bnd K x q st ps:=by first | exact fun _ _ F=>Fun.binds1 rfl F fun _ _ _ _ _ _ _=>rfl | exact fun _ _ F=>Fun.binds2 rfl F fun _ _ _ _ _ _ _ _=>rfl | exact fun _ _ F=>Fun.binds3 rfl F fun _ _ _ _ _ _ _ _ _=>rfl | exact fun _ _ F=>Fun.binds4 rfl F fun _ _ _ _ _ _ _ _ _ _=>rfl | exact fun _ _ F=>Fun.binds5 rfl F fun _ _ _ _ _ _ _ _ _ _ _=>rfl | exact fun _ _ F=>Fun.binds6 rfl F fun _ _ _ _ _ _ _ _ _ _ _ _=>rfl | exact fun _ _ F=>Fun.binds7 rfl F fun _ _ _ _ _ _ _ _ _ _ _ _ _=>rfl) (hp:ps.length=n:=by rfl) (hm:N.length-n=m:=by rfl):OkF P w K mg base CX0 (k+1) x q st ps (Ct K C (fun c=>fnU (g c)) (owF tyNon)):=fun f fd F =>
 ⟨F.ok S (fun vs H Q E h=>by obtain ⟨F,c,_,hc,_⟩:=h; exact (hn hc).trans hp.symm) fun ar A outer s H vs Q E hr h=>⟨t E,tm ar A outer s H f E S.nd hr,zpv_ (N:=N) (t:=t) n m hn hm hC ev vs H Q E h⟩,b f fd F⟩
theorem okXU {C:Cs γ}{ss:γ->List Sl}{g:γ->Mo (Out Unit Unit Unit)}{LS:Unit->List Sl}{t:XK->TS}(n m:Nat)(hC:CsS C ss)(tm:TmX P w K mg base k N q st t)
  (ev:∀ c E,EvS K (t E) E (ss c++List.replicate m .dead) (g c) LS (fun _:Unit=>[]) (owF tyNon)) (hn:CsN C n:=by repeat first | exact zC_ | exact zcg_ | refine zv_ ?_) (S:FnScope N ps (defScope st):=by exact ⟨rfl,rfl,rfl,by decide +kernel,rfl,by decide +kernel,by decide +kernel⟩) (b:Bnd K x q st ps:=by first | exact fun _ _ F=>Fun.binds1 rfl F fun _ _ _ _ _ _ _=>rfl | exact fun _ _ F=>Fun.binds2 rfl F fun _ _ _ _ _ _ _ _=>rfl | exact fun _ _ F=>Fun.binds3 rfl F fun _ _ _ _ _ _ _ _ _=>rfl | exact fun _ _ F=>Fun.binds4 rfl F fun _ _ _ _ _ _ _ _ _ _=>rfl | exact fun _ _ F=>Fun.binds5 rfl F fun _ _ _ _ _ _ _ _ _ _ _=>rfl | exact fun _ _ F=>Fun.binds6 rfl F fun _ _ _ _ _ _ _ _ _ _ _ _=>rfl | exact fun _ _ F=>Fun.binds7 rfl F fun _ _ _ _ _ _ _ _ _ _ _ _ _=>rfl) (hp:ps.length=n:=by rfl) (hm:N.length-n=m:=by rfl):OkF P w K mg base (CXx P w) (k+1) x q st ps (Ct K C (fun c=>fnU (g c)) (owF tyNon)):=fun f fd F =>
 ⟨F.okX S (fun vs H Q E h=>by obtain ⟨F,c,_,hc,_⟩:=h; exact (hn hc).trans hp.symm) fun ar A outer s H vs Q E hr h=>⟨t E,tm ar A outer s H f E S.nd hr,zpv_ (N:=N) (t:=t) n m hn hm hC ev vs H Q E h⟩,b f fd F⟩
end
def Fe1 (K:Fgg)(a:Str)(P:Addr->Prop):Prop:=∃ v,W.nsIn K mainGlobals a=some (some (.ref v))/\P v
theorem Fe1.mk_ {K:Fgg}{a:Str}{P:Addr->Prop}{v:Addr}(h:W.nsIn K mainGlobals a=some (some (.ref v)))(p:P v):Fe1 K a P:=⟨v,h,p⟩
theorem Fe1.g {K:Fgg}{a:Str}{P:Addr->Prop}(h:Fe1 K a P):P (gA K a):=by
 obtain ⟨v,h,p⟩:=h
 rw [zkT_ h]; exact p
def Fe2 (K:Fgg)(a b:Str)(P:Addr->Addr->Prop):Prop:=∃ v w,W.nsIn K mainGlobals a=some (some (.ref v))/\W.nsIn K mainGlobals b=some (some (.ref w))/\P v w
theorem Fe2.mk_ {K:Fgg}{a b:Str}{P:Addr->Addr->Prop}{v w:Addr}(h:W.nsIn K mainGlobals a=some (some (.ref v)))(h2:W.nsIn K mainGlobals b=some (some (.ref w)))(p:P v w):Fe2 K a b P:=⟨v,w,h,h2,p⟩
theorem Fe2.g {K:Fgg}{a b:Str}{P:Addr->Addr->Prop}(h:Fe2 K a b P):P (gA K a) (gA K b):=by
 obtain ⟨v,w,h,h2,p⟩:=h
 rw [zkT_ h,zkT_ h2]; exact p
section
end
open PySem.SeqAt
open PySem.AutoSeq1 (wpAny_loadPart')
open PySem.MeetsSeq PySem.MeetsSeq2 PySem.MeetsSeq3
section
end
theorem atT {K:Fgg}{E:XK}{e:TT}{r:Mo Bool}(L:List Sl)(h:EvT K e E L r):EvT K e E L r:=h
structure Scl (K:Fgg)(C:Addr)(m:Str)(f:Addr):Prop where
 sp:W.specialIn K (.ref C) "__getattribute__"=some (some (.builtin "type.__getattribute__"))
 rd:W.readsIn K C (.type "type")=true
 fd:W.findCls K (.ref C) (.type "type") m=some (.val (.ref f))
 hd:W.handedIn (.ref f)=true
 kp:W.keepIn K (.ref f)=true
def Gs (P:Program)(w:World)(K:Fgg)(mg:Str->Option Value)(base:Heap)(CX:CXT)(k:Nat)(x m:Str)(ps:List Str)(sp:Sp):Prop:=
 ∃ C f fd,FnOk P w K mg base CX k f fd ps sp/\mg x=some (.ref C)/\Scl K C m f/\Binds K fd ps []
section
variable {X:Cx}{e:Expr}{es:List Expr}{m x:Str}{p pos apos:Pos}{t:TA}{k:Nat}{ps:List Str}{sp:Sp}
theorem zmv_ {pl:Sem Bool}(G:Gs X.prog X.w X.K X.mg X.base CX0 k x m ps sp)(hr:Room k X.A)(ha:PA X (e::es) t)(hg:Gl X x:=by rfl)(aV:(x==("__debug__":Str))=false:=by decide)
  (bE:starEach (e::es) X.env=(false,eval e X.env)::starEach es X.env:=by rfl) (aQ:(backTo pos (starEach es X.env)).any (·.1)=false:=by rfl)
  (ht:eval (.Call (.Attribute (.Name x p) m apos) (e::es) [] pos) X.env=(do
   let ov <- eval (.Name x p) X.env
   standAt apos.atName
   let (f,first) <- holding [ov] (getMethod ov m pl)
   callWith pos f first (backTo pos (starEach (e::es) X.env)) (backToKw pos (keywordEach [] X.env))):=by rfl):
  PE X (.Call (.Attribute (.Name x p) m apos) (e::es) [] pos) (tCall sp [] E0 t):=by
 obtain ⟨C,f,fd,F,hm,hs,hb⟩:=G
 intro pins s σ H Q I h
 have hn:PE X (.Name x p) (tC (.ref C)):=zjg_ hg hm rfl aV
 refine W.methodCall_KW (pl:=pl) (thn (hn pins s σ H (fun v H1=>v=.ref C/\tCall sp [] E0 t σ H1 Q) I ⟨rfl,h⟩) fun u s1 ao=>?_) ht
 obtain ⟨x,H1,I1,rx,ex,q⟩:=ao
 subst ex
 obtain rfl:u=Value.ref C:=rx
 refine W.method_cls I1.kIn hs.sp (W.cls_value I1.kIn hs.rd hs.fd hs.hd ?_)
 refine W.callWith_K (first:=[]) (h₀:=X.base) I.ok.mod.kin hs.kp (thn (ha pos pins _ σ H1 _ (I1.tok _) q) fun us s2 ⟨vs,H2,I2,r,q2⟩=>⟨I2.kIn,?_⟩) bE aQ
 exact zjq_ F hr hb .nil pass0 I2 r q2
end
def Fs (K:Fgg)(c m q:Str)(st:Stmt):Prop:=∃ cw f,W.nsIn K mainGlobals c=some (some (.ref cw))/\W.specialIn K (.ref cw) "__getattribute__"=some (some (.builtin "type.__getattribute__"))/\W.readsIn K cw (.type "type")=true/\W.findCls K (.ref cw) (.type "type") m=some (.val (.ref f))/\Fi K m q st f
section
variable {P:Program}{w:World}{K:Fgg}{mg:Str->Option Value}{base:Heap}{CX:CXT}{q c m:Str}{st:Stmt}{f:Addr}{fd:FuncData}{ps:List Str}{k:Nat}{sp:Sp}
theorem Fs.mk_ {cw:Addr}{oc:Value}{od:Option Addr}{kV doc pm:Value}{an:Option Addr}{ar ct:Value}{bL:Array (Option Value)}(h:W.nsIn K mainGlobals c=some (some (.ref cw)))(h1:W.specialIn K (.ref cw) "__getattribute__"=some (some (.builtin "type.__getattribute__")))(h2:W.readsIn K cw (.type "type")=true)(h3:W.findCls K (.ref cw) (.type "type") m=some (.val (.ref f)))
  (l:K.lookup f=some ⟨oc,od,.func (W.fnOf m q (defArgs st) (defBody st) (defScope st) .none kV doc pm an ar ct),bL⟩) (hc:W.codeIn K ar q=true) (hk:W.keepIn K (.ref f)=true):Fs K c m q st:=⟨cw,f,h,h1,h2,h3,oc,od,kV,doc,pm,an,ar,ct,bL,l,hc,hk⟩
theorem gs_of (M:Mgo K mg)(F:Fs K c m q st)(h:OkF P w K mg base CX k m q st ps sp):Gs P w K mg base CX k c m ps sp:=by
 obtain ⟨_,X,G⟩:=M; obtain ⟨cw,f,e,e1,e2,e3,i⟩:=F; obtain ⟨fd,F⟩:=i.fun_
 exact ⟨cw,f,fd,(h f fd F).1,W.mg_of X G e,⟨e1,e2,e3,rfl,F.kp⟩,(h f fd F).2⟩
end
def isiK (K:Fgg)(C:Addr)(c:Value):Option Bool:=
 if (W.plainGet K C Str.empty && W.hasDictIn K C && W.plainOver K C && W.findIn K (.ref C) "__setattr__"==some (some (.builtin "object.__setattr__"))) && W.findIn K (.ref C) "__class__"==some (some (.builtin "object.__class__")) && W.specialIn K (.builtin "object.__class__") "__get__"==some (some (.builtin "getset_descriptor.__get__"))
  && W.takesIn K (.builtin "object.__class__")==some true && W.mroIn K C (.type "object")==some true then W.kitOne K (.ref C) c else none
def mIsaI (K:Fgg):List V->Hp->VK->Prop:=fun xs H Q=>match xs with
 | [.ref p,.ref s]=>∃ C dx fs b,H p=some (.ins C dx fs)/\isiK K C (.ref s)=some b/\Q (.bl b) H
 | _=>False
theorem zkO_ {X:Cx}:CallR X (.builtin "isinstance") (mIsaI X.K):=by
 intro pins s σ H xs us Q I r h
 unfold mIsaI at h
 split at h
 ·rename_i p c
  obtain ⟨C,dx,fs,b,hp,hk,q⟩:=h
  obtain ⟨u,z,rfl,r1,r2⟩:=vals2 r
  obtain rfl:z=.ref c:=r2
  unfold isiK at hk
  split at hk
  ·rename_i hc
   simp only [Bool.and_eq_true,beq_iff_eq] at hc
   obtain ⟨⟨⟨⟨⟨⟨⟨a1,a2⟩,a3⟩,a4⟩,a5⟩,a6⟩,a7⟩,a8⟩:=hc
   exact zhw_ I r1 (.ins hp ⟨a1,a2,a3,a4⟩ a5 a6 a7 a8) hk fun tk=>⟨.bl b,H,I.tok tk,rfl,q⟩
  ·cases hk
 ·exact h.elim
section
variable {K:Fgg}{E:XK}{α β γ δ ρ aX S B κ:Type}{F0 H0 F h H:Hp}{L:List Sl}{e te tc:TE}{T:Ty α}{r:Mo α}{Or:Own ρ}{aU:Own aX}{t u:TS}{ta:TA}{LS:S->List Sl}{LB:B->List Sl}{σ:St}{C s:Addr}{ns:List Str}{f m:Str}{i n j:Nat}
theorem zqb_ {Q:Cs γ}{r:Mo γ}{b:Bool}(hb:isiK K C (.ref s)=some b)(h:EvF K e E L r (tyI C ns Q)):EvF K (tCB (mIsaI K) (tCons e (tCons (tC (.ref s)) tNil))) E L (r.bind fun _=>.ok b) tyBl:=by
 intro σ F H R hL hs q
 refine h σ F H _ hL hs (q.bind.imp fun l F1 H1 x1 k1 v ao=>?_)
 obtain ⟨p,dx,vs,e,hp,hl,hc⟩:=ao
 subst e
 exact ⟨C,dx,_,b,x1.2.1 _ _ hp,hb,k1.ok x1.2.1 _ rfl⟩
theorem zof_:Op2 K mIs E tyNon tyNon (fun _ _=>.ok true) tyBl:=by
 rintro a b x y F H Q hs rfl rfl k
 exact k.ok hs _ rfl
theorem zhN_:Op2 K mIsNot E tyNon tyNon (fun _ _=>.ok false) tyBl:=by
 rintro a b x y F H Q hs rfl rfl k
 exact k.ok hs _ rfl
theorem zhW_ {O':Own β}{O2:Own δ}{x:β}{w0:V}{Q:Cs γ}{ra:Mo γ}{g:β->γ->Mo (aX×δ)}(hi:L[i]?=some (.ow (owAt w0 O') x))(hI:ImmO O2)(hR:ImmO aU)(ha:EvA K ta E (L.map Sl.cold) ra Q):
  EvM K (tCall (CtM K O' O2 Q g aU) [] E0 (tCons (mVar i) ta)) E L i (owAt w0 O2) aU (ra.bind fun c=>(g x c).noex.bind fun q=>.ok (q.1,q.2)):=by
 intro F0 H0 σ F h H R hL ok fin
 obtain ⟨_,_,_,e0,_,⟨v0,rfl,_⟩,_⟩:=hL.at i hi
 show (tCons (mVar i) ta) σ H fun vs H1=>CtM K O' O2 Q g aU (vs++[]) H1 R E0
 rw [(TaIn.zero (i:=i) (ta:=ta)).eq e0]
 have mY:∀ {kk:γ->Hp->Hp->Prop},(∀ c F' H',ra=.ok c->Ext F H F' H'->kk c F' H')->After K ra E F H kk:=fun {kk} hk=>by
  cases e:ra with
  | ok c=>exact fun F' H' x=>hk c F' H' e x
  | no=>rw [e] at fin; exact fin
  | ex cc=>rw [e] at fin; exact fun F' H' x=>(fin _ _ _ (ok.cold x)).up ok.1.2.2.1
 refine ha σ F H _ hL.coldF ok.1.2.1 (mY fun c F2 H2 bh x2 vs bD=>?_)
 rw [bh] at fin
 have o2:=ok.cold x2
 rw [List.append_nil]
 obtain ⟨_,k,aH,e1,j,⟨v1,e2,hw0,hO⟩,f⟩:=(hL.mono x2.1).atM i hi
 rw [e0] at e1
 cases e1
 cases e2
 have di:Same k h:=j.l
 have eQ:Same (un F2 (less h k)) H2:=fun q o z=>by
  unfold un at z
  cases y:F2 q with
  | some s=>rw [y] at z; rw [<- z]; exact o2.1.2.1 _ _ y
  | none=>rw [y] at z; exact o2.2.2.1 _ _ (z1_ _ _ z)
 have e7:Dj (un F2 (less h k)) k:=fun q=>by
  by_cases z:k q=none
  ·exact .inr z
  ·left
   unfold un
   have:F2 q=none:=by
    rcases o2.2.1 q with y | y
    ·exact y
    ·exact absurd (di.free y) z
   rw [this]; exact zA_ q z
 refine ⟨un F2 (less h k),k,x,c,v0,vs,rfl,eQ,e7,di.trans o2.2.2.1,O'.mono zO_ hO,Q.mono zO_ bD,?_⟩
 have fin:FinM K ((g x c).noex.bind fun q=>.ok (q.1,q.2)) E F0 H0 _:=fin
 cases e:g x c with
 | no=>rw [e] at fin; exact fin
 | ex cc=>rw [e] at fin; exact fin.elim
 | ok q =>
  rw [e] at fin
  rintro F' h' H' aE v ⟨hr,aO,j',hRes,hO2⟩
  have el:=zmc_ o2.2.1
  have jk:Jn k hpE k:=fun _=>.inr ⟨rfl,rfl⟩
  obtain ⟨ff,tp,d1,d2,d3,okk⟩:=zhm_ (G2:=F2) (by rw [el]; exact o2) j jk (by rw [el]; exact aE) j'
  rw [el] at ff
  have eh:un aO hpE=aO:=zqh_ (zcv_ d1) fun _=>rfl
  have hold:=f (less F' (less h k)) (.ow (owAt w0 O2) q.2) (some v0) (un aO hpE) _ ff (zcv_ d2) ⟨v0,rfl,hw0,by rw [eh]; exact hI tp hO2⟩
  rw [zaY_ e0] at hold
  exact fin _ _ H' okk v _ hr (zcv_ d3) hold (hR tp hRes)
theorem zp5_ {O:Own β}{O1:Own α}{P:Ps γ}{st:γ->α->γ}{r0:Mo (γ×(γ->β))}{k:β->Mo (Out ρ B S)}(nd:ns.Nodup)(hf:ns[n]?=some f)(gw:ns.length<1000)(pp:PsPut P n O1 st)(hO:ImmO O1)(he:EvO K e E L r O1)(hp:EvPt K te E L i O (owI C ns P) r0)(hk:∀ x',EvS K u E (L.set i (.ow O x')) (k x') LS LB Or):
  EvS K (tSeq (mSFld C te e f) u) E L (r.bind fun a=>r0.bind fun yp=>(Mo.ok (yp.2 (st yp.1 a))).bind k) LS LB Or:=by
 intro F0 H0 σ F h H D hL ok fin
 refine he σ (un F h) H _ (hL.froz ok.2.1) ok.thaw (zW_ (G:=F) ok _ (.inl rfl) fin fun a F' H' bh x v hn fresh dj eZ hv=>?_)
 obtain ⟨o,hs,ht⟩:=ok.back x
 rw [bh] at fin
 refine hp F0 H0 σ (less F' h) h H' _ (hL.mono hs) o (zW_ (G:=F) o _ (.inl rfl) fin fun yp G1 H1 dQ x1 u0 fc=>?_)
 obtain ⟨o1,hs1,_⟩:=o.back x1
 rw [dQ] at fin
 obtain ⟨k0,⟨p,dx,vs,m,rfl,cb,jn,hl,ps⟩,kh,g⟩:=fc _ H1 (Same.refl _) o1
 obtain ⟨qf,h2,gc,pf⟩:=pp ps
 have ck:H1 p=some (.ins C dx (ns.zip vs)):=o1.2.2.1 _ _ (kh _ _ (jn.l _ _ zhu_))
 refine ⟨dx,_,ck,by rw [List.length_zip]; lia,?_⟩
 rw [zgY_ v nd hf qf]
 have fr:∀ q,hn q≠none->less G1 h q=none/\h q=none/\H0 q=none:=fun q z=>by
  have qw:H' q≠none:=by
   cases y:hn q with
   | none=>exact absurd y z
   | some o=>rw [eZ _ _ y]; exact sN _
  have hh:h q=none:=ok.2.2.1.free (fresh q z)
  refine ⟨?_,hh,ok.1.2.2.1.free (fresh q z)⟩
  have f1:less F' h q=none:=by
   rcases dj q with y | y
   ·exact z1_.free y
   ·exact absurd y z
  have f2:un (less F' h) h q=none:=by unfold un; rw [f1]; exact hh
  refine z1_.free ?_
  cases y:G1 q with
  | none=>rfl
  | some o'=>exact absurd (x1.2.2.2 q f2 (by rw [y]; exact sN _)) qw
 have dn:Dj hn h2:=fun q=>by
  by_cases z:hn q=none
  ·exact .inl z
  ·exact .inr (gc.free (jn.r.free (kh.free (fr q z).2.1)))
 obtain ⟨j',P'⟩:=zhD_ (o':=.ins C dx (ns.zip (vs.set n v))) (hn:=hn) o1 kh cb jn gc fr (eZ.trans x1.2.2.1) dn
 obtain ⟨h',a1,a2⟩:=g (st yp.1 a) _ _ _ P' ⟨p,dx,vs.set n v,un hn h2,rfl,cb,j',by rw [List.length_set]; exact hl,pf a v hn _ _ (Same.refl _) (O1.mono hs1 (hO ht hv)) (zcv_ dn)⟩
 exact hk _ F0 H0 σ _ h' _ D a1 a2 fin
theorem zoG_ {p:Addr}{o':HO}(ok:Okk F0 H0 F h H)(hF:F p=none)(hh:h p=none)(h0:H0 p=none):Okk F0 H0 F h (upd H p o'):=by
 have ne:∀ {G:Hp}{b:Addr}{o:HO},G p=none->G b=some o->b≠p:=fun g z e=>by rw [e,g] at z; cases z
 exact ⟨⟨ok.1.1,fun b o z=>by rw [zI_ (ne hF z)]; exact ok.1.2.1 _ _ z,fun b o z=>by rw [zI_ (ne h0 z)]; exact ok.1.2.2.1 _ _ z,ok.1.2.2.2⟩,ok.2.1,fun b o z=>by rw [zI_ (ne hh z)]; exact ok.2.2.1 _ _ z,ok.2.2.2⟩
theorem zno_ {T':Ty α}{r0:Mo (List β)}{T0:Ty β}{k:Mo (Out ρ B S)}(ql:EvO K te E L r0 (owL T0))(he:EvF K e E L r T')(hk:EvS K u E L k LS LB Or):
  EvS K (tSeq (tDrop (tBM K "list" rAppend te (tCons e tNil))) u) E L (r0.bind fun xs=>r.bind fun _=>.lim (xs.length+1) k) LS LB Or:=by
 intro F0 H0 σ F h H D hL ok fin
 show te σ H fun x H1=>tyV K "list" x H1/\tCons e tNil σ H1 fun xs H2=>rAppend x xs H2 (fun _ H3=>u D σ H3)
 refine ql σ (un F h) H _ (hL.froz ok.2.1) ok.thaw (zW_ (G:=F) ok _ (.inl rfl) fin fun xs G1 H1 dQ x1 v hn fresh dj eZ hv=>?_)
 obtain ⟨o1,hs1,_⟩:=ok.back x1
 rw [dQ] at fin
 obtain ⟨p,vs,rfl,rfl,pr⟩:=hv
 have hz:H p=none:=fresh p (by rw [z9_]; exact sN _)
 have ck:H1 p=some (.lst vs):=eZ _ _ z9_
 refine ⟨.inl ⟨rfl,vs,.of ck⟩,?_⟩
 refine he σ (un (less G1 h) h) H1 _ ((hL.mono hs1).froz o1.2.1) o1.thaw (zW_ (G:=F) o1 _ (.inl rfl) fin fun a G2 H2 bh x2 v2 dk=>?_)
 obtain ⟨o2,bP,ht2⟩:=o1.back x2
 rw [bh] at fin
 obtain ⟨lj,fin⟩:=zeP_ (show Fin K (Mo.lim (xs.length+1) k) E LS LB Or F0 H0 D from fin)
 have hh:h p=none:=ok.2.2.1.free hz
 have qy:G1 p=none:=by
  rcases dj p with y | y
  ·exact y
  ·rw [z9_] at y; cases y
 have qx:G2 p=none:=by
  cases y:G2 p with
  | none=>rfl
  | some o' =>
   have:=x2.2.2.2 p (by unfold un; rw [z1_.free qy]; exact hh) (by rw [y]; exact sN _)
   rw [ck] at this; cases this
 exact ⟨p,vs,v2,rfl,rfl,x2.2.2.1 _ _ ck,by rw [<- pr.len]; lia,hk F0 H0 σ _ h _ D ((hL.mono hs1).mono bP) (zoG_ o2 (z1_.free qx) hh (ok.1.2.2.1.free hz)) fin⟩
section
variable [DecidableEq κ]{KY:KyT κ}
def KvT (KY:KyT κ):Prop:=∀ {a v H},KY.T.R a v H->v=kV (KY.key a)
def EvPs (K:Fgg)(cJ:List (TE×TE))(E:XK)(L:List Sl)(r:Mo (List (κ×α)))(KY:KyT κ)(T:Ty α):Prop:=
 ∀ σ F H (Q:List (V×V)->Hp->Prop),HoldF L σ F->Same F H->After K r E F H (fun m F' H'=>∀ aa,DPr KY T F' m aa->Q (aa.map fun kv=>(kV kv.1,kv.2)) H')->tPairs cJ σ H Q
theorem zmm_:EvPs K [] E L (.ok ([]:List (κ×α))) KY T:=fun σ F H Q hL hs q=>q.ok hs [] .nil
theorem zgV_ {e1 e2:TE}{cJ:List (TE×TE)}{rk:Mo κ}{rs:Mo (List (κ×α))}(qh:KvT KY)(h1:EvF K e1 E L rk KY.T)(h2:EvF K e2 E L r T)(h3:EvPs K cJ E L rs KY T):
  EvPs K ((e1,e2)::cJ) E L (rk.bind fun y=>r.bind fun a=>rs.bind fun m=>.ok ((y,a)::m)) KY T:=by
 intro σ F H Q hL hs q
 show e1 σ H fun x H1=>e2 σ H1 fun y H2=>tPairs cJ σ H2 fun ps H3=>Q ((x,y)::ps) H3
 refine h1 σ F H _ hL hs (q.bind.imp fun y F1 H1 x1 k1 v1 dP=>?_)
 refine h2 σ F1 H1 _ (hL.mono x1.1) x1.2.1 (k1.bind.imp fun a F2 H2 x2 k2 v2 dk=>?_)
 refine h3 σ F2 H2 _ (hL.mono (x1.1.trans x2.1)) x2.2.1 (k2.bind.imp fun m F3 H3 x3 k3 aa hd=>?_)
 have e:=qh dP
 rw [e]
 exact k3.ok x3.2.1 ((KY.key y,v2)::aa) (.cons ⟨rfl,T.mono x3.1 dk⟩ hd)
def mergeA (m:List (κ×α)):List (κ×α):=m.foldl (fun acc kv=>putA acc kv.1 kv.2) []
theorem zlx_ {F:Hp}:∀ {m:List (κ×α)}{aa:List (Key×V)}{acc:List (κ×α)}{ka:List (Key×V)},DPr KY T F m aa->DPr KY T F acc ka->DPr KY T F (m.foldl (fun acc kv=>putA acc kv.1 kv.2) acc) (mergeK ka aa):=by
 intro m aa acc ka h
 induction h generalizing acc ka with
 | nil=>intro q; exact q
 | @cons a b as bs h t ih =>
  intro q
  obtain ⟨h1,h2⟩:=h
  have:=zmp_ q a.1 h2
  rw [<- h1] at this
  exact ih this
theorem zmA_ {cJ:List (TE×TE)}{r:Mo (List (κ×α))}(h:EvPs K cJ E L r KY T):EvO K (tDisp cJ) E L (r.bind fun m=>.grd (m.length<=15) (.ok (mergeA m))) (owD KY T):=by
 intro σ F H Q hL hs q p hp
 have sn:=zbf_ (H:=H) hp (.dK [])
 have x0:Ext F H F (upd H p (.dK [])):=.heap hs sn
 refine h σ F (upd H p (.dK [])) _ hL x0.2.1 ?_
 cases e:r with
 | no=>rw [e] at q; exact q
 | ex c=>rw [e] at q; exact fun F' H' x=>(q F' H' (x0.trans x)).up x0.2.2.1
 | ok m =>
  rw [e] at q
  obtain ⟨oh,q⟩:=After.grd (show After K (Mo.grd (m.length<=15) (.ok (mergeA m))) E F H _ from q)
  intro F2 H2 x2 aa hd
  have cW:H2 p=some (.dK []):=x2.2.2.1 _ _ zx_
  have hF:F p=none:=hs.free hp
  have jY:F2 p=none:=by
   cases y:F2 p with
   | none=>rfl
   | some o' =>
    have:=x2.2.2.2 p hF (by rw [y]; exact sN _)
    rw [zx_] at this; cases this
  have hlen:=Paired.length hd
  refine ⟨cW,aa,rfl,by lia,?_⟩
  have ne:∀ {G:Hp}{b:Addr}{o:HO},G p=none->G b=some o->b≠p:=fun g z e=>by rw [e,g] at z; cases z
  have xx:Ext F H F2 (upd H2 p (.dK (mergeK [] aa))):=⟨x2.1,fun b o z=>by rw [zI_ (ne jY z)]; exact x2.2.1 _ _ z,fun b o z=>by rw [zI_ (ne hp z)]; exact x2.2.2.1 _ _ (sn _ _ z),fun b a1 a2=>sn.free (x2.2.2.2 b a1 a2)⟩
  refine q F2 _ xx (.ref p) (one p (.dK (mergeK [] aa))) (fun b z=>?_) (fun b=>?_) (fun b o z=>?_) ⟨p,_,rfl,rfl,zlx_ hd .nil⟩
  ·unfold one at z; split at z
   ·rename_i e; rw [e]; exact hp
   ·exact absurd rfl z
  ·unfold one; split
   ·rename_i e; rw [e]; exact .inl jY
   ·exact .inr rfl
  ·unfold one at z; split at z
   ·rename_i e; rw [e]; cases z; exact zx_
   ·cases z
end
theorem zjX_:KvT kStr:=fun h=>by cases h; rfl
theorem zqm_:EvS K tRetN E L ((Mo.ok ()).bind fun a=>.ok (.rt a)) LS LB (owF tyNon):=zaW_ (zs_ zgm_) (EvF.ow zg4_)
theorem zpy_ {c c2 d:TT}{O:Own α}{r:Mo (aX×α)}{kb:aX×α->Mo Bool}{r1 r2:aX×α->Mo (Out ρ B S)}(hm:EvM K tc E L i O aU r)(hk:∀ q,EvT K c2 E ((L.set i (.ow O q.2))++[.fz aU.fr q.1]) (kb q))
  (i0:∀ (σ:St),σ.length=L.length->∀ (H:Hp) (Q:Bool->Hp->Prop),(tc σ H fun v H1=>c2 (σ++[some v]) H1 Q)->c σ H Q) (h1:∀ q,EvS K t E (L.set i (.ow O q.2)) (r1 q) LS LB Or) (h2:∀ q,EvS K (mIfS d t u) E (L.set i (.ow O q.2)) (r2 q) LS LB Or):
  EvS K (mIfS (mOr c d) t u) E L (r.bind fun q=>(kb q).bind fun b=>if b then r1 q else r2 q) LS LB Or:=by
 intro F0 H0 σ F h H D hL ok fin
 refine i0 σ hL.len.symm H _ (hm F0 H0 σ F h H _ hL ok (zhU_ fin fun q F' h' H' hr o v k1 k2 j hold res=>?_))
 rw [hr] at fin
 obtain ⟨o2,hv⟩:=zn7_ o j res
 have fin:Fin K ((kb q).bind fun b=>if b then r1 q else r2 q) E LS LB Or F0 H0 D:=fin
 refine hk q _ (un (un F' k2) k1) H' _ (zdU_ (by rw [hold.len]) ((hold.mono zO_).froz o2.2.1) ⟨v,rfl,aU.fr.mono zO_ hv⟩) o2.thaw (zW_ (G:=F') o2 _ (.inl rfl) fin fun b G2 H2 bh x2=>?_)
 obtain ⟨o3,hs3,_⟩:=o2.back x2
 rw [bh] at fin
 have a_:Fin K (if b then r1 q else r2 q) E LS LB Or F0 H0 D:=fin
 have fY:=(hold.mono zO_).mono hs3
 refine ⟨fun z=>?_,fun z=>?_⟩
 ·rw [if_pos z] at a_; exact ⟨fun _=>h1 q F0 H0 σ _ k1 H2 D fY o3 a_,fun y=>by cases y⟩
 ·rw [if_neg (by rw [z]; decide)] at a_; exact h2 q F0 H0 σ _ k1 H2 D fY o3 a_
end
theorem Fun.binds0 {K:Fgg}{x qual:Str}{st:Stmt}{f:Addr}{fd:FuncData}(F:Fun K x qual st f fd)(h:∀ (kV doc pm:Value) (an:Option Addr) (ar ct:Value),bindArgs (W.fnOf x qual (defArgs st) (defBody st) (defScope st) .none kV doc pm an ar ct) ⟨[],[]⟩=pure []):Binds K fd [] []:=by
 refine F.binds fun kV doc pm an ar ct us hl=>?_
 cases List.length_eq_zero_iff.mp hl
 exact h kV doc pm an ar ct
section
variable {prog:Program}{w:World}{A:Around}{E:Value->Shared->Prop}{h:Heap}{g:Array GenState}{d:Drawn}{t:Nat}{os:OsState}{nm q:Str}{C N:Addr}{bs bm:List Value}{hd:Bool}{sn:List Str}{sub:List Value}{ab:Bool}{col:Option Bool}{dd:Option Addr}{k0 k1 k2 k3 k5:Option Value}
def exH (h:Heap)(C:Addr)(vs:List Value):Heap:=(h.push { cls:=.type "tuple",data:=.seq vs.toArray }).push { cls:=.ref C,data:=.fields #[.ref h.objs.size,.none,.none,.none,.bool false,.none] }
theorem zfD_ {vs:List Value}{b:Addr}{o:Obj}(e:h.get? b=some o):(exH h C vs).get? b=some o:=Heap.get?_push_of_some _ (Heap.get?_push_of_some _ e)
theorem zo3_ {vs:List Value}:(exH h C vs).get? (h.objs.size+1)=some { cls:=.ref C,data:=.fields #[.ref h.objs.size,.none,.none,.none,.bool false,.none] }:=by unfold exH; heap_get
theorem znv_ {vs:List Value}:Heap.MadeExcOf h (exH h C vs) (h.objs.size+1) (.ref C) vs:=
 ⟨fun _ _ e=>zfD_ e,Heap.get?_none_of_le (Nat.le_succ _),_,zo3_,Heap.get?_none_of_le (Nat.le_refl _),Heap.get?_push_of_some _ (Heap.get?_push_at rfl rfl)⟩
theorem znY_ (T:OwnTail h bmV bm){mN:Str->Option Value}{vs:List Value}{f:Addr}{fo:Obj}{Q:PySem.Fin->Shared->Prop}(hC:h.get? C=some (excClassObj nm q C N bs bm hd sn sub ab col dd k0 k1 k2 k3 k5 "ValueError.__new__"))(hn:h.Ns N mN)(hi:mN "__init__"=some (.ref f))(hf:h.get? f=some fo)(jd:fo.cls=.type "function")
  (hq:∀ h' e,Heap.MadeExcOf h h' e (.ref C) vs->h.objs.size<=e->wpAny (model prog w) A (call (.ref f) (.ref e::vs)) (fun r s'=>r=.none/\Q (.done (.ret (.ref e))) s') E ⟨h',g,d,t,os⟩) (hl:vs.length<=sizeLine):
  wpAny (model prog w) A (Builtin.«type.__call__» ⟨.ref C::vs,[]⟩) Q E ⟨h,g,d,t,os⟩:=by
 have F:=PySem.F.excBase_ValueError
 have c1:(Value.ref C::bm).contains (.ref C)=true:=List.contains_iff_mem.mpr List.mem_cons_self
 have n_:=zfD_ (C:=C) (vs:=vs) hC
 have f1:=zfD_ (C:=C) (vs:=vs) hf
 have T1:=T.keeps (h':=exH h C vs) fun _ _ e=>zfD_ e
 have n1:(exH h C vs).Ns N mN:=by obtain ⟨o,es,ep,e,r⟩:=hn; exact ⟨o,es,ep,zfD_ e,r⟩
 repeat (first | with_reducible refine wpAny_madeBy_exc hC ?_ | with_reducible refine wpAny_loadPart_at hC ?_ | wp_step)
 refine codeAny_call_builtin_code (Code.quiet_builtin _ F.quiet) (wpAny_check_new_subT F T hC (codeAny_exc_new_subT F T hC ?_ hl)); show wpAny _ _ _ _ _ ⟨exH h C vs,_,_,_,_⟩
 unfold isInstance; repeat (first | (with_reducible refine wpAny_isSubtype_exc n_ ?_; rw [c1]) | with_reducible refine wpAny_loadPart_at zo3_ ?_ | wp_step)
 show wpAny _ _ (typeLookup (.ref C) "__init__") _ _ _; refine wpAny_typeLookup_tail n_ n1 T1 F.mroIs F.init.lookup ?_
 rw [hi]; refine wpAny_holding (wpAny_bind ?_); unfold bindSpecial; refine wpAny_bind (wpAny_typeOf (T:="function") ⟨_,f1,jd⟩ ?_); rw [if_pos (by decide)]
 refine wpAny_pure (wpAny_bind (wpAny_mono (hq _ _ znv_ (Nat.le_succ _)) (fun r s' z=>?_) fun _ _ y=>y))
 obtain ⟨rfl,z⟩:=z; wp_walk; exact z
theorem znS_ (T:OwnTail h bmV bm){mN:Str->Option Value}{vs:List Value}{f:Addr}{fo:Obj}{Q:Value->Shared->Prop}(hC:h.get? C=some (excClassObj nm q C N bs bm hd sn sub ab col dd k0 k1 k2 k3 k5 "ValueError.__new__"))(hn:h.Ns N mN)(hi:mN "__init__"=some (.ref f))(hf:h.get? f=some fo)(jd:fo.cls=.type "function")
  (hq:∀ h' e,Heap.MadeExcOf h h' e (.ref C) vs->h.objs.size<=e->wpAny (model prog w) (A.under (.builtin "type.__call__" ⟨.ref C::vs,[]⟩)) (call (.ref f) (.ref e::vs)) (fun r s'=>r=.none/\Q (.ref e) s') E ⟨h',g,d,t,os⟩) (hl:vs.length<=sizeLine):
  wpAny (model prog w) A (call (.ref C) vs) Q E ⟨h,g,d,t,os⟩:=by
 have t1:=tc_lookup; have t2:=tc_bind (.ref C)
 have ty:(⟨h,g,d,t,os⟩:Shared).TypeIs (.ref C) "type":=⟨_,hC,rfl⟩
 refine wpAny_call (codeAny_of_tree ?_); show wpAny _ _ (callAny (.ref C) _) _ _ _
 repeat (any_goals (first | with_reducible refine wpAny_loadPart_at hC ?_ | assumption | wp_step))
 exact ⟨rfl,codeAny_call_builtin_at (Code.quiet_builtin _ (by decide +kernel)) entry_typeCall (wpAny_check_type_call_sub hC (znY_ T hC hn hi hf jd (fun h' e hm hz=>hq h' e hm hz) hl))⟩
variable {M:Model}{env:Env}{ni:String}
theorem zlq_ {s:Shared}{x:Sem Value}{Q:Flow->Shared->Prop}(hb:bm.contains (.type "BaseException")=true)(hh:A.handled=none)
  (k:wpAny M A x (fun v s1=>∃ e oe vs,v=.ref e/\s1.heap.get? C=some (excClassObj nm q C N bs bm hd sn sub ab col dd k0 k1 k2 k3 k5 ni)/\s1.heap.get? e=some oe/\oe.cls=.ref C/\oe.data=.fields vs/\vs[1]?=some .none/\E (.ref e) s1) E s):
  wpAny M A (raiseStmt env (some x) none) Q E s:=by
 have c1:(Value.ref C::bm).contains (.type "BaseException")=true:=by rw [List.contains_cons,hb,Bool.or_true]
 unfold raiseStmt
 refine wpAny_bind (wpAny_mono k (fun v s1 z=>?_) fun _ _ y=>y)
 obtain ⟨e,oe,vs,rfl,hC,he,hc,hdt,h1v,z⟩:=z; obtain ⟨h1,g1,d1,t1,os1⟩:=s1
 repeat (first | (with_reducible refine wpAny_isSubtype_exc hC ?_; rw [c1]) | with_reducible refine wpAny_loadPart_at hC ?_ | (with_reducible refine wpAny_loadPart_at he ?_; try rw [hc]) | wp_step)
 rw [hdt]; refine wpAny_pure ?_; rw [h1v]; refine wpAny_pure ?_; rw [if_neg (by decide)]
 exact wpAny_pure (wpAny_raiseNew_none hh z)
end
section
variable {prog:Program}{w:World}{A:Around}{E:Value->Shared->Prop}{h:Heap}{g:Array GenState}{d:Drawn}{t:Nat}{os:OsState}{nm q:Str}{C N a:Addr}{bs bm:List Value}{sn:List Str}{sub:List Value}{ab:Bool}{col:Option Bool}{dd:Option Addr}{k0 k1 k2 k3 k5:Option Value}{ni:String}{K:Fgg}{mA:Str->Option Value}{name:Str}{v:Value}
theorem zk7_ {tk:Tok}{Q:PySem.Fin->Shared->Prop}(kin:K.In h)(hC:h.get? C=some (excClassObj nm q C N bs bm true sn sub ab col dd k0 k1 k2 k3 k5 ni))(hn:W.findIn K (.ref C) name=some none)(I:h.Inst a C mA)(hv:mA name=some v)(k:Q (.done (.ret v)) ⟨h,g,d,t,os⟩):
  wpAny (model prog w) A (Builtin.«object.__getattribute__» ⟨[.ref a,.str name tk],[]⟩) Q E ⟨h,g,d,t,os⟩:=by
 obtain ⟨o,hx,hc,hnc,jg⟩:=I
 rcases jg with ⟨_,z⟩ | ⟨dx,jg,ne,ns⟩
 ·rw [z name] at hv; cases hv
 have l1:=W.looks_findIn (M:=model prog w) kin hn
 unfold Builtin.«object.__getattribute__»
 repeat (first | (with_reducible refine l1.at ?_) | (with_reducible refine wpAny_loadPart_at hx ?_; try rw [hc]) | wp_step)
 split
 ·rename_i c e; exact absurd e (hnc c)
 unfold instanceDict
 repeat (first | with_reducible refine wpAny_loadPart_at hC ?_ | (with_reducible refine wpAny_loadPart_at hx ?_; try rw [hc]) | wp_step)
 rw [jg]
 unfold Builtin.ObjectAttr.inDict
 repeat (first | (with_reducible refine wpAny_nsGet ns.ns ?_; rw [hv]) | wp_step)
 exact k
end
def excJ (K:Fgg)(C:Addr):Bool:=(K.lookup C).any fun o=>match o.data,o.slots.toList with
 | .cls cd,[_,_,_,_,some (.builtin n),_]=>o.cls==.type "type" && (n=="ValueError.__new__" && (cd.mro==.ref C::cd.mro.tail && (!cd.hasDel && (cd.hasDict && (W.tailIn K bmV cd.mro.tail && (W.nsOkIn K cd.ns && (W.nsIn K cd.ns "__init__"==W.findIn K (.ref C) "__init__" && W.keepIn K (.ref C))))))))
 | _,_=>false
theorem zra_ {K:Fgg}{h:Heap}{N:Addr}{m:Str->Option Value}{n:Str}{v:Value}(kin:K.In h)(G:h.Ns N m)(e:W.nsIn K N n=some (some v)):m n=some v:=by
 obtain ⟨o,es,ep,ho,hd,_,hf⟩:=G
 unfold W.nsIn at e; split at e
 case h_2=>cases e
 case h_1 c d es' n' sl q =>
  have z:=(kin _ _ q).symm.trans ho; cases z; cases hd
  split at e
  case h_2=>split at e<;>cases e
  case h_1 en he=>cases e; rw [<- hf]; unfold nsFind findBy; rw [<- Array.find?_toList,he]; rfl
theorem zeO_ {K:Fgg}{h:Heap}{C:Addr}(kin:K.In h)(q:excJ K C=true):
  ∃ nm qn N bs bm sn sub ab col dd k0 k1 k2 k3 k5 mN,h.get? C=some (excClassObj nm qn C N bs bm true sn sub ab col dd k0 k1 k2 k3 k5 "ValueError.__new__")/\h.Ns N mN/\(∀ f,W.findIn K (.ref C) "__init__"=some (some (.ref f))->mN "__init__"=some (.ref f))/\OwnTail h bmV bm/\W.keepIn K (.ref C)=true:=by
 unfold excJ at q
 cases e:K.lookup C with
 | none=>rw [e] at q; cases q
 | some o =>
  rw [e] at q
  obtain ⟨oc,od,odt,bL⟩:=o
  simp only [Option.any_some] at q
  split at q
  case h_2=>cases q
  case h_1 _ _ cd y0 y1 y2 y3 n y5 m2 =>
   simp only [Bool.and_eq_true,beq_iff_eq,Bool.not_eq_true'] at q
   obtain ⟨rfl,rfl,q3,q4,q5,q6,q7,q8,q9⟩:=q
   have hs:bL=#[y0,y1,y2,y3,some (.builtin "ValueError.__new__"),y5]:=by rw [<- Array.toList_inj]; exact m2
   subst hs
   obtain ⟨nm,bs,mro,ns,qn,hd,sn,sub,ab,col,del⟩:=cd
   dsimp only at q3 q4 q5 q6 q7 q8
   rw [q3] at e
   subst q4 q5
   exact ⟨_,_,_,_,_,_,_,_,_,_,y0,y1,y2,y3,y5,_,kin _ _ e,.of_isNs (W.isNs_of_in kin q7),fun f z=>zra_ kin (.of_isNs (W.isNs_of_in kin q7)) (q8.trans z),W.tail_of_in kin q6,q9⟩
def exA (K:Fgg)(C:Addr)(a:Str):Bool:=W.findIn K (.ref C) "__getattribute__"==some (some (.builtin "BaseException.__getattribute__")) && (W.findIn K (.ref C) "__getattr__"==some none && (W.mroIn K C (.type "BaseException")==some true &&
 (W.mroIn K C (.type "object")==some true && (W.findIn K (.ref C) "__setattr__"==some (some (.builtin "object.__setattr__")) && W.findIn K (.ref C) a==some none))))
section
variable {prog:Program}{w:World}{A:Around}{E:Value->Shared->Prop}{s:Shared}{K:Fgg}{C a:Addr}{name:Str}{v:Value}{mA:Str->Option Value}{o:Obj}
theorem zlV_ (h:exA K C name=true):W.findIn K (.ref C) "__getattribute__"=some (some (.builtin "BaseException.__getattribute__"))/\W.findIn K (.ref C) "__getattr__"=some none/\W.mroIn K C (.type "BaseException")=some true/\W.mroIn K C (.type "object")=some true/\W.findIn K (.ref C) "__setattr__"=some (some (.builtin "object.__setattr__"))/\W.findIn K (.ref C) name=some none:=by
 unfold exA at h; simpa only [Bool.and_eq_true,beq_iff_eq] using h
theorem ty_of {M:Model}{h:Heap}(e:h.get? a=some o)(c:o.cls=.ref C):W.Looks M h (typeOf (.ref a)) (.ref C):=c ▸ (W.Looks.ld e).andThen .now
theorem zmU_ {expr:Bool}{Q:Value->Shared->Prop}(kin:K.In s.heap)(hj:excJ K C=true)(ha:exA K C name=true)(I:s.heap.Inst a C mA)(hv:mA name=some v)(hh:W.handedIn v=true)(k:Q v { s with toks:=s.toks+1 }):
  wpAny (model prog w) A (getAttr (.ref a) name expr) Q E s:=by
 obtain ⟨g1,g2,g3,g4,g5,g6⟩:=zlV_ ha
 obtain ⟨nm,qn,N,bs,bm,sn,sub,ab,col,dd,k0,k1,k2,k3,k5,mN,hC,_⟩:=zeO_ kin hj
 cases s with
 | mk hp gs dr tk ost =>
 have T0:W.Looks (model prog w) hp (typeOf (.ref a)) (.ref C):=by obtain ⟨o,e,c,_⟩:=id I; exact ty_of e c
 have T1:=W.looks_findIn (M:=model prog w) kin g1; have T2:=W.looks_findIn (M:=model prog w) kin g2; have T8:=W.looks_mroIn (M:=model prog w) kin g3
 have n0:(expr && onTheHeap (Value.builtin "BaseException.__getattribute__"))=false:=by cases expr<;>rfl
 have n2:(onTheHeap (Value.ref C) && Value.builtin "BaseException.__getattribute__"==Value.builtin "object.__getattribute__")=false:=(show (Value.builtin "BaseException.__getattribute__"==Value.builtin "object.__getattribute__")=false by decide +kernel)
 have b3:=F.excAttr_ValueError.ga.bind (.ref a)
 unfold getAttr getAttrBy; refine wpAny_bind (wpAny_mkText (wpAny_holding (wpAny_bind (T0.at (wpAny_bind (T1.at ?_)))))); simp only [n2]; rw [if_neg (by decide)]
 unfold getAttrByItsOwn hookBefore; refine wpAny_bind ?_; show wpAny _ _ (typeLookup (.ref C) "__getattr__") _ _ _
 refine T2.at (wpAny_bind (wpAny_attempt (wpAny_holding ?_))); unfold callGetattribute; rw [n0,if_neg (by decide)]; unfold boundAndCalled; rw [b3]
 refine wpAny_bind (wpAny_pure (wpAny_call (codeAny_call_builtin F.excAttr_ValueError.ga.plain F.entry_bexc_ga ?_)))
 show wpAny _ _ (checkBuiltinCall "BaseException.__getattribute__" ⟨[.ref a,.str name tk],[]⟩) _ _ _
 refine LX.check_ga T0 T8 (zk7_ kin hC g6 I hv ?_)
 show wpAny _ _ (handedOut v) _ _ _; rw [W.handedOut_of hh]; exact wpAny_pure k
theorem zjy_ {h:Heap}{bm:List Value}(self:Value)(T:OwnTail h bmV bm):refuseLoop self "__setattr__" bm=pure ():=by
 induction T with
 | base=>exact PySem.F.store_ValueError.passes self
 | own _ _ _ _ ih=>rw [refuseLoop_ref]; exact ih
theorem zhF_ {Q:Unit->Shared->Prop}(kin:K.In s.heap)(hj:excJ K C=true)(ha:exA K C name=true)(hx:s.heap.get? a=some o)(hc:o.cls=.ref C)
  (h:wpAny (model prog w) A.in1 (Builtin.ObjectAttr.storeInOwnDict (.ref a) (.ref C) (.str name s.toks) name v false) (fun r s'=>match r with | .done (.ret _)=>Q () s' | _=>False) E { s with toks:=s.toks+1 }):wpAny (model prog w) A (setAttr (.ref a) name v) Q E s:=by
 obtain ⟨g1,g2,g3,g4,g5,g6⟩:=zlV_ ha
 obtain ⟨nm,qn,N,bs,bm,sn,sub,ab,col,dd,k0,k1,k2,k3,k5,mN,hC,_,_,TL,_⟩:=zeO_ kin hj
 have T0:=ty_of (M:=model prog w) hx hc
 have SF:=PySem.F.store_object
 refine wpAny_bind (wpAny_mkText (wpAny_bind (wpAny_bind (wpAny_bind (T0 _ _ _ _ (fun _ _ e=>e) (W.looks_findIn kin g5 _ _ _ _ (fun _ _ e=>e) (wpAny_holding ?_)))))))
 rw [SF.slot.bind]; refine wpAny_bind (wpAny_pure (wpAny_bind (wpAny_call ?_)))
 have sub:W.Looks (model prog w) s.heap (isInstance (.ref a) (.type "object")) true:=T0.andThen (W.looks_mroIn kin g4)
 refine codeAny_call_builtin SF.slot.plain SF.entry (@W.check_slot (model prog w) _ _ { s with toks:=s.toks+1 } "object.__setattr__" "object" "__setattr__" (.ref a) [.str name s.toks,v] [] _ SF.kind SF.split sub (SF.args (.ref a) (.str name s.toks) v) ?_)
 have hm:W.Looks (model prog w) s.heap (mroOf (.ref C)) (.ref C::bm):=fun A' Q' E' s' k q=>wpAny_mroOf_exc (h:=s'.heap) (k _ _ hC) q
 show wpAny _ _ (Builtin.«object.__setattr__» ⟨[.ref a,.str name s.toks,v],[]⟩) _ _ _
 rw [W.osa_eq,refuse_eq]
 refine wpAny_bind (wpAny_bind (T0.here (s:={ s with toks:=s.toks+1 }) (wpAny_bind (hm.here (s:={ s with toks:=s.toks+1 }) ?_))))
 rw [refuseLoop_ref,zjy_ _ TL]
 refine wpAny_pure (wpAny_bind (T0.here (s:={ s with toks:=s.toks+1 }) (wpAny_bind ((W.looks_findIn kin g6).here (s:={ s with toks:=s.toks+1 }) (wpAny_bind (wpAny_pure ?_))))))
 refine wpAny_mono h (fun r s' z=>?_) fun _ _ z=>z
 rcases r with (_ | _ | _ | _) | _<;>first | exact z.elim | exact wpAny_pure (wpAny_pure z)
variable {dx:Addr}{vs:Array Value}{sl:Array (Option Value)}
def Stop (P:Prop):Prop:=P
theorem zmh_ {M:Model}{d:Addr}{Q:Unit->Shared->Prop}(h:Stop (wpAny M A (nsSet d name v) Q E s)):wpAny M A (nsSet d name v) Q E s:=h
theorem znj_ {Q:Unit->Shared->Prop}(kin:K.In s.heap)(hj:excJ K C=true)(ha:exA K C name=true)(hx:s.heap.get? a=some ⟨.ref C,none,.fields vs,sl⟩)
  (k:∀ h' tk,h'.get? a=some ⟨.ref C,some s.heap.objs.size,.fields vs,sl⟩->(∀ b u,b≠a->s.heap.get? b=some u->h'.get? b=some u)->h'.Ns1 s.heap.objs.size (fun y=>if y=name then some v else none)->Q () { s with heap:=h',toks:=tk }):
  wpAny (model prog w) A (setAttr (.ref a) name v) Q E s:=by
 refine zhF_ kin hj ha hx rfl ?_
 obtain ⟨nm,qn,N,bs,bm,sn,sub,ab,col,dd,k0,k1,k2,k3,k5,mN,hC,_⟩:=zeO_ kin hj
 cases s with
 | mk hp gs dr tk ost =>
 unfold Builtin.ObjectAttr.storeInOwnDict
 repeat (first | with_reducible refine zmh_ ?_ | with_reducible refine wpAny_loadPart_at hC ?_ | with_reducible refine wpAny_loadPart_at hx ?_ | wp_step)
 have fD:a≠hp.objs.size:=Nat.ne_of_lt (Heap.lt_size hx)
 refine wpAny_nsSet1 (Heap.Ns1.of_empty ⟨_,#[],_,(Heap.get?_update_ne _ _ _ _ fD.symm).trans (Heap.get?_push_at rfl rfl),rfl,fun e he=>absurd he (by simp),fun _=>rfl⟩) fun h' fF hs=>?_
 obtain ⟨oD,esD,epD,hoD,hdD,hcD⟩:=fF.count (Within.cons name v Within.nil)
 refine wpAny_bind (wpAny_lookBehind hoD (by rw [hdD]; exact pastItsLine_dict (Nat.le_trans hcD (by rw [List.length_cons,List.length_nil,sizeLine_eq]; lia))) ?_)
 wp_walk
 exact k h' _ ((hs.2 a fD).trans (Heap.get?_update_self _ (Heap.get?_push_of_some _ hx) rfl)) (fun b u hb q=>(hs.2 b (Nat.ne_of_lt (Heap.lt_size q))).trans ((Heap.get?_update_ne _ _ _ _ hb).trans (Heap.get?_push_of_some _ q))) fF
theorem znI_ {Q:Unit->Shared->Prop}{ns:List Str}(kin:K.In s.heap)(hj:excJ K C=true)(ha:exA K C name=true)(hx:s.heap.get? a=some ⟨.ref C,some dx,.fields vs,sl⟩)(hn:s.heap.Ns1 dx mA)(hw:PySem.Within mA ns)(hz:ns.length<=sizeLine)
  (k:∀ h' tk,h'.Ns1 dx (fun y=>if y=name then some v else mA y)->Heap.SameBut dx s.heap h'->Q () { s with heap:=h',toks:=tk }):
  wpAny (model prog w) A (setAttr (.ref a) name v) Q E s:=by
 refine zhF_ kin hj ha hx rfl ?_
 obtain ⟨nm,qn,N,bs,bm,sn,sub,ab,col,dd,k0,k1,k2,k3,k5,mN,hC,_⟩:=zeO_ kin hj
 cases s with
 | mk hp gs dr tk ost =>
 unfold Builtin.ObjectAttr.storeInOwnDict
 repeat (first | with_reducible refine zmh_ ?_ | with_reducible refine wpAny_loadPart_at hC ?_ | with_reducible refine wpAny_loadPart_at hx ?_ | wp_step)
 refine wpAny_nsSet1 hn fun h' fF hs=>?_
 obtain ⟨oD,esD,epD,hoD,hdD,hcD⟩:=fF.count (Within.cons name v hw)
 refine wpAny_bind (wpAny_lookBehind hoD (by rw [hdD]; exact pastItsLine_dict (Nat.le_trans hcD (by rw [List.length_cons]; lia))) ?_)
 wp_walk
 exact k h' _ fF hs
theorem zmL_ {Q:Value->Shared->Prop}{d:Option Addr}{t0:Addr}(kin:K.In s.heap)(hj:excJ K C=true)(hx:s.heap.get? a=some { cls:=.ref C,dict:=d,data:=.fields #[.ref t0,.none,.none,.none,.bool false,.none] })
  (k:∀ h',h'.get? a=some { cls:=.ref C,dict:=d,data:=.fields #[.ref s.heap.objs.size,.none,.none,.none,.bool false,.none] }->(∀ b u,b≠a->s.heap.get? b=some u->h'.get? b=some u)->Q .none { s with heap:=h' }):
  wpAny (model prog w) A (call (.builtin "ValueError.__init__") [.ref a,v]) Q E s:=by
 obtain ⟨nm,qn,N,bs,bm,sn,sub,ab,col,dd,k0,k1,k2,k3,k5,mN,hC,_,_,TL,_⟩:=zeO_ kin hj
 have F:=PySem.F.excBase_ValueError
 cases s with
 | mk hp gs dr tk ost =>
 refine wpAny_call (codeAny_call_builtin F.init.plain F.initEntry (wpAny_check_init_subU F TL hC hx rfl ?_))
 wp_walk
 refine k _ ?_ fun b u hb q=>(Heap.get?_update_other _ _ (Ne.symm hb)).trans (Heap.get?_push_of_some _ q)
 rw [Heap.get?_update_self _ (Heap.get?_push_of_some _ hx) rfl]; rfl
end
def XMt (x C:Addr)(d:Option Addr)(h:Heap):Prop:=∃ t,h.get? x=some { cls:=.ref C,dict:=d,data:=.fields #[.ref t,.none,.none,.none,.bool false,.none] }
abbrev XM (x C:Addr)(d:Option Addr):HO:=.ext (XMt x C d)
theorem zro_ {P:Program}{w:World}{H:Hp}{x C:Addr}{d:Option Addr}{h:Heap}(q:XMt x C d h):ObjOk P w H h x (XM x C d):=⟨q,(by obtain ⟨t,e⟩:=q; exact ⟨_,e⟩),fun h1 h2 ⟨t,e⟩ k=>⟨t,k _ e⟩⟩
theorem zmZ_ {H:Hp}{a:Addr}{o:HO}(h:H a=some o):upd H a o=H:=by
 funext b
 unfold upd
 split
 ·rename_i e; rw [e,h]
 ·rfl
def rem (H:Hp)(a:Addr):Hp:=fun b=>if b=a then none else H b
theorem zfN_ {H:Hp}{a b:Addr}(h:b≠a):rem H a b=H b:=if_neg h
theorem zkx_ {H:Hp}{a:Addr}:rem H a a=none:=if_pos rfl
section
variable {X:Cx}{pins:Pnn}{σ:St}{H:Hp}{s:Shared}{a C dx:Addr}{d:Option Addr}{fs:List (Str×V)}{f:Str}{y v:V}{u:Value}{A:Around}{E:Value->Shared->Prop}{φ:Heap->Prop}
theorem Inv.drop (I:Inv X pins σ H s)(e:H a=some (.ext φ))(n:X.s₀.heap.get? a=none):Inv X pins σ (rem H a) s:=by
 have g:∀ b,H b=none->rem H a b=none:=fun b z=>by
  unfold rem; split
  ·rfl
  ·exact z
 refine ⟨I.ok,I.os,I.bare,⟨I.base.keep,I.base.slot,fun b o q z hx=>g b (I.base.free b o q z hx),I.base.there,fun b xs q=>?_,fun b o u q=>?_,fun b ps q=>?_⟩,I.loc,I.cell,g _ I.free,fun x c q=>g _ (I.freeC x c q),fun p hp=>?_,fun b o q=>?_,I.len⟩
 ·have z:=I.base.tups b xs q
  rw [zfN_ (fun w=>by rw [w,e] at z; cases z)]; exact z
 ·have z:=I.base.frzs b o u q
  rw [zfN_ (fun w=>by rw [w,e] at z; cases z)]; exact z
 ·obtain ⟨m,z⟩:=I.base.tbls b ps q
  exact ⟨m,by rw [zfN_ (fun w=>by rw [w,e] at z; cases z)]; exact z⟩
 ·obtain ⟨q1,q2,q3⟩:=I.pin p hp
  exact ⟨q1,g _ q2,q3⟩
 ·by_cases hb:b=a
  ·rw [hb,zkx_] at q; cases q
  ·rw [zfN_ hb] at q
   exact (I.hok b o q).stay (fun _ _ _ z=>z) (fun c z=>by rw [zfN_ (fun w=>by rw [w,e] at z; cases z)]; exact z) fun c xs z=>by rw [zfN_ (fun w=>by rw [w,e] at z; cases z)]; exact z
theorem Inv.addX {h':Heap}{us:List Value}(I:Inv X pins σ H s)(m:Heap.MadeExcOf s.heap h' a (.ref C) us)(hs:s.heap.objs.size<=a):Inv X pins σ (upd H a (XM a C none)) { s with heap:=h' }:=by
 obtain ⟨t,he,_,_⟩:=m.there
 exact I.laid (t':=s.toks) m.keeps hs (zro_ ⟨t,he⟩)
theorem zpc_ {Q:Unit->Shared->Prop}(I:Inv X pins σ H s)(e:H a=some (XM a C none))(hj:excJ X.K C=true)(ha:exA X.K C f=true)(ry:RelV y u)
  (h:∀ s' dx,H dx=none->Inv X pins σ (upd (upd H dx (XDO dx [(f,y)])) a (XM a C (some dx))) s'->Q () s'):wpAny (model X.prog X.w) A (setAttr (.ref a) f u) Q E s:=by
 obtain ⟨⟨t,hx⟩,_⟩:=I.hok a _ e
 have fr:H s.heap.objs.size=none:=I.hok.fresh (Nat.le_refl _)
 refine znj_ I.kIn hj ha hx fun h' tk g1 g2 g3=>h _ s.heap.objs.size fr ?_
 have na:s.heap.objs.size≠a:=fun z=>by rw [z,e] at fr; cases fr
 have nd:∀ b o,s.heap.get? b=some o->b≠s.heap.objs.size:=fun b o q=>Nat.ne_of_lt (Heap.lt_size q)
 have tr:∀ b,b≠a->b≠s.heap.objs.size->upd (upd H s.heap.objs.size (XDO s.heap.objs.size [(f,y)])) a (XM a C (some s.heap.objs.size)) b=H b:=fun b z1 z2=>by rw [zI_ z1,zI_ z2]
 have nH:∀ b o,H b=some o->b≠s.heap.objs.size:=fun b o q z=>by rw [z,fr] at q; cases q
 refine I.un (h':=h') (t':=tk) ⟨fun b o q n _ _=>g2 b o (fun z=>by rw [z,e] at n; cases n) q,fun b o q n _ _=>⟨o.slots,g2 b o (fun z=>by rw [z,e] at n; cases n) q⟩,fun b o q n _=>?_,fun b o q _=>?_,fun b xs q=>?_,fun b o u q=>?_,fun b ps q=>⟨#[],?_⟩⟩ fun b o q=>?_
 ·rw [tr b (fun z=>by rw [z,e] at n; cases n) (nd b o q)]; exact n
 ·by_cases hb:b=a
  ·rw [hb]; exact ⟨_,g1⟩
  ·exact ⟨o,g2 b o hb q⟩
 ·rw [tr b (fun z=>by rw [z,e] at q; cases q) (nH b _ q)]; exact q
 ·rw [tr b (fun z=>by rw [z,e] at q; cases q) (nH b _ q)]; exact q
 ·rw [tr b (fun z=>by rw [z,e] at q; cases q) (nH b _ q),Array.append_empty]; exact q
 ·by_cases hb:b=a
  ·subst hb; rw [zx_] at q; cases q; exact zro_ ⟨t,g1⟩
  ·rw [zI_ hb] at q
   by_cases hd:b=s.heap.objs.size
   ·rw [hd,zx_] at q; cases q
    rw [hd]
    refine xd_ok ⟨_,g3,fun g=>?_,fun g hg=>?_⟩
    ·rw [List.lookup_cons]
     by_cases z:g=f
     ·rw [z,beq_self_eq_true,if_pos rfl]; exact ry
     ·rw [beq_eq_false_iff_ne.mpr z,if_neg z]; exact True.intro
    ·by_cases z:g=f
     ·rw [z]; exact List.mem_cons_self
     ·exact absurd (if_neg z) hg
   ·rw [zI_ hd] at q
    refine (I.hok b o q).stay (fun c w hc z=>g2 c w (fun zz=>?_) z) (fun c z=>?_) fun c xs z=>?_
    ·rcases hc with rfl | hc
     ·exact hb zz
     ·rw [zz,e] at hc; cases hc
    ·rw [tr c (fun w=>by rw [w,e] at z; cases z) (nH c _ z)]; exact z
    ·rw [tr c (fun w=>by rw [w,e] at z; cases z) (nH c _ z)]; exact z
theorem zpn_ {Q:Unit->Shared->Prop}(I:Inv X pins σ H s)(e:H a=some (XM a C (some dx)))(ed:H dx=some (XDO dx fs))(hj:excJ X.K C=true)(ha:exA X.K C f=true)(hl:fs.length<1000)(ry:RelV y u)
  (h:∀ s',Inv X pins σ (upd H dx (XDO dx (putF f y fs))) s'->Q () s'):wpAny (model X.prog X.w) A (setAttr (.ref a) f u) Q E s:=by
 obtain ⟨⟨t,hx⟩,_⟩:=I.hok a _ e
 obtain ⟨⟨mA,n1,n2,n3⟩,_⟩:=I.hok dx _ ed
 have hz:(fs.map (·.1)).length<=sizeLine:=by rw [List.length_map,sizeLine_eq]; lia
 refine znI_ I.kIn hj ha hx n1 n3 hz fun h' tk g1 g2=>h _ ?_
 refine I.write (t':=tk) (x:=dx) (e:=dx) (by rw [ed]; exact True.intro) (.inl rfl) (fun b q hb z=>(g2.2 b hb).trans z) (by obtain ⟨o,_,_,z,_⟩:=g1; exact ⟨o,z⟩) (xd_ok ⟨_,g1,fun g=>?_,fun g hg=>?_⟩)
 ·rw [zdd_]
  by_cases q:g=f
  ·rw [if_pos q,if_pos q]; exact ry
  ·rw [if_neg q,if_neg q]; exact n2 g
 ·by_cases q:g=f
  ·rw [q]; exact (zcG_ f y fs).1
  ·refine (zcG_ f y fs).2 g (n3 g fun z=>hg ?_)
   show (if g=f then some u else mA g)=none
   rw [if_neg q]; exact z
theorem zoA_ {Q:Value->Shared->Prop}{u:Value}(I:Inv X pins σ H s)(e:H a=some (XM a C d))(hj:excJ X.K C=true)(h:∀ s',Inv X pins σ H s'->Q .none s'):wpAny (model X.prog X.w) A (call (.builtin "ValueError.__init__") [.ref a,u]) Q E s:=by
 obtain ⟨⟨t,hx⟩,_⟩:=I.hok a _ e
 refine zmL_ I.kIn hj hx fun h' g1 g2=>h _ ?_
 have z:=I.write (t':=s.toks) (o:=XM a C d) (x:=a) (e:=a) (by rw [e]; exact True.intro) (.inl rfl) g2 ⟨_,g1⟩ (zro_ ⟨_,g1⟩)
 rw [zmZ_ e] at z
 exact z
theorem zpu_ {b:Bool}{Q:Value->Shared->Prop}(I:Inv X pins σ H s)(e:H a=some (XO a C (some dx)))(ed:H dx=some (XDO dx fs))(hj:excJ X.K C=true)(ha:exA X.K C f=true)(l:fs.lookup f=some v)
  (h:∀ u s',Inv X pins σ H s'->RelV v u->Q u s'):wpAny (model X.prog X.w) A (getAttr (.ref a) f b) Q E s:=by
 obtain ⟨⟨o,vs,q1,q2,q3,q4,_⟩,_⟩:=I.hok a _ e
 obtain ⟨⟨mA,n1,n2,n3⟩,_⟩:=I.hok dx _ ed
 obtain ⟨u,hu,ru⟩:=RelO.some_of (v:=v) (o:=mA f) (by rw [<- l]; exact n2 f)
 have ne:dx≠a:=by
  rintro rfl
  obtain ⟨o',es,ep,z1,z2,_⟩:=id n1
  cases q1.symm.trans z1
  rw [q4] at z2; cases z2
 exact zmU_ I.kIn hj ha ⟨o,q1,q2,(fun c z=>by rw [q4] at z; cases z),.inr ⟨dx,q3,ne,n1⟩⟩ hu (zhG_ ru) (h u _ (I.tok _) ru)
end
def mXFld (K:Fgg)(te:TE)(f:Str):TE:=fun σ H Q=>te σ H fun x H1=>match x with
 | .ref a=>∃ C dx fs v,H1 a=some (XO a C (some dx))/\H1 dx=some (XDO dx fs)/\(excJ K C=true/\exA K C f=true)/\fs.lookup f=some v/\Q v H1
 | _=>False
def mXSet (C:Addr)(te tv:TE)(f:Str):TS:=fun D σ H=>tv σ H fun y H1=>te σ H1 fun x H2=>match x with
 | .ref a=>(∃ dx fs,H2 a=some (XM a C (some dx))/\H2 dx=some (XDO dx fs)/\fs.length<1000/\D.nx σ (upd H2 dx (XDO dx (putF f y fs))))\/(H2 a=some (XM a C none)/\∀ dx,H2 dx=none->D.nx σ (upd (upd H2 dx (XDO dx [(f,y)])) a (XM a C (some dx))))
 | _=>False
def mBInit (C:Addr)(t:TA):TS:=fun D σ H=>t σ H fun vs H1=>match vs with
 | [.ref a,_]=>∃ d,H1 a=some (XM a C d)/\D.nx σ H1
 | _=>False
def binK (K:Fgg)(B:Addr):Bool:=W.specialIn K (.ref B) "__getattribute__"==some (some (.builtin "type.__getattribute__")) && (W.readsIn K B (.type "type") && match W.findCls K (.ref B) (.type "type") "__init__" with | some (.val v)=>v==.builtin "ValueError.__init__" | _=>false)
section
variable {X:Cx}{e value o:Expr}{f x:Str}{p pos pos' apos:Pos}{ta tv te:TE}{t:TA}{C B:Addr}
theorem zlQ_ (he:PE X e te)(hb:attributeBase e f X.env (eval e X.env)=eval e X.env:=by rfl):PE X (.Attribute e f pos) (mXFld X.K te f):=by
 intro pins s σ H Q I h
 refine zmt_ hb (thn (he pins s σ H _ I h) fun u s1 ao=>?_)
 obtain ⟨x,H1,I1,rx,q1⟩:=ao
 cases x with
 | ref a =>
  obtain ⟨C,dx,fs,v,ea,ed,⟨hj,ha⟩,l,q⟩:=q1
  obtain rfl:u=Value.ref a:=rx
  exact zpu_ I1 ea ed hj ha l fun u' s2 I2 ru=>⟨v,H1,I2,ru,q⟩
 | _=>exact q1.elim
theorem zmo_ (hj:excJ X.K C=true)(hA:exA X.K C f=true)(ha:PE X o ta)(hv:PE X value tv)(hs:swapsWith value (some (.Attribute o f pos')) pos.line X.env=pure false:=by rfl):PS X (.Assign [.Attribute o f pos'] value pos) (mXSet C ta tv f):=by
 intro pins s σ H D I h
 refine plainObj_wpAny_Assign_Attribute (thn (hv pins s σ H _ I h) fun u s1 ⟨y,H1,I1,ry,q⟩=>thn (ha pins s1 σ H1 _ I1 q) fun ov s2 ao=>?_) hs
 obtain ⟨x,H2,I2,rx,q2⟩:=ao
 cases x with
 | ref a =>
  obtain rfl:ov=Value.ref a:=rx
  rcases q2 with ⟨dx,fs,ea,ed,l,q3⟩ | ⟨ea,q3⟩
  ·exact zpn_ I2 ea ed hj hA l ry fun s3 I3=>⟨σ,_,I3,q3⟩
  ·exact zpc_ I2 ea hj hA ry fun s3 dx hd I3=>⟨σ,_,I3,q3 dx hd⟩
 | _=>exact q2.elim
theorem znf_ {pl:Sem Bool}{e2:Expr}(hj:excJ X.K C=true)(hk:binK X.K B=true)(hm:X.mg x=some (.ref B))(ha:PA X [e,e2] t)(hg:Gl X x:=by rfl)(aV:(x==("__debug__":Str))=false:=by decide)
  (bE:starEach [e,e2] X.env=(false,eval e X.env)::starEach [e2] X.env:=by rfl) (aQ:(backTo pos (starEach [e2] X.env)).any (·.1)=false:=by rfl)
  (ht:eval (.Call (.Attribute (.Name x p) "__init__" apos) [e,e2] [] pos) X.env=(do
   let ov <- eval (.Name x p) X.env
   standAt apos.atName
   let (f,first) <- holding [ov] (getMethod ov "__init__" pl)
   callWith pos f first (backTo pos (starEach [e,e2] X.env)) (backToKw pos (keywordEach [] X.env))):=by rfl)
  (hs:swapsWith (.Call (.Attribute (.Name x p) "__init__" apos) [e,e2] [] pos) none pos'.line X.env=pure false:=by rfl):
  PS X (.Expr (.Call (.Attribute (.Name x p) "__init__" apos) [e,e2] [] pos) pos') (mBInit C t):=by
 unfold binK at hk
 simp only [Bool.and_eq_true,beq_iff_eq] at hk
 obtain ⟨h1,h2,h3⟩:=hk
 split at h3
 case h_2=>cases h3
 case h_1 v0 h4 =>
  obtain rfl:v0=_:=beq_iff_eq.mp h3
  have hn:PE X (.Name x p) (tC (.ref B)):=zjg_ hg hm rfl aV
  intro pins s σ H D I h
  refine wpAny_Expr_any (Q:=SP X pins D) ?_ I.quiet hs
  refine W.methodCall_KW (pl:=pl) (thn (hn pins s σ H (fun v H1=>v=.ref B/\mBInit C t D σ H1) I ⟨rfl,h⟩) fun u s1 ao=>?_) ht
  obtain ⟨x,H1,I1,rx,ex,q⟩:=ao
  subst ex
  obtain rfl:u=Value.ref B:=rx
  refine W.method_cls I1.kIn h1 (W.cls_value I1.kIn h2 h4 rfl ?_)
  refine PyProof.Rows.callWith_builtin1 (thn (ha pos pins _ σ H1 _ (I1.tok _) q) fun us s2 ao=>?_) bE aQ
  obtain ⟨vs,H2,I2,r,q2⟩:=ao
  match vs,q2 with
  | [.ref a,w],⟨d,ea,q3⟩ =>
   obtain ⟨u1,u2,rfl,r1,r2⟩:=vals2 r
   obtain rfl:u1=Value.ref a:=r1
   exact zoA_ I2 ea hj fun s3 I3=>⟨σ,H2,I3,q3⟩
end
def GxI (P:Program)(w:World)(K:Fgg)(mg:Str->Option Value)(base:Heap)(k:Nat)(x:Str)(C:Addr)(ps:List Str)(sp:Sp):Prop:=
 ∃ f fd,FnOk P w K mg base CX0 k f fd ps sp/\excJ K C=true/\W.findIn K (.ref C) "__init__"=some (some (.ref f))/\W.isFn K (.ref f)=true/\mg x=some (.ref C)/\Binds K fd ps []
def tRaiseI (C:Addr)(sp:Sp)(E:XK)(t:TA):TS:=fun _ σ H=>t σ H fun vs H1=>vs.length<=100/\∀ x,H1 x=none->sp (.ref x::(vs++[])) (upd H1 x (XM x C none)) (fun v H2=>v=.non/\∃ d,H2 x=some (XM x C d)/\E (.ref C) d (rem H2 x)) E0
theorem fn_at {K:Fgg}{h:Heap}{f:Addr}(kin:K.In h)(q:W.isFn K (.ref f)=true):∃ o,h.get? f=some o/\o.cls=.type "function":=by
 unfold W.isFn W.typeIn at q
 have q:Option.map (fun x=>x.cls) (List.lookup f K)=some (.type "function"):=beq_iff_eq.mp q
 cases e:List.lookup f K with
 | none=>rw [e] at q; cases q
 | some o=>rw [e] at q; exact ⟨o,kin _ _ e,Option.some.inj q⟩
section
variable {X:Cx}{E:XK}{C:Addr}{x:Str}{e:Expr}{es:List Expr}{t:TA}{np aP pos:Pos}{k:Nat}{ps:List Str}{sp:Sp}
theorem zhC_ (hT:Takes X E)(fZ:X.calm=true)(G:GxI X.prog X.w X.K X.mg X.base k x C ps sp)(hr:Room (k+1) X.A)(ha:PA X (e::es) t)(hg:Gl X x:=by rfl)(aV:(x==("__debug__":Str))=false:=by decide)
  (he:starEach (e::es) X.env=(false,eval e X.env)::starEach es X.env:=by rfl) (aQ:(backTo aP (starEach es X.env)).any (·.1)=false:=by rfl) (hex:X.ex=[]:=by rfl):
  PS X (.Raise (some (.Call (.Name x np) (e::es) [] aP)) none pos) (tRaiseI C sp E t):=by
 obtain ⟨f,fd,Fo,hj,hf,gD,hm,hb⟩:=G
 intro pins s σ H D I h
 obtain ⟨nm,qn,N,bs,bm,sn,sub,ab,col,dd,k0,k1,k2,k3,k5,mN,hC,hN,dG,TL,hkp⟩:=zeO_ I.ok.mod.kin hj
 rw [arm_exec_Raise]
 refine wpAny_bind (wpAny_standAt (zlq_ (C:=C) (nm:=nm) (q:=qn) (N:=N) (bs:=bs) (bm:=bm) (hd:=true) (sn:=sn) (sub:=sub) (ab:=ab) (col:=col) (dd:=dd) (k0:=k0) (k1:=k1) (k2:=k2) (k3:=k3) (k5:=k5) (ni:="ValueError.__new__") (TL.hasType rfl) (I.ok.hd fZ) ?_))
 refine wpAny_bind (thn (wpAny_Call_Name_kw (zcj_ I hg hm (W.callWith_K (h₀:=X.base) I.ok.mod.kin hkp (thn (ha aP pins s σ H _ I h) fun us s1 ⟨vs,H1,I1,r,q⟩=>⟨I1.kIn,?_⟩) he aQ) aV)) fun v s3 h3=>wpAny_bind (wpAny_standAt (wpAny_pure h3)))
 obtain ⟨hl,q⟩:=q
 obtain ⟨fo,hfo,jd⟩:=fn_at I1.kIn gD
 obtain ⟨hp,gg,dr,tk,ost⟩:=s1
 refine znS_ (TL.keeps I1.bk) (I1.bk _ _ hC) (hN.keeps I1.bk) (dG f hf) hfo jd (fun h' a lF hz=>?_) (by show us.length<=_; rw [<- r.length]; exact Nat.le_trans hl (by rw [sizeLine_eq]; decide))
 have I2:=I1.addX lF hz
 have hq:=q a (I1.hok.none_at lF.new)
 have r2:Vals (V.ref a::(vs++[])) (Value.ref a::(us++[])):=.cons rfl (r.append .nil)
 have jX:(Value.ref a::us++[]).length=ps.length:=by
  have e:=r2.length
  rw [Fo.len _ _ _ _ hq] at e
  exact e.symm
 have yg:X.s₀.heap.get? a=none:=by
  cases e:X.s₀.heap.get? a with
  | none=>rfl
  | some o =>
   obtain ⟨o',z⟩:=I1.base.there a o e (fun z=>by rw [hex] at z; cases z)
   rw [lF.new] at z; cases z
 have qp:BindsTo ⟨h',gg,dr,tk,ost⟩ fd ⟨Value.ref a::us,[]⟩ (ps.zip (Value.ref a::(us++[]))):=by have z:=hb ⟨h',gg,dr,tk,ost⟩ (Value.ref a::us) I2.kIn jX; rwa [List.cons_append] at z
 refine wpAny_call (codeAny_mono (Fo.run _ X.stack _ _ ⟨Value.ref a::us,[]⟩ (Value.ref a::(us++[])) _ _ E0 (hr.make C us []) (I2.env0.make C us []) qp r2 hq) fun r s' dm=>?_)
 cases r with
 | error e=>exact pass0 (X:=X) pins σ _ _ e s' I2 dm
 | ok fl =>
  cases fl with
  | ret u =>
   obtain ⟨v,H',I3,rv,ev,d,hd,q3⟩:=I2.after dm
   subst ev
   obtain ⟨⟨t,hx⟩,_⟩:=I3.hok a _ hd
   exact ⟨rv,a,_,_,rfl,I3.bk _ _ hC,hx,rfl,rfl,rfl,hT pins σ (rem H' a) s' a C _ _ _ (I3.drop hd yg) zkx_ yg hx rfl rfl rfl rfl rfl q3⟩
  | next=>exact False.elim dm
  | brk=>exact False.elim dm
  | cont=>exact False.elim dm
end
def CtI {γ:Type}(K:Fgg)(C:Addr)(Q:Cs γ)(g:γ->Mo (List Nat))(ns:List Str):Sp:=fun vs H R E=>∃ F c x ws,vs=.ref x::ws/\Same F H/\H x=some (XM x C none)/\Q.R c ws F /\
 After K (g c) E F H fun _ _ H'=>∀ dx,H' dx=none->R .non (upd (upd H' dx (XDO dx (ns.zip ws))) x (XM x C (some dx)))
section
variable {K:Fgg}{E:XK}{α β γ ρ S B:Type}{F0 H0 F h H:Hp}{L:List Sl}{O:Own ρ}{LS:S->List Sl}{LB:B->List Sl}{C:Addr}
theorem xi_rd {te:TE}{T1:Ty α}{T2:Ty β}{g:α×β->Mo (List Nat)}{T3:Ty (List Nat)}{n1 n2:Str}{N:List Str}(hN:N.length=3)(cF:n1≠n2)(ev:∀ c E,EvF K te E [.dead,.fz T1 c.1,.fz T2 c.2] (g c) T3):
  ∀ vs H R E,CtI K C (csCons T1 (csLast T2)) g [n1,n2] vs H R E->tSeq (mBInit C (tCons (mVar 0) (tCons te tNil))) (tSeq (mXSet C (mVar 0) (mVar 1) n1) (mXSet C (mVar 0) (mVar 2) n2)) { nx:=fun _ H'=>R .non H',rt:=R } (start N vs) H:=by
 rintro vs H R E ⟨F,c,x,ws,rfl,hs,hx,⟨w1,us,rfl,h1,w2,rfl,h2⟩,q⟩
 have bE:start N [V.ref x,w1,w2]=[some (.ref x),some w1,some w2]:=by unfold start; rw [hN]; rfl
 rw [bE]
 refine ev c E _ F H _ (fun i s e=>?_) hs (q.imp fun txt F1 H1 ex k v hv=>?_)
 ·match i with
  | 0=>cases e; trivial
  | 1=>cases e; exact ⟨w1,rfl,h1⟩
  | 2=>cases e; exact ⟨w2,rfl,h2⟩
  | i+3=>cases e
 ·have eU:H1 x=some (XM x C none):=ex.2.2.1 _ _ hx
  refine ⟨none,eU,?_⟩
  refine .inr ⟨eU,fun dx hd=>?_⟩
  have ne:dx≠x:=fun z=>by rw [z,eU] at hd; cases hd
  refine .inl ⟨dx,[(n1,w1)],zx_,by rw [zI_ ne]; exact zx_,(show (1:Nat)<1000 by decide),?_⟩
  have e1:putF n2 w2 [(n1,w1)]=[(n1,w1),(n2,w2)]:=by unfold putF; rw [if_neg cF]; rfl
  rw [e1]
  have e2:upd (upd (upd H1 dx (XDO dx [(n1,w1)])) x (XM x C (some dx))) dx (XDO dx [(n1,w1),(n2,w2)])=upd (upd H1 dx (XDO dx [(n1,w1),(n2,w2)])) x (XM x C (some dx)):=by
   funext b
   unfold upd
   by_cases z1:b=dx
   ·rw [if_pos z1,if_neg (fun z2=>ne (z1.symm.trans z2)),if_pos z1]
   ·rw [if_neg z1,if_neg z1,if_neg z1]
  rw [e2]
  exact k dx hd
theorem zkw_ {cn:String}{Q:Cs γ}{n:Nat}{ns:List Str}{g:γ->Mo (List Nat)}{as:γ->List (Str×Av)}{ta:TA}{r:Mo γ}(hl:CsN Q n)(qq:∀ c ws F,Q.R c ws F->AtR (as c) (ns.zip ws) F)(h:EvA K ta E L r Q)(hn:n<=100:=by decide):
  EvS K (tRaiseI (gA K cn) (CtI K (gA K cn) Q g ns) E ta) E L (r.bind fun c=>(Mo.noex (g c)).bind fun _=>.ex (.at cn (as c))) LS LB O:=by
 intro F0 H0 σ F hh H D hL ok fin
 refine h σ (un F hh) H _ (hL.froz ok.2.1) ok.thaw (zW_ (G:=F) ok _ (.inl rfl) fin fun a F' H' hr x vs hv=>?_)
 rw [hr] at fin
 refine ⟨by rw [hl hv]; exact hn,fun xx iW=>⟨F',a,xx,vs,by rw [List.append_nil],x.2.1.trans (zbf_ iW _),zx_,hv,?_⟩⟩
 cases e:g a with
 | no=>rw [show Mo.bind (Mo.ok a) (fun c=>(Mo.noex (g c)).bind fun _=>.ex (.at cn (as c)))=(Mo.noex (g a)).bind fun _=>(.ex (.at cn (as a)):Mo (Out ρ B S)) from rfl,e] at fin; exact fin
 | ex c=>rw [show Mo.bind (Mo.ok a) (fun c=>(Mo.noex (g c)).bind fun _=>.ex (.at cn (as c)))=(Mo.noex (g a)).bind fun _=>(.ex (.at cn (as a)):Mo (Out ρ B S)) from rfl,e] at fin; exact fin.elim
 | ok txt =>
  rw [show Mo.bind (Mo.ok a) (fun c=>(Mo.noex (g c)).bind fun _=>.ex (.at cn (as c)))=(Mo.noex (g a)).bind fun _=>(.ex (.at cn (as a)):Mo (Out ρ B S)) from rfl,e] at fin
  intro F2 H2 y dx hd
  refine ⟨rfl,some dx,zx_,?_⟩
  have lp:H2 xx=some (XM xx (gA K cn) none):=y.2.2.1 _ _ zx_
  have ne:dx≠xx:=fun z=>by rw [z,lp] at hd; cases hd
  have fJ:F' xx=none:=x.2.1.free iW
  have jY:F2 xx=none:=by
   cases z:F2 xx with
   | none=>rfl
   | some o=>have:=y.2.2.2 xx fJ (by rw [z]; exact sN _); rw [zx_] at this; cases this
  have js:F2 dx=none:=y.2.1.free hd
  have up:∀ p,H' p≠none->p≠xx:=fun p z w=>z (by rw [w]; exact iW)
  have jS:Same H' H2:=(zbf_ iW _).trans y.2.2.1
  have nZ:∀ p o,p≠xx->H2 p=some o->rem (upd (upd H2 dx (XDO dx (ns.zip vs))) xx (XM xx (gA K cn) (some dx))) xx p=some o:=fun p o n z=>by
   rw [zfN_ n,zI_ n,zI_ (fun w=>by rw [w,hd] at z; cases z)]; exact z
  have lT:rem (upd (upd H2 dx (XDO dx (ns.zip vs))) xx (XM xx (gA K cn) (some dx))) xx dx=some (XDO dx (ns.zip vs)):=by rw [zfN_ ne,zI_ ne]; exact zx_
  have Y:Ext (un F hh) H (upd F2 dx (XDO dx (ns.zip vs))) (rem (upd (upd H2 dx (XDO dx (ns.zip vs))) xx (XM xx (gA K cn) (some dx))) xx):=by
   refine ⟨(x.1.trans y.1).trans (zbf_ js _),fun p o z=>?_,fun p o z=>nZ p o (up p (by rw [x.2.2.1 _ _ z]; exact sN _)) (jS _ _ (x.2.2.1 _ _ z)),fun p a1 b1=>?_⟩
   ·by_cases w:p=dx
    ·rw [w,zx_] at z; cases z; rw [w]; exact lT
    ·rw [zI_ w] at z
     exact nZ p o (fun v=>by rw [v,jY] at z; cases z) (y.2.1 _ _ z)
   ·by_cases w:p=dx
    ·rw [w]; exact (x.2.2.1.trans jS).free hd
    ·rw [zI_ w] at b1
     cases z:F' p with
     | some o=>exact x.2.2.2 p a1 (by rw [z]; exact sN _)
     | none =>
      have q:=y.2.2.2 p z b1
      exact x.2.2.1.free ((zbf_ iW (XM xx (gA K cn) none)).free q)
  obtain ⟨o1,o2,o3⟩:=ok.back Y
  have qj:hh dx=none:=ok.2.2.1.free ((x.2.2.1.trans jS).free hd)
  refine fin _ hh _ o1 dx _ (ok.1.2.2.1.free ((x.2.2.1.trans jS).free hd)) ?_ ((qq a vs F' hv).imm fun p xs z=>o3 p xs ?_)
  ·rw [zr_ qj]; exact zx_
  ·rw [zI_ (fun w=>by rw [w] at z; have:=y.1 _ _ z; rw [js] at this; cases this)]; exact y.1 _ _ z
end
def Xc.c:Xc->String
 | .pl c=>c
 | .at c _=>c
def XAtt (x:Xc)(d:Option Addr)(H:Hp):Prop:=match x with
 | .pl _=>d=none
 | .at _ as=>∃ dx fs,d=some dx/\H dx=some (XDO dx fs)/\AtR as fs H
theorem XAtt.mono {x:Xc}{d:Option Addr}{H H':Hp}(g:Same H H')(h:XAtt x d H):XAtt x d H':=by
 cases x with
 | pl c=>exact h
 | «at» c as=>obtain ⟨dx,fs,e,q,r⟩:=h; exact ⟨dx,fs,e,g _ _ q,r.imm g.tups⟩
abbrev tyXc (K:Fgg):Ty Xc:=⟨fun x v H=>∃ p d,v=.ref p/\H p=some (XO p (gA K x.c) d)/\XAtt x d H,fun g ⟨p,d,e,q,r⟩=>⟨p,d,e,g _ _ q,r.mono g⟩⟩
def Mo.tr {α β:Type}(r:Mo α)(k:α->Mo β)(hd:Xc->Mo β):Mo β:=match r with | .ok a=>k a | .ex x=>hd x | .no=>.no
def Mo.cat {β:Type}(t:List (String×Bool))(c:String)(k1 k2:Mo β):Mo β:=match t.lookup c with | some true=>k1 | some false=>k2 | none=>.no
def CatT (K:Fgg)(S:String)(t:List (String×Bool)):Prop:=∀ p∈t,(if p.2 then catK K (gA K p.1) (gA K S) else catN K (gA K p.1) (gA K S))=true
def IsaT (K:Fgg)(v:Value)(t:List (String×Bool)):Prop:=∀ p∈t,isaK K (gA K p.1) v=some p.2
theorem zbt_ {β:Type}{c:String}{b:β}:∀ {t:List (String×β)},t.lookup c=some b->(c,b)∈t
 | [],h=>by cases h
 | (d,x)::t,h=>by
  rw [List.lookup_cons] at h
  split at h
  ·rename_i e; cases h; rw [eq_of_beq e]; exact List.mem_cons_self
  ·exact List.mem_cons_of_mem _ (zbt_ h)
theorem zgC_ {K:Fgg}{S:String}:CatT K S []:=fun _ h=>nomatch h
theorem ziY_ {K:Fgg}{S c:String}{t:List (String×Bool)}(h:catK K (gA K c) (gA K S)=true)(r:CatT K S t):CatT K S ((c,true)::t):=fun p hp=>by
 rcases List.mem_cons.mp hp with rfl | hp
 ·exact h
 ·exact r p hp
theorem zrk_ {K:Fgg}{S c:String}{t:List (String×Bool)}(h:catN K (gA K c) (gA K S)=true)(r:CatT K S t):CatT K S ((c,false)::t):=fun p hp=>by
 rcases List.mem_cons.mp hp with rfl | hp
 ·exact h
 ·exact r p hp
theorem zbi_ {K:Fgg}{v:Value}:IsaT K v []:=fun _ h=>nomatch h
theorem zbq_ {K:Fgg}{v:Value}{c:String}{b:Bool}{t:List (String×Bool)}(h:isaK K (gA K c) v=some b)(r:IsaT K v t):IsaT K v ((c,b)::t):=fun p hp=>by
 rcases List.mem_cons.mp hp with rfl | hp
 ·exact h
 ·exact r p hp
theorem zja_ {K:Fgg}{C S:Addr}(h:catN K C S=true):¬ catK K C S=true:=fun h2=>by
 unfold catN at h; unfold catK at h2
 simp only [Bool.and_eq_true,beq_iff_eq] at h h2
 have:=h.2.symm.trans h2.2
 cases this
section
variable {K:Fgg}{E:XK}{α γ δ ρ S B:Type}{F0 H0 F h H:Hp}{L:List Sl}{O:Own ρ}{LS:S->List Sl}{LB:B->List Sl}{i:Nat}{x:Xc}{ts:TS}{rest th:TH}{e:TE}{r:Mo α}
def EvH (K:Fgg)(th:TH)(E:XK)(L:List Sl)(x:Xc)(r:Mo (Out ρ B S))(LS:S->List Sl)(LB:B->List Sl)(O:Own ρ):Prop:=
 ∀ F0 H0 σ F h H d (D:Ends),Hold L σ F h->Okk F0 H0 F h H->XAtt x d F->Fin K r E LS LB O F0 H0 D->th (gA K x.c) d D σ H
theorem eh_0:EvH K tH0 E L x .no LS LB O:=fun _ _ _ _ _ _ _ _ _ _ _ fin=>fin
theorem zfl_:∀ {L:List Sl}{σ:St}{F h:Hp}{i:Nat}{o:Option V},L[i]?=some .dead->Hold L σ F h->Hold L (σ.set i o) F h
 | [],_,_,_,_,_,e,_=>by simp at e
 | s::L,[],_,_,_,_,_,q=>q.elim
 | s::L,a::σ,F,h,0,o,e,⟨h1,h2,j,p,q⟩=>by
  cases (show s=.dead by simpa using e)
  exact ⟨h1,h2,j,trivial,q⟩
 | s::L,a::σ,F,h,i+1,o,e,⟨h1,h2,j,p,q⟩=>⟨h1,h2,j,p,zfl_ (by simpa using e) q⟩
theorem zfF_ {L:List Sl}{σ:St}{F h:Hp}{i:Nat}{o:Option V}(e:L[i]?=some .dead\/L=[])(q:Hold L σ F h):Hold L (σ.set i o) F h:=by
 rcases e with e | rfl
 ·exact zfl_ e q
 ·cases σ with
  | nil=>exact q
  | cons a σ=>exact q.elim
theorem znr_ {D:Ends}{r:Mo (Out ρ B S)}(hd:∀ s,(LS s)[i]?=some .dead)(hb:∀ b,(LB b)[i]?=some .dead\/LB b=[])(fin:Fin K r E LS LB O F0 H0 D):Fin K r E LS LB O F0 H0 (gone i D):=by
 cases r with
 | no=>exact fin
 | ex c=>exact fin
 | ok o =>
  cases o with
  | nx s=>exact fun σ F h H q ok=>fin _ F h H (zfl_ (hd s) q) ok
  | bk s=>exact fun σ F h H q ok=>fin _ F h H (zfF_ (hb s) q) ok
  | ct s=>exact fun σ F h H q ok=>fin _ F h H (zfF_ (hb s) q) ok
  | rt a=>exact fin
theorem eh_1 {c:String}{t:List (String×Bool)}{r1 r2:Mo (Out ρ B S)}(hT:CatT K c t)
  (h1:EvS K ts E L r1 LS LB O) (h2:EvH K rest E L x r2 LS LB O):EvH K (tH1 K (gA K c) ts rest) E L x (Mo.cat t x.c r1 r2) LS LB O:=by
 intro F0 H0 σ F h H d D hL ok hx fin
 unfold Mo.cat at fin
 split at fin
 case h_1 e =>
  have z:catK K (gA K x.c) (gA K c)=true:=hT _ (zbt_ e)
  unfold tH1
  rw [if_pos z]
  intro p hp
  have y:=Ext.new (o:=XO p (gA K x.c) d) ok.1.2.1 hp
  exact h1 F0 H0 _ (upd F p (XO p (gA K x.c) d)) h _ D (hL.mono y.1) (ok.cold y) fin
 case h_2 e =>
  have z:catN K (gA K x.c) (gA K c)=true:=hT _ (zbt_ e)
  unfold tH1
  rw [if_neg (zja_ z)]
  exact ⟨z,h2 F0 H0 σ F h H d D hL ok hx fin⟩
 case h_3=>exact fin.elim
theorem zov_ {C:Cs γ}{fn:γ->Mo δ}{O0:Own δ}{ta:TA}{ra:Mo γ}{rn:Mo (Out ρ B S)}{hand:Xc->Mo (Out ρ B S)}(ha:EvA K ta E L ra C)(hn:EvS K tNext E L rn LS LB O)(hh:∀ x,EvH K th E L x (hand x) LS LB O):
  EvS K (tTryH (tDropX (Ct K C fn O0) ta) th) E L (ra.bind fun c=>Mo.tr (fn c) (fun _=>rn) hand) LS LB O:=by
 intro F0 H0 σ F h H D hL ok fin
 refine ha σ (un F h) H _ (hL.froz ok.2.1) ok.thaw (zW_ (G:=F) ok _ (.inl rfl) fin fun c F1 H1 hr x1 vs hv=>?_)
 rw [hr] at fin
 have fin:Fin K (Mo.tr (fn c) (fun _=>rn) hand) E LS LB O F0 H0 D:=fin
 refine ⟨F1,c,x1.2.1,by rw [List.append_nil]; exact hv,?_⟩
 cases e:fn c with
 | no=>rw [e] at fin; exact fin
 | ok a =>
  rw [e] at fin
  intro F2 H2 x2 v k _ _ _ _
  obtain ⟨o,hs,ht⟩:=ok.back (x1.trans x2)
  exact hn F0 H0 σ _ h H2 D (hL.mono hs) o fin
 | ex x =>
  rw [e] at fin
  have fin:Fin K (hand x) E LS LB O F0 H0 D:=fin
  intro F2 H2 x2
  obtain ⟨o,hs,ht⟩:=ok.back (x1.trans x2)
  cases x with
  | pl c'=>exact ⟨_,rfl,hh (.pl c') F0 H0 σ _ h H2 none D (hL.mono hs) o rfl fin⟩
  | «at» c' as =>
   intro dx fs e1 e2 e3
   refine ⟨_,rfl,hh (.at c' as) F0 H0 σ _ h H2 (some dx) D (hL.mono hs) o ⟨dx,fs,rfl,?_,e3.imm ht⟩ fin⟩
   rw [zr_ (ok.2.2.1.free (x1.2.2.1.free e1))]; exact e2
def isaQ (t:List (String×Bool))(c:String):Option Bool:=t.lookup c
theorem zch_ {t:List (String×Bool)}{v:V}{u:Value}{re:Mo Xc}(hT:IsaT K u t)(hv:clsV v=some u)(h:EvF K e E L re (tyXc K)):EvF K (tCB (mIsaX K) (tCons e (tCons (tC v) tNil))) E L (re.bind fun x=>Mo.opt (isaQ t x.c)) tyBl:=by
 intro σ F H R hL hs q
 refine h σ F H _ hL hs (q.bind.imp fun x F1 H1 x1 k1 w ao=>?_)
 obtain ⟨p,d,e,hp,_⟩:=ao
 subst e
 obtain ⟨b,e,k2⟩:=k1.opt
 have z:(x.c,b)∈t:=zbt_ (show t.lookup x.c=some b from e)
 have z2:isaK K (gA K x.c) u=some b:=hT (x.c,b) z
 have z3:H1 p=some (XO p (gA K x.c) d):=x1.2.1 _ _ hp
 have z4:R (.bl b) H1:=k2.ok x1.2.1 _ rfl
 generalize gA K x.c=D at z2 z3
 show ∃ D d v' b,H1 p=some (XO p D d)/\clsV v=some v'/\isaK K D v'=some b/\R (.bl b) H1
 exact ⟨D,d,u,b,z3,hv,z2,z4⟩
def attI (c:String)(n:Str)(x:Xc):Option Int:=match x with
 | .at c' as=>if c'=c then (match as.lookup n with | some (.i k)=>some k | _=>none) else none
 | _=>none
theorem zgv_ {n:Str}{a:Av}{H:Hp}:∀ {as:List (Str×Av)}{fs:List (Str×V)},AtR as fs H->as.lookup n=some a->∃ v,fs.lookup n=some v/\a.R v H
 | _,_,.nil,h=>by cases h
 | (m,b)::as,(m',v)::fs,.cons ⟨e,r⟩ t,h=>by
  cases (show m=m' from e)
  rw [List.lookup_cons] at h ⊢
  split at h
  ·cases h; exact ⟨v,rfl,r⟩
  ·exact zgv_ t h
theorem zjQ_ {c:String}{n:Str}{re:Mo Xc}(hj:excJ K (gA K c)=true)(ha:exA K (gA K c) n=true)(h:EvF K e E L re (tyXc K)):EvF K (mXFld K e n) E L (re.bind fun x=>Mo.opt (attI c n x)) tyInt:=by
 intro σ F H R hL hs q
 refine h σ F H _ hL hs (q.bind.imp fun x F1 H1 x1 k1 w ao=>?_)
 obtain ⟨p,d,e,hp,hx⟩:=ao
 subst e
 obtain ⟨b,e,k2⟩:=k1.opt
 unfold attI at e
 split at e
 case h_2=>cases e
 case h_1 c' as =>
  split at e
  case isFalse=>cases e
  case isTrue z =>
   subst z
   split at e
   case h_2=>cases e
   case h_1 kk z2 =>
    cases e
    obtain ⟨dx,fs,rfl,hd,hr⟩:=hx
    obtain ⟨v,l,z3⟩:=zgv_ hr z2
    exact ⟨_,dx,fs,v,x1.2.1 _ _ hp,x1.2.1 _ _ hd,⟨hj,ha⟩,l,k2.ok x1.2.1 _ z3⟩
theorem zo5_ {n1 n2:Str}:∀ (c:Int×Int) (ws:List V) (F:Hp),(csCons tyInt (csLast tyInt)).R c ws F->AtR [(n1,.i c.1),(n2,.i c.2)] ([n1,n2].zip ws) F:=by
 rintro c ws F ⟨w1,us,rfl,h1,w2,rfl,h2⟩
 exact .cons ⟨rfl,h1⟩ (.cons ⟨rfl,h2⟩ .nil)
end
section
variable {P:Program}{w:World}{K:Fgg}{mg:Str->Option Value}{base:Heap}{x q c:Str}{st:Stmt}{N ps:List Str}{k:Nat}{α β:Type}{sp:Sp}
theorem okXI {cn:String}{T1:Ty α}{T2:Ty β}{g:α×β->Mo (List Nat)}{T3:Ty (List Nat)}{n1 n2:Str}{te:TE}(tm:Tm P w K mg base k N q st (fun _=>tSeq (mBInit (gA K cn) (tCons (mVar 0) (tCons te tNil))) (tSeq (mXSet (gA K cn) (mVar 0) (mVar 1) n1) (mXSet (gA K cn) (mVar 0) (mVar 2) n2))))
  (ev:∀ c E,EvF K te E [.dead,.fz T1 c.1,.fz T2 c.2] (g c) T3) (cF:n1≠n2:=by decide) (S:FnScope N ps (defScope st):=by exact ⟨rfl,rfl,rfl,by decide +kernel,rfl,by decide +kernel,by decide +kernel⟩) (b:Bnd K x q st ps:=by exact fun _ _ F=>Fun.binds3 rfl F fun _ _ _ _ _ _ _ _ _=>rfl) (hN:N.length=3:=by rfl) (hp:ps.length=3:=by rfl):
  OkF P w K mg base CX0 (k+1) x q st ps (CtI K (gA K cn) (csCons T1 (csLast T2)) g [n1,n2]):=fun f fd F =>
 ⟨F.ok S (fun vs H Q E h=>by obtain ⟨_,_,_,ws,rfl,_,_,⟨w1,us,rfl,_,w2,rfl,_⟩,_⟩:=h; exact hp.symm) fun ar A outer s H vs Q E hr h=>⟨_,tm ar A outer s H f E S.nd hr,xi_rd hN cF ev vs H Q E h⟩,b f fd F⟩
theorem gx_of (M:Mgo K mg)(F:Fm K c "__init__" q st)(hj:excJ K (gA K c)=true)(h:OkF P w K mg base CX0 k "__init__" q st ps sp):GxI P w K mg base k c (gA K c) ps sp:=by
 obtain ⟨cw,f,e,e2,e3,i⟩:=F; obtain ⟨fd,F⟩:=i.fun_
 exact ⟨f,fd,(h f fd F).1,hj,by rw [zkT_ e]; exact e2,e3,M.gk ⟨_,e⟩,(h f fd F).2⟩
end
theorem Gm.imp {P:Program}{w:World}{K:Fgg}{mg:Str->Option Value}{base:Heap}{CX:CXT}{k:Nat}{C:Addr}{m:Str}{ps:List Str}{sp sp':Sp}(G:Gm P w K mg base CX k C m ps sp)(h:∀ vs H Q E,sp' vs H Q E->sp vs H Q E):Gm P w K mg base CX k C m ps sp':=by
 obtain ⟨f,fd,F,r⟩:=G
 exact ⟨f,fd,F.imp h,r⟩
section
variable {X:Cx}{e o:Expr}{es:List Expr}{m:Str}{pos pos' apos:Pos}{ta:TE}{t:TA}{C:Addr}{k:Nat}{ps:List Str}{sp:Sp}{E:XK}
theorem zgx_ {pl:Sem Bool}(G:Gm X.prog X.w X.K X.mg X.base (CXx X.prog X.w) k C m ps sp)(hr:Room k X.A)(hx:Passes (CXx X.prog X.w) X E)(he:PE X o ta)(ha:PA X (e::es) t)
  (bE:starEach (e::es) X.env=(false,eval e X.env)::starEach es X.env:=by rfl) (aQ:(backTo pos (starEach es X.env)).any (·.1)=false:=by rfl)
  (ht:eval (.Call (.Attribute o m apos) (e::es) [] pos) X.env=(do
   let ov <- eval o X.env
   standAt apos.atName
   let (f,first) <- holding [ov] (getMethod ov m pl)
   callWith pos f first (backTo pos (starEach (e::es) X.env)) (backToKw pos (keywordEach [] X.env))):=by rfl):
  PE X (.Call (.Attribute o m apos) (e::es) [] pos) (tMeth C m sp [] E ta t):=by
 obtain ⟨f,fd,F,c,hm,hb⟩:=G
 exact zmn_ he c hm F hr hb .nil hx ha bE aQ ht
def tDropMX (C:Addr)(m:Str)(sp:Sp)(te:TE)(ta:TA):TX:=fun D W σ H=>te σ H fun x H1=>∃ a dx fs,x=.ref a/\H1 a=some (.ins C dx fs)/\fs.lookup m=none/\ta σ H1 fun vs H2=>sp (x::(vs++[])) H2 (fun _ H3=>D.nx σ H3) (W σ)
theorem znl_ {pl:Sem Bool}(G:Gm X.prog X.w X.K X.mg X.base (CXx X.prog X.w) k C m ps sp)(hr:Room k X.A)(he:PE X.nox o ta)(ha:PA X.nox (e::es) t)
  (bE:starEach (e::es) X.env=(false,eval e X.env)::starEach es X.env:=by rfl) (aQ:(backTo pos (starEach es X.env)).any (·.1)=false:=by rfl)
  (ht:eval (.Call (.Attribute o m apos) (e::es) [] pos) X.env=(do
   let ov <- eval o X.env
   standAt apos.atName
   let (f,first) <- holding [ov] (getMethod ov m pl)
   callWith pos f first (backTo pos (starEach (e::es) X.env)) (backToKw pos (keywordEach [] X.env))):=by rfl)
  (hs:swapsWith (.Call (.Attribute o m apos) (e::es) [] pos) none pos'.line X.env=pure false:=by rfl):PSx X (.Expr (.Call (.Attribute o m apos) (e::es) [] pos) pos') (tDropMX C m sp ta t):=by
 obtain ⟨f,fd,F,c,hm,hb⟩:=G
 intro pins s σ H D W I h
 refine wpAny_Expr_any (thn (Q:=EP X pins σ fun _ H3=>D.nx σ H3) ?_ fun v s1 ⟨y,H1,I1,r1,q1⟩=>⟨σ,H1,I1,q1⟩) I.quiet hs
 refine PySem.W.methodCall_KW (pl:=pl) (thn ((PE.nox (X:=X.wish (XP X pins W)) he) pins s σ H _ (I.wish _) h) fun u s1 ao=>?_) ht
 obtain ⟨x,H1,I1,rx,a,dx,fs,ex,ea,l,q⟩:=ao
 subst ex
 obtain rfl:u=Value.ref a:=rx
 have I1:=I1.unwish
 refine zcH_ I1 ea c hm l ?_
 refine PySem.W.callWith_K (first:=[.ref a]) (h₀:=X.base) I.ok.mod.kin hm.kp (thn ((PA.nox (X:=X.wish (XP X pins W)) ha) pos pins s1 σ H1 _ (I1.wish _) q) fun us s2 ⟨vs,H2,I2,r,q2⟩=>⟨I2.unwish.kIn,?_⟩) bE aQ
 have I2:=I2.unwish
 have r2:Vals (V.ref a::(vs++[])) (Value.ref a::us++[]):=by rw [List.append_nil,List.append_nil]; exact .cons rfl r
 have hl:(Value.ref a::us++[]).length=ps.length:=by rw [<- r2.length]; exact F.len _ _ _ _ q2
 refine wpAny_call (codeAny_mono (F.run X.A X.stack s2 H2 ⟨Value.ref a::us,[]⟩ (Value.ref a::us++[]) (V.ref a::(vs++[])) _ (W σ) hr I2.env0 (hb s2 (Value.ref a::us) I2.kIn hl) r2 q2) fun r s' hq=>?_)
 cases r with
 | error e=>exact ⟨σ,H2,s2,I2,hq⟩
 | ok fl =>
  cases fl with
  | ret u=>exact I2.after hq
  | next=>exact False.elim hq
  | brk=>exact False.elim hq
  | cont=>exact False.elim hq
end
section
variable {K:Fgg}{E:XK}{α β γ δ ρ S:Type}{F h H:Hp}{L:List Sl}{e te:TE}{T:Ty α}{r:Mo α}{O:Own ρ}{t:TS}{LS:S->List Sl}{σ:St}{C:Addr}{ns:List Str}{m:Str}{n:Nat}
theorem zmH_ {Q:Cs γ}{Q2:Cs δ}{ta:TA}{r0:Mo γ}{ra:Mo δ}{g:γ×δ->Mo α}(dR:m∉ns)(he:EvF K te E L r0 (tyI C ns Q))(ha:EvA K ta E L ra Q2):
  EvF K (tMeth C m (Ct K (csCons (tyI C ns Q) Q2) g (owF T)) [] E te ta) E L (r0.bind fun x=>ra.bind fun c=>g (x,c)) T:=by
 intro σ F H R hL hs q
 refine he σ F H _ hL hs (q.bind.imp fun x F1 H1 x1 k1 v hv=>?_)
 obtain ⟨p,dx,vs,rfl,hp,hl,hc⟩:=id hv
 refine ⟨p,dx,_,rfl,x1.2.1 _ _ hp,z0_ dR,?_⟩
 refine ha σ F1 H1 _ (hL.mono x1.1) x1.2.1 (k1.bind.imp fun c F2 H2 x2 k2 us iX=>?_)
 rw [List.append_nil]
 exact ⟨F2,(x,c),x2.2.1,⟨_,us,rfl,(tyI C ns Q).mono x2.1 hv,iX⟩,k2.imp fun a F3 H3 x3 k3 w hw _ _ _ hv=>k3 w hv.2⟩
def CtMc (K:Fgg)(O:Own α)(O2:Own β)(Q:Cs γ)(chk:α->γ->Mo Unit)(g:α->γ->Mo (ρ×β))(Or:Own ρ):Sp:=fun vs H R E=>∃ F h x c w ws,vs=w::ws/\Same F H/\Dj F h/\Same h H/\O.O x w F h/\Q.R c ws F /\
 After K (chk x c) E (un F h) H fun _ F1 H1=>FinM K (g x c) E0 (less F1 h) (less H1 h) fun r F' h' H'=>∀ v,(owRM w O2 Or).O r v F' h'->R v H'
theorem zlK_ {O1:Own α}{O2:Own β}{Q:Cs γ}{chk:α->γ->Mo Unit}{g:α->γ->Mo (ρ×β)}{Or:Own ρ}:∀ vs H R E,CtM K O1 O2 Q (fun x c=>(chk x c).noex.bind fun _=>(g x c).noex) Or vs H R E->CtMc K O1 O2 Q chk g Or vs H R E:=by
 rintro vs H R E ⟨F,h,x,c,w,ws,rfl,hs,dj,hh,hO,hc,q⟩
 refine ⟨F,h,x,c,w,ws,rfl,hs,dj,hh,hO,hc,?_⟩
 have q:FinM K ((chk x c).noex.bind fun _=>(g x c).noex) E F (less H h) fun r F' h' H'=>∀ v,(owRM w O2 Or).O r v F' h'->R v H':=q
 cases e:chk x c with
 | no=>rw [e] at q; exact q
 | ex z=>rw [e] at q; exact q.elim
 | ok _ =>
  rw [e] at q
  have q:FinM K (g x c).noex E F (less H h) fun r F' h' H'=>∀ v,(owRM w O2 Or).O r v F' h'->R v H':=q
  intro F1 H1 x1
  have ok:=zdZ_ hs dj hh (O1.notup hO)
  obtain ⟨o1,hs1,g_⟩:=ok.back x1
  cases e2:g x c with
  | no=>rw [e2] at q; exact q
  | ex z=>rw [e2] at q; exact q.elim
  | ok r =>
   rw [e2] at q
   intro F' h' H' aE
   have iR:Same (less H h) (less H1 h):=fun p o z=>by
    unfold less at z ⊢
    split at z
    ·exact x1.2.2.1 _ _ z
    ·cases z
   refine q F' h' H' ⟨Ext.trans ⟨hs1,fun p o z=>?_,iR,fun p a b=>?_⟩ aE.1,aE.2.1,aE.2.2.1,fun p z=>iR.free (aE.2.2.2.1 p z),aE.2.2.2.2⟩
   ·unfold less at z ⊢
    split at z
    ·exact x1.2.1 _ _ z
    ·cases z
   ·unfold less at b ⊢
    split at b
    ·rename_i y
     exact x1.2.2.2 p (by unfold un; rw [a]; exact y) b
    ·exact absurd rfl b
theorem zpp_ {e1:XK->TE}{t2:TS}{O1:Own α}{O2:Own β}{Q:Cs γ}{ss:γ->List Sl}{chk:α->γ->Mo Unit}{g:α->γ->Mo (Out (Unit×β) Unit β)}{N:List Str}{LS:V->β->List Sl}(n m:Nat)(hn:CsN Q n)(hm:N.length-(n+1)=m)(hC:CsS Q ss)(fI:∀ w x,(LS w x)[0]?=some (.ow (owAt w O2) x))
  (h1:∀ w x c E,EvF K (e1 E) E (.ow (owAt w O1) x::(ss c++List.replicate m .dead)) (chk x c) tyNon)
  (hb:∀ w x c E,EvS K t2 E (.ow (owAt w O1) x::(ss c++List.replicate m .dead)) (g x c) (LS w) (fun _:Unit=>[]) (owRM w O2 (owF tyNon))):
  ∀ vs H R E,CtMc K O1 O2 Q chk (fun x c=>fnMU (g x c)) (owF tyNon) vs H R E->tSeq (tDrop (e1 E)) t2 { nx:=fun _ H'=>R .non H',rt:=R } (start N vs) H:=by
 rintro vs H R E ⟨F,h,x,c,w,ws,rfl,hs,dj,hh,hO,hc,q⟩
 have aZ:start N (w::ws)=some w::(ws.map some++List.replicate m none):=by
  unfold start
  rw [List.length_cons,hn hc,hm]; rfl
 have ok:=zdZ_ hs dj hh (O1.notup hO)
 have hL:Hold (.ow (owAt w O1) x::(ss c++List.replicate m .dead)) (start N (w::ws)) F h:=by rw [aZ]; exact zge_ m hC hO hc
 refine h1 w x c E _ (un F h) H _ (hL.froz dj) ok.thaw (q.imp fun _ F1 H1 x1 k v hv=>?_)
 obtain ⟨o1,hs1,g_⟩:=ok.back x1
 exact zjP_ (K:=K) (t:=fun _=>t2) n m hn hm hC fI (fun w x c E=>hb w x c E) (w::ws) H1 R E0 ⟨less F1 h,h,x,c,w,ws,rfl,o1.1.2.1,o1.2.1,o1.2.2.1,O1.mono hs1 hO,Q.mono hs1 hc,k⟩
end
section
variable {P:Program}{w:World}{K:Fgg}{mg:Str->Option Value}{base:Heap}{x q:Str}{st:Stmt}{N ps:List Str}{k:Nat}{α β γ:Type}
theorem okMc {e1:XK->TE}{t2:TS}{O:Own α}{O2:Own β}{C:Cs γ}{ss:γ->List Sl}{chk:α->γ->Mo Unit}{g:α->γ->Mo (Out (Unit×β) Unit β)}{LS:V->β->List Sl}(n m:Nat)(hC:CsS C ss)(tm:TmX P w K mg base k N q st (fun E=>tSeq (tDrop (e1 E)) t2))
  (qE:∀ w x c E,EvF K (e1 E) E (.ow (owAt w O) x::(ss c++List.replicate m .dead)) (chk x c) tyNon)
  (ev:∀ w x c E,EvS K t2 E (.ow (owAt w O) x::(ss c++List.replicate m .dead)) (g x c) (LS w) (fun _:Unit=>[]) (owRM w O2 (owF tyNon))) (hn:CsN C n:=by repeat first | exact zC_ | exact zcg_ | refine zv_ ?_) (S:FnScope N ps (defScope st):=by exact ⟨rfl,rfl,rfl,by decide +kernel,rfl,by decide +kernel,by decide +kernel⟩) (b:Bnd K x q st ps:=by first | exact fun _ _ F=>Fun.binds1 rfl F fun _ _ _ _ _ _ _=>rfl | exact fun _ _ F=>Fun.binds2 rfl F fun _ _ _ _ _ _ _ _=>rfl | exact fun _ _ F=>Fun.binds3 rfl F fun _ _ _ _ _ _ _ _ _=>rfl) (hp:ps.length=n+1:=by rfl) (hm:N.length-(n+1)=m:=by rfl) (fI:∀ w x,(LS w x)[0]?=some (.ow (owAt w O2) x):=by exact fun _ _=>rfl):OkF P w K mg base (CXx P w) (k+1) x q st ps (CtMc K O O2 C chk (fun x c=>fnMU (g x c)) (owF tyNon)):=fun f fd F =>
 ⟨F.okX S (fun vs H Q E h=>by obtain ⟨F,h,x,c,w,ws,rfl,_,_,_,_,hc,_⟩:=h; rw [List.length_cons,hn hc,hp]) fun ar A outer s H vs Q E hr h=>⟨_,tm ar A outer s H f E S.nd hr,zpp_ (N:=N) n m hn hm hC fI qE ev vs H Q E h⟩,b f fd F⟩
end
section
variable {K:Fgg}{E:XK}{α β γ ρ aX S B:Type}{F0 H0 F h H:Hp}{L:List Sl}{te:TE}{Or:Own ρ}{LS:S->List Sl}{LB:B->List Sl}{C:Addr}{ns:List Str}{m:Str}{i:Nat}{th:TH}
theorem zmR_ {k F1 H1 F' h' H':Hp}(hs:Same F H)(dj:Dj F k)(hh:Same k H)(nt:∀ p xs,k p≠some (.tup xs))(x1:Ext (un F k) H F1 H1)(aE:Okk (less F1 k) (less H1 k) F' h' H'):Okk F (less H k) F' h' H':=by
 obtain ⟨o1,hs1,g_⟩:=(zdZ_ hs dj hh nt).back x1
 have iR:Same (less H k) (less H1 k):=fun p o z=>by
  unfold less at z ⊢
  split at z
  ·exact x1.2.2.1 _ _ z
  ·cases z
 refine ⟨Ext.trans ⟨hs1,fun p o z=>?_,iR,fun p a b=>?_⟩ aE.1,aE.2.1,aE.2.2.1,fun p z=>iR.free (aE.2.2.2.1 p z),aE.2.2.2.2⟩
 ·unfold less at z ⊢
  split at z
  ·exact x1.2.1 _ _ z
  ·cases z
 ·unfold less at b ⊢
  split at b
  ·rename_i y
   exact x1.2.2.2 p (by unfold un; rw [a]; exact y) b
  ·exact absurd rfl b
theorem zqt_ {O:Own α}{P:Ps β}{r0:Mo (β×(β->α))}{Q:Cs γ}{ta:TA}{ra:Mo γ}{chk:β->γ->Mo Unit}{g:β->γ->Mo (aX×β)}{aU:Own aX}{rn:α->Mo (Out ρ B S)}{hand:Xc->Mo (Out ρ B S)}(dR:m∉ns)(hI:ImmO (owI C ns P))(hp:EvPt K te E L i O (owI C ns P) r0)(hC:ImmC Q)(ha:EvA K ta E L ra Q)
  (hn:∀ x',EvS K tNext E (L.set i (.ow O x')) (rn x') LS LB Or) (hh:∀ x,EvH K th E L x (hand x) LS LB Or):
  EvS K (tTryH (tDropMX C m (CtMc K (owI C ns P) (owI C ns P) Q chk g aU) te ta) th) E L (r0.bind fun yp=>ra.bind fun c=>Mo.tr (chk yp.1 c) (fun _=>(g yp.1 c).noex.bind fun q=>(Mo.ok (yp.2 q.2)).bind rn) hand) LS LB Or:=by
 intro F0 H0 σ F h H D hL ok fin
 refine hp F0 H0 σ F h H _ hL ok (zW_ (G:=F) ok _ (.inl rfl) fin fun yp G1 H1 dQ x1 u0 fc=>?_)
 obtain ⟨o1,hs1,_⟩:=ok.back x1
 rw [dQ] at fin
 obtain ⟨k0,⟨p,dx,vs0,m0,rfl,cb,jn,hl,ps⟩,kh,_⟩:=fc _ H1 (Same.refl _) o1
 refine ⟨p,dx,_,rfl,o1.2.2.1 _ _ (kh _ _ (jn.l _ _ zhu_)),z0_ dR,?_⟩
 refine ha σ (un (less G1 h) h) H1 _ ((hL.mono hs1).froz o1.2.1) o1.thaw (zW_ (G:=F) o1 _ (.inl rfl) fin fun c G2 H2 bh x2 vs bD=>?_)
 obtain ⟨o2,bP,ht2⟩:=o1.back x2
 rw [bh] at fin
 rw [List.append_nil]
 obtain ⟨k1,hO,di,gg⟩:=fc _ H2 bP o2
 have eQ:Same (un (less G2 h) (less h k1)) H2:=fun q o z=>by
  unfold un at z
  cases y:less G2 h q with
  | some s=>rw [y] at z; rw [<- z]; exact o2.1.2.1 _ _ y
  | none=>rw [y] at z; exact o2.2.2.1 _ _ (z1_ _ _ z)
 have e7:Dj (un (less G2 h) (less h k1)) k1:=fun q=>by
  by_cases z:k1 q=none
  ·exact .inr z
  ·left
   unfold un
   have:less G2 h q=none:=zA_ q fun y=>z (di.free y)
   rw [this]; exact zA_ q z
 have pT:∀ p xs,k1 p≠some (.tup xs):=fun p xs z=>o2.2.2.2.2 p xs (di _ _ z)
 have hU:=di.trans o2.2.2.1
 have U:un (un (less G2 h) (less h k1)) k1=un (less G2 h) h:=by
  funext q
  unfold un
  cases y:less G2 h q with
  | some s=>rfl
  | none =>
   show (match less h k1 q with | some o=>some o | none=>k1 q)=h q
   cases y2:k1 q with
   | some s=>rw [zA_ q (by rw [y2]; exact sN _)]; exact (di _ _ y2).symm
   | none =>
    rw [zr_ y2]
    cases h q<;>rfl
 refine ⟨un (less G2 h) (less h k1),k1,yp.1,c,.ref p,vs,rfl,eQ,e7,hU,(owI C ns P).mono zO_ hO,Q.mono zO_ (hC ht2 bD),?_⟩
 have fin:Fin K (Mo.tr (chk yp.1 c) (fun _=>(g yp.1 c).noex.bind fun q=>(Mo.ok (yp.2 q.2)).bind rn) hand) E LS LB Or F0 H0 D:=fin
 have nW:=(hL.mono hs1).mono bP
 rw [U]
 cases ec:chk yp.1 c with
 | no=>rw [ec] at fin; exact fin
 | ex x =>
  rw [ec] at fin
  have fin:Fin K (hand x) E LS LB Or F0 H0 D:=fin
  intro F3 H3 x3
  obtain ⟨o,hs,ht⟩:=o2.back x3
  cases x with
  | pl c'=>exact ⟨_,rfl,hh (.pl c') F0 H0 σ _ h H3 none D (nW.mono hs) o rfl fin⟩
  | «at» c' as =>
   intro d fs e1 e2 e3
   refine ⟨_,rfl,hh (.at c' as) F0 H0 σ _ h H3 (some d) D (nW.mono hs) o ⟨d,fs,rfl,?_,e3.imm ht⟩ fin⟩
   rw [zr_ (o2.2.2.1.free e1)]; exact e2
 | ok _ =>
  rw [ec] at fin
  have fin:Fin K ((g yp.1 c).noex.bind fun q=>rn (yp.2 q.2)) E LS LB Or F0 H0 D:=fin
  intro F3 H3 x3
  rw [<- U] at x3
  cases e:g yp.1 c with
  | no=>rw [e] at fin; exact fin
  | ex cc=>rw [e] at fin; exact fin.elim
  | ok q =>
   rw [e] at fin
   rintro F' h' H' kL v ⟨hr,aO,j,_,hO2⟩
   have aE:=zmR_ eQ e7 hU pT x3 kL
   have lo:∀ q',less h k1 q'≠none->h q'≠none:=fun q' z y=>z (by unfold less; split; exact y; rfl)
   have tp:Tups F' (less F' (less h k1)):=fun b xs z=>by
    cases y:less h k1 b with
    | none=>rw [zr_ y]; exact z
    | some s =>
     exfalso
     have y2:un (less G2 h) (less h k1) b=some s:=by
      unfold un
      have:less G2 h b=none:=zA_ b (lo b (by rw [y]; exact sN _))
      rw [this]; exact y
     have:=aE.1.1 _ _ y2
     rw [z] at this
     injection this with this
     exact o2.2.2.2.2 b xs (by rw [this]; exact z1_ _ _ y)
   have PC:PutC (less G2 h) H2 h H0 k1 aO (less F' (less h k1)) H':=by
    refine ⟨fun b o z=>?_,fun b o z=>aE.1.2.1 _ _ (z1_ _ _ z),aE.1.2.2.1,fun b a1 a2=>?_,j.r.trans aE.2.2.1,fun b=>?_,fun b a1 a2=>?_⟩
    ·have hb:h b=none:=by
      cases y:h b with
      | none=>rfl
      | some s=>rw [zA_ b (by rw [y]; exact sN _)] at z; cases z
     have:less h k1 b=none:=z1_.free hb
     rw [zr_ this]
     exact aE.1.1 _ _ (zO_ _ _ z)
    ·have y:less h k1 b=none:=by
      cases y:less h k1 b with
      | none=>rfl
      | some s=>exact absurd (zA_ b (by rw [y]; exact sN _)) a2
     rw [zr_ y] at a2
     have y2:un (less G2 h) (less h k1) b=none:=by unfold un; rw [a1]; exact y
     have y3:=aE.1.2.2.2 b y2 a2
     by_cases z:k1 b=none
     ·left; rw [zr_ z] at y3; exact y3
     ·exact .inr z
    ·by_cases z:aO b=none
     ·exact .inr z
     ·left
      rcases aE.2.1 b with y | y
      ·exact z1_.free y
      ·exact absurd (j.r.free y) z
    ·have y:=aE.2.2.2.1 b fun y=>a2 (j.r.free y)
     rw [zr_ a1] at y
     exact ⟨o2.2.2.1.free y,o2.1.2.2.1.free y⟩
   obtain ⟨h3,a1,a2⟩:=gg q.2 aO _ H' PC (hI tp hO2)
   exact hn _ F0 H0 σ _ h3 H' D a1 a2 fin
theorem zpg_ {O2:Own α}{w0:V}{T:Ty ρ}{aU:Own aX}{tc te2:TE}{r:Mo (aX×α)}{k:aX×α->Mo ρ}(hT:Imm T)(hm:EvM K tc E L i (owAt w0 O2) aU r)(ja:i<L.length)(hk:∀ q,EvF K te2 E ((L.set i (.ow (owAt w0 O2) q.2))++[.fz aU.fr q.1]) (k q) T)
  (i0:∀ (σ:St),σ.length=L.length->∀ (H:Hp) (Q:VK),(tc σ H fun v H1=>te2 (σ++[some v]) H1 Q)->te σ H Q):EvS K (tRet te) E L (r.bind fun q=>(k q).bind fun a=>.ok (.rt (a,q.2))) LS LB (owRM w0 O2 (owF T)):=by
 intro F0 H0 σ F h H D hL ok fin
 show te σ H D.rt
 refine i0 σ hL.len.symm H D.rt (hm F0 H0 σ F h H _ hL ok (zhU_ fin fun q F' h' H' hr o v h1 h2 j hold res=>?_))
 rw [hr] at fin
 have o2:Okk F0 H0 (un F' h2) h1 H':=zjs_ (zeb_ o j.l) (fun p z=>⟨o.2.2.2.1 p fun y=>z (j.r.free y),by
  rcases j.dj p with y | y
  ·exact y
  ·exact absurd y z⟩) (j.r.trans o.2.2.1)
 have d2:Dj F' h2:=fun p=>by
  rcases o.2.1 p with z | z
  ·exact .inl z
  ·exact .inr (j.r.free z)
 have fin:Fin K ((k q).bind fun a=>.ok (.rt (a,q.2))) E LS LB (owRM w0 O2 (owF T)) F0 H0 D:=fin
 have hv:aU.fr.R q.1 v (un (un F' h2) h1):=aU.fr.mono zO_ (aU.frz d2 res)
 refine hk q _ (un (un F' h2) h1) H' _ (zdU_ (by rw [hold.len]) ((hold.mono zO_).froz o2.2.1) ⟨v,rfl,hv⟩) o2.thaw (zW_ (G:=F') o2 _ (.inl rfl) fin fun a G2 H2 bh x2 w hw=>?_)
 obtain ⟨o3,hs3,ht⟩:=o2.back x2
 rw [bh] at fin
 obtain ⟨_,k1,_,_,j1,⟨v',_,e3,ho⟩,_⟩:=((hold.mono zO_).mono hs3).at i (List.getElem?_set_self ja)
 subst e3
 exact fin w _ k1 H2 (zeb_ o3 j1.l) ⟨fun _=>none,k1,fun _=>.inl ⟨rfl,rfl⟩,⟨fun _=>rfl,hT ht hw⟩,ho⟩
variable {δ:Type}{e:TE}{r:Mo α}{σ:St}
theorem zjY_ {P:Ps γ}{Q:Cs δ}{ta:TA}{ra:Mo δ}{g:Unit->δ->Mo (Unit×γ)}(ha:EvA K ta E L ra Q):
  EvO K (tMake C (CtM K (owI C [] psNil) (owI C ns P) Q g (owF tyNon)) [] E ta) E L (ra.bind fun c=>(g () c).bind fun q=>.ok q.2) (owI C ns P):=by
 intro σ F H R hL hs q
 refine ha σ F H _ hL hs (q.bind.imp fun c F1 H1 x1 k1 vs bD x dx hx jg cb=>?_)
 rw [List.append_nil]
 have new:∀ b,two x dx (.ins C dx []) b≠none->H1 b=none:=fun b z=>by
  unfold two at z
  split at z
  ·rename_i e; rw [e]; exact hx
  ·split at z
   ·rename_i e; rw [e]; exact jg
   ·exact absurd rfl z
 have eN:∀ b,two x dx (.ins C dx []) b=none->upd (upd H1 dx (.own x)) x (.ins C dx []) b=H1 b:=fun b z=>by
  obtain ⟨a1,a2⟩:=zoS_ z
  rw [zI_ a1,zI_ a2]
 have at2:Same (two x dx (.ins C dx [])) (upd (upd H1 dx (.own x)) x (.ins C dx [])):=fun b o z=>by
  unfold two at z
  split at z
  ·rename_i e; rw [e,zx_]; exact z
  ·rename_i e0
   split at z
   ·rename_i e; rw [zI_ e0,e,zx_]; exact z
   ·cases z
 have dj:Dj F1 (two x dx (.ins C dx [])):=fun b=>by
  by_cases z:two x dx (.ins C dx []) b=none
  ·exact .inr z
  ·exact .inl (x1.2.1.free (new b z))
 have sF:Same F1 (upd (upd H1 dx (.own x)) x (.ins C dx [])):=fun b o z=>by
  have hb:=x1.2.1 _ _ z
  rw [eN b ?_]
  ·exact hb
  ·cases y:two x dx (.ins C dx []) b with
   | none=>rfl
   | some s=>rw [new b (by rw [y]; exact sN _)] at hb; cases hb
 have eH:∀ b,less (upd (upd H1 dx (.own x)) x (.ins C dx [])) (two x dx (.ins C dx [])) b=H1 b:=fun b=>by
  by_cases z:two x dx (.ins C dx []) b=none
  ·rw [zr_ z,eN b z]
  ·rw [zA_ b z,new b z]
 refine ⟨F1,two x dx (.ins C dx []),(),c,.ref x,vs,rfl,sF,dj,at2,⟨x,dx,[],fun _=>none,rfl,cb,fun _=>.inr ⟨rfl,rfl⟩,rfl,rfl,fun _=>rfl⟩,bD,?_⟩
 cases e:g () c with
 | no=>rw [e] at k1; exact k1
 | ex cc =>
  rw [e] at k1
  intro F' h' H' aE
  have xx:Ext F1 H1 F' H':=⟨aE.1.1,aE.1.2.1,fun b o z=>aE.1.2.2.1 b o (by rw [eH]; exact z),fun b a1 a2=>by rw [<- eH b]; exact aE.1.2.2.2 b a1 a2⟩
  have:=k1 F' H' xx
  rw [<- show less (upd (upd H1 dx (.own x)) x (.ins C dx [])) (two x dx (.ins C dx []))=H1 from funext eH] at this
  exact this
 | ok q0 =>
  rw [e] at k1
  rintro F' h' H' aE v ⟨hr,aO,j,⟨_,hv⟩,hO2⟩
  refine ⟨hv,?_⟩
  have xx:Ext F1 H1 F' H':=⟨aE.1.1,aE.1.2.1,fun b o z=>aE.1.2.2.1 b o (by rw [eH]; exact z),fun b a1 a2=>by rw [<- eH b]; exact aE.1.2.2.2 b a1 a2⟩
  refine k1 F' H' xx (.ref x) aO (fun b z=>?_) (fun b=>?_) (j.r.trans aE.2.2.1) hO2
  ·have:=aE.2.2.2.1 b fun y=>z (j.r.free y)
   rw [eH] at this
   exact x1.2.2.1.free this
  ·rcases aE.2.1 b with y | y
   ·exact .inl y
   ·exact .inr (j.r.free y)
end
section
variable {P:Program}{w:World}{K:Fgg}{mg:Str->Option Value}{base:Heap}{x q:Str}{st:Stmt}{N ps:List Str}{k:Nat}{α β γ:Type}
theorem okUX {O:Own α}{O2:Own β}{C:Cs γ}{ss:γ->List Sl}{g:α->γ->Mo (Out (Unit×β) Unit β)}{t:XK->TS}{LS:V->β->List Sl}(n m:Nat)(hC:CsS C ss)(tm:TmX P w K mg base k N q st t)
  (ev:∀ w x c E,EvS K (t E) E (.ow (owAt w O) x::(ss c++List.replicate m .dead)) (g x c) (LS w) (fun _:Unit=>[]) (owRM w O2 (owF tyNon))) (hn:CsN C n:=by repeat first | exact zC_ | exact zcg_ | refine zv_ ?_) (S:FnScope N ps (defScope st):=by exact ⟨rfl,rfl,rfl,by decide +kernel,rfl,by decide +kernel,by decide +kernel⟩) (b:Bnd K x q st ps:=by first | exact fun _ _ F=>Fun.binds1 rfl F fun _ _ _ _ _ _ _=>rfl | exact fun _ _ F=>Fun.binds2 rfl F fun _ _ _ _ _ _ _ _=>rfl | exact fun _ _ F=>Fun.binds3 rfl F fun _ _ _ _ _ _ _ _ _=>rfl | exact fun _ _ F=>Fun.binds4 rfl F fun _ _ _ _ _ _ _ _ _ _=>rfl | exact fun _ _ F=>Fun.binds5 rfl F fun _ _ _ _ _ _ _ _ _ _ _=>rfl | exact fun _ _ F=>Fun.binds6 rfl F fun _ _ _ _ _ _ _ _ _ _ _ _=>rfl | exact fun _ _ F=>Fun.binds7 rfl F fun _ _ _ _ _ _ _ _ _ _ _ _ _=>rfl) (hp:ps.length=n+1:=by rfl) (hm:N.length-(n+1)=m:=by rfl) (fI:∀ w x,(LS w x)[0]?=some (.ow (owAt w O2) x):=by exact fun _ _=>rfl):OkF P w K mg base (CXx P w) (k+1) x q st ps (CtM K O O2 C (fun x c=>fnMU (g x c)) (owF tyNon)):=fun f fd F =>
 ⟨F.okX S (fun vs H Q E h=>by obtain ⟨F,h,x,c,w,ws,rfl,_,_,_,_,hc,_⟩:=h; rw [List.length_cons,hn hc,hp]) fun ar A outer s H vs Q E hr h=>⟨t E,tm ar A outer s H f E S.nd hr,zjP_ (N:=N) (t:=t) n m hn hm hC fI ev vs H Q E h⟩,b f fd F⟩
end
section
variable {X:Cx}{e:Expr}{es:List Expr}{x:Str}{p pos:Pos}{t:TA}{C:Addr}{k:Nat}{ps:List Str}{sp:Sp}{E:XK}
theorem zjA_ (G:Gk X.prog X.w X.K X.mg X.base (CXx X.prog X.w) k x C ps sp)(hr:Room (k+1) X.A)(hx:Passes (CXx X.prog X.w) X E)(ha:PA X (e::es) t)(hg:Gl X x:=by rfl)(aV:(x==("__debug__":Str))=false:=by decide)
  (he:starEach (e::es) X.env=(false,eval e X.env)::starEach es X.env:=by rfl) (aQ:(backTo pos (starEach es X.env)).any (·.1)=false:=by rfl):
  PE X (.Call (.Name x p) (e::es) [] pos) (tMake C sp [] E t):=by
 obtain ⟨f,fd,F,M,hm,hb⟩:=G
 exact zpZ_ M F hr hg hm hb .nil hx ha aV he aQ
end
theorem zfX_:entryFor table "proto.unchain"=some Builtin.«proto.unchain»:=entryFor_of_fast (by kernel_rfl)
def Hdl (A:Around)(h:Heap):Prop:=A.handled=none\/∃ x o vs,A.handled=some (.ref x)/\h.get? x=some o/\o.data=.fields vs/\vs[2]?=some .none
section
variable {prog:Program}{w:World}{A:Around}{E:Value->Shared->Prop}{s:Shared}
theorem zhI_ {α:Type}{e:Addr}{oe:Obj}{vs:Array Value}{Q:α->Shared->Prop}(hh:Hdl A s.heap)(he:s.heap.get? e=some oe)(hd:oe.data=.fields vs)(hs:2<vs.size)
  (h:∀ h',Heap.SameBut e s.heap h'->(∃ o',h'.get? e=some o'/\o'.cls=oe.cls)->E (.ref e) { s with heap:=h' }):wpAny (model prog w) A (raiseNew (.ref e):Sem α) Q E s:=by
 simp only [raiseNew]
 refine wpAny_bind (wpAny_handled ?_)
 rcases hh with hh | ⟨x,o,ws,hh,ho,hw,h2⟩
 ·rw [hh]
  exact wpAny_bind (wpAny_pure (wpAny_throw (h _ (Heap.SameBut.refl ..) ⟨_,he,rfl⟩)))
 ·rw [hh]
  dsimp only
  by_cases q:(Value.ref x != Value.ref e)=true
  ·rw [if_pos q]
   refine wpAny_bind (wpAny_holding (wpAny_runValue (codeAny_builtin zfX_ ?_)))
   show wpAny _ _ (field (.ref x) 2>>=_) _ _ s
   refine wpAny_bind (wpAny_field ho hw h2 ?_)
   rw [if_pos (by decide)]
   refine wpAny_bind (wpAny_pure ?_)
   refine wpAny_pure ?_
   refine wpAny_bind ?_
   show wpAny _ _ (setField (.ref e) 2 (.ref x)) _ _ s
   refine wpAny_setField he hd hs (wpAny_throw (h _ (Heap.SameBut.update ..) ⟨_,Heap.get?_update_self _ he (Obj.isFreed_of_fields (Obj.data_mapFields hd _)),Obj.cls_mapFields ..⟩))
  ·rw [if_neg q]
   exact wpAny_bind (wpAny_pure (wpAny_throw (h _ (Heap.SameBut.refl ..) ⟨_,he,rfl⟩)))
theorem zfQ_ {h0 h1 h':Heap}{it:Addr}{o1 o2:Obj}(x:Heap.ExtBut it h0 h1)(sb:Heap.SameBut (h1.push o1).objs.size ((h1.push o1).push o2) h'):Heap.ExtBut it h0 h':=fun b o hb e =>
 have e1:=Heap.get?_push_of_some o1 (x b o hb e)
 sb.extBut b o (Nat.ne_of_lt (Heap.lt_size e1)) (Heap.get?_push_of_some o2 e1)
theorem zgP_ {it l:Addr}{i:Nat}{items}{Q:Option Value->Shared->Prop}(hh:Hdl A s.heap)(dG:∀ x,A.handled=some (.ref x)->x≠it)
  (hit:s.heap.IsListIter it l i) (hl:s.heap.IsList l items) (hx:items[i]?=none)
  (hQ:∀ h',Heap.ExtBut it s.heap h'->Q none { s with heap:=h' }):wpAny (model prog w) A (pyNext (.ref it)) Q E s:=by
 obtain ⟨o,ho,hc,hd⟩:=id hit
 obtain ⟨ol,hol,_,nl,hdl⟩:=hl
 unfold pyNext
 refine wpAny_bind (wpAny_attempt (wpAny_callSpecial?_slot (name:=Str.ofString "__next__") hit.typeIs slot_listiter_next
  (wpAny_call_entry slot_listiter_next hit.typeIs entry_listiter_next ?_ (args_listiter_next _))))
 show wpAny _ _ (field (.ref it) 0>>=_) _ _ s
 refine wpAny_bind (wpAny_field ho hd (x:=.ref l) rfl ?_)
 show wpAny _ _ (if (Value.ref l == Value.none)=true then _ else _) _ _ s
 rw [if_neg (show ¬ ((Value.ref l == Value.none)=true) from Bool.false_ne_true)]
 show wpAny _ _ (field (.ref it) 1>>=_) _ _ s
 refine wpAny_bind (wpAny_field ho hd (x:=.int i 0) rfl ?_)
 show wpAny _ _ (seqItems? (.ref l)>>=_) _ _ s
 refine wpAny_bind (wpAny_seqItems hol hdl ?_)
 simp only [Int.toNat_natCast,hx]
 refine wpAny_bind (wpAny_rule (wpAny_bind (wpAny_setField ho hd (by simp) ?_)))
 show wpAny _ _ (newExc (.type "StopIteration") []>>=_) _ _ _
 refine wpAny_bind ?_
 simp only [newExc,newTuple]
 refine wpAny_bind (wpAny_newObj_type ?_ (by size_fits))
 refine wpAny_bind (m:=firstArgMember _ _) (wpAny_of_eq (a:=Value.none) (by first | rfl | (simp only [firstArgMember]; rfl)) ?_)
 refine wpAny_newObj_type ?_ (by size_fits)
 refine zhI_ ?_ (Heap.get?_push_size _ rfl) rfl (by rw [Array.size_append]; exact Nat.lt_of_lt_of_le (show 2<6 by decide) (Nat.le_add_right _ _)) fun h' sb ⟨o',g,c⟩=>?_
 ·rcases hh with z | ⟨x,ox,vs,a,b,c⟩
  ·exact .inl z
  ·exact .inr ⟨x,ox,vs,a,Heap.get?_push_of_some _ (Heap.get?_push_of_some _ ((Heap.get?_update_other _ _ (dG x a).symm).trans b)),c⟩
 ·refine wpAny_bind (wpAny_isInstance (T:="StopIteration") (b:=true) ⟨_,g,c⟩ isSubtype_stop ?_)
  exact wpAny_pure (hQ _ (zfQ_ (Heap.SameBut.update ..).extBut sb))
theorem zib_ {it l:Addr}{i:Nat}{items}{Q:Option Value->Shared->Prop}(hh:Hdl A s.heap)(dG:∀ x,A.handled=some (.ref x)->x≠it)
  (hit:IsTupIter s.heap it l i) (hl:IsTup s.heap l items) (hx:items[i]?=none)
  (hQ:∀ h',Heap.ExtBut it s.heap h'->Q none { s with heap:=h' }):wpAny (model prog w) A (pyNext (.ref it)) Q E s:=by
 obtain ⟨o,ho,hc,hd⟩:=id hit
 obtain ⟨ol,hol,_,nl,hdl⟩:=hl
 unfold pyNext
 refine wpAny_bind (wpAny_attempt (wpAny_callSpecial?_slot (name:=Str.ofString "__next__") hit.typeIs slot_tupleiter_next
  (wpAny_call_entry slot_tupleiter_next hit.typeIs entry_tupleiter_next ?_ (args_tupleiter_next _))))
 show wpAny _ _ (field (.ref it) 0>>=_) _ _ s
 refine wpAny_bind (wpAny_field ho hd (x:=.ref l) rfl ?_)
 show wpAny _ _ (if (Value.ref l == Value.none)=true then _ else _) _ _ s
 rw [if_neg (show ¬ ((Value.ref l == Value.none)=true) from Bool.false_ne_true)]
 show wpAny _ _ (field (.ref it) 1>>=_) _ _ s
 refine wpAny_bind (wpAny_field ho hd (x:=.int i 0) rfl ?_)
 show wpAny _ _ (seqItems? (.ref l)>>=_) _ _ s
 refine wpAny_bind (wpAny_seqItems hol hdl ?_)
 simp only [Int.toNat_natCast,hx]
 refine wpAny_bind (wpAny_rule (wpAny_bind (wpAny_setField ho hd (by simp) ?_)))
 show wpAny _ _ (newExc (.type "StopIteration") []>>=_) _ _ _
 refine wpAny_bind ?_
 simp only [newExc,newTuple]
 refine wpAny_bind (wpAny_newObj_type ?_ (by size_fits))
 refine wpAny_bind (m:=firstArgMember _ _) (wpAny_of_eq (a:=Value.none) (by first | rfl | (simp only [firstArgMember]; rfl)) ?_)
 refine wpAny_newObj_type ?_ (by size_fits)
 refine zhI_ ?_ (Heap.get?_push_size _ rfl) rfl (by rw [Array.size_append]; exact Nat.lt_of_lt_of_le (show 2<6 by decide) (Nat.le_add_right _ _)) fun h' sb ⟨o',g,c⟩=>?_
 ·rcases hh with z | ⟨x,ox,vs,a,b,c⟩
  ·exact .inl z
  ·exact .inr ⟨x,ox,vs,a,Heap.get?_push_of_some _ (Heap.get?_push_of_some _ ((Heap.get?_update_other _ _ (dG x a).symm).trans b)),c⟩
 ·refine wpAny_bind (wpAny_isInstance (T:="StopIteration") (b:=true) ⟨_,g,c⟩ isSubtype_stop ?_)
  exact wpAny_pure (hQ _ (zfQ_ (Heap.SameBut.update ..).extBut sb))
theorem zes_ {t:Addr}{items:Array Value}{Q:List Value->Shared->Prop}(hh:Hdl A s.heap)(ht:IsTup s.heap t items)
  (hQ:∀ h',Heap.ExtBut s.heap.objs.size s.heap h'->Q items.toList { s with heap:=h' }):wpAny (model prog w) A (unpackItems (.ref t) items.size none) Q E s:=by
 have bw:t≠s.heap.objs.size:=by obtain ⟨o,ho,_⟩:=ht; exact Nat.ne_of_lt (Heap.lt_size ho)
 have dG:∀ x,A.handled=some (.ref x)->x≠s.heap.objs.size:=fun x e=>by
  rcases hh with z | ⟨y,o,vs,a,b,c⟩
  ·rw [z] at e; cases e
  ·rw [a] at e; cases e; exact Nat.ne_of_lt (Heap.lt_size b)
 unfold unpackItems
 refine wpAny_bind ?_
 unfold notIterableAtAll
 refine wpAny_bind (wpAny_specialOf ht.typeIs slot_tuple_iter.lookup ?_)
 refine wpAny_pure ?_
 simp only [Bool.false_eq_true,if_false]
 refine wpAny_bind (wpAny_holding (iter_tuple ht ?_))
 refine wpAny_bind (wpAny_holding (draw_tuple bw items.size 0 _ _ ⟨_,Heap.get?_push_size _ rfl,rfl,rfl⟩ (ht.push _) (by lia) fun bK gB d_=>?_))
 have eF:List.take items.size (List.drop 0 items.toList)=items.toList:=by
  rw [List.drop_zero]; exact List.take_of_length_le (by simp)
 rw [eF]
 rw [if_neg (by simp)]
 have iY:IsTup bK t items:=(ht.push _).extBut d_.extBut bw
 have jb:Hdl A bK:=by
  rcases hh with z | ⟨y,o,vs,a,b,c⟩
  ·exact .inl z
  ·exact .inr ⟨y,o,vs,a,d_.extBut y o (dG y a) (Heap.get?_push_of_some _ b),c⟩
 refine wpAny_bind (wpAny_holding (zib_ jb dG gB iY (by simp) fun dA jf=>?_))
 simp only [Option.isSome_none,Bool.false_eq_true,if_false]
 refine wpAny_pure (hQ dA fun b o hb e=>jf b o hb (d_.extBut b o hb (Heap.get?_push_of_some _ e)))
theorem zff_ {env:Env}{elts:List Expr}{x1}{pos:Pos}{t:Addr}{items:Array Value}{Q:Unit->Shared->Prop}(hh:Hdl A s.heap)(ht:IsTup s.heap t items)
  (hn:(assignEach elts env).length=items.size) (i5:(assignEach elts env).findIdx? (·.1)=none)
  (h:∀ h',Heap.ExtBut s.heap.objs.size s.heap h'->wpAny (model prog w) A (assignInOrder ((assignEach elts env).map (·.2)) items.toList) Q E { s with heap:=h' }):
  wpAny (model prog w) A (assign (.Tuple elts x1 pos) env (.ref t)) Q E s:=by
 rw [assign_Tuple]
 refine wpAny_bind (wpAny_standAt ?_)
 unfold unpack
 rw [hn,i5]
 exact wpAny_bind (wpAny_holding (zes_ hh ht h))
end
section
variable {X:Cx}{tg:Expr}{p:Addr}
def HdP (p:Addr)(H:Hp):Prop:=∃ C d,H p=some (XO p C d)
theorem HdP.hdl {pins:Pnn}{σ:St}{H:Hp}{s:Shared}(h:HdP p H)(hA:X.A.handled=some (.ref p))(I:Inv X pins σ H s):Hdl X.A s.heap:=by
 obtain ⟨C,d,e⟩:=h
 obtain ⟨⟨o,vs,a,_,_,b,c⟩,_⟩:=I.hok p _ e
 exact .inr ⟨p,o,vs,hA,a,b,c⟩
def ItlH (K:Fgg)(a p:Addr):It:=⟨(Itl K a).go,(Itl K a).yld,fun i H=>(Itl K a).stop i H/\HdP p H⟩
def iLstH (p:Addr)(K:Fgg)(tl:TE):TI:=fun σ H R=>tl σ H fun x H1=>∃ a xs,x=.ref a/\SqL K H1 a xs/\R (ItlH K a p) H1
def gTupH (p:Addr)(K:Fgg)(n:Nat)(t:TGs):TG:=fun v σ H Q=>HdP p H/\gTup K n t v σ H Q
theorem zos_ {es:List Expr}{k:Nat}{t:TGs}{n:Nat}{pos:Pos}(hA:X.A.handled=some (.ref p))(h:PGs X es t)
  (hn:(assignEach es X.env).length=n:=by rfl) (bE:(assignEach es X.env).findIdx? (·.1)=none:=by rfl):PG X (.Tuple es k pos) (gTupH p X.K n t):=by
 intro pins s σ H v u Q I r hw
 obtain ⟨hd,a,xs,e1,hq,hl,hw⟩:=hw
 subst e1
 cases r
 obtain ⟨ai,rv,ht,hz⟩:=I.tuple hq
 refine zff_ (hd.hdl hA I) ht (by simp [hn,<- hl,rv.length]) bE fun h' hx=>?_
 have I1:Inv X pins σ H { s with heap:=h' }:=I.kept (t':=s.toks) fun b o e=>hx b o (Nat.ne_of_lt (Heap.lt_size e)) e
 exact h pins _ σ H xs _ Q I1 (by simpa using rv) hw
theorem zn9_ {iter:Expr}{body:List Stmt}{tl:TE}{g:TG}{tb:TS}{pos:Pos}(hA:X.A.handled=some (.ref p))(hp:PassesOwn (model X.prog X.w) X.A X.env X.xe)(hi:PE X iter tl)(hg:PG X tg g)(hb:PSs X body tb)
  (hs:∀ x,foldedSetIterable iter X.env x=pure x:=by intro _; rfl):PS X (.For tg iter body [] pos) (tFor (iLstH p X.K tl) g tb):=by
 intro pins s σ H D I h
 refine wpAny_For (thn (hi pins s σ H _ I h) fun v s1 ao=>?_) hs
 obtain ⟨x,H1,I1,r1,a,xs,e1,hq,h2⟩:=ao
 subst e1
 cases r1
 obtain ⟨p7,rv0,pl0,hz0⟩:=I1.list hq
 refine wpAny_pyIter_list pl0.isList ?_
 have I2:Inv X pins σ H1 { s1 with heap:=s1.heap.push { cls:=.type "list_iterator",data:=.fields #[.ref a,.int 0 0] } }:=I1.kept (t':=s1.toks) fun b o e=>Heap.get?_push_of_some _ e
 have f2:∀ b∈[s1.heap.objs.size],FpOk X pins H1 b:=fun b hb=>by
  have e:b=s1.heap.objs.size:=by simpa using hb
  subst e
  exact I1.fpOk (Nat.le_refl _) (I1.hok.fresh (Nat.le_refl _))
 have fT:Heap.IsListIter (s1.heap.push { cls:=.type "list_iterator",data:=.fields #[.ref a,.int 0 0] }) s1.heap.objs.size a 0:=⟨_,Heap.get?_push_size _ rfl,rfl,rfl⟩
 obtain ⟨W,⟨m0,w0⟩,turn⟩:=h2
 generalize s1.heap.objs.size=it at f2 fT ⊢
 have T:=zhx_ (P:=X.prog) (w:=X.w) (K:=X.K) (tg:=tg) a it
 have bX:∀ {H':Hp},(∀ b∈[it],H' b=none)->∀ b∈[it],FpOk X pins H' b:=fun hn b hb=>⟨hn b hb,(f2 b hb).2⟩
 refine codeAny_forLoop_any (fun n s'=>∃ i au H',Inv X pins au H' s'/\s'.heap.IsListIter it a i/\(∀ b∈[it],H' b=none)/\W i n au H') ?_ m0 ⟨0,σ,H1,I2,fT,fun b hb=>(f2 b hb).1,w0⟩
 rintro n s3 ⟨i,bS,H3,I3,st3,fr3,w3⟩
 rcases turn i n bS H3 w3 with ⟨⟨⟨gU,dm,nP⟩,hdp⟩,qn⟩ | ⟨⟨gU,x,dm,hx⟩,N,hN,step⟩
 ·obtain ⟨ai,rv,pl,hz⟩:=I3.list dm
  obtain ⟨f0,f1,f2',f3,f4,f5⟩:=bX fr3 it (by simp)
  have hl:=rv.length
  have dG:∀ x,X.A.handled=some (.ref x)->x≠it:=fun x e z=>by
   rw [hA] at e; cases e
   obtain ⟨C,d,e⟩:=hdp
   rw [z,fr3 it (by simp)] at e; cases e
  refine wpAny_passesOwn hp (zgP_ (hdp.hdl hA I3) dG st3 pl.isList (by simp; lia) fun h' eb=>?_)
  exact wpAny_execs_nil ⟨bS,H3,I3.turned (t':=s3.toks) (fun b o hb e=>eb b o hb e) f0 f1 f3 f4 f5,qn⟩
 ·obtain ⟨ai,rv,pl,hz⟩:=I3.list dm
  obtain ⟨u,hu,ru⟩:=rv.get hx
  obtain ⟨f0,f1,f2',f3,f4,f5⟩:=bX fr3 it (by simp)
  refine wpAny_passesOwn hp (wpAny_pyNext_list_item st3 pl.isList (x:=u) (by simpa using hu) fun h' dN sb=>?_)
  have I5:Inv X pins bS H3 { s3 with heap:=h' }:=I3.turned (t':=s3.toks) (fun b o hb e=>(sb.2 b hb).trans e) f0 f1 f3 f4 f5
  have ts:=T.obj (i+1) h' dN
  obtain ⟨o,e,c,d⟩:=id dN
  have jI:=I5.pinned (bX fr3) (T.obj _ _ dN)
  refine wpAny_passesOwn hp (zp7_ (s:={ s3 with heap:=h' }) e c d (by decide) ?_)
  have y5:(Itl X.K a).yld i H3 x H3:=⟨rfl,fun ys hy=>by rw [I3.list_inj hy dm]; exact hx⟩
  refine wpAny_passesOwn hp (thn (hg _ _ bS H3 x u _ jI ru (step x H3 y5)) fun _ s6 ao=>?_)
  obtain ⟨dX,H6,I6,q6⟩:=ao
  refine wpAny_passesOwn hp (thn (hb _ s6 dX H6 _ I6 q6) fun f s7 q7=>?_)
  have again:∀ {bR:St}{H7:Hp},Inv X (pins++pinsAt [it] h') bR H7 s7->N bR H7->∃ m,m<n/\∃ i au H',Inv X pins au H' s7/\s7.heap.IsListIter it a i/\(∀ b∈[it],H' b=none)/\W i m au H':=fun {bR H7} I7 n7=>by
   obtain ⟨m',hm,w7⟩:=hN bR H7 n7
   refine ⟨m',hm,i+1,bR,H7,I7.unpinned,T.keep _ _ _ dN fun b hb o e=>(I7.pin (b,o) (List.mem_append_right _ (List.mem_append_right _ (zbk_ hb e)))).1,fun b hb=>?_,w7⟩
   obtain ⟨o,e,d⟩:=T.obj _ _ dN b hb
   exact (I7.pin (b,o) (List.mem_append_right _ (List.mem_append_right _ (zbk_ hb e)))).2.1
  cases f with
  | next=>obtain ⟨bR,H7,I7,n7⟩:=q7; exact again I7 n7
  | cont=>obtain ⟨bR,H7,I7,n7⟩:=q7; exact again I7 n7
  | brk=>obtain ⟨bR,H7,I7,q7⟩:=q7; exact ⟨bR,H7,I7.unpinned,q7⟩
  | ret v=>obtain ⟨x7,bR,H7,I7,r7,q7⟩:=q7; exact ⟨x7,bR,H7,I7.unpinned,r7,q7⟩
end
abbrev tyXcP (K:Fgg)(p:Addr):Ty Xc:=⟨fun x v H=>v=.ref p/\∃ d,H p=some (XO p (gA K x.c) d)/\XAtt x d H,fun g ⟨e,d,q,r⟩=>⟨e,d,g _ _ q,r.mono g⟩⟩
def tHAsP (K:Fgg)(S:Addr)(i:Nat)(ts:Addr->TS)(rest:TH):TH:=fun C d D σ H=>if catK K C S=true then ∀ x,H x=none->ts x (gone i D) (σ.set i (some (.ref x))) (upd H x (XO x C d)) else catN K C S=true/\rest C d D σ H
section
variable {X:Cx}{ts:Addr->TS}{S:Addr}{sx n:Str}{i:Nat}{dC:Stmt}{bW:List Stmt}{np cV:Pos}{rest:TH}{hs:List ExceptHandler}
theorem zoU_ (hm:X.mg sx=some (.ref S))(hN:X.N.Nodup)(hi:X.N[i]?=some n)(hl:X.env.scope.names.lookup n=some .local)(lr:∀ x,PSs (X.inX x) (dC::bW) (ts x))(hr:PH X hs rest)
  (hg:Gl X sx:=by rfl) (aV:(sx==("__debug__":Str))=false:=by decide):PH X (.ExceptHandler (some (.Name sx np)) (some n) (dC::bW) cV::hs) (tHAsP X.K S i ts rest):=by
 intro pins σ H D s x C d E I hx fl h
 refine zl1_ (t:=True) hm hg aV I ?_
 unfold tHAsP at h
 split at h
 case isFalse hc=>rw [if_neg hc]; exact ⟨h.1,hr pins σ H D s x C d E I hx fl h.2⟩
 case isTrue hc =>
  rw [if_pos hc]
  refine codeAny_handlers_suite_as (fl _ _ _ fun h6 I6=>?_)
  refine zeT_ (X:=X.inX x) (v:=.ref x) (I6.inX x) hN hi (.inl hl) rfl (fun s7 I7=>?_) (.inr hl)
  refine wpAny_mono (lr x pins s7 _ _ _ I7 (h x hx)) (fun f s8 q=>?_) fun _ _ z=>z.elim
  have q:=q.outX I.ok
  cases f with
  | next =>
   obtain ⟨eO,H2,I8,q⟩:=q
   exact zhy_ I8 hN hi hl fun s9 I9=>⟨_,H2,I9,q⟩
  | brk =>
   obtain ⟨eO,H2,I8,q⟩:=q
   exact zhy_ I8 hN hi hl fun s9 I9=>⟨_,H2,I9,q⟩
  | cont =>
   obtain ⟨eO,H2,I8,q⟩:=q
   exact zhy_ I8 hN hi hl fun s9 I9=>⟨_,H2,I9,q⟩
  | ret u =>
   obtain ⟨v,eO,H2,I8,r,q⟩:=q
   exact zhy_ I8 hN hi hl fun s9 I9=>⟨v,_,H2,I9,r,q⟩
end
section
variable {K:Fgg}{E:XK}{ρ S B:Type}{L:List Sl}{O:Own ρ}{LS:S->List Sl}{LB:B->List Sl}{i:Nat}{x:Xc}{rest:TH}
theorem zpq_ {ts:Addr->TS}{c:String}{t:List (String×Bool)}{r1 r2:Mo (Out ρ B S)}(hT:CatT K c t)(hi:L[i]?=some .dead)(hd:∀ s,(LS s)[i]?=some .dead)
  (h1:∀ p,EvS K (ts p) E (L.set i (.fz (tyXcP K p) x)) r1 LS LB O) (h2:EvH K rest E L x r2 LS LB O) (hb:∀ b,(LB b)[i]?=some .dead\/LB b=[]:=by first | exact fun _=>.inl rfl | exact fun _=>.inr rfl):EvH K (tHAsP K (gA K c) i ts rest) E L x (Mo.cat t x.c r1 r2) LS LB O:=by
 intro F0 H0 σ F h H d D hL ok hx fin
 unfold Mo.cat at fin
 split at fin
 case h_1 e =>
  have z:catK K (gA K x.c) (gA K c)=true:=hT _ (zbt_ e)
  unfold tHAsP
  rw [if_pos z]
  intro p hp
  have y:=Ext.new (o:=XO p (gA K x.c) d) ok.1.2.1 hp
  exact h1 p F0 H0 _ (upd F p (XO p (gA K x.c) d)) h _ (gone i D) (zdJ_ hi (hL.mono y.1) ⟨rfl,d,zx_,hx.mono y.1⟩) (ok.cold y) (znr_ hd hb fin)
 case h_2 e =>
  have z:catN K (gA K x.c) (gA K c)=true:=hT _ (zbt_ e)
  unfold tHAsP
  rw [if_neg (zja_ z)]
  exact ⟨z,h2 F0 H0 σ F h H d D hL ok hx fin⟩
 case h_3=>exact fin.elim
end
structure FnOkH (P:Program)(w:World)(K:Fgg)(mg:Str->Option Value)(base:Heap)(k:Nat)(f:Addr)(fd:FuncData)(ps:List Str)(sp:Addr->Sp):Prop where
 len:∀ p vs H Q E,sp p vs H Q E->vs.length=ps.length
 run:∀ (A:Around) (outer:List Env) (s:Shared) (H:Hp) (args:PySem.Args) (us:List Value) (vs:List V) (Q:VK) (E:XK) (p:Addr),RoomN k A->A.handled=some (.ref p)->Env0 P w K mg base A outer s H->BindsTo s fd args (ps.zip us)->Vals vs us->sp p vs H Q E ->
  codeAny (model P w) A (.call (.ref f) args) (CR CX0 outer P w H s Q E) s
section
variable {P:Program}{w:World}{K:Fgg}{mg:Str->Option Value}{base:Heap}
theorem Fun.okH {x qual:Str}{st:Stmt}{f:Addr}{fd:FuncData}{N ps:List Str}{k:Nat}{sp:Addr->Sp}(F:Fun K x qual st f fd)(S:FnScope N ps (defScope st))(len:∀ p vs H Q E,sp p vs H Q E->vs.length=ps.length)
  (bF:∀ (ar:Value) (A:Around) (outer:List Env) (s:Shared) (H:Hp) (vs:List V) (Q:VK) (E:XK) (p:Addr),RoomN k (A.deeper (envOfC qual (defScope st) s.heap.objs.size f ar))->A.handled=some (.ref p)->sp p vs H Q E ->
   ∃ t,PSs (cxN P w K mg base N qual (defScope st) f ar A outer s H) (defBody st) t/\t { nx:=fun _ H'=>Q .non H',rt:=Q } (start N vs) H):FnOkH P w K mg base (k+1) f fd ps sp:=by
 obtain ⟨oc,od,kV,doc,pm,an,ar,ct,bL,rfl,lk,cY⟩:=F.ex
 refine ⟨len,fun A outer s H args us vs Q E p hr hA e0 hb r cM=>?_⟩
 have hl:=len _ _ _ _ _ cM
 have KX:K.In s.heap:=e0.mod.kin.keeps fun b o e=>(e0.bs b o e).1
 have lim:s.heap.NoLimit:=e0.mod.nolimit.keeps fun b o e=>(e0.bs b o e).1
 have cX:∀ y∈ps.zip us,(defScope st).names.lookup y.1=some .local\/((defScope st).names.lookup y.1=some .cell/\((cellsFrom (s.heap.objs.size+1) (defScope st).names []).lookup y.1).isSome=true):=fun ⟨n,v⟩ hy=>by
  rcases S.par n (List.of_mem_zip hy).1 with q | q
  ·exact .inl q
  ·exact .inr ⟨q,W.cellsFrom_some _ _ _ (.inl q)⟩
 refine codeAny_call_function (by have:=hr.dp; lia) (KX _ _ lk) rfl S.co S.gen rfl (W.codeRec_of KX cY) (hb _ _ _ _ ?_)
 refine wpAny_newFunctionEnv_cells S.kind cX fun env he s1 x=>?_
 subst he
 refine ⟨lim.keeps x.toInCall.keep,codeAny_func ?_⟩
 obtain ⟨t,ht,hq⟩:=bF ar A outer s H vs Q E p (hr.deeper _) hA cM
 have J:Inv (cxOf CX0 P w K mg base N qual (defScope st) f ar { A with handled:=none } outer s H E0) [] (start N vs) H s1:=zfz_ S rfl ⟨e0.frames,e0.mod,e0.bs,e0.bsz,e0.funs,e0.frf,e0.hok,e0.bare⟩ hl r x
 have I:Inv (cxN P w K mg base N qual (defScope st) f ar A outer s H) [] (start N vs) H s1:=
  ⟨⟨J.ok.mod,J.ok.kind,J.ok.glob,J.ok.blt,J.ok.above,J.ok.inj,J.ok.has,J.ok.cab,(fun z=>by cases z),Around.frames_deeper e0.frames,J.ok.stk,J.ok.exf,J.ok.bs,J.ok.bsz,J.ok.noex,J.ok.exfs,J.ok.funs,J.ok.frf⟩,J.os,J.bare,J.base,J.loc,J.cell,J.free,J.freeC,J.pin,J.hok,J.len⟩
 refine wpAny_mono (ht [] s1 (start N vs) H _ I hq) (fun fl s' hs=>?_) fun e s' hs=>hs.elim
 have fin:∀ {au:St}{H':Hp}{v:V}{u:Value},Inv (cxN P w K mg base N qual (defScope st) f ar A outer s H) [] au H' s'->RelV v u->Q v H'->CE outer P w H s Q u s':=
  fun {au H' v u} J rv q=>⟨v,H',J.os,J.bare,J.base,J.hok,rv,q⟩
 cases fl with
 | ret u =>
  obtain ⟨v,au,H',J,rv,q⟩:=hs
  exact fin J rv q
 | next =>
  obtain ⟨au,H',J,q⟩:=hs
  exact fin (v:=V.non) (u:=Value.none) J rfl q
 | brk =>
  obtain ⟨_,_,_,q⟩:=hs
  exact False.elim q
 | cont =>
  obtain ⟨_,_,_,q⟩:=hs
  exact False.elim q
end
def GdH (P:Program)(w:World)(K:Fgg)(mg:Str->Option Value)(base:Heap)(k:Nat)(x:Str)(ps:List Str)(sp:Addr->Sp):Prop:=
 ∃ f fd,FnOkH P w K mg base k f fd ps sp/\mg x=some (.ref f)/\W.keepIn K (.ref f)=true/\Binds K fd ps []
section
variable {X:Cx}{k:Nat}{x:Str}{ps:List Str}{p pos:Pos}{e:Expr}{es:List Expr}{t:TA}
theorem zjO_ {sp:Addr->Sp}{ad:Addr}(G:GdH X.prog X.w X.K X.mg X.base k x ps sp)(hr:RoomN k X.A)(hA:X.A.handled=some (.ref ad))(ha:PA X (e::es) t)(hg:Gl X x:=by rfl)(aV:(x==("__debug__":Str))=false:=by decide)
  (he:starEach (e::es) X.env=(false,eval e X.env)::starEach es X.env:=by rfl) (aQ:(backTo pos (starEach es X.env)).any (·.1)=false:=by rfl):
  PE X (.Call (.Name x p) (e::es) [] pos) (tCall (sp ad) [] E0 t):=by
 intro pins s σ H Q I h
 obtain ⟨f,fd,F,hm,hk,hb⟩:=G
 refine wpAny_Call_Name_kw (zcj_ I hg hm ?_ aV)
 refine W.callWith_K (h₀:=X.base) I.ok.mod.kin hk (thn (ha pos pins s σ H _ I h) fun us s1 q=>?_) he aQ
 obtain ⟨vs,H1,I1,r,q⟩:=q
 refine ⟨I1.kIn,?_⟩
 have r2:Vals (vs++[]) (us++[]):=r.append .nil
 have hl:(us++[]).length=ps.length:=by rw [<- r2.length]; exact F.len _ _ _ _ _ q
 refine wpAny_call (codeAny_mono (F.run X.A X.stack s1 H1 ⟨us,[]⟩ (us++[]) (vs++[]) Q E0 ad hr hA I1.env0 (hb s1 us I1.kIn hl) r2 q) fun r s' hq=>?_)
 cases r with
 | error e=>exact False.elim hq
 | ok fl =>
  cases fl with
  | ret u=>exact I1.after hq
  | next=>exact False.elim hq
  | brk=>exact False.elim hq
  | cont=>exact False.elim hq
end
def gTupHM (p:Addr)(K:Fgg)(n:Nat)(t:TGs):TG:=fun v σ H Q=>HdP p H/\gTupM K n t v σ H Q
theorem znt_ {X:Cx}{p:Addr}{es:List Expr}{k:Nat}{t:TGs}{n:Nat}{pos:Pos}(hA:X.A.handled=some (.ref p))(h:PGs X es t)
  (hn:(assignEach es X.env).length=n:=by rfl) (bE:(assignEach es X.env).findIdx? (·.1)=none:=by rfl):PG X (.Tuple es k pos) (gTupHM p X.K n t):=by
 intro pins s σ H v u Q I r hw
 obtain ⟨hd,hw⟩:=hw
 unfold gTupM at hw
 split at hw
 ·rename_i a
  obtain ⟨xs,h1,h2,h3⟩:=hw
  exact zos_ hA h hn bE pins s σ H _ u Q I r ⟨hd,a,xs,rfl,h1,h2,h3⟩
 ·exact hw.elim
section
variable {K:Fgg}{E:XK}{α:Type}{L:List Sl}{e:TE}{T:Ty α}{p:Addr}{x:Xc}{i:Nat}
abbrev tyHd (p:Addr)(T:Ty α):Ty α:=⟨fun a v H=>T.R a v H/\HdP p H,fun g ⟨h,C,d,e⟩=>⟨T.mono g h,C,d,g _ _ e⟩⟩
theorem zjR_ {r:Mo Xc}(h:EvF K e E L r (tyXcP K p)):EvF K e E L r (tyXc K):=fun σ F H Q hL hs q=>h σ F H Q hL hs (q.imp fun a F1 H1 x1 k v hv=>by
 obtain ⟨rfl,d,h1,h2⟩:=hv
 exact k _ ⟨p,d,rfl,h1,h2⟩)
theorem ei_lH {r:Mo (List α)}(hi:L[i]?=some (.fz (tyXcP K p) x))(h:EvF K e E L r (tyL T)):EvI K (iLstH p K e) E L r (tyHd p T):=by
 intro σ F H R hL hs q
 have hp:HdP p F:=by
  obtain ⟨v,_,_,d,z,_⟩:=hL i _ hi
  exact ⟨_,d,z⟩
 refine h σ F H _ hL hs (q.imp fun l F1 H1 x1 k1 v hv=>?_)
 have ck:HdP p F1:=by obtain ⟨C,d,z⟩:=hp; exact ⟨C,d,x1.1 _ _ z⟩
 obtain ⟨a,vs,rfl,ha,hr⟩:=hv
 refine ⟨a,vs,rfl,.of (x1.2.1 _ _ ha),k1 _ ⟨fun i H x hH hx=>?_,fun H hH=>⟨⟨vs,.of (hH _ _ ha),by rw [hr.len]; exact Nat.le_refl _⟩,?_⟩⟩⟩
 ·rcases hr.get i with ⟨b,_⟩ | ⟨y,u,b,c,d⟩
  ·rw [b] at hx; cases hx
  ·rw [b] at hx; cases hx
   refine ⟨⟨vs,u,.of (hH _ _ ha),c⟩,?_⟩
   rintro v H' ⟨rfl,z⟩ F hF fJ
   have e:=z vs (.of (hH _ _ ha))
   rw [c] at e; cases e
   obtain ⟨C,d',z'⟩:=ck
   exact ⟨F,.refl fJ,T.mono hF d,C,d',hF _ _ z'⟩
 ·obtain ⟨C,d,z⟩:=ck; exact ⟨C,d,hH _ _ z⟩
theorem zoP_ {n:Nat}{t:TGs}{ss:α->List (Nat×Sl)}(h:TgR K (gTupM K n t) T ss):TgR K (gTupHM p K n t) (tyHd p T) ss:=by
 intro a v σ F H Q hs hv k
 obtain ⟨hv,C,d,z⟩:=hv
 exact ⟨⟨C,d,hs _ _ z⟩,h a v σ F H Q hs hv k⟩
end
section
variable {P:Program}{w:World}{K:Fgg}{mg:Str->Option Value}{base:Heap}{x:Str}{st:Stmt}{ps:List Str}{k:Nat}{sp:Addr->Sp}
theorem gh_of (M:Mgo K mg)(F:Fg K x st)(h:∀ f fd,Fun K x x st f fd->FnOkH P w K mg base k f fd ps sp/\Binds K fd ps []):GdH P w K mg base k x ps sp:=by
 obtain ⟨_,X,G⟩:=M; obtain ⟨f,e,i⟩:=F; obtain ⟨fd,F⟩:=i.fun_
 exact ⟨f,fd,(h f fd F).1,W.mg_of X G e,F.kp,(h f fd F).2⟩
variable {q:Str}{N:List Str}{γ ρ:Type}
abbrev TmH (P:Program)(w:World)(K:Fgg)(mg:Str->Option Value)(base:Heap)(k:Nat)(N:List Str)(q:Str)(st:Stmt)(t:Addr->XK->TS):Prop:=
 ∀ (ar:Value) (A:Around) (outer:List Env) (s:Shared) (H:Hp) (f:Addr) (E:XK) (p:Addr),N.Nodup->RoomN k (A.deeper (envOfC q (defScope st) s.heap.objs.size f ar))->A.handled=some (.ref p)->PSs (cxN P w K mg base N q (defScope st) f ar A outer s H) (defBody st) (t p E)
theorem okH {C:Addr->Cs γ}{O:Own ρ}{ss:Addr->γ->List Sl}{g:γ->Mo (Out ρ Unit Unit)}{t:Addr->XK->TS}(n m:Nat)(hC:∀ p,CsS (C p) (ss p))(tm:TmH P w K mg base k N q st t)
  (ev:∀ p c E,EvS K (t p E) E (ss p c++List.replicate m .dead) (g c) (fun _:Unit=>[]) (fun _:Unit=>[]) O) (hn:∀ p,CsN (C p) n:=by intro _; repeat first | exact zC_ | exact zcg_ | refine zv_ ?_) (S:FnScope N ps (defScope st):=by exact ⟨rfl,rfl,rfl,by decide +kernel,rfl,by decide +kernel,by decide +kernel⟩) (b:Bnd K x q st ps:=by first | exact fun _ _ F=>Fun.binds1 rfl F fun _ _ _ _ _ _ _=>rfl | exact fun _ _ F=>Fun.binds2 rfl F fun _ _ _ _ _ _ _ _=>rfl | exact fun _ _ F=>Fun.binds3 rfl F fun _ _ _ _ _ _ _ _ _=>rfl | exact fun _ _ F=>Fun.binds4 rfl F fun _ _ _ _ _ _ _ _ _ _=>rfl | exact fun _ _ F=>Fun.binds5 rfl F fun _ _ _ _ _ _ _ _ _ _ _=>rfl | exact fun _ _ F=>Fun.binds6 rfl F fun _ _ _ _ _ _ _ _ _ _ _ _=>rfl | exact fun _ _ F=>Fun.binds7 rfl F fun _ _ _ _ _ _ _ _ _ _ _ _ _=>rfl) (hp:ps.length=n:=by rfl) (hm:N.length-n=m:=by rfl):∀ f fd,Fun K x q st f fd->FnOkH P w K mg base (k+1) f fd ps (fun p=>Ct K (C p) (fun c=>fnO (g c)) O)/\Binds K fd ps []:=fun f fd F =>
 ⟨F.okH S (fun p vs H Q E h=>by obtain ⟨F,c,_,hc,_⟩:=h; exact (hn p hc).trans hp.symm) fun ar A outer s H vs Q E p hr hA h=>⟨t p E,tm ar A outer s H f E p S.nd hr hA,zp2_ (N:=N) (t:=t p) n m (hn p) hm (hC p) (ev p) vs H Q E h⟩,b f fd F⟩
end
abbrev oP2 {α β:Type}(x:Mo α)(y:Mo β):Mo (α×β):=x.bind fun a=>y.bind fun c=>.ok (a,c)
abbrev oMd (x y:Mo Int):Mo Int:=x.bind fun a=>y.bind fun b=>.grd (0<b) (.ok (a % b))
abbrev oDv (x y:Mo Int):Mo Int:=x.bind fun a=>y.bind fun b=>.grd (CDivG a b) (.ok (a / b))
abbrev oMu (x y:Mo Int):Mo Int:=x.bind fun a=>y.bind fun b=>.grd (IntMulOk a b) (.ok (a*b))
abbrev oAd (x y:Mo Int):Mo Int:=x.bind fun a=>y.bind fun b=>.ok (a+b)
abbrev oSu (x y:Mo Int):Mo Int:=x.bind fun a=>y.bind fun b=>.ok (a-b)
abbrev oEI (x y:Mo Int):Mo Bool:=x.bind fun a=>y.bind fun b=>.ok (decide (a=b))
abbrev oNI (x y:Mo Int):Mo Bool:=x.bind fun a=>y.bind fun b=>.ok (!decide (a=b))
abbrev oES (x y:Mo (List Nat)):Mo Bool:=x.bind fun a=>y.bind fun b=>.ok (decide (a=b))
abbrev oLI (x y:Mo Int):Mo Bool:=x.bind fun a=>y.bind fun b=>.ok (decide (a<b))
abbrev oLE (x y:Mo Int):Mo Bool:=x.bind fun a=>y.bind fun b=>.ok (decide (a<=b))
abbrev oGI (x y:Mo Int):Mo Bool:=x.bind fun a=>y.bind fun b=>.ok (decide (b<a))
abbrev oGE (x y:Mo Int):Mo Bool:=x.bind fun a=>y.bind fun b=>.ok (decide (b<=a))
abbrev oAt {α:Type}(x:Mo (List α))(y:Mo Int):Mo α:=x.bind fun a=>y.bind fun b=>.opt (atI a b)
abbrev oAp {α:Type}(x y:Mo (List α)):Mo (List α):=x.bind fun a=>y.bind fun b=>.lim (a.length+b.length) (.ok (a++b))
abbrev oRt {ρ B S:Type}(x:Mo ρ):Mo (Out ρ B S):=x.bind fun r=>.ok (.rt r)
abbrev oSm (x:Mo Int):Mo (Option Int):=x.bind fun i=>.ok (some i)
abbrev oNt (x:Mo Bool):Mo Bool:=x.bind fun a=>.ok (!a)
end L2
namespace K56
open PySem PySem.Spec PyProof.Rows L2
open Mo renaming bind→Mb,ok→Mq
open Sl renaming fz→Zf,dead→Zd,ow→Zo
abbrev Jx:=List Nat
abbrev Jy:=List Jx
theorem S4 {a b c d:Sl}{L L':List Sl}(h:Sub L L'):Sub (a::b::c::d::L) (a::b::c::d::L'):=.same (.same (.same (.same h)))
abbrev Qn0:List Str:=["pockets", "log", "field", "last", "other_parts", "wants_mates"]
abbrev Qq0 (K:Fgg):=(owI (gA K "Mater") Qn0 (psO (owLO (owL tyStr)) (psO (owL tyInt) (psO (owF (tyTup (csCons tyInt (csLast tyInt)))) (psO (owF (tyOpt tyStr)) (psO (owD kStr tyBl) (psO (owF tyBl) psNil)))))))
abbrev Qq1:=(tyTup (csCons tyInt (csLast tyInt)))
abbrev Qq2:=((List Jy)×((List Int)×((Int×Int)×((Option Jx)×((List (Jx×Bool))×(Bool×Unit))))))
abbrev Qq3 (K:Fgg):=(tyI (gA K "Mater") Qn0 (csCons (tyL (tyL tyStr)) (csCons (tyL tyInt) (csCons Qq1 (csCons (tyOpt tyStr) (csCons (tyD kStr tyBl) (csCons tyBl csNil)))))))
abbrev Qq4:=(tyTup (csCons tyStr (csCons tyStr (csCons tyStr (csCons Qq1 (csCons Qq1 (csLast tyStr)))))))
abbrev Qq5:=(tyTup (csCons Qq1 (csLast Qq1)))
abbrev Qq6:=(psO (owLO (owL tyStr)) (psO (owL tyInt) (psO (owF Qq1) (psO (owF (tyOpt tyStr)) (psO (owD kStr tyBl) (psO (owF tyBl) psNil))))))
abbrev Qq7 (K:Fgg):=(owI (gA K "Mater") ["pockets", "log"] (psO (owLO (owL tyStr)) (psO (owL tyInt) psNil)))
abbrev Qq8 (K:Fgg):=(owI (gA K "Mater") ["pockets", "log", "field", "last"] (psO (owLO (owL tyStr)) (psO (owL tyInt) (psO (owF Qq1) (psO (owF (tyOpt tyStr)) psNil)))))
abbrev Qq9:=((List Jy)×((List Int)×Unit))
def zeC_  : Mo (Out Jx Unit Unit):=
 (oRt (Mq (SG:Jx)))
def zdg_  : Mo Jx:=fnO (zeC_)
def zdQ_ (bA:Int)(cC:Jx)(dy:Jx):Mo (Out Jx Unit Unit):=
 (Mb (Mq ([]:Jx)) fun gW=>(Mb (oAd (oMd (Mq bA) (Mq (2147483647:Int))) (Mq (3:Int))) fun iz=>(thenO (S:=(Int×Jx)) (Mb (Mb (Mq (36:Int)) fun c8=>Mo.grd (-(2 ^ 62)<=c8/\c8<2 ^ 62) (Mq (rngI 0 c8.toNat))) fun kj=>forO (fun (t7:(Int×Jx)) x9=>(Mb (oMd (oAd (oAd (oMu (Mq t7.1) (Mq t7.1)) (oMu (Mq (17:Int)) (Mq x9))) (Mq (5:Int))) (Mq (2147483629:Int))) fun iO=>(Mb (oAp (Mq t7.2) (Mb (Mq cC) fun oN=>Mb (oMd (oDv (Mq iO) (Mq (3:Int))) (Mb (Mq cC) fun oG=>Mo.lim oG.length (Mq (oG.length:Int)))) fun rq=>Mo.lim oN.length (Mo.opt ((atI oN rq).map fun c=>[c])))) fun ky=>(Mq (.nx (iO,ky)))))) kj (iz,gW)) fun t7=>(oRt (oAp (Mq t7.2) (Mq dy))))))
def zbP_ (bA:Int)(cC:Jx)(dy:Jx):Mo Jx:=fnO (zdQ_ bA cC dy)
def zd1_ (cD:(List Int))(bf:Int):Mo (Out Jy Unit Unit):=
 (Mb (oAt (Mb (oP2 (Mq ([65,32]:Jx)) (oP2 (Mq ([48,90,57]:Jx)) (oP2 (Mq ([66,53,65,32,48]:Jx)) (Mb (Mq ()) fun fL=>Mo.noex (zdg_))))) fun c9=>Mq [c9.1,c9.2.1,c9.2.2.1,c9.2.2.2]) (oMd (Mq bf) (Mq (4:Int)))) fun dE=>(Mb (Mq ([]:Jy)) fun jv=>(thenO (S:=Jy) (Mb (Mb (Mq cD) fun gf=>Mq (enumL gf)) fun oX=>forO (fun (cR:Jy) du=>(Mb (Mb (Mb (oMd (oMu (Mq du.1) (Mq (271:Int))) (Mq (10000:Int))) fun gN=>Mo.grd (gN.natAbs.log2<1920) (Mq (strI gN))) fun oO=>Mb (Mq (4:Int)) fun oJ=>Mo.grd (PadOk oJ=true) (Mq (zfL oO oJ))) fun kz=>(thenO (S:=Jx) (Mb (Mb (oMd (oDv (Mq bf) (Mq (4:Int))) (Mq (4:Int))) fun ip=>Mb (Mq (1:Int)) fun ik=>Mq (decide (ip=ik))) fun qY=>if qY then (Mb (Mq ([77,65,82,75]:Jx)) fun kT=>(Mq (.nx kT))) else (Mq (.nx kz))) fun gY=>(Mb (Mb (oP2 (Mq du.2) (oP2 (Mq dE) (Mq gY))) fun ig=>Mo.noex (zbP_ ig.1 ig.2.1 ig.2.2)) fun jF=>Mo.lim (cR.length+1) (Mq (.nx (cR++[jF]))))))) oX jv) fun cR=>(Mq (.rt cR)))))
def zcD_ (cD:(List Int))(bf:Int):Mo Jy:=fnO (zd1_ cD bf)
def zbV_ (aB:(List Int))(jT:Int):Mo (Out Int Unit Unit):=
 (thenO (S:=Unit) (Mb (Mb (Mq jT) fun bQ=>Mb (Mb (Mq aB) fun c_=>Mq (c_.length:Int)) fun j7=>Mq (decide (bQ<j7))) fun dZ=>if dZ then (oRt (oAt (Mq aB) (Mq jT))) else (Mq (.nx ()))) fun _=>(oRt (Mq (0:Int))))
def zaj_ (aB:(List Int))(jT:Int):Mo Int:=fnO (zbV_ aB jT)
def zcr_ (bA:Int):Mo (Out ((Int×Int)×(Int×Int)) Unit Unit):=
 (Mb (oMd (oMu (oAd (oMd (Mq bA) (Mq (2147483647:Int))) (Mq (5:Int))) (Mq (48271:Int))) (Mq (2147483647:Int))) fun df=>(Mb (oAd (Mq (1:Int)) (oMd (Mq df) (Mq (3:Int)))) fun ku=>(thenO (S:=Int) (Mb (Mb (oMd (oDv (Mq df) (Mq (3:Int))) (Mq (9:Int))) fun dW=>Mb (Mq (0:Int)) fun fN=>Mq (decide (dW=fN))) fun eI=>if eI then (Mb (Mq (12:Int)) fun kr=>(Mq (.nx kr))) else (Mq (.nx ku))) fun dO=>(Mb (oAd (Mq (1:Int)) (oMd (oDv (Mq df) (Mq (27:Int))) (oSu (Mq (37:Int)) (Mq dO)))) fun fm=>(Mb (oAd (Mq (1:Int)) (oMd (oDv (Mq df) (Mq (1000:Int))) (oSu (Mq (37:Int)) (Mq dO)))) fun kN=>(thenO (S:=Int) (Mb (Mb (oMd (oDv (Mq df) (Mq (37000:Int))) (Mq (5:Int))) fun rQ=>Mb (Mq (0:Int)) fun rg=>Mq (decide (rQ=rg))) fun qV=>if qV then (Mb (Mq fm) fun kM=>(Mq (.nx kM))) else (Mq (.nx kN))) fun gX=>(oRt (oP2 (oP2 (Mq fm) (oSu (oAd (Mq fm) (Mq dO)) (Mq (1:Int)))) (oP2 (Mq gX) (oSu (oAd (Mq gX) (Mq dO)) (Mq (1:Int))))))))))))
def zbB_ (bA:Int):Mo ((Int×Int)×(Int×Int)):=fnO (zcr_ bA)
def zdN_ (aC:Jx)(ah:(Int×Int)):Mo (Out Jx Unit Unit):=
 (oRt (Mb (Mq aC) fun v7=>Mb (oSm (oSu (Mb (Mq ah) fun bO=>Mq bO.1) (Mq (1:Int)))) fun w8=>Mb (oSm (Mb (Mq ah) fun v5=>Mq v5.2)) fun d9=>Mo.lim v7.length (Mq (cutG v7 w8 d9))))
def zU_ (aC:Jx)(ah:(Int×Int)):Mo Jx:=fnO (zdN_ aC ah)
def zeZ_ (aq:Jy)(ah:(Int×Int)):Mo (Out (Option Int) Unit Unit):=
 (thenO (S:=Unit) (Mb (Mb (oP2 (Mq (1:Int)) (Mb (Mq aq) fun fL=>Mq (fL.length:Int))) fun z5=>Mo.grd (-(2 ^ 62)<=z5.1/\z5.1<2 ^ 62 /\ -(2 ^ 62)<=z5.2/\z5.2<2 ^ 62) (Mq (rngI z5.1 (z5.2-z5.1).toNat))) fun o_=>forO (fun (_:Unit) bT=>(Mb (Mb (Mb (oP2 (oAt (Mq aq) (Mq bT)) (Mq ah)) fun gO=>Mo.noex (zU_ gO.1 gO.2)) fun dW=>Mb (Mb (oP2 (oAt (Mq aq) (oSu (Mq bT) (Mq (1:Int)))) (Mq ah)) fun e_=>Mo.noex (zU_ e_.1 e_.2)) fun fN=>Mq (decide (dW<fN))) fun eI=>if eI then (oRt (Mb (Mq bT) fun j8=>Mq (some j8))) else (Mq (.nx ())))) o_ ()) fun _=>(oRt (Mq (none:(Option Int)))))
def zdI_ (aq:Jy)(ah:(Int×Int)):Mo (Option Int):=fnO (zeZ_ aq ah)
def zQ_ (af:Unit):Mo (Out (Unit×Qq9) Unit Qq9):=
 (Mb (Mb (Mq ([]:(List Jy))) fun l5=>Mo.lim l5.length (Mq l5)) fun bO=>Mb (Mq (bO,())) fun cI=>(Mb (Mq ([]:List Int)) fun v3=>Mb (Mq (cI.1,(v3,()))) fun kg=>(Mq (.nx kg))))
def zD_ (af:Unit):Mo (Unit×Qq9):=fnMU (zQ_ af)
def zag_ (af:Qq9)(dz:Int):Mo (Out (Unit×Qq9) Unit Qq9):=
 (Mb (Mb (Mb (Mq dz) fun dZ=>Mo.grd (-(2 ^ 62)<=dZ/\dZ<2 ^ 62) (Mq (rngI 0 dZ.toNat))) fun kB=>compM (fun ny=>cond1 (Mq true) (Mq ([]:Jy))) kB []) fun bO=>Mb (Mq (af,fun (z:Qq9)=>z)) fun nr=>Mb (Mq (nr.2 (bO,nr.1.2))) fun cI=>(Mq (.nx cI)))
def zT_ (af:Qq9)(dz:Int):Mo (Unit×Qq9):=fnMU (zag_ af dz)
def zy_ (af:Unit)(ah:(Int×Int)):Mo (Out (Unit×((List Jy)×((List Int)×((Int×Int)×((Option Jx)×Unit))))) Unit ((List Jy)×((List Int)×((Int×Int)×((Option Jx)×Unit))))):=
 (Mb (Mb (Mq ()) fun c_=>Mb (Mo.noex (zD_ af)) fun nA=>Mq (nA.1,nA.2)) fun kJ=>(Mb (Mq (kJ.2,fun (z:Qq9)=>z)) fun fj=>Mb (Mq (2:Int)) fun z5=>Mb (Mo.noex (zT_ fj.1 z5)) fun r6=>Mb (Mq (fj.2 r6.2)) fun fQ=>(Mb (Mq ah) fun v8=>Mb (Mq (fQ.1,(fQ.2.1,(v8,())))) fun x9=>(Mb (Mq (none:(Option Jx))) fun fi=>Mb (Mq (x9.1,(x9.2.1,(x9.2.2.1,(fi,()))))) fun d0=>(Mq (.nx d0))))))
def zu_ (af:Unit)(ah:(Int×Int)):Mo (Unit×((List Jy)×((List Int)×((Int×Int)×((Option Jx)×Unit))))):=fnMU (zy_ af ah)
def zeW_ (cy:Jx):Mo (Out Bool Unit Unit):=
 (oRt (Mb (Mb (Mb (Mq cy) fun c_=>Mo.lim c_.length (Mq (c_.length:Int))) fun bQ=>Mb (Mq (1:Int)) fun j7=>Mq (decide (bQ=j7))) fun y6=>if y6 then (Mb (Mq cy) fun w4=>Mb (Mq (SG:Jx)) fun w5=>Mq (inS w4 w5)) else Mq false))
def zdM_ (cy:Jx):Mo Bool:=fnO (zeW_ cy)
def zfm_ (cA:Jx):Mo (Out Int Unit Unit):=
 (thenO (S:=Unit) (Mb (Mb (Mb (Mq cA) fun c_=>Mo.noex (zdM_ c_)) fun bQ=>Mq (!bQ)) fun e8=>if e8 then Mo.no else (Mq (.nx ()))) fun _=>(oRt (Mb (Mq (SG:Jx)) fun v5=>Mb (Mq cA) fun w6=>Mo.grd (findS v5 w6 ≠ -1) (Mq (findS v5 w6)))))
def zdH_ (cA:Jx):Mo Int:=fnO (zfm_ cA)
def zdK_ (ak:Jx)(b_:Int):Mo (Out Jx Unit Unit):=
 (oRt (Mb (Mq ak) fun v3=>Mb (oSu (Mq b_) (Mq (1:Int))) fun fe=>Mo.lim v3.length (Mo.opt ((atI v3 fe).map fun c=>[c]))))
def zb8_ (ak:Jx)(b_:Int):Mo Jx:=fnO (zdK_ ak b_)
def zdT_ (ak:Jx)(ax:(List Int)):Mo (Out (List Int) Unit Unit):=
 (Mb (Mb (Mq ax) fun kB=>compM (fun ki=>cond1 (Mq true) (Mb (Mb (oP2 (Mq ak) (Mq ki)) fun dZ=>Mo.noex (zb8_ dZ.1 dZ.2)) fun z5=>Mo.noex (zdH_ z5))) kB []) fun z7=>Mq (.rt z7))
def zbW_ (ak:Jx)(ax:(List Int)):Mo (List Int):=fnO (zdT_ ak ax)
def zb6_ (ak:Jx)(aT:Jx)(ax:(List Int)):Mo (Out Bool Unit Unit):=
 (oRt (Mb (Mb (oP2 (Mq ak) (Mq ax)) fun e8=>Mo.noex (zbW_ e8.1 e8.2)) fun v7=>Mb (Mb (oP2 (Mq aT) (Mq ax)) fun y6=>Mo.noex (zbW_ y6.1 y6.2)) fun w8=>Mq (HT.lexLt v7 w8)))
def zal_ (ak:Jx)(aT:Jx)(ax:(List Int)):Mo Bool:=fnO (zb6_ ak aT ax)
def zg1_ (aD:Jy)(ax:(List Int)):Mo (Out (Option Int) Unit Unit):=
 (thenO (S:=Unit) (Mb (Mb (oP2 (Mq (1:Int)) (Mb (Mq aD) fun fL=>Mq (fL.length:Int))) fun z5=>Mo.grd (-(2 ^ 62)<=z5.1/\z5.1<2 ^ 62 /\ -(2 ^ 62)<=z5.2/\z5.2<2 ^ 62) (Mq (rngI z5.1 (z5.2-z5.1).toNat))) fun pd=>forO (fun (_:Unit) bT=>(Mb (Mb (oP2 (oAt (Mq aD) (Mq bT)) (oP2 (oAt (Mq aD) (oSu (Mq bT) (Mq (1:Int)))) (Mq ax))) fun eL=>Mo.noex (zal_ eL.1 eL.2.1 eL.2.2)) fun e_=>if e_ then (oRt (Mb (Mq bT) fun dW=>Mq (some dW))) else (Mq (.nx ())))) pd ()) fun _=>(oRt (Mq (none:(Option Int)))))
def zfy_ (aD:Jy)(ax:(List Int)):Mo (Option Int):=fnO (zg1_ aD ax)
def zM_ (aD:Int)(aN:Int):Mo Jx:=
 (Mb (Mq ([100,101,99,107,32]:Jx)) fun a9=>Mo.grd (a9.length<=1000) (Mb (Mb (Mb (Mq aD) fun v6=>Mo.grd (v6.natAbs.log2<1920) (Mq (strI v6))) fun v7=>Mo.grd (v7.length<=1000) (Mb (Mb (Mq ([32,105,115,32,111,117,116,32,111,102,32,111,114,100,101,114,32,97,116,32,112,108,97,99,101,32]:Jx)) fun w4=>Mo.grd (w4.length<=1000) (Mb (Mb (Mb (Mq aN) fun bO=>Mo.grd (bO.natAbs.log2<1920) (Mq (strI bO))) fun bQ=>Mo.grd (bQ.length<=1000) (Mb (Mq ([]:Jx)) fun l3=>Mq (bQ++l3))) fun l5=>Mq (w4++l5))) fun l8=>Mq (v7++l8))) fun p4=>Mq (a9++p4)))
def zcz_ (ah:(Int×Int)):Mo (Out (List Int) Unit Unit):=
 (Mb (Mb (Mb (oP2 (Mb (Mq ah) fun bO=>Mq bO.1) (oAd (Mb (Mq ah) fun bQ=>Mq bQ.2) (Mq (1:Int)))) fun c7=>Mq c7) fun c7=>Mo.grd (-50000<=c7.1/\c7.1<=50000 /\ -50000<=c7.2/\c7.2<=50000) (Mq (rngI c7.1 (c7.2-c7.1).toNat))) fun z8=>Mq (.rt z8))
def za1_ (ah:(Int×Int)):Mo (List Int):=fnO (zcz_ ah)
def zbU_ (aD:Jy)(ah:(Int×Int))(aL:Int):Mo (Out Unit Unit Unit):=
 (Mb (Mb (oP2 (Mq aD) (Mb (Mq ah) fun e8=>Mo.noex (za1_ e8))) fun y6=>Mo.noex (zfy_ y6.1 y6.2)) fun jO=>(Mb (Mb (Mq jO) fun v7=>Mb (Mq ()) fun w8=>Mq v7.isSome) fun c9=>if c9 then (Mb (oP2 (Mq aL) (Mb (Mq jO) fun fi=>Mo.opt fi)) fun gi=>Mb (Mo.noex (zM_ gi.1 gi.2)) fun _=>Mo.ex (Xc.at "NoOrder" [("deck",Av.i gi.1),("place",Av.i gi.2)])) else (Mq (.nx ()))))
def zba_ (aD:Jy)(ah:(Int×Int))(aL:Int):Mo Unit:=fnU (zbU_ aD ah aL)
def zfn_ (ak:Jx)(ah:(Int×Int)):Mo (Out Jx Unit Unit):=
 (oRt (Mb (Mq ak) fun v7=>Mb (oSm (oSu (Mb (Mq ah) fun bO=>Mq bO.1) (Mq (1:Int)))) fun w8=>Mb (oSm (Mb (Mq ah) fun v5=>Mq v5.2)) fun d9=>Mo.lim v7.length (Mq (cutG v7 w8 d9))))
def zcW_ (ak:Jx)(ah:(Int×Int)):Mo Jx:=fnO (zfn_ ak ah)
def zd6_ (aD:Jy)(ah:(Int×Int)):Mo (Out (List (Jx×Bool)) Unit Unit):=
 (Mb (Mq ([]:(List (Jx×Bool)))) fun iA=>(thenO (S:=(List (Jx×Bool))) (Mb (Mq aD) fun y9=>forO (fun (aA:(List (Jx×Bool))) bu=>(Mb (Mq true) fun v7=>Mb (Mb (oP2 (Mq bu) (Mq ah)) fun y6=>Mo.noex (zcW_ y6.1 y6.2)) fun kc=>Mo.lim (aA.length+1) (Mq (.nx (putA aA kc v7))))) y9 iA) fun aA=>(Mq (.rt aA))))
def zc2_ (aD:Jy)(ah:(Int×Int)):Mo (List (Jx×Bool)):=fnO (zd6_ aD ah)
def zaX_ (af:Unit)(ah:(Int×Int))(aT:Jy)(aJ:(Int×Int))(ay:Jx):Mo (Out (Unit×Qq2) Unit Qq2):=
 (Mb (Mb (oP2 (Mq aT) (oP2 (Mq aJ) (Mq (2:Int)))) fun z5=>zba_ z5.1 z5.2.1 z5.2.2) fun v6=>(Mb (Mb (Mq ah) fun c7=>Mb (Mo.noex (zu_ af c7)) fun w9=>Mq (w9.1,w9.2)) fun y8=>(Mb (Mb (oP2 (Mq aT) (Mq aJ)) fun e_=>Mo.noex (zc2_ e_.1 e_.2)) fun fi=>Mb (Mq (y8.2.1,(y8.2.2.1,(y8.2.2.2.1,(y8.2.2.2.2.1,(fi,())))))) fun d0=>(Mb (Mb (Mq ay) fun nc=>Mb (Mq ([109,97,116,101,115]:Jx)) fun rF=>Mq (decide (nc=rF))) fun fO=>Mb (Mq (d0.1,(d0.2.1,(d0.2.2.1,(d0.2.2.2.1,(d0.2.2.2.2.1,(fO,()))))))) fun kA=>(Mq (.nx kA))))))
def zw_ (af:Unit)(ah:(Int×Int))(aT:Jy)(aJ:(Int×Int))(ay:Jx):Mo (Unit×Qq2):=fnMU (zaX_ af ah aT aJ ay)
def zcS_ (aF:(Jx×(Jx×(Jx×((Int×Int)×((Int×Int)×Jx))))))(aS:(List (Jx×Jy))):Mo (Out Qq2 Unit Unit):=
 (Mb (Mb (Mq aF) fun bQ=>Mq bQ.2.2.1) fun gq=>(thenO (S:=Unit) (Mb (Mb (Mq gq) fun v3=>Mb (Mq aS) fun fe=>Mq (if true then !(getA fe v3).isSome else (getA fe v3).isSome)) fun z5=>if z5 then (Mb (Mb (Mq ([110,111,32,116,114,97,121,32,115,116,97,110,100,115,32,98,121,32,116,104,101,32,110,97,109,101,32]:Jx)) fun fi=>Mo.grd (fi.length<=1000) (Mb (Mb (Mb (Mq gq) fun v7=>Mo.lim v7.length (Mq v7)) fun v8=>Mo.grd (v8.length<=1000) (Mb (Mq ([]:Jx)) fun l9=>Mq (v8++l9))) fun p0=>Mq (fi++p0))) fun _=>Mo.ex (Xc.pl "NoTray")) else (Mq (.nx ()))) fun _=>(Mb (Mb (oP2 (Mb (Mq aF) fun fO=>Mq fO.2.2.2.1) (oP2 (Mb (Mq aS) fun fg=>Mb (Mq gq) fun rG=>Mo.opt (getA fg rG)) (oP2 (Mb (Mq aF) fun gP=>Mq gP.2.2.2.2.1) (Mb (Mq aF) fun j_=>Mq j_.2.2.2.2.2)))) fun gN=>Mb (zw_ () gN.1 gN.2.1 gN.2.2.1 gN.2.2.2) fun kK=>Mq kK.2) fun kG=>Mq (.rt kG))))
def zaU_ (aF:(Jx×(Jx×(Jx×((Int×Int)×((Int×Int)×Jx))))))(aS:(List (Jx×Jy))):Mo Qq2:=fnO (zcS_ aF aS)
def zbH_ (aF:(Jx×(Jx×(Jx×((Int×Int)×((Int×Int)×Jx))))))(aS:(List (Jx×Jy))):Mo (Out Qq2 Unit Unit):=
 (Mb (Mb (Mq aF) fun bQ=>Mq bQ.1) fun cQ=>(thenO (S:=Unit) (Mb (Mb (Mq cQ) fun v3=>Mb (Mq ([100,101,97,108]:Jx)) fun fe=>Mq (decide (v3=fe))) fun z5=>if z5 then Mo.no else (Mq (.nx ()))) fun _=>(thenO (S:=Unit) (Mb (Mb (Mq cQ) fun v7=>Mb (Mq ([112,105,99,107]:Jx)) fun w8=>Mq (decide (v7=w8))) fun c9=>if c9 then Mo.no else (Mq (.nx ()))) fun _=>(thenO (S:=Unit) (Mb (Mb (Mq cQ) fun gQ=>Mb (Mq ([109,97,116,101]:Jx)) fun rK=>Mq (decide (gQ=rK))) fun gi=>if gi then (Mb (Mb (oP2 (Mq aF) (Mq aS)) fun eL=>zaU_ eL.1 eL.2) fun pC=>Mq (.rt pC)) else (Mq (.nx ()))) fun _=>(thenO (S:=Unit) (Mb (Mb (Mq cQ) fun dW=>Mb (Mq ([102,105,114,115,116]:Jx)) fun fN=>Mq (decide (dW=fN))) fun eI=>if eI then Mo.no else (Mq (.nx ()))) fun _=>(thenO (S:=Unit) (Mb (Mb (Mq cQ) fun m4=>Mb (Mq ([112,117,110,99,104]:Jx)) fun rA=>Mq (decide (m4=rA))) fun rb=>if rb then Mo.no else (Mq (.nx ()))) fun _=>Mo.no))))))
def zaf_ (aF:(Jx×(Jx×(Jx×((Int×Int)×((Int×Int)×Jx))))))(aS:(List (Jx×Jy))):Mo Qq2:=fnO (zbH_ aF aS)
def zdW_ (ae:((Int×Int)×(Int×Int)))(az:Jy)(ay:Jx)(bf:Int):Mo (Out Qq2 Unit Unit):=
 (thenO (S:=Unit) (Mb (Mb (oMd (Mq bf) (Mq (2:Int))) fun v3=>Mb (Mq (0:Int)) fun fe=>Mq (decide (v3=fe))) fun z5=>if z5 then (Mb (Mb (oP2 (Mb (Mq ae) fun v7=>Mq v7.1) (oP2 (Mq az) (oP2 (Mb (Mq ae) fun v8=>Mq v8.2) (Mq ay)))) fun fb=>Mb (zw_ () fb.1 fb.2.1 fb.2.2.1 fb.2.2.2) fun pH=>Mq pH.2) fun pD=>Mq (.rt pD)) else (Mq (.nx ()))) fun _=>(Mb (Mb (oP2 (oP2 (Mq ([109,97,116,101]:Jx)) (oP2 (Mq ([97]:Jx)) (oP2 (Mq ([98]:Jx)) (oP2 (Mb (Mq ae) fun m6=>Mq m6.1) (oP2 (Mb (Mq ae) fun dW=>Mq dW.2) (Mq ay)))))) (Mb (Mb (Mq ([97]:Jx)) fun oS=>Mb (Mq ([]:Jy)) fun m3=>Mb (Mb (Mq ([98]:Jx)) fun oU=>Mb (Mq az) fun rV=>Mb (Mq ([]:(List (Jx×Jy)))) fun pW=>Mq ((oU,rV)::pW)) fun pV=>Mq ((oS,m3)::pV)) fun nI=>Mo.grd (nI.length<=15) (Mq (mergeA nI)))) fun ig=>zaf_ ig.1 ig.2) fun pA=>Mq (.rt pA)))
def zbQ_ (ae:((Int×Int)×(Int×Int)))(az:Jy)(ay:Jx)(bf:Int):Mo Qq2:=fnO (zdW_ ae az ay bf)
def zcC_ (af:Qq2):Mo (Out Unit Unit Unit):=
 (Mb (Mq ()) fun kF=>Mq (.rt kF))
def zbD_ (af:Qq2):Mo Unit:=fnU (zcC_ af)
def zbE_ (af:Qq2):Mo (Out Jy Unit Unit):=
 (Mb (Mb (oAt (Mb (Mq af) fun bO=>Mq bO.1) (Mq (0:Int))) fun dZ=>Mq dZ) fun px=>Mq (.rt px))
def z5_ (af:Qq2):Mo Jy:=fnO (zbE_ af)
def zb2_ (bC:Jy)(dF:Jy):Mo (Out Bool Unit Unit):=
 (thenO (S:=Unit) (Mb (Mb (Mb (Mb (Mq bC) fun bO=>Mq true) fun bQ=>Mq (!bQ)) fun c7=>if c7 then Mq true else (Mb (Mb (Mq bC) fun e8=>Mq (e8.length:Int)) fun v5=>Mb (Mb (Mq dF) fun dZ=>Mq (dZ.length:Int)) fun w6=>Mq (!decide (v5=w6)))) fun c8=>if c8 then (oRt (Mq false)) else (Mq (.nx ()))) fun _=>(thenO (S:=Unit) (Mb (Mb (oP2 (Mq bC) (Mq dF)) fun gh=>Mq (gh.1.zip gh.2)) fun kl=>forO (fun (_:Unit) gV=>(Mb (Mb (Mb (Mb (Mq gV.1) fun j_=>Mq true) fun j9=>Mq (!j9)) fun j6=>if j6 then Mq true else (Mb (Mq gV.1) fun m6=>Mb (Mq gV.2) fun rD=>Mq (!decide (m6=rD)))) fun eI=>if eI then (oRt (Mq false)) else (Mq (.nx ())))) kl ()) fun _=>(oRt (Mq true))))
def zL_ (bC:Jy)(dF:Jy):Mo Bool:=fnO (zb2_ bC dF)
def zhq_ (bq:(List Jy)):Mo (Out Jy Unit Unit):=
 (Mb (Mq ([]:Jy)) fun ix=>(thenO (S:=Jy) (Mb (Mq bq) fun pq=>forO (fun (aA:Jy) bu=>(Mb (Mq bu) fun w4=>Mo.lim (aA.length+w4.length) (Mq (.nx (aA++w4))))) pq ix) fun aA=>(Mq (.rt aA))))
def ze0_ (bq:(List Jy)):Mo Jy:=fnO (zhq_ bq)
def zaF_ (af:Qq2):Mo (Out Jy Unit Unit):=
 (Mb (Mb (Mb (Mb (Mq af) fun bO=>Mq bO.1) fun v3=>Mb (oSm (Mq (1:Int))) fun fe=>Mb (Mq none) fun qK=>Mq (cutG v3 fe qK)) fun y6=>Mo.noex (ze0_ y6)) fun z7=>Mq (.rt z7))
def z2_ (af:Qq2):Mo Jy:=fnO (zaF_ af)
def zbM_ (af:Qq2):Mo (Out Jy Unit Unit):=
 (Mb (Mq ([]:Jy)) fun kF=>Mq (.rt kF))
def zaN_ (af:Qq2):Mo Jy:=fnO (zbM_ af)
def zdb_ (aw:Qq2)(cB:Jy)(az:Jy)(ae:((Int×Int)×(Int×Int)))(ay:Jx):Mo (Out Bool Unit Unit):=
 (Mb (Mq ([]:(List (Jx×Bool)))) fun iw=>(thenO (S:=(List (Jx×Bool))) (Mb (Mq az) fun pb=>forO (fun (aA:(List (Jx×Bool))) bu=>(Mb (Mq true) fun v8=>Mb (Mb (oP2 (Mq bu) (Mb (Mq ae) fun w4=>Mq w4.2)) fun c7=>Mo.noex (zU_ c7.1 c7.2)) fun z9=>Mo.lim (aA.length+1) (Mq (.nx (putA aA z9 v8))))) pb iw) fun aA=>(Mb (Mb (Mq cB) fun kl=>compM (fun fR=>cond1 (Mb (Mb (Mb (oP2 (Mq fR) (Mb (Mq ae) fun fg=>Mq fg.1)) fun gf=>Mo.noex (zU_ gf.1 gf.2)) fun j9=>Mb (Mq aA) fun oK=>Mq (if false then !(getA oK j9).isSome else (getA oK j9).isSome)) fun rW=>Mb (Mb (Mq ay) fun dW=>Mb (Mq ([109,97,116,101,115]:Jx)) fun fN=>Mq (decide (dW=fN))) fun rB=>Mq (decide (rW=rB))) (Mq fR)) kl []) fun eT=>(Mb (Mb (Mq cB) fun oY=>compM (fun jM=>cond1 (Mb (Mb (Mb (oP2 (Mq jM) (Mb (Mq ae) fun jG=>Mq jG.1)) fun ij=>Mo.noex (zU_ ij.1 ij.2)) fun ip=>Mb (Mq aA) fun ik=>Mq (if false then !(getA ik ip).isSome else (getA ik ip).isSome)) fun m3=>Mb (Mb (Mq ay) fun oM=>Mb (Mq ([109,97,116,101,115]:Jx)) fun oI=>Mq (decide (oM=oI))) fun rp=>Mq (!decide (m3=rp))) (Mq jM)) oY []) fun fS=>(thenO (S:=Unit) (Mb (Mb (Mb (Mb (Mq aw) fun pQ=>Mo.noex (zbD_ pQ)) fun sr=>Mb (Mq ()) fun sm=>Mq false) fun mF=>if mF then Mq true else (Mb (Mb (oP2 (Mb (Mq aw) fun pP=>Mo.noex (z5_ pP)) (Mq eT)) fun oB=>Mo.noex (zL_ oB.1 oB.2)) fun rR=>Mq (!rR))) fun qW=>if qW then (oRt (Mq false)) else (Mq (.nx ()))) fun _=>(Mb (Mb (Mq aw) fun pO=>Mo.noex (z5_ pO)) fun oW=>Mb (Mq ([]:Jx)) fun sq=>Mo.lim (oW.length+1) (thenO (S:=Unit) (Mb (Mb (Mb (oP2 (Mb (Mq aw) fun pN=>Mo.noex (z2_ pN)) (Mq fS)) fun ou=>Mo.noex (zL_ ou.1 ou.2)) fun mZ=>Mq (!mZ)) fun qT=>if qT then (oRt (Mq false)) else (Mq (.nx ()))) fun _=>(oRt (Mb (Mb (oP2 (Mb (Mq aw) fun pM=>Mo.noex (z5_ pM)) (Mq eT)) fun oq=>Mo.noex (zL_ oq.1 oq.2)) fun qR=>if qR then (Mb (Mb (Mq aw) fun pL=>Mo.noex (zaN_ pL)) fun rP=>Mb (Mq ([]:Jy)) fun rf=>Mq (((eqL (fun a b=>decide (a=b))) rP rf))) else Mq false)))))))))
def zb9_ (aw:Qq2)(cB:Jy)(az:Jy)(ae:((Int×Int)×(Int×Int)))(ay:Jx):Mo Bool:=fnO (zdb_ aw cB az ae ay)
def zb3_ (aq:Jy)(ah:(Int×Int)):Mo (Out Jy Unit Unit):=
 (Mb (Mq ([]:Jy)) fun iu=>(thenO (S:=Jy) (Mb (Mq aq) fun oZ=>forO (fun (aA:Jy) bu=>(Mb (Mb (Mq aA) fun z5=>Mq (z5.length:Int)) fun y4=>(thenO (S:=Int) (whileO (fun (de:Int)=>(Mb (oGI (Mq de) (Mq (0:Int))) fun eI=>if eI then (Mb (Mb (oP2 (Mq bu) (Mq ah)) fun gO=>Mo.noex (zU_ gO.1 gO.2)) fun dW=>Mb (Mb (oP2 (oAt (Mq aA) (oSu (Mq de) (Mq (1:Int)))) (Mq ah)) fun e_=>Mo.noex (zU_ e_.1 e_.2)) fun fN=>Mq (decide (dW<fN))) else Mq false)) (fun (de:Int)=>(Mb (oSu (Mq de) (Mq (1:Int))) fun kx=>(Mq (.nx kx)))) fuelW y4) fun de=>(Mb (Mq de) fun iS=>Mb (Mq bu) fun jG=>Mo.grd (0<=iS/\iS<=aA.length) (Mo.lim (aA.length+1) (Mq (.nx (insL aA iS jG)))))))) oZ iu) fun aA=>(Mq (.rt aA))))
def zX_ (aq:Jy)(ah:(Int×Int)):Mo Jy:=fnO (zb3_ aq ah)
def zby_ (cK:Xc):Mo (Out Bool Unit Unit):=
 (thenO (S:=Unit) (Mb (Mb (Mb (Mq cK) fun bO=>Mo.opt (isaQ [("NoTray",false),("NoOrder",false)] bO.c)) fun c7=>if c7 then Mq true else (Mb (Mb (Mq cK) fun bQ=>Mo.opt (isaQ [("NoTray",false),("NoOrder",false)] bQ.c)) fun y6=>if y6 then Mq true else (Mb (Mb (Mq cK) fun v3=>Mo.opt (isaQ [("NoTray",false),("NoOrder",false)] v3.c)) fun z5=>if z5 then Mq true else (Mb (Mq cK) fun w4=>Mo.opt (isaQ [("NoTray",false),("NoOrder",false)] w4.c))))) fun c8=>if c8 then (oRt (Mq true)) else (Mq (.nx ()))) fun _=>(oRt (Mb (Mb (Mq cK) fun gQ=>Mo.opt (isaQ [("NoTray",false),("NoOrder",false)] gQ.c)) fun eL=>if eL then Mq true else (Mb (Mb (Mq cK) fun fO=>Mo.opt (isaQ [("NoTray",false),("NoOrder",false)] fO.c)) fun gf=>if gf then Mq true else (Mb (Mb (Mq cK) fun fg=>Mo.opt (isaQ [("NoTray",false),("NoOrder",false)] fg.c)) fun fb=>if fb then Mq true else (Mb (Mq cK) fun nc=>Mo.opt (isaQ [("NoTray",true),("NoOrder",false)] nc.c)))))))
def zaR_ (cK:Xc):Mo Bool:=fnO (zby_ cK)
def zcu_ (cK:Xc)(aq:Int)(aN:Int):Mo (Out Bool Unit Unit):=
 (thenO (S:=Unit) (Mb (Mb (Mb (Mb (Mq cK) fun bO=>Mo.opt (isaQ [("NoTray",false),("NoOrder",true)] bO.c)) fun bQ=>Mq (!bQ)) fun c7=>if c7 then Mq true else (Mb (Mb (Mb (Mq cK) fun v3=>Mo.opt (isaQ [("NoTray",true),("NoOrder",true)] v3.c)) fun w4=>Mq (!w4)) fun y6=>if y6 then Mq true else (Mb (Mq cK) fun z5=>Mo.noex (zaR_ z5)))) fun c8=>if c8 then (oRt (Mq false)) else (Mq (.nx ()))) fun _=>(thenO (S:=Unit) (Mb (Mb (oP2 (oP2 (Mb (Mq cK) fun fO=>Mo.opt (attI "NoOrder" "deck" fO)) (Mq aq)) (oP2 (Mb (Mq cK) fun gP=>Mo.opt (attI "NoOrder" "place" gP)) (Mq aN))) fun j6=>Mq [j6.1,j6.2]) fun kj=>forO (fun (_:Unit) gm=>(Mb (Mb (Mb (Mb (Mq gm.1) fun j8=>Mq true) fun m4=>Mq (!m4)) fun qZ=>if qZ then Mq true else (Mb (Mb (Mq gm.1) fun oO=>Mq false) fun q_=>if q_ then Mq true else (Mb (Mq gm.1) fun jH=>Mb (Mq gm.2) fun mR=>Mq (!decide (jH=mR))))) fun ij=>if ij then (oRt (Mq false)) else (Mq (.nx ())))) kj ()) fun _=>(oRt (Mq true))))
def zac_ (cK:Xc)(aq:Int)(aN:Int):Mo Bool:=fnO (zcu_ cK aq aN)
def za5_ (ae:((Int×Int)×(Int×Int)))(az:Jy)(ay:Jx)(bf:Int)(aN:Int):Mo (Out Bool Unit Unit):=
 (thenO (S:=Unit) (Mb (oP2 (Mq ae) (oP2 (Mb (Mq az) fun e8=>Mq e8) (oP2 (Mq ay) (Mq bf)))) fun c_=>Mo.tr (zbQ_ c_.1 c_.2.1 c_.2.2.1 c_.2.2.2) (fun _=>(Mq (.nx ()))) fun cI=>(Mo.cat [("NoTray",true),("NoOrder",true)] cI.c (oRt (Mb (oP2 (Mq cI) (oP2 (Mq (2:Int)) (Mq aN))) fun fb=>Mo.noex (zac_ fb.1 fb.2.1 fb.2.2))) Mo.no)) fun _=>(oRt (Mq false)))
def zau_ (ae:((Int×Int)×(Int×Int)))(az:Jy)(ay:Jx)(bf:Int)(aN:Int):Mo Bool:=fnO (za5_ ae az ay bf aN)
def zef_ (bq:(List Jy))(bJ:(List Int)):Mo (Out Jy Unit Unit):=
 (Mb (Mb (Mq bq) fun ph=>compM (fun cI=>cond1 (Mq true) (Mq (0:Int))) ph []) fun dM=>(Mb (Mq ([]:Jy)) fun iy=>(thenO (S:=(Jy×(List Int))) (Mb (Mq bJ) fun pj=>forO (fun (bY:(Jy×(List Int))) bT=>(Mb (oAt (oAt (Mq bq) (Mq bT)) (oAt (Mq bY.2) (Mq bT))) fun fg=>Mo.lim (bY.1.length+1) (Mb (oAd (oAt (Mq bY.2) (Mq bT)) (Mq (1:Int))) fun j8=>Mb (Mq bT) fun p6=>Mb (Mo.opt ((ixN (bY.2).length p6).map fun n=>(bY.2).set n j8)) fun kC=>(Mq (.nx ((bY.1++[fg]),kC)))))) pj (iy,dM)) fun bY=>(Mq (.rt bY.1)))))
def zcK_ (bq:(List Jy))(bJ:(List Int)):Mo Jy:=fnO (zef_ bq bJ)
def zcs_ (af:Qq2):Mo (Out Jy Unit Unit):=
 (Mb (Mb (oP2 (Mb (Mq af) fun bO=>Mq bO.1) (Mb (Mq af) fun bQ=>Mq bQ.2.1)) fun z5=>Mo.noex (zcK_ z5.1 z5.2)) fun t6=>Mq (.rt t6))
def zad_ (af:Qq2):Mo Jy:=fnO (zcs_ af)
def zbY_ (ae:((Int×Int)×(Int×Int)))(ay:Jx):Mo (Out Bool Unit Unit):=
 (thenO (S:=Unit) (Mb (oP2 (oP2 (Mq ([109,97,116,101]:Jx)) (oP2 (Mq ([97]:Jx)) (oP2 (Mq ([98]:Jx)) (oP2 (Mb (Mq ae) fun v3=>Mq v3.1) (oP2 (Mb (Mq ae) fun w4=>Mq w4.2) (Mq ay)))))) (Mb (Mb (Mq ([97]:Jx)) fun oV=>Mb (Mq ([]:Jy)) fun j_=>Mb (Mq ([]:(List (Jx×Jy)))) fun pX=>Mq ((oV,j_)::pX)) fun nJ=>Mo.grd (nJ.length<=15) (Mq (mergeA nJ)))) fun c_=>Mo.tr (zaf_ c_.1 c_.2) (fun _=>(Mq (.nx ()))) fun cI=>(Mo.cat [("NoTray",true),("NoOrder",false)] cI.c (oRt (Mq true)) Mo.no)) fun _=>(oRt (Mq false)))
def za9_ (ae:((Int×Int)×(Int×Int)))(ay:Jx):Mo Bool:=fnO (zbY_ ae ay)
def zaB_ (af:Qq2)(ak:Jx):Mo (Out Unit Unit Unit):=
 (Mb (Mb (Mb (Mb (Mq af) fun bO=>Mq bO.2.2.2.1) fun bQ=>Mb (Mq ()) fun j7=>Mq bQ.isSome) fun gi=>if gi then (Mb (oP2 (Mq ak) (oP2 (Mb (Mb (Mq af) fun w4=>Mq w4.2.2.2.1) fun v5=>Mo.opt v5) (Mb (Mb (Mq af) fun v6=>Mq v6.2.2.1) fun c7=>Mo.noex (za1_ c7)))) fun mM=>Mo.noex (zal_ mM.1 mM.2.1 mM.2.2)) else Mq false) fun gh=>if gh then (Mb (oP2 (Mq (1:Int)) (Mb (Mb (Mq af) fun gP=>Mq gP.2.1) fun gf=>Mq (gf.length:Int))) fun e9=>Mb (Mo.noex (zM_ e9.1 e9.2)) fun _=>Mo.ex (Xc.at "NoOrder" [("deck",Av.i e9.1),("place",Av.i e9.2)])) else (Mq (.nx ())))
def z4_ (af:Qq2)(ak:Jx):Mo Unit:=fnU (zaB_ af ak)
def zbF_ (af:Qq2)(ak:Jx)(aL:Int):Mo (Out (Unit×Qq2) Unit Qq2):=
 (Mb (Mb (Mb (Mq (af,fun (z:Qq2)=>z)) fun ke=>Mq (ke.1.1,fun (z':(List Jy))=>ke.2 (z',ke.1.2))) fun jL=>Mb (Mq aL) fun j3=>Mb (Mo.opt (ixN jL.1.length j3)) fun nG=>Mb (Mo.opt (jL.1[nG]?)) fun oR=>Mq (oR,fun (z':Jy)=>jL.2 (jL.1.set nG z'))) fun kd=>Mb (Mq ak) fun v6=>Mo.lim (kd.1.length+1) (Mb (Mq (kd.2 (kd.1++[v6]))) fun x8=>(Mb (Mb (Mq (x8,fun (z:Qq2)=>z)) fun z9=>Mq (z9.1.2.1,fun (z':(List Int))=>z9.2 (z9.1.1,(z',z9.1.2.2)))) fun kf=>Mb (Mq aL) fun fi=>Mo.lim (kf.1.length+1) (Mb (Mq (kf.2 (kf.1++[fi]))) fun fR=>(Mq (.nx fR))))))
def zay_ (af:Qq2)(ak:Jx)(aL:Int):Mo (Unit×Qq2):=fnMU (zbF_ af ak aL)
def za0_ (af:Qq2)(ak:Jx)(cz:Bool):Mo (Out (Unit×Qq2) Unit Qq2):=
 (Mb (Mq (af,fun (z:Qq2)=>z)) fun fj=>Mb (oP2 (Mq ak) (Mb (Mq cz) fun c_=>if c_ then (Mq (0:Int)) else (Mq (1:Int)))) fun z5=>Mb (Mo.noex (zay_ fj.1 z5.1 z5.2)) fun r6=>Mb (Mq (fj.2 r6.2)) fun fQ=>(Mb (Mb (Mq ak) fun gQ=>Mq (some gQ)) fun v8=>Mb (Mq (fQ,fun (z:Qq2)=>z)) fun ir=>Mb (Mq (ir.2 (ir.1.1,(ir.1.2.1,(ir.1.2.2.1,(v8,ir.1.2.2.2.2)))))) fun x9=>(Mq (.nx x9))))
def zY_ (af:Qq2)(ak:Jx)(cz:Bool):Mo (Unit×Qq2):=fnMU (za0_ af ak cz)
def zaD_ (af:Qq2)(ak:Jx):Mo Unit:=
 (Mb (Mq af) fun pK=>Mb (Mq ak) fun fL=>z4_ pK fL)
def zaC_ (af:Qq2)(ak:Jx):Mo (Out (Unit×Qq2) Unit Qq2):=
 (Mb (Mb (Mb (oP2 (Mq ak) (Mb (Mq af) fun w4=>Mq w4.2.2.1)) fun c7=>Mo.noex (zcW_ c7.1 c7.2)) fun a9=>Mb (Mb (Mq af) fun v8=>Mq v8.2.2.2.2.1) fun v10=>Mq (if false then !(getA v10 a9).isSome else (getA v10 a9).isSome)) fun jP=>(Mb (Mq (af,fun (z:Qq2)=>z)) fun nv=>Mb (oP2 (Mq ak) (Mb (Mq jP) fun fO=>Mb (Mb (Mq af) fun gQ=>Mq gQ.2.2.2.2.2.1) fun rJ=>Mq (decide (fO=rJ)))) fun eL=>Mb (Mo.noex (zY_ nv.1 eL.1 eL.2)) fun pG=>Mb (Mq (nv.2 pG.2)) fun km=>(Mq (.nx km))))
def za4_ (af:Qq2)(ak:Jx):Mo (Unit×Qq2):=(zaD_ af ak).noex.bind fun _=>(fnMU (zaC_ af ak)).noex
def zb4_ (aw:Qq2)(aC:Jx)(bZ:Jy):Mo (Out (Bool×Qq2) Unit Unit):=
 (Mb (Mq false) fun fq=>(thenO (S:=(Qq2×Bool)) (Mb (Mq (aw,fun (z:Qq2)=>z)) fun fj=>Mb (Mq aC) fun fL=>Mo.tr (zaD_ fj.1 fL) (fun _=>Mb (Mo.noex (fnMU (zaC_ fj.1 fL))) fun pF=>Mb (Mq (fj.2 pF.2)) fun bT=>(Mq (.nx (bT,fq)))) fun bu=>(Mo.cat [("NoTray",true),("NoOrder",true)] bu.c (Mb (Mb (oP2 (Mq bu) (oP2 (Mq (1:Int)) (Mb (Mq bZ) fun c9=>Mq (c9.length:Int)))) fun gh=>Mo.noex (zac_ gh.1 gh.2.1 gh.2.2)) fun t8=>(Mq (.nx (aw,t8)))) Mo.no)) fun t7=>(thenO (S:=Unit) (Mb (Mb (Mb (Mq t7.2) fun gP=>Mq (!gP)) fun eI=>if eI then Mq true else (Mb (Mb (oP2 (Mb (Mq t7.1) fun pS=>Mo.noex (zad_ pS)) (Mq bZ)) fun e9=>Mo.noex (zL_ e9.1 e9.2)) fun rX=>Mq (!rX))) fun j5=>if j5 then (Mb (Mq false) fun pB=>Mq (.rt (pB,t7.1))) else (Mq (.nx ()))) fun _=>(Mb (Mb (Mq (t7.1,fun (z:Qq2)=>z)) fun nu=>Mb (oAt (Mq bZ) (Mb (Mq (1:Int)) fun jH=>Mq (-jH))) fun ij=>Mb (Mo.noex (za4_ nu.1 ij)) fun nB=>Mq (nB.1,nu.2 nB.2)) fun gZ=>Mb (Mb (Mb (Mq gZ.1) fun oM=>Mb (Mq ()) fun oI=>Mq true) fun mF=>if mF then (Mb (oP2 (Mb (Mq gZ.2) fun pR=>Mo.noex (zad_ pR)) (oAp (Mq bZ) (Mb (Mq bZ) fun rS=>Mb (oSm (Mb (Mq (1:Int)) fun rT=>Mq (-rT))) fun rm=>Mb (Mq none) fun qL=>Mq (cutG rS rm qL)))) fun oy=>Mo.noex (zL_ oy.1 oy.2)) else Mq false) fun pz=>Mq (.rt (pz,gZ.2))))))
def zbc_ (aw:Qq2)(aC:Jx)(bZ:Jy):Mo (Bool×Qq2):=fnMR (zb4_ aw aC bZ)
def zrd_ (aB:(List Int)):Mo (Out Bool Unit Unit):=
 (Mb (Mb (Mq aB) fun w4=>Mb (oSm (Mq (3:Int))) fun w5=>Mb (oSm (Mq (63:Int))) fun z6=>Mq (cutG w4 w5 z6)) fun aY=>(Mb (oMd (Mb (oP2 (Mq aB) (Mq (1:Int))) fun oH=>Mo.noex (zaj_ oH.1 oH.2)) (oAd (Mb (Mq aY) fun gO=>Mq (gO.length:Int)) (Mq (1:Int)))) fun y7=>(Mb (Mb (oP2 (Mq aY) (Mb (oP2 (Mq aB) (Mq (0:Int))) fun e9=>Mo.noex (zaj_ e9.1 e9.2))) fun j5=>Mo.noex (zcD_ j5.1 j5.2)) fun bj=>(Mb (Mb (Mq bj) fun jH=>Mb (Mq none) fun mR=>Mb (oSm (Mq y7)) fun qN=>Mq (cutG jH mR qN)) fun fV=>(Mb (Mb (Mq bj) fun ip=>Mb (oSm (Mq y7)) fun ik=>Mb (Mq none) fun qM=>Mq (cutG ip ik qM)) fun eS=>(Mb (Mb (oP2 (Mq aB) (Mq (2:Int))) fun oF=>Mo.noex (zaj_ oF.1 oF.2)) fun bc=>(Mb (Mb (Mq bc) fun qX=>Mo.noex (zbB_ qX)) fun aW=>(Mb (oAt (Mb (oP2 (Mq ([109,97,116,101,115]:Jx)) (Mq ([119,105,116,104,111,117,116]:Jx))) fun oE=>Mq [oE.1,oE.2]) (oMd (Mq bc) (Mq (2:Int)))) fun bt=>(thenO (S:=Jy) (Mb (oGI (oMd (oDv (Mq bc) (Mq (2:Int))) (Mq (3:Int))) (Mq (0:Int))) fun qU=>if qU then (Mb (Mb (oP2 (Mq fV) (Mb (Mq aW) fun mZ=>Mq mZ.1)) fun ot=>Mo.noex (zX_ ot.1 ot.2)) fun iH=>(Mq (.nx iH))) else (Mq (.nx fV))) fun bp=>(thenO (S:=Jy) (Mb (oGI (oMd (oDv (Mq bc) (Mq (6:Int))) (Mq (3:Int))) (Mq (0:Int))) fun qS=>if qS then (Mb (Mb (oP2 (Mq eS) (Mb (Mq aW) fun rO=>Mq rO.2)) fun oo=>Mo.noex (zX_ oo.1 oo.2)) fun iG=>(Mq (.nx iG))) else (Mq (.nx eS))) fun bz=>(Mb (Mb (oP2 (Mq bz) (Mb (Mq aW) fun rN=>Mq rN.2)) fun om=>Mo.noex (zdI_ om.1 om.2)) fun bM=>(thenO (S:=Unit) (Mb (Mb (Mq bM) fun rM=>Mb (Mq ()) fun sk=>Mq rM.isSome) fun qQ=>if qQ then (oRt (Mb (oP2 (Mq aW) (oP2 (Mq bz) (oP2 (Mq bt) (oP2 (oDv (Mq bc) (Mq (18:Int))) (Mb (Mq bM) fun rL=>Mo.opt rL))))) fun jx=>Mo.noex (zau_ jx.1 jx.2.1 jx.2.2.1 jx.2.2.2.1 jx.2.2.2.2))) else (Mq (.nx ()))) fun _=>(Mb (Mb (Mq bz) fun qP=>Mq qP) fun gH=>(Mb (Mb (oP2 (Mq aW) (oP2 (Mq gH) (oP2 (Mq bt) (oDv (Mq bc) (Mq (18:Int)))))) fun fM=>Mo.noex (zbQ_ fM.1 fM.2.1 fM.2.2.1 fM.2.2.2)) fun fB=>(thenO (S:=Unit) (Mb (Mb (Mb (Mq gH) fun nq=>Mb (Mq bz) fun mX=>Mq (!((eqL (fun a b=>decide (a=b))) nq mX))) fun mP=>if mP then Mq true else (Mb (Mb (Mb (Mq fB) fun rZ=>Mq true) fun nk=>Mq (!nk)) fun mQ=>if mQ then Mq true else (Mb (Mb (oP2 (Mq aW) (Mq bt)) fun jE=>Mo.noex (za9_ jE.1 jE.2)) fun nj=>Mq (!nj)))) fun mO=>if mO then (oRt (Mq false)) else (Mq (.nx ()))) fun _=>(thenO (S:=Qq2) (Mb (Mb (Mq bp) fun mL=>Mq (enumL mL)) fun kn=>forO (fun (bg:Qq2) aR=>(Mb (oAt (Mq bp) (Mb (oP2 (Mq (0:Int)) (oSu (Mq aR.1) (Mq (1:Int)))) fun jD=>Mq (max jD.1 jD.2))) fun cH=>(thenO (S:=Unit) (Mb (Mb (Mb (oP2 (Mq aR.2) (Mb (Mq aW) fun nh=>Mq nh.1)) fun jC=>Mo.noex (zU_ jC.1 jC.2)) fun m_=>Mb (Mb (oP2 (Mq cH) (Mb (Mq aW) fun ng=>Mq ng.1)) fun jB=>Mo.noex (zU_ jB.1 jB.2)) fun mW=>Mq (decide (m_<mW))) fun mK=>if mK then (Mb (Mb (oP2 (Mq aR.2) (Mb (Mq bp) fun m9=>Mb (Mq none) fun mV=>Mb (oSm (Mq aR.1)) fun mE=>Mq (cutG m9 mV mE))) fun jA=>Mb (Mo.noex (zbc_ bg jA.1 jA.2)) fun iF=>Mq (iF.1,iF.2)) fun fw=>Mb (Mq fw.1) fun kI=>Mq (.rt kI)) else (Mq (.nx ()))) fun _=>(Mb (Mb (Mq (bg,fun (z:Qq2)=>z)) fun iq=>Mb (Mq aR.2) fun mJ=>Mb (Mo.noex (za4_ iq.1 mJ)) fun iE=>Mq (iE.1,iq.2 iE.2)) fun cm=>Mb (Mb (Mq cm.1) fun rY=>Mb (Mq ()) fun rE=>Mq false) fun mU=>if mU then (oRt (Mq false)) else (Mb (Mb (Mb (oP2 (Mb (Mq cm.2) fun kP=>Mo.noex (zad_ kP)) (Mb (Mq bp) fun m8=>Mb (Mq none) fun mT=>Mb (oSm (oAd (Mq aR.1) (Mq (1:Int)))) fun mD=>Mq (cutG m8 mT mD))) fun jz=>Mo.noex (zL_ jz.1 jz.2)) fun m7=>Mq (!m7)) fun mH=>if mH then (oRt (Mq false)) else (Mq (.nx cm.2))))))) kn fB) fun bg=>(thenO (S:=Unit) (Mb (Mb (Mb (oP2 (Mb (Mq bg) fun kO=>Mo.noex (zad_ kO)) (Mq bp)) fun jy=>Mo.noex (zL_ jy.1 jy.2)) fun m5=>Mq (!m5)) fun mG=>if mG then (oRt (Mq false)) else (Mq (.nx ()))) fun _=>(oRt (Mb (oP2 (Mq bg) (oP2 (Mq bp) (oP2 (Mq bz) (oP2 (Mq aW) (Mq bt))))) fun eJ=>Mo.noex (zb9_ eJ.1 eJ.2.1 eJ.2.2.1 eJ.2.2.2.1 eJ.2.2.2.2))))))))))))))))))))
def f_law (aB:(List Int)):Mo Bool:=fnO (zrd_ aB)
def top (i:Nat):Stmt:=PySem.Challenge.pw_cardshop_k56_mater.main.body.getD i (.Pass ⟨0,0,0,0⟩)
abbrev zio_:Stmt:=top 60
abbrev ziI_:Stmt:=top 61
abbrev zjI_:Stmt:=top 62
abbrev zf6_:Stmt:=top 59
abbrev zgQ_:Stmt:=top 67
abbrev zje_:Stmt:=top 63
abbrev zlo_:Stmt:=top 68
abbrev za6_:Stmt:=inClass (top 48) 0
abbrev zcw_:Stmt:=inClass (top 48) 1
abbrev zav_:Stmt:=inClass (top 51) 0
abbrev zk6_:Stmt:=top 15
abbrev zkR_:Stmt:=top 16
abbrev zkL_:Stmt:=top 18
abbrev zjt_:Stmt:=top 30
abbrev zgn_:Stmt:=top 31
abbrev zm7_:Stmt:=top 32
abbrev zdk_:Stmt:=inClass (top 5) 0
abbrev zhn_:Stmt:=top 25
abbrev zf8_:Stmt:=top 34
abbrev zkV_:Stmt:=top 26
abbrev zki_:Stmt:=top 35
abbrev zen_:Stmt:=inClass (top 52) 0
abbrev zjS_:Stmt:=top 56
abbrev zgy_:Stmt:=top 57
abbrev zj2_:Stmt:=top 69
abbrev zfq_:Stmt:=inClass (top 48) 3
abbrev zft_:Stmt:=inClass (top 48) 5
abbrev zgu_:Stmt:=top 64
abbrev znX_:Stmt:=top 45
abbrev zc9_:Stmt:=inClass (top 48) 6
abbrev zdC_:Stmt:=inClass (top 48) 7
abbrev zix_:Stmt:=top 74
abbrev zfE_:Stmt:=top 65
abbrev zfB_:Stmt:=top 66
abbrev zhl_:Stmt:=top 70
abbrev zee_:Stmt:=top 71
abbrev zkp_:Stmt:=top 46
abbrev zgz_:Stmt:=inClass (top 48) 4
abbrev zga_:Stmt:=top 73
abbrev zdj_:Stmt:=inClass (top 51) 1
abbrev zeY_:Stmt:=inClass (top 48) 2
abbrev zd9_:Stmt:=inClass (top 51) 2
abbrev zgG_:Stmt:=inClass (top 52) 1
abbrev zf1_:Stmt:=top 72
abbrev zri_:Stmt:=top 75
structure Fx (K:Fgg):Prop where
 exc_NoTray:excK K (gA K "NoTray")=true
 cat_NoTray_ShopError:catK K (gA K "NoTray") (gA K "ShopError")=true
 cat_NoTray_NoTray:catK K (gA K "NoTray") (gA K "NoTray")=true
 isa_NoTray_Meet:isaK K (gA K "NoTray") (.ref (gA K "Meet"))=some false
 isa_NoTray_NoAsking:isaK K (gA K "NoTray") (.ref (gA K "NoAsking"))=some false
 isa_NoTray_NoBoard:isaK K (gA K "NoTray") (.ref (gA K "NoBoard"))=some false
 isa_NoTray_NoCard:isaK K (gA K "NoTray") (.ref (gA K "NoCard"))=some false
 isa_NoTray_NoField:isaK K (gA K "NoTray") (.ref (gA K "NoField"))=some false
 isa_NoTray_NoPlan:isaK K (gA K "NoTray") (.ref (gA K "NoPlan"))=some false
 isa_NoTray_NoRow:isaK K (gA K "NoTray") (.ref (gA K "NoRow"))=some false
 isa_NoTray_NoTray:isaK K (gA K "NoTray") (.ref (gA K "NoTray"))=some true
 isa_NoTray_NoOrder:isaK K (gA K "NoTray") (.ref (gA K "NoOrder"))=some false
 isa_NoTray_ValueError:isaK K (gA K "NoTray") (.type "ValueError")=some true
 exj_NoOrder:excJ K (gA K "NoOrder")=true
 exa_NoOrder_deck:exA K (gA K "NoOrder") "deck"=true
 exa_NoOrder_place:exA K (gA K "NoOrder") "place"=true
 cat_NoOrder_ShopError:catK K (gA K "NoOrder") (gA K "ShopError")=true
 cat_NoOrder_NoTray:catN K (gA K "NoOrder") (gA K "NoTray")=true
 isa_NoOrder_Meet:isaK K (gA K "NoOrder") (.ref (gA K "Meet"))=some false
 isa_NoOrder_NoAsking:isaK K (gA K "NoOrder") (.ref (gA K "NoAsking"))=some false
 isa_NoOrder_NoBoard:isaK K (gA K "NoOrder") (.ref (gA K "NoBoard"))=some false
 isa_NoOrder_NoCard:isaK K (gA K "NoOrder") (.ref (gA K "NoCard"))=some false
 isa_NoOrder_NoField:isaK K (gA K "NoOrder") (.ref (gA K "NoField"))=some false
 isa_NoOrder_NoPlan:isaK K (gA K "NoOrder") (.ref (gA K "NoPlan"))=some false
 isa_NoOrder_NoRow:isaK K (gA K "NoOrder") (.ref (gA K "NoRow"))=some false
 isa_NoOrder_NoTray:isaK K (gA K "NoOrder") (.ref (gA K "NoTray"))=some false
 isa_NoOrder_NoOrder:isaK K (gA K "NoOrder") (.ref (gA K "NoOrder"))=some true
 isa_NoOrder_ValueError:isaK K (gA K "NoOrder") (.type "ValueError")=some true
 bin_ShopError:binK K (gA K "ShopError")=true
 isi_Mater_Machine:isiK K (gA K "Mater") (.ref (gA K "Machine"))=some true
def zed_ (K:Fgg):Sp:=Ct K csNil (fun c=>zdg_) (owF tyStr)
def zeJ_ (K:Fgg):Sp:=Ct K (csCons tyInt (csCons tyStr (csLast tyStr))) (fun c=>zbP_ c.1 c.2.1 c.2.2) (owF tyStr)
def zeF_ (K:Fgg):Sp:=Ct K (csCons (tyL tyInt) (csLast tyInt)) (fun c=>zcD_ c.1 c.2) (owL tyStr)
def zaS_ (K:Fgg):Sp:=Ct K (csCons (tySc K) (csLast tyInt)) (fun c=>zaj_ c.1 c.2) (owF tyInt)
def zdr_ (K:Fgg):Sp:=Ct K (csLast tyInt) (fun c=>zbB_ c) (owF Qq5)
def zV_ (K:Fgg):Sp:=Ct K (csCons tyStr (csLast Qq1)) (fun c=>zU_ c.1 c.2) (owF tyStr)
def zfR_ (K:Fgg):Sp:=Ct K (csCons (tyL tyStr) (csLast Qq1)) (fun c=>zdI_ c.1 c.2) (owF (tyOpt tyInt))
def zZ_ (K:Fgg):Sp:=CtM K (owI (gA K "Mater") [] psNil) (Qq7 K) csNil (fun x c=>zD_ x) (owF tyNon)
def zaO_ (K:Fgg):Sp:=CtM K (Qq7 K) (Qq7 K) (csLast tyInt) (fun x c=>zT_ x c) (owF tyNon)
def zP_ (K:Fgg):Sp:=CtM K (owI (gA K "Mater") [] psNil) (Qq8 K) (csLast Qq1) (fun x c=>zu_ x c) (owF tyNon)
def zfC_ (K:Fgg):Sp:=Ct K (csLast tyStr) (fun c=>zdM_ c) (owF tyBl)
def zfW_ (K:Fgg):Sp:=Ct K (csLast tyStr) (fun c=>zdH_ c) (owF tyInt)
def zf2_ (K:Fgg):Sp:=Ct K (csCons tyStr (csLast tyInt)) (fun c=>zb8_ c.1 c.2) (owF tyStr)
def zc6_ (K:Fgg):Sp:=Ct K (csCons tyStr (csLast (tyL tyInt))) (fun c=>zbW_ c.1 c.2) (owL tyInt)
def zbC_ (K:Fgg):Sp:=Ct K (csCons tyStr (csCons tyStr (csLast (tyL tyInt)))) (fun c=>zal_ c.1 c.2.1 c.2.2) (owF tyBl)
def zhH_ (K:Fgg):Sp:=Ct K (csCons (tyL tyStr) (csLast (tyL tyInt))) (fun c=>zfy_ c.1 c.2) (owF (tyOpt tyInt))
def zas_ (K:Fgg):Sp:=CtI K (gA K "NoOrder") (csCons tyInt (csLast tyInt)) (fun c=>zM_ c.1 c.2) ["deck", "place"]
def zb5_ (K:Fgg):Sp:=Ct K (csLast Qq1) (fun c=>za1_ c) (owL tyInt)
def zcN_ (K:Fgg):Sp:=Ct K (csCons (tyL tyStr) (csCons Qq1 (csLast tyInt))) (fun c=>zba_ c.1 c.2.1 c.2.2) (owF tyNon)
def zdP_ (K:Fgg):Sp:=Ct K (csCons tyStr (csLast Qq1)) (fun c=>zcW_ c.1 c.2) (owF tyStr)
def zeA_ (K:Fgg):Sp:=Ct K (csCons (tyL tyStr) (csLast Qq1)) (fun c=>zc2_ c.1 c.2) (owD kStr tyBl)
def zaL_ (K:Fgg):Sp:=CtM K (owI (gA K "Mater") [] psNil) (Qq0 K) (csCons Qq1 (csCons (tyL tyStr) (csCons Qq1 (csLast tyStr)))) (fun x c=>zw_ x c.1 c.2.1 c.2.2.1 c.2.2.2) (owF tyNon)
def zex_ (K:Fgg):Sp:=Ct K (csCons Qq4 (csLast (tyD kStr (tyL tyStr)))) (fun c=>zaU_ c.1 c.2) (Qq0 K)
def zbR_ (K:Fgg):Sp:=Ct K (csCons Qq4 (csLast (tyD kStr (tyL tyStr)))) (fun c=>zaf_ c.1 c.2) (Qq0 K)
def zde_ (K:Fgg):Sp:=Ct K (csCons Qq5 (csCons (tyL tyStr) (csCons tyStr (csLast tyInt)))) (fun c=>zbQ_ c.1 c.2.1 c.2.2.1 c.2.2.2) (Qq0 K)
def zck_ (K:Fgg):Sp:=Ct K (csLast (Qq3 K)) (fun c=>zbD_ c) (owF tyNon)
def zaH_ (K:Fgg):Sp:=Ct K (csLast (Qq3 K)) (fun c=>z5_ c) (owL tyStr)
def zJ_ (K:Fgg):Sp:=Ct K (csCons (tyL tyStr) (csLast (tyL tyStr))) (fun c=>zL_ c.1 c.2) (owF tyBl)
def zhP_ (K:Fgg):Sp:=Ct K (csLast (tyL (tyL tyStr))) (fun c=>ze0_ c) (owL tyStr)
def za8_ (K:Fgg):Sp:=Ct K (csLast (Qq3 K)) (fun c=>z2_ c) (owL tyStr)
def zbl_ (K:Fgg):Sp:=Ct K (csLast (Qq3 K)) (fun c=>zaN_ c) (owL tyStr)
def zdO_ (K:Fgg):Sp:=Ct K (csCons (Qq3 K) (csCons (tyL tyStr) (csCons (tyL tyStr) (csCons Qq5 (csLast tyStr))))) (fun c=>zb9_ c.1 c.2.1 c.2.2.1 c.2.2.2.1 c.2.2.2.2) (owF tyBl)
def zbA_ (K:Fgg):Sp:=Ct K (csCons (tyL tyStr) (csLast Qq1)) (fun c=>zX_ c.1 c.2) (owL tyStr)
def zci_ (K:Fgg):Sp:=Ct K (csLast (tyXc K)) (fun c=>zaR_ c) (owF tyBl)
def zbZ_ (K:Fgg)(p:Addr):Sp:=Ct K (csCons (tyXcP K p) (csCons tyInt (csLast tyInt))) (fun c=>zac_ c.1 c.2.1 c.2.2) (owF tyBl)
def zbL_ (K:Fgg):Sp:=Ct K (csCons Qq5 (csCons (tyL tyStr) (csCons tyStr (csCons tyInt (csLast tyInt))))) (fun c=>zau_ c.1 c.2.1 c.2.2.1 c.2.2.2.1 c.2.2.2.2) (owF tyBl)
def zeD_ (K:Fgg):Sp:=Ct K (csCons (tyL (tyL tyStr)) (csLast (tyL tyInt))) (fun c=>zcK_ c.1 c.2) (owL tyStr)
def zai_ (K:Fgg):Sp:=Ct K (csLast (Qq3 K)) (fun c=>zad_ c) (owL tyStr)
def zcM_ (K:Fgg):Sp:=Ct K (csCons Qq5 (csLast tyStr)) (fun c=>za9_ c.1 c.2) (owF tyBl)
def zbe_ (K:Fgg):Sp:=Ct K (csCons (Qq3 K) (csLast tyStr)) (fun c=>z4_ c.1 c.2) (owF tyNon)
def zcf_ (K:Fgg):Sp:=CtM K (Qq0 K) (Qq0 K) (csCons tyStr (csLast tyInt)) (fun x c=>zay_ x c.1 c.2) (owF tyNon)
def zbO_ (K:Fgg):Sp:=CtM K (Qq0 K) (Qq0 K) (csCons tyStr (csLast tyBl)) (fun x c=>zY_ x c.1 c.2) (owF tyNon)
def zdq_ (K:Fgg):Sp:=CtMc K (Qq0 K) (Qq0 K) (csLast tyStr) (fun x c=>zaD_ x c) (fun x c=>fnMU (zaC_ x c)) (owF tyNon)
def z3_ (K:Fgg):Sp:=CtM K (Qq0 K) (Qq0 K) (csLast tyStr) (fun x c=>za4_ x c) (owF tyNon)
def zbG_ (K:Fgg):Sp:=CtMk K 0 (Qq0 K) (Qq0 K) (csCons tyStr (csLast (tyL tyStr))) (fun x c=>zbc_ x c.1 c.2) (owF tyBl)
def zit_ (K:Fgg):TS:=(tRet (tC (tx SG)))
def zjv_ (K:Fgg):TS:=(tSeq (tAsg (tC (tx [])) (gName 3)) (tSeq (tAsg (tOp mAdd (tOp mMod (mVar 0) (tC (.int 2147483647))) (tC (.int 3))) (gName 4)) (tSeq (tFor (mRng1 (tCons (tC (.int 36)) tNil)) (gName 5) (tSeq (tAsg (tOp mMod (tOp mAdd (tOp mAdd (tOp mMulX (mVar 4) (mVar 4)) (tOp mMulX (tC (.int 17)) (mVar 5))) (tC (.int 5))) (tC (.int 2147483629))) (gName 4)) (tAsg (tOp mAdd (mVar 3) (tOp (mIx K) (mVar 1) (tOp mMod (tOp mDivG (mVar 4) (tC (.int 3))) (tCB (mLen K) (tCons (mVar 1) tNil))))) (gName 3)))) (tRet (tOp mAdd (mVar 3) (mVar 2))))))
def zjd_ (K:Fgg):TS:=(tSeq (tAsg (tOp (mIx K) (tLst (tCons (tC (tx [65,32])) (tCons (tC (tx [48,90,57])) (tCons (tC (tx [66,53,65,32,48])) (tCons (tCall (zed_ K) [] E0 tNil) tNil))))) (tOp mMod (mVar 1) (tC (.int 4)))) (gName 2)) (tSeq (tAsg (tLst tNil) (gName 3)) (tSeq (tFor (iEnum K (tCons (mVar 0) tNil)) (gTupM K 2 (gConsM (gName 4) (gConsM (gName 5) gNilM))) (tSeq (tAsg (tBM K "str" mZfill (tCB (mStr) (tCons (tOp mMod (tOp mMulX (mVar 4) (tC (.int 271))) (tC (.int 10000))) tNil)) (tCons (tC (.int 4)) tNil)) (gName 6)) (tSeq (mIfS (mTest (tOp (mEqK K) (tOp mMod (tOp mDivG (mVar 1) (tC (.int 4))) (tC (.int 4))) (tC (.int 1)))) (tAsg (tC (tx [77,65,82,75])) (gName 6)) tNext) (tDrop (tBM K "list" rAppend (mVar 3) (tCons (tCall (zeJ_ K) [] E0 (tCons (mVar 5) (tCons (mVar 2) (tCons (mVar 6) tNil)))) tNil)))))) (tRet (mVar 3)))))
def zgk_ (K:Fgg):TS:=(tSeq (mIfS (mTest (tOp (mLtK K) (mVar 1) (tCB (mLen K) (tCons (mVar 0) tNil)))) (tRet (tOp (mIx K) (mVar 0) (mVar 1))) tNext) (tRet (tC (.int 0))))
def zgE_ (K:Fgg):TS:=(tSeq (tAsg (tOp mMod (tOp mMulX (tOp mAdd (tOp mMod (mVar 0) (tC (.int 2147483647))) (tC (.int 5))) (tC (.int 48271))) (tC (.int 2147483647))) (gName 1)) (tSeq (tAsg (tOp mAdd (tC (.int 1)) (tOp mMod (mVar 1) (tC (.int 3)))) (gName 2)) (tSeq (mIfS (mTest (tOp (mEqK K) (tOp mMod (tOp mDivG (mVar 1) (tC (.int 3))) (tC (.int 9))) (tC (.int 0)))) (tAsg (tC (.int 12)) (gName 2)) tNext) (tSeq (tAsg (tOp mAdd (tC (.int 1)) (tOp mMod (tOp mDivG (mVar 1) (tC (.int 27))) (tOp mSub (tC (.int 37)) (mVar 2)))) (gName 3)) (tSeq (tAsg (tOp mAdd (tC (.int 1)) (tOp mMod (tOp mDivG (mVar 1) (tC (.int 1000))) (tOp mSub (tC (.int 37)) (mVar 2)))) (gName 4)) (tSeq (mIfS (mTest (tOp (mEqK K) (tOp mMod (tOp mDivG (mVar 1) (tC (.int 37000))) (tC (.int 5))) (tC (.int 0)))) (tAsg (mVar 3) (gName 4)) tNext) (tRet (tTup (tCons (tTup (tCons (mVar 3) (tCons (tOp mSub (tOp mAdd (mVar 3) (mVar 2)) (tC (.int 1))) tNil))) (tCons (tTup (tCons (mVar 4) (tCons (tOp mSub (tOp mAdd (mVar 4) (mVar 2)) (tC (.int 1))) tNil))) tNil))))))))))
def zjT_ (K:Fgg):TS:=(tRet (tSl (mSl K) (mVar 0) (mPart (tOp mSub (tOp (mIx K) (mVar 1) (tC (.int 0))) (tC (.int 1)))) (mPart (tOp (mIx K) (mVar 1) (tC (.int 1))))))
def zkK_ (K:Fgg):TS:=(tSeq (tFor (mRng2 (tCons (tC (.int 1)) (tCons (tCB (mLen K) (tCons (mVar 0) tNil)) tNil))) (gName 2) (mIfS (mTest (tOp (mLtK K) (tCall (zV_ K) [] E0 (tCons (tOp (mIx K) (mVar 0) (mVar 2)) (tCons (mVar 1) tNil))) (tCall (zV_ K) [] E0 (tCons (tOp (mIx K) (mVar 0) (tOp mSub (mVar 2) (tC (.int 1)))) (tCons (mVar 1) tNil))))) (tRet (mVar 2)) tNext)) (tRet (tC .non)))
def za7_ (K:Fgg):TS:=(tSeq (mSFld (gA K "Mater") (mVar 0) (tLst tNil) "pockets") (mSFld (gA K "Mater") (mVar 0) (tLst tNil) "log"))
def zcq_ (K:Fgg):TS:=(mSFld (gA K "Mater") (mVar 0) (tComp ["number"] [] (mRng1 (tCons (mVar 1) tNil)) (gName 0) tTrue (tLst tNil)) "pockets")
def zar_ (K:Fgg):TS:=(tSeq (tDrop (tCall (zZ_ K) [] E0 (tCons (mVar 0) tNil))) (tSeq (tDrop (tMeth (gA K "Mater") "make_pockets" (zaO_ K) [] E0 (mVar 0) (tCons (tC (.int 2)) tNil))) (tSeq (mSFld (gA K "Mater") (mVar 0) (mVar 1) "field") (mSFld (gA K "Mater") (mVar 0) (tC .non) "last"))))
def zlg_ (K:Fgg):TS:=(tRet (mAndV (tOp (mEqK K) (tCB (mLen K) (tCons (mVar 0) tNil)) (tC (.int 1))) (tOp (mIn K false) (mVar 0) (tC (tx SG)))))
def zkU_ (K:Fgg):TS:=(tSeq (mIfS (tNot (mTest (tCall (zfC_ K) [] E0 (tCons (mVar 0) tNil)))) tNever tNext) (tRet (tBM K "str" mIndex (tC (tx SG)) (tCons (mVar 0) tNil))))
def zlD_ (K:Fgg):TS:=(tRet (tOp (mIx K) (mVar 0) (tOp mSub (mVar 1) (tC (.int 1)))))
def zi3_ (K:Fgg):TS:=(tRet (tComp ["column"] [("card",0)] (iAny K (mVar 1)) (gName 0) tTrue (tCall (zfW_ K) [] E0 (tCons (tCall (zf2_ K) [] E0 (tCons (mVar 1) (tCons (mVar 0) tNil))) tNil))))
def zf0_ (K:Fgg):TS:=(tRet (tOp (mLtK K) (tCall (zc6_ K) [] E0 (tCons (mVar 0) (tCons (mVar 2) tNil))) (tCall (zc6_ K) [] E0 (tCons (mVar 1) (tCons (mVar 2) tNil)))))
def zmJ_ (K:Fgg):TS:=(tSeq (tFor (mRng2 (tCons (tC (.int 1)) (tCons (tCB (mLen K) (tCons (mVar 0) tNil)) tNil))) (gName 2) (mIfS (mTest (tCall (zbC_ K) [] E0 (tCons (tOp (mIx K) (mVar 0) (mVar 2)) (tCons (tOp (mIx K) (mVar 0) (tOp mSub (mVar 2) (tC (.int 1)))) (tCons (mVar 1) tNil))))) (tRet (mVar 2)) tNext)) (tRet (tC .non)))
def zik_ (K:Fgg):TS:=(tSeq (mBInit (gA K "NoOrder") (tCons (mVar 0) (tCons (tJoin (tJ1 (tC (tx [100,101,99,107,32])) (tJ1 (tUn mFmt (mVar 1)) (tJ1 (tC (tx [32,105,115,32,111,117,116,32,111,102,32,111,114,100,101,114,32,97,116,32,112,108,97,99,101,32])) (tJ1 (tUn mFmt (mVar 2)) tJ0))))) tNil))) (tSeq (mXSet (gA K "NoOrder") (mVar 0) (mVar 1) "deck") (mXSet (gA K "NoOrder") (mVar 0) (mVar 2) "place")))
def zhd_ (K:Fgg):TS:=(tRet (tCB (mList K) (tCons (tCB (mRange) (tCons (tOp (mIx K) (mVar 0) (tC (.int 0))) (tCons (tOp mAdd (tOp (mIx K) (mVar 0) (tC (.int 1))) (tC (.int 1))) tNil))) tNil)))
def zfM_ (K:Fgg)(E:XK):TS:=(tSeq (tAsg (tCall (zhH_ K) [] E0 (tCons (mVar 0) (tCons (tCall (zb5_ K) [] E0 (tCons (mVar 1) tNil)) tNil))) (gName 3)) (mIfS (mTest (tOp mIsNot (mVar 3) (tC .non))) (tRaiseI (gA K "NoOrder") (zas_ K) E (tCons (mVar 2) (tCons (mVar 3) tNil))) tNext))
def zlA_ (K:Fgg):TS:=(tRet (tSl (mSl K) (mVar 0) (mPart (tOp mSub (tOp (mIx K) (mVar 1) (tC (.int 0))) (tC (.int 1)))) (mPart (tOp (mIx K) (mVar 1) (tC (.int 1))))))
def zjm_ (K:Fgg):TS:=(tSeq (tAsg tDNewK (gName 2)) (tSeq (tFor (iAny K (mVar 0)) (gName 3) (mDPut (mVar 2) (tCall (zdP_ K) [] E0 (tCons (mVar 3) (tCons (mVar 1) tNil))) (tC (.bl true)))) (tRet (mVar 2))))
def zek_ (K:Fgg)(E:XK):TS:=(tSeq (tDrop (tCall (zcN_ K) [] E (tCons (mVar 2) (tCons (mVar 3) (tCons (tC (.int 2)) tNil))))) (tSeq (tDrop (tCall (zP_ K) [] E0 (tCons (mVar 0) (tCons (mVar 1) tNil)))) (tSeq (mSFld (gA K "Mater") (mVar 0) (tCall (zeA_ K) [] E0 (tCons (mVar 2) (tCons (mVar 3) tNil))) "other_parts") (mSFld (gA K "Mater") (mVar 0) (tOp (mEqK K) (mVar 4) (tC (tx [109,97,116,101,115]))) "wants_mates"))))
def zky_ (K:Fgg)(E:XK):TS:=(tSeq (tAsg (tOp (mIx K) (mVar 0) (tC (.int 2))) (gName 2)) (tSeq (mIfS (mTest (mDIn true (mVar 2) (mVar 1))) (tRaise (gA K "NoTray") E (tCons (tJoin (tJ1 (tC (tx [110,111,32,116,114,97,121,32,115,116,97,110,100,115,32,98,121,32,116,104,101,32,110,97,109,101,32])) (tJ1 (tUn mFmt (mVar 2)) tJ0))) tNil)) tNext) (tRet (tMake (gA K "Mater") (zaL_ K) [] E (tCons (tOp (mIx K) (mVar 0) (tC (.int 3))) (tCons (mDGet (mVar 1) (mVar 2)) (tCons (tOp (mIx K) (mVar 0) (tC (.int 4))) (tCons (tOp (mIx K) (mVar 0) (tC (.int 5))) tNil))))))))
def zhi_ (K:Fgg)(E:XK):TS:=(tSeq (tAsg (tOp (mIx K) (mVar 0) (tC (.int 0))) (gName 2)) (tSeq (mIfS (mTest (tOp (mEqK K) (mVar 2) (tC (tx [100,101,97,108])))) tNever tNext) (tSeq (mIfS (mTest (tOp (mEqK K) (mVar 2) (tC (tx [112,105,99,107])))) tNever tNext) (tSeq (mIfS (mTest (tOp (mEqK K) (mVar 2) (tC (tx [109,97,116,101])))) (tRet (tCall (zex_ K) [] E (tCons (mVar 0) (tCons (mVar 1) tNil)))) tNext) (tSeq (mIfS (mTest (tOp (mEqK K) (mVar 2) (tC (tx [102,105,114,115,116])))) tNever tNext) (tSeq (mIfS (mTest (tOp (mEqK K) (mVar 2) (tC (tx [112,117,110,99,104])))) tNever tNext) tNever))))))
def zkh_ (K:Fgg)(E:XK):TS:=(tSeq (mIfS (mTest (tOp (mEqK K) (tOp mMod (mVar 3) (tC (.int 2))) (tC (.int 0)))) (tRet (tMake (gA K "Mater") (zaL_ K) [] E (tCons (tOp (mIx K) (mVar 0) (tC (.int 0))) (tCons (mVar 1) (tCons (tOp (mIx K) (mVar 0) (tC (.int 1))) (tCons (mVar 2) tNil)))))) tNext) (tRet (tCall (zbR_ K) [] E (tCons (tTup (tCons (tC (tx [109,97,116,101])) (tCons (tC (tx [97])) (tCons (tC (tx [98])) (tCons (tOp (mIx K) (mVar 0) (tC (.int 0))) (tCons (tOp (mIx K) (mVar 0) (tC (.int 1))) (tCons (mVar 2) tNil))))))) (tCons (tDisp [((tC (tx [97])),(tLst tNil)),((tC (tx [98])),(mVar 1))]) tNil)))))
def zfv_ (K:Fgg):TS:=tRetN
def zfx_ (K:Fgg):TS:=(tRet (tCB (mList K) (tCons (tOp (mIx K) (mFld (gA K "Mater") (mVar 0) "pockets") (tC (.int 0))) tNil)))
def zgb_ (K:Fgg):TS:=(tSeq (mIfS (mOr (tNot (mTest (tCB (mIsa K) (tCons (mVar 0) (tCons (tC (.ty "list")) tNil))))) (mTest (tOp (mNeK K) (tCB (mLen K) (tCons (mVar 0) tNil)) (tCB (mLen K) (tCons (mVar 1) tNil))))) (tRet (tC (.bl false))) tNext) (tSeq (tFor (iZip K (tCons (mVar 0) (tCons (mVar 1) tNil))) (gTupM K 2 (gConsM (gName 2) (gConsM (gName 3) gNilM))) (mIfS (mOr (tNot (mTest (tCB (mIsa K) (tCons (mVar 2) (tCons (tC (.ty "str")) tNil))))) (mTest (tOp (mNeK K) (mVar 2) (mVar 3)))) (tRet (tC (.bl false))) tNext)) (tRet (tC (.bl true)))))
def zns_ (K:Fgg):TS:=(tSeq (tAsg (tLst tNil) (gName 1)) (tSeq (tFor (iAny K (mVar 0)) (gName 2) (tDrop (tBM K "list" rExtend (mVar 1) (tCons (mVar 2) tNil)))) (tRet (mVar 1))))
def zdm_ (K:Fgg):TS:=(tRet (tCall (zhP_ K) [] E0 (tCons (tSl (mSl K) (mFld (gA K "Mater") (mVar 0) "pockets") (mPart (tC (.int 1))) tNoPart) tNil)))
def zdF_ (K:Fgg):TS:=(tRet (tLst tNil))
def ziq_ (K:Fgg):TS:=(tSeq (tAsg tDNewK (gName 5)) (tSeq (tFor (iAny K (mVar 2)) (gName 6) (mDPut (mVar 5) (tCall (zV_ K) [] E0 (tCons (mVar 6) (tCons (tOp (mIx K) (mVar 3) (tC (.int 1))) tNil))) (tC (.bl true)))) (tSeq (tAsg (tComp ["_law_card_here"] [("_law_known_here",5),("_law_word",4),("_law_fields_here",3)] (iAny K (mVar 1)) (gName 0) (mTest (tOp (mEqK K) (mDIn false (tCall (zV_ K) [] E0 (tCons (mVar 0) (tCons (tOp (mIx K) (mVar 3) (tC (.int 0))) tNil))) (mVar 1)) (tOp (mEqK K) (mVar 2) (tC (tx [109,97,116,101,115]))))) (mVar 0)) (gName 7)) (tSeq (tAsg (tComp ["_law_card_here"] [("_law_known_here",5),("_law_word",4),("_law_fields_here",3)] (iAny K (mVar 1)) (gName 0) (mTest (tOp (mNeK K) (mDIn false (tCall (zV_ K) [] E0 (tCons (mVar 0) (tCons (tOp (mIx K) (mVar 3) (tC (.int 0))) tNil))) (mVar 1)) (tOp (mEqK K) (mVar 2) (tC (tx [109,97,116,101,115]))))) (mVar 0)) (gName 8)) (tSeq (mIfS (mOr (mTest (tOp mIsNot (tMeth (gA K "Mater") "finish" (zck_ K) [] E0 (mVar 0) tNil) (tC .non))) (tNot (mTest (tCall (zJ_ K) [] E0 (tCons (tMeth (gA K "Mater") "stayed" (zaH_ K) [] E0 (mVar 0) tNil) (tCons (mVar 7) tNil)))))) (tRet (tC (.bl false))) tNext) (tSeq (tDrop (tBM K "list" rAppend (tMeth (gA K "Mater") "stayed" (zaH_ K) [] E0 (mVar 0) tNil) (tCons (tC (tx [])) tNil))) (tSeq (mIfS (tNot (mTest (tCall (zJ_ K) [] E0 (tCons (tMeth (gA K "Mater") "laid_aside" (za8_ K) [] E0 (mVar 0) tNil) (tCons (mVar 8) tNil))))) (tRet (tC (.bl false))) tNext) (tRet (mAndV (tCall (zJ_ K) [] E0 (tCons (tMeth (gA K "Mater") "stayed" (zaH_ K) [] E0 (mVar 0) tNil) (tCons (mVar 7) tNil))) (tOp (mEqK K) (tMeth (gA K "Mater") "lines_out" (zbl_ K) [] E0 (mVar 0) tNil) (tLst tNil)))))))))))
def zfV_ (K:Fgg):TS:=(tSeq (tAsg (tLst tNil) (gName 2)) (tSeq (tFor (iAny K (mVar 0)) (gName 3) (tSeq (tAsg (tCB (mLen K) (tCons (mVar 2) tNil)) (gName 4)) (tSeq (tWhile (mAnd (mTest (tOp mGt (mVar 4) (tC (.int 0)))) (mTest (tOp (mLtK K) (tCall (zV_ K) [] E0 (tCons (mVar 3) (tCons (mVar 1) tNil))) (tCall (zV_ K) [] E0 (tCons (tOp (mIx K) (mVar 2) (tOp mSub (mVar 4) (tC (.int 1)))) (tCons (mVar 1) tNil)))))) (tAsg (tOp mSub (mVar 4) (tC (.int 1))) (gName 4))) (tDrop (tBM K "list" mInsert (mVar 2) (tCons (mVar 4) (tCons (mVar 3) tNil))))))) (tRet (mVar 2))))
def zeS_ (K:Fgg):TS:=(tSeq (mIfS (mOr (mTest (tCB (mIsaX K) (tCons (mVar 0) (tCons (tC (.ref (gA K "Meet"))) tNil)))) (mOr (mTest (tCB (mIsaX K) (tCons (mVar 0) (tCons (tC (.ref (gA K "NoAsking"))) tNil)))) (mOr (mTest (tCB (mIsaX K) (tCons (mVar 0) (tCons (tC (.ref (gA K "NoBoard"))) tNil)))) (mTest (tCB (mIsaX K) (tCons (mVar 0) (tCons (tC (.ref (gA K "NoCard"))) tNil))))))) (tRet (tC (.bl true))) tNext) (tRet (mOrV (tCB (mIsaX K) (tCons (mVar 0) (tCons (tC (.ref (gA K "NoField"))) tNil))) (mOrV (tCB (mIsaX K) (tCons (mVar 0) (tCons (tC (.ref (gA K "NoPlan"))) tNil))) (mOrV (tCB (mIsaX K) (tCons (mVar 0) (tCons (tC (.ref (gA K "NoRow"))) tNil))) (tCB (mIsaX K) (tCons (mVar 0) (tCons (tC (.ref (gA K "NoTray"))) tNil))))))))
def zhp_ (K:Fgg)(p:Addr):TS:=(tSeq (mIfS (mOr (tNot (mTest (tCB (mIsaX K) (tCons (mVar 0) (tCons (tC (.ref (gA K "NoOrder"))) tNil))))) (mOr (tNot (mTest (tCB (mIsaX K) (tCons (mVar 0) (tCons (tC (.ty "ValueError")) tNil))))) (mTest (tCall (zci_ K) [] E0 (tCons (mVar 0) tNil))))) (tRet (tC (.bl false))) tNext) (tSeq (tFor (iLstH p K (tLst (tCons (tTup (tCons (mXFld K (mVar 0) "deck") (tCons (mVar 1) tNil))) (tCons (tTup (tCons (mXFld K (mVar 0) "place") (tCons (mVar 2) tNil))) tNil)))) (gTupHM p K 2 (gConsM (gName 3) (gConsM (gName 4) gNilM))) (mIfS (mOr (tNot (mTest (tCB (mIsa K) (tCons (mVar 3) (tCons (tC (.ty "int")) tNil))))) (mOr (mTest (tCB (mIsa K) (tCons (mVar 3) (tCons (tC (.ty "bool")) tNil)))) (mTest (tOp (mNeK K) (mVar 3) (mVar 4))))) (tRet (tC (.bl false))) tNext)) (tRet (tC (.bl true)))))
def zd4_ (K:Fgg):TS:=(tSeq (tTryH (tDropX (zde_ K) (tCons (mVar 0) (tCons (tCB (mList K) (tCons (mVar 1) tNil)) (tCons (mVar 2) (tCons (mVar 3) tNil))))) (tHAsP K (gA K "ShopError") 5 (fun xx=>(tRet (tCall (zbZ_ K xx) [] E0 (tCons (mVar 5) (tCons (tC (.int 2)) (tCons (mVar 4) tNil)))))) tH0)) (tRet (tC (.bl false))))
def zjN_ (K:Fgg):TS:=(tSeq (tAsg (tComp ["pocket"] [] (iAny K (mVar 0)) (gName 0) tTrue (tC (.int 0))) (gName 2)) (tSeq (tAsg (tLst tNil) (gName 3)) (tSeq (tFor (iAny K (mVar 1)) (gName 4) (tSeq (tDrop (tBM K "list" rAppend (mVar 3) (tCons (tOp (mIx K) (tOp (mIx K) (mVar 0) (mVar 4)) (tOp (mIx K) (mVar 2) (mVar 4))) tNil))) (tAsg (tOp mAdd (tOp (mIx K) (mVar 2) (mVar 4)) (tC (.int 1))) (gSub (mVar 2) (mVar 4) mSet)))) (tRet (mVar 3)))))
def zg3_ (K:Fgg):TS:=(tRet (tCall (zeD_ K) [] E0 (tCons (mFld (gA K "Mater") (mVar 0) "pockets") (tCons (mFld (gA K "Mater") (mVar 0) "log") tNil))))
def zfY_ (K:Fgg):TS:=(tSeq (tTryH (tDropX (zbR_ K) (tCons (tTup (tCons (tC (tx [109,97,116,101])) (tCons (tC (tx [97])) (tCons (tC (tx [98])) (tCons (tOp (mIx K) (mVar 0) (tC (.int 0))) (tCons (tOp (mIx K) (mVar 0) (tC (.int 1))) (tCons (mVar 1) tNil))))))) (tCons (tDisp [((tC (tx [97])),(tLst tNil))]) tNil))) (tH1 K (gA K "NoTray") (tRet (tC (.bl true))) tH0)) (tRet (tC (.bl false))))
def zc5_ (K:Fgg)(E:XK):TS:=(mIfS (mAnd (mTest (tOp mIsNot (mFld (gA K "Mater") (mVar 0) "last") (tC .non))) (mTest (tCall (zbC_ K) [] E0 (tCons (mVar 1) (tCons (mFld (gA K "Mater") (mVar 0) "last") (tCons (tCall (zb5_ K) [] E0 (tCons (mFld (gA K "Mater") (mVar 0) "field") tNil)) tNil)))))) (tRaiseI (gA K "NoOrder") (zas_ K) E (tCons (tC (.int 1)) (tCons (tCB (mLen K) (tCons (mFld (gA K "Mater") (mVar 0) "log") tNil)) tNil))) tNext)
def zfa_ (K:Fgg):TS:=(tSeq (tDrop (tBM K "list" rAppend (tOp (mIx K) (mFld (gA K "Mater") (mVar 0) "pockets") (mVar 2)) (tCons (mVar 1) tNil))) (tDrop (tBM K "list" rAppend (mFld (gA K "Mater") (mVar 0) "log") (tCons (mVar 2) tNil))))
def zem_ (K:Fgg):TS:=(tSeq (tDrop (tMeth (gA K "Mater") "lay_in" (zcf_ K) [] E0 (mVar 0) (tCons (mVar 1) (tCons (mIf (mTrL K (mVar 2)) (tC (.int 0)) (tC (.int 1))) tNil)))) (mSFld (gA K "Mater") (mVar 0) (mVar 1) "last"))
def znq_ (K:Fgg)(E:XK):TS:=(tSeq (tDrop (tMeth (gA K "Mater") "check_next" (zbe_ K) [] E (mVar 0) (tCons (mVar 1) tNil))) (tSeq (tAsg (mDIn false (tCall (zdP_ K) [] E0 (tCons (mVar 1) (tCons (mFld (gA K "Mater") (mVar 0) "field") tNil))) (mFld (gA K "Mater") (mVar 0) "other_parts")) (gName 2)) (tDrop (tMeth (gA K "Mater") "lay_next" (zbO_ K) [] E0 (mVar 0) (tCons (mVar 1) (tCons (tOp (mEqK K) (mVar 2) (mFld (gA K "Mater") (mVar 0) "wants_mates")) tNil))))))
def zfO_ (K:Fgg):TS:=(tSeq (tAsg (tC (.bl false)) (gName 3)) (tSeq (tTryH (tDropMX (gA K "Mater") "feed" (zdq_ K) (mVar 0) (tCons (mVar 1) tNil)) (tHAsP K (gA K "ShopError") 4 (fun xx=>(tAsg (tCall (zbZ_ K xx) [] E0 (tCons (mVar 4) (tCons (tC (.int 1)) (tCons (tCB (mLen K) (tCons (mVar 2) tNil)) tNil)))) (gName 3))) tH0)) (tSeq (mIfS (mOr (tNot (mTrL K (mVar 3))) (tNot (mTest (tCall (zJ_ K) [] E0 (tCons (tMeth (gA K "Mater") "back" (zai_ K) [] E0 (mVar 0) tNil) (tCons (mVar 2) tNil)))))) (tRet (tC (.bl false))) tNext) (tRet (mAndV (tOp mIs (tMeth (gA K "Mater") "feed" (z3_ K) [] E0 (mVar 0) (tCons (tOp (mIx K) (mVar 2) (mNeg (tC (.int 1)))) tNil)) (tC .non)) (tCall (zJ_ K) [] E0 (tCons (tMeth (gA K "Mater") "back" (zai_ K) [] E0 (mVar 0) tNil) (tCons (tOp mAdd (mVar 2) (tSl (mSl K) (mVar 2) (mPart (mNeg (tC (.int 1)))) tNoPart)) tNil))))))))
def t_law (K:Fgg):TS:=(tSeq (tAsg (tSl (mSl K) (mVar 0) (mPart (tC (.int 3))) (mPart (tC (.int 63)))) (gName 1)) (tSeq (tAsg (tOp mMod (tCall (zaS_ K) [] E0 (tCons (mVar 0) (tCons (tC (.int 1)) tNil))) (tOp mAdd (tCB (mLen K) (tCons (mVar 1) tNil)) (tC (.int 1)))) (gName 2)) (tSeq (tAsg (tCall (zeF_ K) [] E0 (tCons (mVar 1) (tCons (tCall (zaS_ K) [] E0 (tCons (mVar 0) (tCons (tC (.int 0)) tNil))) tNil))) (gName 3)) (tSeq (tAsg (tSl (mSl K) (mVar 3) tNoPart (mPart (mVar 2))) (gName 4)) (tSeq (tAsg (tSl (mSl K) (mVar 3) (mPart (mVar 2)) tNoPart) (gName 5)) (tSeq (tAsg (tCall (zaS_ K) [] E0 (tCons (mVar 0) (tCons (tC (.int 2)) tNil))) (gName 6)) (tSeq (tAsg (tCall (zdr_ K) [] E0 (tCons (mVar 6) tNil)) (gName 7)) (tSeq (tAsg (tOp (mIx K) (tLst (tCons (tC (tx [109,97,116,101,115])) (tCons (tC (tx [119,105,116,104,111,117,116])) tNil))) (tOp mMod (mVar 6) (tC (.int 2)))) (gName 8)) (tSeq (mIfS (mTest (tOp mGt (tOp mMod (tOp mDivG (mVar 6) (tC (.int 2))) (tC (.int 3))) (tC (.int 0)))) (tAsg (tCall (zbA_ K) [] E0 (tCons (mVar 4) (tCons (tOp (mIx K) (mVar 7) (tC (.int 0))) tNil))) (gName 4)) tNext) (tSeq (mIfS (mTest (tOp mGt (tOp mMod (tOp mDivG (mVar 6) (tC (.int 6))) (tC (.int 3))) (tC (.int 0)))) (tAsg (tCall (zbA_ K) [] E0 (tCons (mVar 5) (tCons (tOp (mIx K) (mVar 7) (tC (.int 1))) tNil))) (gName 5)) tNext) (tSeq (tAsg (tCall (zfR_ K) [] E0 (tCons (mVar 5) (tCons (tOp (mIx K) (mVar 7) (tC (.int 1))) tNil))) (gName 9)) (tSeq (mIfS (mTest (tOp mIsNot (mVar 9) (tC .non))) (tRet (tCall (zbL_ K) [] E0 (tCons (mVar 7) (tCons (mVar 5) (tCons (mVar 8) (tCons (tOp mDivG (mVar 6) (tC (.int 18))) (tCons (mVar 9) tNil))))))) tNext) (tSeq (tAsg (tCB (mList K) (tCons (mVar 5) tNil)) (gName 10)) (tSeq (tAsg (tCall (zde_ K) [] E0 (tCons (mVar 7) (tCons (mVar 10) (tCons (mVar 8) (tCons (tOp mDivG (mVar 6) (tC (.int 18))) tNil))))) (gName 11)) (tSeq (mIfS (mOr (mTest (tOp (mNeK K) (mVar 10) (mVar 5))) (mOr (tNot (mTest (tCB (mIsaI K) (tCons (mVar 11) (tCons (tC (.ref (gA K "Machine"))) tNil))))) (tNot (mTest (tCall (zcM_ K) [] E0 (tCons (mVar 7) (tCons (mVar 8) tNil))))))) (tRet (tC (.bl false))) tNext) (tSeq (tDrop (tBM0 K "list" rClear (mVar 10))) (tSeq (tFor (iEnum K (tCons (mVar 4) tNil)) (gTupM K 2 (gConsM (gName 12) (gConsM (gName 13) gNilM))) (tSeq (tAsg (tOp (mIx K) (mVar 4) (tCB (mTwo max) (tCons (tC (.int 0)) (tCons (tOp mSub (mVar 12) (tC (.int 1))) tNil)))) (gName 14)) (tSeq (mIfS (mTest (tOp (mLtK K) (tCall (zV_ K) [] E0 (tCons (mVar 13) (tCons (tOp (mIx K) (mVar 7) (tC (.int 0))) tNil))) (tCall (zV_ K) [] E0 (tCons (mVar 14) (tCons (tOp (mIx K) (mVar 7) (tC (.int 0))) tNil))))) (tRet (tCall (zbG_ K) [] E0 (tCons (mVar 11) (tCons (mVar 13) (tCons (tSl (mSl K) (mVar 4) tNoPart (mPart (mVar 12))) tNil))))) tNext) (mIfS (mOr (mTest (tOp mIsNot (tMeth (gA K "Mater") "feed" (z3_ K) [] E0 (mVar 11) (tCons (mVar 13) tNil)) (tC .non))) (tNot (mTest (tCall (zJ_ K) [] E0 (tCons (tMeth (gA K "Mater") "back" (zai_ K) [] E0 (mVar 11) tNil) (tCons (tSl (mSl K) (mVar 4) tNoPart (mPart (tOp mAdd (mVar 12) (tC (.int 1))))) tNil)))))) (tRet (tC (.bl false))) tNext)))) (tSeq (mIfS (tNot (mTest (tCall (zJ_ K) [] E0 (tCons (tMeth (gA K "Mater") "back" (zai_ K) [] E0 (mVar 11) tNil) (tCons (mVar 4) tNil))))) (tRet (tC (.bl false))) tNext) (tRet (tCall (zdO_ K) [] E0 (tCons (mVar 11) (tCons (mVar 4) (tCons (mVar 5) (tCons (mVar 7) (tCons (mVar 8) tNil)))))))))))))))))))))))))
abbrev zew_ (P:Program)(w:World)(K:Fgg)(mg:Str->Option Value)(base:Heap):Prop:=Gd P w K mg base CX0 1 "_law_known" [] (zed_ K)
abbrev zfP_ (P:Program)(w:World)(K:Fgg)(mg:Str->Option Value)(base:Heap):Prop:=Gd P w K mg base CX0 1 "_law_card" ["_law_cell", "_law_menu", "_law_mark"] (zeJ_ K)
abbrev zf5_ (P:Program)(w:World)(K:Fgg)(mg:Str->Option Value)(base:Heap):Prop:=Gd P w K mg base CX0 2 "_law_deck" ["_law_cells", "_law_way"] (zeF_ K)
abbrev zds_ (P:Program)(w:World)(K:Fgg)(mg:Str->Option Value)(base:Heap):Prop:=Gd P w K mg base CX0 1 "_law_cell_at" ["_law_script", "_law_k"] (zaS_ K)
abbrev zdY_ (P:Program)(w:World)(K:Fgg)(mg:Str->Option Value)(base:Heap):Prop:=Gd P w K mg base CX0 1 "_law_fields" ["_law_cell"] (zdr_ K)
abbrev zbX_ (P:Program)(w:World)(K:Fgg)(mg:Str->Option Value)(base:Heap):Prop:=Gd P w K mg base CX0 1 "_law_part" ["_law_card_here", "_law_field"] (zV_ K)
abbrev zhZ_ (P:Program)(w:World)(K:Fgg)(mg:Str->Option Value)(base:Heap):Prop:=Gd P w K mg base CX0 2 "_law_out" ["_law_deck_here", "_law_field"] (zfR_ K)
abbrev z8_ (P:Program)(w:World)(K:Fgg)(mg:Str->Option Value)(base:Heap):Prop:=Gs P w K mg base CX0 1 "Machine" "__init__" ["self"] (zZ_ K)
abbrev za3_ (P:Program)(w:World)(K:Fgg)(mg:Str->Option Value)(base:Heap):Prop:=Gm P w K mg base CX0 1 (gA K "Mater") "make_pockets" ["self", "many"] (zaO_ K)
abbrev zR_ (P:Program)(w:World)(K:Fgg)(mg:Str->Option Value)(base:Heap):Prop:=Gs P w K mg base CX0 2 "OrderedMachine" "__init__" ["self", "field"] (zP_ K)
abbrev zhr_ (P:Program)(w:World)(K:Fgg)(mg:Str->Option Value)(base:Heap):Prop:=Gd P w K mg base CX0 1 "is_sign" ["text"] (zfC_ K)
abbrev zhL_ (P:Program)(w:World)(K:Fgg)(mg:Str->Option Value)(base:Heap):Prop:=Gd P w K mg base CX0 2 "rank_of" ["sign"] (zfW_ K)
abbrev zh9_ (P:Program)(w:World)(K:Fgg)(mg:Str->Option Value)(base:Heap):Prop:=Gd P w K mg base CX0 1 "sign_at" ["card", "column"] (zf2_ K)
abbrev zgf_ (P:Program)(w:World)(K:Fgg)(mg:Str->Option Value)(base:Heap):Prop:=Gd P w K mg base CX0 3 "ranks_at" ["card", "columns"] (zc6_ K)
abbrev zbT_ (P:Program)(w:World)(K:Fgg)(mg:Str->Option Value)(base:Heap):Prop:=Gd P w K mg base CX0 4 "comes_ahead" ["card", "other", "columns"] (zbC_ K)
abbrev zkq_ (P:Program)(w:World)(K:Fgg)(mg:Str->Option Value)(base:Heap):Prop:=Gd P w K mg base CX0 5 "out_at" ["deck", "columns"] (zhH_ K)
abbrev zaE_ (P:Program)(w:World)(K:Fgg)(mg:Str->Option Value)(base:Heap):Prop:=GxI P w K mg base 1 "NoOrder" (gA K "NoOrder") ["self", "deck", "place"] (zas_ K)
abbrev zcy_ (P:Program)(w:World)(K:Fgg)(mg:Str->Option Value)(base:Heap):Prop:=Gd P w K mg base CX0 1 "columns_of" ["field"] (zb5_ K)
abbrev zdn_ (P:Program)(w:World)(K:Fgg)(mg:Str->Option Value)(base:Heap):Prop:=Gd P w K mg base (CXx P w) 6 "check_order" ["deck", "field", "number"] (zcN_ K)
abbrev zfA_ (P:Program)(w:World)(K:Fgg)(mg:Str->Option Value)(base:Heap):Prop:=Gd P w K mg base CX0 1 "part_of" ["card", "field"] (zdP_ K)
abbrev zgt_ (P:Program)(w:World)(K:Fgg)(mg:Str->Option Value)(base:Heap):Prop:=Gd P w K mg base CX0 2 "parts_in" ["deck", "field"] (zeA_ K)
abbrev zaV_ (P:Program)(w:World)(K:Fgg)(mg:Str->Option Value)(base:Heap):Prop:=Gk P w K mg base (CXx P w) 7 "Mater" (gA K "Mater") ["self", "field", "other", "other_field", "word"] (zaL_ K)
abbrev zgs_ (P:Program)(w:World)(K:Fgg)(mg:Str->Option Value)(base:Heap):Prop:=Gd P w K mg base (CXx P w) 9 "mater_of" ["going", "trays"] (zex_ K)
abbrev zcx_ (P:Program)(w:World)(K:Fgg)(mg:Str->Option Value)(base:Heap):Prop:=Gd P w K mg base (CXx P w) 10 "machine_of" ["going", "trays"] (zbR_ K)
abbrev zel_ (P:Program)(w:World)(K:Fgg)(mg:Str->Option Value)(base:Heap):Prop:=Gd P w K mg base (CXx P w) 11 "_law_made" ["_law_fields_here", "_law_others", "_law_word", "_law_way"] (zde_ K)
abbrev zcU_ (P:Program)(w:World)(K:Fgg)(mg:Str->Option Value)(base:Heap):Prop:=Gm P w K mg base CX0 1 (gA K "Mater") "finish" ["self"] (zck_ K)
abbrev zcB_ (P:Program)(w:World)(K:Fgg)(mg:Str->Option Value)(base:Heap):Prop:=Gm P w K mg base CX0 1 (gA K "Mater") "stayed" ["self"] (zaH_ K)
abbrev zbb_ (P:Program)(w:World)(K:Fgg)(mg:Str->Option Value)(base:Heap):Prop:=Gd P w K mg base CX0 1 "_law_deck_is" ["_law_found", "_law_due"] (zJ_ K)
abbrev zjz_ (P:Program)(w:World)(K:Fgg)(mg:Str->Option Value)(base:Heap):Prop:=Gd P w K mg base CX0 1 "gather" ["some"] (zhP_ K)
abbrev zbo_ (P:Program)(w:World)(K:Fgg)(mg:Str->Option Value)(base:Heap):Prop:=Gm P w K mg base CX0 2 (gA K "Mater") "laid_aside" ["self"] (za8_ K)
abbrev zbK_ (P:Program)(w:World)(K:Fgg)(mg:Str->Option Value)(base:Heap):Prop:=Gm P w K mg base CX0 1 (gA K "Mater") "lines_out" ["self"] (zbl_ K)
abbrev zeH_ (P:Program)(w:World)(K:Fgg)(mg:Str->Option Value)(base:Heap):Prop:=Gd P w K mg base CX0 3 "_law_ended" ["_law_machine", "_law_ones", "_law_others", "_law_fields_here", "_law_word"] (zdO_ K)
abbrev zdo_ (P:Program)(w:World)(K:Fgg)(mg:Str->Option Value)(base:Heap):Prop:=Gd P w K mg base CX0 2 "_law_ordered" ["_law_deck_here", "_law_field"] (zbA_ K)
abbrev zcP_ (P:Program)(w:World)(K:Fgg)(mg:Str->Option Value)(base:Heap):Prop:=GdN P w K mg base 1 "_law_is_other" ["_law_e"] (zci_ K)
abbrev zcp_ (P:Program)(w:World)(K:Fgg)(mg:Str->Option Value)(base:Heap):Prop:=GdH P w K mg base 2 "_law_is_out" ["_law_e", "_law_deck_here", "_law_place"] (zbZ_ K)
abbrev zbS_ (P:Program)(w:World)(K:Fgg)(mg:Str->Option Value)(base:Heap):Prop:=Gd P w K mg base CX0 12 "_law_no_machine" ["_law_fields_here", "_law_others", "_law_word", "_law_way", "_law_place"] (zbL_ K)
abbrev zgd_ (P:Program)(w:World)(K:Fgg)(mg:Str->Option Value)(base:Heap):Prop:=Gd P w K mg base CX0 1 "put_back" ["some", "numbers"] (zeD_ K)
abbrev zct_ (P:Program)(w:World)(K:Fgg)(mg:Str->Option Value)(base:Heap):Prop:=Gm P w K mg base CX0 2 (gA K "Mater") "back" ["self"] (zai_ K)
abbrev zdy_ (P:Program)(w:World)(K:Fgg)(mg:Str->Option Value)(base:Heap):Prop:=Gd P w K mg base CX0 11 "_law_no_tray" ["_law_fields_here", "_law_word"] (zcM_ K)
abbrev zbu_ (P:Program)(w:World)(K:Fgg)(mg:Str->Option Value)(base:Heap):Prop:=Gm P w K mg base (CXx P w) 5 (gA K "Mater") "check_next" ["self", "card"] (zbe_ K)
abbrev zcF_ (P:Program)(w:World)(K:Fgg)(mg:Str->Option Value)(base:Heap):Prop:=Gm P w K mg base CX0 1 (gA K "Mater") "lay_in" ["self", "card", "number"] (zcf_ K)
abbrev zb0_ (P:Program)(w:World)(K:Fgg)(mg:Str->Option Value)(base:Heap):Prop:=Gm P w K mg base CX0 2 (gA K "Mater") "lay_next" ["self", "card", "stays"] (zbO_ K)
abbrev zcn_ (P:Program)(w:World)(K:Fgg)(mg:Str->Option Value)(base:Heap):Prop:=Gm P w K mg base (CXx P w) 6 (gA K "Mater") "feed" ["self", "card"] (zdq_ K)
abbrev zdx_ (P:Program)(w:World)(K:Fgg)(mg:Str->Option Value)(base:Heap):Prop:=Gd P w K mg base CX0 7 "_law_refuses" ["_law_machine", "_law_card_here", "_law_fed"] (zbG_ K)
structure Ek (K:Fgg):Prop where
 w0:Fc K "Mater"
 a0:Fa K "Mater" "pockets"
 a1:Fa K "Mater" "log"
 a2:Fa K "Mater" "field"
 a3:Fa K "Mater" "last"
 a4:Fa K "Mater" "other_parts"
 a5:Fa K "Mater" "wants_mates"
 f0:Fg K "_law_known" zio_
 f1:Fg K "_law_card" ziI_
 f2:Fg K "_law_deck" zjI_
 f3:Fg K "_law_cell_at" zf6_
 f4:Fg K "_law_fields" zgQ_
 f5:Fg K "_law_part" zje_
 f6:Fg K "_law_out" zlo_
 f7:Fs K "Machine" "__init__" "Machine.__init__" za6_
 f8:Fm K "Mater" "make_pockets" "Machine.make_pockets" zcw_
 f9:Fs K "OrderedMachine" "__init__" "OrderedMachine.__init__" zav_
 f10:Fg K "is_sign" zk6_
 f11:Fg K "rank_of" zkR_
 f12:Fg K "sign_at" zkL_
 f13:Fg K "ranks_at" zjt_
 f14:Fg K "comes_ahead" zgn_
 f15:Fg K "out_at" zm7_
 f16:Fm K "NoOrder" "__init__" "NoOrder.__init__" zdk_
 f17:Fg K "columns_of" zhn_
 f18:Fg K "check_order" zf8_
 f19:Fg K "part_of" zkV_
 f20:Fg K "parts_in" zki_
 f21:Fm K "Mater" "__init__" "Mater.__init__" zen_
 f22:Fg K "mater_of" zjS_
 f23:Fg K "machine_of" zgy_
 f24:Fg K "_law_made" zj2_
 f25:Fm K "Mater" "finish" "Machine.finish" zfq_
 f26:Fm K "Mater" "stayed" "Machine.stayed" zft_
 f27:Fg K "_law_deck_is" zgu_
 f28:Fg K "gather" znX_
 f29:Fm K "Mater" "laid_aside" "Machine.laid_aside" zc9_
 f30:Fm K "Mater" "lines_out" "Machine.lines_out" zdC_
 f31:Fg K "_law_ended" zix_
 f32:Fg K "_law_ordered" zfE_
 f33:Fg K "_law_is_other" zfB_
 f34:Fg K "_law_is_out" zhl_
 f35:Fg K "_law_no_machine" zee_
 f36:Fg K "put_back" zkp_
 f37:Fm K "Mater" "back" "Machine.back" zgz_
 f38:Fg K "_law_no_tray" zga_
 f39:Fm K "Mater" "check_next" "OrderedMachine.check_next" zdj_
 f40:Fm K "Mater" "lay_in" "Machine.lay_in" zeY_
 f41:Fm K "Mater" "lay_next" "OrderedMachine.lay_next" zd9_
 f42:Fm K "Mater" "feed" "Mater.feed" zgG_
 f43:Fg K "_law_refuses" zf1_
 f44:Fg K "law" zri_
 c0:Fv K "SIGNS" (tx SG)
 b0:Fb K "range"
 b1:Fb K "len"
 b2:Fb K "enumerate"
 b3:Fb K "str"
 b4:Fb K "list"
 b5:Fb K "isinstance"
 b6:Fb K "zip"
 b7:Fb K "ValueError"
 b8:Fb K "int"
 b9:Fb K "bool"
 b10:Fb K "max"
 k0:Fk K "ShopError"
 k1:Fk K "NoOrder"
 k2:Fk K "NoTray"
 k3:Fk K "Meet"
 k4:Fk K "NoAsking"
 k5:Fk K "NoBoard"
 k6:Fk K "NoCard"
 k7:Fk K "NoField"
 k8:Fk K "NoPlan"
 k9:Fk K "NoRow"
 k10:Fk K "Machine"
 u0:Fe1 K "NoTray" fun aj=>excK K aj=true
 u1:Fe2 K "NoTray" "ShopError" fun aj aK=>catK K aj aK=true
 u2:Fe1 K "NoTray" fun aj=>catK K aj aj=true
 u3:Fe2 K "NoTray" "Meet" fun aj dv=>isaK K aj (.ref dv)=some false
 u4:Fe2 K "NoTray" "NoAsking" fun aj bx=>isaK K aj (.ref bx)=some false
 u5:Fe2 K "NoTray" "NoBoard" fun aj bH=>isaK K aj (.ref bH)=some false
 u6:Fe2 K "NoTray" "NoCard" fun aj bV=>isaK K aj (.ref bV)=some false
 u7:Fe2 K "NoTray" "NoField" fun aj bG=>isaK K aj (.ref bG)=some false
 u8:Fe2 K "NoTray" "NoPlan" fun aj bU=>isaK K aj (.ref bU)=some false
 u9:Fe2 K "NoTray" "NoRow" fun aj cu=>isaK K aj (.ref cu)=some false
 u10:Fe1 K "NoTray" fun aj=>isaK K aj (.ref aj)=some true
 u11:Fe2 K "NoTray" "NoOrder" fun aj ag=>isaK K aj (.ref ag)=some false
 u12:Fe1 K "NoTray" fun aj=>isaK K aj (.type "ValueError")=some true
 u13:Fe1 K "NoOrder" fun ag=>excJ K ag=true
 u14:Fe1 K "NoOrder" fun ag=>exA K ag "deck"=true
 u15:Fe1 K "NoOrder" fun ag=>exA K ag "place"=true
 u16:Fe2 K "NoOrder" "ShopError" fun ag aK=>catK K ag aK=true
 u17:Fe2 K "NoOrder" "NoTray" fun ag aj=>catN K ag aj=true
 u18:Fe2 K "NoOrder" "Meet" fun ag dv=>isaK K ag (.ref dv)=some false
 u19:Fe2 K "NoOrder" "NoAsking" fun ag bx=>isaK K ag (.ref bx)=some false
 u20:Fe2 K "NoOrder" "NoBoard" fun ag bH=>isaK K ag (.ref bH)=some false
 u21:Fe2 K "NoOrder" "NoCard" fun ag bV=>isaK K ag (.ref bV)=some false
 u22:Fe2 K "NoOrder" "NoField" fun ag bG=>isaK K ag (.ref bG)=some false
 u23:Fe2 K "NoOrder" "NoPlan" fun ag bU=>isaK K ag (.ref bU)=some false
 u24:Fe2 K "NoOrder" "NoRow" fun ag cu=>isaK K ag (.ref cu)=some false
 u25:Fe2 K "NoOrder" "NoTray" fun ag aj=>isaK K ag (.ref aj)=some false
 u26:Fe1 K "NoOrder" fun ag=>isaK K ag (.ref ag)=some true
 u27:Fe1 K "NoOrder" fun ag=>isaK K ag (.type "ValueError")=some true
 u28:Fe1 K "ShopError" fun aK=>binK K aK=true
 u29:Fe2 K "Mater" "Machine" fun fk dJ=>isiK K fk (.ref dJ)=some true
structure En (K:Fgg)(mg:Str->Option Value):Prop extends Ek K where
 m:Mgo K mg
section
variable {K:Fgg}{mg:Str->Option Value}
theorem En.fx (e:En K mg):Fx K:=⟨e.u0.g,e.u1.g,e.u2.g,e.u3.g,e.u4.g,e.u5.g,e.u6.g,e.u7.g,e.u8.g,e.u9.g,e.u10.g,e.u11.g,e.u12.g,e.u13.g,e.u14.g,e.u15.g,e.u16.g,e.u17.g,e.u18.g,e.u19.g,e.u20.g,e.u21.g,e.u22.g,e.u23.g,e.u24.g,e.u25.g,e.u26.g,e.u27.g,e.u28.g,e.u29.g⟩
variable {P:Program}{w:World}{base:Heap}
theorem zgA_ (e:En K mg):zew_ P w K mg base:=
 zc4_ e.m e.f0 (okC (N:=[]) (C:=csNil) (b:=fun _ _ F=>Fun.binds0 F fun _ _ _ _ _ _=>rfl) (O:=(owF tyStr)) (t:=fun E=>zit_ K) (g:=fun c=>zeC_) 0 0 zmk_ (fun _ _ _ _ _ _ E nd hr=>(zg_ (zG_ (zaq_ (l:=SG))))) fun c E=>at_ []
 (zaW_ (zs_ zj_) (EvF.ow (zah_ SG))))
theorem zid_ (e:En K mg):zfP_ P w K mg base:=
 zc4_ e.m e.f1 (okC (N:=["_law_cell", "_law_menu", "_law_mark", "_law_card_here", "_law_number", "_law_k"]) (C:=(csCons tyInt (csCons tyStr (csLast tyStr)))) (O:=(owF tyStr)) (t:=fun E=>zjv_ K) (g:=fun c=>zdQ_ c.1 c.2.1 c.2.2) 3 3 (zp_ (zp_ zn_)) (fun _ _ _ _ _ _ E nd hr=>(zd_ (pst 3 (zaq_ (l:=[]))) (zd_ (pst 4 (zan_ zaP_ (zan_ zaz_ (za_ 0) zk_) zk_)) (zd_ (zd7_ PassesOwn.never rfl (zj4_ (e.m.gb e.b0) (zb_ zk_ zh_)) (pgn 5) (zd_ (pst 4 (zan_ zaz_ (zan_ zaP_ (zan_ zaP_ (zan_ zh3_ (za_ 4) (za_ 4)) (zan_ zh3_ zk_ (za_ 5))) zk_) zk_)) (zg_ (pst 3 (zan_ zaP_ (za_ 3) (zbg_ ix_M (za_ 1) (zan_ zaz_ (zan_ zcm_ (za_ 4) zk_) (zdh_ zaw_ (e.m.gb e.b1) (zb_ (za_ 1) zh_))) (fun _ _=>rfl))))))) (zg_ (zG_ (zan_ zaP_ (za_ 3) (za_ 2)))))))) fun c E=>at_ [(Zf tyInt c.1),(Zf tyStr c.2.1),(Zf tyStr c.2.2),Zd,Zd,Zd]
 (zc7_ (i:=3) rfl zj_ (zah_ []) fun gW=>(at_ [(Zf tyInt c.1),(Zf tyStr c.2.1),(Zf tyStr c.2.2),(Zf tyStr gW),Zd,Zd] (zc7_ (i:=4) rfl zi_ (zE_ zbr_ (zE_ zaA_ (zc_ 0 rfl) (zq_ 2147483647)) (zq_ 3)) fun iz=>(at_ [(Zf tyInt c.1),(Zf tyStr c.2.1),(Zf tyStr c.2.2),(Zf tyStr gW),(Zf tyInt iz),Zd] (zbv_ (LS:=(fun t7:(Int×Jx)=>[(Zf tyInt c.1),(Zf tyStr c.2.1),(Zf tyStr c.2.2),(Zf tyStr t7.2),(Zf tyInt t7.1),Zd])) (zdc_ (L':=[(Zf tyInt c.1),(Zf tyStr c.2.1),(Zf tyStr c.2.2),(Zf tyStr gW),(Zf tyInt iz),Zd]) (S4 (.same (.same .nil))) (ziD_ (LS:=(fun t7:(Int×Jx)=>[(Zf tyInt c.1),(Zf tyStr c.2.1),(Zf tyStr c.2.2),(Zf tyStr t7.2),(Zf tyInt t7.1),Zd])) (s0:=(iz,gW)) (zl3_ (ze_ (zq_ 36))) (zaJ_ 5) fun t7 x9=>at_ [(Zf tyInt c.1),(Zf tyStr c.2.1),(Zf tyStr c.2.2),(Zf tyStr t7.2),(Zf tyInt t7.1),(Zf tyInt x9)] (zc7_ (i:=4) rfl zi_ (zE_ zaA_ (zE_ zbr_ (zE_ zbr_ (zE_ zfw_ (zc_ 4 rfl) (zc_ 4 rfl)) (zE_ zfw_ (zq_ 17) (zc_ 5 rfl))) (zq_ 5)) (zq_ 2147483629)) fun iO=>(at_ [(Zf tyInt c.1),(Zf tyStr c.2.1),(Zf tyStr c.2.2),(Zf tyStr t7.2),(Zf tyInt iO),(Zf tyInt x9)] (zev_ (zc7_ (i:=3) rfl zj_ (zE_ zl2_ (zc_ 3 rfl) (zE_ zph_ (zc_ 1 rfl) (zE_ zaA_ (zE_ zbh_ (zc_ 4 rfl) (zq_ 3)) (zh2_ zlH_ (ze_ (zc_ 1 rfl)))))) fun ky=>(at_ [(Zf tyInt c.1),(Zf tyStr c.2.1),(Zf tyStr c.2.2),(Zf tyStr ky),(Zf tyInt iO),(Zf tyInt x9)] (zo_ (S4 (.same (.dead .nil))))))))))) fun t7=>(at_ [(Zf tyInt c.1),(Zf tyStr c.2.1),(Zf tyStr c.2.2),(Zf tyStr t7.2),(Zf tyInt t7.1),Zd] (zaW_ (zs_ zj_) (EvF.ow (zE_ zl2_ (zc_ 3 rfl) (zc_ 2 rfl)))))))))))
theorem zii_ (e:En K mg)(g0:zew_ P w K mg base)(g1:zfP_ P w K mg base):zf5_ P w K mg base:=
 zc4_ e.m e.f2 (okC (N:=["_law_cells", "_law_way", "_law_menu", "_law_deck_here", "_law_k", "_law_cell", "_law_mark"]) (C:=(csCons (tyL tyInt) (csLast tyInt))) (O:=(owL tyStr)) (t:=fun E=>zjd_ K) (g:=fun c=>zd1_ c.1 c.2) 2 5 (zp_ zn_) (fun _ _ _ _ _ _ E nd hr=>(zd_ (pst 2 (zbg_ ix_M (zcE_ (zb_ (zaq_ (l:=[65,32])) (zb_ (zaq_ (l:=[48,90,57])) (zb_ (zaq_ (l:=[66,53,65,32,48])) (zb_ (zlt_ g0 (hm hr)) zh_))))) (zan_ zaz_ (za_ 1) zk_) (fun _ _=>rfl))) (zd_ (pst 3 (zcE_ zh_)) (zd_ (zd7_ PassesOwn.never rfl (zlM_ (e.m.gb e.b2) (zb_ (za_ 0) zh_)) (zjo_ (n:=2) rfl (zbd_ (pgn 4) (zbd_ (pgn 5) zfu_))) (zd_ (pst 6 (pe_sm zhc_ zgZ_ zmG_ (zoj_ "str" zlw_ (e.m.gb e.b3) (zb_ (zan_ zaz_ (zan_ zh3_ (za_ 4) zk_) zk_) zh_)) (zb_ zk_ zh_))) (zd_ (zab_ (zS_ (zcc_ hr.u60) (zan_ zaz_ (zan_ zcm_ (za_ 1) zk_) zk_) zk_) (zg_ (pst 6 (zaq_ (l:=[77,65,82,75])))) zN_) (zg_ (zaZ_ (zlX_ zdB_ zap_ zat_ zca_ (za_ 3) (zb_ (zm_ g1 (hm hr) (zb_ (za_ 5) (zb_ (za_ 2) (zb_ (za_ 6) zh_)))) zh_))))))) (zg_ (zG_ (za_ 3))))))) fun c E=>at_ [(Zf (tyL tyInt) c.1),(Zf tyInt c.2),Zd,Zd,Zd,Zd,Zd]
 (zc7_ (i:=2) rfl zj_ (zE_ zc3_ (EvO.fr (O:=(owL tyStr)) (znG_ (zv_ (zv_ (zv_ zC_))) (zdV_ (zdV_ (zdV_ zgH_))) (zf_ (zah_ [65,32]) (zf_ (zah_ [48,90,57]) (zf_ (zah_ [66,53,65,32,48]) (ze_ (zl_ zqa_))))))) (zE_ zaA_ (zc_ 1 rfl) (zq_ 4))) fun dE=>(at_ [(Zf (tyL tyInt) c.1),(Zf tyInt c.2),(Zf tyStr dE),Zd,Zd,Zd,Zd] (zb1_ (i:=3) rfl (zH_ zj_) (zce_ tyStr) fun jv=>(at_ [(Zf (tyL tyInt) c.1),(Zf tyInt c.2),(Zf tyStr dE),(Zo (owL tyStr) jv),Zd,Zd,Zd] (zbv_ (LS:=(fun cR:Jy=>[(Zf (tyL tyInt) c.1),(Zf tyInt c.2),(Zf tyStr dE),(Zo (owL tyStr) cR),Zd,Zd,Zd])) (zdc_ (L':=[(Zf (tyL tyInt) c.1),(Zf tyInt c.2),(Zf tyStr dE),(Zo (owL tyStr) jv),Zd,Zd,Zd]) (S4 (.same (.same (.same .nil)))) (ziD_ (LS:=(fun cR:Jy=>[(Zf (tyL tyInt) c.1),(Zf tyInt c.2),(Zf tyStr dE),(Zo (owL tyStr) cR),Zd,Zd,Zd])) (s0:=jv) (zlR_ (ze_ (zc_ 0 rfl))) (zkD_ (zv_ zC_) (zia_ 4 (zh1_ (zaJ_ 5)))) fun cR du=>at_ [(Zf (tyL tyInt) c.1),(Zf tyInt c.2),(Zf tyStr dE),(Zo (owL tyStr) cR),(Zf tyInt du.1),(Zf tyInt du.2),Zd] (zc7_ (i:=6) rfl zj_ (ev_me zmI_ (zh2_ zrl_ (ze_ (zE_ zaA_ (zE_ zfw_ (zc_ 4 rfl) (zq_ 271)) (zq_ 10000)))) (ze_ (zq_ 4))) fun kz=>(at_ [(Zf (tyL tyInt) c.1),(Zf tyInt c.2),(Zf tyStr dE),(Zo (owL tyStr) cR),(Zf tyInt du.1),(Zf tyInt du.2),(Zf tyStr kz)] (zbv_ (LS:=(fun gY:Jx=>[(Zf (tyL tyInt) c.1),(Zf tyInt c.2),(Zf tyStr dE),(Zo (owL tyStr) cR),(Zf tyInt du.1),(Zf tyInt du.2),(Zf tyStr gY)])) (s_if (zK_ (zE_ zjC_ (zE_ zaA_ (zE_ zbh_ (zc_ 1 rfl) (zq_ 4)) (zq_ 4)) (zq_ 1))) (zev_ (zc7_ (i:=6) rfl zj_ (zah_ [77,65,82,75]) fun kT=>(at_ [(Zf (tyL tyInt) c.1),(Zf tyInt c.2),(Zf tyStr dE),(Zo (owL tyStr) cR),(Zf tyInt du.1),(Zf tyInt du.2),(Zf tyStr kT)] (zo_ (S4 (.same (.same (.same .nil)))))))) (zo_ (S4 (.same (.same (.same .nil)))))) fun gY=>(at_ [(Zf (tyL tyInt) c.1),(Zf tyInt c.2),(Zf tyStr dE),(Zo (owL tyStr) cR),(Zf tyInt du.1),(Zf tyInt du.2),(Zf tyStr gY)] (zev_ (ziO_ (i:=3) rfl zj_ (zl_ (zf_ (zc_ 5 rfl) (zf_ (zc_ 2 rfl) (ze_ (zc_ 6 rfl))))) fun jF=>(at_ [(Zf (tyL tyInt) c.1),(Zf tyInt c.2),(Zf tyStr dE),(Zo (owL tyStr) (cR++[jF])),(Zf tyInt du.1),(Zf tyInt du.2),(Zf tyStr gY)] (zo_ (S4 (.dead (.dead (.dead .nil)))))))))))))) fun cR=>(at_ [(Zf (tyL tyInt) c.1),(Zf tyInt c.2),(Zf tyStr dE),(Zo (owL tyStr) cR),Zd,Zd,Zd] (ziU_ (i:=3) rfl))))))))
theorem ze8_ (e:En K mg):zds_ P w K mg base:=
 zc4_ e.m e.f3 (okC (N:=["_law_script", "_law_k"]) (C:=(csCons (tySc K) (csLast tyInt))) (O:=(owF tyInt)) (t:=fun E=>zgk_ K) (g:=fun c=>zbV_ c.1 c.2) 2 0 (zp_ zn_) (fun _ _ _ _ _ _ E nd hr=>(zd_ (zab_ (zS_ (zjZ_ hr.u60) (za_ 1) (zdh_ zaw_ (e.m.gb e.b1) (zb_ (za_ 0) zh_))) (zg_ (zG_ (zbg_ ix_M (za_ 0) (za_ 1) (fun _ _=>rfl)))) zN_) (zg_ (zG_ zk_)))) fun c E=>at_ [(Zf (tySc K) c.1),(Zf tyInt c.2)]
 (zbv_ (LS:=(fun _:Unit=>[(Zf (tySc K) c.1),(Zf tyInt c.2)])) (s_if (zK_ (zE_ zqd_ (zc_ 1 rfl) (zh2_ zm0_ (ze_ (zc_ 0 rfl))))) (zaW_ (zs_ zi_) (EvF.ow (zE_ zpd_ (zc_ 0 rfl) (zc_ 1 rfl)))) (zo_ (.same (.same .nil)))) fun _=>(at_ [(Zf (tySc K) c.1),(Zf tyInt c.2)] (zaW_ (zs_ zi_) (EvF.ow (zq_ 0))))))
theorem zfH_ (e:En K mg):zdY_ P w K mg base:=
 zc4_ e.m e.f4 (okC (N:=["_law_cell", "_law_number", "_law_width", "_law_first", "_law_other"]) (C:=(csLast tyInt)) (O:=(owF Qq5)) (t:=fun E=>zgE_ K) (g:=fun c=>zcr_ c) 1 4 zn_ (fun _ _ _ _ _ _ E nd hr=>(zd_ (pst 1 (zan_ zaz_ (zan_ zh3_ (zan_ zaP_ (zan_ zaz_ (za_ 0) zk_) zk_) zk_) zk_)) (zd_ (pst 2 (zan_ zaP_ zk_ (zan_ zaz_ (za_ 1) zk_))) (zd_ (zab_ (zS_ (zcc_ hr.u60) (zan_ zaz_ (zan_ zcm_ (za_ 1) zk_) zk_) zk_) (zg_ (pst 2 zk_)) zN_) (zd_ (pst 3 (zan_ zaP_ zk_ (zan_ zaz_ (zan_ zcm_ (za_ 1) zk_) (zan_ zbJ_ zk_ (za_ 2))))) (zd_ (pst 4 (zan_ zaP_ zk_ (zan_ zaz_ (zan_ zcm_ (za_ 1) zk_) (zan_ zbJ_ zk_ (za_ 2))))) (zd_ (zab_ (zS_ (zcc_ hr.u60) (zan_ zaz_ (zan_ zcm_ (za_ 1) zk_) zk_) zk_) (zg_ (pst 4 (za_ 3))) zN_) (zg_ (zG_ (zgW_ (zb_ (zgW_ (zb_ (za_ 3) (zb_ (zan_ zbJ_ (zan_ zaP_ (za_ 3) (za_ 2)) zk_) zh_))) (zb_ (zgW_ (zb_ (za_ 4) (zb_ (zan_ zbJ_ (zan_ zaP_ (za_ 4) (za_ 2)) zk_) zh_))) zh_)))))))))))) fun c E=>at_ [(Zf tyInt c),Zd,Zd,Zd,Zd]
 (zc7_ (i:=1) rfl zi_ (zE_ zaA_ (zE_ zfw_ (zE_ zbr_ (zE_ zaA_ (zc_ 0 rfl) (zq_ 2147483647)) (zq_ 5)) (zq_ 48271)) (zq_ 2147483647)) fun df=>(at_ [(Zf tyInt c),(Zf tyInt df),Zd,Zd,Zd] (zc7_ (i:=2) rfl zi_ (zE_ zbr_ (zq_ 1) (zE_ zaA_ (zc_ 1 rfl) (zq_ 3))) fun ku=>(at_ [(Zf tyInt c),(Zf tyInt df),(Zf tyInt ku),Zd,Zd] (zbv_ (LS:=(fun dO:Int=>[(Zf tyInt c),(Zf tyInt df),(Zf tyInt dO),Zd,Zd])) (s_if (zK_ (zE_ zjC_ (zE_ zaA_ (zE_ zbh_ (zc_ 1 rfl) (zq_ 3)) (zq_ 9)) (zq_ 0))) (zev_ (zc7_ (i:=2) rfl zi_ (zq_ 12) fun kr=>(at_ [(Zf tyInt c),(Zf tyInt df),(Zf tyInt kr),Zd,Zd] (zo_ (S4 (.same .nil)))))) (zo_ (S4 (.same .nil)))) fun dO=>(at_ [(Zf tyInt c),(Zf tyInt df),(Zf tyInt dO),Zd,Zd] (zc7_ (i:=3) rfl zi_ (zE_ zbr_ (zq_ 1) (zE_ zaA_ (zE_ zbh_ (zc_ 1 rfl) (zq_ 27)) (zE_ zbI_ (zq_ 37) (zc_ 2 rfl)))) fun fm=>(at_ [(Zf tyInt c),(Zf tyInt df),(Zf tyInt dO),(Zf tyInt fm),Zd] (zc7_ (i:=4) rfl zi_ (zE_ zbr_ (zq_ 1) (zE_ zaA_ (zE_ zbh_ (zc_ 1 rfl) (zq_ 1000)) (zE_ zbI_ (zq_ 37) (zc_ 2 rfl)))) fun kN=>(at_ [(Zf tyInt c),(Zf tyInt df),(Zf tyInt dO),(Zf tyInt fm),(Zf tyInt kN)] (zbv_ (LS:=(fun gX:Int=>[(Zf tyInt c),(Zf tyInt df),(Zf tyInt dO),(Zf tyInt fm),(Zf tyInt gX)])) (s_if (zK_ (zE_ zjC_ (zE_ zaA_ (zE_ zbh_ (zc_ 1 rfl) (zq_ 37000)) (zq_ 5)) (zq_ 0))) (zev_ (zc7_ (i:=4) rfl zi_ (zc_ 3 rfl) fun kM=>(at_ [(Zf tyInt c),(Zf tyInt df),(Zf tyInt dO),(Zf tyInt fm),(Zf tyInt kM)] (zo_ (S4 (.same .nil)))))) (zo_ (S4 (.same .nil)))) fun gX=>(at_ [(Zf tyInt c),(Zf tyInt df),(Zf tyInt dO),(Zf tyInt fm),(Zf tyInt gX)] (zaW_ (zs_ (zao_ (zF_ (zao_ (zF_ zi_ (zB_ zi_))) (zB_ (zao_ (zF_ zi_ (zB_ zi_))))))) (EvF.ow (zgR_ (zv_ zC_) (zf_ (zgR_ (zv_ zC_) (zf_ (zc_ 3 rfl) (ze_ (zE_ zbI_ (zE_ zbr_ (zc_ 3 rfl) (zc_ 2 rfl)) (zq_ 1))))) (ze_ (zgR_ (zv_ zC_) (zf_ (zc_ 4 rfl) (ze_ (zE_ zbI_ (zE_ zbr_ (zc_ 4 rfl) (zc_ 2 rfl)) (zq_ 1)))))))))))))))))))))))
theorem zie_ (e:En K mg):zbX_ P w K mg base:=
 zc4_ e.m e.f5 (okC (N:=["_law_card_here", "_law_field"]) (C:=(csCons tyStr (csLast Qq1))) (O:=(owF tyStr)) (t:=fun E=>zjT_ K) (g:=fun c=>zdN_ c.1 c.2) 2 0 (zp_ zn_) (fun _ _ _ _ _ _ E nd hr=>(zg_ (zG_ (zbx_ sl_M (za_ 0) (po_M (zan_ zbJ_ (zbg_ ix_M (za_ 1) zk_ (fun _ _=>rfl)) zk_)) (po_M (zbg_ ix_M (za_ 1) zk_ (fun _ _=>rfl))))))) fun c E=>at_ [(Zf tyStr c.1),(Zf Qq1 c.2)]
 (zaW_ (zs_ zj_) (EvF.ow (zoy_ (zc_ 0 rfl) (ziE_ (zE_ zbI_ (zaM_ (i:=0) at_0 (zc_ 1 rfl)) (zq_ 1))) (ziE_ (zaM_ (i:=1) (at_s zcd_) (zc_ 1 rfl)))))))
theorem ziR_ (e:En K mg)(g5:zbX_ P w K mg base):zhZ_ P w K mg base:=
 zc4_ e.m e.f6 (okC (N:=["_law_deck_here", "_law_field", "_law_k"]) (C:=(csCons (tyL tyStr) (csLast Qq1))) (O:=(owF (tyOpt tyInt))) (t:=fun E=>zkK_ K) (g:=fun c=>zeZ_ c.1 c.2) 2 1 (zp_ zn_) (fun _ _ _ _ _ _ E nd hr=>(zd_ (zd7_ PassesOwn.never rfl (zjF_ (e.m.gb e.b0) (zb_ zk_ (zb_ (zdh_ zaw_ (e.m.gb e.b1) (zb_ (za_ 0) zh_)) zh_))) (pgn 2) (zg_ (zab_ (zS_ (zjZ_ hr.u60) (zm_ g5 (hm hr) (zb_ (zbg_ ix_M (za_ 0) (za_ 2) (fun _ _=>rfl)) (zb_ (za_ 1) zh_))) (zm_ g5 (hm hr) (zb_ (zbg_ ix_M (za_ 0) (zan_ zbJ_ (za_ 2) zk_) (fun _ _=>rfl)) (zb_ (za_ 1) zh_)))) (zg_ (zG_ (za_ 2))) zN_))) (zg_ (zG_ zfr_)))) fun c E=>at_ [(Zf (tyL tyStr) c.1),(Zf Qq1 c.2),Zd]
 (zbv_ (LS:=(fun _:Unit=>[(Zf (tyL tyStr) c.1),(Zf Qq1 c.2),Zd])) (zdc_ (L':=[(Zf (tyL tyStr) c.1),(Zf Qq1 c.2),Zd]) (.same (.same (.same .nil))) (ziD_ (LS:=(fun _:Unit=>[(Zf (tyL tyStr) c.1),(Zf Qq1 c.2),Zd])) (s0:=()) (zlE_ (zf_ (zq_ 1) (ze_ (zh2_ zdz_ (ze_ (zc_ 0 rfl)))))) (zaJ_ 2) fun _ bT=>at_ [(Zf (tyL tyStr) c.1),(Zf Qq1 c.2),(Zf tyInt bT)] (s_if (zK_ (zE_ zks_ (zl_ (zf_ (zE_ zc3_ (zc_ 0 rfl) (zc_ 2 rfl)) (ze_ (zc_ 1 rfl)))) (zl_ (zf_ (zE_ zc3_ (zc_ 0 rfl) (zE_ zbI_ (zc_ 2 rfl) (zq_ 1))) (ze_ (zc_ 1 rfl)))))) (zaW_ (zs_ (zak_ zi_)) (EvF.ow (ziG_ (fun _ _ _=>zoQ_) (zc_ 2 rfl)))) (zo_ (.same (.same (.dead .nil))))))) fun _=>(at_ [(Zf (tyL tyStr) c.1),(Zf Qq1 c.2),Zd] (zaW_ (zs_ (zak_ zi_)) (EvF.ow zj6_)))))
theorem za2_ (e:En K mg):z8_ P w K mg base:=
 gs_of e.m e.f7 (okU (N:=["self"]) (O:=(owI (gA K "Mater") [] psNil)) (O2:=(Qq7 K)) (C:=csNil) (t:=fun E=>za7_ K) (g:=fun x c=>zQ_ x) (LS:=fun w_=>(fun x':Qq9=>[(Zo (owAt w_ (Qq7 K)) x')])) 0 0 zmk_ (fun _ _ _ _ _ _ E nd hr=>(zd_ (zdv_ e.w0.cls e.a0.no (za_ 0) (zcE_ zh_)) (zg_ (zdv_ e.w0.cls e.a1.no (za_ 0) (zcE_ zh_))))) fun w_ x c E=>at_ [(Zo (owAt w_ (owI (gA K "Mater") [] psNil)) x)]
 (zj5_ (P:=psNil) (P':=(psO (owLO (owL tyStr)) psNil)) (ad:=fun c z=>(z,())) (ns:=[]) (O1:=(owLO (owL tyStr))) (i:=0) rfl (by decide +kernel) (by decide) zin_ (zaQ_ (zH_ zj_)) (zot_ zpw_) fun cI=>(at_ [(Zo (owAt w_ (owI (gA K "Mater") ["pockets"] (psO (owLO (owL tyStr)) psNil))) cI)] (zev_ (zj5_ (P:=(psO (owLO (owL tyStr)) psNil)) (P':=(psO (owLO (owL tyStr)) (psO (owL tyInt) psNil))) (ad:=fun c z=>(c.1,(z,()))) (ns:=["pockets"]) (O1:=(owL tyInt)) (i:=0) rfl (by decide +kernel) (by decide) (zco_ zin_) (zH_ zi_) (zce_ tyInt) fun kg=>(at_ [(Zo (owAt w_ (Qq7 K)) kg)] (zo_ (.same .nil))))))))
theorem zcb_ (e:En K mg):za3_ P w K mg base:=
 zkz_ e.w0 e.f8 (okU (N:=["self", "many"]) (O:=(Qq7 K)) (O2:=(Qq7 K)) (C:=(csLast tyInt)) (t:=fun E=>zcq_ K) (g:=fun x c=>zag_ x c) (LS:=fun w_=>(fun x':Qq9=>[(Zo (owAt w_ (Qq7 K)) x'),Zd])) 1 0 zn_ (fun _ _ _ _ _ _ E nd hr=>(zg_ (zdv_ e.w0.cls e.a0.no (za_ 0) (zmi_ (cl:=[]) (lv:=["number"]) (fr:=[]) rfl (csm rfl fr0) (zj4_ (e.m.gb e.b0) (zb_ (za_ 1) zh_)) (fun _ _ _ _=>(pgc 0)) (fun _ _ _ _=>zj0_) (fun _ _ _ _=>(zcE_ zh_)))))) fun w_ x c E=>at_ [(Zo (owAt w_ (Qq7 K)) x),(Zf tyInt c)]
 (zev_ (zp5_ (O1:=(owLO (owL tyStr))) (i:=0) (n:=0) (by decide +kernel) rfl (by decide) zoH_ (zaQ_ (zH_ zj_)) (zkj_ (zl3_ (ze_ (zc_ 1 rfl))) (zaJ_ 0) (fun _=>dead1) (fun ny=>zjU_) (fun ny=>(zce_ tyStr))) (zfT_ (zdw_ rfl)) fun cI=>(at_ [(Zo (owAt w_ (Qq7 K)) cI),(Zf tyInt c)] (zo_ (.same (.dead .nil)))))))
theorem zam_ (e:En K mg)(g7:z8_ P w K mg base)(g8:za3_ P w K mg base):zR_ P w K mg base:=
 gs_of e.m e.f9 (okU (N:=["self", "field"]) (O:=(owI (gA K "Mater") [] psNil)) (O2:=(Qq8 K)) (C:=(csLast Qq1)) (t:=fun E=>zar_ K) (g:=fun x c=>zy_ x c) (LS:=fun w_=>(fun x':((List Jy)×((List Int)×((Int×Int)×((Option Jx)×Unit))))=>[(Zo (owAt w_ (Qq8 K)) x'),Zd])) 1 0 zn_ (fun _ _ _ _ _ _ E nd hr=>(zd_ (zaZ_ (zmv_ g7 (hm hr) (zb_ (za_ 0) zh_))) (zd_ (zaZ_ (zgK_ g8 (hm hr) (za_ 0) (zb_ zk_ zh_))) (zd_ (zdv_ e.w0.cls e.a2.no (za_ 0) (za_ 1)) (zg_ (zdv_ e.w0.cls e.a3.no (za_ 0) zfr_)))))) fun w_ x c E=>at_ [(Zo (owAt w_ (owI (gA K "Mater") [] psNil)) x),(Zf Qq1 c)]
 (zmz_ (zhW_ (i:=0) rfl (zc0_ (zt_ (zaQ_ (zH_ zj_)) (zt_ (zH_ zi_) zax_))) (zs_ zgm_) zqa_) fun kJ=>(at_ [(Zo (owAt w_ (Qq7 K)) kJ.2),(Zf Qq1 c)] (zhb_ (i:=0) (m:="make_pockets") (ns:=["pockets", "log"]) (by decide +kernel) (zc0_ (zt_ (zaQ_ (zH_ zj_)) (zt_ (zH_ zi_) zax_))) (zfT_ (zdw_ rfl)) (zB_ zi_) (ze_ (zq_ 2)) fun fQ=>(at_ [(Zo (owAt w_ (Qq7 K)) fQ),(Zf Qq1 c)] (zkg_ (P:=(psO (owLO (owL tyStr)) (psO (owL tyInt) psNil))) (P':=(psO (owLO (owL tyStr)) (psO (owL tyInt) (psO (owF Qq1) psNil)))) (ad:=fun c z=>(c.1,(c.2.1,(z,())))) (ns:=["pockets", "log"]) (i:=0) rfl (by decide +kernel) (by decide) (zco_ (zco_ zin_)) (zao_ (zF_ zi_ (zB_ zi_))) (zc_ 1 rfl) fun x9=>(at_ [(Zo (owAt w_ (owI (gA K "Mater") ["pockets", "log", "field"] (psO (owLO (owL tyStr)) (psO (owL tyInt) (psO (owF Qq1) psNil))))) x9),(Zf Qq1 c)] (zev_ (zkg_ (P:=(psO (owLO (owL tyStr)) (psO (owL tyInt) (psO (owF Qq1) psNil)))) (P':=(psO (owLO (owL tyStr)) (psO (owL tyInt) (psO (owF Qq1) (psO (owF (tyOpt tyStr)) psNil))))) (ad:=fun c z=>(c.1,(c.2.1,(c.2.2.1,(z,()))))) (ns:=["pockets", "log", "field"]) (i:=0) rfl (by decide +kernel) (by decide) (zco_ (zco_ (zco_ zin_))) (zak_ zj_) zj6_ fun d0=>(at_ [(Zo (owAt w_ (Qq8 K)) d0),(Zf Qq1 c)] (zo_ (.same (.dead .nil)))))))))))))
theorem zj3_ (e:En K mg):zhr_ P w K mg base:=
 zc4_ e.m e.f10 (okC (N:=["text"]) (C:=(csLast tyStr)) (O:=(owF tyBl)) (t:=fun E=>zlg_ K) (g:=fun c=>zeW_ c) 1 0 zn_ (fun _ _ _ _ _ _ E nd hr=>(zg_ (zG_ (zj9_ (zcI_ (zcc_ hr.u60) (zdh_ zaw_ (e.m.gb e.b1) (zb_ (za_ 0) zh_)) zk_) (zkY_ (zcI_ zqK_ (za_ 0) (ziF_ (e.m.gv e.c0)))))))) fun c E=>at_ [(Zf tyStr c)]
 (zaW_ (zs_ zz_) (EvF.ow (zmF_ (zE_ zjC_ (zh2_ zlH_ (ze_ (zc_ 0 rfl))) (zq_ 1)) (zE_ zqP_ (zc_ 0 rfl) (zah_ SG))))))
theorem zkf_ (e:En K mg)(my:zhr_ P w K mg base):zhL_ P w K mg base:=
 zc4_ e.m e.f11 (okC (N:=["sign"]) (C:=(csLast tyStr)) (O:=(owF tyInt)) (t:=fun E=>zkU_ K) (g:=fun c=>zfm_ c) 1 0 zn_ (fun _ _ _ _ _ _ E nd hr=>(zd_ (zab_ (zcZ_ (zaa_ (zm_ my (hm hr) (zb_ (za_ 0) zh_)))) (zg_ zdl_) zN_) (zg_ (zG_ (pe_sm zgJ_ zgF_ zmQ_ (ziF_ (e.m.gv e.c0)) (zb_ (za_ 0) zh_)))))) fun c E=>at_ [(Zf tyStr c)]
 (zbv_ (LS:=(fun _:Unit=>[(Zf tyStr c)])) (s_if (zcL_ (zK_ (zl_ (ze_ (zc_ 0 rfl))))) zeE_ (zo_ (.same .nil))) fun _=>(at_ [(Zf tyStr c)] (zaW_ (zs_ zi_) (EvF.ow (ev_me znn_ (zah_ SG) (ze_ (zc_ 0 rfl))))))))
theorem zjk_ (e:En K mg):zh9_ P w K mg base:=
 zc4_ e.m e.f12 (okC (N:=["card", "column"]) (C:=(csCons tyStr (csLast tyInt))) (O:=(owF tyStr)) (t:=fun E=>zlD_ K) (g:=fun c=>zdK_ c.1 c.2) 2 0 (zp_ zn_) (fun _ _ _ _ _ _ E nd hr=>(zg_ (zG_ (zbg_ ix_M (za_ 0) (zan_ zbJ_ (za_ 1) zk_) (fun _ _=>rfl))))) fun c E=>at_ [(Zf tyStr c.1),(Zf tyInt c.2)]
 (zaW_ (zs_ zj_) (EvF.ow (zE_ zph_ (zc_ 0 rfl) (zE_ zbI_ (zc_ 1 rfl) (zq_ 1))))))
theorem zij_ (e:En K mg)(mx:zhL_ P w K mg base)(mw:zh9_ P w K mg base):zgf_ P w K mg base:=
 zc4_ e.m e.f13 (okC (N:=["card", "columns"]) (C:=(csCons tyStr (csLast (tyL tyInt)))) (O:=(owL tyInt)) (t:=fun E=>zi3_ K) (g:=fun c=>zdT_ c.1 c.2) 2 0 (zp_ zn_) (fun _ _ _ _ _ _ E nd hr=>(zg_ (zG_ (zmi_ (cl:=_) (lv:=["column"]) (fr:=[("card",0)]) rfl (csm rfl (frc fr0)) (ze9_ (za_ 1)) (fun _ _ _ _=>(pgc 0)) (fun _ _ _ _=>zj0_) (fun _ _ _ _=>(zm_ mx (hm hr) (zb_ (zm_ mw (hm hr) (zb_ (za_ 1) (zb_ (za_ 0) zh_))) zh_))))))) fun c E=>at_ [(Zf tyStr c.1),(Zf (tyL tyInt) c.2)]
 (zaW_ (zH_ zi_) (ze1_ (ei_l (zc_ 1 rfl)) (zaJ_ 0) (fun _=>dead1) (fun ki=>zjU_) (fun ki=>(zl_ (ze_ (zl_ (zf_ (zc_ 1 rfl) (ze_ (zc_ 0 rfl))))))))))
theorem zeR_ (e:En K mg)(j4:zgf_ P w K mg base):zbT_ P w K mg base:=
 zc4_ e.m e.f14 (okC (N:=["card", "other", "columns"]) (C:=(csCons tyStr (csCons tyStr (csLast (tyL tyInt))))) (O:=(owF tyBl)) (t:=fun E=>zf0_ K) (g:=fun c=>zb6_ c.1 c.2.1 c.2.2) 3 0 (zp_ (zp_ zn_)) (fun _ _ _ _ _ _ E nd hr=>(zg_ (zG_ (zcI_ (zjZ_ hr.u60) (zm_ j4 (hm hr) (zb_ (za_ 0) (zb_ (za_ 2) zh_))) (zm_ j4 (hm hr) (zb_ (za_ 1) (zb_ (za_ 2) zh_))))))) fun c E=>at_ [(Zf tyStr c.1),(Zf tyStr c.2.1),(Zf (tyL tyInt) c.2.2)]
 (zaW_ (zs_ zz_) (EvF.ow (zE_ zpK_ (EvO.fr (O:=(owL tyInt)) (zaK_ (zf_ (zc_ 0 rfl) (ze_ (zc_ 2 rfl))))) (EvO.fr (O:=(owL tyInt)) (zaK_ (zf_ (zc_ 1 rfl) (ze_ (zc_ 2 rfl)))))))))
theorem zkB_ (e:En K mg)(ib:zbT_ P w K mg base):zkq_ P w K mg base:=
 zc4_ e.m e.f15 (okC (N:=["deck", "columns", "place"]) (C:=(csCons (tyL tyStr) (csLast (tyL tyInt)))) (O:=(owF (tyOpt tyInt))) (t:=fun E=>zmJ_ K) (g:=fun c=>zg1_ c.1 c.2) 2 1 (zp_ zn_) (fun _ _ _ _ _ _ E nd hr=>(zd_ (zd7_ PassesOwn.never rfl (zjF_ (e.m.gb e.b0) (zb_ zk_ (zb_ (zdh_ zaw_ (e.m.gb e.b1) (zb_ (za_ 0) zh_)) zh_))) (pgn 2) (zg_ (zab_ (zaa_ (zm_ ib (hm hr) (zb_ (zbg_ ix_M (za_ 0) (za_ 2) (fun _ _=>rfl)) (zb_ (zbg_ ix_M (za_ 0) (zan_ zbJ_ (za_ 2) zk_) (fun _ _=>rfl)) (zb_ (za_ 1) zh_))))) (zg_ (zG_ (za_ 2))) zN_))) (zg_ (zG_ zfr_)))) fun c E=>at_ [(Zf (tyL tyStr) c.1),(Zf (tyL tyInt) c.2),Zd]
 (zbv_ (LS:=(fun _:Unit=>[(Zf (tyL tyStr) c.1),(Zf (tyL tyInt) c.2),Zd])) (zdc_ (L':=[(Zf (tyL tyStr) c.1),(Zf (tyL tyInt) c.2),Zd]) (.same (.same (.same .nil))) (ziD_ (LS:=(fun _:Unit=>[(Zf (tyL tyStr) c.1),(Zf (tyL tyInt) c.2),Zd])) (s0:=()) (zlE_ (zf_ (zq_ 1) (ze_ (zh2_ zdz_ (ze_ (zc_ 0 rfl)))))) (zaJ_ 2) fun _ bT=>at_ [(Zf (tyL tyStr) c.1),(Zf (tyL tyInt) c.2),(Zf tyInt bT)] (s_if (zK_ (zl_ (zf_ (zE_ zc3_ (zc_ 0 rfl) (zc_ 2 rfl)) (zf_ (zE_ zc3_ (zc_ 0 rfl) (zE_ zbI_ (zc_ 2 rfl) (zq_ 1))) (ze_ (zc_ 1 rfl)))))) (zaW_ (zs_ (zak_ zi_)) (EvF.ow (ziG_ (fun _ _ _=>zoQ_) (zc_ 2 rfl)))) (zo_ (.same (.same (.dead .nil))))))) fun _=>(at_ [(Zf (tyL tyStr) c.1),(Zf (tyL tyInt) c.2),Zd] (zaW_ (zs_ (zak_ zi_)) (EvF.ow zj6_)))))
theorem zcR_ (e:En K mg):zaE_ P w K mg base:=
 gx_of e.m e.f16 e.fx.exj_NoOrder (okXI (N:=["self", "deck", "place"]) (fun _ _ _ _ _ _ E nd hr=>(zd_ (znf_ e.fx.exj_NoOrder e.fx.bin_ShopError (e.m.gk e.k0) (zb_ (za_ 0) (zb_ (zhY_ (zeK_ (zaq_ (l:=[100,101,99,107,32])) (zeK_ (zm2_ (za_ 1)) (zeK_ (zaq_ (l:=[32,105,115,32,111,117,116,32,111,102,32,111,114,100,101,114,32,97,116,32,112,108,97,99,101,32])) (zeK_ (zm2_ (za_ 2)) zpY_))))) zh_))) (zd_ (zmo_ e.fx.exj_NoOrder e.fx.exa_NoOrder_deck (za_ 0) (za_ 1)) (zg_ (zmo_ e.fx.exj_NoOrder e.fx.exa_NoOrder_place (za_ 0) (za_ 2)))))) fun c E=>atF [Zd,(Zf tyInt c.1),(Zf tyInt c.2)]
 (zhT_ (zeB_ (zah_ [100,101,99,107,32]) (zeB_ (zl5_ (zc_ 1 rfl)) (zeB_ (zah_ [32,105,115,32,111,117,116,32,111,102,32,111,114,100,101,114,32,97,116,32,112,108,97,99,101,32]) (zeB_ (zl5_ (zc_ 2 rfl)) zoX_))))))
theorem zfI_ (e:En K mg):zcy_ P w K mg base:=
 zc4_ e.m e.f17 (okC (N:=["field"]) (C:=(csLast Qq1)) (O:=(owL tyInt)) (t:=fun E=>zhd_ K) (g:=fun c=>zcz_ c) 1 0 zn_ (fun _ _ _ _ _ _ E nd hr=>(zg_ (zG_ (zoj_ "list" (zcJ_ rfl) (e.m.gb e.b4) (zb_ (zoj_ "range" zip_ (e.m.gb e.b0) (zb_ (zbg_ ix_M (za_ 0) zk_ (fun _ _=>rfl)) (zb_ (zan_ zaP_ (zbg_ ix_M (za_ 0) zk_ (fun _ _=>rfl)) zk_) zh_))) zh_))))) fun c E=>at_ [(Zf Qq1 c)]
 (zaW_ (zH_ zi_) (zlh_ zkb_ (ze_ (zh2_ zlv_ (zf_ (zaM_ (i:=0) at_0 (zc_ 0 rfl)) (ze_ (zE_ zbr_ (zaM_ (i:=1) (at_s zcd_) (zc_ 0 rfl)) (zq_ 1)))))))))
theorem ze6_ (e:En K mg)(mv:zkq_ P w K mg base)(h_:zcy_ P w K mg base)(ia:zaE_ P w K mg base):zdn_ P w K mg base:=
 zc4_ e.m e.f18 (okXU (N:=["deck", "field", "number", "place"]) (C:=(csCons (tyL tyStr) (csCons Qq1 (csLast tyInt)))) (LS:=fun _:Unit=>[Zd,Zd,Zd,Zd]) (t:=fun E=>zfM_ K E) (g:=fun c=>zbU_ c.1 c.2.1 c.2.2) 3 1 (zp_ (zp_ zn_)) (fun _ _ _ _ _ _ E nd hr=>(zd_ (pst 3 (zm_ mv (hm hr) (zb_ (za_ 0) (zb_ (zm_ h_ (hm hr) (zb_ (za_ 1) zh_)) zh_)))) (zg_ (zab_ (zS_ zc1_ (za_ 3) zfr_) (zg_ (zhC_ zg5_ rfl ia (hm hr) (zb_ (za_ 2) (zb_ (za_ 3) zh_)))) zN_)))) fun c E=>at_ [(Zf (tyL tyStr) c.1),(Zf Qq1 c.2.1),(Zf tyInt c.2.2),Zd]
 (zc7_ (i:=3) rfl (zak_ zi_) (zl_ (zf_ (zc_ 0 rfl) (ze_ (EvO.fr (zaK_ (ze_ (zc_ 1 rfl))))))) fun jO=>(at_ [(Zf (tyL tyStr) c.1),(Zf Qq1 c.2.1),(Zf tyInt c.2.2),(Zf (tyOpt tyInt) jO)] (s_if (zK_ (zE_ zg2_ (zc_ 3 rfl) zg4_)) (zkw_ (as:=fun c:(Int×Int)=>[("deck",Av.i c.1),("place",Av.i c.2)]) (zv_ zC_) zo5_ (zf_ (zc_ 2 rfl) (ze_ (zgX_ (zc_ 3 rfl))))) (zo_ (.dead (.dead (.dead (.dead .nil)))))))))
theorem ziZ_ (e:En K mg):zfA_ P w K mg base:=
 zc4_ e.m e.f19 (okC (N:=["card", "field"]) (C:=(csCons tyStr (csLast Qq1))) (O:=(owF tyStr)) (t:=fun E=>zlA_ K) (g:=fun c=>zfn_ c.1 c.2) 2 0 (zp_ zn_) (fun _ _ _ _ _ _ E nd hr=>(zg_ (zG_ (zbx_ sl_M (za_ 0) (po_M (zan_ zbJ_ (zbg_ ix_M (za_ 1) zk_ (fun _ _=>rfl)) zk_)) (po_M (zbg_ ix_M (za_ 1) zk_ (fun _ _=>rfl))))))) fun c E=>at_ [(Zf tyStr c.1),(Zf Qq1 c.2)]
 (zaW_ (zs_ zj_) (EvF.ow (zoy_ (zc_ 0 rfl) (ziE_ (zE_ zbI_ (zaM_ (i:=0) at_0 (zc_ 1 rfl)) (zq_ 1))) (ziE_ (zaM_ (i:=1) (at_s zcd_) (zc_ 1 rfl)))))))
theorem ziy_ (e:En K mg)(h9:zfA_ P w K mg base):zgt_ P w K mg base:=
 zc4_ e.m e.f20 (okC (N:=["deck", "field", "parts", "card"]) (C:=(csCons (tyL tyStr) (csLast Qq1))) (O:=(owD kStr tyBl)) (t:=fun E=>zjm_ K) (g:=fun c=>zd6_ c.1 c.2) 2 2 (zp_ zn_) (fun _ _ _ _ _ _ E nd hr=>(zd_ (pst 2 zi8_) (zd_ (zd7_ PassesOwn.never rfl (ze9_ (za_ 0)) (pgn 3) (zg_ (zjK_ hr.u60 (za_ 2) (zm_ h9 (hm hr) (zb_ (za_ 3) (zb_ (za_ 1) zh_))) zfg_))) (zg_ (zG_ (za_ 2)))))) fun c E=>at_ [(Zf (tyL tyStr) c.1),(Zf Qq1 c.2),Zd,Zd]
 (zb1_ (i:=2) rfl (zcV_ zz_) (zlG_ kStr tyBl) fun iA=>(at_ [(Zf (tyL tyStr) c.1),(Zf Qq1 c.2),(Zo (owD kStr tyBl) iA),Zd] (zbv_ (LS:=(fun aA:(List (Jx×Bool))=>[(Zf (tyL tyStr) c.1),(Zf Qq1 c.2),(Zo (owD kStr tyBl) aA),Zd])) (zdc_ (L':=[(Zf (tyL tyStr) c.1),(Zf Qq1 c.2),(Zo (owD kStr tyBl) iA),Zd]) (S4 .nil) (ziD_ (LS:=(fun aA:(List (Jx×Bool))=>[(Zf (tyL tyStr) c.1),(Zf Qq1 c.2),(Zo (owD kStr tyBl) aA),Zd])) (s0:=iA) (ei_l (zc_ 0 rfl)) (zaJ_ 3) fun aA bu=>at_ [(Zf (tyL tyStr) c.1),(Zf Qq1 c.2),(Zo (owD kStr tyBl) aA),(Zf tyStr bu)] (zev_ (zpb_ (i:=2) rfl zz_ zj_ (zeL_ true) (zl_ (zf_ (zc_ 3 rfl) (ze_ (zc_ 1 rfl)))) fun v7 kc=>(at_ [(Zf (tyL tyStr) c.1),(Zf Qq1 c.2),(Zo (owD kStr tyBl) (putA aA kc v7)),(Zf tyStr bu)] (zo_ (.same (.same (.same (.dead .nil)))))))))) fun aA=>(at_ [(Zf (tyL tyStr) c.1),(Zf Qq1 c.2),(Zo (owD kStr tyBl) aA),Zd] (ziU_ (i:=2) rfl))))))
theorem zdG_ (e:En K mg)(mr:zdn_ P w K mg base)(g9:zR_ P w K mg base)(mn:zgt_ P w K mg base):zaV_ P w K mg base:=
 gk_of e.m e.w0 e.f21 (okUX (N:=["self", "field", "other", "other_field", "word"]) (O:=(owI (gA K "Mater") [] psNil)) (O2:=(Qq0 K)) (C:=(csCons Qq1 (csCons (tyL tyStr) (csCons Qq1 (csLast tyStr))))) (t:=fun E=>zek_ K E) (g:=fun x c=>zaX_ x c.1 c.2.1 c.2.2.1 c.2.2.2) (LS:=fun w_=>(fun x':Qq2=>[(Zo (owAt w_ (Qq0 K)) x'),Zd,Zd,Zd,Zd])) 4 0 (zp_ (zp_ (zp_ zn_))) (fun _ _ _ _ _ _ E nd hr=>(zd_ (zaZ_ (zeV_ mr (hm hr) zb7_ (zb_ (za_ 2) (zb_ (za_ 3) (zb_ zk_ zh_))))) (zd_ (zaZ_ (zmv_ g9 (hm hr) (zb_ (za_ 0) (zb_ (za_ 1) zh_)))) (zd_ (zdv_ e.w0.cls e.a4.no (za_ 0) (zm_ mn (hm hr) (zb_ (za_ 2) (zb_ (za_ 3) zh_)))) (zg_ (zdv_ e.w0.cls e.a5.no (za_ 0) (zcI_ (zcc_ hr.u60) (za_ 4) (zaq_ (l:=[109,97,116,101,115]))))))))) fun w_ x c E=>at_ [(Zo (owAt w_ (owI (gA K "Mater") [] psNil)) x),(Zf Qq1 c.1),(Zf (tyL tyStr) c.2.1),(Zf Qq1 c.2.2.1),(Zf tyStr c.2.2.2)]
 (zqZ_ (zmV_ (zf_ (zc_ 2 rfl) (zf_ (zc_ 3 rfl) (ze_ (zq_ 2))))) fun v6=>(at_ [(Zo (owAt w_ (owI (gA K "Mater") [] psNil)) x),(Zf Qq1 c.1),(Zf (tyL tyStr) c.2.1),(Zf Qq1 c.2.2.1),(Zf tyStr c.2.2.2)] (zmz_ (zhW_ (i:=0) rfl (zc0_ (zt_ (zaQ_ (zH_ zj_)) (zt_ (zH_ zi_) (zt_ (zs_ (zao_ (zF_ zi_ (zB_ zi_)))) (zt_ (zs_ (zak_ zj_)) zax_))))) (zs_ zgm_) (ze_ (zc_ 1 rfl))) fun y8=>(at_ [(Zo (owAt w_ (Qq8 K)) y8.2),(Zf Qq1 c.1),(Zf (tyL tyStr) c.2.1),(Zf Qq1 c.2.2.1),(Zf tyStr c.2.2.2)] (zj5_ (P:=(psO (owLO (owL tyStr)) (psO (owL tyInt) (psO (owF Qq1) (psO (owF (tyOpt tyStr)) psNil))))) (P':=(psO (owLO (owL tyStr)) (psO (owL tyInt) (psO (owF Qq1) (psO (owF (tyOpt tyStr)) (psO (owD kStr tyBl) psNil)))))) (ad:=fun c z=>(c.1,(c.2.1,(c.2.2.1,(c.2.2.2.1,(z,())))))) (ns:=["pockets", "log", "field", "last"]) (O1:=(owD kStr tyBl)) (i:=0) rfl (by decide +kernel) (by decide) (zco_ (zco_ (zco_ (zco_ zin_)))) (zcV_ zz_) (zaK_ (zf_ (zc_ 2 rfl) (ze_ (zc_ 3 rfl)))) fun d0=>(at_ [(Zo (owAt w_ (owI (gA K "Mater") ["pockets", "log", "field", "last", "other_parts"] (psO (owLO (owL tyStr)) (psO (owL tyInt) (psO (owF Qq1) (psO (owF (tyOpt tyStr)) (psO (owD kStr tyBl) psNil))))))) d0),(Zf Qq1 c.1),(Zf (tyL tyStr) c.2.1),(Zf Qq1 c.2.2.1),(Zf tyStr c.2.2.2)] (zev_ (zkg_ (P:=(psO (owLO (owL tyStr)) (psO (owL tyInt) (psO (owF Qq1) (psO (owF (tyOpt tyStr)) (psO (owD kStr tyBl) psNil)))))) (P':=Qq6) (ad:=fun c z=>(c.1,(c.2.1,(c.2.2.1,(c.2.2.2.1,(c.2.2.2.2.1,(z,()))))))) (ns:=["pockets", "log", "field", "last", "other_parts"]) (i:=0) rfl (by decide +kernel) (by decide) (zco_ (zco_ (zco_ (zco_ (zco_ zin_))))) zz_ (zE_ zf9_ (zc_ 4 rfl) (zah_ [109,97,116,101,115])) fun kA=>(at_ [(Zo (owAt w_ (Qq0 K)) kA),(Zf Qq1 c.1),(Zf (tyL tyStr) c.2.1),(Zf Qq1 c.2.2.1),(Zf tyStr c.2.2.2)] (zo_ (.same (.dead (.dead (.dead (.dead .nil))))))))))))))))
theorem zig_ (e:En K mg)(h8:zaV_ P w K mg base):zgs_ P w K mg base:=
 zc4_ e.m e.f22 (okX (N:=["going", "trays", "name"]) (C:=(csCons Qq4 (csLast (tyD kStr (tyL tyStr))))) (O:=(Qq0 K)) (t:=fun E=>zky_ K E) (g:=fun c=>zcS_ c.1 c.2) 2 1 (zp_ zn_) (fun _ _ _ _ _ _ E nd hr=>(zd_ (pst 2 (zbg_ ix_M (za_ 0) zk_ (fun _ _=>rfl))) (zd_ (zab_ (ziS_ hr.u60 (za_ 2) (za_ 1)) (zg_ (znp_ zg5_ rfl e.fx.exc_NoTray (e.m.gk e.k2) (zb_ (zhY_ (zeK_ (zaq_ (l:=[110,111,32,116,114,97,121,32,115,116,97,110,100,115,32,98,121,32,116,104,101,32,110,97,109,101,32])) (zeK_ (zm2_ (za_ 2)) zpY_))) zh_))) zN_) (zg_ (zG_ (zjA_ h8 (hm hr) zb7_ (zb_ (zbg_ ix_M (za_ 0) zk_ (fun _ _=>rfl)) (zb_ (znR_ hr.u60 (za_ 1) (za_ 2)) (zb_ (zbg_ ix_M (za_ 0) zk_ (fun _ _=>rfl)) (zb_ (zbg_ ix_M (za_ 0) zk_ (fun _ _=>rfl)) zh_)))))))))) fun c E=>at_ [(Zf Qq4 c.1),(Zf (tyD kStr (tyL tyStr)) c.2),Zd]
 (zc7_ (i:=2) rfl zj_ (zaM_ (i:=2) (at_s (at_s at_0)) (zc_ 0 rfl)) fun gq=>(at_ [(Zf Qq4 c.1),(Zf (tyD kStr (tyL tyStr)) c.2),(Zf tyStr gq)] (zbv_ (LS:=(fun _:Unit=>[(Zf Qq4 c.1),(Zf (tyD kStr (tyL tyStr)) c.2),(Zf tyStr gq)])) (s_if (zK_ (zkJ_ true (zc_ 2 rfl) (zc_ 1 rfl))) (zp6_ zC_ (ze_ (zhT_ (zeB_ (zah_ [110,111,32,116,114,97,121,32,115,116,97,110,100,115,32,98,121,32,116,104,101,32,110,97,109,101,32]) (zeB_ (zqc_ (zc_ 2 rfl)) zoX_))))) (zo_ (.same (.same (.same .nil))))) fun _=>(at_ [(Zf Qq4 c.1),(Zf (tyD kStr (tyL tyStr)) c.2),(Zf tyStr gq)] (zaW_ (zc0_ (zt_ (zaQ_ (zH_ zj_)) (zt_ (zH_ zi_) (zt_ (zs_ (zao_ (zF_ zi_ (zB_ zi_)))) (zt_ (zs_ (zak_ zj_)) (zt_ (zcV_ zz_) (zt_ (zs_ zz_) zax_))))))) (zjY_ (zf_ (zaM_ (i:=3) (at_s (at_s (at_s at_0))) (zc_ 0 rfl)) (zf_ (zoW_ (zc_ 1 rfl) (zc_ 2 rfl)) (zf_ (zaM_ (i:=4) (at_s (at_s (at_s (at_s at_0)))) (zc_ 0 rfl)) (ze_ (zaM_ (i:=5) (at_s (at_s (at_s (at_s (at_s zcd_))))) (zc_ 0 rfl)))))))))))))
theorem zfJ_ (e:En K mg)(ml:zgs_ P w K mg base):zcx_ P w K mg base:=
 zc4_ e.m e.f23 (okX (N:=["going", "trays", "kind"]) (C:=(csCons Qq4 (csLast (tyD kStr (tyL tyStr))))) (O:=(Qq0 K)) (t:=fun E=>zhi_ K E) (g:=fun c=>zbH_ c.1 c.2) 2 1 (zp_ zn_) (fun _ _ _ _ _ _ E nd hr=>(zd_ (pst 2 (zbg_ ix_M (za_ 0) zk_ (fun _ _=>rfl))) (zd_ (zab_ (zS_ (zcc_ hr.u60) (za_ 2) (zaq_ (l:=[100,101,97,108]))) (zg_ zdl_) zN_) (zd_ (zab_ (zS_ (zcc_ hr.u60) (za_ 2) (zaq_ (l:=[112,105,99,107]))) (zg_ zdl_) zN_) (zd_ (zab_ (zS_ (zcc_ hr.u60) (za_ 2) (zaq_ (l:=[109,97,116,101]))) (zg_ (zG_ (zeV_ ml (hm hr) zb7_ (zb_ (za_ 0) (zb_ (za_ 1) zh_))))) zN_) (zd_ (zab_ (zS_ (zcc_ hr.u60) (za_ 2) (zaq_ (l:=[102,105,114,115,116]))) (zg_ zdl_) zN_) (zd_ (zab_ (zS_ (zcc_ hr.u60) (za_ 2) (zaq_ (l:=[112,117,110,99,104]))) (zg_ zdl_) zN_) (zg_ zdl_)))))))) fun c E=>at_ [(Zf Qq4 c.1),(Zf (tyD kStr (tyL tyStr)) c.2),Zd]
 (zc7_ (i:=2) rfl zj_ (zaM_ (i:=0) at_0 (zc_ 0 rfl)) fun cQ=>(at_ [(Zf Qq4 c.1),(Zf (tyD kStr (tyL tyStr)) c.2),(Zf tyStr cQ)] (zbv_ (LS:=(fun _:Unit=>[(Zf Qq4 c.1),(Zf (tyD kStr (tyL tyStr)) c.2),(Zf tyStr cQ)])) (s_if (zK_ (zE_ zf9_ (zc_ 2 rfl) (zah_ [100,101,97,108]))) zeE_ (zo_ (.same (.same (.same .nil))))) fun _=>(at_ [(Zf Qq4 c.1),(Zf (tyD kStr (tyL tyStr)) c.2),(Zf tyStr cQ)] (zbv_ (LS:=(fun _:Unit=>[(Zf Qq4 c.1),(Zf (tyD kStr (tyL tyStr)) c.2),(Zf tyStr cQ)])) (s_if (zK_ (zE_ zf9_ (zc_ 2 rfl) (zah_ [112,105,99,107]))) zeE_ (zo_ (.same (.same (.same .nil))))) fun _=>(at_ [(Zf Qq4 c.1),(Zf (tyD kStr (tyL tyStr)) c.2),(Zf tyStr cQ)] (zbv_ (LS:=(fun _:Unit=>[(Zf Qq4 c.1),(Zf (tyD kStr (tyL tyStr)) c.2),(Zf tyStr cQ)])) (s_if (zK_ (zE_ zf9_ (zc_ 2 rfl) (zah_ [109,97,116,101]))) (zaW_ (zc0_ (zt_ (zaQ_ (zH_ zj_)) (zt_ (zH_ zi_) (zt_ (zs_ (zao_ (zF_ zi_ (zB_ zi_)))) (zt_ (zs_ (zak_ zj_)) (zt_ (zcV_ zz_) (zt_ (zs_ zz_) zax_))))))) (zjB_ (zf_ (zc_ 0 rfl) (ze_ (zc_ 1 rfl))))) (zo_ (.same (.same (.same .nil))))) fun _=>(at_ [(Zf Qq4 c.1),(Zf (tyD kStr (tyL tyStr)) c.2),(Zf tyStr cQ)] (zbv_ (LS:=(fun _:Unit=>[(Zf Qq4 c.1),(Zf (tyD kStr (tyL tyStr)) c.2),(Zf tyStr cQ)])) (s_if (zK_ (zE_ zf9_ (zc_ 2 rfl) (zah_ [102,105,114,115,116]))) zeE_ (zo_ (.same (.same (.same .nil))))) fun _=>(at_ [(Zf Qq4 c.1),(Zf (tyD kStr (tyL tyStr)) c.2),(Zf tyStr cQ)] (zbv_ (LS:=(fun _:Unit=>[(Zf Qq4 c.1),(Zf (tyD kStr (tyL tyStr)) c.2),(Zf tyStr cQ)])) (s_if (zK_ (zE_ zf9_ (zc_ 2 rfl) (zah_ [112,117,110,99,104]))) zeE_ (zo_ (.same (.same (.same .nil))))) fun _=>(at_ [(Zf Qq4 c.1),(Zf (tyD kStr (tyL tyStr)) c.2),(Zf tyStr cQ)] zeE_)))))))))))))
theorem zir_ (e:En K mg)(h8:zaV_ P w K mg base)(h7:zcx_ P w K mg base):zel_ P w K mg base:=
 zc4_ e.m e.f24 (okX (N:=["_law_fields_here", "_law_others", "_law_word", "_law_way"]) (C:=(csCons Qq5 (csCons (tyL tyStr) (csCons tyStr (csLast tyInt))))) (O:=(Qq0 K)) (t:=fun E=>zkh_ K E) (g:=fun c=>zdW_ c.1 c.2.1 c.2.2.1 c.2.2.2) 4 0 (zp_ (zp_ (zp_ zn_))) (fun _ _ _ _ _ _ E nd hr=>(zd_ (zab_ (zS_ (zcc_ hr.u60) (zan_ zaz_ (za_ 3) zk_) zk_) (zg_ (zG_ (zjA_ h8 (hm hr) zb7_ (zb_ (zbg_ ix_M (za_ 0) zk_ (fun _ _=>rfl)) (zb_ (za_ 1) (zb_ (zbg_ ix_M (za_ 0) zk_ (fun _ _=>rfl)) (zb_ (za_ 2) zh_))))))) zN_) (zg_ (zG_ (zeV_ h7 (hm hr) zb7_ (zb_ (zgW_ (zb_ (zaq_ (l:=[109,97,116,101])) (zb_ (zaq_ (l:=[97])) (zb_ (zaq_ (l:=[98])) (zb_ (zbg_ ix_M (za_ 0) zk_ (fun _ _=>rfl)) (zb_ (zbg_ ix_M (za_ 0) zk_ (fun _ _=>rfl)) (zb_ (za_ 2) zh_))))))) (zb_ (zl7_ (zhk_ (zaq_ (l:=[97])) (zcE_ zh_) (zhk_ (zaq_ (l:=[98])) (za_ 1) zlO_)) rfl rfl (by simp) (by decide)) zh_))))))) fun c E=>at_ [(Zf Qq5 c.1),(Zf (tyL tyStr) c.2.1),(Zf tyStr c.2.2.1),(Zf tyInt c.2.2.2)]
 (zbv_ (LS:=(fun _:Unit=>[(Zf Qq5 c.1),(Zf (tyL tyStr) c.2.1),(Zf tyStr c.2.2.1),(Zf tyInt c.2.2.2)])) (s_if (zK_ (zE_ zjC_ (zE_ zaA_ (zc_ 3 rfl) (zq_ 2)) (zq_ 0))) (zaW_ (zc0_ (zt_ (zaQ_ (zH_ zj_)) (zt_ (zH_ zi_) (zt_ (zs_ (zao_ (zF_ zi_ (zB_ zi_)))) (zt_ (zs_ (zak_ zj_)) (zt_ (zcV_ zz_) (zt_ (zs_ zz_) zax_))))))) (zjY_ (zf_ (zaM_ (i:=0) at_0 (zc_ 0 rfl)) (zf_ (zc_ 1 rfl) (zf_ (zaM_ (i:=1) (at_s zcd_) (zc_ 0 rfl)) (ze_ (zc_ 2 rfl))))))) (zo_ (S4 .nil))) fun _=>(at_ [(Zf Qq5 c.1),(Zf (tyL tyStr) c.2.1),(Zf tyStr c.2.2.1),(Zf tyInt c.2.2.2)] (zaW_ (zc0_ (zt_ (zaQ_ (zH_ zj_)) (zt_ (zH_ zi_) (zt_ (zs_ (zao_ (zF_ zi_ (zB_ zi_)))) (zt_ (zs_ (zak_ zj_)) (zt_ (zcV_ zz_) (zt_ (zs_ zz_) zax_))))))) (zjB_ (zf_ (zgR_ (zv_ (zv_ (zv_ (zv_ (zv_ zC_))))) (zf_ (zah_ [109,97,116,101]) (zf_ (zah_ [97]) (zf_ (zah_ [98]) (zf_ (zaM_ (i:=0) at_0 (zc_ 0 rfl)) (zf_ (zaM_ (i:=1) (at_s zcd_) (zc_ 0 rfl)) (ze_ (zc_ 2 rfl)))))))) (ze_ (EvO.fr (zmA_ (KY:=kStr) (T:=(tyL tyStr)) (zgV_ zjX_ (zah_ [97]) (EvO.fr (zce_ tyStr)) (zgV_ zjX_ (zah_ [98]) (zc_ 1 rfl) zmm_)))))))))))
theorem zeu_ (e:En K mg):zcU_ P w K mg base:=
 zkz_ e.w0 e.f25 (okCU (N:=["self"]) (C:=(csLast (Qq3 K))) (LS:=fun _:Unit=>[Zd]) (t:=fun E=>zfv_ K) (g:=fun c=>zcC_ c) 1 0 zn_ (fun _ _ _ _ _ _ E nd hr=>(zg_ zpz_)) fun c E=>at_ [(Zf (Qq3 K) c)]
 zqm_)
theorem zep_ (e:En K mg):zcB_ P w K mg base:=
 zkz_ e.w0 e.f26 (okC (N:=["self"]) (C:=(csLast (Qq3 K))) (O:=(owL tyStr)) (t:=fun E=>zfx_ K) (g:=fun c=>zbE_ c) 1 0 zn_ (fun _ _ _ _ _ _ E nd hr=>(zg_ (zG_ (zoj_ "list" (zcJ_ rfl) (e.m.gb e.b4) (zb_ (zbg_ ix_M (zbn_ e.w0.cls e.a0.no (za_ 0)) zk_ (fun _ _=>rfl)) zh_))))) fun c E=>at_ [(Zf (Qq3 K) c)]
 (zaW_ (zH_ zj_) (zlh_ zkk_ (ze_ (zE_ zc3_ (zd8_ (ns:=Qn0) (by decide +kernel) (n:=0) rfl at_0 (zc_ 0 rfl)) (zq_ 0))))))
theorem zfi_ (e:En K mg):zbb_ P w K mg base:=
 zc4_ e.m e.f27 (okC (N:=["_law_found", "_law_due", "_law_card_here", "_law_other"]) (C:=(csCons (tyL tyStr) (csLast (tyL tyStr)))) (O:=(owF tyBl)) (t:=fun E=>zgb_ K) (g:=fun c=>zb2_ c.1 c.2) 2 2 (zp_ zn_) (fun _ _ _ _ _ _ E nd hr=>(zd_ (zab_ (PW.pt (zcO_ (zcZ_ (zaa_ (zdh_ ze4_ (e.m.gb e.b5) (zb_ (za_ 0) (zb_ (zo4_ "list" (e.m.gb e.b4)) zh_))))) (ze5_ (zS_ (zjD_ hr.u60) (zdh_ zaw_ (e.m.gb e.b1) (zb_ (za_ 0) zh_)) (zdh_ zaw_ (e.m.gb e.b1) (zb_ (za_ 1) zh_)))))) (zg_ (zG_ zfg_)) zN_) (zd_ (zd7_ PassesOwn.never rfl (zqD_ (e.m.gb e.b6) (zb_ (za_ 0) (zb_ (za_ 1) zh_))) (zjo_ (n:=2) rfl (zbd_ (pgn 2) (zbd_ (pgn 3) zfu_))) (zg_ (zab_ (PW.pt (zcO_ (zcZ_ (zaa_ (zdh_ ze4_ (e.m.gb e.b5) (zb_ (za_ 2) (zb_ (zo4_ "str" (e.m.gb e.b3)) zh_))))) (ze5_ (zS_ (zjD_ hr.u60) (za_ 2) (za_ 3))))) (zg_ (zG_ zfg_)) zN_))) (zg_ (zG_ zfg_))))) fun c E=>at_ [(Zf (tyL tyStr) c.1),(Zf (tyL tyStr) c.2),Zd,Zd]
 (zbv_ (LS:=(fun _:Unit=>[(Zf (tyL tyStr) c.1),(Zf (tyL tyStr) c.2),Zd,Zd])) (s_if (ziv_ (zcL_ (zK_ (zkG_ tn_l (zc_ 0 rfl)))) (zK_ (zE_ zo1_ (zh2_ zdz_ (ze_ (zc_ 0 rfl))) (zh2_ zdz_ (ze_ (zc_ 1 rfl)))))) (zaW_ (zs_ zz_) (EvF.ow (zeL_ false))) (zo_ (S4 .nil))) fun _=>(at_ [(Zf (tyL tyStr) c.1),(Zf (tyL tyStr) c.2),Zd,Zd] (zbv_ (LS:=(fun _:Unit=>[(Zf (tyL tyStr) c.1),(Zf (tyL tyStr) c.2),Zd,Zd])) (zdc_ (L':=[(Zf (tyL tyStr) c.1),(Zf (tyL tyStr) c.2),Zd,Zd]) (S4 .nil) (ziD_ (LS:=(fun _:Unit=>[(Zf (tyL tyStr) c.1),(Zf (tyL tyStr) c.2),Zd,Zd])) (s0:=()) (zqT_ (zf_ (zc_ 0 rfl) (ze_ (zc_ 1 rfl)))) (zkD_ (zv_ zC_) (zia_ 2 (zh1_ (zaJ_ 3)))) fun _ gV=>at_ [(Zf (tyL tyStr) c.1),(Zf (tyL tyStr) c.2),(Zf tyStr gV.1),(Zf tyStr gV.2)] (s_if (ziv_ (zcL_ (zK_ (zkG_ zqG_ (zc_ 2 rfl)))) (zK_ (zE_ zqn_ (zc_ 2 rfl) (zc_ 3 rfl)))) (zaW_ (zs_ zz_) (EvF.ow (zeL_ false))) (zo_ (.same (.same (.dead (.dead .nil)))))))) fun _=>(at_ [(Zf (tyL tyStr) c.1),(Zf (tyL tyStr) c.2),Zd,Zd] (zaW_ (zs_ zz_) (EvF.ow (zeL_ true))))))))
theorem zkE_ (e:En K mg):zjz_ P w K mg base:=
 zc4_ e.m e.f28 (okC (N:=["some", "deck", "pocket"]) (C:=(csLast (tyL (tyL tyStr)))) (O:=(owL tyStr)) (t:=fun E=>zns_ K) (g:=fun c=>zhq_ c) 1 2 zn_ (fun _ _ _ _ _ _ E nd hr=>(zd_ (pst 1 (zcE_ zh_)) (zd_ (zd7_ PassesOwn.never rfl (ze9_ (za_ 0)) (pgn 2) (zg_ (zaZ_ (zlX_ zdB_ zeX_ zeU_ zlb_ (za_ 1) (zb_ (za_ 2) zh_))))) (zg_ (zG_ (za_ 1)))))) fun c E=>at_ [(Zf (tyL (tyL tyStr)) c),Zd,Zd]
 (zb1_ (i:=1) rfl (zH_ zj_) (zce_ tyStr) fun ix=>(at_ [(Zf (tyL (tyL tyStr)) c),(Zo (owL tyStr) ix),Zd] (zbv_ (LS:=(fun aA:Jy=>[(Zf (tyL (tyL tyStr)) c),(Zo (owL tyStr) aA),Zd])) (zdc_ (L':=[(Zf (tyL (tyL tyStr)) c),(Zo (owL tyStr) ix),Zd]) (.same (.same (.same .nil))) (ziD_ (LS:=(fun aA:Jy=>[(Zf (tyL (tyL tyStr)) c),(Zo (owL tyStr) aA),Zd])) (s0:=ix) (ei_l (zc_ 0 rfl)) (zaJ_ 2) fun aA bu=>at_ [(Zf (tyL (tyL tyStr)) c),(Zo (owL tyStr) aA),(Zf (tyL tyStr) bu)] (zev_ (znN_ (i:=1) rfl zj_ (zc_ 2 rfl) fun w4=>(at_ [(Zf (tyL (tyL tyStr)) c),(Zo (owL tyStr) (aA++w4)),(Zf (tyL tyStr) bu)] (zo_ (.same (.same (.dead .nil))))))))) fun aA=>(at_ [(Zf (tyL (tyL tyStr)) c),(Zo (owL tyStr) aA),Zd] (ziU_ (i:=1) rfl))))))
theorem zcA_ (e:En K mg)(mi:zjz_ P w K mg base):zbo_ P w K mg base:=
 zkz_ e.w0 e.f29 (okC (N:=["self"]) (C:=(csLast (Qq3 K))) (O:=(owL tyStr)) (t:=fun E=>zdm_ K) (g:=fun c=>zaF_ c) 1 0 zn_ (fun _ _ _ _ _ _ E nd hr=>(zg_ (zG_ (zm_ mi (hm hr) (zb_ (zbx_ sl_M (zbn_ e.w0.cls e.a0.no (za_ 0)) (po_M zk_) zeN_) zh_))))) fun c E=>at_ [(Zf (Qq3 K) c)]
 (zaW_ (zH_ zj_) (zaK_ (ze_ (EvO.fr (zis_ (zd8_ (ns:=Qn0) (by decide +kernel) (n:=0) rfl at_0 (zc_ 0 rfl)) (ziE_ (zq_ 1)) zol_))))))
theorem zda_ (e:En K mg):zbK_ P w K mg base:=
 zkz_ e.w0 e.f30 (okC (N:=["self"]) (C:=(csLast (Qq3 K))) (O:=(owL tyStr)) (t:=fun E=>zdF_ K) (g:=fun c=>zbM_ c) 1 0 zn_ (fun _ _ _ _ _ _ E nd hr=>(zg_ (zG_ (zcE_ zh_)))) fun c E=>at_ [(Zf (Qq3 K) c)]
 (zaW_ (zH_ zj_) (zce_ tyStr)))
theorem zgN_ (e:En K mg)(g5:zbX_ P w K mg base)(mj:zcU_ P w K mg base)(dU:zbb_ P w K mg base)(jt:zcB_ P w K mg base)(mh:zbo_ P w K mg base)(mf:zbK_ P w K mg base):zeH_ P w K mg base:=
 zc4_ e.m e.f31 (okC (N:=["_law_machine", "_law_ones", "_law_others", "_law_fields_here", "_law_word", "_law_known_here", "_law_card_here", "_law_kept", "_law_rest"]) (C:=(csCons (Qq3 K) (csCons (tyL tyStr) (csCons (tyL tyStr) (csCons Qq5 (csLast tyStr)))))) (O:=(owF tyBl)) (t:=fun E=>ziq_ K) (g:=fun c=>zdb_ c.1 c.2.1 c.2.2.1 c.2.2.2.1 c.2.2.2.2) 5 4 (zp_ (zp_ (zp_ (zp_ zn_)))) (fun _ _ _ _ _ _ E nd hr=>(zd_ (pst 5 zi8_) (zd_ (zd7_ PassesOwn.never rfl (ze9_ (za_ 2)) (pgn 6) (zg_ (zjK_ hr.u60 (za_ 5) (zm_ g5 (hm hr) (zb_ (za_ 6) (zb_ (zbg_ ix_M (za_ 3) zk_ (fun _ _=>rfl)) zh_))) zfg_))) (zd_ (zec_ (cl:=_) (lv:=["_law_card_here"]) (fr:=[("_law_known_here",5),("_law_word",4),("_law_fields_here",3)]) rfl (csm rfl (frc (frc (frc fr0)))) (ze9_ (za_ 1)) (fun _ _ _ _=>(pgc 0)) (fun _ _ _ _=>(zmd_ (zS_ (zcc_ hr.u60) (ziM_ hr.u60 (zm_ g5 (hm hr) (zb_ (za_ 0) (zb_ (zbg_ ix_M (za_ 3) zk_ (fun _ _=>rfl)) zh_))) (za_ 1)) (zcI_ (zcc_ hr.u60) (za_ 2) (zaq_ (l:=[109,97,116,101,115])))))) (fun _ _ _ _=>(za_ 0)) (pgn 7)) (zd_ (zec_ (cl:=_) (lv:=["_law_card_here"]) (fr:=[("_law_known_here",5),("_law_word",4),("_law_fields_here",3)]) rfl (csm rfl (frc (frc (frc fr0)))) (ze9_ (za_ 1)) (fun _ _ _ _=>(pgc 0)) (fun _ _ _ _=>(zmd_ (zS_ (zjD_ hr.u60) (ziM_ hr.u60 (zm_ g5 (hm hr) (zb_ (za_ 0) (zb_ (zbg_ ix_M (za_ 3) zk_ (fun _ _=>rfl)) zh_))) (za_ 1)) (zcI_ (zcc_ hr.u60) (za_ 2) (zaq_ (l:=[109,97,116,101,115])))))) (fun _ _ _ _=>(za_ 0)) (pgn 8)) (zd_ (zab_ (PW.pt (zcO_ (zS_ zc1_ (zaI_ mj (hm hr) (za_ 0)) zfr_) (ze5_ (zcZ_ (zaa_ (zm_ dU (hm hr) (zb_ (zaI_ jt (hm hr) (za_ 0)) (zb_ (za_ 7) zh_)))))))) (zg_ (zG_ zfg_)) zN_) (zd_ (zaZ_ (zlX_ zdB_ zap_ zat_ zca_ (zaI_ jt (hm hr) (za_ 0)) (zb_ (zaq_ (l:=[])) zh_))) (zd_ (zab_ (zcZ_ (zaa_ (zm_ dU (hm hr) (zb_ (zaI_ mh (hm hr) (za_ 0)) (zb_ (za_ 8) zh_))))) (zg_ (zG_ zfg_)) zN_) (zg_ (zG_ (zj9_ (zm_ dU (hm hr) (zb_ (zaI_ jt (hm hr) (za_ 0)) (zb_ (za_ 7) zh_))) (zkY_ (zcI_ (zcc_ hr.u60) (zaI_ mf (hm hr) (za_ 0)) (zcE_ zh_)))))))))))))) fun c E=>at_ [(Zf (Qq3 K) c.1),(Zf (tyL tyStr) c.2.1),(Zf (tyL tyStr) c.2.2.1),(Zf Qq5 c.2.2.2.1),(Zf tyStr c.2.2.2.2),Zd,Zd,Zd,Zd]
 (zb1_ (i:=5) rfl (zcV_ zz_) (zlG_ kStr tyBl) fun iw=>(at_ [(Zf (Qq3 K) c.1),(Zf (tyL tyStr) c.2.1),(Zf (tyL tyStr) c.2.2.1),(Zf Qq5 c.2.2.2.1),(Zf tyStr c.2.2.2.2),(Zo (owD kStr tyBl) iw),Zd,Zd,Zd] (zbv_ (LS:=(fun aA:(List (Jx×Bool))=>[(Zf (Qq3 K) c.1),(Zf (tyL tyStr) c.2.1),(Zf (tyL tyStr) c.2.2.1),(Zf Qq5 c.2.2.2.1),(Zf tyStr c.2.2.2.2),(Zo (owD kStr tyBl) aA),Zd,Zd,Zd])) (zdc_ (L':=[(Zf (Qq3 K) c.1),(Zf (tyL tyStr) c.2.1),(Zf (tyL tyStr) c.2.2.1),(Zf Qq5 c.2.2.2.1),(Zf tyStr c.2.2.2.2),(Zo (owD kStr tyBl) iw),Zd,Zd,Zd]) (S4 (S4 (.same .nil))) (ziD_ (LS:=(fun aA:(List (Jx×Bool))=>[(Zf (Qq3 K) c.1),(Zf (tyL tyStr) c.2.1),(Zf (tyL tyStr) c.2.2.1),(Zf Qq5 c.2.2.2.1),(Zf tyStr c.2.2.2.2),(Zo (owD kStr tyBl) aA),Zd,Zd,Zd])) (s0:=iw) (ei_l (zc_ 2 rfl)) (zaJ_ 6) fun aA bu=>at_ [(Zf (Qq3 K) c.1),(Zf (tyL tyStr) c.2.1),(Zf (tyL tyStr) c.2.2.1),(Zf Qq5 c.2.2.2.1),(Zf tyStr c.2.2.2.2),(Zo (owD kStr tyBl) aA),(Zf tyStr bu),Zd,Zd] (zev_ (zpb_ (i:=5) rfl zz_ zj_ (zeL_ true) (zl_ (zf_ (zc_ 6 rfl) (ze_ (zaM_ (i:=1) (at_s zcd_) (zc_ 3 rfl))))) fun v8 z9=>(at_ [(Zf (Qq3 K) c.1),(Zf (tyL tyStr) c.2.1),(Zf (tyL tyStr) c.2.2.1),(Zf Qq5 c.2.2.2.1),(Zf tyStr c.2.2.2.2),(Zo (owD kStr tyBl) (putA aA z9 v8)),(Zf tyStr bu),Zd,Zd] (zo_ (S4 (.same (.same (.dead (.same (.same .nil)))))))))))) fun aA=>(at_ [(Zf (Qq3 K) c.1),(Zf (tyL tyStr) c.2.1),(Zf (tyL tyStr) c.2.2.1),(Zf Qq5 c.2.2.2.1),(Zf tyStr c.2.2.2.2),(Zo (owD kStr tyBl) aA),Zd,Zd,Zd] (zb1_ (i:=7) rfl (zH_ zj_) (ze1_ (ei_l (zc_ 1 rfl)) (zaJ_ 0) (fun _=>dead1) (fun fR=>(zK_ (zE_ zoD_ (zkJ_ false (zl_ (zf_ (zc_ 0 rfl) (ze_ (zaM_ (i:=0) at_0 (zc_ 3 rfl))))) (zmu_ 1 rfl)) (zE_ zf9_ (zc_ 2 rfl) (zah_ [109,97,116,101,115]))))) (fun fR=>(zc_ 0 rfl))) fun eT=>zl6_ (i:=7) rfl (at_ [(Zf (Qq3 K) c.1),(Zf (tyL tyStr) c.2.1),(Zf (tyL tyStr) c.2.2.1),(Zf Qq5 c.2.2.2.1),(Zf tyStr c.2.2.2.2),(Zo (owD kStr tyBl) aA),Zd,(Zf (tyL tyStr) eT),Zd] (zb1_ (i:=8) rfl (zH_ zj_) (ze1_ (ei_l (zc_ 1 rfl)) (zaJ_ 0) (fun _=>dead1) (fun jM=>(zK_ (zE_ zqC_ (zkJ_ false (zl_ (zf_ (zc_ 0 rfl) (ze_ (zaM_ (i:=0) at_0 (zc_ 3 rfl))))) (zmu_ 1 rfl)) (zE_ zf9_ (zc_ 2 rfl) (zah_ [109,97,116,101,115]))))) (fun jM=>(zc_ 0 rfl))) fun fS=>zl6_ (i:=8) rfl (at_ [(Zf (Qq3 K) c.1),(Zf (tyL tyStr) c.2.1),(Zf (tyL tyStr) c.2.2.1),(Zf Qq5 c.2.2.2.1),(Zf tyStr c.2.2.2.2),(Zo (owD kStr tyBl) aA),Zd,(Zf (tyL tyStr) eT),(Zf (tyL tyStr) fS)] (zbv_ (LS:=(fun _:Unit=>[(Zf (Qq3 K) c.1),(Zf (tyL tyStr) c.2.1),(Zf (tyL tyStr) c.2.2.1),(Zf Qq5 c.2.2.2.1),(Zf tyStr c.2.2.2.2),(Zo (owD kStr tyBl) aA),Zd,(Zf (tyL tyStr) eT),(Zf (tyL tyStr) fS)])) (s_if (ziv_ (zK_ (zE_ zhN_ (zkH_ (m:="finish") (ns:=Qn0) (by decide +kernel) (zc_ 0 rfl)) zg4_)) (zcL_ (zK_ (zl_ (zf_ (EvO.fr (zaT_ (m:="stayed") (ns:=Qn0) (by decide +kernel) (zc_ 0 rfl))) (ze_ (zc_ 7 rfl))))))) (zaW_ (zs_ zz_) (EvF.ow (zeL_ false))) (zo_ (S4 (S4 (.same .nil))))) fun _=>(at_ [(Zf (Qq3 K) c.1),(Zf (tyL tyStr) c.2.1),(Zf (tyL tyStr) c.2.2.1),(Zf Qq5 c.2.2.2.1),(Zf tyStr c.2.2.2.2),(Zo (owD kStr tyBl) aA),Zd,(Zf (tyL tyStr) eT),(Zf (tyL tyStr) fS)] (zno_ (zaT_ (m:="stayed") (ns:=Qn0) (by decide +kernel) (zc_ 0 rfl)) (zah_ []) (at_ [(Zf (Qq3 K) c.1),(Zf (tyL tyStr) c.2.1),(Zf (tyL tyStr) c.2.2.1),(Zf Qq5 c.2.2.2.1),(Zf tyStr c.2.2.2.2),(Zo (owD kStr tyBl) aA),Zd,(Zf (tyL tyStr) eT),(Zf (tyL tyStr) fS)] (zbv_ (LS:=(fun _:Unit=>[(Zf (Qq3 K) c.1),(Zf (tyL tyStr) c.2.1),(Zf (tyL tyStr) c.2.2.1),(Zf Qq5 c.2.2.2.1),(Zf tyStr c.2.2.2.2),(Zo (owD kStr tyBl) aA),Zd,(Zf (tyL tyStr) eT),(Zf (tyL tyStr) fS)])) (s_if (zcL_ (zK_ (zl_ (zf_ (EvO.fr (zaT_ (m:="laid_aside") (ns:=Qn0) (by decide +kernel) (zc_ 0 rfl))) (ze_ (zc_ 8 rfl)))))) (zaW_ (zs_ zz_) (EvF.ow (zeL_ false))) (zo_ (S4 (S4 (.same .nil))))) fun _=>(at_ [(Zf (Qq3 K) c.1),(Zf (tyL tyStr) c.2.1),(Zf (tyL tyStr) c.2.2.1),(Zf Qq5 c.2.2.2.1),(Zf tyStr c.2.2.2.2),(Zo (owD kStr tyBl) aA),Zd,(Zf (tyL tyStr) eT),(Zf (tyL tyStr) fS)] (zaW_ (zs_ zz_) (EvF.ow (zmF_ (zl_ (zf_ (EvO.fr (zaT_ (m:="stayed") (ns:=Qn0) (by decide +kernel) (zc_ 0 rfl))) (ze_ (zc_ 7 rfl)))) (zE_ (zqH_ (eqt_l zlU_)) (EvO.fr (zaT_ (m:="lines_out") (ns:=Qn0) (by decide +kernel) (zc_ 0 rfl))) (EvO.fr (zce_ tyStr)))))))))))))))))))))
theorem ze3_ (e:En K mg)(g5:zbX_ P w K mg base):zdo_ P w K mg base:=
 zc4_ e.m e.f32 (okC (N:=["_law_deck_here", "_law_field", "_law_found", "_law_card_here", "_law_at"]) (C:=(csCons (tyL tyStr) (csLast Qq1))) (O:=(owL tyStr)) (t:=fun E=>zfV_ K) (g:=fun c=>zb3_ c.1 c.2) 2 3 (zp_ zn_) (fun _ _ _ _ _ _ E nd hr=>(zd_ (pst 2 (zcE_ zh_)) (zd_ (zd7_ PassesOwn.never rfl (ze9_ (za_ 0)) (pgn 3) (zd_ (pst 4 (zdh_ zaw_ (e.m.gb e.b1) (zb_ (za_ 2) zh_))) (zd_ (zmS_ PassesOwn.never (PW.pt (zlZ_ (zS_ zmW_ (za_ 4) zk_) (zma_ (zS_ (zjZ_ hr.u60) (zm_ g5 (hm hr) (zb_ (za_ 3) (zb_ (za_ 1) zh_))) (zm_ g5 (hm hr) (zb_ (zbg_ ix_M (za_ 2) (zan_ zbJ_ (za_ 4) zk_) (fun _ _=>rfl)) (zb_ (za_ 1) zh_))))))) (zg_ (pst 4 (zan_ zbJ_ (za_ 4) zk_)))) (zg_ (zaZ_ (zlX_ zdB_ zfo_ zfj_ zli_ (za_ 2) (zb_ (za_ 4) (zb_ (za_ 3) zh_)))))))) (zg_ (zG_ (za_ 2)))))) fun c E=>at_ [(Zf (tyL tyStr) c.1),(Zf Qq1 c.2),Zd,Zd,Zd]
 (zb1_ (i:=2) rfl (zH_ zj_) (zce_ tyStr) fun iu=>(at_ [(Zf (tyL tyStr) c.1),(Zf Qq1 c.2),(Zo (owL tyStr) iu),Zd,Zd] (zbv_ (LS:=(fun aA:Jy=>[(Zf (tyL tyStr) c.1),(Zf Qq1 c.2),(Zo (owL tyStr) aA),Zd,Zd])) (zdc_ (L':=[(Zf (tyL tyStr) c.1),(Zf Qq1 c.2),(Zo (owL tyStr) iu),Zd,Zd]) (S4 (.same .nil)) (ziD_ (LS:=(fun aA:Jy=>[(Zf (tyL tyStr) c.1),(Zf Qq1 c.2),(Zo (owL tyStr) aA),Zd,Zd])) (s0:=iu) (ei_l (zc_ 0 rfl)) (zaJ_ 3) fun aA bu=>at_ [(Zf (tyL tyStr) c.1),(Zf Qq1 c.2),(Zo (owL tyStr) aA),(Zf tyStr bu),Zd] (zc7_ (i:=4) rfl zi_ (zh2_ zdz_ (ze_ (zeM_ 2 rfl))) fun y4=>(at_ [(Zf (tyL tyStr) c.1),(Zf Qq1 c.2),(Zo (owL tyStr) aA),(Zf tyStr bu),(Zf tyInt y4)] (zbv_ (LS:=(fun de:Int=>[(Zf (tyL tyStr) c.1),(Zf Qq1 c.2),(Zo (owL tyStr) aA),(Zf tyStr bu),(Zf tyInt de)])) (zdc_ (L':=[(Zf (tyL tyStr) c.1),(Zf Qq1 c.2),(Zo (owL tyStr) aA),(Zf tyStr bu),(Zf tyInt y4)]) (S4 (.same .nil)) (zow_ (LS:=(fun de:Int=>[(Zf (tyL tyStr) c.1),(Zf Qq1 c.2),(Zo (owL tyStr) aA),(Zf tyStr bu),(Zf tyInt de)])) (s0:=y4) fuelW (fun de=>(zoK_ (zK_ (zE_ zm9_ (zc_ 4 rfl) (zq_ 0))) (zK_ (zE_ zks_ (zl_ (zf_ (zc_ 3 rfl) (ze_ (zc_ 1 rfl)))) (zl_ (zf_ (zE_ zc3_ (zeM_ 2 rfl) (zE_ zbI_ (zc_ 4 rfl) (zq_ 1))) (ze_ (zc_ 1 rfl)))))))) fun de=>at_ [(Zf (tyL tyStr) c.1),(Zf Qq1 c.2),(Zo (owL tyStr) aA),(Zf tyStr bu),(Zf tyInt de)] (zev_ (zc7_ (i:=4) rfl zi_ (zE_ zbI_ (zc_ 4 rfl) (zq_ 1)) fun kx=>(at_ [(Zf (tyL tyStr) c.1),(Zf Qq1 c.2),(Zo (owL tyStr) aA),(Zf tyStr bu),(Zf tyInt kx)] (zo_ (S4 (.same .nil)))))))) fun de=>(at_ [(Zf (tyL tyStr) c.1),(Zf Qq1 c.2),(Zo (owL tyStr) aA),(Zf tyStr bu),(Zf tyInt de)] (zev_ (zob_ (i:=2) rfl zj_ (zc_ 4 rfl) (zc_ 3 rfl) fun iS jG=>(at_ [(Zf (tyL tyStr) c.1),(Zf Qq1 c.2),(Zo (owL tyStr) (insL aA iS jG)),(Zf tyStr bu),(Zf tyInt de)] (zo_ (.same (.same (.same (.dead (.dead .nil))))))))))))))) fun aA=>(at_ [(Zf (tyL tyStr) c.1),(Zf Qq1 c.2),(Zo (owL tyStr) aA),Zd,Zd] (ziU_ (i:=2) rfl))))))
theorem zer_ (e:En K mg):zcP_ P w K mg base:=
 gn_of e.m e.f33 (okN (N:=["_law_e"]) (C:=(csLast (tyXc K))) (O:=(owF tyBl)) (t:=fun E=>zeS_ K) (g:=fun c=>zby_ c) 1 0 zn_ (fun _ _ _ _ _ _ E nd hr=>(zd_ (zab_ (PW.pt (zcO_ (zaa_ (zdh_ zaG_ (e.m.gb e.b5) (zb_ (za_ 0) (zb_ (ziF_ (e.m.gkc e.k3)) zh_)))) (zcO_ (zaa_ (zdh_ zaG_ (e.m.gb e.b5) (zb_ (za_ 0) (zb_ (ziF_ (e.m.gkc e.k4)) zh_)))) (zcO_ (zaa_ (zdh_ zaG_ (e.m.gb e.b5) (zb_ (za_ 0) (zb_ (ziF_ (e.m.gkc e.k5)) zh_)))) (ze5_ (zaa_ (zdh_ zaG_ (e.m.gb e.b5) (zb_ (za_ 0) (zb_ (ziF_ (e.m.gkc e.k6)) zh_))))))))) (zg_ (zG_ zfg_)) zN_) (zg_ (zG_ (znZ_ (zdh_ zaG_ (e.m.gb e.b5) (zb_ (za_ 0) (zb_ (ziF_ (e.m.gkc e.k7)) zh_))) (znZ_ (zdh_ zaG_ (e.m.gb e.b5) (zb_ (za_ 0) (zb_ (ziF_ (e.m.gkc e.k8)) zh_))) (znZ_ (zdh_ zaG_ (e.m.gb e.b5) (zb_ (za_ 0) (zb_ (ziF_ (e.m.gkc e.k9)) zh_))) (zkY_ (zdh_ zaG_ (e.m.gb e.b5) (zb_ (za_ 0) (zb_ (ziF_ (e.m.gkc e.k2)) zh_))))))))))) fun c E=>at_ [(Zf (tyXc K) c)]
 (zbv_ (LS:=(fun _:Unit=>[(Zf (tyXc K) c)])) (s_if (ziv_ (zK_ (zch_ (zbq_ e.fx.isa_NoTray_Meet (zbq_ e.fx.isa_NoOrder_Meet zbi_)) rfl (zc_ 0 rfl))) (ziv_ (zK_ (zch_ (zbq_ e.fx.isa_NoTray_NoAsking (zbq_ e.fx.isa_NoOrder_NoAsking zbi_)) rfl (zc_ 0 rfl))) (ziv_ (zK_ (zch_ (zbq_ e.fx.isa_NoTray_NoBoard (zbq_ e.fx.isa_NoOrder_NoBoard zbi_)) rfl (zc_ 0 rfl))) (zK_ (zch_ (zbq_ e.fx.isa_NoTray_NoCard (zbq_ e.fx.isa_NoOrder_NoCard zbi_)) rfl (zc_ 0 rfl)))))) (zaW_ (zs_ zz_) (EvF.ow (zeL_ true))) (zo_ (.same .nil))) fun _=>(at_ [(Zf (tyXc K) c)] (zaW_ (zs_ zz_) (EvF.ow (zq2_ (zch_ (zbq_ e.fx.isa_NoTray_NoField (zbq_ e.fx.isa_NoOrder_NoField zbi_)) rfl (zc_ 0 rfl)) (zq2_ (zch_ (zbq_ e.fx.isa_NoTray_NoPlan (zbq_ e.fx.isa_NoOrder_NoPlan zbi_)) rfl (zc_ 0 rfl)) (zq2_ (zch_ (zbq_ e.fx.isa_NoTray_NoRow (zbq_ e.fx.isa_NoOrder_NoRow zbi_)) rfl (zc_ 0 rfl)) (zch_ (zbq_ e.fx.isa_NoTray_NoTray (zbq_ e.fx.isa_NoOrder_NoTray zbi_)) rfl (zc_ 0 rfl))))))))))
theorem zgw_ (e:En K mg)(md:zcP_ P w K mg base):zcp_ P w K mg base:=
 gh_of e.m e.f34 (okH (N:=["_law_e", "_law_deck_here", "_law_place", "_law_told", "_law_due"]) (C:=fun p=>(csCons (tyXcP K p) (csCons tyInt (csLast tyInt)))) (ss:=fun p c=>[(Zf (tyXcP K p) c.1),(Zf tyInt c.2.1),(Zf tyInt c.2.2)]) (O:=(owF tyBl)) (t:=fun p E=>zhp_ K p) (g:=fun c=>zcu_ c.1 c.2.1 c.2.2) 3 2 (fun p=>(zp_ (zp_ zn_))) (fun _ _ _ _ _ _ E p nd hr hA=>(zd_ (zab_ (PW.pt (zcO_ (zcZ_ (zaa_ (zdh_ zaG_ (e.m.gb e.b5) (zb_ (za_ 0) (zb_ (ziF_ (e.m.gkc e.k1)) zh_))))) (zcO_ (zcZ_ (zaa_ (zdh_ zaG_ (e.m.gb e.b5) (zb_ (za_ 0) (zb_ (zo4_ "ValueError" (e.m.gb e.b7)) zh_))))) (ze5_ (zaa_ (zna_ md (hmN hr) (zb_ (za_ 0) zh_))))))) (zg_ (zG_ zfg_)) zN_) (zd_ (zn9_ hA PassesOwn.never (zcE_ (zb_ (zgW_ (zb_ (zlQ_ (za_ 0)) (zb_ (za_ 1) zh_))) (zb_ (zgW_ (zb_ (zlQ_ (za_ 0)) (zb_ (za_ 2) zh_))) zh_))) (znt_ (n:=2) hA (zbd_ (pgn 3) (zbd_ (pgn 4) zfu_))) (zg_ (zab_ (PW.pt (zcO_ (zcZ_ (zaa_ (zdh_ ze4_ (e.m.gb e.b5) (zb_ (za_ 3) (zb_ (zo4_ "int" (e.m.gb e.b8)) zh_))))) (zcO_ (zaa_ (zdh_ ze4_ (e.m.gb e.b5) (zb_ (za_ 3) (zb_ (zo4_ "bool" (e.m.gb e.b9)) zh_)))) (ze5_ (zS_ (zjD_ hr.u60) (za_ 3) (za_ 4)))))) (zg_ (zG_ zfg_)) zN_))) (zg_ (zG_ zfg_))))) fun p c E=>at_ [(Zf (tyXcP K p) c.1),(Zf tyInt c.2.1),(Zf tyInt c.2.2),Zd,Zd]
 (zbv_ (LS:=(fun _:Unit=>[(Zf (tyXcP K p) c.1),(Zf tyInt c.2.1),(Zf tyInt c.2.2),Zd,Zd])) (s_if (ziv_ (zcL_ (zK_ (zch_ (zbq_ e.fx.isa_NoTray_NoOrder (zbq_ e.fx.isa_NoOrder_NoOrder zbi_)) rfl (zjR_ (zc_ 0 rfl))))) (ziv_ (zcL_ (zK_ (zch_ (zbq_ e.fx.isa_NoTray_ValueError (zbq_ e.fx.isa_NoOrder_ValueError zbi_)) rfl (zjR_ (zc_ 0 rfl))))) (zK_ (zl_ (ze_ (zjR_ (zc_ 0 rfl))))))) (zaW_ (zs_ zz_) (EvF.ow (zeL_ false))) (zo_ (S4 (.same .nil)))) fun _=>(at_ [(Zf (tyXcP K p) c.1),(Zf tyInt c.2.1),(Zf tyInt c.2.2),Zd,Zd] (zbv_ (LS:=(fun _:Unit=>[(Zf (tyXcP K p) c.1),(Zf tyInt c.2.1),(Zf tyInt c.2.2),Zd,Zd])) (zdc_ (L':=[(Zf (tyXcP K p) c.1),(Zf tyInt c.2.1),(Zf tyInt c.2.2),Zd,Zd]) (S4 (.same .nil)) (ziD_ (LS:=(fun _:Unit=>[(Zf (tyXcP K p) c.1),(Zf tyInt c.2.1),(Zf tyInt c.2.2),Zd,Zd])) (s0:=()) (ei_lH (i:=0) rfl (EvO.fr (znG_ (zv_ zC_) (zdV_ zgH_) (zf_ (zgR_ (zv_ zC_) (zf_ (zjQ_ e.fx.exj_NoOrder e.fx.exa_NoOrder_deck (zjR_ (zc_ 0 rfl))) (ze_ (zc_ 1 rfl)))) (ze_ (zgR_ (zv_ zC_) (zf_ (zjQ_ e.fx.exj_NoOrder e.fx.exa_NoOrder_place (zjR_ (zc_ 0 rfl))) (ze_ (zc_ 2 rfl))))))))) (zoP_ (zkD_ (zv_ zC_) (zia_ 3 (zh1_ (zaJ_ 4))))) fun _ gm=>at_ [(Zf (tyXcP K p) c.1),(Zf tyInt c.2.1),(Zf tyInt c.2.2),(Zf tyInt gm.1),(Zf tyInt gm.2)] (s_if (ziv_ (zcL_ (zK_ (zkG_ zpm_ (zc_ 3 rfl)))) (ziv_ (zK_ (zkG_ zpm_ (zc_ 3 rfl))) (zK_ (zE_ zo1_ (zc_ 3 rfl) (zc_ 4 rfl))))) (zaW_ (zs_ zz_) (EvF.ow (zeL_ false))) (zo_ (.same (.same (.same (.dead (.dead .nil))))))))) fun _=>(at_ [(Zf (tyXcP K p) c.1),(Zf tyInt c.2.1),(Zf tyInt c.2.2),Zd,Zd] (zaW_ (zs_ zz_) (EvF.ow (zeL_ true))))))))
theorem zdE_ (e:En K mg)(hZ:zel_ P w K mg base)(hW:zcp_ P w K mg base):zbS_ P w K mg base:=
 zc4_ e.m e.f35 (okC (N:=["_law_fields_here", "_law_others", "_law_word", "_law_way", "_law_place", "_law_e"]) (C:=(csCons Qq5 (csCons (tyL tyStr) (csCons tyStr (csCons tyInt (csLast tyInt)))))) (O:=(owF tyBl)) (t:=fun E=>zd4_ K) (g:=fun c=>za5_ c.1 c.2.1 c.2.2.1 c.2.2.2.1 c.2.2.2.2) 5 1 (zp_ (zp_ (zp_ (zp_ zn_)))) (fun _ _ _ _ _ _ E nd hr=>(zd_ (zjr_ rfl rfl (zhh_ (zjV_ hZ (hm hr) (zb_ (za_ 0) (zb_ (zoj_ "list" (zcJ_ rfl) (e.m.gb e.b4) (zb_ (za_ 1) zh_)) (zb_ (za_ 2) (zb_ (za_ 3) zh_)))))) (zoU_ (i:=5) (e.m.gk e.k0) nd rfl rfl (fun xx=>(zg_ (zG_ (zjO_ (ad:=xx) hW (hmN (hr.nX xx)) rfl (zb_ (za_ 5) (zb_ zk_ (zb_ (za_ 4) zh_))))))) znc_)) (zg_ (zG_ zfg_)))) fun c E=>at_ [(Zf Qq5 c.1),(Zf (tyL tyStr) c.2.1),(Zf tyStr c.2.2.1),(Zf tyInt c.2.2.2.1),(Zf tyInt c.2.2.2.2),Zd]
 (zbv_ (LS:=(fun _:Unit=>[(Zf Qq5 c.1),(Zf (tyL tyStr) c.2.1),(Zf tyStr c.2.2.1),(Zf tyInt c.2.2.2.1),(Zf tyInt c.2.2.2.2),Zd])) (zov_ (zf_ (zc_ 0 rfl) (zf_ (EvO.fr (zlh_ zkk_ (ze_ (zc_ 1 rfl)))) (zf_ (zc_ 2 rfl) (ze_ (zc_ 3 rfl))))) (zo_ (S4 (.same (.same .nil)))) fun cI=>(zpq_ (i:=5) (ziY_ e.fx.cat_NoTray_ShopError (ziY_ e.fx.cat_NoOrder_ShopError zgC_)) rfl (fun _=>rfl) (fun p=>at_ [(Zf Qq5 c.1),(Zf (tyL tyStr) c.2.1),(Zf tyStr c.2.2.1),(Zf tyInt c.2.2.2.1),(Zf tyInt c.2.2.2.2),(Zf (tyXcP K p) cI)] (zaW_ (zs_ zz_) (EvF.ow (zl_ (zf_ (zc_ 5 rfl) (zf_ (zq_ 2) (ze_ (zc_ 4 rfl)))))))) eh_0)) fun _=>(at_ [(Zf Qq5 c.1),(Zf (tyL tyStr) c.2.1),(Zf tyStr c.2.2.1),(Zf tyInt c.2.2.2.1),(Zf tyInt c.2.2.2.2),Zd] (zaW_ (zs_ zz_) (EvF.ow (zeL_ false))))))
theorem zif_ (e:En K mg):zgd_ P w K mg base:=
 zc4_ e.m e.f36 (okC (N:=["some", "numbers", "taken", "deck", "number"]) (C:=(csCons (tyL (tyL tyStr)) (csLast (tyL tyInt)))) (O:=(owL tyStr)) (t:=fun E=>zjN_ K) (g:=fun c=>zef_ c.1 c.2) 2 3 (zp_ zn_) (fun _ _ _ _ _ _ E nd hr=>(zd_ (zec_ (cl:=[]) (lv:=["pocket"]) (fr:=[]) rfl (csm rfl fr0) (ze9_ (za_ 0)) (fun _ _ _ _=>(pgc 0)) (fun _ _ _ _=>zj0_) (fun _ _ _ _=>zk_) (pgn 2)) (zd_ (pst 3 (zcE_ zh_)) (zd_ (zd7_ PassesOwn.never rfl (ze9_ (za_ 1)) (pgn 4) (zd_ (zaZ_ (zlX_ zdB_ zap_ zat_ zca_ (za_ 3) (zb_ (zbg_ ix_M (zbg_ ix_M (za_ 0) (za_ 4) (fun _ _=>rfl)) (zbg_ ix_M (za_ 2) (za_ 4) (fun _ _=>rfl)) (fun _ _=>rfl)) zh_))) (zg_ (zqV_ (zan_ zaP_ (zbg_ ix_M (za_ 2) (za_ 4) (fun _ _=>rfl)) zk_) (zq9_ (za_ 2) (za_ 4) set_M))))) (zg_ (zG_ (za_ 3))))))) fun c E=>at_ [(Zf (tyL (tyL tyStr)) c.1),(Zf (tyL tyInt) c.2),Zd,Zd,Zd]
 (zb1_ (i:=2) rfl (zH_ zi_) (ze1_ (ei_l (zc_ 0 rfl)) (zaJ_ 0) (fun _=>dead1) (fun cI=>zjU_) (fun cI=>(zq_ 0))) fun dM=>(at_ [(Zf (tyL (tyL tyStr)) c.1),(Zf (tyL tyInt) c.2),(Zo (owL tyInt) dM),Zd,Zd] (zb1_ (i:=3) rfl (zH_ zj_) (zce_ tyStr) fun iy=>(at_ [(Zf (tyL (tyL tyStr)) c.1),(Zf (tyL tyInt) c.2),(Zo (owL tyInt) dM),(Zo (owL tyStr) iy),Zd] (zbv_ (LS:=(fun bY:(Jy×(List Int))=>[(Zf (tyL (tyL tyStr)) c.1),(Zf (tyL tyInt) c.2),(Zo (owL tyInt) bY.2),(Zo (owL tyStr) bY.1),Zd])) (zdc_ (L':=[(Zf (tyL (tyL tyStr)) c.1),(Zf (tyL tyInt) c.2),(Zo (owL tyInt) dM),(Zo (owL tyStr) iy),Zd]) (S4 (.same .nil)) (ziD_ (LS:=(fun bY:(Jy×(List Int))=>[(Zf (tyL (tyL tyStr)) c.1),(Zf (tyL tyInt) c.2),(Zo (owL tyInt) bY.2),(Zo (owL tyStr) bY.1),Zd])) (s0:=(iy,dM)) (ei_l (zc_ 1 rfl)) (zaJ_ 4) fun bY bT=>at_ [(Zf (tyL (tyL tyStr)) c.1),(Zf (tyL tyInt) c.2),(Zo (owL tyInt) bY.2),(Zo (owL tyStr) bY.1),(Zf tyInt bT)] (ziO_ (i:=3) rfl zj_ (zE_ zc3_ (zE_ zc3_ (zc_ 0 rfl) (zc_ 4 rfl)) (zE_ zc3_ (zeM_ 2 rfl) (zc_ 4 rfl))) fun fg=>(at_ [(Zf (tyL (tyL tyStr)) c.1),(Zf (tyL tyInt) c.2),(Zo (owL tyInt) bY.2),(Zo (owL tyStr) (bY.1++[fg])),(Zf tyInt bT)] (zev_ (zqq_ (i:=2) rfl zi_ (zE_ zbr_ (zE_ zc3_ (zeM_ 2 rfl) (zc_ 4 rfl)) (zq_ 1)) (zc_ 4 rfl) fun kC=>(at_ [(Zf (tyL (tyL tyStr)) c.1),(Zf (tyL tyInt) c.2),(Zo (owL tyInt) kC),(Zo (owL tyStr) (bY.1++[fg])),(Zf tyInt bT)] (zo_ (S4 (.dead .nil)))))))))) fun bY=>(at_ [(Zf (tyL (tyL tyStr)) c.1),(Zf (tyL tyInt) c.2),(Zo (owL tyInt) bY.2),(Zo (owL tyStr) bY.1),Zd] (ziU_ (i:=3) rfl))))))))
theorem zgh_ (e:En K mg)(l_:zgd_ P w K mg base):zct_ P w K mg base:=
 zkz_ e.w0 e.f37 (okC (N:=["self"]) (C:=(csLast (Qq3 K))) (O:=(owL tyStr)) (t:=fun E=>zg3_ K) (g:=fun c=>zcs_ c) 1 0 zn_ (fun _ _ _ _ _ _ E nd hr=>(zg_ (zG_ (zm_ l_ (hm hr) (zb_ (zbn_ e.w0.cls e.a0.no (za_ 0)) (zb_ (zbn_ e.w0.cls e.a1.no (za_ 0)) zh_)))))) fun c E=>at_ [(Zf (Qq3 K) c)]
 (zaW_ (zH_ zj_) (zaK_ (zf_ (zd8_ (ns:=Qn0) (by decide +kernel) (n:=0) rfl at_0 (zc_ 0 rfl)) (ze_ (zd8_ (ns:=Qn0) (by decide +kernel) (n:=1) rfl (at_s at_0) (zc_ 0 rfl)))))))
theorem ze7_ (e:En K mg)(h7:zcx_ P w K mg base):zdy_ P w K mg base:=
 zc4_ e.m e.f38 (okC (N:=["_law_fields_here", "_law_word"]) (C:=(csCons Qq5 (csLast tyStr))) (O:=(owF tyBl)) (t:=fun E=>zfY_ K) (g:=fun c=>zbY_ c.1 c.2) 2 0 (zp_ zn_) (fun _ _ _ _ _ _ E nd hr=>(zd_ (zjr_ rfl rfl (zhh_ (zjV_ h7 (hm hr) (zb_ (zgW_ (zb_ (zaq_ (l:=[109,97,116,101])) (zb_ (zaq_ (l:=[97])) (zb_ (zaq_ (l:=[98])) (zb_ (zbg_ ix_M (za_ 0) zk_ (fun _ _=>rfl)) (zb_ (zbg_ ix_M (za_ 0) zk_ (fun _ _=>rfl)) (zb_ (za_ 1) zh_))))))) (zb_ (zl7_ (zhk_ (zaq_ (l:=[97])) (zcE_ zh_) zlO_) rfl rfl (by simp) (by decide)) zh_)))) (ph_1 (e.m.gk e.k2) (fun xx=>(zg_ (zG_ zfg_))) znc_)) (zg_ (zG_ zfg_)))) fun c E=>at_ [(Zf Qq5 c.1),(Zf tyStr c.2)]
 (zbv_ (LS:=(fun _:Unit=>[(Zf Qq5 c.1),(Zf tyStr c.2)])) (zov_ (zf_ (zgR_ (zv_ (zv_ (zv_ (zv_ (zv_ zC_))))) (zf_ (zah_ [109,97,116,101]) (zf_ (zah_ [97]) (zf_ (zah_ [98]) (zf_ (zaM_ (i:=0) at_0 (zc_ 0 rfl)) (zf_ (zaM_ (i:=1) (at_s zcd_) (zc_ 0 rfl)) (ze_ (zc_ 1 rfl)))))))) (ze_ (EvO.fr (zmA_ (KY:=kStr) (T:=(tyL tyStr)) (zgV_ zjX_ (zah_ [97]) (EvO.fr (zce_ tyStr)) zmm_))))) (zo_ (.same (.same .nil))) fun cI=>(eh_1 (ziY_ e.fx.cat_NoTray_NoTray (zrk_ e.fx.cat_NoOrder_NoTray zgC_)) (zaW_ (zs_ zz_) (EvF.ow (zeL_ true))) eh_0)) fun _=>(at_ [(Zf Qq5 c.1),(Zf tyStr c.2)] (zaW_ (zs_ zz_) (EvF.ow (zeL_ false))))))
theorem zcT_ (e:En K mg)(ib:zbT_ P w K mg base)(h_:zcy_ P w K mg base)(ia:zaE_ P w K mg base):zbu_ P w K mg base:=
 zkz_ e.w0 e.f39 (okXU (N:=["self", "card"]) (C:=(csCons (Qq3 K) (csLast tyStr))) (LS:=fun _:Unit=>[Zd,Zd]) (t:=fun E=>zc5_ K E) (g:=fun c=>zaB_ c.1 c.2) 2 0 (zp_ zn_) (fun _ _ _ _ _ _ E nd hr=>(zg_ (zab_ (PW.pt (zlZ_ (zS_ zc1_ (zbn_ e.w0.cls e.a3.no (za_ 0)) zfr_) (zma_ (zaa_ (zm_ ib (hm hr) (zb_ (za_ 1) (zb_ (zbn_ e.w0.cls e.a3.no (za_ 0)) (zb_ (zm_ h_ (hm hr) (zb_ (zbn_ e.w0.cls e.a2.no (za_ 0)) zh_)) zh_)))))))) (zg_ (zhC_ zg5_ rfl ia (hm hr) (zb_ zk_ (zb_ (zdh_ zaw_ (e.m.gb e.b1) (zb_ (zbn_ e.w0.cls e.a1.no (za_ 0)) zh_)) zh_)))) zN_))) fun c E=>at_ [(Zf (Qq3 K) c.1),(Zf tyStr c.2)]
 (s_if (zoK_ (zK_ (zE_ zg2_ (zd8_ (ns:=Qn0) (by decide +kernel) (n:=3) rfl (at_s (at_s (at_s at_0))) (zc_ 0 rfl)) zg4_)) (zK_ (zl_ (zf_ (zc_ 1 rfl) (zf_ (zgX_ (zd8_ (ns:=Qn0) (by decide +kernel) (n:=3) rfl (at_s (at_s (at_s at_0))) (zc_ 0 rfl))) (ze_ (EvO.fr (zaK_ (ze_ (zd8_ (ns:=Qn0) (by decide +kernel) (n:=2) rfl (at_s (at_s at_0)) (zc_ 0 rfl))))))))))) (zkw_ (as:=fun c:(Int×Int)=>[("deck",Av.i c.1),("place",Av.i c.2)]) (zv_ zC_) zo5_ (zf_ (zq_ 1) (ze_ (zh2_ zdz_ (ze_ (zd8_ (ns:=Qn0) (by decide +kernel) (n:=1) rfl (at_s at_0) (zc_ 0 rfl))))))) (zo_ (.dead (.dead .nil)))))
theorem zet_ (e:En K mg):zcF_ P w K mg base:=
 zkz_ e.w0 e.f40 (okU (N:=["self", "card", "number"]) (O:=(Qq0 K)) (O2:=(Qq0 K)) (C:=(csCons tyStr (csLast tyInt))) (t:=fun E=>zfa_ K) (g:=fun x c=>zbF_ x c.1 c.2) (LS:=fun w_=>(fun x':Qq2=>[(Zo (owAt w_ (Qq0 K)) x'),Zd,Zd])) 2 0 (zp_ zn_) (fun _ _ _ _ _ _ E nd hr=>(zd_ (zaZ_ (zlX_ zdB_ zap_ zat_ zca_ (zbg_ ix_M (zbn_ e.w0.cls e.a0.no (za_ 0)) (za_ 2) (fun _ _=>rfl)) (zb_ (za_ 1) zh_))) (zg_ (zaZ_ (zlX_ zdB_ zap_ zat_ zca_ (zbn_ e.w0.cls e.a1.no (za_ 0)) (zb_ (za_ 2) zh_)))))) fun w_ x c E=>at_ [(Zo (owAt w_ (Qq0 K)) x),(Zf tyStr c.1),(Zf tyInt c.2)]
 (zgr_ (i:=0) (zqo_ (zmw_ (ns:=Qn0) (by decide +kernel) (n:=0) rfl pat_0 (zfT_ (zdw_ rfl))) (zc_ 2 rfl)) zj_ (zc_ 1 rfl) fun x8=>(at_ [(Zo (owAt w_ (Qq0 K)) x8),(Zf tyStr c.1),(Zf tyInt c.2)] (zev_ (zgr_ (i:=0) (zmw_ (ns:=Qn0) (by decide +kernel) (n:=1) rfl (pat_s pat_0) (zfT_ (zdw_ rfl))) zi_ (zc_ 2 rfl) fun fR=>(at_ [(Zo (owAt w_ (Qq0 K)) fR),(Zf tyStr c.1),(Zf tyInt c.2)] (zo_ (.same (.dead (.dead .nil))))))))))
theorem zdD_ (e:En K mg)(l4:zcF_ P w K mg base):zb0_ P w K mg base:=
 zkz_ e.w0 e.f41 (okU (N:=["self", "card", "stays"]) (O:=(Qq0 K)) (O2:=(Qq0 K)) (C:=(csCons tyStr (csLast tyBl))) (t:=fun E=>zem_ K) (g:=fun x c=>za0_ x c.1 c.2) (LS:=fun w_=>(fun x':Qq2=>[(Zo (owAt w_ (Qq0 K)) x'),Zd,Zd])) 2 0 (zp_ zn_) (fun _ _ _ _ _ _ E nd hr=>(zd_ (zaZ_ (zgK_ l4 (hm hr) (za_ 0) (zb_ (za_ 1) (zb_ (zqW_ (zpt_ (za_ 2)) zk_ zk_) zh_)))) (zg_ (zdv_ e.w0.cls e.a3.no (za_ 0) (za_ 1))))) fun w_ x c E=>at_ [(Zo (owAt w_ (Qq0 K)) x),(Zf tyStr c.1),(Zf tyBl c.2)]
 (zhb_ (i:=0) (m:="lay_in") (ns:=Qn0) (by decide +kernel) (zc0_ (zt_ (zaQ_ (zH_ zj_)) (zt_ (zH_ zi_) (zt_ (zs_ (zao_ (zF_ zi_ (zB_ zi_)))) (zt_ (zs_ (zak_ zj_)) (zt_ (zcV_ zz_) (zt_ (zs_ zz_) zax_))))))) (zfT_ (zdw_ rfl)) (zF_ zj_ (zB_ zi_)) (zf_ (zc_ 1 rfl) (ze_ (ev_if (zpV_ (zc_ 2 rfl)) (zq_ 0) (zq_ 1)))) fun fQ=>(at_ [(Zo (owAt w_ (Qq0 K)) fQ),(Zf tyStr c.1),(Zf tyBl c.2)] (zev_ (zpQ_ (i:=0) (n:=3) (by decide +kernel) rfl (by decide) (znT_ (znT_ (znT_ zoH_))) (zak_ zj_) (ziG_ (fun _ _ _=>zrf_) (zc_ 1 rfl)) (zfT_ (zdw_ rfl)) fun x9=>(at_ [(Zo (owAt w_ (Qq0 K)) x9),(Zf tyStr c.1),(Zf tyBl c.2)] (zo_ (.same (.dead (.dead .nil))))))))))
theorem zf7_ (e:En K mg)(l6:zbu_ P w K mg base)(h9:zfA_ P w K mg base)(lZ:zb0_ P w K mg base):zcn_ P w K mg base:=
 zkz_ e.w0 e.f42 (okMc (N:=["self", "card", "has_mate"]) (O:=(Qq0 K)) (O2:=(Qq0 K)) (C:=(csLast tyStr)) (chk:=fun x c=>zaD_ x c) (g:=fun x c=>zaC_ x c) (LS:=fun w_=>(fun x':Qq2=>[(Zo (owAt w_ (Qq0 K)) x'),Zd,Zd])) 1 1 zn_ (fun _ _ _ _ _ _ E nd hr=>(zd_ (zaZ_ (zgx_ l6 (hm hr) zb7_ (za_ 0) (zb_ (za_ 1) zh_))) (zd_ (pst 2 (ziM_ hr.u60 (zm_ h9 (hm hr) (zb_ (za_ 1) (zb_ (zbn_ e.w0.cls e.a2.no (za_ 0)) zh_))) (zbn_ e.w0.cls e.a4.no (za_ 0)))) (zg_ (zaZ_ (zgK_ lZ (hm hr) (za_ 0) (zb_ (za_ 1) (zb_ (zcI_ (zcc_ hr.u60) (za_ 2) (zbn_ e.w0.cls e.a5.no (za_ 0))) zh_)))))))) (fun w_ x c E=>atF [(Zo (owAt w_ (Qq0 K)) x),(Zf tyStr c),Zd] (zmH_ (m:="check_next") (ns:=Qn0) (by decide +kernel) (zdi_ (P:=Qq6) 0 rfl) (ze_ (zc_ 1 rfl)))) fun w_ x c E=>at_ [(Zo (owAt w_ (Qq0 K)) x),(Zf tyStr c),Zd]
 (zc7_ (i:=2) rfl zz_ (zkJ_ false (zl_ (zf_ (zc_ 1 rfl) (ze_ (zd8_ (ns:=Qn0) (by decide +kernel) (n:=2) rfl (at_s (at_s at_0)) (zdi_ (P:=Qq6) 0 rfl))))) (zd8_ (ns:=Qn0) (by decide +kernel) (n:=4) rfl (at_s (at_s (at_s (at_s at_0)))) (zdi_ (P:=Qq6) 0 rfl))) fun jP=>(at_ [(Zo (owAt w_ (Qq0 K)) x),(Zf tyStr c),(Zf tyBl jP)] (zev_ (zhb_ (i:=0) (m:="lay_next") (ns:=Qn0) (by decide +kernel) (zc0_ (zt_ (zaQ_ (zH_ zj_)) (zt_ (zH_ zi_) (zt_ (zs_ (zao_ (zF_ zi_ (zB_ zi_)))) (zt_ (zs_ (zak_ zj_)) (zt_ (zcV_ zz_) (zt_ (zs_ zz_) zax_))))))) (zfT_ (zdw_ rfl)) (zF_ zj_ (zB_ zz_)) (zf_ (zc_ 1 rfl) (ze_ (zE_ zoD_ (zc_ 2 rfl) (zd8_ (ns:=Qn0) (by decide +kernel) (n:=5) rfl (at_s (at_s (at_s (at_s (at_s at_0))))) (zdi_ (P:=Qq6) 0 rfl))))) fun km=>(at_ [(Zo (owAt w_ (Qq0 K)) km),(Zf tyStr c),(Zf tyBl jP)] (zo_ (.same (.dead (.dead .nil))))))))))
theorem zfd_ (e:En K mg)(gI:zcn_ P w K mg base)(hW:zcp_ P w K mg base)(dU:zbb_ P w K mg base)(gd:zct_ P w K mg base):zdx_ P w K mg base:=
 zc4_ e.m e.f43 (okRk (N:=["_law_machine", "_law_card_here", "_law_fed", "_law_told", "_law_e"]) (O:=(Qq0 K)) (O2:=(Qq0 K)) (Or:=(owF tyBl)) (C:=(csCons tyStr (csLast (tyL tyStr)))) (t:=fun E=>zfO_ K) (g:=fun x c=>zb4_ x c.1 c.2) 0 2 2 (zp_ zn_) (fun _ _ _ _ _ _ E nd hr=>(zd_ (pst 3 zfg_) (zd_ (zjr_ rfl rfl (zhh_ (znl_ gI (hm hr) (za_ 0) (zb_ (za_ 1) zh_))) (zoU_ (i:=4) (e.m.gk e.k0) nd rfl rfl (fun xx=>(zg_ (pst 3 (zjO_ (ad:=xx) hW (hmN (hr.nX xx)) rfl (zb_ (za_ 4) (zb_ zk_ (zb_ (zdh_ zaw_ (e.m.gb e.b1) (zb_ (za_ 2) zh_)) zh_))))))) znc_)) (zd_ (zab_ (PW.pt (zcO_ (zcZ_ (zpt_ (za_ 3))) (ze5_ (zcZ_ (zaa_ (zm_ dU (hm hr) (zb_ (zaI_ gd (hm hr) (za_ 0)) (zb_ (za_ 2) zh_)))))))) (zg_ (zG_ zfg_)) zN_) (zg_ (zG_ (zj9_ (zcI_ zqr_ (zgx_ (Gm.imp (sp':=z3_ K) gI zlK_) (hm hr) passX0 (za_ 0) (zb_ (zbg_ ix_M (za_ 2) (zpS_ zk_) (fun _ _=>rfl)) zh_)) zfr_) (zkY_ (zm_ dU (hm hr) (zb_ (zaI_ gd (hm hr) (za_ 0)) (zb_ (zan_ zaP_ (za_ 2) (zbx_ sl_M (za_ 2) (po_M (zpS_ zk_)) zeN_)) zh_))))))))))) fun w_ x c E=>at_ [(Zo (owAt w_ (Qq0 K)) x),(Zf tyStr c.1),(Zf (tyL tyStr) c.2),Zd,Zd]
 (zc7_ (i:=3) rfl zz_ (zeL_ false) fun fq=>(at_ [(Zo (owAt w_ (Qq0 K)) x),(Zf tyStr c.1),(Zf (tyL tyStr) c.2),(Zf tyBl fq),Zd] (zbv_ (LS:=(fun t7:(Qq2×Bool)=>[(Zo (owAt w_ (Qq0 K)) t7.1),(Zf tyStr c.1),(Zf (tyL tyStr) c.2),(Zf tyBl t7.2),Zd])) (zqt_ (i:=0) (m:="feed") (ns:=Qn0) (by decide +kernel) (zc0_ (zt_ (zaQ_ (zH_ zj_)) (zt_ (zH_ zi_) (zt_ (zs_ (zao_ (zF_ zi_ (zB_ zi_)))) (zt_ (zs_ (zak_ zj_)) (zt_ (zcV_ zz_) (zt_ (zs_ zz_) zax_))))))) (zfT_ (zdw_ rfl)) (zB_ zj_) (ze_ (zc_ 1 rfl)) (fun bT=>(zo_ (S4 (.same .nil)))) fun bu=>(zpq_ (i:=4) (ziY_ e.fx.cat_NoTray_ShopError (ziY_ e.fx.cat_NoOrder_ShopError zgC_)) rfl (fun _=>rfl) (fun p=>at_ [(Zo (owAt w_ (Qq0 K)) x),(Zf tyStr c.1),(Zf (tyL tyStr) c.2),(Zf tyBl fq),(Zf (tyXcP K p) bu)] (zev_ (zc7_ (i:=3) rfl zz_ (zl_ (zf_ (zc_ 4 rfl) (zf_ (zq_ 1) (ze_ (zh2_ zdz_ (ze_ (zc_ 2 rfl))))))) fun t8=>(at_ [(Zo (owAt w_ (Qq0 K)) x),(Zf tyStr c.1),(Zf (tyL tyStr) c.2),(Zf tyBl t8),(Zf (tyXcP K p) bu)] (zo_ (S4 (.dead .nil))))))) eh_0)) fun t7=>(at_ [(Zo (owAt w_ (Qq0 K)) t7.1),(Zf tyStr c.1),(Zf (tyL tyStr) c.2),(Zf tyBl t7.2),Zd] (zbv_ (LS:=(fun _:Unit=>[(Zo (owAt w_ (Qq0 K)) t7.1),(Zf tyStr c.1),(Zf (tyL tyStr) c.2),(Zf tyBl t7.2),Zd])) (s_if (ziv_ (zcL_ (zpV_ (zc_ 3 rfl))) (zcL_ (zK_ (zl_ (zf_ (EvO.fr (zaT_ (m:="back") (ns:=Qn0) (by decide +kernel) (zdi_ (P:=Qq6) 0 rfl))) (ze_ (zc_ 2 rfl))))))) (zql_ (i:=0) rfl zz_ (zeL_ false)) (zo_ (S4 (.same .nil)))) fun _=>(at_ [(Zo (owAt w_ (Qq0 K)) t7.1),(Zf tyStr c.1),(Zf (tyL tyStr) c.2),(Zf tyBl t7.2),Zd] (by refine zpg_ (tc:=(tMeth (gA K "Mater") "feed" (z3_ K) [] E0 (mVar 0) (tCons (tOp (mIx K) (mVar 2) (mNeg (tC (.int 1)))) tNil))) (te2:=(mAndV (tOp mIs (mVar 5) (tC .non)) (tCall (zJ_ K) [] E0 (tCons (tMeth (gA K "Mater") "back" (zai_ K) [] E0 (mVar 0) tNil) (tCons (tOp mAdd (mVar 2) (tSl (mSl K) (mVar 2) (mPart (mNeg (tC (.int 1)))) tNoPart)) tNil))))) zz_ (zh6_ (m:="feed") (ns:=Qn0) (by decide +kernel) (zc0_ (zt_ (zaQ_ (zH_ zj_)) (zt_ (zH_ zi_) (zt_ (zs_ (zao_ (zF_ zi_ (zB_ zi_)))) (zt_ (zs_ (zak_ zj_)) (zt_ (zcV_ zz_) (zt_ (zs_ zz_) zax_))))))) (zs_ zgm_) (zqS_ (zmf_ rfl)) (zjJ_ (zmj_ zj_ (zE_ zc3_ (zc_ 2 rfl) (zpr_ (zq_ 1)))))) (Nat.le_of_ble_eq_true rfl) (fun gZ=>atF [(Zo (owAt w_ (Qq0 K)) gZ.2),(Zf tyStr c.1),(Zf (tyL tyStr) c.2),(Zf tyBl t7.2),Zd,(Zf tyNon gZ.1)] (zmF_ (zE_ zof_ (zc_ 5 rfl) zg4_) (zl_ (zf_ (EvO.fr (zaT_ (m:="back") (ns:=Qn0) (by decide +kernel) (zdi_ (P:=Qq6) 0 rfl))) (ze_ (EvO.fr (zq6_ zps_ (zc_ 2 rfl) (EvO.fr (zis_ (zc_ 2 rfl) (ziE_ (zpr_ (zq_ 1))) zol_))))))))) ?_; intro σ fX H Q z; exact match σ,fX,z with | [o0,o1,o2,o3,o4],_,z=>z))))))))
end
local macro_rules | `(tactic| walk_at "mo") => `(tactic| simp only [oP2, oMd, oDv, oMu, oAd, oSu, oEI, oNI, oES, oLI, oLE, oGI, oGE, oAt, oAp, oRt, oSm, oNt, Mo.okB, Mo.exB, Mo.noB, Mo.noexO, Mo.optS, zoe_, znd_, zod_, znk_, zqA_, znW_, zox_, zml_, zoh_, grd_T, Bool.not_true, Bool.not_false, if_true, if_false, Bool.false_eq_true, Option.map_some, Option.map_none, ite_true, ite_false, Int.reduceLT, Int.reduceLE, Int.reduceNeg, Int.reduceSub, Int.reduceAdd, Int.reduceMul, Nat.reduceAdd, Nat.reduceLT, decide_true, decide_false, Option.isSome_none, Option.isSome_some, Option.isNone_none, Option.isNone_some, Bool.and_true, Bool.and_false])
theorem zjL_ (ns:List Int)(k:Int)(h:0<=k):∃ c,zaj_ ns k=.ok c:=by
 unfold zaj_ zbV_
 walk_at "mo"
 by_cases hk:k<(ns.length:Int)
 ·obtain ⟨x,e,_⟩:=zd3_ h hk
  rw [decide_eq_true hk,if_pos rfl,e]
  exact ⟨x,rfl⟩
 ·rw [decide_eq_false hk,if_neg (by decide)]
  exact ⟨0,rfl⟩
theorem znL_:zdg_=.ok SG:=rfl
theorem lim40 {α:Type}{c:Crd}(h:isC c)(k:Mo α):Mo.lim c.length k=k:=Mo.lim_ok (by rw [h.1]; lia)
theorem zoR_ {c:Crd}{col:Int}(h:isC c)(hc:colOk col):zb8_ c col=.ok [sg c col]:=by
 unfold zb8_ zdK_
 walk_at "mo"
 rw [lim40 h,(sg_at h hc).1]
 rfl
theorem ziQ_ {x:Nat}(h:x∈SG):zdM_ [x]=.ok true:=by
 unfold zdM_ zeW_
 walk_at "mo"
 rw [Mo.lim_ok (by simp)]
 have:inS [x] SG=true:=decide_eq_true h
 simp [this]
theorem zpB_ {x:Nat}(h:x∈SG):zdH_ [x]=.ok (rk1 x:Int):=by
 unfold zdH_ zfm_
 walk_at "mo"
 rw [ziQ_ h]
 walk_at "mo"
 rw [znw_ h,Mo.grd_ok (by lia)]
 rfl
theorem zk4_ {menu:List Nat}(hm:∀ x∈menu,x∈SG)(cF:menu≠[])(hl:menu.length<=37)(cell:Int)(mark:Jx)(i7:mark.length=4/\∀ x∈mark,x∈SG):∃ c,zbP_ cell menu mark=.ok c/\isC c:=by
 unfold zbP_ zdQ_
 walk_at "mo"
 rw [Mo.grd_ok (by decide)]
 walk_at "mo"
 refine zbw_ (G:=fun m=>∃ c,fnO (thenO m _)=.ok c/\isC c) (fun d (s:Int×List Nat)=>s.2.length=d.length/\(∀ x∈s.2,x∈SG)/\0<=s.1/\s.1<4294967296) ⟨rfl,by simp,by show 0<=cell % 2147483647+3; lia,by show cell % 2147483647+3<4294967296; lia⟩ ?_ ?_
 ·rintro d x ⟨n,cs⟩ ⟨r,hr⟩ ⟨q1,q2,q3,q4⟩
  have hd:d.length<=36:=by
   have:=congrArg List.length hr
   rw [zho_,List.length_append] at this
   simp at this; lia
  have hx:x∈rngI 0 (Int.toNat 36):=by rw [hr]; simp
  have hx:=zd2_.mp hx
  have cU:x<36:=by simpa using hx.2
  simp only at q1 q2 q3 q4
  have hmul:IntMulOk n n:=zcY_ (.inl ⟨by lia,by lia⟩)
  walk_at "mo"
  rw [Mo.grd_ok hmul]
  walk_at "mo"
  have lG:0<=(n*n+17*x+5) % 2147483629/\(n*n+17*x+5) % 2147483629<2147483629:=⟨Int.emod_nonneg _ (by decide),Int.emod_lt_of_pos _ (by decide)⟩
  generalize (n*n+17*x+5) % 2147483629=n' at lG
  have cV:(0:Int)<menu.length:=by have:=List.length_pos_iff.mpr cF; lia
  obtain ⟨y,ey,hy⟩:=zoE_ (n' / 3) cF
  rw [Mo.lim_ok (by lia)]
  walk_at "mo"
  rw [zml_ cV]
  walk_at "mo"
  rw [Mo.lim_ok (by lia),ey]
  walk_at "mo"
  rw [Mo.lim_ok (by simp; lia)]
  refine ⟨_,rfl,?_,?_,?_,?_⟩
  ·simp; lia
  ·intro z hz
   rcases List.mem_append.mp hz with hz | hz
   ·exact q2 z hz
   ·rw [List.mem_singleton.mp hz]; exact hm y hy
  ·exact lG.1
  ·exact Int.lt_trans lG.2 (by decide)
 rintro s ⟨h1,h2,_,_⟩
 rw [zho_] at h1
 have h1':s.2.length=36:=h1
 walk_at "mo"
 rw [Mo.lim_ok (by lia)]
 refine ⟨_,rfl,?_,?_⟩
 ·rw [List.length_append,h1',i7.1]
 ·intro z hz
  rcases List.mem_append.mp hz with hz | hz
  ·exact h2 z hz
  ·exact i7.2 z hz
theorem zop_ {v:Int}(h0:0<=v)(h1:v<10000):v.natAbs.log2<1920/\(zfL (strI v) 4).length=4/\∀ x∈zfL (strI v) 4,x∈SG:=by
 obtain ⟨m,rfl⟩:∃ m:Nat,v=m:=⟨v.toNat,by lia⟩
 have hm:m<10 ^ 4:=by lia
 have e:zfL (strI (m:Int)) 4=digs 4 m:=by
  unfold zfL; rw [zi0_]; exact zjj_ (w:=4) (by decide) hm
 refine ⟨?_,?_,?_⟩
 ·have:m.log2<14\/m=0:=log2_lt (show m<2 ^ 14 by lia)
  rw [Int.natAbs_natCast]
  rcases this with h | h
  ·lia
  ·rw [h]; decide
 ·rw [e,zey_]
 ·intro x hx
  rw [e] at hx
  have:=zfZ_ 4 m x hx
  have hh:∀ y,48<=y->y<=57->y∈SG:=by
   intro y h1 h2
   have:y=48\/y=49\/y=50\/y=51\/y=52\/y=53\/y=54\/y=55\/y=56\/y=57:=by lia
   rcases this with rfl | rfl | rfl | rfl | rfl | rfl | rfl | rfl | rfl | rfl<;>decide
  exact hh x this.1 this.2
def menuOk (m:Jx):Prop:=(∀ x∈m,x∈SG)/\m≠[]/\m.length<=37
theorem zom_ (way:Int):∃ m,atI [[65,32],[48,90,57],[66,53,65,32,48],SG] (way % 4)=some m/\menuOk m:=by
 obtain ⟨m,e,hm⟩:=zd3_ (xs:=[[65,32],[48,90,57],[66,53,65,32,48],SG]) (k:=way % 4) (Int.emod_nonneg _ (by decide)) (Int.emod_lt_of_pos _ (by decide))
 refine ⟨m,e,?_⟩
 have:∀ m∈[[65,32],[48,90,57],[66,53,65,32,48],SG],(∀ x∈m,x∈SG)/\m≠[]/\m.length<=37:=by decide +kernel
 exact this m hm
theorem zp4_ {cells:List Int}(way:Int)(hl:cells.length<=100):∃ d,zcD_ cells way=.ok d/\d.length=cells.length/\∀ c∈d,isC c:=by
 unfold zcD_ zd1_
 rw [znL_]
 walk_at "mo"
 obtain ⟨m,em,hm1,hm2,hm3⟩:=zom_ way
 rw [em]
 walk_at "mo"
 refine zbw_ (G:=fun m=>∃ c:List Crd,fnO (thenO m _)=.ok c/\c.length=cells.length/\∀ x∈c,isC x) (fun d (s:List Crd)=>s.length=d.length/\∀ x∈s,isC x) ⟨rfl,by simp⟩ ?_ ?_
 ·rintro d ⟨k,cell⟩ s ⟨r,hr⟩ ⟨q1,q2⟩
  have hd:d.length<=100:=by
   have:=congrArg List.length hr
   rw [zdL_,List.length_append] at this; lia
  have hk:k=d.length:=by
   have:=congrArg (fun l=>l[d.length]?) hr
   simp only [zeQ_] at this
   rw [List.getElem?_append_right (Nat.le_refl _),Nat.sub_self] at this
   cases e:cells[d.length]? with
   | none=>rw [e] at this; cases this
   | some z=>rw [e] at this; injection this with this; injection this with h1 h2; exact h1.symm
  subst hk
  simp only
  rw [znV_ (by decide) (by decide)]
  walk_at "mo"
  obtain ⟨g1,g2,g3⟩:=zop_ (v:=(d.length:Int)*271 % 10000) (Int.emod_nonneg _ (by decide)) (Int.emod_lt_of_pos _ (by decide))
  rw [Mo.grd_ok g1]
  walk_at "mo"
  rw [Mo.grd_ok (zih_ (by decide) (by decide))]
  walk_at "mo"
  have i7:∀ mk:List Nat,(mk.length=4/\∀ x∈mk,x∈SG)->∃ s',((zbP_ cell m mk).noex.bind fun jF=>Mo.lim (s.length+1) (Mq (Out.nx (s++[jF])):Mo (Out (List Crd) (List Crd) (List Crd))))=Mq (Out.nx s')/\s'.length=(d++[((d.length:Int),cell)]).length/\∀ x∈s',isC x:=by
   intro mk hk
   obtain ⟨c,ec,hc⟩:=zk4_ hm1 hm2 hm3 cell mk hk
   rw [ec]
   walk_at "mo"
   rw [Mo.lim_ok (by lia)]
   refine ⟨_,rfl,by simp; exact q1,fun x hx=>?_⟩
   rcases List.mem_append.mp hx with hx | hx
   ·exact q2 x hx
   ·rw [List.mem_singleton.mp hx]; exact hc
  by_cases hw:way / 4 % 4=1
  ·rw [decide_eq_true hw]
   walk_at "mo"
   exact i7 _ ⟨rfl,by decide⟩
  ·rw [decide_eq_false hw]
   walk_at "mo"
   exact i7 _ ⟨g2,g3⟩
 ·rintro s ⟨q1,q2⟩
  rw [zdL_] at q1
  exact ⟨s,rfl,q1,q2⟩
theorem ziC_ {ps:List (Crd×Nat)}{n:Nat}(hn:∀ q∈ps,q.2<n)(hl:ps.length<=1000)(h2:n<=1000):zcK_ (pkts n ps) (logs ps)=.ok (ps.map Prod.fst):=by
 unfold zcK_ zef_
 walk_at "mo"
 rw [zfe_ (f:=fun _=>cond1 (Mq true) (Mq 0)) (g:=fun _=>(0:Int)) (fun x _=>rfl) (by rw [zjW_]; simp; lia)]
 have e0:([]:List Int)++(pkts n ps).map (fun _=>(0:Int))=cnts n []:=by
  rw [List.nil_append]; unfold pkts cnts; rw [List.map_map]; rfl
 rw [e0]
 walk_at "mo"
 refine zbw_ (G:=fun m=>fnO (thenO m _)=.ok (ps.map Prod.fst)) (fun d (s:List Crd×List Int)=>s=((ps.take d.length).map Prod.fst,cnts n (ps.take d.length))) rfl ?_ ?_
 ·rintro d x s ⟨r,hr⟩ rfl
  have bw:d.length<ps.length:=by
   have:=congrArg List.length hr
   unfold logs at this
   rw [List.length_map,List.length_append] at this; simp at this; lia
  obtain ⟨⟨c,m⟩,fZ⟩:∃ q,ps[d.length]=q:=⟨_,rfl⟩
  have hx:x=(m:Int):=by
   have:=congrArg (fun l=>l[d.length]?) hr
   unfold logs at this
   simp only [List.getElem?_map] at this
   rw [List.getElem?_append_right (Nat.le_refl _),Nat.sub_self,List.getElem?_eq_getElem bw,fZ] at this
   injection this with this
   exact this.symm
  subst hx
  have hm:m<n:=by have:=hn _ (List.getElem_mem bw); rw [fZ] at this; exact this
  have cM:ps=ps.take d.length++(c,m)::ps.drop (d.length+1):=by
   rw [<- fZ,<- List.drop_eq_getElem_cons bw,List.take_append_drop]
  have eW:ps.take (d.length+1)=ps.take d.length++[(c,m)]:=by rw [List.take_succ,List.getElem?_eq_getElem bw,fZ]; rfl
  rw [zeq_ (by lia),Int.toNat_natCast,zgU_ _ hm,zeq_ (by lia),Int.toNat_natCast,zhg_ _ hm]
  walk_at "mo"
  have ha:=zoO_ (d:=ps.take d.length) (r:=ps.drop (d.length+1)) (c:=c) (m:=m)
  rw [<- cM] at ha
  rw [zeq_ (by lia),Int.toNat_natCast,ha]
  walk_at "mo"
  rw [Mo.lim_ok (by rw [List.length_map,List.length_take]; lia),zfb_,znF_ (by lia) (by lia)]
  walk_at "mo"
  refine ⟨_,rfl,?_⟩
  rw [List.length_append,List.length_singleton,eW,Int.toNat_natCast,zlu_ _ c hm,List.map_append]
  rfl
 ·rintro s rfl
  have:(logs ps).length=ps.length:=by unfold logs; rw [List.length_map]
  rw [this,List.take_length]
  rfl
theorem zkN_ {fP:List (List Crd)}(hl:fP.flatten.length<=1000):ze0_ fP=.ok fP.flatten:=by
 unfold ze0_ zhq_
 walk_at "mo"
 refine zbw_ (G:=fun m=>fnO (thenO m _)=.ok fP.flatten) (fun dn s=>s=dn.flatten) rfl ?_ ?_
 ·rintro dn x s ⟨r,hr⟩ rfl
  have:dn.flatten.length+x.length<=1000:=by
   have:=congrArg (fun l=>(List.flatten l).length) hr
   simp only [List.flatten_append,List.flatten_cons,List.length_append] at this
   lia
  rw [Mo.lim_ok (by lia)]
  exact ⟨_,rfl,by simp⟩
 ·rintro s rfl
  rfl
structure okF (f:Int×Int)(wide:Int):Prop where
 lo:1<=f.1
 w1:1<=wide
 w2:wide<=36
 e:f.2=f.1+wide-1
 hi:f.2<=36
abbrev Fld:=Int×Int
theorem zmC_ {α:Type}{xs:List α}{i j:Int}(h:0<=i)(h2:0<=j)(hl:j.toNat<=xs.length)(se:i<=j):cutG xs (some i) (some j)=(xs.drop i.toNat).take (j.toNat-i.toNat):=by
 unfold cutG
 rw [znH_ h,znH_ h2,Nat.min_eq_left hl,Nat.min_eq_left (by lia)]
def prt (c:Crd)(f:Fld):List Nat:=cutG c (some (f.1-1)) (some f.2)
theorem zon_ {c:Crd}{f:Fld}{wide:Int}(hc:isC c)(h:okF f wide):prt c f=(c.drop (f.1-1).toNat).take wide.toNat/\(prt c f).length=wide.toNat/\∀ x∈prt c f,x∈SG:=by
 have a1:=h.lo; have a2:=h.e; have a3:=h.hi; have a4:=hc.1; have a5:=h.w1
 have e:prt c f=(c.drop (f.1-1).toNat).take wide.toNat:=by
  unfold prt
  rw [zmC_ (by lia) (by lia) (by lia) (by lia)]
  congr 1; lia
 refine ⟨e,?_,fun x hx=>?_⟩
 ·rw [e,List.length_take,List.length_drop]; lia
 ·rw [e] at hx; exact hc.2 x (List.mem_of_mem_drop (List.mem_of_mem_take hx))
theorem zgi_ {c:Crd}(f:Fld)(hc:isC c):zcW_ c f=.ok (prt c f):=by
 unfold zcW_ zfn_
 walk_at "mo"
 rw [Mo.lim_ok (by have:=hc.1; lia)]
 rfl
theorem zoM_:∀ x∈SG,∀ y∈SG,(rk1 x<rk1 y↔x<y)/\(rk1 x=rk1 y↔x=y):=by decide +kernel
theorem zni_ (x y:Nat)(u v:Jx):ltS (x::u) (y::v)=if x=y then ltS u v else decide (x<y):=by
 unfold ltS
 by_cases e:x=y
 ·subst e; rw [if_pos rfl,decide_eq_decide]; simp
 ·rw [if_neg e,decide_eq_decide,List.cons_lt_cons_iff]; simp [e]
theorem zlP_:∀ {u v:List Nat},(∀ x∈u,x∈SG)->(∀ x∈v,x∈SG)->HT.lexLt (u.map fun x=>(rk1 x:Int)) (v.map fun x=>(rk1 x:Int))=ltS u v
 | [],[],_,_=>by decide
 | [],y::v,_,_=>by unfold ltS; simp [HT.lexLt]
 | x::u,[],_,_=>by unfold ltS; simp [HT.lexLt]
 | x::u,y::v,hu,hv=>by
  rw [List.map_cons,List.map_cons,HT.lexLt_cons,zlP_ (fun z hz=>hu z (List.mem_cons_of_mem _ hz)) (fun z hz=>hv z (List.mem_cons_of_mem _ hz)),zni_]
  obtain ⟨m1,m2⟩:=zoM_ x (hu x List.mem_cons_self) y (hv y List.mem_cons_self)
  by_cases e:x=y
  ·rw [if_pos e,if_pos (by rw [e])]
  ·have:rk1 x≠rk1 y:=fun z=>e (m2.mp z)
   rw [if_neg e,if_neg (by lia),decide_eq_decide]; lia
theorem zjG_ {a:List Nat}{lo n:Nat}(ha:∀ x∈a,x∈SG)(hl:lo+n<=a.length)(hb:a.length<=1000):zbW_ a (rngI (lo+1) n)=.ok (((a.drop lo).take n).map fun x=>(rk1 x:Int)):=by
 unfold zbW_ zdT_
 walk_at "mo"
 rw [zfe_ (g:=fun c=>(rk1 (a.getD (c-1).toNat 0):Int)) (fun c hc=>?_) (by simp [zho_]; lia)]
 ·walk_at "mo"
  rw [List.nil_append]
  congr 1
  apply List.ext_getElem?
  intro i
  rw [List.getElem?_map,List.getElem?_map,List.getElem?_take,List.getElem?_drop]
  unfold rngI
  rw [List.getElem?_map]
  by_cases hi:i<n
  ·rw [List.getElem?_range hi,if_pos hi,List.getElem?_eq_getElem (by lia)]
   simp only [Option.map_some]
   rw [show ((lo:Int)+1+(i:Int)-1).toNat=lo+i by lia,List.getD_eq_getElem?_getD,List.getElem?_eq_getElem (by lia)]
   rfl
  ·rw [List.getElem?_eq_none (by simp; lia),if_neg hi]; rfl
 ·have hk:=zd2_.mp hc
  have bw:(c-1).toNat<a.length:=by lia
  have e:atI a (c-1)=some (a.getD (c-1).toNat 0):=by rw [zeq_ (by lia),List.getD_eq_getElem?_getD,List.getElem?_eq_getElem bw]; rfl
  have hm:a.getD (c-1).toNat 0∈SG:=by
   rw [List.getD_eq_getElem?_getD,List.getElem?_eq_getElem bw]; exact ha _ (List.getElem_mem bw)
  have es:zb8_ a c=.ok [a.getD (c-1).toNat 0]:=by
   unfold zb8_ zdK_
   walk_at "mo"
   rw [Mo.lim_ok (by lia),e]
   rfl
  unfold cond1
  rw [es]
  walk_at "mo"
  rw [zpB_ hm]
  rfl
theorem znx_ {a b:List Nat}{lo n:Nat}(ha:∀ x∈a,x∈SG)(hb:∀ x∈b,x∈SG)(la:lo+n<=a.length)(lb:lo+n<=b.length)(ba:a.length<=1000)(bb:b.length<=1000):zal_ a b (rngI (lo+1) n)=.ok (ltS ((a.drop lo).take n) ((b.drop lo).take n)):=by
 unfold zal_ zb6_
 walk_at "mo"
 rw [zjG_ ha la ba,zjG_ hb lb bb]
 walk_at "mo"
 rw [zlP_ (fun x hx=>ha x (List.mem_of_mem_drop (List.mem_of_mem_take hx))) (fun x hx=>hb x (List.mem_of_mem_drop (List.mem_of_mem_take hx)))]
theorem zdu_ {f:Fld}{wide:Int}(h:okF f wide):za1_ f=.ok (rngI (((f.1-1).toNat:Int)+1) wide.toNat):=by
 have a1:=h.lo; have a2:=h.e; have a3:=h.hi; have a5:=h.w1
 unfold za1_ zcz_
 walk_at "mo"
 rw [Mo.grd_ok ⟨by lia,by lia,by lia,by lia⟩]
 show Mq (rngI _ _)=_
 rw [show ((f.1-1).toNat:Int)+1=f.1 by lia,show (f.2+1-f.1).toNat=wide.toNat by lia]
theorem zf4_ {a b:Crd}{f:Fld}{wide:Int}(ha:isC a)(hb:isC b)(h:okF f wide):zal_ a b (rngI (((f.1-1).toNat:Int)+1) wide.toNat)=.ok (ltS (prt a f) (prt b f)):=by
 have a1:=h.lo; have a2:=h.e; have a3:=h.hi; have a5:=h.w1; have l1:=ha.1; have l2:=hb.1
 rw [znx_ ha.2 hb.2 (by lia) (by lia) (by lia) (by lia),(zon_ ha h).1,(zon_ hb h).1]
def noOrd (n k:Int):Xc:=.at "NoOrder" [("deck",.i n),("place",.i k)]
theorem dgl:∀ m:Fin 1001,(dg m.1).length<=1000/\((m.1:Nat):Int).natAbs.log2<1920:=by decide +kernel
theorem zlW_ (n k:Int)(hn:n=1\/n=2)(hk:0<=k/\k<=1000):∃ t,zM_ n k=.ok t:=by
 have hs:∀ v:Int,0<=v->v<=1000->(strI v).length<=1000/\v.natAbs.log2<1920:=fun v h0 h1=>by
  obtain ⟨m,rfl⟩:=Int.eq_ofNat_of_zero_le h0
  have hm:m<1001:=by lia
  rw [zi0_]
  exact dgl ⟨m,hm⟩
 have h1:=hs n (by lia) (by lia)
 have h2:=hs k hk.1 hk.2
 unfold zM_
 walk_at "mo"
 rw [Mo.grd_ok (by decide),Mo.grd_ok h1.2,Mo.okB,Mo.grd_ok h1.1,Mo.grd_ok (by decide),Mo.grd_ok h2.2,Mo.okB,Mo.grd_ok h2.1]
 exact ⟨_,rfl⟩
theorem zbm_ (d:Jy):zL_ d d=.ok true:=by
 unfold zL_ zb2_
 walk_at "mo"
 rw [zg0_ (fun x hx=>by
  have:x.1=x.2:=by
   obtain ⟨i,hi,e⟩:=List.mem_iff_getElem.mp hx
   rw [<- e,List.getElem_zip]
  rw [decide_eq_true this]; rfl)]
 rfl
theorem zn0_ {n m:Nat}(ps:List (Crd×Nat))(c:Crd)(h:m<n):(pkts n ps).set m (((ps.filter fun q=>decide (q.2=m)).map Prod.fst)++[c])=pkts n (ps++[(c,m)]):=by
 rw [zlz_ _ _ h]; unfold appN; rw [zgU_ _ h]
theorem zne_ (ps:List (Crd×Nat))(c:Crd)(m:Nat):logs ps++[(m:Int)]=logs (ps++[(c,m)]):=by
 unfold logs; rw [List.map_append]; rfl
theorem zjH_ (ps:List (Crd×Nat)):(logs ps).length=ps.length:=by unfold logs; rw [List.length_map]
theorem pk_le (ps:List (Crd×Nat))(m:Nat):((ps.filter fun q=>decide (q.2=m)).map Prod.fst).length<=ps.length:=by rw [List.length_map]; exact List.length_filter_le _ _
theorem zcQ_ (c:Crd)(f:Fld)(hc:isC c):zU_ c f=.ok (prt c f):=by
 unfold zU_ zdN_
 have:=hc.1
 walk_at "mo"
 first | rfl | (rw [Mo.lim_ok (by lia)]; rfl)
theorem zkC_ {X:List Crd}{k:Nat}{c:Crd}(h:X[k]?=some c):∃ b,atI X (max 0 ((k:Int)-1))=some b/\b∈X/\((k=0/\b=c/\(X.take k).getLast?=none)\/(0<k/\(X.take k).getLast?=some b)):=by
 have hk:=(List.getElem?_eq_some_iff.mp h).1
 cases k with
 | zero=>exact ⟨c,by rw [show max (0:Int) (((0:Nat):Int)-1)=0 by decide,zeq_ (by decide)]; exact h,List.mem_of_getElem? h,.inl ⟨rfl,rfl,rfl⟩⟩
 | succ k =>
  have h2:k<X.length:=by lia
  refine ⟨X[k],?_,List.getElem_mem h2,.inr ⟨Nat.succ_pos _,?_⟩⟩
  ·rw [show max (0:Int) (((k+1:Nat):Int)-1)=((k:Nat):Int) by lia,zeq_ (by lia),Int.toNat_natCast,List.getElem?_eq_getElem h2]
  ·rw [List.getLast?_eq_getElem?,List.length_take,List.getElem?_take,show min (k+1) X.length-1=k by lia,if_pos (by lia),List.getElem?_eq_getElem h2]
def stp (p:Nat->Bool):Nat->Nat
 | 0=>0
 | n+1=>if p (n+1) then stp p n else n+1
theorem zo6_ (p:Nat->Bool):∀ n,stp p n<=n
 | 0=>Nat.le_refl _
 | n+1=>by
  unfold stp
  split
  ·have:=zo6_ p n; lia
  ·exact Nat.le_refl _
theorem zgq_ {d:List Crd}{f:Fld}(hd:∀ c∈d,isC c)(hl:d.length<=1000):∃ X,zX_ d f=.ok X/\(∀ c∈X,isC c)/\X.length=d.length:=by
 unfold zX_ zb3_
 walk_at "mo"
 refine zbw_ (G:=fun m=>∃ X:List Crd,fnO (thenO m _)=.ok X/\(∀ c∈X,isC c)/\X.length=d.length) (fun dn (s:List Crd)=>(∀ c∈s,isC c)/\s.length=dn.length) ⟨(fun c h=>nomatch h),rfl⟩ ?_ ?_
 ·rintro dn x s ⟨r,hr⟩ ⟨hs,hsl⟩
  have hx:isC x:=hd x (by rw [hr]; simp)
  have hdl:dn.length<=1000:=by have:=congrArg List.length hr; rw [List.length_append] at this; lia
  rw [zeI_ (f:=stp fun i=>match s[i-1]? with | some y=>ltS (prt x f) (prt y f) | none=>false) (fun i=>match s[i-1]? with | some y=>ltS (prt x f) (prt y f) | none=>false) fuelW s.length (by rw [zmP_]; lia) (fun i h1 h2=>?_) rfl (fun i hi=>rfl) rfl]
  ·walk_at "mo"
   have hle:=zo6_ (fun i=>match s[i-1]? with | some y=>ltS (prt x f) (prt y f) | none=>false) s.length
   rw [Mo.grd_ok ⟨by lia,by lia⟩,Mo.lim_ok (by lia)]
   refine ⟨_,rfl,fun c hc=>?_,?_⟩
   ·unfold insL at hc
    rcases List.mem_append.mp hc with hc | hc
    ·exact hs c (List.mem_of_mem_take hc)
    ·rcases List.mem_cons.mp hc with rfl | hc
     ·exact hx
     ·exact hs c (List.mem_of_mem_drop hc)
   ·unfold insL
    simp
    lia
  ·have hi:i-1<s.length:=by lia
   have e:atI s ((i:Int)-1)=some s[i-1]:=by
    rw [show ((i:Int)-1)=((i-1:Nat):Int) by lia,zeq_ (by lia),Int.toNat_natCast,List.getElem?_eq_getElem hi]
   rw [decide_eq_true (show (0:Int)<i by lia),if_pos rfl,e]
   walk_at "mo"
   rw [zcQ_ x f hx,zcQ_ _ f (hs _ (List.getElem_mem hi)),List.getElem?_eq_getElem hi]
   refine ⟨?_,?_⟩<;>first | rfl | trivial
 ·rintro s ⟨h1,h2⟩
  exact ⟨s,rfl,h1,h2⟩
theorem zp3_ {α S B ρ:Type}{step:S->α->Mo (Out ρ S S)}{a:ρ}(P:List α->S->Prop){xs:List α}:∀ (d:List α) (s:S),P d s->(∀ d' x s,(∃ r,d++xs=d'++x::r)->P d' s->step s x=.ok (.rt a)\/∃ s',step s x=.ok (.nx s')/\P (d'++[x]) s')->forO (B:=B) step xs s=.ok (.rt a)\/∃ s',forO (B:=B) step xs s=.ok (.nx s')/\P (d++xs) s':=by
 induction xs with
 | nil=>exact fun d s h _=>.inr ⟨s,rfl,by rw [List.append_nil]; exact h⟩
 | cons x xs ih =>
  intro d s h hs
  rcases hs d x s ⟨xs,rfl⟩ h with e | ⟨s',e,p⟩
  ·left; unfold forO; rw [e]; rfl
  ·have:=ih (d++[x]) s' p (fun d' y t hr hp=>hs d' y t (by rwa [List.append_assoc] at hr) hp)
   rw [List.append_assoc] at this
   unfold forO
   rw [e]
   exact this
theorem zm1_ {α S B ρ:Type}{step:S->α->Mo (Out ρ S S)}{a:ρ}{xs:List α}{s:S}{G:Mo (Out ρ B S)->Prop}(P:List α->S->Prop)(h0:P [] s)(hs:∀ d x s,(∃ r,xs=d++x::r)->P d s->step s x=.ok (.rt a)\/∃ s',step s x=.ok (.nx s')/\P (d++[x]) s')(hr:G (.ok (.rt a)))(hk:∀ s',P xs s'->G (.ok (.nx s'))):G (forO step xs s):=by
 rcases zp3_ (B:=B) P (xs:=xs) [] s h0 (fun d x s hr hp=>hs d x s hr hp) with e | ⟨s',e,p⟩
 ·rw [e]; exact hr
 ·rw [e]; exact hk s' p
theorem zfh_ {α:Type}{X:List α}{k:Int}(d:α)(h0:0<=k)(h1:k<X.length):atI X k=some (X.getD k.toNat d)/\X.getD k.toNat d∈X:=by
 have hk:k.toNat<X.length:=by lia
 rw [zeq_ h0,List.getD_eq_getElem?_getD,List.getElem?_eq_getElem hk]
 exact ⟨rfl,List.getElem_mem hk⟩
def oA (X:List Crd)(f:Fld):Option Int:=(rngI 1 ((X.length:Int)-1).toNat).find? fun k=>ltS (prt (X.getD k.toNat []) f) (prt (X.getD (k-1).toNat []) f)
theorem zkX_ {X:List Crd}{f:Fld}{wide:Int}(hX:∀ c∈X,isC c)(h:okF f wide)(hl:X.length<=1000):zfy_ X (rngI (((f.1-1).toNat:Int)+1) wide.toNat)=.ok (oA X f):=by
 unfold zfy_ zg1_
 walk_at "mo"
 rw [Mo.grd_ok ⟨by lia,by lia,by lia,by lia⟩]
 walk_at "mo"
 rw [ze2_ (p:=fun k=>ltS (prt (X.getD k.toNat []) f) (prt (X.getD (k-1).toNat []) f)) (a:=fun k=>some k) (fun k hk=>?_)]
 ·unfold oA
  cases e:List.find? (fun k=>ltS (prt (X.getD k.toNat []) f) (prt (X.getD (k-1).toNat []) f)) (rngI 1 ((X.length:Int)-1).toNat) with
  | none=>rfl
  | some k=>rfl
 ·have hk:=zd2_.mp hk
  obtain ⟨e1,m1⟩:=zfh_ (X:=X) ([]:Crd) (k:=k) (by lia) (by lia)
  obtain ⟨e2,m2⟩:=zfh_ (X:=X) ([]:Crd) (k:=k-1) (by lia) (by lia)
  rw [e1,e2]
  walk_at "mo"
  rw [zf4_ (hX _ m1) (hX _ m2) h]
  rfl
theorem zjx_ {X:List Crd}{f:Fld}{wide:Int}(hX:∀ c∈X,isC c)(h:okF f wide)(hl:X.length<=1000):zdI_ X f=.ok (oA X f):=by
 unfold zdI_ zeZ_
 walk_at "mo"
 rw [Mo.grd_ok ⟨by lia,by lia,by lia,by lia⟩]
 walk_at "mo"
 rw [ze2_ (p:=fun k=>ltS (prt (X.getD k.toNat []) f) (prt (X.getD (k-1).toNat []) f)) (a:=fun k=>some k) (fun k hk=>?_)]
 ·unfold oA
  cases e:List.find? (fun k=>ltS (prt (X.getD k.toNat []) f) (prt (X.getD (k-1).toNat []) f)) (rngI 1 ((X.length:Int)-1).toNat) with
  | none=>rfl
  | some k=>rfl
 ·have hk:=zd2_.mp hk
  obtain ⟨e1,m1⟩:=zfh_ (X:=X) ([]:Crd) (k:=k) (by lia) (by lia)
  obtain ⟨e2,m2⟩:=zfh_ (X:=X) ([]:Crd) (k:=k-1) (by lia) (by lia)
  have l1:=(hX _ m1).1
  have l2:=(hX _ m2).1
  rw [e1,e2]
  walk_at "mo"
  rw [zcQ_ _ f (hX _ m1),zcQ_ _ f (hX _ m2)]
  walk_at "mo"
  show (if ltS (prt (X.getD k.toNat []) f) (prt (X.getD (k-1).toNat []) f)=true then _ else _)=_
  cases ltS (prt (X.getD k.toNat []) f) (prt (X.getD (k-1).toNat []) f)<;>rfl
theorem zfc_ {X:List Crd}{f:Fld}{wide:Int}{n:Int}(hn:n=1\/n=2)(hX:∀ c∈X,isC c)(h:okF f wide)(hl:X.length<=1000):zba_ X f n=match oA X f with | none=>.ok () | some k=>.ex (noOrd n k):=by
 unfold zba_ zbU_
 walk_at "mo"
 rw [zdu_ h]
 walk_at "mo"
 rw [zkX_ hX h hl]
 walk_at "mo"
 cases e:oA X f with
 | none=>rfl
 | some k =>
  have hk:=zd2_.mp (List.mem_of_find?_eq_some e)
  obtain ⟨t,et⟩:=zlW_ n k hn ⟨by lia,by lia⟩
  rw [if_pos (show (some k).isSome=true from rfl)]
  show fnU ((zM_ n k).noex.bind fun _=>_)=_
  rw [et]
  rfl
def hasP (D:List Crd)(f:Fld)(t:Jx):Bool:=decide (t∈D.map fun c=>prt c f)
theorem zmB_ {D:List Crd}(f:Fld)(hD:∀ c∈D,isC c)(hl:D.length<=1000):∃ P,zc2_ D f=.ok P/\∀ t,(getA P t).isSome=hasP D f t:=by
 unfold zc2_ zd6_
 walk_at "mo"
 refine zbw_ (G:=fun m=>∃ P,fnO (thenO m _)=.ok P/\∀ t,(getA P t).isSome=hasP D f t) (fun d (s:List (List Nat×Bool))=>s.length<=d.length/\∀ t,(getA s t).isSome=hasP d f t) ⟨Nat.zero_le _,fun t=>rfl⟩ ?_ ?_
 ·rintro d x s ⟨r,hr⟩ ⟨h1,h2⟩
  have hx:isC x:=hD x (by rw [hr]; simp)
  have hd:=congrArg List.length hr
  rw [List.length_append,List.length_cons] at hd
  rw [zgi_ f hx]
  walk_at "mo"
  rw [Mo.lim_ok (by lia)]
  refine ⟨_,rfl,Nat.le_trans (zkm_ _ _ _) (by simp; lia),fun t=>?_⟩
  rw [zjn_]
  by_cases e:prt x f=t
  ·rw [if_pos e]; unfold hasP; simp [e]
  ·rw [if_neg e,h2 t]; unfold hasP; simp [Ne.symm e]
 ·rintro s ⟨_,h⟩
  exact ⟨s,rfl,h⟩
abbrev Pt:=List (List Nat×Bool)
abbrev Ma_:=List (List Crd)×(List Int×(Fld×(Option Crd×(Pt×(Bool×Unit)))))
def nm (P:Pt)(w:Bool)(f:Fld)(c:Crd):Nat:=if decide ((getA P (prt c f)).isSome=w)=true then 0 else 1
theorem nm_lt (P:Pt)(w:Bool)(f:Fld)(c:Crd):nm P w f c<2:=by
 unfold nm
 split<;>decide
def mS (P:Pt)(w:Bool)(f:Fld)(ds:List Crd):List (Crd×Nat):=ds.map fun c=>(c,nm P w f c)
theorem zp8_ (P:Pt)(w:Bool)(f:Fld)(ds:List Crd)(c:Crd):mS P w f (ds++[c])=mS P w f ds++[(c,nm P w f c)]:=by unfold mS; rw [List.map_append]; rfl
theorem zk3_ (P:Pt)(w:Bool)(f:Fld)(ds:List Crd):(mS P w f ds).length=ds.length:=by unfold mS; rw [List.length_map]
theorem zqE_ (P:Pt)(w:Bool)(f:Fld)(ds:List Crd):(mS P w f ds).map Prod.fst=ds:=by
 unfold mS
 rw [List.map_map,show (Prod.fst∘fun c=>(c,nm P w f c))=id from rfl,List.map_id]
theorem mS_lt (P:Pt)(w:Bool)(f:Fld)(ds:List Crd):∀ q∈mS P w f ds,q.2<2:=fun q hq=>by
 obtain ⟨c,_,e⟩:=List.mem_map.mp hq
 rw [<- e]; exact nm_lt _ _ _ _
def mkM (ds:List Crd)(f:Fld)(P:Pt)(w:Bool):Ma_:=(pkts 2 (mS P w f ds),logs (mS P w f ds),f,ds.getLast?,P,w,())
def mts:List Nat:=[109,97,116,101,115]
theorem zoT_ {f g:Fld}{wide:Int}{Y:List Crd}(wd:Jx)(hY:∀ c∈Y,isC c)(h:okF g wide)(hl:Y.length<=1000):∃ P:Pt,(∀ t,(getA P t).isSome=hasP Y g t)/\zw_ () f Y g wd=match oA Y g with | none=>.ok ((),mkM [] f P (decide (wd=mts))) | some k=>.ex (noOrd 2 k):=by
 obtain ⟨P,eP,hP⟩:=zmB_ g hY hl
 refine ⟨P,hP,?_⟩
 unfold zw_ zaX_
 walk_at "mo"
 rw [zfc_ (.inr rfl) hY h hl]
 cases oA Y g with
 | some k=>rfl
 | none =>
  have e3:zu_ () f=.ok ((),(pkts 2 [],[],f,none,())):=by
   unfold zu_ zy_
   walk_at "mo"
   have e1:zD_ ()=.ok ((),(([]:List Jy),([]:List Int),())):=by
    unfold zD_ zQ_
    walk_at "mo"
    rw [Mo.lim_ok (by decide)]
    rfl
   rw [e1]
   walk_at "mo"
   have e2:zT_ (([]:List Jy),([]:List Int),()) 2=.ok ((),(pkts 2 [],[],())):=by
    unfold zT_ zag_
    walk_at "mo"
    rw [Mo.grd_ok (by decide)]
    rfl
   rw [e2]
   rfl
  show fnMU ((Mq ()).bind _)=_
  rw [Mo.okB,e3]
  walk_at "mo"
  rw [eP]
  rfl
theorem zqw_ (M:List (Crd×Nat))(T:Fld×(Option Crd×(Pt×(Bool×Unit))))(c:Crd){m:Nat}(hm:m<2)(hl:M.length<=100):zay_ (pkts 2 M,logs M,T) c (m:Nat)=.ok ((),(pkts 2 (M++[(c,m)]),logs (M++[(c,m)]),T)):=by
 unfold zay_ zbF_
 show fnMU _=_
 walk_at "mo"
 rw [zjW_,znF_ (by lia) (by lia)]
 walk_at "mo"
 rw [Int.toNat_natCast,zgU_ _ hm]
 walk_at "mo"
 rw [Mo.lim_ok (by have:=pk_le M m; lia)]
 rw [Mo.lim_ok (by rw [zjH_]; lia),zn0_ _ _ hm,zne_ _ c]
 rfl
theorem ziH_ {ds:List Crd}{f:Fld}{P:Pt}{w:Bool}{wide:Int}{c:Crd}(hc:isC c)(hd:∀ x∈ds,isC x)(h:okF f wide)(hl:ds.length<=100):z4_ (mkM ds f P w) c=match ds.getLast? with | none=>.ok () | some p=>if ltS (prt c f) (prt p f) then .ex (noOrd 1 ds.length) else .ok ():=by
 unfold z4_ zaB_
 walk_at "mo"
 rw [show (mkM ds f P w).2.2.2.1=ds.getLast? from rfl]
 cases e:ds.getLast? with
 | none=>rfl
 | some p =>
  have hp:isC p:=hd p (List.mem_of_getLast? e)
  rw [show (mkM ds f P w).2.2.1=f from rfl,show (mkM ds f P w).2.1=logs (mS P w f ds) from rfl,zjH_,zk3_]
  rw [if_pos (show (some p).isSome=true from rfl),show Mo.opt (some p)=Mq p from rfl,zdu_ h]
  walk_at "mo"
  rw [zf4_ hc hp h]
  walk_at "mo"
  obtain ⟨t,et⟩:=zlW_ 1 ds.length (.inl rfl) ⟨by lia,by lia⟩
  cases ltS (prt c f) (prt p f) with
  | false=>rfl
  | true =>
   rw [if_pos rfl,if_pos rfl,et]
   rfl
theorem zm4_ {ds:List Crd}{f:Fld}{P:Pt}{w:Bool}{c:Crd}(hc:isC c)(hl:ds.length<=100):fnMU (zaC_ (mkM ds f P w) c)=.ok ((),mkM (ds++[c]) f P w):=by
 have key:zY_ (mkM ds f P w) c (decide ((getA P (prt c f)).isSome=w))=.ok ((),mkM (ds++[c]) f P w):=by
  unfold zY_ za0_
  walk_at "mo"
  rw [show (if decide ((getA P (prt c f)).isSome=w)=true then Mq (0:Int) else Mq (1:Int))=Mq ((nm P w f c:Nat):Int) by unfold nm; split<;>rfl]
  walk_at "mo"
  rw [show zay_ (mkM ds f P w) c ((nm P w f c:Nat):Int)=_ from zqw_ (mS P w f ds) (f,ds.getLast?,P,w,()) c (nm_lt _ _ _ _) (by rw [zk3_]; exact hl)]
  unfold mkM
  rw [zp8_,List.getLast?_concat]
  rfl
 unfold zaC_
 walk_at "mo"
 rw [show (mkM ds f P w).2.2.1=f from rfl,show (mkM ds f P w).2.2.2.2.1=P from rfl,show (mkM ds f P w).2.2.2.2.2.1=w from rfl,zgi_ f hc]
 walk_at "mo"
 first
  | (rw [key]; rfl)
  | (show fnMU ((zY_ (mkM ds f P w) c (decide ((getA P (prt c f)).isSome=w))).noex.bind _)=_; rw [key]; rfl)
theorem zms_ {ds:List Crd}{f:Fld}{P:Pt}{w:Bool}{wide:Int}{c:Crd}(hc:isC c)(hd:∀ x∈ds,isC x)(h:okF f wide)(hl:ds.length<=100)(hn:∀ p,ds.getLast?=some p->ltS (prt c f) (prt p f)=false):za4_ (mkM ds f P w) c=.ok ((),mkM (ds++[c]) f P w):=by
 unfold za4_ zaD_
 walk_at "mo"
 rw [ziH_ hc hd h hl,zm4_ hc hl]
 cases e:ds.getLast? with
 | none=>rfl
 | some p =>
  show ((if ltS (prt c f) (prt p f)=true then _ else _:Mo Unit).noex.bind _)=_
  rw [hn p e]
  rfl
theorem zhM_ (ds:List Crd)(f:Fld)(P:Pt)(w:Bool)(hl:ds.length<=100):zad_ (mkM ds f P w)=.ok ds:=by
 unfold zad_ zcs_ mkM
 walk_at "mo"
 rw [ziC_ (n:=2) (mS_lt P w f ds) (by rw [zk3_]; lia) (by decide),zqE_]
 rfl
theorem zn3_ (M:Ma_):zaN_ M=.ok []:=rfl
theorem zkP_ (M:Ma_):zbD_ M=.ok ():=rfl
def pk (m:Nat)(P:Pt)(w:Bool)(f:Fld)(ds:List Crd):List Crd:=((mS P w f ds).filter fun q=>decide (q.2=m)).map Prod.fst
theorem znA_ (m:Nat)(P:Pt)(w:Bool)(f:Fld)(ds:List Crd):(pk m P w f ds).length<=ds.length:=by
 have:=pk_le (mS P w f ds) m
 rw [zk3_] at this
 exact this
theorem pk_eq (m:Nat)(P:Pt)(w:Bool)(f:Fld)(ds:List Crd):pk m P w f ds=ds.filter fun c=>decide (nm P w f c=m):=by
 unfold pk mS
 induction ds with
 | nil=>rfl
 | cons c cs ih =>
  rw [List.map_cons,List.filter_cons,List.filter_cons]
  by_cases e:nm P w f c=m
  ·rw [if_pos (by simpa using e),if_pos (by simpa using e),List.map_cons,ih]
  ·rw [if_neg (by simpa using e),if_neg (by simpa using e),ih]
theorem pk0 (P:Pt)(w:Bool)(f:Fld)(ds:List Crd):pk 0 P w f ds=ds.filter fun c=>decide ((getA P (prt c f)).isSome=w):=by
 rw [pk_eq]
 congr 1
 funext c
 unfold nm
 cases decide ((getA P (prt c f)).isSome=w)<;>rfl
theorem pk1 (P:Pt)(w:Bool)(f:Fld)(ds:List Crd):pk 1 P w f ds=ds.filter fun c=>!decide ((getA P (prt c f)).isSome=w):=by
 rw [pk_eq]
 congr 1
 funext c
 unfold nm
 cases decide ((getA P (prt c f)).isSome=w)<;>rfl
theorem pk2 (P:Pt)(w:Bool)(f:Fld)(ds:List Crd):pkts 2 (mS P w f ds)=[pk 0 P w f ds,pk 1 P w f ds]:=rfl
theorem zkW_ (ds:List Crd)(f:Fld)(P:Pt)(w:Bool):z5_ (mkM ds f P w)=.ok (pk 0 P w f ds):=by
 unfold z5_ zbE_ mkM
 walk_at "mo"
 rw [pk2,show atI [pk 0 P w f ds,pk 1 P w f ds] 0=some (pk 0 P w f ds) from rfl]
 rfl
theorem zmK_ (ds:List Crd)(f:Fld)(P:Pt)(w:Bool)(hl:ds.length<=100):z2_ (mkM ds f P w)=.ok (pk 1 P w f ds):=by
 unfold z2_ zaF_ mkM
 walk_at "mo"
 have e:cutG [pk 0 P w f ds,pk 1 P w f ds] (some 1) none=[pk 1 P w f ds]:=rfl
 rw [pk2,e,zkN_ (by have:=znA_ 1 P w f ds; simp; lia)]
 simp
theorem zo0_ (n k:Int):zaR_ (noOrd n k)=.ok false:=by
 unfold zaR_ zby_
 rfl
theorem zhV_ (n k:Int):zac_ (noOrd n k) n k=.ok true:=by
 have d1:∀ a:Int,decide (a=a)=true:=fun a=>decide_eq_true rfl
 unfold zac_ zcu_
 walk_at "mo"
 rw [zo0_,show isaQ [("NoTray",false),("NoOrder",true)] (noOrd n k).c=some true from rfl,show isaQ [("NoTray",true),("NoOrder",true)] (noOrd n k).c=some true from rfl,show attI "NoOrder" "deck" (noOrd n k)=some n from rfl,show attI "NoOrder" "place" (noOrd n k)=some k from rfl]
 show fnO (thenO (forO (fun (_:Unit) (x:Int×Int)=>if (!decide (x.1=x.2))=true then Mq (Out.rt false) else Mq (Out.nx ())) [(n,n),(k,k)] ()) fun _=>(Mq (Out.rt true):Mo (Out Bool Unit Unit)))=_
 rw [zg0_ (fun x hx=>?_)]
 ·rfl
 ·simp only [List.mem_cons,List.not_mem_nil,or_false] at hx
  rcases hx with rfl | rfl
  ·dsimp only; rw [d1]; rfl
  ·dsimp only; rw [d1]; rfl
theorem zi4_ {ds:List Crd}{f:Fld}{P:Pt}{w:Bool}{wide:Int}{c p:Crd}(hc:isC c)(hd:∀ x∈ds,isC x)(h:okF f wide)(hl:ds.length<=99)(e:ds.getLast?=some p)(hn:ltS (prt c f) (prt p f)=true):∃ M,zbc_ (mkM ds f P w) c ds=.ok (true,M):=by
 unfold zbc_ zb4_ zaD_
 walk_at "mo"
 rw [ziH_ hc hd h (by lia),e]
 obtain ⟨cZ,rfl⟩:∃ cZ,ds=cZ++[p]:=by
  have cF:ds≠[]:=fun z=>by rw [z] at e; cases e
  rw [List.getLast?_eq_some_getLast cF] at e
  exact ⟨ds.dropLast,by rw [<- Option.some.inj e]; exact (List.dropLast_concat_getLast cF).symm⟩
 have hp:isC p:=hd p (by simp)
 have e1:atI (cZ++[p]) (-1)=some p:=by
  unfold atI ixN
  rw [if_neg (by decide),if_pos (by rw [List.length_append,List.length_singleton]; lia)]
  rw [Option.bind_some]
  rw [show (-1+((cZ++[p]).length:Int)).toNat=cZ.length by rw [List.length_append,List.length_singleton]; lia]
  simp
 have e2:cutG (cZ++[p]) (some (-1)) none=[p]:=by
  unfold cutG
  have:HT.sIx (cZ++[p]).length 0 (some (-1))=cZ.length:=by
   show (-1+((cZ++[p]).length:Int)).toNat=_
   rw [List.length_append,List.length_singleton]
   lia
  rw [this]
  show List.take ((cZ++[p]).length-cZ.length) _=_
  simp
 rw [show (match some p with | none=>Mq () | some p=>if ltS (prt c f) (prt p f)=true then Mo.ex (noOrd 1 (cZ++[p]).length) else Mq ())=Mo.ex (noOrd 1 (cZ++[p]).length) by show (if ltS (prt c f) (prt p f)=true then _ else _)=_; rw [hn]; rfl]
 refine ⟨mkM ((cZ++[p])++[p]) f P w,?_⟩
 show fnMR (thenO ((zac_ (noOrd 1 (cZ++[p]).length) 1 (cZ++[p]).length).noex.bind fun t8=>Mq (Out.nx (mkM (cZ++[p]) f P w,t8))) _)=_
 rw [zhV_]
 first | rw [e1] | skip
 first | rw [e2] | skip
 walk_at "mo"
 rw [zhM_ _ _ _ _ (by lia)]
 walk_at "mo"
 rw [zbm_,zms_ hp hd h (by lia) (fun q hq=>by rw [e] at hq; cases hq; exact zoF_.irr _)]
 walk_at "mo"
 rw [zhM_ _ _ _ _ (by rw [List.length_append,List.length_singleton]; lia),Mo.lim_ok (by simp at hl ⊢; lia)]
 walk_at "mo"
 rw [zbm_]
 rfl
theorem zny_ {ds Y:List Crd}{f g:Fld}{P:Pt}(wd:Jx)(hd:∀ x∈ds,isC x)(hY:∀ x∈Y,isC x)(hP:∀ t,(getA P t).isSome=hasP Y g t)(hl:ds.length<=99)(nR:Y.length<=1000):zb9_ (mkM ds f P (decide (wd=mts))) ds Y (f,g) wd=.ok true:=by
 unfold zb9_ zdb_
 walk_at "mo"
 refine zbw_ (G:=fun z=>fnO (thenO z _)=.ok true) (fun d (s:Pt)=>s.length<=d.length/\∀ t,(getA s t).isSome=hasP d g t) ⟨Nat.zero_le _,fun t=>rfl⟩ ?_ ?_
 ·rintro d x s ⟨r,hr⟩ ⟨h1,h2⟩
  have hx:isC x:=hY x (by rw [hr]; simp)
  have hdl:=congrArg List.length hr
  rw [List.length_append,List.length_cons] at hdl
  rw [zcQ_ x g hx]
  walk_at "mo"
  rw [Mo.lim_ok (by lia)]
  refine ⟨_,rfl,Nat.le_trans (zkm_ _ _ _) (by simp; lia),fun t=>?_⟩
  rw [zjn_]
  by_cases e:prt x g=t
  ·rw [if_pos e]; unfold hasP; simp [e]
  ·rw [if_neg e,h2 t]; unfold hasP; simp [Ne.symm e]
 ·rintro s ⟨_,hs⟩
  walk_at "mo"
  rw [zd5_ (g:=fun c=>decide ((getA P (prt c f)).isSome=decide (wd=mts))) (fun x hx=>?_) (by simp; lia)]
  ·walk_at "mo"
   rw [zd5_ (g:=fun c=>!decide ((getA P (prt c f)).isSome=decide (wd=mts))) (fun x hx=>?_) (by simp; lia)]
   ·rw [List.nil_append,List.nil_append,<- pk0,<- pk1]
    have l0:=znA_ 0 P (decide (wd=mts)) f ds
    have l1:=znA_ 1 P (decide (wd=mts)) f ds
    walk_at "mo"
    rw [zkP_]
    walk_at "mo"
    rw [zkW_,zmK_ _ _ _ _ (by lia),zn3_]
    walk_at "mo"
    rw [zbm_,zbm_]
    walk_at "mo"
    rw [Mo.lim_ok (by lia)]
    rfl
   ·unfold cond1
    rw [zcQ_ x f (hd x hx)]
    walk_at "mo"
    rw [hs,hP,show ([109,97,116,101,115]:Jx)=mts from rfl]
    cases decide (hasP Y g (prt x f)=decide (wd=mts))<;>rfl
  ·unfold cond1
   rw [zcQ_ x f (hd x hx)]
   walk_at "mo"
   rw [hs,hP,show ([109,97,116,101,115]:Jx)=mts from rfl]
   cases decide (hasP Y g (prt x f)=decide (wd=mts))<;>rfl
theorem zlr_ (cell:Int):∃ f g wide,zbB_ cell=.ok (f,g)/\okF f wide/\okF g wide:=by
 unfold zbB_ zcr_
 walk_at "mo"
 have r4:0<=cell % 2147483647/\cell % 2147483647<2147483647:=⟨Int.emod_nonneg _ (by decide),Int.emod_lt_of_pos _ (by decide)⟩
 rw [Mo.grd_ok (zcY_ (.inl ⟨by lia,by lia⟩))]
 walk_at "mo"
 generalize (cell % 2147483647+5)*48271 % 2147483647=n
 obtain ⟨wd,ew,h1,h2⟩:∃ wd:Int,(if decide (n / 3 % 9=0)=true then (Mq (Out.nx (12:Int)):Mo (Out ((Int×Int)×(Int×Int)) Unit Int)) else Mq (Out.nx (1+n % 3)))=Mq (Out.nx wd)/\1<=wd/\wd<=12:=by
  split
  ·exact ⟨12,rfl,by decide,by decide⟩
  ·exact ⟨1+n % 3,rfl,by lia,by lia⟩
 rw [ew]
 walk_at "mo"
 rw [Mo.grd_ok (by lia),Mo.grd_ok (by lia)]
 walk_at "mo"
 have m1:0<=n / 27 % (37-wd)/\n / 27 % (37-wd)<37-wd:=⟨Int.emod_nonneg _ (by lia),Int.emod_lt_of_pos _ (by lia)⟩
 have m2:0<=n / 1000 % (37-wd)/\n / 1000 % (37-wd)<37-wd:=⟨Int.emod_nonneg _ (by lia),Int.emod_lt_of_pos _ (by lia)⟩
 generalize n / 27 % (37-wd)=a at m1
 generalize n / 1000 % (37-wd)=b at m2
 obtain ⟨o,eo,h3,h4⟩:∃ o:Int,(if decide (n / 37000 % 5=0)=true then (Mq (Out.nx (1+a)):Mo (Out ((Int×Int)×(Int×Int)) Unit Int)) else Mq (Out.nx (1+b)))=Mq (Out.nx o)/\1<=o/\o+wd-1<=36:=by
  split
  ·exact ⟨1+a,rfl,by lia,by lia⟩
  ·exact ⟨1+b,rfl,by lia,by lia⟩
 rw [eo]
 exact ⟨_,_,wd,rfl,⟨by dsimp only; lia,by lia,by lia,rfl,by dsimp only; lia⟩,⟨by dsimp only; lia,by lia,by lia,rfl,by dsimp only; lia⟩⟩
theorem zkd_ (f g:Fld)(Y:List Crd)(wd:Jx):zaf_ ([109,97,116,101],[97],[98],f,g,wd) [([97],[]),([98],Y)]=(zw_ () f Y g wd).bind fun q=>.ok q.2:=by
 unfold zaf_ zbH_
 walk_at "mo"
 have e:zaU_ ([109,97,116,101],[97],[98],f,g,wd) [([97],[]),([98],Y)]=(zw_ () f Y g wd).bind fun q=>.ok q.2:=by
  unfold zaU_ zcS_
  show fnO (((zw_ () f Y g wd).bind fun kK=>Mq kK.2).bind fun kG=>(Mq (.rt kG):Mo (Out Ma_ Unit Unit)))=_
  cases zw_ () f Y g wd<;>rfl
 show fnO (thenO ((zaU_ ([109,97,116,101],[97],[98],f,g,wd) [([97],[]),([98],Y)]).bind _) _)=_
 rw [e]
 cases zw_ () f Y g wd<;>rfl
theorem zlF_ {f g:Fld}{wide:Int}{Y:List Crd}(wd:Jx)(way:Int)(hY:∀ c∈Y,isC c)(h:okF g wide)(hl:Y.length<=1000):∃ P:Pt,(∀ t,(getA P t).isSome=hasP Y g t)/\zbQ_ (f,g) Y wd way=match oA Y g with | none=>.ok (mkM [] f P (decide (wd=mts))) | some k=>.ex (noOrd 2 k):=by
 obtain ⟨P,hP,e⟩:=zoT_ (f:=f) wd hY h hl
 refine ⟨P,hP,?_⟩
 unfold zbQ_ zdW_
 walk_at "mo"
 rw [Mo.grd_ok (show ([([97],[]),([98],Y)]:List (List Nat×List Crd)).length<=15 by simp)]
 rw [show mergeA [([97],[]),([98],Y)]=([([97],[]),([98],Y)]:List (List Nat×List Crd)) from rfl]
 walk_at "mo"
 rw [zkd_,e]
 cases oA Y g with
 | none=>split<;>rfl
 | some k=>split<;>rfl
theorem zfL_ {f g:Fld}{wide:Int}{Y:List Crd}(wd:Jx)(way:Int)(hY:∀ c∈Y,isC c)(h:okF g wide)(hl:Y.length<=1000){k:Int}(hk:oA Y g=some k):zau_ (f,g) Y wd way k=.ok true:=by
 obtain ⟨P,_,e⟩:=zlF_ (f:=f) wd way hY h hl
 unfold zau_ za5_
 walk_at "mo"
 rw [e,hk]
 show fnO (thenO ((zac_ (noOrd 2 k) 2 k).noex.bind fun pE=>(Mq (.rt pE):Mo (Out Bool Unit Unit))) _)=_
 rw [zhV_]
 rfl
theorem zj8_ (f g:Fld)(wd:Jx):za9_ (f,g) wd=.ok true:=by
 unfold za9_ zbY_
 walk_at "mo"
 rw [Mo.grd_ok (show ([([97],[])]:List (List Nat×List Crd)).length<=15 from by decide)]
 rw [show mergeA [([97],[])]=([([97],[])]:List (List Nat×List Crd)) from rfl]
 have e:zaf_ ([109,97,116,101],[97],[98],f,g,wd) [([97],[])]=.ex (.pl "NoTray"):=by
  unfold zaf_ zbH_
  walk_at "mo"
  have e:zaU_ ([109,97,116,101],[97],[98],f,g,wd) [([97],[])]=.ex (.pl "NoTray"):=by
   unfold zaU_ zcS_
   rfl
  rw [e]
  rfl
 walk_at "mo"
 rw [e]
 rfl
theorem zmO_ (ns:List Int)(hl:ns.length<=63):f_law ns=.ok true:=by
 obtain ⟨c0,e0⟩:=zjL_ ns 0 (by lia)
 obtain ⟨c1,e1⟩:=zjL_ ns 1 (by lia)
 obtain ⟨c2,e2⟩:=zjL_ ns 2 (by lia)
 have lD:(cutG ns (some 3) (some 63)).length<=63:=Nat.le_trans (zg9_ _ _ _) hl
 obtain ⟨d,ed,hdl,hd⟩:=zp4_ (cells:=cutG ns (some 3) (some 63)) c0 (by lia)
 obtain ⟨f,g,wide,ef,o0,o1⟩:=zlr_ c2
 unfold f_law zrd_
 walk_at "mo"
 rw [e0,e1,e2]
 walk_at "mo"
 rw [Mo.grd_ok (by lia)]
 walk_at "mo"
 rw [ed,ef]
 walk_at "mo"
 generalize c1 % (((cutG ns (some 3) (some 63)).length:Int)+1)=cut
 obtain ⟨wd,ewd⟩:∃ wd:List Nat,atI [([109,97,116,101,115]:Jx),[119,105,116,104,111,117,116]] (c2 % 2)=some wd:=by
  obtain ⟨w,ew,_⟩:=zd3_ (xs:=[([109,97,116,101,115]:Jx),[119,105,116,104,111,117,116]]) (k:=c2 % 2) (Int.emod_nonneg _ (by decide)) (Int.emod_lt_of_pos _ (by decide))
  exact ⟨w,ew⟩
 rw [ewd]
 walk_at "mo"
 have hA:∀ c∈cutG d none (some cut),isC c:=fun c hc=>hd c (ziT_ hc)
 have hB:∀ c∈cutG d (some cut) none,isC c:=fun c hc=>hd c (ziT_ hc)
 have lA:(cutG d none (some cut)).length<=d.length:=zg9_ _ _ _
 have lB:(cutG d (some cut) none).length<=d.length:=zg9_ _ _ _
 generalize cutG d none (some cut)=A at hA lA
 generalize cutG d (some cut) none=B at hB lB
 obtain ⟨X,eX,hX,lX⟩:∃ X:List Crd,(if decide (0<c2 / 2 % 3)=true then (zX_ A f).noex.bind fun iH=>(Mq (Out.nx iH):Mo (Out Bool Unit Jy)) else Mq (Out.nx A))=Mq (Out.nx X)/\(∀ c∈X,isC c)/\X.length=A.length:=by
  obtain ⟨X,e,h1,h2⟩:=zgq_ (f:=f) hA (by lia)
  split
  ·rw [e]; exact ⟨X,rfl,h1,h2⟩
  ·exact ⟨A,rfl,hA,rfl⟩
 rw [eX]
 obtain ⟨Y,eY,hY,lY⟩:∃ Y:List Crd,(if decide (0<c2 / 6 % 3)=true then (zX_ B g).noex.bind fun iG=>(Mq (Out.nx iG):Mo (Out Bool Unit Jy)) else Mq (Out.nx B))=Mq (Out.nx Y)/\(∀ c∈Y,isC c)/\Y.length=B.length:=by
  obtain ⟨Y,e,h1,h2⟩:=zgq_ (f:=g) hB (by lia)
  split
  ·rw [e]; exact ⟨Y,rfl,h1,h2⟩
  ·exact ⟨B,rfl,hB,rfl⟩
 walk_at "mo"
 rw [eY]
 walk_at "mo"
 rw [zjx_ hY o1 (by lia)]
 walk_at "mo"
 obtain ⟨P,hP,eM⟩:=zlF_ (f:=f) wd (c2 / 18) hY o1 (by lia)
 cases ek:oA Y g with
 | some k =>
  rw [if_pos (show (some k).isSome=true from rfl),show Mo.opt (some k)=Mq k from rfl]
  walk_at "mo"
  rw [zfL_ wd (c2 / 18) hY o1 (by lia) ek]
  rfl
 | none =>
  rw [ek] at eM
  rw [if_neg (show ¬ (none:Option Int).isSome=true by simp),eM]
  walk_at "mo"
  have pw:∀ xs:Jy,eqL (fun a b=>decide (a=b)) xs xs=true:=zkn_ fun a=>decide_eq_true rfl
  rw [zj8_,pw]
  walk_at "mo"
  generalize hw:decide (wd=mts)=w
  have i4:∀ n,∀ c∈X.take n,isC c:=fun n c hc=>hX c (List.mem_of_mem_take hc)
  refine zm1_ (a:=true) (G:=fun z=>fnO (thenO z _)=.ok true) (fun dn s=>s=mkM (X.take dn.length) f P w) rfl ?_ rfl ?_
  ·rintro dn y s ⟨r,hr⟩ rfl
   have h1:(enumL X)[dn.length]?=some y:=by rw [hr]; simp
   rw [zeQ_] at h1
   obtain ⟨c,h2,h3⟩:=Option.map_eq_some_iff.mp h1
   subst h3
   have hc:isC c:=hX c (List.mem_of_getElem? h2)
   have bw:=(List.getElem?_eq_some_iff.mp h2).1
   have eW:X.take (dn.length+1)=X.take dn.length++[c]:=by rw [List.take_succ,h2]; rfl
   obtain ⟨b,eb,hb,cs⟩:=zkC_ h2
   have hlen:(X.take dn.length).length<=63:=by rw [List.length_take]; lia
   dsimp only
   rw [eb]
   walk_at "mo"
   rw [zcQ_ c f hc,zcQ_ b f (hX b hb)]
   walk_at "mo"
   rw [show decide (prt c f<prt b f)=ltS (prt c f) (prt b f) from rfl]
   cases hq:ltS (prt c f) (prt b f) with
   | true =>
    left
    rcases cs with ⟨_,rfl,_⟩ | ⟨_,e⟩
    ·rw [zoF_.irr] at hq; cases hq
    ·obtain ⟨M,eM⟩:=zi4_ (P:=P) (w:=w) hc (i4 _) o0 (by lia) e hq
     rw [if_pos rfl,zmy_ (by lia),Int.toNat_natCast,eM]
     rfl
   | false =>
    right
    have hn:∀ p,(X.take dn.length).getLast?=some p->ltS (prt c f) (prt p f)=false:=fun p hp=>by
     rcases cs with ⟨_,_,e⟩ | ⟨_,e⟩
     ·rw [e] at hp; cases hp
     ·rw [e] at hp; cases hp; exact hq
    rw [if_neg (by decide),zms_ hc (i4 _) o0 (by lia) hn,<- eW]
    walk_at "mo"
    rw [zhM_ _ _ _ _ (by rw [List.length_take]; lia),zmy_ (by lia),show ((dn.length:Int)+1).toNat=dn.length+1 by lia]
    walk_at "mo"
    rw [zbm_]
    exact ⟨_,rfl,by rw [List.length_append,List.length_singleton]⟩
  ·rintro s rfl
   rw [zdL_,List.take_length]
   walk_at "mo"
   rw [zhM_ _ _ _ _ (by lia)]
   walk_at "mo"
   rw [zbm_]
   walk_at "mo"
   rw [<- hw,zny_ wd hX hY hP (by lia) (by lia)]
   rfl
end K56
namespace K56
open PySem PySem.Spec PyProof.Rows L2
open Mo renaming bind→Mb,ok→Mq
open Sl renaming fz→Zf,dead→Zd,ow→Zo
theorem zqU_ {l:W.OpenLaw}{w:World}{K:Fgg}{mg:Str->Option Value}{base:Heap}{f:Addr}{fd:FuncData}(e:En K mg)(g3:zds_ l.prog w K mg base)(g2:zf5_ l.prog w K mg base)(g4:zdY_ l.prog w K mg base)(j2:zdo_ l.prog w K mg base)(g6:zhZ_ l.prog w K mg base)(ma:zbS_ l.prog w K mg base)(hZ:zel_ l.prog w K mg base)(l7:zdy_ l.prog w K mg base)(g5:zbX_ l.prog w K mg base)(lW:zdx_ l.prog w K mg base)(gI:zcn_ l.prog w K mg base)(dU:zbb_ l.prog w K mg base)(gd:zct_ l.prog w K mg base)(me:zeH_ l.prog w K mg base)(F:Fun K "law" "law" zri_ f fd):FnOk l.prog w K mg base CX0 13 f fd ["_law_script"] (spL K):=
 okL (l:=l) (w:=w) (K:=K) (mg:=mg) (base:=base) (k:=12) (st:=zri_) (x:="_law_script") (N:=["_law_script", "_law_cells", "_law_cut", "_law_deck_here", "_law_ones", "_law_others", "_law_third", "_law_fields_here", "_law_word", "_law_place", "_law_handed", "_law_machine", "_law_k", "_law_card_here", "_law_before"]) (t:=fun E=>t_law K) (g:=zrd_) 14 (fun _ _ _ _ _ _ E nd hr=>(zd_ (pst 1 (zbx_ sl_M (za_ 0) (po_M zk_) (po_M zk_))) (zd_ (pst 2 (zan_ zaz_ (zm_ g3 (hm hr) (zb_ (za_ 0) (zb_ zk_ zh_))) (zan_ zaP_ (zdh_ zaw_ (e.m.gb e.b1) (zb_ (za_ 1) zh_)) zk_))) (zd_ (pst 3 (zm_ g2 (hm hr) (zb_ (za_ 1) (zb_ (zm_ g3 (hm hr) (zb_ (za_ 0) (zb_ zk_ zh_))) zh_)))) (zd_ (pst 4 (zbx_ sl_M (za_ 3) zeN_ (po_M (za_ 2)))) (zd_ (pst 5 (zbx_ sl_M (za_ 3) (po_M (za_ 2)) zeN_)) (zd_ (pst 6 (zm_ g3 (hm hr) (zb_ (za_ 0) (zb_ zk_ zh_)))) (zd_ (pst 7 (zm_ g4 (hm hr) (zb_ (za_ 6) zh_))) (zd_ (pst 8 (zbg_ ix_M (zcE_ (zb_ (zaq_ (l:=[109,97,116,101,115])) (zb_ (zaq_ (l:=[119,105,116,104,111,117,116])) zh_))) (zan_ zaz_ (za_ 6) zk_) (fun _ _=>rfl))) (zd_ (zab_ (zS_ zmW_ (zan_ zaz_ (zan_ zcm_ (za_ 6) zk_) zk_) zk_) (zg_ (pst 4 (zm_ j2 (hm hr) (zb_ (za_ 4) (zb_ (zbg_ ix_M (za_ 7) zk_ (fun _ _=>rfl)) zh_))))) zN_) (zd_ (zab_ (zS_ zmW_ (zan_ zaz_ (zan_ zcm_ (za_ 6) zk_) zk_) zk_) (zg_ (pst 5 (zm_ j2 (hm hr) (zb_ (za_ 5) (zb_ (zbg_ ix_M (za_ 7) zk_ (fun _ _=>rfl)) zh_))))) zN_) (zd_ (pst 9 (zm_ g6 (hm hr) (zb_ (za_ 5) (zb_ (zbg_ ix_M (za_ 7) zk_ (fun _ _=>rfl)) zh_)))) (zd_ (zab_ (zS_ zc1_ (za_ 9) zfr_) (zg_ (zG_ (zm_ ma (hm hr) (zb_ (za_ 7) (zb_ (za_ 5) (zb_ (za_ 8) (zb_ (zan_ zcm_ (za_ 6) zk_) (zb_ (za_ 9) zh_)))))))) zN_) (zd_ (pst 10 (zoj_ "list" (zcJ_ rfl) (e.m.gb e.b4) (zb_ (za_ 5) zh_))) (zd_ (pst 11 (zeV_ hZ (hm hr) passX0 (zb_ (za_ 7) (zb_ (za_ 10) (zb_ (za_ 8) (zb_ (zan_ zcm_ (za_ 6) zk_) zh_)))))) (zd_ (zab_ (PW.pt (zcO_ (zS_ (zjD_ hr.u60) (za_ 10) (za_ 5)) (zcO_ (zcZ_ (zaa_ (zdh_ zkO_ (e.m.gb e.b5) (zb_ (za_ 11) (zb_ (ziF_ (e.m.gkc e.k10)) zh_))))) (ze5_ (zcZ_ (zaa_ (zm_ l7 (hm hr) (zb_ (za_ 7) (zb_ (za_ 8) zh_))))))))) (zg_ (zG_ zfg_)) zN_) (zd_ (zaZ_ (zqz_ zdB_ zfU_ zgp_ znE_ (za_ 10))) (zd_ (zd7_ PassesOwn.never rfl (zlM_ (e.m.gb e.b2) (zb_ (za_ 4) zh_)) (zjo_ (n:=2) rfl (zbd_ (pgn 12) (zbd_ (pgn 13) zfu_))) (zd_ (pst 14 (zbg_ ix_M (za_ 4) (zdh_ (zkF_ rfl) (e.m.gb e.b10) (zb_ zk_ (zb_ (zan_ zbJ_ (za_ 12) zk_) zh_))) (fun _ _=>rfl))) (zd_ (zab_ (zS_ (zjZ_ hr.u60) (zm_ g5 (hm hr) (zb_ (za_ 13) (zb_ (zbg_ ix_M (za_ 7) zk_ (fun _ _=>rfl)) zh_))) (zm_ g5 (hm hr) (zb_ (za_ 14) (zb_ (zbg_ ix_M (za_ 7) zk_ (fun _ _=>rfl)) zh_)))) (zg_ (zG_ (zm_ lW (hm hr) (zb_ (za_ 11) (zb_ (za_ 13) (zb_ (zbx_ sl_M (za_ 4) zeN_ (po_M (za_ 12))) zh_)))))) zN_) (zg_ (zab_ (PW.pt (zcO_ (zS_ zc1_ (zgx_ (Gm.imp (sp':=z3_ K) gI zlK_) (hm hr) passX0 (za_ 11) (zb_ (za_ 13) zh_)) zfr_) (ze5_ (zcZ_ (zaa_ (zm_ dU (hm hr) (zb_ (zaI_ gd (hm hr) (za_ 11)) (zb_ (zbx_ sl_M (za_ 4) zeN_ (po_M (zan_ zaP_ (za_ 12) zk_))) zh_)))))))) (zg_ (zG_ zfg_)) zN_))))) (zd_ (zab_ (zcZ_ (zaa_ (zm_ dU (hm hr) (zb_ (zaI_ gd (hm hr) (za_ 11)) (zb_ (za_ 4) zh_))))) (zg_ (zG_ zfg_)) zN_) (zg_ (zG_ (zm_ me (hm hr) (zb_ (za_ 11) (zb_ (za_ 4) (zb_ (za_ 5) (zb_ (za_ 7) (zb_ (za_ 8) zh_))))))))))))))))))))))))))) (fun ns hl hb=>zmO_ ns hl) (fun c E=>at_ [(Zf (tySc K) c),Zd,Zd,Zd,Zd,Zd,Zd,Zd,Zd,Zd,Zd,Zd,Zd,Zd,Zd]
 (zb1_ (i:=1) rfl (zH_ zi_) (zpL_ (zc_ 0 rfl) (ziE_ (zq_ 3)) (ziE_ (zq_ 63))) fun aY=>zl6_ (i:=1) rfl (at_ [(Zf (tySc K) c),(Zf (tyL tyInt) aY),Zd,Zd,Zd,Zd,Zd,Zd,Zd,Zd,Zd,Zd,Zd,Zd,Zd] (zc7_ (i:=2) rfl zi_ (zE_ zaA_ (zl_ (zf_ (zc_ 0 rfl) (ze_ (zq_ 1)))) (zE_ zbr_ (zh2_ zdz_ (ze_ (zc_ 1 rfl))) (zq_ 1))) fun y7=>(at_ [(Zf (tySc K) c),(Zf (tyL tyInt) aY),(Zf tyInt y7),Zd,Zd,Zd,Zd,Zd,Zd,Zd,Zd,Zd,Zd,Zd,Zd] (zb1_ (i:=3) rfl (zH_ zj_) (zaK_ (zf_ (zc_ 1 rfl) (ze_ (zl_ (zf_ (zc_ 0 rfl) (ze_ (zq_ 0))))))) fun bj=>zl6_ (i:=3) rfl (at_ [(Zf (tySc K) c),(Zf (tyL tyInt) aY),(Zf tyInt y7),(Zf (tyL tyStr) bj),Zd,Zd,Zd,Zd,Zd,Zd,Zd,Zd,Zd,Zd,Zd] (zb1_ (i:=4) rfl (zH_ zj_) (zis_ (zc_ 3 rfl) zol_ (ziE_ (zc_ 2 rfl))) fun fV=>zl6_ (i:=4) rfl (at_ [(Zf (tySc K) c),(Zf (tyL tyInt) aY),(Zf tyInt y7),(Zf (tyL tyStr) bj),(Zf (tyL tyStr) fV),Zd,Zd,Zd,Zd,Zd,Zd,Zd,Zd,Zd,Zd] (zb1_ (i:=5) rfl (zH_ zj_) (zis_ (zc_ 3 rfl) (ziE_ (zc_ 2 rfl)) zol_) fun eS=>zl6_ (i:=5) rfl (at_ [(Zf (tySc K) c),(Zf (tyL tyInt) aY),(Zf tyInt y7),(Zf (tyL tyStr) bj),(Zf (tyL tyStr) fV),(Zf (tyL tyStr) eS),Zd,Zd,Zd,Zd,Zd,Zd,Zd,Zd,Zd] (zc7_ (i:=6) rfl zi_ (zl_ (zf_ (zc_ 0 rfl) (ze_ (zq_ 2)))) fun bc=>(at_ [(Zf (tySc K) c),(Zf (tyL tyInt) aY),(Zf tyInt y7),(Zf (tyL tyStr) bj),(Zf (tyL tyStr) fV),(Zf (tyL tyStr) eS),(Zf tyInt bc),Zd,Zd,Zd,Zd,Zd,Zd,Zd,Zd] (zc7_ (i:=7) rfl (zao_ (zF_ (zao_ (zF_ zi_ (zB_ zi_))) (zB_ (zao_ (zF_ zi_ (zB_ zi_)))))) (zl_ (ze_ (zc_ 6 rfl))) fun aW=>(at_ [(Zf (tySc K) c),(Zf (tyL tyInt) aY),(Zf tyInt y7),(Zf (tyL tyStr) bj),(Zf (tyL tyStr) fV),(Zf (tyL tyStr) eS),(Zf tyInt bc),(Zf Qq5 aW),Zd,Zd,Zd,Zd,Zd,Zd,Zd] (zc7_ (i:=8) rfl zj_ (zE_ zc3_ (EvO.fr (znG_ (zv_ zC_) (zdV_ zgH_) (zf_ (zah_ [109,97,116,101,115]) (ze_ (zah_ [119,105,116,104,111,117,116]))))) (zE_ zaA_ (zc_ 6 rfl) (zq_ 2))) fun bt=>(at_ [(Zf (tySc K) c),(Zf (tyL tyInt) aY),(Zf tyInt y7),(Zf (tyL tyStr) bj),(Zf (tyL tyStr) fV),(Zf (tyL tyStr) eS),(Zf tyInt bc),(Zf Qq5 aW),(Zf tyStr bt),Zd,Zd,Zd,Zd,Zd,Zd] (zbv_ (LS:=(fun bp:Jy=>[(Zf (tySc K) c),(Zf (tyL tyInt) aY),(Zf tyInt y7),(Zf (tyL tyStr) bj),(Zf (tyL tyStr) bp),(Zf (tyL tyStr) eS),(Zf tyInt bc),(Zf Qq5 aW),(Zf tyStr bt),Zd,Zd,Zd,Zd,Zd,Zd])) (s_if (zK_ (zE_ zm9_ (zE_ zaA_ (zE_ zbh_ (zc_ 6 rfl) (zq_ 2)) (zq_ 3)) (zq_ 0))) (zev_ (zb1_ (i:=4) rfl (zH_ zj_) (zaK_ (zf_ (zc_ 4 rfl) (ze_ (zaM_ (i:=0) at_0 (zc_ 7 rfl))))) fun iH=>zl6_ (i:=4) rfl (at_ [(Zf (tySc K) c),(Zf (tyL tyInt) aY),(Zf tyInt y7),(Zf (tyL tyStr) bj),(Zf (tyL tyStr) iH),(Zf (tyL tyStr) eS),(Zf tyInt bc),(Zf Qq5 aW),(Zf tyStr bt),Zd,Zd,Zd,Zd,Zd,Zd] (zo_ (S4 (S4 (S4 (.same (.same (.same .nil)))))))))) (zo_ (S4 (S4 (S4 (.same (.same (.same .nil)))))))) fun bp=>(at_ [(Zf (tySc K) c),(Zf (tyL tyInt) aY),(Zf tyInt y7),(Zf (tyL tyStr) bj),(Zf (tyL tyStr) bp),(Zf (tyL tyStr) eS),(Zf tyInt bc),(Zf Qq5 aW),(Zf tyStr bt),Zd,Zd,Zd,Zd,Zd,Zd] (zbv_ (LS:=(fun bz:Jy=>[(Zf (tySc K) c),(Zf (tyL tyInt) aY),(Zf tyInt y7),(Zf (tyL tyStr) bj),(Zf (tyL tyStr) bp),(Zf (tyL tyStr) bz),(Zf tyInt bc),(Zf Qq5 aW),(Zf tyStr bt),Zd,Zd,Zd,Zd,Zd,Zd])) (s_if (zK_ (zE_ zm9_ (zE_ zaA_ (zE_ zbh_ (zc_ 6 rfl) (zq_ 6)) (zq_ 3)) (zq_ 0))) (zev_ (zb1_ (i:=5) rfl (zH_ zj_) (zaK_ (zf_ (zc_ 5 rfl) (ze_ (zaM_ (i:=1) (at_s zcd_) (zc_ 7 rfl))))) fun iG=>zl6_ (i:=5) rfl (at_ [(Zf (tySc K) c),(Zf (tyL tyInt) aY),(Zf tyInt y7),(Zf (tyL tyStr) bj),(Zf (tyL tyStr) bp),(Zf (tyL tyStr) iG),(Zf tyInt bc),(Zf Qq5 aW),(Zf tyStr bt),Zd,Zd,Zd,Zd,Zd,Zd] (zo_ (S4 (S4 (S4 (.same (.same (.same .nil)))))))))) (zo_ (S4 (S4 (S4 (.same (.same (.same .nil)))))))) fun bz=>(at_ [(Zf (tySc K) c),(Zf (tyL tyInt) aY),(Zf tyInt y7),(Zf (tyL tyStr) bj),(Zf (tyL tyStr) bp),(Zf (tyL tyStr) bz),(Zf tyInt bc),(Zf Qq5 aW),(Zf tyStr bt),Zd,Zd,Zd,Zd,Zd,Zd] (zc7_ (i:=9) rfl (zak_ zi_) (zl_ (zf_ (zc_ 5 rfl) (ze_ (zaM_ (i:=1) (at_s zcd_) (zc_ 7 rfl))))) fun bM=>(at_ [(Zf (tySc K) c),(Zf (tyL tyInt) aY),(Zf tyInt y7),(Zf (tyL tyStr) bj),(Zf (tyL tyStr) bp),(Zf (tyL tyStr) bz),(Zf tyInt bc),(Zf Qq5 aW),(Zf tyStr bt),(Zf (tyOpt tyInt) bM),Zd,Zd,Zd,Zd,Zd] (zbv_ (LS:=(fun _:Unit=>[(Zf (tySc K) c),(Zf (tyL tyInt) aY),(Zf tyInt y7),(Zf (tyL tyStr) bj),(Zf (tyL tyStr) bp),(Zf (tyL tyStr) bz),(Zf tyInt bc),(Zf Qq5 aW),(Zf tyStr bt),(Zf (tyOpt tyInt) bM),Zd,Zd,Zd,Zd,Zd])) (s_if (zK_ (zE_ zg2_ (zc_ 9 rfl) zg4_)) (zaW_ (zs_ zz_) (EvF.ow (zl_ (zf_ (zc_ 7 rfl) (zf_ (zc_ 5 rfl) (zf_ (zc_ 8 rfl) (zf_ (zE_ zbh_ (zc_ 6 rfl) (zq_ 18)) (ze_ (zgX_ (zc_ 9 rfl)))))))))) (zo_ (S4 (S4 (S4 (.same (.same (.same .nil)))))))) fun _=>(at_ [(Zf (tySc K) c),(Zf (tyL tyInt) aY),(Zf tyInt y7),(Zf (tyL tyStr) bj),(Zf (tyL tyStr) bp),(Zf (tyL tyStr) bz),(Zf tyInt bc),(Zf Qq5 aW),(Zf tyStr bt),(Zf (tyOpt tyInt) bM),Zd,Zd,Zd,Zd,Zd] (zb1_ (i:=10) rfl (zH_ zj_) (zlh_ zkk_ (ze_ (zc_ 5 rfl))) fun gH=>(at_ [(Zf (tySc K) c),(Zf (tyL tyInt) aY),(Zf tyInt y7),(Zf (tyL tyStr) bj),(Zf (tyL tyStr) bp),(Zf (tyL tyStr) bz),(Zf tyInt bc),(Zf Qq5 aW),(Zf tyStr bt),(Zf (tyOpt tyInt) bM),(Zo (owL tyStr) gH),Zd,Zd,Zd,Zd] (zb1_ (i:=11) rfl (zc0_ (zt_ (zaQ_ (zH_ zj_)) (zt_ (zH_ zi_) (zt_ (zs_ (zao_ (zF_ zi_ (zB_ zi_)))) (zt_ (zs_ (zak_ zj_)) (zt_ (zcV_ zz_) (zt_ (zs_ zz_) zax_))))))) (zaK_ (zf_ (zc_ 7 rfl) (zf_ (zeM_ 10 rfl) (zf_ (zc_ 8 rfl) (ze_ (zE_ zbh_ (zc_ 6 rfl) (zq_ 18))))))) fun fB=>(at_ [(Zf (tySc K) c),(Zf (tyL tyInt) aY),(Zf tyInt y7),(Zf (tyL tyStr) bj),(Zf (tyL tyStr) bp),(Zf (tyL tyStr) bz),(Zf tyInt bc),(Zf Qq5 aW),(Zf tyStr bt),(Zf (tyOpt tyInt) bM),(Zo (owL tyStr) gH),(Zo (Qq0 K) fB),Zd,Zd,Zd] (zbv_ (LS:=(fun _:Unit=>[(Zf (tySc K) c),(Zf (tyL tyInt) aY),(Zf tyInt y7),(Zf (tyL tyStr) bj),(Zf (tyL tyStr) bp),(Zf (tyL tyStr) bz),(Zf tyInt bc),(Zf Qq5 aW),(Zf tyStr bt),(Zf (tyOpt tyInt) bM),(Zo (owL tyStr) gH),(Zo (Qq0 K) fB),Zd,Zd,Zd])) (s_if (ziv_ (zK_ (zE_ (zqR_ (eqt_l zlU_)) (zeM_ 10 rfl) (zc_ 5 rfl))) (ziv_ (zcL_ (zK_ (zqb_ e.fx.isi_Mater_Machine (zhJ_ (P:=Qq6) 11 rfl)))) (zcL_ (zK_ (zl_ (zf_ (zc_ 7 rfl) (ze_ (zc_ 8 rfl)))))))) (zaW_ (zs_ zz_) (EvF.ow (zeL_ false))) (zo_ (S4 (S4 (S4 (.same (.same (.same .nil)))))))) fun _=>(at_ [(Zf (tySc K) c),(Zf (tyL tyInt) aY),(Zf tyInt y7),(Zf (tyL tyStr) bj),(Zf (tyL tyStr) bp),(Zf (tyL tyStr) bz),(Zf tyInt bc),(Zf Qq5 aW),(Zf tyStr bt),(Zf (tyOpt tyInt) bM),(Zo (owL tyStr) gH),(Zo (Qq0 K) fB),Zd,Zd,Zd] (zp1_ (i:=10) rfl (at_ [(Zf (tySc K) c),(Zf (tyL tyInt) aY),(Zf tyInt y7),(Zf (tyL tyStr) bj),(Zf (tyL tyStr) bp),(Zf (tyL tyStr) bz),(Zf tyInt bc),(Zf Qq5 aW),(Zf tyStr bt),(Zf (tyOpt tyInt) bM),(Zo (owL tyStr) ([]:Jy)),(Zo (Qq0 K) fB),Zd,Zd,Zd] (zbv_ (LS:=(fun bg:Qq2=>[(Zf (tySc K) c),(Zf (tyL tyInt) aY),(Zf tyInt y7),(Zf (tyL tyStr) bj),(Zf (tyL tyStr) bp),(Zf (tyL tyStr) bz),(Zf tyInt bc),(Zf Qq5 aW),(Zf tyStr bt),(Zf (tyOpt tyInt) bM),(Zo (owL tyStr) ([]:Jy)),(Zo (Qq0 K) bg),Zd,Zd,Zd])) (zdc_ (L':=[(Zf (tySc K) c),(Zf (tyL tyInt) aY),(Zf tyInt y7),(Zf (tyL tyStr) bj),(Zf (tyL tyStr) bp),(Zf (tyL tyStr) bz),(Zf tyInt bc),(Zf Qq5 aW),(Zf tyStr bt),(Zf (tyOpt tyInt) bM),(Zo (owL tyStr) ([]:Jy)),(Zo (Qq0 K) fB),Zd,Zd,Zd]) (S4 (S4 (S4 (.same (.same (.same .nil)))))) (ziD_ (LS:=(fun bg:Qq2=>[(Zf (tySc K) c),(Zf (tyL tyInt) aY),(Zf tyInt y7),(Zf (tyL tyStr) bj),(Zf (tyL tyStr) bp),(Zf (tyL tyStr) bz),(Zf tyInt bc),(Zf Qq5 aW),(Zf tyStr bt),(Zf (tyOpt tyInt) bM),(Zo (owL tyStr) ([]:Jy)),(Zo (Qq0 K) bg),Zd,Zd,Zd])) (s0:=fB) (zlR_ (ze_ (zc_ 4 rfl))) (zkD_ (zv_ zC_) (zia_ 12 (zh1_ (zaJ_ 13)))) fun bg aR=>at_ [(Zf (tySc K) c),(Zf (tyL tyInt) aY),(Zf tyInt y7),(Zf (tyL tyStr) bj),(Zf (tyL tyStr) bp),(Zf (tyL tyStr) bz),(Zf tyInt bc),(Zf Qq5 aW),(Zf tyStr bt),(Zf (tyOpt tyInt) bM),(Zo (owL tyStr) ([]:Jy)),(Zo (Qq0 K) bg),(Zf tyInt aR.1),(Zf tyStr aR.2),Zd] (zc7_ (i:=14) rfl zj_ (zE_ zc3_ (zc_ 4 rfl) (zh2_ zqB_ (zf_ (zq_ 0) (ze_ (zE_ zbI_ (zc_ 12 rfl) (zq_ 1)))))) fun cH=>(at_ [(Zf (tySc K) c),(Zf (tyL tyInt) aY),(Zf tyInt y7),(Zf (tyL tyStr) bj),(Zf (tyL tyStr) bp),(Zf (tyL tyStr) bz),(Zf tyInt bc),(Zf Qq5 aW),(Zf tyStr bt),(Zf (tyOpt tyInt) bM),(Zo (owL tyStr) ([]:Jy)),(Zo (Qq0 K) bg),(Zf tyInt aR.1),(Zf tyStr aR.2),(Zf tyStr cH)] (zbv_ (LS:=(fun _:Unit=>[(Zf (tySc K) c),(Zf (tyL tyInt) aY),(Zf tyInt y7),(Zf (tyL tyStr) bj),(Zf (tyL tyStr) bp),(Zf (tyL tyStr) bz),(Zf tyInt bc),(Zf Qq5 aW),(Zf tyStr bt),(Zf (tyOpt tyInt) bM),(Zo (owL tyStr) ([]:Jy)),(Zo (Qq0 K) bg),(Zf tyInt aR.1),(Zf tyStr aR.2),(Zf tyStr cH)])) (s_if (zK_ (zE_ zks_ (zl_ (zf_ (zc_ 13 rfl) (ze_ (zaM_ (i:=0) at_0 (zc_ 7 rfl))))) (zl_ (zf_ (zc_ 14 rfl) (ze_ (zaM_ (i:=0) at_0 (zc_ 7 rfl))))))) (by refine zrj_ (tc:=(tCall (zbG_ K) [] E0 (tCons (mVar 11) (tCons (mVar 13) (tCons (tSl (mSl K) (mVar 4) tNoPart (mPart (mVar 12))) tNil))))) (te2:=(mVar 15)) zz_ (zm5_ rfl (zc0_ (zt_ (zaQ_ (zH_ zj_)) (zt_ (zH_ zi_) (zt_ (zs_ (zao_ (zF_ zi_ (zB_ zi_)))) (zt_ (zs_ (zak_ zj_)) (zt_ (zcV_ zz_) (zt_ (zs_ zz_) zax_))))))) (zs_ zz_) .zero (zf_ (zc_ 13 rfl) (ze_ (EvO.fr (zis_ (zc_ 4 rfl) zol_ (ziE_ (zc_ 12 rfl))))))) (fun fw=>atF [(Zf (tySc K) c),(Zf (tyL tyInt) aY),(Zf tyInt y7),(Zf (tyL tyStr) bj),(Zf (tyL tyStr) bp),(Zf (tyL tyStr) bz),(Zf tyInt bc),(Zf Qq5 aW),(Zf tyStr bt),(Zf (tyOpt tyInt) bM),(Zo (owL tyStr) ([]:Jy)),(Zo (Qq0 K) fw.2),(Zf tyInt aR.1),(Zf tyStr aR.2),(Zf tyStr cH),(Zf tyBl fw.1)] (zc_ 15 rfl)) ?_; intro σ fX H Q z; exact match σ,fX,z with | [o0,o1,o2,o3,o4,o5,o6,o7,o8,o9,o10,o11,o12,o13,o14],_,z=>z) (zo_ (S4 (S4 (S4 (.same (.same (.same .nil)))))))) fun _=>(at_ [(Zf (tySc K) c),(Zf (tyL tyInt) aY),(Zf tyInt y7),(Zf (tyL tyStr) bj),(Zf (tyL tyStr) bp),(Zf (tyL tyStr) bz),(Zf tyInt bc),(Zf Qq5 aW),(Zf tyStr bt),(Zf (tyOpt tyInt) bM),(Zo (owL tyStr) ([]:Jy)),(Zo (Qq0 K) bg),(Zf tyInt aR.1),(Zf tyStr aR.2),(Zf tyStr cH)] (by refine zpy_ (tc:=(tMeth (gA K "Mater") "feed" (z3_ K) [] E0 (mVar 11) (tCons (mVar 13) tNil))) (c2:=(mTest (tOp mIsNot (mVar 15) (tC .non)))) (zh6_ (m:="feed") (ns:=Qn0) (by decide +kernel) (zc0_ (zt_ (zaQ_ (zH_ zj_)) (zt_ (zH_ zi_) (zt_ (zs_ (zao_ (zF_ zi_ (zB_ zi_)))) (zt_ (zs_ (zak_ zj_)) (zt_ (zcV_ zz_) (zt_ (zs_ zz_) zax_))))))) (zs_ zgm_) (zmf_ rfl) (zjJ_ (zmj_ zj_ (zc_ 13 rfl)))) (fun cm=>atT [(Zf (tySc K) c),(Zf (tyL tyInt) aY),(Zf tyInt y7),(Zf (tyL tyStr) bj),(Zf (tyL tyStr) bp),(Zf (tyL tyStr) bz),(Zf tyInt bc),(Zf Qq5 aW),(Zf tyStr bt),(Zf (tyOpt tyInt) bM),(Zo (owL tyStr) ([]:Jy)),(Zo (Qq0 K) cm.2),(Zf tyInt aR.1),(Zf tyStr aR.2),(Zf tyStr cH),(Zf tyNon cm.1)] (zK_ (zE_ zhN_ (zc_ 15 rfl) zg4_))) ?_ (fun cm=>at_ [(Zf (tySc K) c),(Zf (tyL tyInt) aY),(Zf tyInt y7),(Zf (tyL tyStr) bj),(Zf (tyL tyStr) bp),(Zf (tyL tyStr) bz),(Zf tyInt bc),(Zf Qq5 aW),(Zf tyStr bt),(Zf (tyOpt tyInt) bM),(Zo (owL tyStr) ([]:Jy)),(Zo (Qq0 K) cm.2),(Zf tyInt aR.1),(Zf tyStr aR.2),(Zf tyStr cH)] (zaW_ (zs_ zz_) (EvF.ow (zeL_ false)))) (fun cm=>at_ [(Zf (tySc K) c),(Zf (tyL tyInt) aY),(Zf tyInt y7),(Zf (tyL tyStr) bj),(Zf (tyL tyStr) bp),(Zf (tyL tyStr) bz),(Zf tyInt bc),(Zf Qq5 aW),(Zf tyStr bt),(Zf (tyOpt tyInt) bM),(Zo (owL tyStr) ([]:Jy)),(Zo (Qq0 K) cm.2),(Zf tyInt aR.1),(Zf tyStr aR.2),(Zf tyStr cH)] (s_if (zcL_ (zK_ (zl_ (zf_ (EvO.fr (zaT_ (m:="back") (ns:=Qn0) (by decide +kernel) (zhJ_ (P:=Qq6) 11 rfl))) (ze_ (EvO.fr (zis_ (zc_ 4 rfl) zol_ (ziE_ (zE_ zbr_ (zc_ 12 rfl) (zq_ 1)))))))))) (zaW_ (zs_ zz_) (EvF.ow (zeL_ false))) (zo_ (S4 (S4 (S4 (.dead (.dead (.dead .nil))))))))); intro σ fX H Q z; exact match σ,fX,z with | [o0,o1,o2,o3,o4,o5,o6,o7,o8,o9,o10,o11,o12,o13,o14],_,z=>z))))))) fun bg=>(at_ [(Zf (tySc K) c),(Zf (tyL tyInt) aY),(Zf tyInt y7),(Zf (tyL tyStr) bj),(Zf (tyL tyStr) bp),(Zf (tyL tyStr) bz),(Zf tyInt bc),(Zf Qq5 aW),(Zf tyStr bt),(Zf (tyOpt tyInt) bM),(Zo (owL tyStr) ([]:Jy)),(Zo (Qq0 K) bg),Zd,Zd,Zd] (zbv_ (LS:=(fun _:Unit=>[(Zf (tySc K) c),(Zf (tyL tyInt) aY),(Zf tyInt y7),(Zf (tyL tyStr) bj),(Zf (tyL tyStr) bp),(Zf (tyL tyStr) bz),(Zf tyInt bc),(Zf Qq5 aW),(Zf tyStr bt),(Zf (tyOpt tyInt) bM),(Zo (owL tyStr) ([]:Jy)),(Zo (Qq0 K) bg),Zd,Zd,Zd])) (s_if (zcL_ (zK_ (zl_ (zf_ (EvO.fr (zaT_ (m:="back") (ns:=Qn0) (by decide +kernel) (zhJ_ (P:=Qq6) 11 rfl))) (ze_ (zc_ 4 rfl)))))) (zaW_ (zs_ zz_) (EvF.ow (zeL_ false))) (zo_ (S4 (S4 (S4 (.same (.same (.same .nil)))))))) fun _=>(at_ [(Zf (tySc K) c),(Zf (tyL tyInt) aY),(Zf tyInt y7),(Zf (tyL tyStr) bj),(Zf (tyL tyStr) bp),(Zf (tyL tyStr) bz),(Zf tyInt bc),(Zf Qq5 aW),(Zf tyStr bt),(Zf (tyOpt tyInt) bM),(Zo (owL tyStr) ([]:Jy)),(Zo (Qq0 K) bg),Zd,Zd,Zd] (zaW_ (zs_ zz_) (EvF.ow (zl_ (zf_ (zhJ_ (P:=Qq6) 11 rfl) (zf_ (zc_ 4 rfl) (zf_ (zc_ 5 rfl) (zf_ (zc_ 7 rfl) (ze_ (zc_ 8 rfl)))))))))))))))))))))))))))))))))))))))))))))) f fd F
theorem all_mk {l:W.OpenLaw}{w:World}{K:Fgg}{h:Heap}{mg:Str->Option Value}{fa:Addr}(X:K.In h)(G:h.Ns mainGlobals mg)(lO:mg "law"=some (.ref fa))(k:Ek K):
  ∃ fd:FuncData,(∀ (s:Shared) (v:Value),BindsTo s fd ⟨[v],[]⟩ [("_law_script",v)])/\∀ base:Heap,K.In base->base.Ns mainGlobals mg->FnOk l.prog w K mg base CX0 13 fa fd ["_law_script"] (spL K):=by
 have e:En K mg:=⟨k,_,X,G⟩
 refine okLaw e.m e.f44 lO (fun _ _ _ _ _ _ _ _=>rfl) fun base f fd F=>?_
 have g0:=zgA_ (P:=l.prog) (w:=w) (base:=base) e
 have g1:=zid_ (P:=l.prog) (w:=w) (base:=base) e
 have g2:=zii_ (P:=l.prog) (w:=w) (base:=base) e g0 g1
 have g3:=ze8_ (P:=l.prog) (w:=w) (base:=base) e
 have g4:=zfH_ (P:=l.prog) (w:=w) (base:=base) e
 have g5:=zie_ (P:=l.prog) (w:=w) (base:=base) e
 have g6:=ziR_ (P:=l.prog) (w:=w) (base:=base) e g5
 have g7:=za2_ (P:=l.prog) (w:=w) (base:=base) e
 have g8:=zcb_ (P:=l.prog) (w:=w) (base:=base) e
 have g9:=zam_ (P:=l.prog) (w:=w) (base:=base) e g7 g8
 have my:=zj3_ (P:=l.prog) (w:=w) (base:=base) e
 have mx:=zkf_ (P:=l.prog) (w:=w) (base:=base) e my
 have mw:=zjk_ (P:=l.prog) (w:=w) (base:=base) e
 have j4:=zij_ (P:=l.prog) (w:=w) (base:=base) e mx mw
 have ib:=zeR_ (P:=l.prog) (w:=w) (base:=base) e j4
 have mv:=zkB_ (P:=l.prog) (w:=w) (base:=base) e ib
 have ia:=zcR_ (P:=l.prog) (w:=w) (base:=base) e
 have h_:=zfI_ (P:=l.prog) (w:=w) (base:=base) e
 have mr:=ze6_ (P:=l.prog) (w:=w) (base:=base) e mv h_ ia
 have h9:=ziZ_ (P:=l.prog) (w:=w) (base:=base) e
 have mn:=ziy_ (P:=l.prog) (w:=w) (base:=base) e h9
 have h8:=zdG_ (P:=l.prog) (w:=w) (base:=base) e mr g9 mn
 have ml:=zig_ (P:=l.prog) (w:=w) (base:=base) e h8
 have h7:=zfJ_ (P:=l.prog) (w:=w) (base:=base) e ml
 have hZ:=zir_ (P:=l.prog) (w:=w) (base:=base) e h8 h7
 have mj:=zeu_ (P:=l.prog) (w:=w) (base:=base) e
 have jt:=zep_ (P:=l.prog) (w:=w) (base:=base) e
 have dU:=zfi_ (P:=l.prog) (w:=w) (base:=base) e
 have mi:=zkE_ (P:=l.prog) (w:=w) (base:=base) e
 have mh:=zcA_ (P:=l.prog) (w:=w) (base:=base) e mi
 have mf:=zda_ (P:=l.prog) (w:=w) (base:=base) e
 have me:=zgN_ (P:=l.prog) (w:=w) (base:=base) e g5 mj dU jt mh mf
 have j2:=ze3_ (P:=l.prog) (w:=w) (base:=base) e g5
 have md:=zer_ (P:=l.prog) (w:=w) (base:=base) e
 have hW:=zgw_ (P:=l.prog) (w:=w) (base:=base) e md
 have ma:=zdE_ (P:=l.prog) (w:=w) (base:=base) e hZ hW
 have l_:=zif_ (P:=l.prog) (w:=w) (base:=base) e
 have gd:=zgh_ (P:=l.prog) (w:=w) (base:=base) e l_
 have l7:=ze7_ (P:=l.prog) (w:=w) (base:=base) e h7
 have l6:=zcT_ (P:=l.prog) (w:=w) (base:=base) e ib h_ ia
 have l4:=zet_ (P:=l.prog) (w:=w) (base:=base) e
 have lZ:=zdD_ (P:=l.prog) (w:=w) (base:=base) e l4
 have gI:=zf7_ (P:=l.prog) (w:=w) (base:=base) e l6 h9 lZ
 have lW:=zfd_ (P:=l.prog) (w:=w) (base:=base) e gI hW dU gd
 exact zqU_ (l:=l) (w:=w) (base:=base) e g3 g2 g4 j2 g6 ma hZ l7 g5 lW gI dU gd me F
theorem walk {l:W.OpenLaw}{q:Program}{loose:List Str}{XP:(Str->Option Value)->Heap->Prop}{YP:World->Heap->Prop}{d:DefRec}{K:Params->Fgg}(hn:l.most=some 63)(jl:d.params.defaults=[])
  (hY:∀ (w:World) (h:Heap),YP w h->(K w.params).In h)
  (F:∀ (w:World) (mg:Str->Option Value) (fa:Addr) (h:Heap),(K w.params).In h->h.Ns mainGlobals mg->mg d.name=some (.ref fa) ->
   ∃ fd:FuncData,(∀ (s:Shared) (u:Value),BindsTo s fd ⟨[u],[]⟩ [("_law_script",u)])/\∀ base:Heap,(K w.params).In base->base.Ns mainGlobals mg->FnOk l.prog w (K w.params) mg base CX0 13 fa fd ["_law_script"] (spL (K w.params))):
  W.WalkO q loose XP YP l.row.toRowW d [] (fun f vs=>PySem.call f vs):=
 L2.zmN_ (n:=63) (k:=13) (x:="_law_script") (CX:=fun _=>CX0) (sp:=fun w=>spL (K w.params)) hn (by decide) jl ⟨rfl,by decide,by decide⟩ hY F (fun _ _ a ns hl hb _ hS=>⟨a,ns,rfl,hS,hl,hb,fun _=>rfl⟩) fun _ _ _ _ _ z=>z
end K56
open PySem PySem.W PyProof.Rows
set_option maxRecDepth 100000 in
set_option maxHeartbeats 0 in
theorem PySem.Challenge.cw_cardshop_k56_mater_holds : PySem.Challenge.rw_cardshop_k56_mater.Holds := by
 w_on; o_law; k_head; (case hw=>w_witness2)
 k_fill
 refine K56.walk (l:=PySem.Challenge.rw_cardshop_k56_mater) rfl rfl (fun w h Y=>W.kIn_of Y) ?F
 case F =>
  intro w mg fa h KX G i8
  refine K56.all_mk KX G i8 ?_
  constructor
  all_goals first | (refine' L2.Fg.mk_ ?x0 ?x1 ?x2 ?x3; (case x0=>k_is); (case x1=>k_is); (case x2=>k_is); (case x3=>k_is)) | (refine' L2.Fm.mk_ ?x0 ?x1 ?x2 ?x3 ?x4 ?x5; (case x0=>k_is); (case x1=>k_is); (case x2=>k_is); (case x3=>k_is); (case x4=>k_is); (case x5=>k_is)) | (refine' L2.Fs.mk_ ?x0 ?x1 ?x2 ?x3 ?x4 ?x5 ?x6; (case x0=>k_is); (case x1=>k_is); (case x2=>k_is); (case x3=>k_is); (case x4=>k_is); (case x5=>k_is); (case x6=>k_is)) | (refine' L2.Fc.mk_ ?x0 ?x1 ?x2 ?x3 ?x4 ?x5 ?x6; (case x0=>k_is); (case x1=>k_is); (case x2=>k_is); (case x3=>k_is); (case x4=>k_is); (case x5=>k_is); (case x6=>k_is)) | (refine' L2.Fa.mk_ ?x0 ?x1; (case x0=>k_is); (case x1=>k_is)) | (delta L2.Fb; k_is) | (refine' L2.Fv.mk_ ?x0 ?x1; (case x0=>k_is); (case x1=>exact ⟨_,rfl⟩)) | (refine' L2.Fk.mk_ ?x0; (case x0=>k_is)) | (refine' L2.Fe1.mk_ ?x0 ?x1; (case x0=>k_is); (case x1=>(show _=_; kernel_rfl!))) | (refine' L2.Fe2.mk_ ?x0 ?x1 ?x2; (case x0=>k_is); (case x1=>k_is); (case x2=>(show _=_; kernel_rfl!)))
#print axioms PySem.Challenge.cw_cardshop_k56_mater_holds
