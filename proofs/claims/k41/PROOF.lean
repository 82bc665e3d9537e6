import PyProof.Rows.All
import Wide.All
import OpenK.AllK
import Wide.FinOn
import Lean
import PyProof.EqAt
import PyProof.EqKinds
import PyProof.TupleCall
import PyProof.StrLawsRepr
import PyProof.NeKinds
import KE.KTryMore
import PyProof.Rows.TupIter
import PyProof.InstStoreFacts
import PyProof.ExcInit
import KE.KEqDict
import KE.KDictOf
import KE.KPairComp
import PySem.Challenge.RW_cardshop_k41_askings_refused
set_option Elab.async false
set_option compiler.extract_closed false
set_option linter.all false
set_option maxRecDepth 100000
set_option maxHeartbeats 4000000
namespace PySem.W.Fast
def tw5217362401807013868:Unit:=()
def tw2415495499373565397:Unit:=()
def tw17899237681419279681:Unit:=()
def tw9601508655837797533:Unit:=()
def tw5725962901005839664:Unit:=()
def tw13414147458109283656:Unit:=()
def tw8814566233737753909:Unit:=()
def tw376260468595574657:Unit:=()
def tw9469347661623572554:Unit:=()
def tw11419873551671593755:Unit:=()
def tw1266016958265674913:Unit:=()
def tw14509879705654165161:Unit:=()
def tw3579279030784408077:Unit:=()
def tw10510078360464075056:Unit:=()
def tw17045895137693172288:Unit:=()
def tw8839102974308941245:Unit:=()
def tw1005537919528819220:Unit:=()
def tw7706821049737601351:Unit:=()
def tw16445666503542365704:Unit:=()
def tw13256186666176817417:Unit:=()
def tw3610498885996817125:Unit:=()
def tw17369248357384645384:Unit:=()
def tw5648305371520095850:Unit:=()
def tw7707520143239108722:Unit:=()
def tw11665129491519914956:Unit:=()
def tw3437712952342480356:Unit:=()
def tw4498931386239806008:Unit:=()
def tw7261211226987588485:Unit:=()
def tw5393133870616077608:Unit:=()
def tw17258490800468282267:Unit:=()
def tw793635820143409045:Unit:=()
def tw4520918457430504243:Unit:=()
def tw7281032602756656366:Unit:=()
def tw9250953489308518446:Unit:=()
def tw8723134376485443390:Unit:=()
def tw14593415476256482296:Unit:=()
def tw9741336408374486966:Unit:=()
def tw4802037503264009969:Unit:=()
def tw2901810968520028867:Unit:=()
def tw11203987940978662073:Unit:=()
def tw3475191765604468606:Unit:=()
def tw2975009862908082647:Unit:=()
def tw5845239732009962153:Unit:=()
def tw1618380624872228406:Unit:=()
def tw13842115367986514566:Unit:=()
def tw8306533580564596533:Unit:=()
def tw2303041551876722896:Unit:=()
def tw15118413482910651294:Unit:=()
def tw1647450739496256952:Unit:=()
def tw8587762104032664054:Unit:=()
def tw5110129104515177811:Unit:=()
def tw7362983002856448555:Unit:=()
def tw10358224993416883362:Unit:=()
def tw7501032275076104020:Unit:=()
def tw7726986224999849563:Unit:=()
def tw2423302696830614137:Unit:=()
def tw12065457633077432082:Unit:=()
def tw5996213628538023299:Unit:=()
def tw543010387270828164:Unit:=()
def tw13860117714750215992:Unit:=()
def tw12408432775761916316:Unit:=()
def tw12067793997041398467:Unit:=()
def tw8215210224137812832:Unit:=()
def tw17666036799373679400:Unit:=()
def tw1439986256381821487:Unit:=()
def tw5305002581243335820:Unit:=()
def tw11715092700428663603:Unit:=()
def tw8941939357965871450:Unit:=()
def tw4495420594893137860:Unit:=()
def tw14140870267570486577:Unit:=()
def tw4230894064751008749:Unit:=()
def tw4584290045269608561:Unit:=()
def tw15730142194600121573:Unit:=()
def tw8801173956518900065:Unit:=()
def tw883282901701027117:Unit:=()
def tw14929905638722871922:Unit:=()
def tw11629214077159468690:Unit:=()
def tw1148314847147952706:Unit:=()
def tw10497694819441499201:Unit:=()
def tw17238789495469481925:Unit:=()
def tw11906789620979373717:Unit:=()
def tw4277706327328382823:Unit:=()
def tw12753287324916893226:Unit:=()
def tw1042610581049547368:Unit:=()
def tw8209778892554550012:Unit:=()
def tw6669139404422121803:Unit:=()
def tw14482717330821879457:Unit:=()
def tw17916773280232832749:Unit:=()
def tw5956905242356102413:Unit:=()
def tw5629767639489316814:Unit:=()
def tw14878083457645371232:Unit:=()
def tw8174410774674355285:Unit:=()
def tw11968216504557867906:Unit:=()
def tw3153274318106307621:Unit:=()
def tw12093415997443539425:Unit:=()
def tw957897290247059278:Unit:=()
def tw9871833534947550764:Unit:=()
def tw5630886278606139461:Unit:=()
def tw6295254333919552841:Unit:=()
def tw6529319604199010059:Unit:=()
def tw1527601068358595276:Unit:=()
def tw16691680878272851705:Unit:=()
def tw9077069607070590122:Unit:=()
def tw12880404953221809017:Unit:=()
def tw12635287453700671573:Unit:=()
def tw16821917108193558705:Unit:=()
def tw15572569146046320742:Unit:=()
end PySem.W.Fast
set_option genSizeOf false
set_option genSizeOfSpec false
noncomputable section
open PySem renaming Value→aL,wpAny_bind→iV,Shared→kZ,Program→m7,Addr→nc,wpAny_pure→nh,wpAny→nI,World→nL,sizeLine→pX,starEach→qg,mainGlobals→qm,Around→qu,compareOp→qB,Expr→qF,wpAny_mono→qH,strIterType→qK,Stmt→qL,wpAny_truthy_bool→rj,FuncData→rm,wpAny_field→rK,wpAny_Call_Name_kw→se,backTo→sh,binaryOp→sq,mem_of_lookup→sr,IsPair→sA,assignEach→sE,wpAny_setField_rec→sL,bootBuiltins→sT,wpAny_passesOwn→ug,NameKind→uo,Builtin→uv,Within→uX,keywordEach→vP,Obj→wb,backToKw→xn,call→xu
open PySem.Heap renaming get?_push_of_some→iX,lt_size→pT,get?_push_size→p7,get?_update_other→rJ,size_push→sG,get?_update_self→sM,SameBut→sU,ExtBut→sY,MadeExcOf→uu,get?_none_of_le→uM,get?_push_cases→uP,get?_update_ne→uW,NotedW→vR,LeftW→wq,get?_push_ne→wD,get?_push_at→wH
open List renaming length_map→l6,size_toArray→ng,getElem?_eq_getElem→nj,mem_cons_self→nu,length_append→nA,replicate→nE,mem_singleton→pS,mem_append_right→p5,mem_cons_of_mem→qa,mem_cons→qf,length_cons→qh,getElem?_eq_some_iff→qi,getD_eq_getElem?_getD→ql,mem_map→qp,map_cons→qv,nil_append→qA,append_nil→qC,length_singleton→qE,range→qG,mem_append→qI,not_mem_nil→qQ,getElem?_map→qU,length_range→qY,mem_range→rd,length_take→rp,all_eq_true→rq,getElem?_append_right→rD,find?_cons→rE,length_nil→rF,map_append→rG,all_cons→rL,map_map→rN,length_drop→rO,length_eq_zero_iff→rP,append_assoc→rW,replicate_succ→rY,length→rZ,mem_append_left→sf,flatten_cons→si,flatMap_cons→sj,nodup_cons→sk,filterMap_cons→sm,getElem?_set_self→sy,any_cons→sC,mem_flatMap→sD,length_zip→sS,getElem?_set_ne→sV,mem_of_getElem?→sW,ext_getElem?→sX,set_eq_of_length_le→tu,flatMap_append→tB,zip_cons_cons→tJ,length_set→tK,mem_iff_getElem?→tM,getElem?_eq_none→tN,all_eq_false→tO,getElem_mem→tR,cons_append→tS,flatMap_nil→tT,getElem?_append_left→tV,drop_eq_getElem_cons→tW,map_congr_left→tY,of_mem_zip→uh,filterMap_map→uj,getElem_range→um,take_of_length_le→ur,toArray→uw,nodup_append→ux,drop_length→uG,lookup_cons→uH,mem_iff_getElem→uQ,foldl_cons→uS,map_nil→uZ,mem_filterMap→vc,any_eq_false→vh,take_nil→vp,getElem_map→vz,foldl→vF,range_succ_eq_map→vH,drop_eq_nil_of_le→vI,forIn_cons→vK,length_replicate→vM,drop_zero→vQ,map_id→vT,mem_map_of_mem→vY,length_reverse→vZ,pairwise_cons→wu,map_singleton→wx,pairwise_map→wF,zipIdx_cons→wQ,any_eq_true→wU,lookup→wX,mem_filter→wZ,zipIdx_nil→xc,forIn_nil→xw,drop_nil→xZ,all_map→yp
open Nat renaming le_refl→nG,ne_of_lt→qo,lt_of_lt_of_le→qw,le_trans→qV,zero_le→rB,le_succ→tG,ne_of_gt→tI,lt_irrefl→tL,lt_succ_of_lt→uq,lt_succ_self→uD,le_of_lt→vB,min_eq_left→vL,le_of_eq→wz,min_eq_right→wM,mul_comm→yj,lt_trans→yk,min_self→yq,sub_zero→yr
open Bool renaming and_eq_true→qj,false_ne_true→qr,eq_iff_iff→sR,false_eq_true→uk,and_eq_true_iff→uR,and_false→ve,not_eq_true'→vk,not_true→wa,false_and→xh,and_true→ya,true_and→yb
open False renaming elim→qk
open PySem.Value renaming ref→qq,none→qJ,bool→tP,type→ui,int→uB,builtin→uK,str→vb,float→wV,isStrOf→xM,isInt→yt,bytes→yu
open Int renaming emod_lt_of_pos→qt,emod_nonneg→qz,toNat_natCast→vm,ediv_one→yi
open PySem.Builtin.Str renaming strSliceIndices→qM,occurrences→tD,tooLong→vW,glued→yE
open Option.some renaming inj→qW
open PySem.W renaming findIn→qX,hideAll_none→rS,nsIn→sd,keepIn→sH,kia_one→tE,emptyDict→tF,fnOf→tX,instObj→uC,funFrames_hide→uF,mroIn→uJ,looks_mroIn→uL,hasDictIn→uN,codeIn→uO,of_hideAll→uY,specialIn→vi,hideAll_get→vn,hideAll→vq,cellsFrom_some→vv,plainGet→vC,callWith_K→vD,plainOver→vN,looks_findIn→vO,Looks→vV,isFn→wj,isNs_of_in→wB,exmAny→wJ,makesIn→wK,OpenLaw→wN,methodObj→wW,mg_of→xg,typeIn→xj,kitOne→xk,looks_typeIn→xq,takerIn→yc,readsIn→ye,findCls→yf,codeRec_of→yh,tail_of_in→yl,clsIn→ym,lookIn→yv
open Array renaming length_toList→qZ,getD_eq_getD_getElem?→rR,getElem?_eq_some_iff→sI,getElem?_setIfInBounds_ne→uy,perm_iff_toList_perm→vg,find?_toList→wg,toList→wy,toList_inj→wO,getD→yC
open PySem.Obj renaming mapSeq→rA,mapFields→uf,isFreed_of_fields→uz,data_mapFields→vf
open PySem.Builtin.SmallTypes renaming ownedTupleIsFree→rM,nextOf→sQ,ownedTupleHandOut→ud
open PyProof.Rows renaming callWith_type1→rQ,slot_tuple_getitem→tw,callWith_builtin1→uE,assign_Tuple→xK,lt_int→yy,lt_str→yz
open True renaming intro→rT
open PySem.Str renaming length→rV,ofString→tQ,empty→vU
open Option renaming map_eq_some_iff→rX,isSome_iff_exists→ue,bind_eq_some_iff→vy,isSome_map→wC,getD_none→wL,none→yw
open PySem.F renaming excBase_ValueError→sJ,slot_zip_next→uU,slot_dict_setdefault→uV,args_tuple_add_2→vo,entry_tuple_add→vw,plain_list_iadd→vx,slot_tuple_add→vE,excAttr_ValueError→vS,slot_str_getitem→wm,args_zip_next_1→wG,slot_tuple_repr→wI,entry_zip_next→wR,slot_int_rmul→xb
open PySem.Builtin.ObjectAttr renaming storeInOwnDict→sO
open PySem.Builtin.Slice renaming slicePlaces→sP,sliceAdjust→tU,sliceApplied→vd,slicePartIndex→w9,sliceFields→xJ
open PySem.Builtin.Tuple renaming tupleExact→sZ,tupleItemsOf→xl
open PySem.Builtin.List renaming listTooLong→tq,listExtendWith→xf,listUpdate→yd
open Ne renaming symm→tH
open PySem.Builtin.Int renaming intBits→tZ
open Classical renaming choose_spec→uA
open Sum renaming inr→uI,inl→vA
open PySem.Builtin renaming divisionGoesByPylong→uT
open PySem.StrLaws renaming subAt_one→vj
open PySem.Builtin.Range renaming rangeSize→vt
open PySem.SeqAt renaming ne_of_list_tuple→vG,RcAt→wt,EqAt→xm
open PySem.SeqAt.EqAt renaming same→vJ,int_str→wc,str_int→we
open PySem.Heap.SameBut renaming update→vX
open PySem.Heap.Ns1 renaming of_empty→wA
open PySem.Heap.UpToSlots renaming of_keeps→wY
open Or renaming inl→xo,inr→xp
open PySem.SeqAt.RcNeAt renaming lists_lengths→xt,tuples→yx,lists→yB
open List.Perm renaming refl→xv
open PySem.EqNone renaming eq_none_none→xy,eq_none_bool→xA,eq_bool_none→xB,ne_none_none→xE,ne_none_bool→xF,ne_bool_none→xG,eq_none_int→xN,eq_none_str→xO,eq_int_none→xP,eq_str_none→xR,ne_none_int→xT,ne_none_str→xU,ne_int_none→xV,ne_str_none→xX
open PySem.EqMixed renaming eq_bool_str→xC,eq_str_bool→xD,ne_bool_str→xH,ne_str_bool→xI,eq_int_str→xQ,eq_str_int→xS,ne_int_str→xW,ne_str_int→xY
open Nat.succ renaming inj→yo
open PySem.Heap.IsSliceOf renaming new→yA
open PySem.Within renaming cons→yD
open List.Pairwise renaming nil→yF
open PySem.Heap.DictOf renaming new→yG
namespace L2
open PySem PySem.Spec PyProof.Rows
theorem sN.{u}{α:Type u}(a:α):some a≠none:=Option.some_ne_none a
abbrev Fgg:=W.Frag
abbrev Pnn:=List (nc×wb)
abbrev Key:=Sum Int Str
def keyIs:Key->aL->Bool
 |.inl k,v=>yt k v
 |.inr x,v=>xM x v
def keyH (w:nL):Key->Int
 |.inl k=>hashInt k
 |.inr x=>hashStr w x
theorem zY_:∀{k:Key}{v:aL},keyIs k v=true->(∃i t,k=vA i/\v=uB i t)\/(∃x t,k=uI x/\v=vb x t)
 |.inl i,v,h=>by
  obtain⟨t,e⟩:=Value.isInt_shape (k:=i) (v:=v) h;exact .inl ⟨i,t,rfl,e⟩
 |.inr x,v,h=>by
  obtain⟨t,e⟩:=Value.isStrOf_shape (x:=x) (v:=v) h;exact .inr ⟨x,t,rfl,e⟩
theorem zlp_ (i:Int)(t:Tok):keyIs (.inl i) (.int i t)=true:=by simp[keyIs,yt]
theorem zlJ_ (x:Str)(t:Tok):keyIs (.inr x) (.str x t)=true:=by simp[keyIs,xM]
theorem zti_ (a b:Int):decide ((vA a:Key)=vA b)=(a == b):=by
 grind
theorem zsd_ (a b:Str):decide ((uI a:Key)=uI b)=decide (a=b):=by
 grind
theorem zsS_ (a:Int)(b:Str):decide ((vA a:Key)=uI b)=false:=decide_eq_false (λq=>nomatch q)
theorem zsD_ (a:Str)(b:Int):decide ((uI a:Key)=vA b)=false:=decide_eq_false (λq=>nomatch q)
noncomputable def mixKind (prog:m7)(w:nL):PySem.KeyKind prog w Key where
 is:=keyIs
 hash:=keyH w
 inj:=λv a b ha hb=>by
  rcases zY_ ha with⟨i,t,rfl,rfl⟩|⟨x,t,rfl,rfl⟩
  ·rcases zY_ hb with⟨j,u,rfl,e⟩|⟨y,u,rfl,e⟩
   ·injection e with e1 _;rw[e1]
   ·exact nomatch e
  ·rcases zY_ hb with⟨j,u,rfl,e⟩|⟨y,u,rfl,e⟩
   ·exact nomatch e
   ·injection e with e1 _;rw[e1]
 byValue:=λk v h=>by
  rcases zY_ h with⟨i,t,rfl,rfl⟩|⟨x,t,rfl,rfl⟩<;>rfl
 pyHash:=λhv h=>by
  rcases zY_ hv with⟨i,t,rfl,rfl⟩|⟨x,t,rfl,rfl⟩
  ·exact wpAny_pyHash_int h
  ·exact wpAny_pyHash_str h
 eqBool:=λhu hv h=>by
  rcases zY_ hu with⟨i,t,rfl,rfl⟩|⟨x,t,rfl,rfl⟩
  ·rcases zY_ hv with⟨j,u,rfl,rfl⟩|⟨y,u,rfl,rfl⟩
   ·rw[zti_]at h;exact wpAny_eqBool_int h
   ·rw[zsS_]at h;exact wc i t y u _ _ _ _ h
  ·rcases zY_ hv with⟨j,u,rfl,rfl⟩|⟨y,u,rfl,rfl⟩
   ·rw[zsD_]at h;exact we x t j u _ _ _ _ h
   ·rw[zsd_]at h;exact wpAny_eqBool_str h
 «strs»:=λk x t v h=>by
  rcases zY_ h with⟨i,u,rfl,e⟩|⟨y,u,rfl,e⟩
  ·exact nomatch e
  ·injection e with e1 _
   subst e1;cases v<;>rfl
theorem zka_ (prog:m7)(w:nL)(k:Key)(v:aL):(mixKind prog w).is k v=keyIs k v:=rfl
theorem zi3_ (prog:m7)(w:nL)(i:Int)(t:Tok):(mixKind prog w).is (.inl i) (.int i t)=true:=zlp_ i t
theorem zi7_ (prog:m7)(w:nL)(x:Str)(t:Tok):(mixKind prog w).is (.inr x) (.str x t)=true:=zlJ_ x t
inductive V where
 |non |bl (b:Bool)|int (i:Int)|str (x:Str)|byt (b:Array UInt8)|flt (b:UInt64)|ref (a:nc)|ty (n:String)
 deriving DecidableEq
def RelV:V->aL->Prop
 |.non,u=>u=qJ
 |.bl b,u=>u=tP b
 |.int i,u=>∃t,u=uB i t
 |.str x,u=>∃t,u=vb x t
 |.byt b,u=>∃t,u=yu b t
 |.flt b,u=>∃t,u=wV b t
 |.ref a,u=>u=qq a
 |.ty n,u=>u=ui n
abbrev Vals:List V->List aL->Prop:=Paired RelV
theorem Vals.length {xs:List V}{us:List aL}(r:Vals xs us):xs.length=us.length:=Paired.length r
theorem Vals.get:∀{xs:List V}{us:List aL}{i:Nat}{x:V},Vals xs us->xs[i]?=some x->∃u,us[i]?=some u/\RelV x u
 |_,_,_,_,.nil,e=>by simp at e
 |_,_,0,_,.cons r _,e=>by simp at e;subst e;exact⟨_,rfl,r⟩
 |_,_,i+1,x,.cons _ t,e=>by
  obtain⟨u,h1,h2⟩:=Vals.get (i:=i) (x:=x) t (by simpa using e)
  exact⟨u,by simpa using h1,h2⟩
theorem Vals.set {x:V}{u:aL}(r:RelV x u):∀{xs:List V}{us:List aL}(i:Nat),Vals xs us->Vals (xs.set i x) (us.set i u)
 |_,_,_,.nil=>.nil
 |_,_,0,.cons _ t=>.cons r t
 |_,_,i+1,.cons q t=>.cons q (Vals.set r i t)
theorem Vals.append:∀{xs ys:List V}{us ws:List aL},Vals xs us->Vals ys ws->Vals (xs++ys) (us++ws)
 |_,_,_,_,.nil,s=>s
 |_,_,_,_,.cons r t,s=>.cons r (Vals.append t s)
theorem Vals.take:∀{xs:List V}{us:List aL}(n:Nat),Vals xs us->Vals (xs.take n) (us.take n)
 |_,_,0,_=>.nil
 |_,_,_+1,.nil=>.nil
 |_,_,n+1,.cons r t=>.cons r (Vals.take n t)
theorem Vals.drop:∀{xs:List V}{us:List aL}(n:Nat),Vals xs us->Vals (xs.drop n) (us.drop n)
 |_,_,0,r=>r
 |_,_,_+1,.nil=>.nil
 |_,_,n+1,.cons _ t=>Vals.drop n t
def RelO:Option V->Option aL->Prop
 |some v,some u=>RelV v u
 |none,none=>True
 |_,_=>False
def KV {κ:Type}:List (κ×V)->List (κ×aL)->Prop:=Paired λ(p:κ×V) (q:κ×aL)=>p.1=q.1/\RelV p.2 q.2
def kV:Key->V
 |.inl i=>.int i
 |.inr x=>.str x
inductive HO where
 |lst (xs:List V)
 |tup (xs:List V)
 |dK (kvs:List (Key×V))|dT (kvs:List (List Key×V))
 |set (S:Int->Bool) (n:Nat)
 |ins (C dx:nc) (fs:List (Str×V))
 |own (x:nc)
 |xd (fs:List (Str×V))
 |met (f x:nc)
 |rng (lo hi:Int)
 |frz (o:wb) (u:HO)
 |tbl (ps:Array aL)
 |ext (φ:Heap->Prop)
abbrev Hp:=nc->Option HO
def upd (H:Hp)(a:nc)(o:HO):Hp:=λb=>if b=a then some o else H b
theorem zq_ {H:Hp}{a:nc}{o:HO}:upd H a o a=some o:=by unfold upd;rw[if_pos rfl]
theorem zI_ {H:Hp}{a b:nc}{o:HO}(h:b≠a):upd H a o b=H b:=by unfold upd;rw[if_neg h]
theorem ne_of {H:Hp}{a b:nc}{o u:HO}(h:H a=some o)(h':H b=some u)(d:o≠u):a≠b:=by
 intro e;subst e;rw[h]at h';exact d (qW h')
theorem zbx_ {H:Hp}{a b:nc}{o:HO}(h:H a=some o)(h':H b=none):a≠b:=by
 intro e;subst e;rw[h]at h';cases h'
section
variable (P:m7)(w:nL)
noncomputable def ObjOk (H:Hp)(h:Heap)(a:nc):HO->Prop
 |.lst xs=>xs.length<=pX/\∃(aa:List aL) (n:Nat),Vals xs aa/\h.get? a=some {cls:=.type "list",data:=.seq aa.toArray n}
 |.tup xs=>xs.length<=pX/\∃aa:List aL,Vals xs aa/\IsTup h a aa.toArray
 |.dK kvs=>kvs.length<=pX/\(a == sysModules)=false/\∃vs,KV kvs vs/\h.DictOf (mixKind P w) a vs
 | .dT kvs=>kvs.length<=pX/\(a == sysModules)=false/\∃xs:List (List Key×nc×aL),
   Paired (λ(p:List Key×V) (q:List Key×nc×aL)=>p.1=q.1/\H q.2.1=some (.tup (p.1.map kV))/\RelV p.2 q.2.2) kvs xs /\
   ∃o es ep,h.get? a=some o/\o.ExactDict/\o.data=.dict es ep/\es.toList=xs.map (entryOfKey (tupleKind (mixKind P w)))/\(xs.map (·.1)).Nodup
 |.set S n=>h.SetOf (intKind P w) a S n
 | .ins C dx fs=>H dx=some (.own a)/\fs.length<=1000/\dx≠a/\h.get? a=some (uC C dx) /\
   ∃mA,h.Ns1 dx mA/\(∀f,RelO (fs.lookup f) (mA f))/\uX mA (fs.map (·.1))
 |.own _=>∃o,h.get? a=some o
 |.xd fs=>∃mA,h.Ns1 a mA/\∀f,RelO (fs.lookup f) (mA f)
 |.rng lo hi=>∃t u v,h.get? a=some {cls:=.type "range",data:=.fields #[.int lo t,.int hi u,.int 1 v]}
 |.frz o u=>h.get? a=some o/\ObjOk H h a u
 |.tbl ps=>h.get? a=some {cls:=.none,data:=.fields ps}
 |.met f x=>h.get? a=some (wW (.ref f) (.ref x))
 |.ext φ=>φ h/\(∃o,h.get? a=some o)/\∀h1 h2:Heap,φ h1->(∀o,h1.get? a=some o->h2.get? a=some o)->φ h2
def HOk (H:Hp)(h:Heap):Prop:=∀a o,H a=some o->ObjOk P w H h a o
end
section
variable {P:m7}{w:nL}{H H':Hp}{h h':Heap}{a:nc}{o:HO}
theorem ObjOk.lt (x:ObjOk P w H h a o):a<h.objs.size:=by
 cases o with
 |lst xs=>obtain⟨_,_,_,_,e⟩:=x;exact pT e
 |tup xs=>obtain⟨_,_,_,p⟩:=x;exact p.lt
 |dK kvs=>obtain⟨_,_,_,_,o,_,_,e,_⟩:=x;exact pT e
 |dT kvs=>obtain⟨_,_,_,_,o,_,_,e,_⟩:=x;exact pT e
 |set S n=>obtain⟨o,_,_,_,e,_⟩:=x;exact pT e
 |ins C dx fs=>obtain⟨_,_,_,e,_⟩:=x;exact pT e
 |own y=>obtain⟨_,e⟩:=x;exact pT e
 |xd fs=>obtain⟨_,⟨_,_,_,e,_⟩,_⟩:=x;exact pT e
 |rng lo hi=>obtain⟨_,_,_,e⟩:=x;exact pT e
 |frz ob u=>obtain⟨e,_⟩:=x;exact pT e
 |tbl ps=>exact pT (show h.get? a=some _ from x)
 |met f y=>exact pT (show h.get? a=some _ from x)
 |ext φ=>obtain⟨_,⟨_,e⟩,_⟩:=x;exact pT e
theorem Paired.mapP {α β:Type}{F G:α->β->Prop}:∀{gu:List α}{gr:List β},Paired F gu gr->(∀a b,F a b->G a b)->Paired G gu gr
 |_,_,.nil,_=>.nil
 |_,_,.cons r t,f=>.cons (f _ _ r) (Paired.mapP t f)
theorem ObjOk.stay (x:ObjOk P w H h a o)(k:∀b u,(b=a\/H b=some (.own a))->h.get? b=some u->h'.get? b=some u)
  (ho:∀b,H b=some (.own a)->H' b=some (.own a)) (ht:∀b xs,H b=some (.tup xs)->H' b=some (.tup xs)):ObjOk P w H' h' a o:=by
 induction o with
 |lst xs=>obtain⟨z,aa,n,r,e⟩:=x;exact⟨z,aa,n,r,k _ _ (.inl rfl) e⟩
 |tup xs=>obtain⟨z,aa,r,ob,e,c⟩:=x;exact⟨z,aa,r,ob,k _ _ (.inl rfl) e,c⟩
 |dK kvs=>obtain⟨z,y,vs,r,ob,es,ep,e,c⟩:=x;exact⟨z,y,vs,r,ob,es,ep,k _ _ (.inl rfl) e,c⟩
 |dT kvs=>
  obtain⟨z,y,xs,r,ob,es,ep,e,c⟩:=x;exact⟨z,y,xs,Paired.mapP r λp q z=>⟨z.1,ht _ _ z.2.1,z.2.2⟩,ob,es,ep,k _ _ (.inl rfl) e,c⟩
 |set S n=>obtain⟨ob,es,ep,t,e,c⟩:=x;exact⟨ob,es,ep,t,k _ _ (.inl rfl) e,c⟩
 |ins C dx fs=>
  obtain⟨d,z,ne,e,mA,⟨od,es,ep,e2,c⟩,r⟩:=x;exact⟨ho _ d,z,ne,k _ _ (.inl rfl) e,mA,⟨od,es,ep,k _ _ (.inr d) e2,c⟩,r⟩
 |own y=>obtain⟨ob,e⟩:=x;exact⟨ob,k _ _ (.inl rfl) e⟩
 |xd fs=>obtain⟨mA,⟨od,es,ep,e,c⟩,r⟩:=x;exact⟨mA,⟨od,es,ep,k _ _ (.inl rfl) e,c⟩,r⟩
 |rng lo hi=>obtain⟨t,u,v,e⟩:=x;exact⟨t,u,v,k _ _ (.inl rfl) e⟩
 |frz ob u ih=>obtain⟨e,q⟩:=x;exact⟨k _ _ (.inl rfl) e,ih q⟩
 |tbl ps=>
  have e:h.get? a=some {cls:=.none,data:=.fields ps}:=x;show h'.get? a=some {cls:=.none,data:=.fields ps}
  exact k a _ (.inl rfl) e
 |met f y=>
  have e:h.get? a=some (wW (.ref f) (.ref y)):=x;show h'.get? a=some (wW (.ref f) (.ref y))
  exact k a _ (.inl rfl) e
 |ext φ=>obtain⟨p,⟨o,e⟩,st⟩:=x;exact⟨st _ _ p λo q=>k _ _ (.inl rfl) q,⟨o,k _ _ (.inl rfl) e⟩,st⟩
theorem HOk.lt (x:HOk P w H h)(e:H a=some o):a<h.objs.size:=(x a o e).lt
theorem HOk.fresh (x:HOk P w H h)(e:h.objs.size<=a):H a=none:=by
 cases q:H a with
 |none=>rfl
 |some u=>exact absurd (qw (x.lt q) e) (tL _)
theorem HOk.kept (x:HOk P w H h)(k:∀b u,h.get? b=some u->h'.get? b=some u):HOk P w H h':=λa o e=>
 (x a o e).stay (λb u _ q=>k b u q) (λ_ q=>q) λ_ _ q=>q
theorem HOk.laid (x:HOk P w H h)(k:∀b u,h.get? b=some u->h'.get? b=some u)(hp:h.objs.size<=a)(new:ObjOk P w (upd H a o) h' a o):HOk P w (upd H a o) h':=λb u e=>by
 have hn:=x.fresh hp;by_cases hb:b=a
 ·subst hb;rw[zq_]at e;cases e;exact new
 ·rw[zI_ hb]at e
  exact(x b u e).stay (λc v _ q=>k c v q) (λc q=>by rw[zI_ (zbx_ q hn)];exact q) λc xs q=>by rw[zI_ (zbx_ q hn)];exact q
end
def Rd (H:Hp)(a:nc)(u:HO):Prop:=H a=some u\/∃o,H a=some (.frz o u)
theorem Rd.ok {P:m7}{w:nL}{H:Hp}{h:Heap}{a:nc}{u:HO}(r:Rd H a u)(x:HOk P w H h):ObjOk P w H h a u:=by
 rcases r with r |⟨o,r⟩
 ·exact x a u r
 ·obtain⟨_,q⟩:=x a _ r
  exact q
def Mut:Option HO->Prop
 |some (.lst _)=>True
 |some (.dK _)=>True
 |some (.dT _)=>True
 |some (.set _ _)=>True
 |some (.ins _ _ _)=>True
 |some (.ext _)=>True
 |_=>False
section
variable {P:m7}{w:nL}{H:Hp}{h h':Heap}{x e:nc}{o':HO}
theorem HOk.write (ok:HOk P w H h)(mu:Mut (H x))(he:e=x\/H e=some (.own x))(k:∀b u,b≠e->h.get? b=some u->h'.get? b=some u)(de:∃u,h'.get? e=some u)
  (new:ObjOk P w (upd H x o') h' x o'):HOk P w (upd H x o') h':=λb u q=>by
 have jh:∀c y,H c=some (.own y)->c≠x:=λc y r z=>by subst z;rw[r]at mu;exact mu
 have jg:∀c xs,H c=some (.tup xs)->c≠x:=λc xs r z=>by subst z;rw[r]at mu;exact mu
 by_cases hb:b=x
 ·subst hb;rw[zq_]at q;cases q;exact new
 ·rw[zI_ hb]at q
  by_cases hbe:b=e
  ·have q':H b=some (.own x):=by
    rcases he with z |z
    ·exact absurd (hbe.trans z) hb
    ·rw[hbe];exact z
   rw[q]at q';cases q';obtain⟨v,hv⟩:=de;exact⟨v,by rw[hbe];exact hv⟩
  ·refine(ok b u q).stay (λc v hc r=>k c v ?_ r) (λc r=>by rw[zI_ (jh c b r)];exact r) λc xs r=>by rw[zI_ (jg c xs r)];exact r
   grind
end
structure Un (fs ex:List nc)(H H':Hp)(h h':Heap):Prop where
 keep:∀b o,h.get? b=some o->H b=none->b∉fs->b∉ex->h'.get? b=some o
 slot:∀b o,h.get? b=some o->H b=none->b∈fs->b∉ex->∃sl,h'.get? b=some {o with slots:=sl}
 free:∀b o,h.get? b=some o->H b=none->b∉ex->H' b=none
 there:∀b o,h.get? b=some o->b∉ex->∃o',h'.get? b=some o'
 tups:∀b xs,H b=some (.tup xs)->H' b=some (.tup xs)
 frzs:∀b o u,H b=some (.frz o u)->H' b=some (.frz o u)
 tbls:∀b ps,H b=some (.tbl ps)->∃more,H' b=some (.tbl (ps++more))
section
variable {fs ex:List nc}{H H1:Hp}{h h1 h':Heap}{a x e:nc}{o:HO}
theorem Un.any (u:Un fs ex H H1 h h1){b:nc}{ob:wb}(q:h.get? b=some ob)(n:H b=none)(hx:b∉ex):∃sl,h1.get? b=some {ob with slots:=sl}:=by
 by_cases hb:b∈fs
 ·exact u.slot b ob q n hb hx
 ·exact⟨ob.slots,u.keep b ob q n hb hx⟩
theorem Un.kept (k:∀b u,h.get? b=some u->h'.get? b=some u):Un fs ex H H h h':=
 ⟨λb ob q _ _ _=>k b ob q,λb ob q _ _ _=>⟨ob.slots,k b ob q⟩,λ_ _ _ n _=>n,λb ob q _=>⟨ob,k b ob q⟩,λ_ _ q=>q,λ_ _ _ q=>q,λ_ ps q=>⟨#[],by rw[q];simp⟩⟩
theorem Un.refl:Un fs ex H H h h:=Un.kept λ_ _ q=>q
theorem Un.laid (k:∀b u,h.get? b=some u->h'.get? b=some u)(hp:h.objs.size<=a)(hn:H a=none):Un fs ex H (upd H a o) h h' where
 keep:=λb u q _ _ _=>k b u q
 slot:=λb u q _ _ _=>⟨u.slots,k b u q⟩
 free:=λb u q n _=>by rw[zI_ (qo (qw (pT q) hp))];exact n
 there:=λb u q _=>⟨u,k b u q⟩
 tups:=λb xs q=>by rw[zI_ (zbx_ q hn)];exact q
 frzs:=λb u xs q=>by rw[zI_ (zbx_ q hn)];exact q
 tbls:=λb ps q=>⟨#[],by rw[zI_ (zbx_ q hn),q];simp⟩
theorem Un.write (mu:Mut (H x))(he:e=x\/H e=some (.own x))(k:∀b u,b≠e->h.get? b=some u->h'.get? b=some u)(de:∃u,h'.get? e=some u):Un fs ex H (upd H x o) h h':=by
 have hx:∀b,H b=none->b≠x:=λb n z=>by subst z;rw[n]at mu;exact mu
 have hb:∀b,H b=none->b≠e:=λb n z=>by
  subst z;rcases he with r |r
  ·exact hx b n r
  ·rw[n]at r;cases r
 have hm:∀b u,H b=some u->¬Mut (some u)->b≠x:=λb u q nm z=>by subst z;rw[q]at mu;exact nm mu
 refine⟨λb u q n _ _=>k b u (hb b n) q,λb u q n _ _=>⟨u.slots,k b u (hb b n) q⟩,λb u q n _=>by rw[zI_ (hx b n)];exact n,λb u q _=>?_,
  λb xs q=>by rw[zI_ (hm b _ q λz=>z)];exact q,λb u xs q=>by rw[zI_ (hm b _ q λz=>z)];exact q,λb ps q=>⟨#[],by rw[zI_ (hm b _ q λz=>z),q];simp⟩⟩
 by_cases hbe:b=e
 ·subst hbe;exact de
 ·exact⟨u,k b u hbe q⟩
end
def trk (h:Heap)(H:Hp):List nc:=(qG h.objs.size).filter λa=>(H a).isSome
def hidT (h:Heap)(H:Hp):Heap:=vq h (trk h H)
theorem zlO_ (h:Heap)(H:Hp):(hidT h H).objs.size=h.objs.size:=W.hideAll_size _ _
theorem zoS_ {h:Heap}{H:Hp}{b:nc}{o:wb}(e:h.get? b=some o)(n:H b=none):(hidT h H).get? b=some o:=
 vn _ e λhm=>by
  have q:(H b).isSome=true:=(wZ.mp hm).2;rw[n]at q;simp at q
theorem zqy_ {h:Heap}{H:Hp}{b:nc}{o:wb}(e:(hidT h H).get? b=some o):h.get? b=some o/\H b=none:=by
 have e':h.get? b=some o:=uY (trk h H) e;refine⟨e',?_⟩;cases q:H b with
 |none=>rfl
 |some x=>
  have hm:b∈trk h H:=wZ.mpr ⟨rd.mpr (pT e'),by simp[q]⟩
  have z:(hidT h H).get? b=none:=rS (trk h H) hm;rw[z]at e;cases e
def allNews (g h:Heap)(L:nc):Pnn:=(qG h.objs.size).filterMap λa=>if a=L\/(g.get? a).isSome=true then none else(h.get? a).map λo=>(a,o)
def rest (g h:Heap)(L d:nc):Pnn:=(allNews g h L).filter λp=>decide (p.1≠d)
structure Mod (K:Fgg)(mg:Str->Option aL)(base:Heap):Prop where
 kin:K.In base
 glob:base.Ns qm mg
 blt:∃mb,base.Ns builtinsNs mb/\∀x:Str,x ≠ "__name__" -> mb x=sT x
 nolimit:base.NoLimit
structure Cx where
 prog:m7
 w:nL
 K:Fgg
 mg:Str->Option aL
 base:Heap
 A:qu
 N:List Str
 s₀:kZ
 H₀:Hp
 env:Env
 outer:List Env
 stack:List Env
 ex:List nc
 fn:Str->Bool
 calm:Bool
 pn:Pnn
 xe:aL->kZ->Prop
def frs (l:List Env):List nc:=l.filterMap (·.frame)
abbrev Cx.fs (X:Cx):List nc:=frs X.outer
def Vis (sc:Scope)(x:Str):Prop:=sc.names.lookup x=some .local\/sc.names.lookup x=some .cell\/sc.names.lookup x=some .free
def Loc (sc:Scope)(x:Str):Prop:=sc.names.lookup x=some .local\/sc.names.lookup x=some .cell
def Look (env:Env)(h:Heap)(m:Str->Option aL)(x:Str)(u:aL):Prop:=
 (env.kindOf x=some .local/\m x=some u)\/((env.kindOf x=some .cell\/env.kindOf x=some .free)/\∃c,env.cells.lookup x=some c/\h.IsCell c (some u))
structure Cx.Ok (X:Cx):Prop where
 mod:Mod X.K X.mg X.base
 kind:X.env.scope.kind=.function
 glob:X.env.globals=qm
 blt:X.env.builtins=builtinsNs
 above:X.s₀.heap.objs.size<=X.env.locals
 inj:∀x y c,X.env.cells.lookup x=some c->X.env.cells.lookup y=some c->x=y
 has:∀x,(X.env.kindOf x=some .cell\/X.env.kindOf x=some .free)->∃c,X.env.cells.lookup x=some c
 cab:∀x c,X.fn x=true->X.env.cells.lookup x=some c->X.s₀.heap.objs.size<=c
 hd:X.calm=true->X.A.handled=none
 frames:X.A.frames=some X.stack
 stk:X.stack=X.outer\/(X.stack=X.env::X.outer/\X.env.frame=some X.env.locals)
 exf:∀b∈X.ex,b≠X.env.locals/\∀x c,X.env.cells.lookup x=some c->c≠b
 bs:∀b o,X.base.get? b=some o->X.s₀.heap.get? b=some o/\X.H₀ b=none
 bsz:X.base.objs.size<=X.s₀.heap.objs.size
 noex:∀b o,X.base.get? b=some o->b∉X.ex
 exfs:∀b∈X.ex,b∉X.fs
 funs:X.s₀.heap.FunFrames X.base X.outer
 frf:∀b∈X.fs,X.H₀ b=none
structure Inv (X:Cx)(pins:Pnn)(σ:List (Option V))(H:Hp)(s:kZ):Prop where
 ok:X.Ok
 os:s.os=X.s₀.os
 bare:AllBare s.gens
 base:Un X.fs X.ex X.H₀ H X.s₀.heap s.heap
 loc:∃m,s.heap.Ns X.env.locals m/\∀(i:Nat) (x:Str) (v:V),X.N[i]?=some x->σ[i]?=some (some v)->Vis X.env.scope x->∃u,RelV v u/\Look X.env s.heap m x u
 cell:∀x c,X.env.cells.lookup x=some c->∃v,s.heap.IsCell c v
 free:H X.env.locals=none
 freeC:∀x c,X.env.cells.lookup x=some c->H c=none
 pin:∀p∈X.pn++pins,s.heap.get? p.1=some p.2/\H p.1=none/\p.1≠X.env.locals/\p.1∉X.fs/\∀v,p.2.data≠.cell v
 hok:HOk X.prog X.w H s.heap
 len:σ.length=X.N.length
section
variable {X:Cx}{pins:Pnn}{σ:List (Option V)}{H H':Hp}{s:kZ}{h':Heap}
theorem Cx.Ok.nofr (ok:X.Ok){b:nc}{o:wb}(e:X.base.get? b=some o):b∉X.fs:=λhb=>by
 have:=(ok.funs.mem hb).1;rw[e]at this;cases this
theorem Inv.bs (I:Inv X pins σ H s):∀b o,X.base.get? b=some o->s.heap.get? b=some o/\H b=none:=λb o e=>
 ⟨I.base.keep b o (I.ok.bs b o e).1 (I.ok.bs b o e).2 (I.ok.nofr e) (I.ok.noex b o e),I.base.free b o (I.ok.bs b o e).1 (I.ok.bs b o e).2 (I.ok.noex b o e)⟩
theorem Inv.bk (I:Inv X pins σ H s):∀b o,X.base.get? b=some o->s.heap.get? b=some o:=λb o e=>(I.bs b o e).1
theorem Inv.mod (I:Inv X pins σ H s):Mod X.K X.mg X.base:=I.ok.mod
theorem Inv.kIn (I:Inv X pins σ H s):X.K.In s.heap:=I.ok.mod.kin.keeps I.bk
theorem Inv.lt (I:Inv X pins σ H s):X.env.locals<s.heap.objs.size:=let⟨_,hn,_⟩:=I.loc;hn.lt
theorem Inv.sz (I:Inv X pins σ H s):X.s₀.heap.objs.size<=s.heap.objs.size:=qV I.ok.above (vB I.lt)
theorem Inv.nofs (I:Inv X pins σ H s){a:nc}(h:s.heap.objs.size<=a):a∉X.fs:=λhb=>by
 obtain⟨_,o,ho,_⟩:=I.ok.funs.mem hb;exact absurd (qw (pT ho) (qV I.sz h)) (tL _)
theorem Inv.cne (I:Inv X pins σ H s):∀x c,X.env.cells.lookup x=some c->c≠X.env.locals:=λx c e z=>by
 obtain⟨v,o,ho,hd⟩:=I.cell x c e;obtain⟨m,⟨o',es,ep,bR,hd',_⟩,_⟩:=I.loc;rw[z,bR]at ho;cases ho;rw[hd']at hd;cases hd
theorem Inv.funs (I:Inv X pins σ H s):s.heap.FunFrames X.base X.outer:=by
 have all:∀(l:List Env),(∀b∈frs l,b∈X.fs)->X.s₀.heap.FunFrames X.base l->s.heap.FunFrames X.base l:=by
  intro l;induction l with
  |nil=>intro _ _;trivial
  |cons env r ih=>
   intro hs hl;obtain⟨hk,⟨L,o,hf,hn,ho,hd⟩,hr⟩:=hl;have hL:L∈X.fs:=hs L (by unfold frs;rw[sm,hf];exact nu)
   obtain⟨sl,e⟩:=I.base.slot L o ho (I.ok.frf L hL) hL λz=>I.ok.exfs L z hL
   exact⟨hk,⟨L,_,hf,hn,e,hd⟩,ih (λb hb=>hs b (by unfold frs;rw[sm,hf];exact qa _ hb)) hr⟩
 exact all X.outer (λ_ hb=>hb) I.ok.funs
theorem Inv.stack (I:Inv X pins σ H s):s.heap.FunFrames X.base X.stack:=by
 rcases I.ok.stk with e |⟨e,hf⟩
 ·rw[e];exact I.funs
 ·rw[e]
  obtain⟨m,hn,_⟩:=I.loc;refine .cons (by rw[I.ok.kind];decide) hf hn ?_ I.funs
  exact uM (qV I.ok.bsz I.ok.above)
theorem Inv.stkSub (I:Inv X pins σ H s):∀b∈frs X.stack,b∈X.env.locals::X.fs:=λb hb=>by
 rcases I.ok.stk with e |⟨e,hf⟩
 ·rw[e]at hb;exact qa _ hb
 ·rw[e]at hb
  unfold frs at hb;rw[sm,hf]at hb;exact hb
theorem Inv.stkFree (I:Inv X pins σ H s):∀b∈frs X.stack,H b=none:=λb hb=>by
 rcases qf.mp (I.stkSub b hb)with e |hb
 ·rw[e];exact I.free
 ·obtain⟨_,o,ho,_⟩:=I.ok.funs.mem hb
  exact I.base.free b o ho (I.ok.frf b hb) λz=>I.ok.exfs b z hb
theorem Inv.step {g':Array GenState}{t':Nat}{d':Drawn}{ch:List nc}(I:Inv X pins σ H s)
  (dJ:∀b∈ch,(b∈X.ex\/X.s₀.heap.objs.size<=b)/\b≠X.env.locals/\(∀x c,X.env.cells.lookup x=some c->c≠b)/\∀p∈X.pn++pins,p.1≠b)
  (keep:∀b o,b≠X.env.locals->b∉X.fs->b∉ch->s.heap.get? b=some o->H b=none->h'.get? b=some o)
  (slot:∀b o,b≠X.env.locals->b∈X.fs->b∉ch->s.heap.get? b=some o->H b=none->∃sl,h'.get? b=some {o with slots:=sl}) (free:∀b o,b∉ch->s.heap.get? b=some o->H b=none->H' b=none)
  (there:∀b o,b∉ch->s.heap.get? b=some o->∃o',h'.get? b=some o')
  (tups:∀b xs,H b=some (.tup xs)->H' b=some (.tup xs)) (frzs:∀b o u,H b=some (.frz o u)->H' b=some (.frz o u)) (tbls:∀b ps,H b=some (.tbl ps)->∃more,H' b=some (.tbl (ps++more)))
  (ns:∀m,s.heap.Ns X.env.locals m->h'.Ns X.env.locals m) (hok:HOk X.prog X.w H' h') (hg:AllBare g'):
  Inv X pins σ H' {s with heap:=h',gens:=g',drawn:=d',toks:=t'}:=by
 have l7:∀b o,X.s₀.heap.get? b=some o->b≠X.env.locals:=λb o e=>qo (qw (pT e) I.ok.above)
 have iu:∀b o,X.s₀.heap.get? b=some o->b∉X.ex->b∉ch:=λb o e hx hb=>by
  rcases(dJ b hb).1 with z |z
  ·exact hx z
  ·exact absurd (qw (pT e) z) (tL _)
 have cellK:∀x c,X.env.cells.lookup x=some c->∀v,s.heap.IsCell c v->h'.IsCell c v:=λx c e v ⟨o,ho,hd⟩=>by
  have l9:c∉ch:=λz=>(dJ c z).2.2.1 x c e rfl
  by_cases hc:c∈X.fs
  ·obtain⟨sl,q⟩:=slot c o (I.cne x c e) hc l9 ho (I.freeC x c e)
   exact⟨_,q,hd⟩
  ·exact⟨o,keep c o (I.cne x c e) hc l9 ho (I.freeC x c e),hd⟩
 refine⟨I.ok,I.os,hg,⟨λb o e n hb hx=>?_,λb o e n hb hx=>?_,λb o e n hx=>?_,λb o e hx=>?_,λb xs e=>tups b xs (I.base.tups b xs e),λb o xs e=>frzs b o xs (I.base.frzs b o xs e),λb ps e=>?_⟩,?_,λx c e=>?_,?_,λx c e=>?_,λp hp=>?_,hok,I.len⟩
 ·exact keep b o (l7 b o e) hb (iu b o e hx) (I.base.keep b o e n hb hx) (I.base.free b o e n hx)
 ·obtain⟨sl,e1⟩:=I.base.slot b o e n hb hx
  obtain⟨eB,e2⟩:=slot b _ (l7 b o e) hb (iu b o e hx) e1 (I.base.free b o e n hx);exact⟨eB,e2⟩
 ·obtain⟨o',e1⟩:=I.base.there b o e hx
  exact free b o' (iu b o e hx) e1 (I.base.free b o e n hx)
 ·obtain⟨o',e1⟩:=I.base.there b o e hx
  exact there b o' (iu b o e hx) e1
 ·obtain⟨m1,e1⟩:=I.base.tbls b ps e
  obtain⟨m2,e2⟩:=tbls b _ e1;exact⟨m1++m2,by rw[e2,Array.append_assoc]⟩
 ·obtain⟨m,hn,hl⟩:=I.loc
  refine⟨m,ns m hn,λi x v e1 e2 e3=>?_⟩
  obtain⟨u,r,l⟩:=hl i x v e1 e2 e3;refine⟨u,r,?_⟩;rcases l with l |⟨k,c,e,z⟩
  ·exact .inl l
  ·exact .inr ⟨k,c,e,cellK x c e _ z⟩
 ·obtain⟨v,z⟩:=I.cell x c e
  exact⟨v,cellK x c e v z⟩
 ·obtain⟨m,⟨o,_,_,ho,_⟩,_⟩:=I.loc
  exact free _ o (λz=>(dJ _ z).2.1 rfl) ho I.free
 ·obtain⟨v,o,ho,hd⟩:=I.cell x c e
  exact free c o (λz=>(dJ c z).2.2.1 x c e rfl) ho (I.freeC x c e)
 ·obtain⟨e,n,ne,nf,d⟩:=I.pin p hp
  grind
theorem Inv.un {t':Nat}(I:Inv X pins σ H s)(u:Un X.fs [] H H' s.heap h')(hok:HOk X.prog X.w H' h'):Inv X pins σ H' {s with heap:=h',toks:=t'}:=by
 obtain⟨m,⟨o,es,ep,ho,r⟩,_⟩:=id I.loc;obtain⟨sl,hL⟩:=u.any ho I.free (by simp)
 exact I.step (g':=s.gens) (d':=s.drawn) (ch:=[]) (λ_ z=>nomatch z) (λb o _ hb _ e n=>u.keep b o e n hb (by simp)) (λb o _ hb _ e n=>u.slot b o e n hb (by simp)) (λb o _ e n=>u.free b o e n (by simp)) (λb o _ e=>u.there b o e (by simp)) u.tups u.frzs u.tbls (λm' hm=>by
  obtain⟨o',es',ep',bR,r'⟩:=hm;rw[ho]at bR;cases bR;exact⟨_,es',ep',hL,r'⟩) hok I.bare
theorem Inv.call {g':Array GenState}{t':Nat}{d':Drawn}{ch:List nc}(I:Inv X pins σ H s)(u:Un (frs X.stack) ch H H' s.heap h')(hok:HOk X.prog X.w H' h')(hg:AllBare g')
  (dJ:∀b∈ch,(b∈X.ex\/X.s₀.heap.objs.size<=b)/\b≠X.env.locals/\(∀x c,X.env.cells.lookup x=some c->c≠b)/\∀p∈X.pn++pins,p.1≠b):
  Inv X pins σ H' {s with heap:=h',gens:=g',drawn:=d',toks:=t'}:=by
 obtain⟨m,⟨o,es,ep,ho,r⟩,_⟩:=id I.loc;obtain⟨sl,hL⟩:=u.any ho I.free λz=>(dJ _ z).2.1 rfl
 exact I.step (ch:=ch) dJ (λb o hL hb hc e n=>u.keep b o e n (λz=>(qf.mp (I.stkSub b z)).elim hL hb) hc) (λb o _ _ hc e n=>u.any e n hc) (λb o hc e n=>u.free b o e n hc) (λb o hc e=>u.there b o e hc) u.tups u.frzs u.tbls (λm' hm=>by
  obtain⟨o',es',ep',bR,r'⟩:=hm;rw[ho]at bR;cases bR;exact⟨_,es',ep',hL,r'⟩) hok hg
theorem Inv.turned {t':Nat}{it:nc}(I:Inv X pins σ H s)(k:∀b o,b≠it->s.heap.get? b=some o->h'.get? b=some o)(hn:H it=none)(hL:it≠X.env.locals)
  (h1:it∈X.ex\/X.s₀.heap.objs.size<=it) (h2:∀x c,X.env.cells.lookup x=some c->c≠it) (h3:∀p∈X.pn++pins,p.1≠it):Inv X pins σ H {s with heap:=h',toks:=t'}:=by
 have gp:∀b u,H b=some u->b≠it:=λb u e z=>by rw[z,hn]at e;cases e
 refine I.step (g':=s.gens) (d':=s.drawn) (ch:=[it]) (λb hb=>?_) (λb o _ _ hc e _=>k b o (λz=>hc (by simp[z])) e) (λb o _ _ hc e _=>⟨o.slots,k b o (λz=>hc (by simp[z])) e⟩) (λ_ _ _ _ n=>n)
  (λb o hc e=>⟨o,k b o (λz=>hc (by simp[z])) e⟩) (λ_ _ e=>e) (λ_ _ _ e=>e) (λb ps e=>⟨#[],by rw[e];simp⟩) (λm hm=>?_) (λb u e=>?_) I.bare
 ·have e:b=it:=by simpa using hb
  subst e;exact⟨h1,hL,h2,h3⟩
 ·obtain⟨o,es,ep,ho,r⟩:=hm
  exact⟨o,es,ep,k _ o (tH hL) ho,r⟩
 ·refine(I.hok b u e).stay (λc v hc q=>k c v ?_ q) (λ_ q=>q) λ_ _ q=>q
  rcases hc with z |z
  ·rw[z];exact gp b u e
  ·exact gp c _ z
theorem Inv.tok (I:Inv X pins σ H s)(t:Nat):Inv X pins σ H {s with toks:=t}:=I.un (h':=s.heap) (t':=t) Un.refl I.hok
theorem Inv.kept {t':Nat}(I:Inv X pins σ H s)(k:∀b u,s.heap.get? b=some u->h'.get? b=some u):Inv X pins σ H {s with heap:=h',toks:=t'}:=I.un (Un.kept k) (I.hok.kept k)
theorem Inv.laid {a:nc}{o:HO}{t':Nat}(I:Inv X pins σ H s)(k:∀b u,s.heap.get? b=some u->h'.get? b=some u)(hp:s.heap.objs.size<=a)(new:ObjOk X.prog X.w (upd H a o) h' a o):
  Inv X pins σ (upd H a o) {s with heap:=h',toks:=t'}:=I.un (Un.laid k hp (I.hok.fresh hp)) (I.hok.laid k hp new)
theorem Inv.write {x e:nc}{o:HO}{t':Nat}(I:Inv X pins σ H s)(mu:Mut (H x))(he:e=x\/H e=some (.own x))(k:∀b u,b≠e->s.heap.get? b=some u->h'.get? b=some u)(de:∃u,h'.get? e=some u)
  (new:ObjOk X.prog X.w (upd H x o) h' x o):Inv X pins σ (upd H x o) {s with heap:=h',toks:=t'}:=I.un (Un.write mu he k de) (I.hok.write mu he k de new)
theorem Inv.pins_of {dP:Pnn}(I:Inv X pins σ H s)(h:∀p∈dP,s.heap.get? p.1=some p.2/\H p.1=none/\p.1≠X.env.locals/\p.1∉X.fs/\∀v,p.2.data≠.cell v):Inv X dP σ H s:=
 ⟨I.ok,I.os,I.bare,I.base,I.loc,I.cell,I.free,I.freeC,λp hp=>(qI.mp hp).elim (λz=>I.pin p (sf _ z)) (h p),I.hok,I.len⟩
theorem zhq_ {N:List Str}(hN:N.Nodup){i j:Nat}{x:Str}(a:N[i]?=some x)(b:N[j]?=some x):i=j:=by
 obtain⟨h1,e1⟩:=qi.mp a;obtain⟨h2,e2⟩:=qi.mp b;exact(List.getElem_inj hN).mp (e1.trans e2.symm)
theorem zlP_ {M:Model}{A:qu}{E:aL->kZ->Prop}{i:Nat}{x:Str}{v:V}{u:aL}{Q:Unit->kZ->Prop}(I:Inv X pins σ H s)(hN:X.N.Nodup)(hi:X.N[i]?=some x)(hx:Loc X.env.scope x)(r:RelV v u)
  (h:∀s',Inv X pins (σ.set i (some v)) H s'->(∃a,sU a s.heap s'.heap/\(a=X.env.locals\/X.env.cells.lookup x=some a))->Q () s') (hf:X.fn x=true\/X.env.scope.names.lookup x=some .local:=by first |exact .inl rfl |exact .inr rfl |assumption):nI M A (storeName X.env x u) Q E s:=by
 obtain⟨m,hn,hl⟩:=id I.loc;have fD:(X.env.scope.kind == .class ||(X.env.scope.kind == .module && X.env.locals != X.env.globals))=false:=by rw[I.ok.kind];rfl
 have cQ:i<σ.length:=by rw[I.len];exact(qi.mp hi).1
 have cne:=I.cne;have tracked:∀{a:nc}{h':Heap},(∃o,s.heap.get? a=some o/\H a=none)->sU a s.heap h'->HOk X.prog X.w H h':=λ{a h'} ha hs b ob e=>by
  obtain⟨_,_,hfree⟩:=ha;refine(I.hok b ob e).stay (λc w' hc q=>(hs.2 c ?_).trans q) (λ_ q=>q) λ_ _ q=>q
  grind
 rcases hx with hk |hk
 ·refine wpAny_storeName_local hk hn (λh' dH hs=>?_) fD
  obtain⟨oL,_,_,dU,_⟩:=id hn;refine h _ ⟨I.ok,I.os,I.bare,⟨λb o e n hb hx=>?_,λb o e n hb hx=>?_,I.base.free,λb o e hx=>?_,I.base.tups,I.base.frzs,I.base.tbls⟩,⟨_,dH,λj y v' e1 e2 e3=>?_⟩,λy c e=>?_,I.free,I.freeC,λp hp=>?_,tracked ⟨oL,dU,I.free⟩ hs,by simpa using I.len⟩ ⟨_,hs,.inl rfl⟩
  ·exact(hs.2 b (qo (qw (pT e) I.ok.above))).trans (I.base.keep b o e n hb hx)
  ·obtain⟨sl,e1⟩:=I.base.slot b o e n hb hx
   exact⟨sl,(hs.2 b (qo (qw (pT e) I.ok.above))).trans e1⟩
  ·obtain⟨o',e1⟩:=I.base.there b o e hx
   exact⟨o',(hs.2 b (qo (qw (pT e) I.ok.above))).trans e1⟩
  ·by_cases hj:j=i
   ·subst hj
    rw[hi]at e1;cases e1;rw[sy cQ]at e2;cases e2;exact⟨u,r,.inl ⟨hk,by simp⟩⟩
   ·rw[sV (tH hj)]at e2
    obtain⟨u',r',q⟩:=hl j y v' e1 e2 e3;refine⟨u',r',?_⟩;rcases q with⟨k,e⟩|⟨k,c,e,z⟩
    ·refine .inl ⟨k,?_⟩
     have:y≠x:=λe=>hj (zhq_ hN e1 (e ▸ hi))
     simp[this,e]
    ·exact .inr ⟨k,c,e,z.sameBut hs (cne y c e)⟩
  ·obtain⟨w',z⟩:=I.cell y c e
   exact⟨w',z.sameBut hs (cne y c e)⟩
  ·obtain⟨e,n,ne,nf,d⟩:=I.pin p hp
   exact⟨(hs.2 p.1 ne).trans e,n,ne,nf,d⟩
 ·have fB:X.fn x=true:=by
   rcases hf with z |z
   ·exact z
   ·rw[z]at hk;cases hk
  obtain⟨c,hc⟩:=I.ok.has x (.inl hk);obtain⟨w',z⟩:=I.cell x c hc;refine wpAny_storeName_cell I.ok.kind hk hc z (λh' dg hs=>?_)
  obtain⟨oc,hoc,hocd⟩:=id z;refine h {s with heap:=h'} ⟨I.ok,I.os,I.bare,⟨λb o e n hb hx=>?_,λb o e n hb hx=>?_,I.base.free,λb o e hx=>?_,I.base.tups,I.base.frzs,I.base.tbls⟩,⟨m,hn.sameBut hs (tH (cne x c hc)),λj y v' e1 e2 e3=>?_⟩,λy c' e=>?_,I.free,I.freeC,λp hp=>?_,tracked ⟨oc,hoc,I.freeC x c hc⟩ hs,by simpa using I.len⟩ ⟨c,hs,.inr hc⟩
  ·exact(hs.2 b (qo (qw (pT e) (I.ok.cab x c fB hc)))).trans (I.base.keep b o e n hb hx)
  ·obtain⟨sl,e1⟩:=I.base.slot b o e n hb hx
   exact⟨sl,(hs.2 b (qo (qw (pT e) (I.ok.cab x c fB hc)))).trans e1⟩
  ·obtain⟨o',e1⟩:=I.base.there b o e hx
   exact⟨o',(hs.2 b (qo (qw (pT e) (I.ok.cab x c fB hc)))).trans e1⟩
  ·by_cases hj:j=i
   ·subst hj
    rw[hi]at e1;cases e1;rw[sy cQ]at e2;cases e2;exact⟨u,r,.inr ⟨.inl hk,c,hc,dg⟩⟩
   ·rw[sV (tH hj)]at e2
    obtain⟨u',r',q⟩:=hl j y v' e1 e2 e3;refine⟨u',r',?_⟩;rcases q with q |⟨k,c',e,z'⟩
    ·exact .inl q
    ·refine .inr ⟨k,c',e,z'.sameBut hs ?_⟩
     rintro rfl;exact hj (zhq_ hN e1 (I.ok.inj _ _ _ e hc ▸ hi))
  ·by_cases j4:c'=c
   ·subst j4;exact⟨_,dg⟩
   ·obtain⟨w2,z2⟩:=I.cell y c' e
    exact⟨w2,z2.sameBut hs j4⟩
  ·obtain⟨e,n,ne,nf,d⟩:=I.pin p hp
   refine⟨(hs.2 p.1 ?_).trans e,n,ne,nf,d⟩;grind
theorem ze4_ {M:Model}{A:qu}{E:aL->kZ->Prop}{i:Nat}{x:Str}{v:V}{u:aL}{Q:Unit->kZ->Prop}(I:Inv X pins σ H s)(hN:X.N.Nodup)(hi:X.N[i]?=some x)(hx:Loc X.env.scope x)(r:RelV v u)
  (h:∀s',Inv X pins (σ.set i (some v)) H s'->Q () s') (hf:X.fn x=true\/X.env.scope.names.lookup x=some .local:=by first |exact .inl rfl |exact .inr rfl |assumption):nI M A (storeName X.env x u) Q E s:=
 zlP_ I hN hi hx r (λs' I' _=>h s' I') hf
theorem Inv.call' {s':kZ}{ch:List nc}(I:Inv X pins σ H s)(ho:s'.os=s.os)(u:Un (frs X.stack) ch H H' s.heap s'.heap)(hok:HOk X.prog X.w H' s'.heap)(hg:AllBare s'.gens)
  (dJ:∀b∈ch,(b∈X.ex\/X.s₀.heap.objs.size<=b)/\b≠X.env.locals/\(∀x c,X.env.cells.lookup x=some c->c≠b)/\∀p∈X.pn++pins,p.1≠b):Inv X pins σ H' s':=by
 obtain⟨h',g',d',t',o'⟩:=s';have e:o'=s.os:=ho;subst e;exact I.call (g':=g') (t':=t') (d':=d') u hok hg dJ
end
abbrev XK:=aL->Option nc->Hp->Prop
abbrev St:=List (Option V)
abbrev VK:=V->Hp->Prop
abbrev TE:=St->Hp->VK->Prop
abbrev TT:=St->Hp->(Bool->Hp->Prop)->Prop
abbrev TA:=St->Hp->(List V->Hp->Prop)->Prop
structure Ends where
 nx:St->Hp->Prop
 rt:VK
 bk:St->Hp->Prop:=λ_ _=>False
 ct:St->Hp->Prop:=λ_ _=>False
abbrev TS:=Ends->St->Hp->Prop
def EP (X:Cx)(pins:Pnn)(σ:St)(Q:VK)(u:aL)(s':kZ):Prop:=∃v H',Inv X pins σ H' s'/\RelV v u/\Q v H'
def TP (X:Cx)(pins:Pnn)(σ:St)(Q:Bool->Hp->Prop)(b:Bool)(s':kZ):Prop:=∃H',Inv X pins σ H' s'/\Q b H'
def AP (X:Cx)(pins:Pnn)(σ:St)(Q:List V->Hp->Prop)(us:List aL)(s':kZ):Prop:=∃vs H',Inv X pins σ H' s'/\Vals vs us/\Q vs H'
def SP (X:Cx)(pins:Pnn)(D:Ends)(f:Flow)(s':kZ):Prop:=
 match f with
 |.next=>∃ai H',Inv X pins ai H' s'/\D.nx ai H'
 |.brk=>∃ai H',Inv X pins ai H' s'/\D.bk ai H'
 |.cont=>∃ai H',Inv X pins ai H' s'/\D.ct ai H'
 |.ret u=>∃v ai H',Inv X pins ai H' s'/\RelV v u/\D.rt v H'
def PE (X:Cx)(e:qF)(t:TE):Prop:=
 ∀(pins:Pnn) (s:kZ) (σ:St) (H:Hp) (Q:VK),Inv X pins σ H s->t σ H Q->nI (model X.prog X.w) X.A (eval e X.env) (EP X pins σ Q) X.xe s
def PT (X:Cx)(e:qF)(t:TT):Prop:=
 ∀(pins:Pnn) (s:kZ) (σ:St) (H:Hp) (Q:Bool->Hp->Prop),Inv X pins σ H s->t σ H Q->nI (model X.prog X.w) X.A (isTrue e X.env (eval e X.env)) (TP X pins σ Q) X.xe s
def PW (X:Cx)(e:qF)(t:TT):Prop:=
 ∀(whole:Sem aL) (pins:Pnn) (s:kZ) (σ:St) (H:Hp) (Q:Bool->Hp->Prop),Inv X pins σ H s->t σ H Q->nI (model X.prog X.w) X.A (isTrue e X.env whole) (TP X pins σ Q) X.xe s
theorem PW.pt {X:Cx}{e:qF}{t:TT}(h:PW X e t):PT X e t:=h _
def PA (X:Cx)(es:List qF)(t:TA):Prop:=
 ∀(pos:Pos) (pins:Pnn) (s:kZ) (σ:St) (H:Hp) (Q:List V->Hp->Prop),Inv X pins σ H s->t σ H Q->nI (model X.prog X.w) X.A (spliced (sh pos (qg es X.env))) (AP X pins σ Q) X.xe s
def PS (X:Cx)(st:qL)(t:TS):Prop:=
 ∀(pins:Pnn) (s:kZ) (σ:St) (H:Hp) (D:Ends),Inv X pins σ H s->t D σ H->nI (model X.prog X.w) X.A (exec st X.env) (SP X pins D) X.xe s
def PSs (X:Cx)(st:List qL)(t:TS):Prop:=
 ∀(pins:Pnn) (s:kZ) (σ:St) (H:Hp) (D:Ends),Inv X pins σ H s->t D σ H->nI (model X.prog X.w) X.A (execs st X.env) (SP X pins D) X.xe s
theorem thn {α:Type}{t:Sem α}{Q Q':α->kZ->Prop}{M:Model}{A:qu}{E:aL->kZ->Prop}{s:kZ}(h:nI M A t Q E s)(hQ:∀a s,Q a s->Q' a s):nI M A t Q' E s:=qH h hQ λ_ _ x=>x
section
variable {X:Cx}
theorem bin {a b:qF}{ta tb:TE}(ha:PE X a ta)(hb:PE X b tb){pins:Pnn}{s:kZ}{σ:St}{H:Hp}{R:V->V->Hp->Prop}(I:Inv X pins σ H s)(h:ta σ H λx H1=>tb σ H1 λy H2=>R x y H2)
  {α:Type}{Q:α->kZ->Prop}{f:aL->aL->Sem α}
  (hf:∀v u s2 x y H2,Inv X pins σ H2 s2->RelV x v->RelV y u->R x y H2->nI (model X.prog X.w) X.A (f v u) Q X.xe s2):
  nI (model X.prog X.w) X.A (eval a X.env) (λv ag=>nI (model X.prog X.w) X.A (eval b X.env) (λu aA=>nI (model X.prog X.w) X.A (f v u) Q X.xe aA) X.xe ag) X.xe s:=by
 refine thn (ha pins s σ H _ I h) λv s1 af=>?_
 obtain⟨x,H1,I1,r1,q1⟩:=af;refine thn (hb pins s1 σ H1 _ I1 q1) λu s2 af=>?_
 obtain⟨y,H2,I2,r2,q2⟩:=af;exact hf v u s2 x y H2 I2 r1 r2 q2
def tVar (i:Nat):TE:=λσ H Q=>∃v,σ[i]?=some (some v)/\Q v H
def tC (v:V):TE:=λ_ H Q=>Q v H
theorem zss_ {i:Nat}{x:Str}{pos:Pos}(hN:X.N[i]?=some x)(hv:Vis X.env.scope x)(hd:(x==("__debug__":Str))=false:=by decide)(bB:(x==("__classdict__":Str))=false:=by decide):PE X (.Name x pos) (tVar i):=by
 intro pins s σ H Q I h;obtain⟨v,e,h⟩:=h;obtain⟨m,hn,hl⟩:=I.loc;obtain⟨u,r,l⟩:=hl i x v hN e hv;have fin:EP X pins σ Q u s:=⟨v,H,I,r,h⟩;rcases l with⟨hk,hm⟩|⟨hk,c,hc,cR⟩
 ·exact wpAny_Name (wpAny_loadName_local I.ok.kind hk hn hm fin) hd
 ·rcases hk with hk |hk
  ·exact wpAny_Name (wpAny_loadName_cell I.ok.kind hk hc cR fin) hd
  ·exact wpAny_Name (wpAny_loadName_free I.ok.kind hk hc cR fin bB) hd
theorem z2_ {i j pos}:PE X (.Constant (.int i) j pos) (tC (.int i)):=λ_ _ _ H _ I h=>wpAny_Constant_int ⟨.int i,H,I.tok _,⟨_,rfl⟩,h⟩
theorem zqg_ {b j pos}:PE X (.Constant (.bool b) j pos) (tC (.bl b)):=λ_ _ _ H _ I h=>Constant_bool ⟨.bl b,H,I,rfl,h⟩
theorem zsv_ {j pos}:PE X (.Constant .none j pos) (tC .non):=λ_ _ _ H _ I h=>Constant_none ⟨.non,H,I,rfl,h⟩
theorem zqQ_ {x j pos}:PE X (.Constant (.str x) j pos) (tC (.str x)):=λ_ _ _ H _ I h=>Calls.Constant_str ⟨.str x,H,I.tok _,⟨_,rfl⟩,h⟩
def Gl (X:Cx)(x:Str):Prop:=X.env.kindOf x=some .globalImplicit
theorem zcR_ {E:aL->kZ->Prop}{pins:Pnn}{s:kZ}{σ:St}{H:Hp}{x:Str}{u:aL}{pos:Pos}{Q:aL->kZ->Prop}(I:Inv X pins σ H s)(hg:Gl X x)(hm:X.mg x=some u)(h:Q u s)
  (hd:(x==("__debug__":Str))=false:=by decide):nI (model X.prog X.w) X.A (eval (.Name x pos) X.env) Q E s:=
 Calls.Name_function_global I.ok.kind hg (Calls.loadGlobal_global (by rw[I.ok.glob];exact I.mod.glob.keeps I.bk) hm h) hd
theorem zhZ_ {E:aL->kZ->Prop}{pins:Pnn}{s:kZ}{σ:St}{H:Hp}{x:Str}{u:aL}{pos:Pos}{Q:aL->kZ->Prop}(I:Inv X pins σ H s)(hg:Gl X x)(hm:X.mg x=none)(hv:sT x=some u)(h:Q u s)
  (hn:x ≠ "__name__":=by decide) (hd:(x==("__debug__":Str))=false:=by decide):nI (model X.prog X.w) X.A (eval (.Name x pos) X.env) Q E s:=by
 obtain⟨mb,h1,h2⟩:=I.mod.blt;exact Calls.Name_function_global I.ok.kind hg (Calls.loadGlobal_builtin (by rw[I.ok.glob];exact I.mod.glob.keeps I.bk) hm (by rw[I.ok.blt];exact h1.keeps I.bk) ((h2 x hn).trans hv) h) hd
theorem zne_ {x:Str}{v:V}{u:aL}{pos:Pos}(hg:Gl X x)(hm:X.mg x=some u)(r:RelV v u)(hd:(x==("__debug__":Str))=false:=by decide):PE X (.Name x pos) (tC v):=
 λ_ _ _ H _ I h=>zcR_ I hg hm ⟨v,H,I,r,h⟩ hd
theorem zqf_ {x:Str}{v:V}{u:aL}{pos:Pos}(hg:Gl X x)(hm:X.mg x=none)(hv:sT x=some u)(r:RelV v u)(hn:x ≠ "__name__":=by decide)(hd:(x==("__debug__":Str))=false:=by decide):PE X (.Name x pos) (tC v):=
 λ_ _ _ H _ I h=>zhZ_ I hg hm hv ⟨v,H,I,r,h⟩ hn hd
variable {a b:qF}{pos:Pos}
def PC (X:Cx)(op:CmpOp)(a b:qF)(t:TE):Prop:=
 ∀(pins:Pnn) (s:kZ) (σ:St) (H:Hp) (Q:VK),Inv X pins σ H s->t σ H Q ->
  nI (model X.prog X.w) X.A (eval a X.env) (λv ag=>nI (model X.prog X.w) X.A (eval b X.env) (λu aA=>nI (model X.prog X.w) X.A (qB op v u) (EP X pins σ Q) X.xe aA) X.xe ag) X.xe s
theorem nobehind (b:qF){op:CmpOp}(h:op≠.In)(h2:op≠.NotIn):behindInMarks op b=false:=by
 have e1:(op == CmpOp.In)=false:=by cases op<;>first |rfl |exact absurd rfl h
 have e2:(op == CmpOp.NotIn)=false:=by cases op<;>first |rfl |exact absurd rfl h2
 cases b<;>simp[behindInMarks,e1,e2]
variable {tA:TT}
def tNot (t:TT):TT:=λσ H Q=>t σ H λc H1=>Q (!c) H1
theorem zmN_ (ha:PT X a tA):PW X (.BoolOp .And [a] pos) tA:=by
 intro wh pins s σ H Q I h;refine isTrue_and (thn (ha pins s σ H Q I h) λc s1 e=>?_)
 cases c with
 |true=>exact isTrue_and_nil e
 |false=>exact e
theorem zsZ_ (ha:PT X a tA):PW X (.BoolOp .Or [a] pos) tA:=by
 intro wh pins s σ H Q I h;refine isTrue_or (thn (ha pins s σ H Q I h) λc s1 e=>?_)
 cases c with
 |false=>exact isTrue_or_nil e
 |true=>exact e
theorem zpB_ (ha:PT X a tA):PT X (.UnaryOp .Not a pos) (tNot tA):=by
 intro pins s σ H Q I h;exact isTrue_not (ha pins s σ H (λc H1=>Q (!c) H1) I h)
theorem zty_ {op}{t:TE}(h:PE X a t):PE X (.BoolOp op [a] pos) t:=λpins s σ H Q I hw=>BoolOp_one (h pins s σ H Q I hw)
end
def SqL (K:Fgg)(H:Hp)(a:nc)(xs:List V):Prop:=
 Rd H a (.lst xs) \/
  ∃(o:wb) (aa:Array aL) (n:Nat),K.lookup a=some o/\o.cls=.type "list" /\ o.dict=none/\o.data=.seq aa n/\aa.size<=pX/\Vals xs aa.toList
def SqT (K:Fgg)(H:Hp)(a:nc)(xs:List V):Prop:=
 Rd H a (.tup xs) \/
  ∃(o:wb) (aa:Array aL) (n:Nat),K.lookup a=some o/\o.cls=.type "tuple" /\ o.data=.seq aa n/\aa.size<=pX/\Vals xs aa.toList
def absV:aL->Option V
 |.none=>some .non
 |.bool b=>some (.bl b)
 |.int i _=>some (.int i)
 |.str x _=>some (.str x)
 |.bytes b _=>some (.byt b)
 |.float b _=>some (.flt b)
 |.ref a=>some (.ref a)
 |.type n=>some (.ty n)
 |_=>none
theorem RelV.abs {x:V}{u:aL}(r:RelV x u):absV u=some x:=by
 cases x with
 |non=>cases r;rfl
 |bl _=>cases r;rfl
 |int _=>obtain⟨t,rfl⟩:=r;rfl
 |str _=>obtain⟨t,rfl⟩:=r;rfl
 |byt _=>obtain⟨t,rfl⟩:=r;rfl
 |flt _=>obtain⟨t,rfl⟩:=r;rfl
 |ref _=>cases r;rfl
 |ty _=>cases r;rfl
theorem RelV.inj {x y:V}{u:aL}(r:RelV x u)(q:RelV y u):x=y:=qW (r.abs.symm.trans q.abs)
theorem Vals.inj:∀{xs ys:List V}{us:List aL},Vals xs us->Vals ys us->xs=ys
 |_,_,_,.nil,.nil=>rfl
 |_,_,_,.cons r t,.cons r' t'=>by rw[r.inj r',Vals.inj t t']
section
variable {X:Cx}{pins:Pnn}{σ:St}{H:Hp}{s:kZ}{a:nc}{xs ys:List V}
theorem SqL.of {K:Fgg}(h:H a=some (.lst xs)):SqL K H a xs:=.inl (.inl h)
theorem SqT.of {K:Fgg}(h:H a=some (.tup xs)):SqT K H a xs:=.inl (.inl h)
theorem Inv.list (I:Inv X pins σ H s)(h:SqL X.K H a xs):∃aa:List aL,Vals xs aa/\PlainL s.heap a aa.toArray/\xs.length<=pX:=by
 rcases h with h |⟨o,aa,n,hk,hc,hd,hs,hz,r⟩
 ·obtain⟨z,aa,n,r,e⟩:=h.ok I.hok
  exact⟨aa,r,⟨_,n,e,rfl,rfl,rfl⟩,z⟩
 ·refine⟨aa.toList,r,⟨o,n,I.kIn a o hk,hc,hd,by simpa using hs⟩,?_⟩
  have e:=r.length;simp only[qZ]at e;lia
theorem Inv.tuple (I:Inv X pins σ H s)(h:SqT X.K H a xs):∃aa:List aL,Vals xs aa/\IsTup s.heap a aa.toArray/\xs.length<=pX:=by
 rcases h with h |⟨o,aa,n,hk,hc,hs,hz,r⟩
 ·obtain⟨z,aa,r,p⟩:=h.ok I.hok
  exact⟨aa,r,p,z⟩
 ·refine⟨aa.toList,r,⟨o,I.kIn a o hk,hc,n,by simpa using hs⟩,?_⟩
  have e:=r.length;simp only[qZ]at e;lia
theorem Inv.list_inj (I:Inv X pins σ H s)(h:SqL X.K H a xs)(h':SqL X.K H a ys):xs=ys:=by
 obtain⟨aa,r,⟨o,n,e,_,_,d⟩,_⟩:=I.list h;obtain⟨its',r',⟨o',n',e',_,_,d'⟩,_⟩:=I.list h';rw[e]at e';cases e';rw[d]at d';injection d' with d1 _;have:aa=its':=by simpa using congrArg wy d1
 subst this;exact r.inj r'
theorem Inv.tuple_inj (I:Inv X pins σ H s)(h:SqT X.K H a xs)(h':SqT X.K H a ys):xs=ys:=by
 obtain⟨aa,r,⟨o,e,_,n,d⟩,_⟩:=I.tuple h;obtain⟨its',r',⟨o',e',_,n',d'⟩,_⟩:=I.tuple h';rw[e]at e';cases e';rw[d]at d';injection d' with d1 _;have:aa=its':=by simpa using congrArg wy d1
 subst this;exact r.inj r'
end
abbrev Cx.wish (X:Cx)(E:aL->kZ->Prop):Cx:={X with xe:=E}
abbrev Cx.nox (X:Cx):Cx:=X.wish λ_ _=>False
theorem Cx.Ok.wish {X:Cx}(ok:X.Ok)(E:aL->kZ->Prop):(X.wish E).Ok:=
 ⟨ok.mod,ok.kind,ok.glob,ok.blt,ok.above,ok.inj,ok.has,ok.cab,ok.hd,ok.frames,ok.stk,ok.exf,ok.bs,ok.bsz,ok.noex,ok.exfs,ok.funs,ok.frf⟩
theorem Cx.Ok.unwish {X:Cx}{E:aL->kZ->Prop}(ok:(X.wish E).Ok):X.Ok:=
 ⟨ok.mod,ok.kind,ok.glob,ok.blt,ok.above,ok.inj,ok.has,ok.cab,ok.hd,ok.frames,ok.stk,ok.exf,ok.bs,ok.bsz,ok.noex,ok.exfs,ok.funs,ok.frf⟩
section
variable {X:Cx}{pins:Pnn}{σ:St}{H:Hp}{s:kZ}{E:aL->kZ->Prop}
theorem Inv.wish (I:Inv X pins σ H s)(E:aL->kZ->Prop):Inv (X.wish E) pins σ H s:=⟨I.ok.wish E,I.os,I.bare,I.base,I.loc,I.cell,I.free,I.freeC,I.pin,I.hok,I.len⟩
theorem Inv.unwish (I:Inv (X.wish E) pins σ H s):Inv X pins σ H s:=⟨I.ok.unwish,I.os,I.bare,I.base,I.loc,I.cell,I.free,I.freeC,I.pin,I.hok,I.len⟩
theorem SP.unwish {D:Ends}{f:Flow}{s':kZ}(h:SP (X.wish E) pins D f s'):SP X pins D f s':=by
 cases f with
 |next=>obtain⟨ai,H',I,q⟩:=h;exact⟨ai,H',I.unwish,q⟩
 |brk=>obtain⟨ai,H',I,q⟩:=h;exact⟨ai,H',I.unwish,q⟩
 |cont=>obtain⟨ai,H',I,q⟩:=h;exact⟨ai,H',I.unwish,q⟩
 |ret u=>obtain⟨v,ai,H',I,r,q⟩:=h;exact⟨v,ai,H',I.unwish,r,q⟩
theorem PSs.nox {st:List qL}{t:TS}(h:PSs X.nox st t):PSs X st t:=λpins s σ H D I hw=>
 qH (h pins s σ H D (I.wish _) hw) (λ_ _ q=>q.unwish) λ_ _ z=>qk z
end
section
variable {X:Cx}{st:qL}{rest:List qL}{t u:TS}{e:qF}{te:TE}{pos:Pos}
def tNext:TS:=λD σ H=>D.nx σ H
def tSeq (t u:TS):TS:=λD σ H=>t {D with nx:=u D} σ H
theorem zgN_:PSs X [] tNext:=λ_ _ σ H _ I h=>wpAny_execs_nil ⟨σ,H,I,h⟩
theorem z3_ (h1:PS X st t)(h2:PSs X rest u):PSs X (st::rest) (tSeq t u):=by
 intro pins s σ H D I h;refine wpAny_execs_cons (thn (h1 pins s σ H {D with nx:=u D} I h) λf s1 q=>?_)
 cases f with
 |next=>
  obtain⟨ai,H',I',q⟩:=q;exact h2 pins s1 ai H' D I' q
 |ret v=>exact q
 |brk=>exact q
 |cont=>exact q
theorem zb0_ (h1:PS X st t):PSs X [st] t:=by
 intro pins s σ H D I h;refine wpAny_execs_cons (thn (h1 pins s σ H D I h) λf s1 q=>?_)
 cases f with
 |next=>exact wpAny_execs_nil q
 |ret v=>exact q
 |brk=>exact q
 |cont=>exact q
def tCont:TS:=λD σ H=>D.ct σ H
theorem ziQ_:PS X (.Continue pos) tCont:=λ_ _ σ H _ I h=>wpAny_Continue ⟨σ,H,I,h⟩
theorem Inv.quiet {pins:Pnn}{σ:St}{H:Hp}{s:kZ}(I:Inv X pins σ H s):interactive X.env=false:=by simp[interactive,I.ok.kind]
def tDrop (te:TE):TS:=λD σ H=>te σ H λ_ H1=>D.nx σ H1
theorem zrh_ (he:PE X e te)(hs:swapsWith e none pos.line X.env=pure false:=by rfl):PS X (.Expr e pos) (tDrop te):=by
 intro pins s σ H D I h;exact wpAny_Expr_any (thn (he pins s σ H _ I h) λv s1 ⟨x,H1,I1,r1,q1⟩=>⟨σ,H1,I1,q1⟩) I.quiet hs
def tRet (te:TE):TS:=λD σ H=>te σ H D.rt
theorem zjp_ (he:PE X e te):PS X (.Return (some e) pos) (tRet te):=by
 intro pins s σ H D I h;exact wpAny_Return_some (thn (he pins s σ H _ I h) λv s1 ⟨x,H1,I1,r1,q1⟩=>⟨x,σ,H1,I1,r1,q1⟩)
def tRetN:TS:=λD _ H=>D.rt .non H
theorem zqd_:PS X (.Return none pos) tRetN:=λ_ _ σ H _ I h=>wpAny_Return_none ⟨.non,σ,H,I,rfl,h⟩
def tNever:TS:=λ_ _ _=>False
theorem znQ_:PS X st tNever:=λ_ _ _ _ _ _ h=>h.elim
end
abbrev TG:=V->St->Hp->(St->Hp->Prop)->Prop
abbrev TGs:=List V->St->Hp->(St->Hp->Prop)->Prop
def PG (X:Cx)(target:qF)(t:TG):Prop:=
 ∀(pins:Pnn) (s:kZ) (σ:St) (H:Hp) (v:V) (u:aL) (Q:St->Hp->Prop),Inv X pins σ H s->RelV v u->t v σ H Q ->
  nI (model X.prog X.w) X.A (assign target X.env u) (λ_ s'=>∃ai H',Inv X pins ai H' s'/\Q ai H') X.xe s
def PGs (X:Cx)(ts:List qF)(t:TGs):Prop:=
 ∀(pins:Pnn) (s:kZ) (σ:St) (H:Hp) (vs:List V) (us:List aL) (Q:St->Hp->Prop),Inv X pins σ H s->Vals vs us->t vs σ H Q ->
  nI (model X.prog X.w) X.A (assignInOrder ((sE ts X.env).map (·.2)) us) (λ_ s'=>∃ai H',Inv X pins ai H' s'/\Q ai H') X.xe s
abbrev TSet:=V->V->V->Hp->(Hp->Prop)->Prop
def PSet (X:Cx)(t:TSet):Prop:=
 ∀(pins:Pnn) (s:kZ) (σ:St) (H:Hp) (o i v:V) (ov iv u:aL) (Q:Hp->Prop),Inv X pins σ H s->RelV o ov->RelV i iv->RelV v u->t o i v H Q ->
  nI (model X.prog X.w) X.A (setItem ov iv u) (λ_ s'=>∃H',Inv X pins σ H' s'/\Q H') X.xe s
section
variable {X:Cx}{pos:Pos}
def gName (i:Nat):TG:=λv σ H Q=>Q (σ.set i (some v)) H
theorem zmV_ {i:Nat}{x:Str}(hN:X.N.Nodup)(hi:X.N[i]?=some x)(hx:Loc X.env.scope x)(hf:X.fn x=true\/X.env.scope.names.lookup x=some .local:=by first |exact .inl rfl |exact .inr rfl |assumption):PG X (.Name x pos) (gName i):=by
 intro pins s σ H v u Q I r h;exact wpAny_assign_Name (ze4_ I hN hi hx r (λs' I'=>⟨_,H,I',h⟩) hf)
def gNil:TGs:=λvs σ H Q=>vs=[]/\Q σ H
def gCons (t:TG)(u:TGs):TGs:=λvs σ H Q=>∃v r,vs=v::r/\t v σ H λai H'=>u r ai H' Q
theorem zpL_:PGs X [] gNil:=by
 intro pins s σ H vs us Q I r h;obtain⟨e,h⟩:=h;subst e;cases r;exact assignInOrder_nil ⟨σ,H,I,h⟩
theorem zoU_ {e:qF}{es:List qF}{t:TG}{u:TGs}(h1:PG X e t)(h2:PGs X es u)
  (hs:(sE (e::es) X.env).map (·.2)=assign e X.env::(sE es X.env).map (·.2):=by rfl):PGs X (e::es) (gCons t u):=by
 intro pins s σ H vs us Q I r h;obtain⟨v,vr,e1,h⟩:=h;subst e1;cases r with
 |cons r rr=>
  rw[hs];refine assignInOrder_cons (thn (h1 pins s σ H _ _ _ I r h) λ_ s1 af=>?_)
  obtain⟨m4,H1,I1,q1⟩:=af;exact h2 pins s1 m4 H1 _ _ Q I1 rr q1
def gTup (K:Fgg)(n:Nat)(t:TGs):TG:=λv σ H Q=>∃a xs,v=.ref a/\SqT K H a xs/\xs.length=n/\t xs σ H Q
theorem zte_ {es:List qF}{k:Nat}{t:TGs}{n:Nat}(hc:X.calm=true)(h:PGs X es t)
  (hn:(sE es X.env).length=n:=by rfl) (aM:(sE es X.env).findIdx? (·.1)=none:=by rfl):PG X (.Tuple es k pos) (gTup X.K n t):=by
 intro pins s σ H v u Q I r hw;obtain⟨a,xs,e1,hq,hl,hw⟩:=hw;subst e1;cases r;obtain⟨aa,rv,ht,hz⟩:=I.tuple hq;refine assign_Tuple_tuple (I.ok.hd hc) ht (by simp[hn,<- hl,rv.length]) aM λh' hx=>?_
 have I1:Inv X pins σ H {s with heap:=h'}:=I.kept (t':=s.toks) λb o e=>hx b o (qo (pT e)) e
 exact h pins _ σ H xs _ Q I1 (by simpa using rv) hw
def gSub (to ti:TE)(t:TSet):TG:=λv σ H Q=>to σ H λo H1=>ti σ H1 λi H2=>t o i v H2 λH3=>Q σ H3
theorem zsT_ {o i:qF}{to ti:TE}{t:TSet}(ho:PE X o to)(hi:PE X i ti)(hs:PSet X t)
  (ha:∀v,assign (.Subscript o i pos) X.env v=(do
   let ov <- holding [v] (eval o X.env)
   let iv <- holding [v,ov] (eval i X.env)
   standAt pos
   holding [v,ov,iv] (setItem ov iv v)
   release [v,ov,iv] []):=by intro _;rfl):PG X (.Subscript o i pos) (gSub to ti t):=by
 intro pins s σ H v u Q I r h;rw[ha];refine iV (wpAny_holding (thn (ho pins s σ H _ I h) λov s1 af=>?_))
 obtain⟨x,H1,I1,r1,q1⟩:=af;refine iV (wpAny_holding (thn (hi pins s1 σ H1 _ I1 q1) λiv s2 af=>?_))
 obtain⟨y,H2,I2,r2,q2⟩:=af;refine iV (wpAny_standAt (iV (wpAny_holding (thn (hs pins s2 σ H2 x y v ov iv u _ I2 r1 r2 r q2) λ_ s3 af=>?_))))
 obtain⟨H3,I3,q3⟩:=af;exact wpAny_release ⟨σ,H3,I3,q3⟩
def tAsg (te:TE)(g:TG):TS:=λD σ H=>te σ H λx H1=>g x σ H1 D.nx
theorem zrf_ {tg e:qF}{te:TE}{g:TG}(he:PE X e te)(hg:PG X tg g)(hs:swapsWithSole [tg] e pos.line X.env=pure false:=by rfl)(hw:swappedStores [tg] e X.env=pure none:=by rfl)
  (h1:(sE [tg] X.env).map (·.2)=[assign tg X.env]:=by rfl):PS X (.Assign [tg] e pos) (tAsg te g):=by
 intro pins s σ H D I h;refine wpAny_Assign_stores (thn (he pins s σ H _ I h) λv s1 af=>?_) hs hw
 obtain⟨x,H1,I1,r1,q1⟩:=af;rw[h1];exact thn (hg pins s1 σ H1 x v _ I1 r1 q1) λ_ s2 q=>q
theorem ztn_ {i:Nat}{x:Str}{e:qF}{te:TE}{pos':Pos}(hN:X.N.Nodup)(hi:X.N[i]?=some x)(hx:Loc X.env.scope x)(he:PE X e te)(hs:swapsWith e (some (.Name x pos')) pos.line X.env=pure false:=by rfl)(hf:X.fn x=true\/X.env.scope.names.lookup x=some .local:=by first |exact .inl rfl |exact .inr rfl |assumption):
  PS X (.Assign [.Name x pos'] e pos) (tAsg te (gName i)):=by
 intro pins s σ H D I h;refine wpAny_Assign_Name (thn (he pins s σ H _ I h) λv s1 af=>?_) hs
 obtain⟨y,H1,I1,r1,q1⟩:=af;exact ze4_ I1 hN hi hx r1 (λs2 I2=>⟨_,H1,I2,q1⟩) hf
end
structure It where
 go:Nat->Hp->Prop
 yld:Nat->Hp->V->Hp->Prop
 stop:Nat->Hp->Prop
def FpOk (X:Cx)(pins:Pnn)(H:Hp)(b:nc):Prop:=
 H b=none/\b≠X.env.locals/\b∉X.fs/\(b∈X.ex\/X.s₀.heap.objs.size<=b)/\(∀x c,X.env.cells.lookup x=some c->c≠b)/\∀p∈X.pn++pins,p.1≠b
theorem Inv.fpOk {X:Cx}{pins:Pnn}{σ:St}{H H':Hp}{s:kZ}{b:nc}(I:Inv X pins σ H s)(hb:s.heap.objs.size<=b)(hn:H' b=none):FpOk X pins H' b:=by
 refine⟨hn,tI (qw I.lt hb),I.nofs hb,.inr (qV I.sz hb),λx c e z=>?_,λp hp z=>?_⟩
 ·obtain⟨v,q⟩:=I.cell x c e
  exact absurd (qw q.lt (by rw[z];exact hb)) (tL _)
 ·exact absurd (qw (pT (I.pin p hp).1) (by rw[z];exact hb)) (tL _)
structure Turn (P:m7)(w:nL)(K:Fgg)(tg:qF)(J:It)(fp:List nc)(it:nc)(tn:Nat->Heap->Prop):Prop where
 mem:it∈fp
 obj:∀i h,tn i h->∀b∈fp,∃o,h.get? b=some o/\∀v,o.data≠.cell v
 keep:∀i h h',tn i h->(∀b∈fp,∀o,h.get? b=some o->h'.get? b=some o)->tn i h'
 item:∀(X:Cx),X.prog=P->X.w=w->X.K=K->X.calm=true->∀(i:Nat) (pins:Pnn) (s:kZ) (σ:St) (H:Hp) (E:aL->kZ->Prop),Inv X pins σ H s->(∀b∈fp,FpOk X pins H b)->tn i s.heap->J.go i H ->
  nI (model P w) X.A (pyNext (.ref it)) (λr s1=>∃u,r=some u /\
   nI (model P w) X.A (letOwnedTupleGo tg (.ref it) u) (λ_ s2=>∃x H',Inv X pins σ H' s2/\RelV x u/\J.yld i H x H'/\tn (i+1) s2.heap/\∀b∈fp,H' b=none) E s1) E s
 done:∀(X:Cx),X.prog=P->X.w=w->X.K=K->X.calm=true->∀(i:Nat) (pins:Pnn) (s:kZ) (σ:St) (H:Hp) (E:aL->kZ->Prop),Inv X pins σ H s->(∀b∈fp,FpOk X pins H b)->tn i s.heap->J.stop i H ->
  nI (model P w) X.A (pyNext (.ref it)) (λr s1=>r=none/\Inv X pins σ H s1) E s
 self:∀(A:qu) (i:Nat) (s:kZ) (Q:aL->kZ->Prop) (E:aL->kZ->Prop),tn i s.heap->Q (.ref it) s->nI (model P w) A (pyIter (.ref it)) Q E s
abbrev TI:=St->Hp->(It->Hp->Prop)->Prop
def PIE (X:Cx)(pins:Pnn)(σ:St)(tg:qF)(R:It->Hp->Prop)(iy:aL)(s2:kZ):Prop:=
 ∃(it:nc) (fp:List nc) (tn:Nat->Heap->Prop) (J:It) (H':Hp),iy=.ref it/\Inv X pins σ H' s2/\Turn X.prog X.w X.K tg J fp it tn/\tn 0 s2.heap/\(∀b∈fp,FpOk X pins H' b)/\R J H'
def PI (X:Cx)(tg iter:qF)(wi:TI):Prop:=
 ∀(pins:Pnn) (s:kZ) (σ:St) (H:Hp) (R:It->Hp->Prop),Inv X pins σ H s->wi σ H R ->
  nI (model X.prog X.w) X.A (eval iter X.env) (λv s1=>nI (model X.prog X.w) X.A (pyIter v) (PIE X pins σ tg R) X.xe s1) X.xe s
theorem zr3_ {M:Model}{A:qu}{E:aL->kZ->Prop}{s:kZ}{tg:qF}{it:nc}{u:aL}{o:wb}{n:String}{vs:Array aL}{Q:Unit->kZ->Prop}(ho:s.heap.get? it=some o)(hc:o.cls=.type n)(hd:o.data=.fields vs)
  (hn:["enumerate", "zip", "dict_itemiterator", "dict_reverseitemiterator", "odict_iterator", "itertools.zip_longest", "itertools.pairwise"].contains n=false) (hQ:Q () s):nI M A (letOwnedTupleGo tg (.ref it) u) Q E s:=by
 unfold letOwnedTupleGo
 cases tg<;>first
  |exact nh hQ
  | (cases u<;>first
    |exact nh hQ
    | (refine iV (wpAny_load ho ?_)
       rw[hc,hd];show nI M A (if(["enumerate", "zip", "dict_itemiterator", "dict_reverseitemiterator", "odict_iterator", "itertools.zip_longest", "itertools.pairwise"].contains n && vs[0]?==some (rawInt _))=true then _ else _) Q E s
       rw[if_neg (by intro h;rw[hn,xh]at h;cases h)]
       exact nh hQ))
def Itl (K:Fgg)(a:nc):It:=
 ⟨λi H=>∃xs x,SqL K H a xs/\xs[i]?=some x,λi H x H'=>H'=H/\∀xs,SqL K H a xs->xs[i]?=some x,λi H=>∃xs,SqL K H a xs/\xs.length<=i⟩
def Itt (K:Fgg)(a:nc):It:=
 ⟨λi H=>∃xs x,SqT K H a xs/\xs[i]?=some x,λi H x H'=>H'=H/\∀xs,SqT K H a xs->xs[i]?=some x,λi H=>∃xs,SqT K H a xs/\xs.length<=i⟩
def Itr (lo:Int)(n:Nat):It:=⟨λi _=>i<n,λi H x H'=>H'=H/\x=.int (lo+i),λi _=>n<=i⟩
theorem zlk_ {P:m7}{w:nL}{K:Fgg}{tg:qF}(a it:nc):Turn P w K tg (Itl K a) [it] it (λi h=>h.IsListIter it a i) where
 mem:=by simp
 obj:=λi h st b hb=>by
  have e:b=it:=by simpa using hb
  subst e;obtain⟨o,e,c,d⟩:=st;exact⟨o,e,λv z=>by rw[d]at z;cases z⟩
 keep:=λi h h' st k=>st.at λo e=>k it (by simp) o e
 item:=by
  intro X hP hw hK hc i pins s σ H E I hf st hg;subst hP hw hK;obtain⟨xs,x,hq,hx⟩:=hg;obtain⟨aa,rv,p,hz⟩:=I.list hq;obtain⟨u,hu,ru⟩:=rv.get hx;obtain⟨f0,f1,f2,f3,f4,f5⟩:=hf it (by simp)
  refine wpAny_pyNext_list_item st p.isList (x:=u) (by simpa using hu) λh' aO sb=>?_
  have I1:Inv X pins σ H {s with heap:=h'}:=I.turned (t':=s.toks) (λb o hb e=>(sb.2 b hb).trans e) f0 f1 f3 f4 f5
  obtain⟨o,e,c,d⟩:=id aO;exact⟨u,rfl,zr3_ (s:={s with heap:=h'}) e c d (by decide) ⟨x,H,I1,ru,⟨rfl,λys hy=>by rw[I.list_inj hy hq];exact hx⟩,aO,λb hb=>(hf b hb).1⟩⟩
 done:=by
  intro X hP hw hK hc i pins s σ H E I hf st hg;subst hP hw hK;obtain⟨xs,hq,hx⟩:=hg;obtain⟨aa,rv,p,hz⟩:=I.list hq;obtain⟨f0,f1,f2,f3,f4,f5⟩:=hf it (by simp)
  have hl:=rv.length;exact wpAny_pyNext_list_end (I.ok.hd hc) st p.isList (by simp;lia) λh' eb=>⟨rfl,I.turned (t':=s.toks) (λb o hb e=>eb b o hb e) f0 f1 f3 f4 f5⟩
 self:=λ_ _ _ _ _ st h=>wpAny_pyIter_listiter st h
theorem zjK_ {P:m7}{w:nL}{K:Fgg}{tg:qF}(a it:nc):Turn P w K tg (Itt K a) [it] it (λi h=>h.IsTupleIter it a i) where
 mem:=by simp
 obj:=λi h st b hb=>by
  have e:b=it:=by simpa using hb
  subst e;obtain⟨o,e,c,d⟩:=st;exact⟨o,e,λv z=>by rw[d]at z;cases z⟩
 keep:=λi h h' st k=>st.at λo e=>k it (by simp) o e
 item:=by
  intro X hP hw hK hc i pins s σ H E I hf st hg;subst hP hw hK;obtain⟨xs,x,hq,hx⟩:=hg;obtain⟨aa,rv,p,hz⟩:=I.tuple hq;obtain⟨u,hu,ru⟩:=rv.get hx;obtain⟨f0,f1,f2,f3,f4,f5⟩:=hf it (by simp)
  refine wpAny_pyNext_tuple_item st (show s.heap.IsTuple a aa.toArray from p) (x:=u) (by simpa using hu) λh' aO sb=>?_
  have I1:Inv X pins σ H {s with heap:=h'}:=I.turned (t':=s.toks) (λb o hb e=>(sb.2 b hb).trans e) f0 f1 f3 f4 f5
  obtain⟨o,e,c,d⟩:=id aO;exact⟨u,rfl,zr3_ (s:={s with heap:=h'}) e c d (by decide) ⟨x,H,I1,ru,⟨rfl,λys hy=>by rw[I.tuple_inj hy hq];exact hx⟩,aO,λb hb=>(hf b hb).1⟩⟩
 done:=by
  intro X hP hw hK hc i pins s σ H E I hf st hg;subst hP hw hK;obtain⟨xs,hq,hx⟩:=hg;obtain⟨aa,rv,p,hz⟩:=I.tuple hq;obtain⟨f0,f1,f2,f3,f4,f5⟩:=hf it (by simp)
  have hl:=rv.length;exact wpAny_pyNext_tuple_end (I.ok.hd hc) st (show s.heap.IsTuple a aa.toArray from p) (by simp;lia) λh' eb=>⟨rfl,I.turned (t':=s.toks) (λb o hb e=>eb b o hb e) f0 f1 f3 f4 f5⟩
 self:=λ_ _ _ _ _ st h=>wpAny_pyIter_tupleiter st h
theorem zkw_ {P:m7}{w:nL}{K:Fgg}{tg:qF}(it:nc)(lo:Int)(n:Nat):Turn P w K tg (Itr lo n) [it] it (λi h=>IsRangeIter h it (lo+(i:Nat)*1) ((n:Int)-(i:Nat)) 1) where
 mem:=by simp
 obj:=λi h st b hb=>by
  grind
 keep:=λi h h' st k=>k it (by simp) _ st
 item:=by
  intro X hP hw hK hc i pins s σ H E I hf st hg;subst hP hw hK;obtain⟨f0,f1,f2,f3,f4,f5⟩:=hf it (by simp)
  have W:=Walks.range (prog:=X.prog) (w:=X.w) (I.ok.hd hc) it lo 1 n;refine W.item i s _ _ hg st λv h' tk hv aO kk=>?_
  obtain⟨t,rfl⟩:=hv;have I1:Inv X pins σ H {s with heap:=h',toks:=tk}:=I.turned (λb o hb e=>kk b o (by simpa using hb) e) f0 f1 f3 f4 f5
  refine⟨_,rfl,zr3_ (s:={s with heap:=h',toks:=tk}) (n:="range_iterator") aO rfl rfl (by decide) ⟨.int (lo+i),H,I1,⟨t,?_⟩,⟨rfl,rfl⟩,aO,λb hb=>(hf b hb).1⟩⟩
  rw[Int.mul_one]
 done:=by
  intro X hP hw hK hc i pins s σ H E I hf st hg;subst hP hw hK;obtain⟨f0,f1,f2,f3,f4,f5⟩:=hf it (by simp)
  exact wpAny_pyNext_range_end (I.ok.hd hc) st (by have:n<=i:=hg;lia) λh' eb=>⟨rfl,I.turned (t':=s.toks) (λb o hb e=>eb b o hb e) f0 f1 f3 f4 f5⟩
 self:=λ_ _ _ _ _ st h=>wpAny_pyIter_rangeiter st h
section
variable {X:Cx}{tg:qF}
theorem zkJ_ {pins:Pnn}{σ:St}{H:Hp}{s:kZ}{R:It->Hp->Prop}{E:aL->kZ->Prop}{lo hi:Int}{t u v:Tok}{tk:Nat}(I:Inv X pins σ H s)(h1 : -(2 ^ 62)<=lo)(h2:lo<2 ^ 62)(h3 : -(2 ^ 62)<=hi)(h4:hi<2 ^ 62)
  (q:R (Itr lo (hi-lo).toNat) H):nI (model X.prog X.w) X.A (pyIter (.ref s.heap.objs.size)) (PIE X pins σ tg R) E {s with heap:=s.heap.push {cls:=.type "range",data:=.fields #[.int lo t,.int hi u,.int 1 v]},toks:=tk}:=by
 refine wpAny_pyIter_range (IsRange.new ..) (small_one h1 h2 h3 h4) ?_;have I1:Inv X pins σ H {s with heap:=s.heap.push {cls:=.type "range",data:=.fields #[.int lo t,.int hi u,.int 1 v]},toks:=tk}:=I.kept λb o e=>iX _ e
 refine⟨(s.heap.push {cls:=.type "range",data:=.fields #[.int lo t,.int hi u,.int 1 v]}).objs.size,[(s.heap.push {cls:=.type "range",data:=.fields #[.int lo t,.int hi u,.int 1 v]}).objs.size],_,_,H,rfl,
  I1.kept (t':=tk) λb o e=>iX _ e,zkw_ _ lo (hi-lo).toNat,?_,λb hb=>?_,q⟩
 ·have e1:lo+((0:Nat):Int)*1=lo:=by simp
  have e2:(((hi-lo).toNat:Nat):Int)-((0:Nat):Int)=vt lo hi 1:=by rw[rangeSize_one];split<;>omega
  show IsRangeIter _ _ (lo+((0:Nat):Int)*1) ((((hi-lo).toNat:Nat):Int)-((0:Nat):Int)) 1
  rw[e1,e2];exact p7 _ rfl
 ·have e:b=(s.heap.push {cls:=.type "range",data:=.fields #[.int lo t,.int hi u,.int 1 v]}).objs.size:=by simpa using hb
  subst e;exact I1.fpOk (nG _) (I1.hok.fresh (nG _))
noncomputable def tFor (wi:TI)(g:TG)(tb:TS):TS:=λD σ H=>wi σ H λJ H1=>∃W:Nat->Nat->St->Hp->Prop,(∃m,W 0 m σ H1)/\∀i m σ H,W i m σ H ->
 (J.stop i H/\D.nx σ H)\/(J.go i H/\∃N:St->Hp->Prop,(∀ai H',N ai H'->∃m',m'<m/\W (i+1) m' ai H')/\∀x H',J.yld i H x H'->g x σ H' λcX H2=>tb {D with nx:=N,ct:=N,bk:=D.nx} cX H2)
def pinsAt (fp:List nc)(h:Heap):Pnn:=fp.filterMap λb=>(h.get? b).map λo=>(b,o)
theorem zdn_ {fp:List nc}{h:Heap}{b:nc}{o:wb}(hb:b∈fp)(e:h.get? b=some o):(b,o)∈pinsAt fp h:=vc.mpr ⟨b,hb,by rw[e];rfl⟩
theorem zl9_ {fp:List nc}{h:Heap}{p:nc×wb}(hp:p∈pinsAt fp h):p.1∈fp/\h.get? p.1=some p.2:=by
 obtain⟨b,hb,e⟩:=vc.mp hp;cases q:h.get? b with
 |none=>rw[q]at e;cases e
 |some o=>
  rw[q]at e;have e':(b,o)=p:=qW e;subst e';exact⟨hb,q⟩
theorem Inv.pinned {pins:Pnn}{σ:St}{H:Hp}{s:kZ}{fp:List nc}(I:Inv X pins σ H s)(hf:∀b∈fp,FpOk X pins H b)(ho:∀b∈fp,∃o,s.heap.get? b=some o/\∀v,o.data≠.cell v):Inv X (pins++pinsAt fp s.heap) σ H s:=
 I.pins_of λp hp=>(qI.mp hp).elim (λz=>I.pin p (p5 _ z)) λz=>by
  obtain⟨hb,e⟩:=zl9_ z;obtain⟨f0,f1,f2,_⟩:=hf p.1 hb;obtain⟨o,e',d⟩:=ho p.1 hb;rw[e]at e';cases e';exact⟨e,f0,f1,f2,d⟩
theorem Inv.unpinned {pins pl:Pnn}{σ:St}{H:Hp}{s:kZ}(I:Inv X (pins++pl) σ H s):Inv X pins σ H s:=I.pins_of λp hp=>I.pin p (p5 _ (sf _ hp))
theorem zsb_ {iter:qF}{body:List qL}{wi:TI}{g:TG}{tb:TS}{pos:Pos}(hp:PassesOwn (model X.prog X.w) X.A X.env X.xe)(hc:X.calm=true)(hi:PI X tg iter wi)(hg:PG X tg g)(hb:PSs X body tb)
  (hs:∀x,foldedSetIterable iter X.env x=pure x:=by intro _;rfl):PS X (.For tg iter body [] pos) (tFor wi g tb):=by
 intro pins s σ H D I h;refine wpAny_For (thn (hi pins s σ H _ I h) λv s1 h1=>thn h1 λiy s2 h2=>?_) hs
 obtain⟨it,fp,tn,J,H2,e,I2,T,bY,f2,W,⟨m0,w0⟩,turn⟩:=h2;subst e;have bN:∀{H':Hp},(∀b∈fp,H' b=none)->∀b∈fp,FpOk X pins H' b:=λhn b hb=>⟨hn b hb,(f2 b hb).2⟩
 refine codeAny_forLoop_any (λn s'=>∃i ai H',Inv X pins ai H' s'/\tn i s'.heap/\(∀b∈fp,H' b=none)/\W i n ai H') ?_ m0 ⟨0,σ,H2,I2,bY,λb hb=>(f2 b hb).1,w0⟩
 rintro n s3 ⟨i,ck,H3,I3,st3,fr3,w3⟩;rcases turn i n ck H3 w3 with⟨stop,qn⟩|⟨go,N,hN,step⟩
 ·refine ug hp (thn (T.done X rfl rfl rfl hc i pins s3 ck H3 X.xe I3 (bN fr3) st3 stop) λr s4 af=>?_)
  obtain⟨hr,I4⟩:=af;subst hr;exact wpAny_execs_nil ⟨ck,H3,I4,qn⟩
 ·refine ug hp (thn (T.item X rfl rfl rfl hc i pins s3 ck H3 X.xe I3 (bN fr3) st3 go) λr s4 af=>?_)
  obtain⟨u,hr,h4⟩:=af;subst hr;refine ug hp (thn h4 λ_ s5 af=>?_)
  obtain⟨x,H5,I5,r5,y5,st5,fr5⟩:=af;have lu:=I5.pinned (bN fr5) (T.obj _ _ st5);refine ug hp (thn (hg _ s5 ck H5 x u _ lu r5 (step x H5 y5)) λ_ s6 af=>?_)
  obtain⟨cW,H6,I6,q6⟩:=af;refine ug hp (thn (hb _ s6 cW H6 _ I6 q6) λf s7 q7=>?_)
  have again:∀{cz:St}{H7:Hp},Inv X (pins++pinsAt fp s5.heap) cz H7 s7->N cz H7->∃m,m<n/\∃i ai H',Inv X pins ai H' s7/\tn i s7.heap/\(∀b∈fp,H' b=none)/\W i m ai H':=λ{cz H7} I7 n7=>by
   obtain⟨m',hm,w7⟩:=hN cz H7 n7;refine⟨m',hm,i+1,cz,H7,I7.unpinned,T.keep _ _ _ st5 λb hb o e=>(I7.pin (b,o) (p5 _ (p5 _ (zdn_ hb e)))).1,λb hb=>?_,w7⟩
   obtain⟨o,e,d⟩:=T.obj _ _ st5 b hb;exact(I7.pin (b,o) (p5 _ (p5 _ (zdn_ hb e)))).2.1
  cases f with
  |next=>obtain⟨cz,H7,I7,n7⟩:=q7;exact again I7 n7
  |cont=>obtain⟨cz,H7,I7,n7⟩:=q7;exact again I7 n7
  |brk=>obtain⟨cz,H7,I7,q7⟩:=q7;exact⟨cz,H7,I7.unpinned,q7⟩
  |ret v=>obtain⟨x7,cz,H7,I7,r7,q7⟩:=q7;exact⟨x7,cz,H7,I7.unpinned,r7,q7⟩
end
abbrev R2:=V->V->Hp->VK->Prop
def OpR (X:Cx)(f:aL->aL->Sem aL)(r:R2):Prop:=
 ∀(pins:Pnn) (s:kZ) (σ:St) (H:Hp) (x y:V) (v u:aL) (Q:VK),Inv X pins σ H s->RelV x v->RelV y u->r x y H Q ->
  nI (model X.prog X.w) X.A (f v u) (EP X pins σ Q) X.xe s
def UnR (X:Cx)(f:aL->Sem aL)(r:V->Hp->VK->Prop):Prop:=
 ∀(pins:Pnn) (s:kZ) (σ:St) (H:Hp) (x:V) (v:aL) (Q:VK),Inv X pins σ H s->RelV x v->r x H Q ->
  nI (model X.prog X.w) X.A (f v) (EP X pins σ Q) X.xe s
def CallR (X:Cx)(f:aL)(r:List V->Hp->VK->Prop):Prop:=
 ∀(pins:Pnn) (s:kZ) (σ:St) (H:Hp) (xs:List V) (us:List aL) (Q:VK),Inv X pins σ H s->Vals xs us->r xs H Q ->
  nI (model X.prog X.w) X.A (call f us) (EP X pins σ Q) X.xe s
def tOp (r:R2)(ta tb:TE):TE:=λσ H Q=>ta σ H λx H1=>tb σ H1 λy H2=>r x y H2 Q
def tUn (r:V->Hp->VK->Prop)(ta:TE):TE:=λσ H Q=>ta σ H λx H1=>r x H1 Q
def rI (C:Int->Int->Prop)(g:Int->Int->V):R2:=λx y H Q=>∃i j,x=.int i/\y=.int j/\C i j/\Q (g i j) H
def rI0 (g:Int->Int->V):R2:=λx y H Q=>∃i j,x=.int i/\y=.int j/\Q (g i j) H
def rU (g:Int->V):V->Hp->VK->Prop:=λx H Q=>∃i,x=.int i/\Q (g i) H
section
variable {X:Cx}{a b:qF}{ta tb:TE}{pos:Pos}
theorem binT (ha:PE X a ta)(hb:PE X b tb){pins:Pnn}{s:kZ}{σ:St}{H:Hp}{R:V->V->Hp->Prop}(I:Inv X pins σ H s)
  (h:ta σ H λx H1=>tb σ H1 λy H2=>R x y H2) {Q:aL->kZ->Prop}{f:aL->aL->Sem aL}
  (hf:∀v u s2 x y H2,Inv X pins σ H2 s2->RelV x v->RelV y u->R x y H2->nI (model X.prog X.w) X.A (f v u) Q X.xe s2):
  nI (model X.prog X.w) X.A (eval a X.env) (λv ag=>nI (model X.prog X.w) X.A (eval b X.env) (λu aA=>nI (model X.prog X.w) X.A (f v u) Q X.xe aA) X.xe ag) X.xe s:=by
 refine thn (ha pins s σ H _ I h) λv s1 af=>?_
 obtain⟨x,H1,I1,r1,q1⟩:=af;refine thn (hb pins s1 σ H1 _ I1 q1) λu s2 af=>?_
 obtain⟨y,H2,I2,r2,q2⟩:=af;exact hf v u s2 x y H2 I2 r1 r2 q2
theorem zib_ {op:Operator}{r:R2}(ho:OpR X (sq op) r)(ha:PE X a ta)(hb:PE X b tb):PE X (.BinOp a op b pos) (tOp r ta tb):=by
 intro pins s σ H Q I h;exact wpAny_BinOp (binT ha hb I h λv u s2 x y H2 I2 rx ry q=>ho pins s2 σ H2 x y v u Q I2 rx ry q)
theorem opI {f:aL->aL->Sem aL}{C:Int->Int->Prop}{g:Int->Int->Int}
  (rule:∀(i j:Int) (t u:Tok) (s:kZ) (Q:aL->kZ->Prop) (E:aL->kZ->Prop),C i j->Q (.int (g i j) s.toks) {s with toks:=s.toks+1}->nI (model X.prog X.w) X.A (f (.int i t) (.int j u)) Q E s):
  OpR X f (rI C λi j=>.int (g i j)):=by
 intro pins s σ H x y v u Q I rx ry h;obtain⟨i,j,rfl,rfl,hc,q⟩:=h;obtain⟨t,rfl⟩:=rx;obtain⟨t',rfl⟩:=ry;exact rule i j t t' s _ _ hc ⟨.int (g i j),H,I.tok _,⟨_,rfl⟩,q⟩
theorem opI0 {f:aL->aL->Sem aL}{g:Int->Int->Int}
  (rule:∀(i j:Int) (t u:Tok) (s:kZ) (Q:aL->kZ->Prop) (E:aL->kZ->Prop),Q (.int (g i j) s.toks) {s with toks:=s.toks+1}->nI (model X.prog X.w) X.A (f (.int i t) (.int j u)) Q E s):
  OpR X f (rI0 λi j=>.int (g i j)):=by
 intro pins s σ H x y v u Q I rx ry h;obtain⟨i,j,rfl,rfl,q⟩:=h;obtain⟨t,rfl⟩:=rx;obtain⟨t',rfl⟩:=ry;exact rule i j t t' s _ _ ⟨.int (g i j),H,I.tok _,⟨_,rfl⟩,q⟩
theorem opB0 {f:aL->aL->Sem aL}{g:Int->Int->Bool}
  (rule:∀(i j:Int) (t u:Tok) (s:kZ) (Q:aL->kZ->Prop) (E:aL->kZ->Prop),Q (.bool (g i j)) s->nI (model X.prog X.w) X.A (f (.int i t) (.int j u)) Q E s):
  OpR X f (rI0 λi j=>.bl (g i j)):=by
 intro pins s σ H x y v u Q I rx ry h;obtain⟨i,j,rfl,rfl,q⟩:=h;obtain⟨t,rfl⟩:=rx;obtain⟨t',rfl⟩:=ry;exact rule i j t t' s _ _ ⟨.bl (g i j),H,I,rfl,q⟩
def CDiv (i j:Int):Prop:=0<j/\j<1073741824
def CPow (i j:Int):Prop:=0<=j/\j<=1000000/\i.natAbs<2 ^ 64
def CMul (i j:Int):Prop:=(-(2 ^ 64)<i/\i<2 ^ 64)\/(-(2 ^ 64)<j/\j<2 ^ 64)
theorem CMul.ok {i j:Int}(h:CMul i j):IntMulOk i j:=by
 rcases h with⟨h1,h2⟩|⟨h1,h2⟩
 ·exact .of_left (intBits_le_64 h1 h2)
 ·exact .of_right (intBits_le_64 h1 h2)
theorem zsA_:OpR X (sq .Add) (rI0 λi j=>.int (i+j)):=opI0 λ_ _ _ _ _ _ _ q=>add_int q
theorem zst_:OpR X (sq .Sub) (rI0 λi j=>.int (i-j)):=opI0 λ_ _ _ _ _ _ _ q=>sub_int q
theorem zsO_:OpR X (sq .Mod) (rI (λ_ j=>0<j) λi j=>.int (i % j)):=opI λi j _ _ _ _ _ hc q=>by
 have h1:(0:Int)<j:=hc;exact mod_int' (by lia) (by rw[Int.fmod_eq_emod_of_nonneg i (by lia)];exact q)
theorem zsx_:OpR X (sq .Pow) (rI CPow λi j=>.int (i ^ j.toNat)):=opI λ_ _ _ _ _ _ _ hc q=>pow_int_small hc.1 hc.2.1 hc.2.2 q
theorem unI {f:aL->Sem aL}{g:Int->Int}
  (rule:∀(i:Int) (t:Tok) (s:kZ) (Q:aL->kZ->Prop) (E:aL->kZ->Prop),Q (.int (g i) s.toks) {s with toks:=s.toks+1}->nI (model X.prog X.w) X.A (f (.int i t)) Q E s):
  UnR X f (rU λi=>.int (g i)):=by
 intro pins s σ H x v Q I rx h;obtain⟨i,rfl,q⟩:=h;obtain⟨t,rfl⟩:=rx;exact rule i t s _ _ ⟨.int (g i),H,I.tok _,⟨_,rfl⟩,q⟩
theorem ztr_:UnR X (unaryOp .USub) (rU λi=>.int (-i)):=unI λ_ _ _ _ _ q=>neg_int q
end
noncomputable def scal:V->V->Bool
 |.non,.non=>true |.non,.int _=>true |.int _,.non=>true |.non,.bl _=>true |.bl _,.non=>true |.non,.str _=>true |.str _,.non=>true
 |.int _,.int _=>true |.bl _,.bl _=>true |.str _,.str _=>true |.byt _,.byt _=>true
 |.int _,.str _=>true |.str _,.int _=>true |.bl _,.str _=>true |.str _,.bl _=>true
 |_,_=>false
def rEq:R2:=λx y H Q=>scal x y=true/\Q (.bl (decide (x=y))) H
def rNe:R2:=λx y H Q=>scal x y=true/\Q (.bl (!decide (x=y))) H
theorem zmM_ {i j:Int}:decide (V.int i=V.int j)=(i == j):=by
 rw[sR];simp
theorem zre_ {i j:Bool}:decide (V.bl i=V.bl j)=(i == j):=by
 rw[sR];simp
theorem zm5_ {i j:Str}:decide (V.str i=V.str j)=(i == j):=by
 rw[sR];simp
theorem zm1_ {i j:Array UInt8}:decide (V.byt i=V.byt j)=(i.toList == j.toList):=by
 rw[sR];cases i;cases j;simp
section
variable {X:Cx}{a b:qF}{ta tb:TE}{pos:Pos}
theorem z8_ {pins:Pnn}{σ:St}{H:Hp}{s:kZ}{Q:VK}{k k':Bool}(I:Inv X pins σ H s)(q:Q (.bl k) H)(e:k=k'):EP X pins σ Q (.bool k') s:=by
 subst e;exact⟨.bl k,H,I,rfl,q⟩
theorem op_eq:OpR X (qB .Eq) rEq:=by
 intro pins s σ H x y v u Q I rx ry h;obtain⟨hs,q⟩:=h;cases x with
 |non=>
  cases rx;cases y with
  |non=>cases ry;exact xy (z8_ I q (by simp))
  |bl j=>cases ry;exact xA (z8_ I q (by simp))
  |int j=>obtain⟨t',rfl⟩:=ry;exact xN (z8_ I q (by simp))
  |str j=>obtain⟨t',rfl⟩:=ry;exact xO (z8_ I q (by simp))
  |_=>exact absurd (show false=true from hs) qr
 |bl i=>
  cases rx;cases y with
  |non=>cases ry;exact xB (z8_ I q (by simp))
  |bl j=>cases ry;exact eq_bool (z8_ I q zre_)
  |str j=>obtain⟨t',rfl⟩:=ry;exact xC (z8_ I q (by simp))
  |_=>exact absurd (show false=true from hs) qr
 |int i=>
  obtain⟨t,rfl⟩:=rx;cases y with
  |non=>cases ry;exact xP (z8_ I q (by simp))
  |int j=>obtain⟨t',rfl⟩:=ry;exact eq_int (z8_ I q zmM_)
  |str j=>obtain⟨t',rfl⟩:=ry;exact xQ (z8_ I q (by simp))
  |_=>exact absurd (show false=true from hs) qr
 |str i=>
  obtain⟨t,rfl⟩:=rx;cases y with
  |non=>cases ry;exact xR (z8_ I q (by simp))
  |bl j=>cases ry;exact xD (z8_ I q (by simp))
  |int j=>obtain⟨t',rfl⟩:=ry;exact xS (z8_ I q (by simp))
  |str j=>obtain⟨t',rfl⟩:=ry;exact eq_str (z8_ I q zm5_)
  |_=>exact absurd (show false=true from hs) qr
 |byt i=>
  obtain⟨t,rfl⟩:=rx;cases y with
  |byt j=>obtain⟨t',rfl⟩:=ry;exact W.eq_bytes (z8_ I q zm1_)
  |_=>exact absurd (show false=true from hs) qr
 |_=>cases y<;>exact absurd (show false=true from hs) qr
theorem op_ne:OpR X (qB .NotEq) rNe:=by
 intro pins s σ H x y v u Q I rx ry h;obtain⟨hs,q⟩:=h;cases x with
 |non=>
  cases rx;cases y with
  |non=>cases ry;exact xE (z8_ I q (by simp))
  |bl j=>cases ry;exact xF (z8_ I q (by simp))
  |int j=>obtain⟨t',rfl⟩:=ry;exact xT (z8_ I q (by simp))
  |str j=>obtain⟨t',rfl⟩:=ry;exact xU (z8_ I q (by simp))
  |_=>exact absurd (show false=true from hs) qr
 |bl i=>
  cases rx;cases y with
  |non=>cases ry;exact xG (z8_ I q (by simp))
  |bl j=>cases ry;exact ne_bool (z8_ I q (congrArg not zre_))
  |str j=>obtain⟨t',rfl⟩:=ry;exact xH (z8_ I q (by simp))
  |_=>exact absurd (show false=true from hs) qr
 |int i=>
  obtain⟨t,rfl⟩:=rx;cases y with
  |non=>cases ry;exact xV (z8_ I q (by simp))
  |int j=>obtain⟨t',rfl⟩:=ry;exact ne_int (z8_ I q (congrArg not zmM_))
  |str j=>obtain⟨t',rfl⟩:=ry;exact xW (z8_ I q (by simp))
  |_=>exact absurd (show false=true from hs) qr
 |str i=>
  obtain⟨t,rfl⟩:=rx;cases y with
  |non=>cases ry;exact xX (z8_ I q (by simp))
  |bl j=>cases ry;exact xI (z8_ I q (by simp))
  |int j=>obtain⟨t',rfl⟩:=ry;exact xY (z8_ I q (by simp))
  |str j=>obtain⟨t',rfl⟩:=ry;exact ne_str (z8_ I q (congrArg not zm5_))
  |_=>exact absurd (show false=true from hs) qr
 |byt i=>
  obtain⟨t,rfl⟩:=rx;cases y with
  |byt j=>obtain⟨t',rfl⟩:=ry;exact W.ne_bytes (z8_ I q (congrArg not zm1_))
  |_=>exact absurd (show false=true from hs) qr
 |_=>cases y<;>exact absurd (show false=true from hs) qr
theorem op_lt:OpR X (qB .Lt) (rI0 λi j=>.bl (decide (i<j))):=opB0 λ_ _ _ _ _ _ _ q=>lt_int q
theorem op_le:OpR X (qB .LtE) (rI0 λi j=>.bl (decide (i<=j))):=opB0 λ_ _ _ _ _ _ _ q=>le_int q
theorem op_gt:OpR X (qB .Gt) (rI0 λi j=>.bl (decide (j<i))):=opB0 λ_ _ _ _ _ _ _ q=>gt_int q
theorem op_ge:OpR X (qB .GtE) (rI0 λi j=>.bl (decide (j<=i))):=opB0 λ_ _ _ _ _ _ _ q=>ge_int q
theorem zmq_:OpR X (qB .In) (λx y H Q=>∃i j,x=.str i/\y=.str j/\Q (.bl (!(tD j i 0 j.length 1).isEmpty)) H):=by
 intro pins s σ H x y v u Q I rx ry h;obtain⟨i,j,rfl,rfl,q⟩:=h;obtain⟨t,rfl⟩:=rx;obtain⟨t',rfl⟩:=ry;exact in_str (z8_ I q rfl)
theorem zsi_:OpR X (qB .Is) (λx y H Q=>y=.non/\Q (.bl (decide (x=.non))) H):=by
 intro pins s σ H x y v u Q I rx ry h;obtain⟨rfl,q⟩:=h;cases ry;refine is_none_gen (z8_ I q ?_)
 cases x<;>first
  |(cases rx;rfl)
  |(obtain⟨t,rfl⟩:=rx;rfl)
theorem zqr_:OpR X (qB .IsNot) (λx y H Q=>y=.non/\Q (.bl (!decide (x=.non))) H):=by
 intro pins s σ H x y v u Q I rx ry h;obtain⟨rfl,q⟩:=h;cases ry;refine isnot_none_gen (z8_ I q ?_)
 cases x<;>first
  |(cases rx;rfl)
  |(obtain⟨t,rfl⟩:=rx;rfl)
theorem zho_:OpR X (qB .NotIn) (λx y H Q=>∃i j,x=.str i/\y=.str j/\Q (.bl (!(!(tD j i 0 j.length 1).isEmpty))) H):=by
 intro pins s σ H x y v u Q I rx ry h;obtain⟨i,j,rfl,rfl,q⟩:=h;obtain⟨t,rfl⟩:=rx;obtain⟨t',rfl⟩:=ry;exact notIn_str (z8_ I q rfl)
theorem zqh_ {op:CmpOp}{r:R2}(ho:OpR X (qB op) r)(ha:PE X a ta)(hb:PE X b tb)(hm:behindInMarks op b=false):PE X (.Compare a [op] [b] pos) (tOp r ta tb):=by
 intro pins s σ H Q I h;exact wpAny_Compare1 (binT ha hb I h λv u s2 x y H2 I2 rx ry q=>ho pins s2 σ H2 x y v u Q I2 rx ry q) hm
theorem line63:(pX:Nat)<2 ^ 63:=by rw[sizeLine_eq];decide
theorem zjZ_:OpR X (sq .Add) (λx y H Q=>∃i j,x=.str i/\y=.str j/\i.length+j.length<=pX/\Q (.str (i++j)) H):=by
 intro pins s σ H x y v u Q I rx ry h;obtain⟨i,j,rfl,rfl,hz,q⟩:=h;obtain⟨t,rfl⟩:=rx;obtain⟨t',rfl⟩:=ry;exact add_str (λt' tk=>⟨.str (i++j),H,I.tok _,⟨_,rfl⟩,q⟩) hz
theorem vals1 {x:V}{us:List aL}(r:Vals [x] us):∃u,us=[u]/\RelV x u:=by
 cases r with
 |cons r1 r2=>cases r2;exact⟨_,rfl,r1⟩
theorem vals2 {x y:V}{us:List aL}(r:Vals [x,y] us):∃u w',us=[u,w']/\RelV x u/\RelV y w':=by
 cases r with
 |cons r1 r2=>
  cases r2 with
  |cons r3 r4=>cases r4;exact⟨_,_,rfl,r1,r3⟩
theorem zlG_ (hc:X.calm=true):CallR X (.builtin "min") (λxs H Q=>∃i j,xs=[.int i,.int j]/\Q (.int (if j<i then j else i)) H):=by
 intro pins s σ H xs us Q I r h;obtain⟨i,j,rfl,q⟩:=h;obtain⟨u,w',rfl,⟨t,rfl⟩,⟨t',rfl⟩⟩:=vals2 r;refine min_two_ints (I.ok.hd hc) λh' tk k=>⟨_,H,I.kept k,?_,q⟩
 by_cases hj:j<i
 ·rw[if_pos hj,if_pos hj];exact⟨_,rfl⟩
 ·rw[if_neg hj,if_neg hj];exact⟨_,rfl⟩
end
structure ObjM (h:Heap)(x dx C:nc)(mA:Str->Option aL):Prop where
 obj:h.get? x=some (uC C dx)
 ns:h.Ns1 dx mA
 ne:dx≠x
theorem zms_ {h:Heap}{dx:nc}{mA:Str->Option aL}(n:h.Ns1 dx mA):∃od,h.get? dx=some od/\∀name,yv name od=some (mA name):=by
 obtain⟨o,es,ep,ho,hd,hk,_,hm⟩:=n;refine⟨o,ho,λname=>?_⟩
 have e:=hm name;unfold nsFind findBy at e;rw[<- wg]at e;unfold yv;rw[hd];dsimp only;split
 ·rename_i y q
  rw[q]at e;exact congrArg some e
 ·rename_i q
  rw[q]at e;have a:es.toList.any (·.refKey)=false:=by
   rw[vh];intro y hy;obtain⟨z,t,hkey⟩:=hk y (Array.mem_toList_iff.mp hy);simp[DictEntry.refKey,hkey]
  grind
theorem ObjM.look {h:Heap}{x dx C:nc}{mA:Str->Option aL}(I:ObjM h x dx C mA):∃od,W.InstAt h x (uC C dx) C (some od)/\∀name,yv name od=some (mA name):=
 let⟨od,ho,hl⟩:=zms_ I.ns
 ⟨od,⟨I.obj,rfl,rfl,ho⟩,hl⟩
section
variable {prog:m7}{w:nL}{A:qu}{E:aL->kZ->Prop}{s:kZ}{K:Fgg}{x dx C f:nc}{mA:Str->Option aL}{name:Str}{v:aL}
theorem zrc_ {expr:Bool}{Q:aL->kZ->Prop}(X:K.In s.heap)(I:ObjM s.heap x dx C mA)(hg:vC K C name=true)(hh:uN K C=true)
  (ha:qX K (.ref C) name=some none) (hv:mA name=some v) (dS:W.handedIn v=true) (h:Q v {s with toks:=s.toks+1}):
  nI (model prog w) A (getAttr (.ref x) name expr) Q E s:=by
 obtain⟨od,J,hl⟩:=I.look;exact W.get_value X J (W.plainGet_of hg).1 (W.findObj_own hh ha rfl (by rw[hl,hv])) dS h
theorem zqK_ {ns:List Str}{Q:Unit->kZ->Prop}(X:K.In s.heap)(I:ObjM s.heap x dx C mA)
  (hs:qX K (.ref C) "__setattr__"=some (some (.builtin "object.__setattr__"))) (hp:vN K C=true) (ht:yc K C name=some none) (hh:uN K C=true)
  (hw:uX mA ns) (hsz:ns.length<=pX)
  (h:∀h',ObjM h' x dx C (λy=>if y=name then some v else mA y)->sU dx s.heap h'->Q () {s with heap:=h',toks:=s.toks+2}):
  nI (model prog w) A (setAttr (.ref x) name v) Q E s:=by
 obtain⟨od,J,hl⟩:=I.look;refine W.set_plain X J hs (W.osa_open (s:={s with toks:=s.toks+1}) (r:=none) X J hp ht λb=>?_)
 obtain⟨cd,hc,hd'⟩:=W.any_some hh;have hx:s.heap.get? x=some ⟨.ref C,some dx,.plain,#[]⟩:=I.obj;refine iV (nh (iV (iV (wpAny_loadPart hx (iV (W.Looks.here (s:={s with toks:=s.toks+1}) (W.looks_clsIn X hc) ?_))))));rw[hd'];refine nh (a:=some dx) (iV (nh (iV ?_)));refine wpAny_nsSet1 (s:={s with toks:=s.toks+1}) I.ns λh' cf bQ=>?_
 obtain⟨oD,esD,epD,hoD,hdD,hcD⟩:=cf.count (yD name v hw);refine iV (wpAny_lookBehind hoD (by rw[hdD];exact pastItsLine_dict (qV hcD (by rw[qh];lia))) ?_)
 exact nh (h _ ⟨(bQ.2 _ (tH I.ne)).trans I.obj,cf,I.ne⟩ bQ)
theorem zn3_ {R:Result->kZ->Prop}{vs:List aL}{kw:List (Str×aL)}(X:K.In s.heap)(hm:wK K C=true)
  (hi:qX K (.ref C) "__init__"=some (some (.ref f))) (hf:xj K (.ref f)=some (.type "function"))
  (h:codeAny (model prog w) (A.under (.builtin "type.__call__" ⟨.ref C::vs,kw⟩)) (.call (.ref f) ⟨.ref (s.heap.objs.size+1)::vs,kw⟩) (W.InitBack (s.heap.objs.size+1) R)
   {s with heap:=(s.heap.push tF).push (uC C s.heap.objs.size)}):
  codeAny (model prog w) A (.call (.ref C) ⟨vs,kw⟩) R s:=by
 obtain⟨hh,g,d,t,os⟩:=s;exact W.make_core (W.makes_of X hm) (vO X hi) (λself=>W.bind_fn X self hf) (.inl rfl) h
end
def putF (f:Str)(v:V):List (Str×V)->List (Str×V)
 |[]=>[(f,v)]
 |(g,x)::r=>if g=f then(g,v)::r else(g,x)::putF f v r
theorem zdL_ (f g:Str)(v:V):∀fs:List (Str×V),(putF f v fs).lookup g=if g=f then some v else fs.lookup g
 |[]=>by
  show wX g [(f,v)]=_
  grind
 |(k,x)::r=>by
  have ih:=zdL_ f g v r;rw[show putF f v ((k,x)::r)=(if k=f then(k,v)::r else(k,x)::putF f v r)from rfl]
  grind
theorem zdh_ (f:Str)(v:V):∀fs:List (Str×V),f∈(putF f v fs).map (·.1)/\∀g,g∈fs.map (·.1)->g∈(putF f v fs).map (·.1)
 |[]=>⟨by simp[putF],λg h=>by simp at h⟩
 |(k,x)::r=>by
  obtain⟨i1,i2⟩:=zdh_ f v r;rw[show putF f v ((k,x)::r)=(if k=f then(k,v)::r else(k,x)::putF f v r)from rfl]
  grind
theorem zfv_ (f:Str)(v:V):∀fs:List (Str×V),(putF f v fs).length<=fs.length+1
 |[]=>by simp[putF]
 |(k,x)::r=>by
  have ih:=zfv_ f v r;rw[show putF f v ((k,x)::r)=(if k=f then(k,v)::r else(k,x)::putF f v r)from rfl]
  grind
theorem RelO.some_of {v:V}{o:Option aL}(r:RelO (some v) o):∃u,o=some u/\RelV v u:=by
 cases o with
 |none=>exact(show False from r).elim
 |some u=>exact⟨u,rfl,r⟩
theorem zlN_ {v:V}{u:aL}(r:RelV v u):W.handedIn u=true:=by
 cases v with
 |non=>cases(show u=qJ from r);rfl
 |bl b=>cases(show u=tP b from r);rfl
 |int i=>obtain⟨t,e⟩:=(show∃t,u=uB i t from r);cases e;rfl
 |str x=>obtain⟨t,e⟩:=(show∃t,u=vb x t from r);cases e;rfl
 |byt b=>obtain⟨t,e⟩:=(show∃t,u=yu b t from r);cases e;rfl
 |flt b=>obtain⟨t,e⟩:=(show∃t,u=wV b t from r);cases e;rfl
 |ref a=>cases(show u=qq a from r);rfl
 |ty n=>cases(show u=ui n from r);rfl
section
variable {P:m7}{w:nL}{H:Hp}{h:Heap}{a C dx:nc}{fs:List (Str×V)}
theorem zkl_ (hok:HOk P w H h)(e:H a=some (.ins C dx fs)):∃mA,ObjM h a dx C mA/\(∀f,RelO (fs.lookup f) (mA f))/\uX mA (fs.map (·.1))/\fs.length<=1000/\H dx=some (.own a):=by
 obtain⟨d,z,ne,ob,mA,n,r,q⟩:=(show ObjOk P w H h a (.ins C dx fs)from hok a _ e)
 exact⟨mA,⟨ob,n,ne⟩,r,q,z,d⟩
end
structure Cls (K:Fgg)(C:nc):Prop where
 pg:vC K C vU=true
 hd:uN K C=true
 po:vN K C=true
 sa:qX K (.ref C) "__setattr__"=some (some (.builtin "object.__setattr__"))
theorem Cls.get {K:Fgg}{C:nc}(c:Cls K C)(f:Str):vC K C f=true:=c.pg
def NoAttr (K:Fgg)(C:nc)(f:Str):Prop:=qX K (.ref C) f=some none
theorem NoAttr.taker {K:Fgg}{C:nc}{f:Str}(n:NoAttr K C f):yc K C f=some none:=by
 unfold yc;rw[show qX K (.ref C) f=some none from n]
 rfl
section
variable {X:Cx}{pins:Pnn}{σ:St}{H:Hp}{s:kZ}{a C dx:nc}{fs:List (Str×V)}{f:Str}{v:V}{A:qu}{E:aL->kZ->Prop}
theorem zkP_ {b:Bool}{Q:aL->kZ->Prop}(I:Inv X pins σ H s)(e:H a=some (.ins C dx fs))(c:Cls X.K C)(n:NoAttr X.K C f)(l:fs.lookup f=some v)
  (h:∀u s',Inv X pins σ H s'->RelV v u->Q u s'):nI (model X.prog X.w) A (getAttr (.ref a) f b) Q E s:=by
 obtain⟨mA,O,r,_,_,_⟩:=zkl_ I.hok e;obtain⟨u,hu,ru⟩:=RelO.some_of (v:=v) (o:=mA f) (by rw[<- l];exact r f)
 exact zrc_ I.kIn O (c.get f) c.hd n hu (zlN_ ru) (h u _ (I.tok _) ru)
theorem zjF_ {y:V}{u:aL}{Q:Unit->kZ->Prop}(I:Inv X pins σ H s)(e:H a=some (.ins C dx fs))(c:Cls X.K C)(n:NoAttr X.K C f)(hl:fs.length<1000)(ry:RelV y u)
  (h:∀s',Inv X pins σ (upd H a (.ins C dx (putF f y fs))) s'->Q () s'):nI (model X.prog X.w) A (setAttr (.ref a) f u) Q E s:=by
 obtain⟨mA,O,r,wi,_,ho⟩:=zkl_ I.hok e;have hz:(fs.map (·.1)).length<=pX:=by rw[l6,sizeLine_eq];lia
 refine zqK_ I.kIn O c.sa c.po n.taker c.hd wi hz λh' O' sb=>h _ ?_
 have hd:∃o,h'.get? dx=some o:=let⟨o,_,_,e',_⟩:=O'.ns;⟨o,e'⟩
 refine I.write (x:=a) (e:=dx) (by rw[e];exact rT) (.inr ho) (λb q hb z=>(sb.2 b hb).trans z) hd ?_
 refine⟨by rw[zI_ O.ne];exact ho,?_,O.ne,O'.obj,_,O'.ns,λg=>?_,λg hg=>?_⟩
 ·have:=zfv_ f y fs;lia
 ·show RelO ((putF f y fs).lookup g) (if g=f then some u else mA g)
  rw[zdL_];by_cases q:g=f
  ·rw[if_pos q,if_pos q];exact ry
  ·rw[if_neg q,if_neg q];exact r g
 ·by_cases q:g=f
  ·rw[q];exact(zdh_ f y fs).1
  ·refine(zdh_ f y fs).2 g (wi g λz=>hg ?_)
   show(if g=f then some u else mA g)=none
   rw[if_neg q];exact z
theorem Inv.made (I:Inv X pins σ H s):Inv X pins σ (upd (upd H s.heap.objs.size (.own (s.heap.objs.size+1))) (s.heap.objs.size+1) (.ins C s.heap.objs.size []))
  {s with heap:=(s.heap.push tF).push (uC C s.heap.objs.size)}:=by
 have e1:(s.heap.push tF).get? s.heap.objs.size=some tF:=p7 s.heap rfl;have e2:((s.heap.push tF).push (uC C s.heap.objs.size)).get? (s.heap.objs.size+1)=some (uC C s.heap.objs.size):=by
  have:=p7 (s.heap.push tF) (o:=uC C s.heap.objs.size) rfl;rwa[sG]at this
 have e3:(s.heap.push tF).Ns s.heap.objs.size (λ_=>none):=⟨tF,#[],_,e1,rfl,(λe he=>absurd he (by simp)),λ_=>rfl⟩
 have I1:=I.laid (a:=s.heap.objs.size) (o:=.own (s.heap.objs.size+1)) (h':=s.heap.push tF) (t':=s.toks) (λb u q=>iX _ q) (nG _) ⟨_,e1⟩
 refine I1.laid (a:=s.heap.objs.size+1) (o:=.ins C s.heap.objs.size []) (t':=s.toks) (λb u q=>iX _ q) (wz (sG _ _)) ?_
 have ne:s.heap.objs.size≠s.heap.objs.size+1:=qo (uD _);refine⟨by rw[zI_ ne,zq_],rB _,ne,e2,λ_=>none,(wA e3).at λo q=>iX _ q,λ_=>rT,λy hy=>absurd rfl hy⟩
theorem zqt_ {prog:m7}{w:nL}{env:Env}{e:qF}{f:Str}{pos:Pos}{s:kZ}{Q:aL->kZ->Prop}(hb:attributeBase e f env (eval e env)=eval e env)
  (h:nI (model prog w) A (eval e env) (λo ag=>nI (model prog w) A (getAttr o f true) Q E ag) E s):nI (model prog w) A (eval (.Attribute e f pos) env) Q E s:=
 Attribute_any_ h (by rw[arm_eval_Attribute,hb])
end
section
variable {X:Cx}{pins:Pnn}{σ:St}{H:Hp}{s:kZ}{A:qu}{E Q:aL->kZ->Prop}{c:aL}{b:Bool}
inductive TyOf (K:Fgg) (H:Hp):V->aL->Prop where
 |non:TyOf K H .non (.type "NoneType")
 |bl (x:Bool):TyOf K H (.bl x) (.type "bool")
 |int (i:Int):TyOf K H (.int i) (.type "int")
 |str (x:Str):TyOf K H (.str x) (.type "str")
 |flt (x:UInt64):TyOf K H (.flt x) (.type "float")
 |lst {a:nc}{xs:List V}(e:H a=some (.lst xs)):TyOf K H (.ref a) (.type "list")
 |frz {a:nc}{o:wb}{xs:List V}(e:H a=some (.frz o (.lst xs))):TyOf K H (.ref a) (.type "list")
 |tup {a:nc}{xs:List V}(e:H a=some (.tup xs)):TyOf K H (.ref a) (.type "tuple")
 |dK {a:nc}{kvs:List (Key×V)}(e:H a=some (.dK kvs)):TyOf K H (.ref a) (.type "dict")
 |dT {a:nc}{kvs:List (List Key×V)}(e:H a=some (.dT kvs)):TyOf K H (.ref a) (.type "dict")
 | ins {a C dx:nc}{fs:List (Str×V)}(e:H a=some (.ins C dx fs)) (cl:Cls K C) (ha:qX K (.ref C) "__class__"=some (some (.builtin "object.__class__")))
   (hn:vi K (.builtin "object.__class__") "__get__"=some (some (.builtin "getset_descriptor.__get__"))) (fT:W.takesIn K (.builtin "object.__class__")=some true)
   (hm:uJ K C (.type "object")=some true):TyOf K H (.ref a) (.ref C)
theorem zl3_ {x:V}{u t:aL}(I:Inv X pins σ H s)(rx:RelV x u)(ty:TyOf X.K H x t)(e:xk X.K t c=some b)(h:∀tk,Q (.bool b) {s with toks:=tk}):
  nI (model X.prog X.w) A (call (.builtin "isinstance") [u,c]) Q E s:=by
 cases ty with
 |non=>cases(show u=qJ from rx);exact tE W.kitx_none I.kIn rT e (λz=>nomatch z) h
 |bl y=>cases(show u=tP y from rx);exact tE W.kitx_bool I.kIn rT e (λz=>nomatch z) h
 |int i=>obtain⟨t,q⟩:=(show∃t,u=uB i t from rx);cases q;exact tE W.kitx_int I.kIn rT e (λz=>nomatch z) h
 |str y=>obtain⟨t,q⟩:=(show∃t,u=vb y t from rx);cases q;exact tE W.kitx_str I.kIn rT e (λz=>nomatch z) h
 |flt y=>obtain⟨t,q⟩:=(show∃t,u=wV y t from rx);cases q;exact tE W.kitx_float I.kIn rT e (λz=>nomatch z) h
 | @lst a xs ea=>
  cases(show u=qq a from rx)
  obtain⟨_,_,n,_,h1⟩:=(show ObjOk X.prog X.w H s.heap a (.lst xs)from I.hok a _ ea)
  exact tE W.kitx_list I.kIn ⟨_,h1,rfl⟩ e (λz=>nomatch z) h
 | @frz a ob xs ea=>
  cases(show u=qq a from rx)
  obtain⟨_,_,_,n,_,h1⟩:=(show ObjOk X.prog X.w H s.heap a (.frz ob (.lst xs))from I.hok a _ ea)
  exact tE W.kitx_list I.kIn ⟨_,h1,rfl⟩ e (λz=>nomatch z) h
 | @tup a xs ea=>
  cases(show u=qq a from rx)
  obtain⟨_,_,_,p⟩:=(show ObjOk X.prog X.w H s.heap a (.tup xs)from I.hok a _ ea)
  obtain⟨o,h1,h2,_⟩:=p;exact tE W.kitx_tuple I.kIn ⟨o,h1,h2⟩ e (λz=>nomatch z) h
 | @dK a kvs ea=>
  cases(show u=qq a from rx)
  obtain⟨_,_,vs,_,p⟩:=(show ObjOk X.prog X.w H s.heap a (.dK kvs)from I.hok a _ ea)
  obtain⟨o,es,ep,h1,h2,_⟩:=p;exact tE W.kitx_dict I.kIn ⟨o,h1,h2.1⟩ e (λz=>nomatch z) h
 | @dT a kvs ea=>
  cases(show u=qq a from rx)
  obtain⟨_,_,xs,_,o,es,ep,h1,h2,_⟩:=(show ObjOk X.prog X.w H s.heap a (.dT kvs)from I.hok a _ ea)
  exact tE W.kitx_dict I.kIn ⟨o,h1,h2.1⟩ e (λz=>nomatch z) h
 | @ins a C dx fs ea cl ha hn fT hm=>
  cases(show u=qq a from rx)
  obtain⟨mA,O,_⟩:=zkl_ I.hok ea;obtain⟨od,J,_⟩:=O.look;exact tE (W.kitx_own (cl.get _) cl.hd ha hn fT hm) I.kIn J e (λz=>nomatch z) h
end
structure Room (k:Nat)(A:qu):Prop where
 hd:A.handled=none
 dp:A.depth+3*k+5<recursionLimit
 un:A.units+16*k+200<cLine
theorem Room.mono {j k:Nat}{A:qu}(r:Room k A)(h:j<=k):Room j A:=⟨r.hd,by have:=r.dp;lia,by have:=r.un;lia⟩
theorem Room.deeper {k:Nat}{A:qu}(r:Room (k+1) A)(env:Env):Room k (A.deeper env):=
 ⟨r.hd,by have:=r.dp;show A.depth+1+3*k+5<_;lia,by have:=r.un;show A.units+3+16*k+200<_;lia⟩
theorem zjx_ {A:qu}{C:nc}{us:List aL}{kw:List (Str×aL)}:(A.under (.builtin "type.__call__" ⟨.ref C::us,kw⟩)).depth=A.depth+1:=by
 first |rfl |simp[Around.under,Code.weight,Code.isCreation,Code.isGuard,Code.isCaller,Code.frames,Code.isFrame,guardIds]
theorem zkV_ {A:qu}{C:nc}{us:List aL}{kw:List (Str×aL)}:(A.under (.builtin "type.__call__" ⟨.ref C::us,kw⟩)).units=A.units+1:=by
 first |rfl |simp[Around.under,Code.cUnits,Code.frames,Code.isFrame]
theorem Room.make {k:Nat}{A:qu}(r:Room (k+1) A)(C:nc)(us:List aL)(kw:List (Str×aL)):Room k (A.under (.builtin "type.__call__" ⟨.ref C::us,kw⟩)):=
 ⟨r.hd,by have:=r.dp;rw[zjx_];lia,by have:=r.un;rw[zkV_];lia⟩
theorem Room.depth {k:Nat}{A:qu}(r:Room k A):A.depth<recursionLimit:=by have:=r.dp;lia
theorem Room.units {k:Nat}{A:qu}(r:Room k A):A.units+64<cLine:=by have:=r.un;lia
def tNil:TA:=λ_ H Q=>Q [] H
def tCons (ta:TE)(tr:TA):TA:=λσ H Q=>ta σ H λx H1=>tr σ H1 λxs H2=>Q (x::xs) H2
section
variable {X:Cx}{e:qF}{es:List qF}{te:TE}{t:TA}{pos:Pos}
theorem zaG_:PA X [] tNil:=λ_ _ _ _ H Q I h=>Calls.spliced_nil ⟨[],H,I,.nil,h⟩
theorem zm_ (ha:PE X e te)(hr:PA X es t)(hs:qg (e::es) X.env=(false,eval e X.env)::qg es X.env:=by rfl):PA X (e::es) (tCons te t):=by
 intro pos pins s σ H Q I h;rw[hs];show nI _ _ (spliced ((false,eval e X.env)::sh pos (qg es X.env))) _ _ s
 refine Calls.spliced_cons (thn (ha pins s σ H _ I h) λu s1 af=>?_)
 obtain⟨x,H1,I1,r1,q1⟩:=af;exact thn (hr pos pins s1 σ H1 _ I1 q1) λus s2 ⟨xs,H2,I2,r2,q2⟩=>⟨x::xs,H2,I2,.cons r1 r2,q2⟩
def tTup (t:TA):TE:=λσ H Q=>t σ H λxs H1=>xs.length<=pX/\∀p,H1 p=none->Q (.ref p) (upd H1 p (.tup xs))
def tLst (t:TA):TE:=λσ H Q=>t σ H λxs H1=>xs.length<=pX/\∀p,H1 p=none->Q (.ref p) (upd H1 p (.lst xs))
theorem zdI_ {x1}(h:PA X es t):PE X (.Tuple es x1 pos) (tTup t):=by
 intro pins s σ H Q I hq;refine wpAny_Tuple_spliced (thn (h pos pins s σ H _ I hq) λus s1 ⟨xs,H1,I1,r,z,q⟩=>⟨by rw[<- r.length];exact z,?_⟩)
 have hf:H1 s1.heap.objs.size=none:=I1.hok.fresh (nG _);refine⟨.ref s1.heap.objs.size,upd H1 s1.heap.objs.size (.tup xs),I1.laid (t':=s1.toks) (λb u e=>iX _ e) (nG _) ?_,rfl,q _ hf⟩
 exact⟨z,us,r,⟨_,p7 _ rfl,rfl,_,rfl⟩⟩
theorem zjQ_ (h:PA X es t):PE X (.List es pos) (tLst t):=by
 intro pins s σ H Q I hq;refine wpAny_List_spliced (thn (h pos pins s σ H _ I hq) λus s1 ⟨xs,H1,I1,r,z,q⟩=>⟨by rw[<- r.length];exact z,?_⟩)
 have hf:H1 s1.heap.objs.size=none:=I1.hok.fresh (nG _);refine⟨.ref s1.heap.objs.size,upd H1 s1.heap.objs.size (.lst xs),I1.laid (t':=s1.toks) (λb u e=>iX _ e) (nG _) ?_,rfl,q _ hf⟩
 exact⟨z,us,0,r,p7 _ rfl⟩
end
abbrev Sp:=List V->Hp->VK->XK->Prop
abbrev CXT:=List Env->Hp->kZ->XK->aL->kZ->Prop
structure Env0 (P:m7)(w:nL)(K:Fgg)(mg:Str->Option aL)(base:Heap)(A:qu)(outer:List Env)(s:kZ)(H:Hp):Prop where
 frames:A.frames=some outer
 mod:Mod K mg base
 bs:∀b o,base.get? b=some o->s.heap.get? b=some o/\H b=none
 bsz:base.objs.size<=s.heap.objs.size
 funs:s.heap.FunFrames base outer
 frf:∀b∈frs outer,H b=none
 hok:HOk P w H s.heap
 bare:AllBare s.gens
def CE (outer:List Env)(P:m7)(w:nL)(H:Hp)(s:kZ)(Q:VK)(u:aL)(s':kZ):Prop:=
 ∃v H',s'.os=s.os/\AllBare s'.gens/\Un (frs outer) [] H H' s.heap s'.heap/\HOk P w H' s'.heap/\RelV v u/\Q v H'
def CR (CX:CXT)(outer:List Env)(P:m7)(w:nL)(H:Hp)(s:kZ)(Q:VK)(E:XK)(r:Result)(s':kZ):Prop:=
 match r with
 |.ok (.ret u)=>CE outer P w H s Q u s'
 |.ok _=>False
 |.error e=>CX outer H s E e s'
structure FnOk (P:m7)(w:nL)(K:Fgg)(mg:Str->Option aL)(base:Heap)(CX:CXT)(k:Nat)(f:nc)(fd:rm)(ps:List Str)(sp:Sp):Prop where
 len:∀vs H Q E,sp vs H Q E->vs.length=ps.length
 run:∀(A:qu) (outer:List Env) (s:kZ) (H:Hp) (args:Args) (us:List aL) (vs:List V) (Q:VK) (E:XK),Room k A->Env0 P w K mg base A outer s H->BindsTo s fd args (ps.zip us)->Vals vs us->sp vs H Q E ->
  codeAny (model P w) A (.call (.ref f) args) (CR CX outer P w H s Q E) s
theorem Env0.make {P:m7}{w:nL}{K:Fgg}{mg:Str->Option aL}{base:Heap}{A:qu}{outer:List Env}{s:kZ}{H:Hp}(e:Env0 P w K mg base A outer s H)(C:nc)(us:List aL)(kw:List (Str×aL)):
  Env0 P w K mg base (A.under (.builtin "type.__call__" ⟨.ref C::us,kw⟩)) outer s H:=⟨by first |exact e.frames |(simpa [Around.under,Code.envs,Code.isFrame,pushEnvs]using e.frames),e.mod,e.bs,e.bsz,e.funs,e.frf,e.hok,e.bare⟩
section
variable {X:Cx}{pins:Pnn}{σ:St}{H:Hp}{s s':kZ}
theorem Inv.env0 (I:Inv X pins σ H s):Env0 X.prog X.w X.K X.mg X.base X.A X.stack s H:=
 ⟨I.ok.frames,I.ok.mod,I.bs,qV I.ok.bsz I.sz,I.stack,I.stkFree,I.hok,I.bare⟩
theorem Inv.after {Q:VK}{u:aL}(I:Inv X pins σ H s)(h:CE X.stack X.prog X.w H s Q u s'):EP X pins σ Q u s':=by
 obtain⟨v,H',os,bare,un,hok,r,q⟩:=h;obtain⟨hh,g,d,t,os'⟩:=s';obtain rfl:os'=s.os:=os;exact⟨v,H',I.call (h':=hh) (g':=g) (d':=d) (t':=t) (ch:=[]) un hok bare (λb z=>absurd z (by simp)),r,q⟩
end
def tCall (sp:Sp)(aH:List V)(E:XK)(t:TA):TE:=λσ H Q=>t σ H λvs H1=>sp (vs++aH) H1 Q E
def tMake (C:nc)(sp:Sp)(aH:List V)(E:XK)(t:TA):TE:=λσ H Q=>t σ H λvs H1=>∀x dx,H1 x=none->H1 dx=none->dx≠x ->
 sp (.ref x::(vs++aH)) (upd (upd H1 dx (.own x)) x (.ins C dx [])) (λv H2=>v=.non/\Q (.ref x) H2) E
def Binds (K:Fgg)(fd:rm)(ps:List Str)(ds:List aL):Prop:=
 ∀(s:kZ) (us:List aL),K.In s.heap->(us++ds).length=ps.length->BindsTo s fd ⟨us,[]⟩ (ps.zip (us++ds))
theorem Binds.all {K:Fgg}{fd:rm}{ps:List Str}(h:∀us:List aL,us.length=ps.length->bindArgs fd ⟨us,[]⟩=pure (ps.zip us)):Binds K fd ps []:=λs us _ hl=>by
 rw[qC]at hl ⊢;exact .of_eq (h us hl)
def Passes (CX:CXT)(X:Cx)(E:XK):Prop:=∀(pins:Pnn) (σ:St) (H:Hp) (s:kZ) (e:aL) (s':kZ),Inv X pins σ H s->CX X.stack H s E e s'->X.xe e s'
section
variable {X:Cx}{CX:CXT}{k:Nat}{f C:nc}{fd:rm}{ps:List Str}{sp:Sp}{aH:List V}{ds:List aL}{E:XK}{x:Str}{p pos:Pos}{e:qF}{es:List qF}{t:TA}
theorem zsR_ {pins:Pnn}{σ:St}{H:Hp}{s:kZ}{Q:VK}{us:List aL}{vs:List V}(F:FnOk X.prog X.w X.K X.mg X.base CX k f fd ps sp)(hr:Room k X.A)(hb:Binds X.K fd ps ds)(hd:Vals aH ds)(hx:Passes CX X E)
  (I:Inv X pins σ H s) (r:Vals vs us) (h:sp (vs++aH) H Q E):nI (model X.prog X.w) X.A (call (.ref f) us) (EP X pins σ Q) X.xe s:=by
 have r2:Vals (vs++aH) (us++ds):=r.append hd;have hl:(us++ds).length=ps.length:=by rw[<- r2.length];exact F.len _ _ _ _ h
 refine wpAny_call (codeAny_mono (F.run X.A X.stack s H ⟨us,[]⟩ (us++ds) (vs++aH) Q E hr I.env0 (hb s us I.kIn hl) r2 h) λr s' hq=>?_)
 cases r with
 |error e=>exact hx pins σ H s e s' I hq
 |ok fl=>
  cases fl with
  |ret u=>exact I.after hq
  |next=>exact qk hq
  |brk=>exact qk hq
  |cont=>exact qk hq
theorem zmt_ (F:FnOk X.prog X.w X.K X.mg X.base CX k f fd ps sp)(hr:Room k X.A)(hg:Gl X x)(hm:X.mg x=some (.ref f))(hk:sH X.K (.ref f)=true)(hb:Binds X.K fd ps ds)(hd:Vals aH ds)(hx:Passes CX X E)
  (ha:PA X (e::es) t) (aB:(x==("__debug__":Str))=false:=by decide) (he:qg (e::es) X.env=(false,eval e X.env)::qg es X.env:=by rfl) (ax:(sh pos (qg es X.env)).any (·.1)=false:=by rfl):
  PE X (.Call (.Name x p) (e::es) [] pos) (tCall sp aH E t):=by
 intro pins s σ H Q I h;refine se (zcR_ I hg hm ?_ aB);refine vD (h₀:=X.base) I.ok.mod.kin hk (thn (ha pos pins s σ H _ I h) λus s1 ⟨vs,H1,I1,r,q⟩=>⟨I1.kIn,?_⟩) he ax
 exact zsR_ F hr hb hd hx I1 r q
structure Mk (K:Fgg)(C f:nc):Prop where
 makes:wK K C=true
 init:qX K (.ref C) "__init__"=some (some (.ref f))
 fn:wj K (.ref f)=true
 kp:sH K (.ref C)=true
theorem zpt_ {pins:Pnn}{σ:St}{H:Hp}{s:kZ}{Q:VK}{us:List aL}{vs:List V}(M:Mk X.K C f)(F:FnOk X.prog X.w X.K X.mg X.base CX k f fd ps sp)(hr:Room (k+1) X.A)(hb:Binds X.K fd ps ds)(hd:Vals aH ds)
  (hx:Passes CX X E) (I:Inv X pins σ H s) (r:Vals vs us)
  (h:∀x dx,H x=none->H dx=none->dx≠x->sp (.ref x::(vs++aH)) (upd (upd H dx (.own x)) x (.ins C dx [])) (λv H2=>v=.non/\Q (.ref x) H2) E):
  nI (model X.prog X.w) X.A (call (.ref C) us) (EP X pins σ Q) X.xe s:=by
 have hq:=h (s.heap.objs.size+1) s.heap.objs.size (I.hok.fresh (tG _)) (I.hok.fresh (nG _)) (qo (uD _));have I2:=Inv.made (C:=C) I;have r2:Vals (V.ref (s.heap.objs.size+1)::(vs++aH)) (qq (s.heap.objs.size+1)::(us++ds)):=.cons rfl (r.append hd);have hl:(qq (s.heap.objs.size+1)::us++ds).length=ps.length:=by
  have e:=r2.length;rw[F.len _ _ _ _ hq]at e;exact e.symm
 refine wpAny_call (zn3_ (f:=f) I.kIn M.makes M.init (beq_iff_eq.mp M.fn) (codeAny_mono (F.run _ X.stack _ _ ⟨qq (s.heap.objs.size+1)::us,[]⟩ (qq (s.heap.objs.size+1)::(us++ds)) _ _ E (hr.make C us [])
  (I2.env0.make C us []) (hb _ (qq (s.heap.objs.size+1)::us) I2.kIn hl) r2 hq) λr s' aY=>?_))
 cases r with
 |error e=>exact hx pins σ _ _ e s' I2 aY
 |ok fl=>
  cases fl with
  |ret u=>
   obtain⟨v,H',I3,rv,ev,q3⟩:=I2.after aY;subst ev;exact⟨rv,⟨V.ref (s.heap.objs.size+1),H',I3,rfl,q3⟩⟩
  |next=>exact qk aY
  |brk=>exact qk aY
  |cont=>exact qk aY
theorem zq3_ (M:Mk X.K C f)(F:FnOk X.prog X.w X.K X.mg X.base CX k f fd ps sp)(hr:Room (k+1) X.A)(hg:Gl X x)(hm:X.mg x=some (.ref C))(hb:Binds X.K fd ps ds)(hd:Vals aH ds)(hx:Passes CX X E)
  (ha:PA X (e::es) t) (aB:(x==("__debug__":Str))=false:=by decide) (he:qg (e::es) X.env=(false,eval e X.env)::qg es X.env:=by rfl) (ax:(sh pos (qg es X.env)).any (·.1)=false:=by rfl):
  PE X (.Call (.Name x p) (e::es) [] pos) (tMake C sp aH E t):=by
 intro pins s σ H Q I h;refine se (zcR_ I hg hm ?_ aB);refine vD (h₀:=X.base) I.ok.mod.kin M.kp (thn (ha pos pins s σ H _ I h) λus s1 ⟨vs,H1,I1,r,q⟩=>⟨I1.kIn,?_⟩) he ax
 exact zpt_ M F hr hb hd hx I1 r q
end
structure FnScope (N P:List Str)(sc:Scope):Prop where
 kind:sc.kind=.function
 co:sc.isCoroutine=false
 gen:sc.isGenerator=false
 nd:N.Nodup
 pre:N.take P.length=P
 par:∀x∈P,sc.names.lookup x=some .local\/sc.names.lookup x=some .cell
 nofree:∀y∈sc.names,y.2≠.free
theorem ziF_ {kindOf:Str->Option uo}{x:Str}:∀{binds:List (Str×aL)}{m:Str->Option aL},(∀v,(x,v)∉binds)->bindL kindOf binds m x=m x
 |[],_,_=>rfl
 |(n,v)::r,m,h=>by
  unfold bindL;rw[ziF_ λw hw=>h w (qa _ hw)]
  split
  ·have:x≠n:=by rintro rfl;exact h v nu
   simp[this]
  ·rfl
theorem zh4_ {kindOf:Str->Option uo}{x:Str}:∀{binds:List (Str×aL)}{m:Str->Option aL},(∀v,(x,v)∉binds)->bindC kindOf binds m x=m x
 |[],_,_=>rfl
 |(n,v)::r,m,h=>by
  unfold bindC;rw[zh4_ λw hw=>h w (qa _ hw)]
  split
  ·rfl
  ·have:x≠n:=by rintro rfl;exact h v nu
   simp[this]
theorem ziu_ {kindOf:Str->Option uo}{x:Str}{v:aL}:∀{P:List Str}{vs:List aL}{i:Nat}{m:Str->Option aL},P.Nodup->P[i]?=some x->vs[i]?=some v->kindOf x=some .local ->
  bindL kindOf (P.zip vs) m x=some v
 |[],_,_,_,_,h,_,_=>by simp at h
 |_::_,[],_,_,_,_,h,_=>by simp at h
 |p::P,w::vs,0,m,nd,h1,h2,hk=>by
  simp at h1 h2;subst h1;subst h2;show bindL kindOf ((p,w)::P.zip vs) m p=_
  unfold bindL;rw[ziF_ λv hv=>(sk.mp nd).1 (uh hv).1,if_pos hk]
  simp
 |p::P,w::vs,i+1,m,nd,h1,h2,hk=>by
  show bindL kindOf ((p,w)::P.zip vs) m x=_
  unfold bindL;exact ziu_ (i:=i) (sk.mp nd).2 (by simpa using h1) (by simpa using h2) hk
theorem zio_ {kindOf:Str->Option uo}{x:Str}{v:aL}:∀{P:List Str}{vs:List aL}{i:Nat}{m:Str->Option aL},P.Nodup->P[i]?=some x->vs[i]?=some v->kindOf x≠some .local ->
  bindC kindOf (P.zip vs) m x=some v
 |[],_,_,_,_,h,_,_=>by simp at h
 |_::_,[],_,_,_,_,h,_=>by simp at h
 |p::P,w::vs,0,m,nd,h1,h2,hk=>by
  simp at h1 h2;subst h1;subst h2;show bindC kindOf ((p,w)::P.zip vs) m p=_
  unfold bindC;rw[zh4_ λv hv=>(sk.mp nd).1 (uh hv).1,if_neg hk]
  simp
 |p::P,w::vs,i+1,m,nd,h1,h2,hk=>by
  show bindC kindOf ((p,w)::P.zip vs) m x=_
  unfold bindC;exact zio_ (i:=i) (sk.mp nd).2 (by simpa using h1) (by simpa using h2) hk
def start (N:List Str)(vs:List V):St:=vs.map some++nE (N.length-vs.length) none
noncomputable def cxOf (CX:CXT)(P:m7)(w:nL)(K:Fgg)(mg:Str->Option aL)(base:Heap)(N:List Str)(qual:Str)(scope:Scope)(f:nc)(cd:aL)(A:qu)(outer:List Env)(s:kZ)(H:Hp)(E:XK):Cx where
 prog:=P
 w:=w
 K:=K
 mg:=mg
 base:=base
 A:=A.deeper (envOfC qual scope s.heap.objs.size f cd)
 N:=N
 s₀:=s
 H₀:=H
 env:=envOfC qual scope s.heap.objs.size f cd
 outer:=outer
 stack:=envOfC qual scope s.heap.objs.size f cd::outer
 ex:=[]
 calm:=true
 fn:=λ_=>true
 pn:=[]
 xe:=λe s'=>nI (model P w) (A.deeper (envOfC qual scope s.heap.objs.size f cd)) (leaving (envOfC qual scope s.heap.objs.size f cd) e) (λ_ cC=>CX outer H s E e cC) (λe' cC=>CX outer H s E e' cC) s'
theorem zj1_ {sc:Scope}{n:Nat}{x:Str}(h:sc.names.lookup x=some .cell):∃c,(cellsFrom n sc.names []).lookup x=some c:=by
 have q:=vv sc.names n [] (.inl h);exact ue.mp q
theorem ziy_ {CX:CXT}{P:m7}{w:nL}{K:Fgg}{mg:Str->Option aL}{base:Heap}{N ps:List Str}{qual:Str}{scope:Scope}{f:nc}{cd:aL}{A:qu}{outer:List Env}{s s1:kZ}{H:Hp}{E:XK}{us:List aL}{vs:List V}
  (S:FnScope N ps scope) (hd:A.handled=none) (e0:Env0 P w K mg base A outer s H) (hl:vs.length=ps.length) (r:Vals vs us)
  (x:InCallC s s.heap.objs.size (bindL (envOfC qual scope s.heap.objs.size f cd).kindOf (ps.zip us) λ_=>none) (cellsFrom (s.heap.objs.size+1) scope.names []) (bindC (envOfC qual scope s.heap.objs.size f cd).kindOf (ps.zip us) λ_=>none) s1):
  Inv (cxOf CX P w K mg base N qual scope f cd A outer s H E) [] (start N vs) H s1:=by
 have ax:ps.length<=N.length:=by have:=congrArg rZ S.pre;rw[rp]at this;lia
 obtain⟨h1,tk,rfl,hk⟩:=x.done;have gm:∀b:nc,b∉(cxOf CX P w K mg base N qual scope f cd A outer s H E).ex:=λb z=>absurd (show b∈([]:List nc)from z) (by simp)
 refine⟨⟨e0.mod,S.kind,rfl,rfl,nG _,λy z c h1 h2=>?_,λy hy=>?_,λy c _ h=>?_,λ_=>hd,Around.frames_deeper e0.frames,.inr ⟨rfl,rfl⟩,λb z=>absurd z (gm b),e0.bs,e0.bsz,λb _ _=>gm b,λb z=>absurd z (gm b),e0.funs,e0.frf⟩,
  rfl,e0.bare,Un.kept hk,⟨_,x.toInCall.ns,λi y v h1 h2 h3=>?_⟩,λy c h=>⟨_,x.cell y c h⟩,e0.hok.fresh (nG _),λy c h=>?_,λp hp=>absurd (show p∈([]:Pnn)from hp) (by simp),e0.hok.kept hk,?_⟩
 ·exact name_of_addr x.apart (sr h1) (sr h2)
 ·have hy:scope.names.lookup y=some .cell\/scope.names.lookup y=some .free:=hy
  rcases hy with hy |hy
  ·exact zj1_ hy
  ·exact absurd rfl (S.nofree _ (sr hy))
 ·exact vB (x.above y c (sr h))
 ·have hi:i<vs.length:=by
   unfold start at h2;grind
  have ha:vs[i]?=some v:=by
   unfold start at h2;grind
  obtain⟨u,hu,rv⟩:=r.get ha;have hp:ps[i]?=some y:=by
   rw[<- S.pre,List.getElem?_take_of_lt (by lia)];exact h1
  have l8:ps.Nodup:=by rw[<- S.pre];exact S.nd.sublist (List.take_sublist _ _)
  refine⟨u,rv,?_⟩;rcases S.par y (sW hp)with k |k
  ·exact .inl ⟨k,ziu_ l8 hp hu k⟩
  ·obtain⟨c,e⟩:=zj1_ (n:=s.heap.objs.size+1) k
   refine .inr ⟨.inl k,c,e,?_⟩;have q:=x.cell y c e;rw[zio_ l8 hp hu (by show scope.names.lookup y≠_;rw[k];decide)]at q
   exact q
 ·exact e0.hok.fresh (vB (x.above y c (sr h)))
 ·unfold start
  show _=N.length
  rw[nA,l6,vM];lia
theorem zse_ {CX:CXT}{P:m7}{w:nL}{K:Fgg}{mg:Str->Option aL}{base:Heap}{k:Nat}{f:nc}{name qual:Str}{params:Arguments}{body:List qL}{scope:Scope}{dV kV doc pm ah ct oc:aL}{an od:Option nc}
  {aw:Array (Option aL)}{N ps:List Str}{sp:Sp}(lk:K.lookup f=some ⟨oc,od,.func (tX name qual params body scope dV kV doc pm an ah ct),aw⟩) (bB:uO K ah qual=true) (S:FnScope N ps scope)
  (len:∀vs H Q E,sp vs H Q E->vs.length=ps.length)
  (aG:∀(A:qu) (outer:List Env) (s:kZ) (H:Hp) (vs:List V) (Q:VK) (E:XK),Room k (A.deeper (envOfC qual scope s.heap.objs.size f ah))->sp vs H Q E ->
   ∃t,PSs (cxOf CX P w K mg base N qual scope f ah A outer s H E) body t/\t {nx:=λ_ H'=>Q .non H',rt:=Q} (start N vs) H):
  FnOk P w K mg base CX (k+1) f (tX name qual params body scope dV kV doc pm an ah ct) ps sp:=by
 refine⟨len,λA outer s H args us vs Q E hr e0 hb r bI=>?_⟩
 have hl:=len _ _ _ _ bI;have KX:K.In s.heap:=e0.mod.kin.keeps λb o e=>(e0.bs b o e).1
 have lim:s.heap.NoLimit:=e0.mod.nolimit.keeps λb o e=>(e0.bs b o e).1
 have cO:∀y∈ps.zip us,scope.names.lookup y.1=some .local\/(scope.names.lookup y.1=some .cell/\((cellsFrom (s.heap.objs.size+1) scope.names []).lookup y.1).isSome=true):=λ⟨n,v⟩ hy=>by
  rcases S.par n (uh hy).1 with q |q
  ·exact .inl q
  ·exact .inr ⟨q,vv _ _ _ (.inl q)⟩
 refine codeAny_call_function hr.depth (KX _ _ lk) rfl S.co S.gen rfl (yh KX bB) (hb _ _ _ _ ?_);refine wpAny_newFunctionEnv_cells S.kind cO λenv he s1 x=>?_
 subst he;refine⟨lim.keeps x.toInCall.keep,codeAny_func ?_⟩;obtain⟨t,ht,hq⟩:=aG A outer s H vs Q E (hr.deeper _) bI;have I:Inv (cxOf CX P w K mg base N qual scope f ah A outer s H E) [] (start N vs) H s1:=ziy_ S hr.hd e0 hl r x;refine qH (ht [] s1 (start N vs) H _ I hq) (λfl s' hs=>?_) λe s' hs=>hs
 have fin:∀{ai:St}{H':Hp}{v:V}{u:aL},Inv (cxOf CX P w K mg base N qual scope f ah A outer s H E) [] ai H' s'->RelV v u->Q v H'->CE outer P w H s Q u s':=
  λ{ai H' v u} J rv q=>⟨v,H',J.os,J.bare,J.base,J.hok,rv,q⟩
 cases fl with
 |ret u=>
  obtain⟨v,ai,H',J,rv,q⟩:=hs;exact fin J rv q
 |next=>
  obtain⟨ai,H',J,q⟩:=hs;exact fin (v:=V.non) (u:=qJ) J rfl q
 |brk=>
  obtain⟨_,_,_,q⟩:=hs;exact qk q
 |cont=>
  obtain⟨_,_,_,q⟩:=hs;exact qk q
section
variable {X:Cx}{x:Str}{p pos:Pos}{e:qF}{es:List qF}{t:TA}{id T:String}{r:List V->Hp->VK->Prop}
def tCB (r:List V->Hp->VK->Prop)(t:TA):TE:=λσ H Q=>t σ H λvs H1=>r vs H1 Q
theorem znY_ (hc:CallR X (.builtin id) r)(hg:Gl X x)(hm:X.mg x=none)(hv:sT x=some (.builtin id))(ha:PA X (e::es) t)(hn:x ≠ "__name__":=by decide)(aB:(x==("__debug__":Str))=false:=by decide)
  (he:qg (e::es) X.env=(false,eval e X.env)::qg es X.env:=by rfl) (ax:(sh pos (qg es X.env)).any (·.1)=false:=by rfl):PE X (.Call (.Name x p) (e::es) [] pos) (tCB r t):=by
 intro pins s σ H Q I h;refine se (zhZ_ I hg hm hv ?_ hn aB);exact uE (thn (ha pos pins s σ H _ I h) λus s1 ⟨vs,H1,I1,r1,q1⟩=>hc pins s1 σ H1 vs us Q I1 r1 q1) he ax
theorem zl7_ (hc:CallR X (.type T) r)(hg:Gl X x)(hm:X.mg x=none)(hv:sT x=some (.type T))(ha:PA X (e::es) t)(hn:x ≠ "__name__":=by decide)(aB:(x==("__debug__":Str))=false:=by decide)
  (he:qg (e::es) X.env=(false,eval e X.env)::qg es X.env:=by rfl) (ax:(sh pos (qg es X.env)).any (·.1)=false:=by rfl):PE X (.Call (.Name x p) (e::es) [] pos) (tCB r t):=by
 intro pins s σ H Q I h;refine se (zhZ_ I hg hm hv ?_ hn aB);exact rQ (thn (ha pos pins s σ H _ I h) λus s1 ⟨vs,H1,I1,r1,q1⟩=>hc pins s1 σ H1 vs us Q I1 r1 q1) he ax
end
end L2
namespace HT
open PySem PyProof.Rows
section
open PySem.SeqAt
open PySem.AutoSeq1 (wpAny_loadPart')
open PySem.MeetsSeq PySem.MeetsSeq2 PySem.MeetsSeq3
end
section
variable {prog:m7}{w:nL}{A:qu}{E:aL->kZ->Prop}{s:kZ}
theorem cat_tup {t b:nc}{vs ws:List aL}{Q:aL->kZ->Prop}(ht:IsTup s.heap t vs.toArray)(hb:IsTup s.heap b ws.toArray)(hv:vs≠[])
  (h1:ws=[]->Q (.ref t) s) (h2:ws≠[]->Q (.ref s.heap.objs.size) {s with heap:=s.heap.push {cls:=.type "tuple",data:=.seq (vs++ws).toArray}})
  (hsz:vs.length+ws.length<=pX):nI (model prog w) A (sq .Add (.ref t) (.ref b)) Q E s:=by
 obtain⟨⟨cls,dd,data,sl⟩,ho,hc,n,hd⟩:=id ht;obtain⟨⟨pI,dd2,data2,sl2⟩,ho2,hc2,n2,hd2⟩:=id hb;simp only at hc hd hc2 hd2;subst hc hd hc2 hd2;have e:vs.toArray++ws.toArray=(vs++ws).toArray:=by simp
 by_cases hw:ws=[]
 ·exact concat_meets ⟨_,ho,rfl⟩ ⟨_,ho2,rfl⟩ noFill_tuple_add seq_tuple_add vE vw (vo _ _)
   (tuple_addW1 t b vs.toArray ws.toArray n n2 dd dd2 sl sl2 (by simpa using hv) (by simp[hw])) ⟨ho,ho2,h1 hw⟩
 ·refine concat_meets ⟨_,ho,rfl⟩ ⟨_,ho2,rfl⟩ noFill_tuple_add seq_tuple_add vE vw (vo _ _)
   (tuple_addW2 t b vs.toArray ws.toArray n n2 dd dd2 sl sl2 (by simpa using hv) (by simpa using hw) (by rw[ng,ng];exact hsz)) ⟨ho,ho2,?_⟩
  rw[e];exact h2 hw
def sIx (n d:Nat):Option Int->Nat
 |none=>d
 |some v=>if v<0 then(v+(n:Int)).toNat else min v.toNat n
theorem sIx_le (n d:Nat)(hd:d<=n)(o:Option Int):sIx n d o<=n:=by
 cases o with
 |none=>exact hd
 |some v=>
  show(if v<0 then(v+(n:Int)).toNat else min v.toNat n)<=n
  grind
theorem zmT_ (v:Int)(n d:Nat):(if v<0 then max (v+(n:Int)) 0 else min v (n:Int))=((sIx n d (some v):Nat):Int):=by
 show(if v<0 then max (v+(n:Int)) 0 else min v (n:Int))=(((if v<0 then(v+(n:Int)).toNat else min v.toNat n):Nat):Int)
 by_cases hv:v<0
 ·simp only[if_pos hv];lia
 ·simp only[if_neg hv];lia
theorem zki_ (lo hi:Option Int)(n:Nat):tU lo hi 1 (n:Int)=(((sIx n 0 lo:Nat):Int),((sIx n n hi:Nat):Int)):=by
 have h1:¬((1:Int)<0):=by lia
 unfold tU;simp only[h1,if_false];refine Prod.ext ?_ ?_
 ·cases lo with
  |none=>rfl
  |some v=>exact zmT_ v n 0
 ·cases hi with
  |none=>rfl
  |some v=>exact zmT_ v n n
theorem zky_ (i j:Nat):sP (i:Int) (j:Int) 1=j-i:=by
 unfold sP;have h1:(1:Int) > 0:=by lia
 simp only[h1,if_true,yi];split<;>lia
theorem zg5_ {v:aL}{o:Option Int}{Q:Option Int->kZ->Prop}(p:IsPart v o)(h:Q o s):nI (model prog w) A (w9 v) Q E s:=by
 cases p with
 |none=>exact slicePart_none h
 |int i t=>exact slicePart_int h
theorem zek_ {sl:nc}{vl vu:aL}{lo hi:Option Int}{n:Nat}{Q:Int×Int×Nat->kZ->Prop}(hs:s.heap.IsSliceOf sl vl vu .none)(pl:IsPart vl lo)(pu:IsPart vu hi)
  (h:Q (((sIx n 0 lo:Nat):Int),1,sIx n n hi-sIx n 0 lo) s):nI (model prog w) A (vd (.ref sl) (pure (n:Int))) Q E s:=by
 obtain⟨os,hos,hcs,hds⟩:=id hs;unfold vd xJ;refine iV (iV (rK hos hds (x:=vl) rfl (iV (rK hos hds (x:=vu) rfl (iV (rK hos hds (x:=.none) rfl (nh ?_)))))));refine iV (slicePart_none ?_);show nI _ _ (if((1:Int) == 0)=true then _ else _) _ _ s
 rw[if_neg (by decide)]
 refine iV (zg5_ pl (iV (zg5_ pu (iV (nh ?_)))));show nI _ _ (match tU lo hi 1 (n:Int)with |(lo,hi)=>pure (lo,(1:Int),sP lo hi 1)) _ _ s
 rw[zki_ lo hi n];show nI _ _ (pure (((sIx n 0 lo:Nat):Int),(1:Int),sP ((sIx n 0 lo:Nat):Int) ((sIx n n hi:Nat):Int) 1)) _ _ s
 rw[zky_];exact nh h
theorem zpd_ (xs:Array aL)(i k:Nat):((qG k).filterMap λ(m:Nat)=>xs[((i:Int)+(m:Int)*1).toNat]?).toArray=((xs.toList.drop i).take k).toArray:=by
 have e:(λ(m:Nat)=>xs[((i:Int)+(m:Int)*1).toNat]?)=λm=>xs[i+m]?:=by
  funext m;have:((i:Int)+(m:Int)*1).toNat=i+m:=by lia
  rw[this]
 rw[e];have:=pick_run xs i k;rw[uj]at this;have e2:((λx=>xs[x]?)∘λx=>i+x)=λm=>xs[i+m]?:=rfl
 rw[e2]at this;rw[this]
theorem getItem_tuple_cut {t sl:nc}{items:Array aL}{vl vu:aL}{lo hi:Option Int}{Q:aL->kZ->Prop}(ht:IsTup s.heap t items)(hs:s.heap.IsSliceOf sl vl vu .none)(pl:IsPart vl lo)(pu:IsPart vu hi)
  (hw:¬(sIx items.size 0 lo=0/\sIx items.size items.size hi=items.size))
  (h:Q (.ref s.heap.objs.size) {s with heap:=s.heap.push {cls:=.type "tuple",data:=.seq ((items.toList.drop (sIx items.size 0 lo)).take (sIx items.size items.size hi-sIx items.size 0 lo)).toArray}})
  (hsz:items.size<=pX):nI (model prog w) A (getItem (.ref t) (.ref sl)) Q E s:=by
 have bV:sizeOk (.seq ((items.toList.drop (sIx items.size 0 lo)).take (sIx items.size items.size hi-sIx items.size 0 lo)).toArray):=by
  show((items.toList.drop (sIx items.size 0 lo)).take (sIx items.size items.size hi-sIx items.size 0 lo)).toArray.size<=pX
  rw[ng,rp,rO,qZ];lia
 have hj:sIx items.size items.size hi<=items.size:=sIx_le _ _ (nG _) hi;obtain⟨os,hos,hcs,hds⟩:=id hs;have pd:s.TypeIs (.ref sl) "slice":=⟨os,hos,hcs⟩;unfold getItem
 try with_reducible refine wpAny_holding ?_
 first |refine iV (nh ?_)|skip
 refine iV (wpAny_sequenceKey ht.typeIs (by decide) ?_)
 refine iV (wpAny_callSpecial?_slot (name:=tQ "__getitem__") ht.typeIs tw
  (wpAny_call_entry tw ht.typeIs entry_tuple_getitem ?_ (args_tuple_getitem _ _)))
 show nI _ _ (xl (.ref t)>>=_) _ _ s
 refine iV (tupleItemsOf_ ht ?_);refine iV (wpAny_typeOf pd ?_);rw[if_pos (by decide)]
 refine iV (zek_ hs pl pu ?_);have oJ:¬((((sIx items.size 0 lo:Nat):Int) == 0 && (1:Int) == 1 && (sIx items.size items.size hi-sIx items.size 0 lo) == items.size)=true):=by
  grind
 show nI _ _ (if(((sIx items.size 0 lo:Nat):Int) == 0 && (1:Int) == 1 && (sIx items.size items.size hi-sIx items.size 0 lo) == items.size)=true then _ else _) _ _ s
 rw[if_neg oJ,zpd_]
 first
  |exact iV (m:=sZ _) (wpAny_newObj_type (nh ⟨_,rfl,nh h⟩) bV)
  |exact iV (m:=sZ _) (wpAny_newObj_type (iV (nh (nh ⟨_,rfl,nh h⟩))) bV)
  |exact iV (iV (m:=sZ _) (wpAny_newObj_type (nh (nh ⟨_,rfl,nh h⟩)) bV))
  |exact iV (iV (m:=sZ _) (wpAny_newObj_type (nh ⟨_,rfl,nh h⟩) bV))
end
end HT
namespace L2
open PySem PySem.Spec PyProof.Rows
abbrev TO:=St->Hp->(Option Int->Hp->Prop)->Prop
def PO (X:Cx)(e:Option qF)(t:TO):Prop:=
 ∀(pins:Pnn) (s:kZ) (σ:St) (H:Hp) (Q:Option Int->Hp->Prop),Inv X pins σ H s->t σ H Q ->
  nI (model X.prog X.w) X.A (evalPart e X.env) (λu s'=>∃o H',Inv X pins σ H' s'/\IsPart u o/\Q o H') X.xe s
def tNoPart:TO:=λ_ H Q=>Q none H
section
variable {X:Cx}{e:qF}{te:TE}{lo hi:Option qF}{tl th:TO}{pos p2:Pos}
theorem zm4_:PO X none tNoPart:=by
 intro pins s σ H Q I h;rw[evalPart_none];exact nh ⟨none,H,I,.none,h⟩
def SlR (X:Cx)(r:V->Option Int->Option Int->Hp->VK->Prop):Prop:=
 ∀(pins:Pnn) (s:kZ) (σ:St) (H:Hp) (x:V) (v vl vu:aL) (lo hi:Option Int) (sl:nc) (Q:VK),Inv X pins σ H s->RelV x v->s.heap.IsSliceOf sl vl vu .none->IsPart vl lo->IsPart vu hi->r x lo hi H Q ->
  ∃T id,typeLookup (.type T) "__getitem__"=pure (some (.builtin id))/\s.TypeIs v T/\nI (model X.prog X.w) X.A (getItem v (.ref sl)) (EP X pins σ Q) X.xe s
def tSl (r:V->Option Int->Option Int->Hp->VK->Prop)(te:TE)(tl th:TO):TE:=λσ H Q=>te σ H λx H1=>tl σ H1 λl H2=>th σ H2 λu H3=>r x l u H3 Q
theorem zhL_ {r:V->Option Int->Option Int->Hp->VK->Prop}(hr:SlR X r)(he:PE X e te)(hl:PO X lo tl)(hu:PO X hi th):PE X (.Subscript e (.Slice lo hi none p2) pos) (tSl r te tl th):=by
 intro pins s σ H Q I h;refine Subscript_ (thn (he pins s σ H _ I h) λv s1 af=>?_)
 obtain⟨x,H1,I1,r1,q1⟩:=af;refine wpAny_Slice (thn (hl pins s1 σ H1 _ I1 q1) λvl s2 ⟨l,H2,I2,pl,q2⟩=>thn (hu pins s2 σ H2 _ I2 q2) λvu s3 af=>?_)
 obtain⟨u,H3,I3,pu,q3⟩:=af;rw[evalPart_none];refine nh ?_;have I4:Inv X pins σ H3 {s3 with heap:=s3.heap.push {cls:=.type "slice",data:=.fields #[vl,vu,.none]}}:=I3.kept (t':=s3.toks) λb ob q=>iX _ q
 obtain⟨T,id,hT,ht,hg⟩:=hr pins {s3 with heap:=s3.heap.push {cls:=.type "slice",data:=.fields #[vl,vu,.none]}} σ H3 x v vl vu l u s3.heap.objs.size Q I4 r1 (yA ..) pl pu q3;show nI (model X.prog X.w) X.A (subscriptTail e (.Slice lo hi none p2) v (.ref s3.heap.objs.size)) (EP X pins σ Q) X.xe {s3 with heap:=s3.heap.push {cls:=.type "slice",data:=.fields #[vl,vu,.none]}}
 exact tail_any (ops:=[.ref s3.heap.objs.size,v]) ht hT hg (by with_unfolding_all rfl)
def cutV (xs:List V)(lo hi:Option Int):List V:=(xs.drop (HT.sIx xs.length 0 lo)).take (HT.sIx xs.length xs.length hi-HT.sIx xs.length 0 lo)
theorem zfB_ (xs:List V)(lo hi:Option Int):(cutV xs lo hi).length<=xs.length:=by
 unfold cutV;rw[rp,rO];lia
def rSlT (K:Fgg):V->Option Int->Option Int->Hp->VK->Prop:=λx lo hi H Q=>∃a xs,x=.ref a/\SqT K H a xs /\
 ¬(HT.sIx xs.length 0 lo=0/\HT.sIx xs.length xs.length hi=xs.length)/\∀p,H p=none->Q (.ref p) (upd H p (.tup (cutV xs lo hi)))
theorem zs1_:SlR X (rSlT X.K):=by
 intro pins s σ H x v vl vu lo hi sl Q I rx hs pl pu h;obtain⟨a,xs,rfl,hx,hw,q⟩:=h;cases rx;obtain⟨aa,r,ht,hz⟩:=I.tuple hx;have hlen:aa.toArray.size=xs.length:=by rw[ng];exact r.length.symm
 refine⟨"tuple",_,tw.lookup,ht.typeIs,?_⟩;refine HT.getItem_tuple_cut ht hs pl pu (by rw[hlen];exact hw) ?_ (by rw[hlen];exact hz)
 rw[hlen];refine⟨.ref s.heap.objs.size,_,I.laid (t':=s.toks) (o:=.tup (cutV xs lo hi)) (λb ob q=>iX _ q) (nG _) ?_,rfl,q _ (I.hok.fresh (nG _))⟩
 exact⟨qV (zfB_ xs lo hi) hz,_,(r.drop (HT.sIx xs.length 0 lo)).take (HT.sIx xs.length xs.length hi-HT.sIx xs.length 0 lo),IsTup.new _ _⟩
def rCatT (K:Fgg):R2:=λx y H Q=>∃a b xs ys,x=.ref a/\y=.ref b/\SqT K H a xs/\SqT K H b ys/\xs≠[]/\xs.length+ys.length<=pX /\
 (ys=[]->Q (.ref a) H)/\(ys≠[]->∀p,H p=none->Q (.ref p) (upd H p (.tup (xs++ys))))
theorem Vals.nil_iff {xs:List V}{us:List aL}(r:Vals xs us):us=[]↔xs=[]:=by
 cases r with
 |nil=>simp
 |cons _ _=>simp
theorem zrs_:OpR X (sq .Add) (rCatT X.K):=by
 intro pins s σ H x y v u Q I rx ry h;obtain⟨a,b,xs,ys,rfl,rfl,ha,hb,hx,hz,q1,q2⟩:=h;cases rx;cases ry;obtain⟨aa,r1,p1,_⟩:=I.tuple ha;obtain⟨au,r2,p2,_⟩:=I.tuple hb;refine HT.cat_tup p1 p2 (λz=>hx (r1.nil_iff.mp z)) (λz=>⟨.ref a,H,I,rfl,q1 (r2.nil_iff.mp z)⟩) (λz=>?_) (by rw[<- r1.length,<- r2.length];exact hz)
 refine⟨.ref s.heap.objs.size,_,I.laid (t':=s.toks) (o:=.tup (xs++ys)) (λb ob q=>iX _ q) (nG _) ?_,rfl,q2 (λw=>z (r2.nil_iff.mpr w)) _ (I.hok.fresh (nG _))⟩
 exact⟨by rw[nA];exact hz,_,r1.append r2,IsTup.new _ _⟩
end
def ixN (n:Nat)(i:Int):Option Nat:=if 0<=i then(if i<n then some i.toNat else none)else if -(n:Int)<=i then some (i+n).toNat else none
def atI {α:Type}(xs:List α)(i:Int):Option α:=(ixN xs.length i).bind λj=>xs[j]?
theorem zm8_ {n:Nat}{i:Int}{j:Nat}(h:ixN n i=some j):seqIndex? i n=some j/\j<n /\ -(n:Int)<=i/\i<n:=by
 unfold ixN at h;by_cases h0:0<=i
 ·rw[if_pos h0]at h
  by_cases h1:i<n
  ·rw[if_pos h1]at h
   have e:i.toNat=j:=qW h;exact⟨by rw[seqIndex_of h0 h1,e],by lia,by lia,h1⟩
  ·rw[if_neg h1]at h;cases h
 ·rw[if_neg h0]at h
  by_cases h1 : -(n:Int)<=i
  ·rw[if_pos h1]at h
   have e:(i+n).toNat=j:=qW h;exact⟨by rw[seqIndex_neg (by lia) h1,e],by lia,h1,by lia⟩
  ·rw[if_neg h1]at h;cases h
theorem zkY_ {α:Type}{xs:List α}{i:Int}{v:α}(h:atI xs i=some v):∃j,seqIndex? i xs.length=some j/\xs[j]?=some v/\j<xs.length /\ -(xs.length:Int)<=i/\i<xs.length:=by
 unfold atI at h;cases e:ixN xs.length i with
 |none=>rw[e]at h;cases h
 |some j=>
  rw[e]at h;obtain⟨h1,h2,h3,h4⟩:=zm8_ e;exact⟨j,h1,h,h2,h3,h4⟩
theorem atI_nat {α:Type}{xs:List α}{j:Nat}{v:α}(h:xs[j]?=some v):atI xs (j:Int)=some v:=by
 have hj:j<xs.length:=(qi.mp h).1;have e:ixN xs.length (j:Int)=some j:=by
  unfold ixN;rw[if_pos (by lia),if_pos (by lia)];simp
 unfold atI;rw[e];exact h
def PlainIx (b:qF):Prop:=∀o i,subscripted b false o i=operate [o,i] (getItem o i)
def IxR (X:Cx)(r:R2):Prop:=
 ∀(value slice:qF) (pins:Pnn) (s:kZ) (σ:St) (H:Hp) (x y:V) (v u:aL) (Q:VK),Inv X pins σ H s->RelV x v->RelV y u->r x y H Q ->
  subscripted slice false v u=operate [v,u] (getItem v u)->nI (model X.prog X.w) X.A (subscriptTail value slice v u) (EP X pins σ Q) X.xe s
def MtR (X:Cx)(id:String)(r:V->List V->Hp->VK->Prop):Prop:=
 ∀(pins:Pnn) (s:kZ) (σ:St) (H:Hp) (x:V) (xs:List V) (v:aL) (us:List aL) (Q:VK),Inv X pins σ H s->RelV x v->Vals xs us->r x xs H Q ->
  nI (model X.prog X.w) X.A (call (.builtin id) (v::us)) (EP X pins σ Q) X.xe s
section
variable {X:Cx}{a b:qF}{ta tb:TE}{pos:Pos}
theorem zgp_ {r:R2}(hr:IxR X r)(ha:PE X a ta)(hb:PE X b tb)(hs:PlainIx b):PE X (.Subscript a b pos) (tOp r ta tb):=by
 intro pins s σ H Q I h;exact Subscript_ (binT ha hb I h λv u s2 x y H2 I2 rx ry q=>hr a b pins s2 σ H2 x y v u Q I2 rx ry q (hs _ _))
def rIxL (K:Fgg):R2:=λx y H Q=>∃p xs i v,x=.ref p/\y=.int i/\SqL K H p xs/\atI xs i=some v/\Q v H
def rIxT (K:Fgg):R2:=λx y H Q=>∃p xs i v,x=.ref p/\y=.int i/\SqT K H p xs/\atI xs i=some v/\Q v H
def rIxS:R2:=λx y H Q=>∃z i c,x=.str z/\y=.int i/\z.length<=pX/\atI z.cps.toList i=some c/\Q (.str ⟨#[c]⟩) H
theorem zq0_:IxR X (rIxL X.K):=by
 intro value slice pins s σ H x y v u Q I rx ry h hs;obtain⟨p,xs,i,z,rfl,rfl,hq,he,q⟩:=h;cases rx;obtain⟨t,rfl⟩:=ry;obtain⟨aa,r,pl,hz⟩:=I.list hq;obtain⟨j,h1,h2,h3,h4,h5⟩:=zkY_ he;obtain⟨w,ew,aS⟩:=r.get h2;have hl:=r.length;have hn:=line63;have fin:EP X pins σ Q w s:=⟨z,H,I,aS,q⟩;by_cases h0:0<=i
 ·have hj:i.toNat=j:=by
   rw[seqIndex_of h0 h5]at h1;exact qW h1
  exact item_listR pl.isList h0 (by lia) (by rw[hj];simpa using ew) fin hs
 ·have hj:(i+(aa.toArray.size:Int)).toNat=j:=by
   rw[seqIndex_neg (by lia) h4]at h1
   rw[ng,<- hl];exact qW h1
  exact subscriptTail_builtinR (x:=w) pl.isList.typeIs slot_list_getitem.lookup
   (wpAny_getItem_list_neg (Q:=λr s'=>r=w/\EP X pins σ Q r s') pl.isList (by lia) (by rw[ng]<;>lia) (by lia) (by rw[hj];simpa using ew) ⟨rfl,fin⟩) hs
theorem ztb_:IxR X (rIxT X.K):=by
 intro value slice pins s σ H x y v u Q I rx ry h hs;obtain⟨p,xs,i,z,rfl,rfl,hq,he,q⟩:=h;cases rx;obtain⟨t,rfl⟩:=ry;obtain⟨aa,r,pl,hz⟩:=I.tuple hq;obtain⟨j,h1,h2,h3,h4,h5⟩:=zkY_ he;obtain⟨w,ew,aS⟩:=r.get h2;have hl:=r.length;have hn:=line63;have fin:EP X pins σ Q w s:=⟨z,H,I,aS,q⟩
 exact subscriptTail_builtinR (x:=w) pl.typeIs slot_tuple_getitem.lookup
  (getItem_tuple (j:=j) (Q:=λr s'=>r=w/\EP X pins σ Q r s') pl (by lia) (by lia) (by rw[ng,<- hl];exact h1) (by simpa using ew) ⟨rfl,fin⟩) hs
theorem zsl_:IxR X rIxS:=by
 intro value slice pins s σ H x y v u Q I rx ry h hs;obtain⟨z,i,c,rfl,rfl,hz,he,q⟩:=h;obtain⟨t,rfl⟩:=rx;obtain⟨t',rfl⟩:=ry;obtain⟨j,h1,h2,h3,h4,h5⟩:=zkY_ he;have hl:z.cps.toList.length=z.length:=by simp[rV]
 rw[hl]at h1 h4 h5;have hn:=line63;exact tail_any (typeIs_str s z t) slot_str_getitem.lookup (getItem_str (c:=c) (by
  have e1:decide (i < -(2 ^ 63:Int))=false:=decide_eq_false (by lia)
  have e2:decide (i ≥ 2 ^ 63)=false:=decide_eq_false (by lia)
  rw[e1,e2,Bool.or_false]) (by rw[h1];simpa using h2) ⟨.str ⟨#[c]⟩,H,I.tok _,⟨_,rfl⟩,q⟩) hs
theorem zjI_ (aa:List aL)(n j:Nat)(u:aL):rA (·.setIfInBounds j u) {cls:=.type "list",data:=.seq aa.toArray n}={cls:=.type "list",data:=.seq (aa.set j u).toArray n}:=by
 simp[rA]
theorem Inv.lst {pins:Pnn}{σ:St}{H:Hp}{s:kZ}{p:nc}{xs:List V}(I:Inv X pins σ H s)(h:H p=some (.lst xs)):
  ∃(aa:List aL) (n:Nat),Vals xs aa/\s.heap.get? p=some {cls:=.type "list",data:=.seq aa.toArray n}/\xs.length<=pX:=by
 obtain⟨z,aa,n,r,e⟩:=I.hok p _ h;exact⟨aa,n,r,e,z⟩
theorem Inv.lstUpd {pins:Pnn}{σ:St}{H:Hp}{s:kZ}{p:nc}{xs ys:List V}{aa its':List aL}{n n':Nat}{f:wb->wb}(I:Inv X pins σ H s)(h:H p=some (.lst xs))
  (ho:s.heap.get? p=some {cls:=.type "list",data:=.seq aa.toArray n}) (hf:f {cls:=.type "list",data:=.seq aa.toArray n}={cls:=.type "list",data:=.seq its'.toArray n'}) (r:Vals ys its') (hz:ys.length<=pX) (t:Nat):
  Inv X pins σ (upd H p (.lst ys)) {s with heap:=s.heap.update p f,toks:=t}:=by
 have e:(s.heap.update p f).get? p=some {cls:=.type "list",data:=.seq its'.toArray n'}:=by
  rw[sM f ho (by rw[hf]<;>rfl),hf]
 refine I.write (x:=p) (e:=p) (by rw[h];trivial) (.inl rfl) (λb u hb q=>(rJ _ _ (tH hb)).trans q) ⟨_,e⟩ ?_
 exact⟨hz,its',n',r,e⟩
def rSetL:V->V->V->Hp->(Hp->Prop)->Prop:=λo i v H Q=>∃p xs k j,o=.ref p/\i=.int k/\H p=some (.lst xs)/\ixN xs.length k=some j/\Q (upd H p (.lst (xs.set j v)))
theorem zob_:PSet X rSetL:=by
 intro pins s σ H o i v ov iv u Q I ro ri rv h;obtain⟨p,xs,k,j,rfl,rfl,hp,hj,q⟩:=h;cases ro;obtain⟨t,rfl⟩:=ri;obtain⟨aa,n,r,ho,hz⟩:=I.lst hp;obtain⟨h1,h2,h3,h4⟩:=zm8_ hj;have hl:=r.length;have hn:=line63;have I':Inv X pins σ (upd H p (.lst (xs.set j v))) {s with heap:=s.heap.update p (rA (·.setIfInBounds j u))}:=
  I.lstUpd hp ho (zjI_ aa n j u) (r.set rv j) (by rw[tK];exact hz) s.toks
 by_cases h0:0<=k
 ·have hk:k.toNat=j:=by
   rw[seqIndex_of h0 h4]at h1;exact qW h1
  exact W.ki_setAt ho h0 (by lia) (by rw[ng,<- hl];exact h4) (by rw[hk];exact⟨_,I',q⟩)
 ·have hk:(k+(aa.toArray.size:Int)).toNat=j:=by
   rw[seqIndex_neg (by lia) h3]at h1
   rw[ng,<- hl];exact qW h1
  exact W.ki_setBack ho (by lia) (by rw[ng,<- hl];exact h3) (by lia) (by rw[hk];exact⟨_,I',q⟩)
theorem zhp_ (lo hi:Option Int)(n:Nat):(sliceBounds lo hi none n).1=((HT.sIx n 0 lo:Nat):Int)/\(sliceBounds lo hi none n).2.1=((HT.sIx n n hi:Nat):Int)/\(sliceBounds lo hi none n).2.2=1:=by
 refine⟨?_,?_,rfl⟩
 ·cases lo with
  |none=>simp[sliceBounds,HT.sIx]
  |some i=>
   simp only[sliceBounds,HT.sIx,wL,show(1:Int) > 0 by decide,if_true]
   grind
 ·cases hi with
  |none=>simp[sliceBounds,HT.sIx]
  |some i=>
   simp only[sliceBounds,HT.sIx,wL,show(1:Int) > 0 by decide,if_true]
   grind
theorem zgI_ (aa:List aL)(lo hi:Option Int):slicePick aa.toArray lo hi none=((aa.drop (HT.sIx aa.length 0 lo)).take (HT.sIx aa.length aa.length hi-HT.sIx aa.length 0 lo)).toArray:=by
 obtain⟨h1,h2,h3⟩:=zhp_ lo hi aa.toArray.size;unfold slicePick;rw[h1,h2,h3];simp only[sliceRange_one,pick_run,ng]<;>rfl
def rSlL (K:Fgg):V->Option Int->Option Int->Hp->VK->Prop:=λx lo hi H Q=>∃a xs,x=.ref a/\SqL K H a xs/\∀p,H p=none->Q (.ref p) (upd H p (.lst (cutV xs lo hi)))
theorem zq4_:SlR X (rSlL X.K):=by
 intro pins s σ H x v vl vu lo hi sl Q I rx hs pl pu h;obtain⟨a,xs,rfl,hx,q⟩:=h;cases rx;obtain⟨aa,r,ht,hz⟩:=I.list hx;have hlen:=r.length;refine⟨"list",_,slot_list_getitem.lookup,ht.isList.typeIs,?_⟩;refine wpAny_getItem_list_slice ht.isList hs pl pu .none (by simp) ?_ (by rw[ng]<;>lia)
 rw[zgI_,<- hlen];refine⟨.ref s.heap.objs.size,_,I.laid (t':=s.toks) (o:=.lst (cutV xs lo hi)) (λb ob q=>iX _ q) (nG _) ?_,rfl,q _ (I.hok.fresh (nG _))⟩
 exact⟨qV (zfB_ xs lo hi) hz,_,0,(r.drop (HT.sIx xs.length 0 lo)).take (HT.sIx xs.length xs.length hi-HT.sIx xs.length 0 lo),p7 _ rfl⟩
def flatV:V->Bool
 |.non=>true
 |.bl _=>true
 |.int _=>true
 |.str _=>true
 |_=>false
def eqV:V->V->Bool
 |.non,.non=>true
 |.bl a,.bl b=>a == b
 |.bl a,.int b=>(if a then 1 else 0) == b
 |.int a,.bl b=>a == (if b then 1 else 0)
 |.int a,.int b=>a == b
 |.str a,.str b=>a == b
 |_,_=>false
theorem zpN_ {A:qu}{s:kZ}{y x:V}{u v:aL}(ry:RelV y u)(rx:RelV x v)(fy:flatV y=true)(fx:flatV x=true):xm A s u v (eqV y x):=by
 cases y with
 |non=>
  cases ry;cases x with
  |non=>cases rx;exact vJ _
  |bl b=>cases rx;exact SeqAt.EqAt.none_bool b
  |int b=>obtain⟨t,rfl⟩:=rx;exact SeqAt.EqAt.none_int b t
  |str b=>obtain⟨t,rfl⟩:=rx;exact SeqAt.EqAt.none_str b t
  |_=>exact absurd (show false=true from fx) qr
 |bl a=>
  cases ry;cases x with
  |non=>cases rx;exact SeqAt.EqAt.bool_none a
  |bl b=>cases rx;exact SeqAt.EqAt.bool_bool a b
  |int b=>obtain⟨t,rfl⟩:=rx;exact SeqAt.EqAt.bool_int a b t
  |str b=>obtain⟨t,rfl⟩:=rx;exact SeqAt.EqAt.bool_str a b t
  |_=>exact absurd (show false=true from fx) qr
 |int a=>
  obtain⟨t',rfl⟩:=ry;cases x with
  |non=>cases rx;exact SeqAt.EqAt.int_none a t'
  |bl b=>cases rx;exact SeqAt.EqAt.int_bool a t' b
  |int b=>obtain⟨t,rfl⟩:=rx;exact SeqAt.EqAt.int_int a t' b t
  |str b=>obtain⟨t,rfl⟩:=rx;exact wc a t' b t
  |_=>exact absurd (show false=true from fx) qr
 |str a=>
  obtain⟨t',rfl⟩:=ry;cases x with
  |non=>cases rx;exact SeqAt.EqAt.str_none a t'
  |bl b=>cases rx;exact SeqAt.EqAt.str_bool a t' b
  |int b=>obtain⟨t,rfl⟩:=rx;exact we a t' b t
  |str b=>obtain⟨t,rfl⟩:=rx;exact SeqAt.EqAt.str_str a t' b t
  |_=>exact absurd (show false=true from fx) qr
 |_=>exact absurd (show false=true from fy) qr
def eqU (x:V)(u:aL):Bool:=match u with
 |.none=>eqV .non x
 |.bool b=>eqV (.bl b) x
 |.int i _=>eqV (.int i) x
 |.str z _=>eqV (.str z) x
 |_=>false
theorem zqV_ {x y:V}{u:aL}(r:RelV y u)(f:flatV y=true):eqU x u=eqV y x:=by
 cases y with
 |non=>cases r;rfl
 |bl b=>cases r;rfl
 |int i=>obtain⟨t,rfl⟩:=r;rfl
 |str z=>obtain⟨t,rfl⟩:=r;rfl
 |_=>exact absurd (show false=true from f) qr
theorem zgR_ {x:V}:∀{xs:List V}{us:List aL},Vals xs us->xs.all flatV=true->us.any (eqU x)=xs.any λy=>eqV y x
 |_,_,.nil,_=>rfl
 |y::xs,u::us,.cons r t,f=>by
  rw[rL,qj]at f;rw[sC,sC,zqV_ r f.1,zgR_ t f.2]
theorem zeT_ {A:qu}{s:kZ}{x:V}{v:aL}(rx:RelV x v)(fx:flatV x=true):∀{xs:List V}{us:List aL},Vals xs us->xs.all flatV=true->∀u∈us,xm A s u v (eqU x u)
 |_,_,.nil,_=>λu hu=>by cases hu
 |y::xs,u::us,.cons r t,f=>λu' hu=>by
  rw[rL,qj]at f;rcases qf.mp hu with rfl |hu
  ·rw[zqV_ r f.1];exact zpN_ r rx f.1 fx
  ·exact zeT_ rx fx t f.2 u' hu
def inV (x:V)(xs:List V):Bool:=xs.any λy=>eqV y x
def rIn (K:Fgg)(neg:Bool):R2:=λx y H Q=>∃p xs,y=.ref p/\(SqL K H p xs\/SqT K H p xs)/\flatV x=true/\xs.all flatV=true/\Q (.bl (if neg then !inV x xs else inV x xs)) H
theorem zmf_:OpR X (qB .In) (rIn X.K false):=by
 intro pins s σ H x y v u Q I rx ry h;obtain⟨p,xs,rfl,hq,fx,fs,q⟩:=h;cases ry;rcases hq with hq |hq
 ·obtain⟨aa,r,pl,hz⟩:=I.list hq
  refine SeqAt.in_listAt (eqU x) pl.isList (λw hw=>zeT_ rx fx r fs w (by simpa using hw)) ⟨.bl _,H,I,rfl,?_⟩
  rw[show aa.toArray.any (eqU x)=aa.any (eqU x) by simp,zgR_ r fs]
  exact q
 ·obtain⟨aa,r,pl,hz⟩:=I.tuple hq
  refine SeqAt.in_tupleAt (eqU x) pl (λw hw=>zeT_ rx fx r fs w (by simpa using hw)) ⟨.bl _,H,I,rfl,?_⟩
  rw[show aa.toArray.any (eqU x)=aa.any (eqU x) by simp,zgR_ r fs]
  exact q
theorem zhT_:OpR X (qB .NotIn) (rIn X.K true):=by
 intro pins s σ H x y v u Q I rx ry h;obtain⟨p,xs,rfl,hq,fx,fs,q⟩:=h;cases ry;rcases hq with hq |hq
 ·obtain⟨aa,r,pl,hz⟩:=I.list hq
  refine SeqAt.notIn_listAt (eqU x) pl.isList (λw hw=>zeT_ rx fx r fs w (by simpa using hw)) ⟨.bl _,H,I,rfl,?_⟩
  rw[show aa.toArray.any (eqU x)=aa.any (eqU x) by simp,zgR_ r fs]
  exact q
 ·obtain⟨aa,r,pl,hz⟩:=I.tuple hq
  refine SeqAt.notIn_tupleAt (eqU x) pl (λw hw=>zeT_ rx fx r fs w (by simpa using hw)) ⟨.bl _,H,I,rfl,?_⟩
  rw[show aa.toArray.any (eqU x)=aa.any (eqU x) by simp,zgR_ r fs]
  exact q
theorem zh0_:CallR X (.builtin "len") (λxs H Q=>∃p ys,xs=[.ref p]/\(SqL X.K H p ys\/SqT X.K H p ys)/\Q (.int ys.length) H):=by
 intro pins s σ H xs us Q I r h;obtain⟨p,ys,rfl,hq,q⟩:=h;obtain⟨u,rfl,rx⟩:=vals1 r;cases rx;have hn:=line63;rcases hq with hq |hq
 ·obtain⟨aa,r',pl,hz⟩:=I.list hq
  have hlen:=r'.length;exact Calls.call_len_list pl.isList (by simp only[ng]<;>lia) ⟨.int ys.length,H,I.tok _,⟨s.toks+1,by rw[ng,hlen]⟩,q⟩
 ·obtain⟨aa,r',pl,hz⟩:=I.tuple hq
  have hlen:=r'.length;exact len_tuple pl (by simp only[ng]<;>lia) ⟨.int ys.length,H,I.tok _,⟨s.toks+1,by rw[ng,hlen]⟩,q⟩
theorem zhD_:CallR X (.builtin "len") (λxs H Q=>∃z,xs=[.str z]/\z.length<=pX/\Q (.int z.length) H):=by
 intro pins s σ H xs us Q I r h;obtain⟨z,rfl,hz,q⟩:=h;obtain⟨u,rfl,t,rfl⟩:=vals1 r;have hn:=line63;exact len_str (by lia) ⟨.int z.length,H,I.tok _,⟨_,rfl⟩,q⟩
theorem zhF_:CallR X (.type "list") (λxs H Q=>∃p ys,xs=[.ref p]/\(SqL X.K H p ys\/SqT X.K H p ys)/\∀l,H l=none->Q (.ref l) (upd H l (.lst ys))):=by
 intro pins s σ H xs us Q I r h;obtain⟨p,ys,rfl,hq,q⟩:=h;obtain⟨u,rfl,rx⟩:=vals1 r;cases rx
 have fin:∀(aa:List aL),Vals ys aa->ys.length<=pX->∀(h':Heap) (c':Nat),(∀b o',s.heap.get? b=some o'->h'.get? b=some o') ->
   h'.get? s.heap.objs.size=some {cls:=.type "list",dict:=none,data:=.seq aa.toArray c',slots:=#[]}->EP X pins σ Q (.ref s.heap.objs.size) {s with heap:=h'}:=λaa r' hz h' c' kp e=>
  ⟨.ref s.heap.objs.size,_,I.laid (t':=s.toks) kp (nG _) (show ObjOk X.prog X.w _ h' _ (.lst ys)from⟨hz,aa,c',r',e⟩),rfl,q _ (I.hok.fresh (nG _))⟩
 rcases hq with hq |hq
 ·obtain⟨aa,r',pl,hz⟩:=I.list hq
  have hlen:=r'.length;obtain⟨o,ho,hc,n,hd⟩:=pl.isList;exact call_list_seq p (.inl rfl) ho hc hd (λh' c' kp e=>fin aa r' hz h' c' kp e) (by simp only[ng]<;>lia)
 ·obtain⟨aa,r',pl,hz⟩:=I.tuple hq
  have hlen:=r'.length;obtain⟨o,ho,hc,n,hd⟩:=pl;exact call_list_seq p (.inr rfl) ho hc hd (λh' c' kp e=>fin aa r' hz h' c' kp e) (by simp only[ng]<;>lia)
def tyV (K:Fgg)(T:String)(x:V)(H:Hp):Prop:=match x with
 |.str _=>T="str"
 |.int _=>T="int"
 | .ref p=>(T="list" /\ ∃xs,SqL K H p xs)\/(T="tuple" /\ ∃o,K.lookup p=some o/\o.cls=.type "tuple" /\ o.dict=none) \/
   (T="dict" /\ ((∃kvs,H p=some (.dK kvs))\/∃kvs,H p=some (.dT kvs)))\/(T="set" /\ ∃S n,H p=some (.set S n))
 |_=>False
theorem zs0_ {pins:Pnn}{σ:St}{H:Hp}{s:kZ}{T:String}{x:V}{v:aL}(I:Inv X pins σ H s)(r:RelV x v)(ty:tyV X.K T x H):
  s.TypeIs v T/\∀a,v=.ref a->∃ob,s.heap.get? a=some ob/\ob.dict=none:=by
 cases x with
 |str z=>
  obtain⟨t,rfl⟩:=r;cases(show T="str" from ty)
  exact⟨typeIs_str s z t,λ_ e=>nomatch e⟩
 |int i=>
  obtain⟨t,rfl⟩:=r;cases(show T="int" from ty)
  exact⟨typeIs_int s i t,λ_ e=>nomatch e⟩
 |ref p=>
  cases r;rcases ty with⟨rfl,xs,hq⟩|⟨rfl,o,hk,hc,hd⟩|⟨rfl,hk⟩|⟨rfl,S,n,hk⟩
  ·obtain⟨aa,_,pl,_⟩:=I.list hq
   refine⟨pl.isList.typeIs,λa e=>?_⟩
   cases e;obtain⟨o,n,e,c,hd,_⟩:=pl;exact⟨o,e,hd⟩
  ·refine⟨⟨o,I.kIn p o hk,hc⟩,λa e=>?_⟩
   cases e;exact⟨o,I.kIn _ o hk,hd⟩
  ·have z:∃o,s.heap.get? p=some o/\o.ExactDict:=by
    rcases hk with⟨kvs,hk⟩|⟨kvs,hk⟩
    ·obtain⟨_,_,_,_,o,_,_,e,ex,_⟩:=I.hok p _ hk
     exact⟨o,e,ex⟩
    ·obtain⟨_,_,_,_,o,_,_,e,ex,_⟩:=I.hok p _ hk
     exact⟨o,e,ex⟩
   obtain⟨o,e,ex⟩:=z;refine⟨⟨o,e,ex.1⟩,λa e2=>?_⟩
   cases e2;exact⟨o,e,ex.2.1⟩
  ·obtain⟨o,_,_,_,e,ex,_⟩:=I.hok p _ hk
   refine⟨⟨o,e,ex.1⟩,λa e2=>?_⟩
   cases e2;exact⟨o,e,ex.2.1⟩
 |_=>exact qk ty
def tBM (K:Fgg)(T:String)(r:V->List V->Hp->VK->Prop)(to:TE)(t:TA):TE:=λσ H Q=>to σ H λx H1=>tyV K T x H1/\t σ H1 λxs H2=>r x xs H2 Q
variable {o e:qF}{es:List qF}{to:TE}{t:TA}{name:Str}{apos ao:Pos}{T id:String}{r:V->List V->Hp->VK->Prop}
theorem ztx_ (pa:PlainAttrs T)(slot:Slot T name id)(jE:typeOf (.builtin id)=pure (.type "method_descriptor"))(hm:MtR X id r)(ho:PE X o to)(ha:PA X (e::es) t)
  (gX:attributeBase o name X.env (eval o X.env)=eval o X.env:=by rfl)
  (jV:((sh ao (qg (e::es) X.env)).all (λx=>!x.1) && (xn ao (vP [] X.env)).all (λx=>x.1.isSome)
   && decide ((e::es).length+([]:List Keyword).length+(if([]:List Keyword).isEmpty then 0 else 1)<30))=true:=by rfl)
  (gK:(apos.endLine == ao.line)=true:=by rfl) (hs:qg (e::es) X.env=(false,eval e X.env)::qg es X.env:=by rfl) (fj:(sh ao (qg es X.env)).any (·.1)=false:=by rfl):
  PE X (.Call (.Attribute o name apos) (e::es) [] ao) (tBM X.K T r to t):=by
 intro pins s σ H Q I h;refine wpAny_Call_method_late gX jV gK rfl (thn (ho pins s σ H _ I h) λv s1 af=>?_)
 obtain⟨x,H1,I1,r1,ty,q1⟩:=af;obtain⟨h1,h2⟩:=zs0_ I1 r1 ty;refine⟨T,id,pa,slot,jE,h1,h2,?_⟩;have hA:=ha ao pins s1 σ H1 _ I1 q1;rw[hs]at hA ⊢;refine Calls.callWith_builtin (by show(false ||(sh ao (qg es X.env)).any (·.1))=false;rw[fj]<;>rfl) (Calls.evalArgs_plain ?_)
 exact thn hA λus s2 ⟨vs,H2,I2,r2,q2⟩=>hm pins s2 σ H2 x vs v us Q I2 r1 r2 q2
end
def MtM (X:Cx)(id:String)(r:V->List V->Hp->VK->Prop):Prop:=
 ∀(pins:Pnn) (s:kZ) (σ:St) (H:Hp) (x:V) (xs:List V) (v:aL) (us:List aL) (Q:VK),Inv X pins σ H s->RelV x v->Vals xs us->r x xs H Q ->
  nI (model X.prog X.w) X.A (call (.builtin id) (v::us)) (EP X pins σ Q) X.xe s
theorem Vals.one:∀{x:V}{us:List aL},Vals [x] us->∃u,us=[u]/\RelV x u
 |_,_,.cons r .nil=>⟨_,rfl,r⟩
theorem Vals.dropLast {xs:List V}{us:List aL}(h:Vals xs us):Vals xs.dropLast us.dropLast:=by
 induction h with
 |nil=>exact .nil
 |cons r t ih=>
  cases t with
  |nil=>exact .nil
  |cons q t'=>exact .cons r ih
theorem Vals.rep {xs:List V}{us:List aL}(h:Vals xs us):∀k:Nat,Vals (nE k xs).flatten (nE k us).flatten
 |0=>.nil
 |k+1=>by
  rw[rY,rY,si,si];exact Vals.append h (Vals.rep h k)
theorem zqL_ {α:Type}(l:List α):l.eraseIdx (l.length-1)=l.dropLast:=by
 grind
theorem zim_ (aa:List aL):∀(k:Nat) (acc:List aL),
  vF (λx1 x2=>x1++x2) acc.toArray (nE k aa.toArray)=(acc++(nE k aa).flatten).toArray
 |0,acc=>by simp
 |k+1,acc=>by
  have e:acc.toArray++aa.toArray=(acc++aa).toArray:=by simp
  have e2:(acc++aa)++(nE k aa).flatten=acc++(nE (k+1) aa).flatten:=by
   rw[rY,si,rW]
  rw[<- e2,<- zim_ aa k (acc++aa),<- e,rY,uS]
section
variable {X:Cx}{pins:Pnn}{σ:St}{H:Hp}{s:kZ}{l:nc}{xs ys:List V}
theorem Inv.lset {aa its':List aL}{n:Nat}{f:Array aL->Array aL}{t':Nat}(I:Inv X pins σ H s)(hH:H l=some (.lst xs))
  (e:s.heap.get? l=some {cls:=.type "list",data:=.seq aa.toArray n}) (hf:f aa.toArray=its'.toArray) (hv:Vals ys its') (hz:ys.length<=pX):
  Inv X pins σ (upd H l (.lst ys)) {s with heap:=s.heap.update l (rA f),toks:=t'}:=by
 have q:=PySem.IsL.update e f;rw[hf]at q;refine I.write (x:=l) (e:=l) (by rw[hH];exact trivial) (.inl rfl) (λb' u hb hu=>(rJ s.heap (rA f) (tH hb)).trans hu) ⟨_,q⟩ ?_
 exact⟨hz,its',_,hv,q⟩
theorem Inv.lnew {aa:List aL}{t':Nat}(I:Inv X pins σ H s)(hv:Vals ys aa)(hz:ys.length<=pX):
  Inv X pins σ (upd H s.heap.objs.size (.lst ys)) {s with heap:=s.heap.push {cls:=.type "list",data:=.seq aa.toArray},toks:=t'}:=
 I.laid (λ_ _ q=>iX _ q) (nG _) ⟨hz,aa,0,hv,p7 _ rfl⟩
theorem Inv.fresh (I:Inv X pins σ H s):H s.heap.objs.size=none:=I.hok.fresh (nG _)
theorem Inv.lstM (I:Inv X pins σ H s)(hH:H l=some (.lst xs)):xs.length<=pX/\∃(aa:List aL) (n:Nat),Vals xs aa/\xs.length=aa.length/\s.heap.get? l=some {cls:=.type "list",data:=.seq aa.toArray n}:=by
 obtain⟨z,aa,n,r,e⟩:=I.hok l _ hH;exact⟨z,aa,n,r,r.length,e⟩
theorem notLongL {n:Nat}(h:n<=pX):tq n=false:=by
 unfold tq;exact decide_eq_false (by lia)
end
section
variable {X:Cx}
def rAppend:V->List V->Hp->VK->Prop:=λx vs H Q=>∃l xs y,x=.ref l/\vs=[y]/\H l=some (.lst xs)/\xs.length<pX/\Q .non (upd H l (.lst (xs++[y])))
theorem zix_:MtM X "list.append" rAppend:=by
 intro pins s σ H x vs v us Q I rx rv h;obtain⟨l,xs,y,rfl,rfl,hH,hz,q⟩:=h;cases rx;obtain⟨u,rfl,ru⟩:=rv.one;obtain⟨z,aa,n,r,hl,e⟩:=I.lstM hH;refine call_meets F.slot_list_append ⟨_,e,rfl⟩ F.entry_list_append (F.args_list_append_2 _ _) (PySem.list_append l aa.toArray n u (by rw[ng];lia)) ⟨e,?_⟩
 refine⟨.non,_,I.lset (its':=aa++[u]) hH e (by simp) (r.append (.cons ru .nil)) ?_,rfl,q⟩
 rw[nA,qE];lia
def rExtend:V->List V->Hp->VK->Prop:=λx vs H Q=>∃l b xs zs,x=.ref l/\vs=[.ref b]/\H l=some (.lst xs)/\H b=some (.lst zs)/\xs.length+zs.length<=pX/\Q .non (upd H l (.lst (xs++zs)))
theorem zlF_:MtM X "list.extend" rExtend:=by
 intro pins s σ H x vs v us Q I rx rv h;obtain⟨l,b,xs,zs,rfl,rfl,hH,hB,hz,q⟩:=h;cases rx;obtain⟨u,rfl,ru⟩:=rv.one;cases ru;obtain⟨z,aa,n,r,hl,e⟩:=I.lstM hH;obtain⟨z2,au,n2,r2,dX,e2⟩:=I.lstM hB;have hsz:aa.toArray.size+au.toArray.size<=pX:=by rw[ng,ng];lia
 have cM:¬(!aa.toArray.isEmpty && tq (aa.toArray.size+au.toArray.size))=true:=by
  rw[notLongL hsz,ve];exact qr
 refine call_meets F.slot_list_extend ⟨_,e,rfl⟩ F.entry_list_extend (F.args_list_extend_2 _ _)
  (AutoSeq1.list_extend_list_list_0 l aa.toArray n b au.toArray n2 cM (by rw[ng];lia) (by lia)) ⟨e,e2,?_⟩
 refine⟨.non,_,I.lset (its':=aa++au) hH e (by simp) (r.append r2) ?_,rfl,q⟩
 rw[nA];lia
def rCat:R2:=λx y H Q=>∃l b xs zs,x=.ref l/\y=.ref b/\H l=some (.lst xs)/\H b=some (.lst zs)/\xs.length+zs.length<=pX/\∀p,H p=none->Q (.ref p) (upd H p (.lst (xs++zs)))
theorem zsr_:OpR X (sq .Add) rCat:=by
 intro pins s σ H x y v u Q I rx ry h;obtain⟨l,b,xs,zs,rfl,rfl,hH,hB,hz,q⟩:=h;cases rx;cases ry;obtain⟨z,aa,n,r,hl,e⟩:=I.lstM hH;obtain⟨z2,au,n2,r2,dX,e2⟩:=I.lstM hB;refine PySem.P.add_list e e2 ?_ (by rw[ng,ng];lia)
 have ea:aa.toArray++au.toArray=(aa++au).toArray:=by simp
 rw[ea];exact⟨.ref _,_,I.lnew (t':=s.toks) (r.append r2) (by rw[nA];lia),rfl,q _ I.fresh⟩
def rRep:R2:=λx y H Q=>∃l k xs,x=.ref l/\y=.int k/\H l=some (.lst xs) /\ -(2 ^ 63)<=k/\k<2 ^ 63/\xs.length*k.toNat<=pX /\
 ∀p,H p=none->Q (.ref p) (upd H p (.lst (nE k.toNat xs).flatten))
theorem zmz_ {α:Type}(xs:List α)(k:Nat):(nE k xs).flatten.length=k*xs.length:=by
 induction k with
 |zero=>simp
 |succ k ih=>rw[rY,si,nA,ih,Nat.succ_mul,Nat.add_comm]
theorem zsB_:OpR X (sq .Mult) rRep:=by
 intro pins s σ H x y v u Q I rx ry h;obtain⟨l,k,xs,rfl,rfl,hH,h1,h2,hz,q⟩:=h;cases rx;obtain⟨t,rfl⟩:=ry;obtain⟨z,aa,n,r,hl,e⟩:=I.lstM hH;have hlen:aa.toArray.size*k.toNat<=pX:=by rw[ng,<- hl];exact hz
 have j5:¬aa.toArray.size*k.toNat > (2 ^ 63-1) / 8:=by
  have:(pX:Nat)<=(2 ^ 63-1) / 8:=by decide
  lia
 have jU:¬(!Builtin.List.listFitsIndex k)=true:=by
  rw[fitsIndex_both h1 h2];exact qr
 have cM:¬tq (aa.toArray.size*k.toNat)=true:=by
  rw[notLongL hlen];exact qr
 have jL:vF (λx1 x2=>x1++x2) #[] (nE (if aa.toArray.isEmpty=true then 0 else k.toNat) aa.toArray)=(nE k.toNat aa).flatten.toArray:=by
  have f0:∀m:Nat,vF (λx1 x2=>x1++x2) #[] (nE m aa.toArray)=(nE m aa).flatten.toArray:=λm=>by
   have:=zim_ aa m [];rw[qA]at this;exact this
  rw[f0];cases aa with
  |nil=>simp
  |cons a r'=>rw[if_neg (by simp)]
 refine wpAny_binaryOp_repeat_ref (T:="list") (U:="int") (by decide) ⟨_,e,rfl⟩ (λs'=>typeIs_int s' k t) noFill_list_mul F.fills_int_mul xb repeat_list F.slot_int_index.lookup
  (call_meets xb (typeIs_int s k t) F.entry_int_rmul (F.args_int_rmul_2 _ _) (int___rmul___int_list k t l aa.toArray n)
   ⟨e,rfl,⟨_,e,rfl⟩,call_meets F.slot_list_mul ⟨_,e,rfl⟩ F.entry_list_mul (F.args_list_mul_2 _ _) (AutoListH.list___mul___list_int_3 l aa.toArray n k t jU j5 cM) ⟨e,?_⟩⟩)
 rw[jL];exact⟨.ref _,_,I.lnew (t':=s.toks) (r.rep k.toNat) (by rw[zmz_,yj];exact hz),rfl,q _ I.fresh⟩
end
end L2
namespace Att
open PySem PySem.W PySem.Calls PyProof.Rows
theorem ze9_ {P:Params}{h:Heap}:∀(ns:List Int) (vs:List aL),WellAll P h vs (ns.map WData.int)->IntsAre vs ns:=by
 intro ns;induction ns with
 |nil=>
  intro vs w;rw[uZ]at w;cases w;exact .nil
 |cons n ns ih=>
  intro vs w;rw[qv]at w;cases w with
  |cons a b=>
   cases a;exact .cons _ _ (ih _ b)
theorem zlY_ {l:OpenLaw}{n:Nat}(hn:l.most=some n){P:Params}{h:Heap}{args:List WData}{vals:List aL}
  (dF:l.row.toRowW.claim.pre args=true) (jB:WellAll P h vals args):
  ∃a vs ns,vals=[qq a]/\args=[WData.list (ns.map WData.int)]/\h.get? a=some {cls:=.type "list",data:=.seq vs.toArray}/\IntsAre vs ns/\ns.length<=n:=by
 have oG:WShape.hasAll [] args [.list .int]=true:=(pre_splitW dF).1;have hc:l.pre.holds [] {args:=args}=true:=(pre_splitW dF).2;obtain⟨d,r,rfl,h1,h2⟩:=hasAllW_cons oG;obtain rfl:=hasAllW_nil h2;obtain⟨xs,rfl,h3⟩:=hasW_list h1;obtain⟨ns,rfl⟩:=items_int h3;have hlen:ns.length<=n:=by
  unfold OpenLaw.pre at hc;have h4:(WTm.not (.lt (.lit (.int (n:Int))) (.len (.arg 0)))).holds [] {args:=[.list (ns.map .int)]}=true:=by
   have h4:=(holds_andW hc).1;rw[hn]at h4;exact h4
  have h5:=condW_of h4 (w_not (w_lt w_lit (w_len_list (w_arg rfl))));grind
 cases jB with
 |cons w1 w2=>
  cases w2;cases w1 with
  |list ho az=>exact⟨_,_,ns,rfl,rfl,ho,ze9_ ns _ az,hlen⟩
theorem zma_ (l:OpenLaw)(args:List WData):l.row.toRowW.claim.post args (.bool true) args=true:=
 postW_of (r:=l.row.toRowW) (X:=(true == true))
  (show WShape.has [] (.bool true) .bool=true by first |rfl |decide |simp[WShape.has,WShape.arms,WShape.armsAll])
  (show(WTm.eq .res (.lit (.bool true))).value [] {args:=args,res:=some (.bool true),after:=args}=some (.bool (true == true))from w_eq_bool (w_res rfl) w_lit) rfl
section
end
end Att
namespace L2
open PySem PySem.Spec PyProof.Rows
theorem zia_:∀{vs:List aL}{ns:List Int},IntsAre vs ns->Vals (ns.map V.int) vs
 |_,_,.nil=>.nil
 |_,_,.cons n t h=>.cons ⟨t,rfl⟩ (zia_ h)
def Only (H:Hp):Prop:=∀b,H b=none\/∃o xs,H b=some (.frz o (.lst xs))
theorem znW_ {P:m7}{w:nL}{K:Fgg}{mg mb:Str->Option aL}{CX:CXT}{k:Nat}{fa a:nc}{fd:rm}{x:Str}{sp:Sp}{ag:kZ}{vs:List aL}{ns:List Int}
  (KX:K.In ag.heap) (dW:ag.heap.Ns qm mg) (hb:ag.heap.Ns builtinsNs mb) (o7:∀x:Str,x ≠ "__name__" -> mb x=sT x) (jO:ag.heap.NoLimit) (hg:ag.gens=#[])
  (ha:ag.heap.get? a=some {cls:=.type "list",data:=.seq vs.toArray}) (hi:IntsAre vs ns) (hl:ns.length<=pX) (hr:Room k callerA)
  (F:∀base:Heap,K.In base->base.Ns qm mg->FnOk P w K mg base CX k fa fd [x] sp) (gW:∀(s:kZ) (u:aL),BindsTo s fd ⟨[u],[]⟩ [(x,u)])
  (bI:∀H:Hp,Only H->SqL K H a (ns.map V.int)->sp [.ref a] H (λv _=>v=.bl true) λ_ _ _=>False)
  (j_:∀H e s',CX [] H ag (λ_ _ _=>False) e s'->False):
  codeAny (model P w) callerA (.call (.ref fa) ⟨[.ref a],[]⟩) (λr s'=>r=.ok (.ret (.bool true))/\OldK ag.heap s'.heap/\s'.os=ag.os/\AllBare s'.gens) ag:=by
 have rv:=zia_ hi;have jw:=hi.length
 have core:∀H:Hp,Only H->SqL K H a (ns.map V.int)->HOk P w H ag.heap->(∀b,H b≠none->b=a)->(H a≠none->K.lookup a=none) ->
   codeAny (model P w) callerA (.call (.ref fa) ⟨[.ref a],[]⟩) (λr s'=>r=.ok (.ret (.bool true))/\OldK ag.heap s'.heap/\s'.os=ag.os/\AllBare s'.gens) ag:=by
  intro H hO hS hok hA hK;have bW:∀{b:nc}{o:wb},ag.heap.get? b=some o->H b=none->(hidT ag.heap H).get? b=some o:=λe n=>zoS_ e n
  have gm:∀{b:nc}{o:wb}{es:Array DictEntry}{ep:Nat},ag.heap.get? b=some o->o.data=.dict es ep->H b=none:=λ{b o es ep} e d=>by
   cases q:H b with
   |none=>rfl
   |some u=>
    have e':b=a:=hA b (by rw[q];simp)
    subst e';rw[ha]at e;cases e;have d':Data.seq vs.toArray _=Data.dict es ep:=d;cases d'
  have ir:∀{b:nc}{m:Str->Option aL},ag.heap.Ns b m->(hidT ag.heap H).Ns b m:=λ{b m} ⟨o,es,ep,e,d,r⟩=>⟨o,es,ep,bW e (gm e d),d,r⟩
  have mz:K.In (hidT ag.heap H):=λb o e=>bW (KX b o e) (by
   grind)
  have hM:Mod K mg (hidT ag.heap H):=⟨mz,ir dW,⟨mb,ir hb,o7⟩,let⟨mc,h1,h2⟩:=jO;⟨mc,ir h1,h2⟩⟩
  have e0:Env0 P w K mg (hidT ag.heap H) callerA [] ag H:=⟨rfl,hM,λb o e=>zqy_ e,wz (zlO_ _ _),trivial,λb hb=>absurd (show b∈([]:List nc)from hb) (by simp),hok,.of_eq hg⟩
  refine codeAny_mono ((F _ mz (ir dW)).run callerA [] ag H ⟨[.ref a],[]⟩ [.ref a] [.ref a] _ _ hr e0 (gW ag (.ref a)) (.cons rfl .nil) (bI H hO hS)) λr s' h=>?_
  cases r with
  |error e=>exact(j_ H e s' h).elim
  |ok fl=>
   cases fl with
   |next=>exact qk h
   |brk=>exact qk h
   |cont=>exact qk h
   |ret u=>
    obtain⟨v,H',os,bare,un,hok',r',q⟩:=h;have q':v=.bl true:=q;subst q';obtain rfl:u=tP true:=r';refine⟨rfl,OldK.of_keep λb o e=>?_,os,bare⟩
    cases q:H b with
    |none=>exact un.keep b o e q (by intro z;exact absurd (show b∈([]:List nc)from z) (by simp)) (by simp)
    |some u=>
     rcases hO b with z |⟨ob,xs,z⟩
     ·rw[q]at z;cases z
     ·have z2:=un.frzs b ob _ z
      obtain⟨e1,_⟩:=hok b _ z;obtain⟨e2,_⟩:=hok' b _ z2;rw[e]at e1;cases e1;exact e2
 cases hk:K.lookup a with
 |some o=>
  have e:=KX a o hk;rw[ha]at e;cases e;refine core (λ_=>none) (λ_=>.inl rfl) (.inr ⟨_,vs.toArray,_,hk,rfl,rfl,rfl,by rw[ng,jw];exact hl,by simpa using rv⟩) (λb u z=>by have z':(none:Option HO)=some u:=z;cases z') (λb z=>absurd rfl z) λz=>absurd rfl z
 |none=>
  refine core (λb=>if b=a then some (.frz {cls:=.type "list",data:=.seq vs.toArray} (.lst (ns.map V.int)))else none) (λb=>?_) (.inl (.inr ⟨{cls:=.type "list",data:=.seq vs.toArray},if_pos rfl⟩)) (λb u z=>?_) (λb z=>?_) λ_=>hk
  ·grind
  ·by_cases hb:b=a
   ·have z':=(if_pos hb).symm.trans z
    cases z';subst hb;exact⟨ha,by rw[l6];exact hl,vs,_,rv,ha⟩
   ·have z':=(if_neg hb).symm.trans z
    cases z'
  ·by_cases hb:b=a
   ·exact hb
   ·exact absurd (if_neg hb) z
def inClass (s:qL)(j:Nat):qL:=match s with
 |.ClassDef _ _ _ body _ _ _ _ _ _ _=>body.getD j (.Pass ⟨0,0,0,0⟩)
 |_=>.Pass ⟨0,0,0,0⟩
def defArgs (s:qL):Arguments:=match s with
 |.FunctionDef _ a _ _ _ _ _ _ _ _=>a
 |_=>{posonlyargs:=[],args:=[],vararg:=none,kwonlyargs:=[],kw_defaults:=[],kwarg:=none,defaults:=[]}
def defBody (s:qL):List qL:=match s with
 |.FunctionDef _ _ b _ _ _ _ _ _ _=>b
 |_=>[]
def defScope (s:qL):Scope:=match s with
 |.FunctionDef _ _ _ _ _ _ sc _ _ _=>sc
 |_=>{kind:=.function,names:=[],isGenerator:=false,isCoroutine:=false}
abbrev CX0:CXT:=λ_ _ _ _ _ _=>False
abbrev E0:XK:=λ_ _ _=>False
theorem pass0 {X:Cx}:Passes CX0 X E0:=λ_ _ _ _ _ _ _ h=>h.elim
structure Fun (K:Fgg)(x qual:Str)(st:qL)(f:nc)(fd:rm):Prop where
 ex:∃(oc:aL) (od:Option nc) (kV doc pm:aL) (an:Option nc) (ah ct:aL) (aw:Array (Option aL)),
  fd=tX x qual (defArgs st) (defBody st) (defScope st) .none kV doc pm an ah ct/\K.lookup f=some ⟨oc,od,.func fd,aw⟩/\uO K ah qual=true
 kp:sH K (.ref f)=true
section
variable {P:m7}{w:nL}{K:Fgg}{mg:Str->Option aL}{base:Heap}
theorem Fun.ok {x qual:Str}{st:qL}{f:nc}{fd:rm}{N ps:List Str}{k:Nat}{sp:Sp}(F:Fun K x qual st f fd)(S:FnScope N ps (defScope st))(len:∀vs H Q E,sp vs H Q E->vs.length=ps.length)
  (aG:∀(ah:aL) (A:qu) (outer:List Env) (s:kZ) (H:Hp) (vs:List V) (Q:VK) (E:XK),Room k (A.deeper (envOfC qual (defScope st) s.heap.objs.size f ah))->sp vs H Q E ->
   ∃t,PSs (cxOf CX0 P w K mg base N qual (defScope st) f ah A outer s H E).nox (defBody st) t/\t {nx:=λ_ H'=>Q .non H',rt:=Q} (start N vs) H):FnOk P w K mg base CX0 (k+1) f fd ps sp:=by
 obtain⟨oc,od,kV,doc,pm,an,ah,ct,aw,rfl,lk,bB⟩:=F.ex;refine zse_ lk bB S len λA outer s H vs Q E hr bI=>?_
 obtain⟨t,h,q⟩:=aG ah A outer s H vs Q E hr bI;exact⟨t,h.nox,q⟩
theorem Fun.binds {x qual:Str}{st:qL}{f:nc}{fd:rm}{ps:List Str}(F:Fun K x qual st f fd)
  (h:∀(kV doc pm:aL) (an:Option nc) (ah ct:aL) (us:List aL),us.length=ps.length->bindArgs (tX x qual (defArgs st) (defBody st) (defScope st) .none kV doc pm an ah ct) ⟨us,[]⟩=pure (ps.zip us)):Binds K fd ps []:=by
 obtain⟨oc,od,kV,doc,pm,an,ah,ct,aw,rfl,lk,bB⟩:=F.ex;exact .all (h kV doc pm an ah ct)
theorem zpH_ {x qual:Str}{st:qL}{f:nc}{oc:aL}{od an:Option nc}{aw:Array (Option aL)}{kV doc pm ah ct:aL}(l:K.lookup f=some ⟨oc,od,.func (tX x qual (defArgs st) (defBody st) (defScope st) .none kV doc pm an ah ct),aw⟩)
  (c:uO K ah qual=true) (k:sH K (.ref f)=true):Fun K x qual st f (tX x qual (defArgs st) (defBody st) (defScope st) .none kV doc pm an ah ct):=⟨⟨oc,od,kV,doc,pm,an,ah,ct,aw,rfl,l,c⟩,k⟩
end
def Same (H H':Hp):Prop:=∀b o,H b=some o->H' b=some o
theorem Same.refl (H:Hp):Same H H:=λ_ _ h=>h
theorem Same.trans {H H1 H2:Hp}(a:Same H H1)(b:Same H1 H2):Same H H2:=λc o h=>b c o (a c o h)
theorem Same.free {H H':Hp}(e:Same H H'){l:nc}(h:H' l=yw):H l=yw:=by
 cases q:H l with
 |none=>rfl
 |some o=>
  rw[e l o q]at h;cases h
theorem Same.seq {K:Fgg}{H H':Hp}{a:nc}{xs:List V}(e:Same H H')(h:SqL K H a xs):SqL K H' a xs:=by
 rcases h with(h |⟨o,h⟩)|h
 ·exact .inl (.inl (e _ _ h))
 ·exact .inl (.inr ⟨o,e _ _ h⟩)
 ·exact .inr h
def Itp (n:Nat)(f:Nat->V):It:=⟨λi _=>i<n,λi H x H'=>H'=H/\x=f i,λi _=>n<=i⟩
def ownTups:List String:=["enumerate", "zip", "dict_itemiterator", "dict_reverseitemiterator", "odict_iterator", "itertools.zip_longest", "itertools.pairwise"]
theorem zlR_ {P:m7}{w:nL}{K:Fgg}{tg:qF}{it:nc}{n:Nat}{f:Nat->V}{Pw:Nat->aL->Prop}{St:Nat->Heap->Prop}
  (W:∀A:qu,A.handled=none->Walks P w A it [it] [it] n Pw St) (hv:∀i v,i<n->Pw i v->RelV (f i) v)
  (ho:∀i h,St i h->∃o nm vs,h.get? it=some o/\o.cls=.type nm/\o.data=.fields vs/\ownTups.contains nm=false)
  (gE:∀(A:qu) (i:Nat) (s:kZ) (Q:aL->kZ->Prop) (E:aL->kZ->Prop),St i s.heap->Q (.ref it) s->nI (model P w) A (pyIter (.ref it)) Q E s)
  (gL:∀i h h',St i h->(∀b∈[it],∀o,h.get? b=some o->h'.get? b=some o)->St i h'):
  Turn P w K tg (Itp n f) [it] it (λi h=>i<=n/\St i h) where
 mem:=by simp
 obj:=λi h st b hb=>by
  grind
 keep:=λi h h' st k=>⟨st.1,gL i h h' st.2 k⟩
 item:=by
  intro X hP hw hK hc i pins s σ H E I hf st hg;subst hP hw hK;obtain⟨f0,f1,f2,f3,f4,f5⟩:=hf it (by simp)
  have hi:i<n:=hg;refine(W X.A (I.ok.hd hc)).item i s _ _ hi st.2 λv h' tk dS aO kk=>?_
  have I1:Inv X pins σ H {s with heap:=h',toks:=tk}:=I.turned (λb o hb e=>kk b o (by simpa using hb) e) f0 f1 f3 f4 f5
  obtain⟨o,nm,vs,e,c,d,hn⟩:=ho _ _ aO;exact⟨_,rfl,zr3_ (s:={s with heap:=h',toks:=tk}) (n:=nm) e c d hn ⟨f i,H,I1,hv i v hi dS,⟨rfl,rfl⟩,⟨hi,aO⟩,λb hb=>(hf b hb).1⟩⟩
 done:=by
  intro X hP hw hK hc i pins s σ H E I hf st hg;subst hP hw hK;obtain⟨f0,f1,f2,f3,f4,f5⟩:=hf it (by simp)
  have hi:n<=i:=hg;have e:i=n:=Nat.le_antisymm st.1 hi;subst e;exact(W X.A (I.ok.hd hc)).done s _ _ st.2 λh' tk kk=>⟨rfl,I.turned (λb o hb e=>kk b o (by simpa using hb) e) f0 f1 f3 f4 f5⟩
 self:=λA i s Q E st h=>gE A i s Q E st.2 h
def sgn (x:Str)(i:Nat):V:=.str ⟨#[x.cps.getD i 0]⟩
theorem zlo_ {P:m7}{w:nL}{it:nc}{x:Str}{t:Tok}(A:qu)(hA:A.handled=none):Walks P w A it [it] [it] x.cps.size (SignAt x) (λi h=>h.IsStrIter it (qK x) x t i):=by
 cases ha:x.cps.all (·<128)
 ·have e:qK x="str_iterator":=by simp[qK,ha]
  rw[e];exact Walks.strWide hA it x t
 ·have e:qK x="str_ascii_iterator":=by simp[qK,ha]
  rw[e];exact Walks.strAscii hA it x t
theorem zg3_ {x:Str}{i:Nat}{v:aL}(h:SignAt x i v):RelV (sgn x i) v:=by
 obtain⟨c,u,e,rfl⟩:=h;refine⟨u,?_⟩;have:x.cps.getD i 0=c:=by simp[rR,e]
 rw[this]
theorem zfO_ (x:Str):ownTups.contains (qK x)=false:=by
 unfold qK;split<;>decide
theorem znt_ {P:m7}{w:nL}{K:Fgg}{tg:qF}(it:nc)(x:Str)(t:Tok):Turn P w K tg (Itp x.cps.size (sgn x)) [it] it (λi h=>i<=x.cps.size/\h.IsStrIter it (qK x) x t i):=by
 refine zlR_ (Pw:=SignAt x) (λA hA=>zlo_ A hA) (λi v _ h=>zg3_ h) (λi h st=>?_) (λA i s Q E st h=>?_) (λi h h' st k=>?_)
 ·obtain⟨o,e,c,d⟩:=st
  exact⟨o,_,_,e,c,d,zfO_ x⟩
 ·cases ha:x.cps.all (·<128)
  ·have e:qK x="str_iterator":=by simp[qK,ha]
   rw[e]at st;exact wpAny_pyIter_striter_wide st h
  ·have e:qK x="str_ascii_iterator":=by simp[qK,ha]
   rw[e]at st;exact wpAny_pyIter_striter_ascii st h
 ·obtain⟨o,e,r⟩:=st
  exact⟨o,k it (by simp) o e,r⟩
section
end
theorem Inv.turnedL {X:Cx}{pins:Pnn}{σ:St}{H:Hp}{s:kZ}{h':Heap}{t':Nat}{ch:List nc}(I:Inv X pins σ H s)(k:∀b o,b∉ch->s.heap.get? b=some o->h'.get? b=some o)
  (hf:∀b∈ch,FpOk X pins H b):Inv X pins σ H {s with heap:=h',toks:=t'}:=by
 have gp:∀b u,H b=some u->b∉ch:=λb u e z=>by rw[(hf b z).1]at e;cases e
 refine I.step (g':=s.gens) (d':=s.drawn) (ch:=ch) (λb hb=>?_) (λb o _ _ hc e _=>k b o hc e) (λb o _ _ hc e _=>⟨o.slots,k b o hc e⟩) (λ_ _ _ _ n=>n)
  (λb o hc e=>⟨o,k b o hc e⟩) (λ_ _ e=>e) (λ_ _ _ e=>e) (λb ps e=>⟨#[],by rw[e];simp⟩) (λm hm=>?_) (λb u e=>?_) I.bare
 ·obtain⟨f0,f1,f2,f3,f4,f5⟩:=hf b hb
  exact⟨f3,f1,f4,f5⟩
 ·obtain⟨o,es,ep,ho,r⟩:=hm
  exact⟨o,es,ep,k _ o (λz=>(hf _ z).2.1 rfl) ho,r⟩
 ·refine(I.hok b u e).stay (λc v hc q=>k c v ?_ q) (λ_ q=>q) λ_ _ q=>q
  rcases hc with z |z
  ·rw[z];exact gp b u e
  ·exact gp c _ z
theorem zlf_ {X:Cx}{pins:Pnn}{σ:St}{H:Hp}{s:kZ}{h1:Heap}{tk:Nat}{ib:Tok}{e it:nc}{i:Nat}{x:aL}{y:V}{St:Heap->Prop}{elts:List qF}{kk:Nat}{pos:Pos}{E:aL->kZ->Prop}
  (I:Inv X pins σ H s) (hf:∀b∈[e,it],FpOk X pins H b) (he:e<s.heap.objs.size) (hit:it<s.heap.objs.size) (dZ:e≠it) (de:IsEnumOut h1 e it ((i:Int)+1) x s.heap.objs.size) (ry:RelV y x)
  (ht:h1.get? s.heap.objs.size=some {cls:=.type "tuple",data:=.seq #[.int i ib,x]}) (hz:h1.objs.size=s.heap.objs.size+1) (hk:∀b o,b≠e->b≠it->s.heap.get? b=some o->h1.get? b=some o)
  (pe:∀h2,sU e h1 h2->St h2):
  nI (model X.prog X.w) X.A (letOwnedTupleGo (.Tuple elts kk pos) (.ref e) (.ref s.heap.objs.size)) (λ_ s2=>∃z H',Inv X pins σ H' s2/\RelV z (.ref s.heap.objs.size) /\
   (∃p,H p=none/\z=.ref p/\H'=upd H p (.tup [.int i,y]))/\(IsEnum s2.heap e it ((i+1:Nat):Int) x/\St s2.heap)/\∀b∈[e,it],H' b=none) E {s with heap:=h1,toks:=tk}:=by
 refine wpAny_letOwnedTupleGo_enum de λh2 gS bQ=>?_
 replace bQ:sU e h1 h2:=bQ;have hp:H s.heap.objs.size=none:=I.hok.fresh (nG _);have aF:s.heap.objs.size≠e:=tI he;have gH:s.heap.objs.size≠it:=tI hit;have I1:Inv X pins σ (upd H s.heap.objs.size (.tup [.int i,y])) {s with heap:=s.heap.push {cls:=.type "tuple",data:=.seq #[.int i ib,x]},toks:=tk}:=by
  refine I.laid (λb u q=>iX _ q) (nG _) ⟨?_,[.int i ib,x],.cons ⟨_,rfl⟩ (.cons ry .nil),⟨_,p7 _ rfl,rfl,_,rfl⟩⟩
  show 2<=pX
  decide
 have dY:∀b∈[e,it],FpOk X pins (upd H s.heap.objs.size (.tup [.int i,y])) b:=λb hb=>by
  obtain⟨f0,r⟩:=hf b hb;refine⟨?_,r⟩;rw[zI_ (by rcases qf.mp hb with rfl |hb;exact aF.symm;rcases qf.mp hb with rfl |hb;exact gH.symm;cases hb)]
  exact f0
 have I2:Inv X pins σ (upd H s.heap.objs.size (.tup [.int i,y])) {s with heap:=h2,toks:=tk}:=by
  refine Inv.turnedL (s:={s with heap:=s.heap.push {cls:=.type "tuple",data:=.seq #[.int i ib,x]},toks:=tk}) (ch:=[e,it]) I1 (λb o hb q=>?_) dY
  have l_:b≠e:=λz=>hb (by simp[z])
  have nW:b≠it:=λz=>hb (by simp[z])
  refine(bQ.2 b l_).trans ?_;rcases uP q with⟨rfl,rfl⟩|q'
  ·exact ht
  ·exact hk b o l_ nW q'
 refine⟨.ref s.heap.objs.size,_,I2,rfl,⟨s.heap.objs.size,hp,rfl,rfl⟩,⟨?_,pe h2 bQ⟩,λb hb=>(dY b hb).1⟩
 have:((i+1:Nat):Int)=(i:Int)+1:=by push_cast;rfl
 rw[this];exact gS
def Ite (K:Fgg)(l:nc):It:=
 ⟨λi H=>∃xs x,SqL K H l xs/\xs[i]?=some x,λi H y H'=>∃p x,(∀xs,SqL K H l xs->xs[i]?=some x)/\H p=none/\y=.ref p/\H'=upd H p (.tup [.int i,x]),λi H=>∃xs,SqL K H l xs/\xs.length<=i⟩
theorem zkW_ {P:m7}{w:nL}{K:Fgg}{elts:List qF}{kk:Nat}{pos:Pos}(e it l:nc)(dZ:e≠it):
  Turn P w K (.Tuple elts kk pos) (Ite K l) [e,it] e (λi h=>(∃old,IsEnum h e it (i:Nat) old)/\h.IsListIter it l i) where
 mem:=by simp
 obj:=λi h st b hb=>by
  obtain⟨⟨old,he⟩,o,ho,c,d⟩:=st;grind
 keep:=λi h h' st k=>by
  obtain⟨⟨old,he⟩,hit⟩:=st;exact⟨⟨old,k e (by simp) _ he⟩,hit.at λo q=>k it (by simp) o q⟩
 item:=by
  intro X hP hw hK hc i pins s σ H E I hf st hg;subst hP hw hK;obtain⟨xs,x,hq,hx⟩:=hg;obtain⟨aa,rv,p,hz⟩:=I.list hq;obtain⟨u,hu,ru⟩:=rv.get hx;obtain⟨⟨old,he⟩,hit⟩:=st;refine wpAny_pyNext_enum_item he hit p.isList (x:=u) (by simpa using hu) dZ λh1 de jS oA oh jR=>?_
  refine⟨_,rfl,?_⟩;have oZ:e<s.heap.objs.size:=pT he;have jT:it<s.heap.objs.size:=by obtain⟨o,ho,_⟩:=id hit;exact pT ho
  refine thn (zlf_ (St:=λh2=>h2.IsListIter it l (i+1)) I hf oZ jT dZ de ru oA oh jR λh2 hs=>jS.extBut hs.extBut dZ.symm) λ_ s2 q=>?_
  obtain⟨z,H',I2,rz,⟨p,hp,rfl,rfl⟩,⟨gS,hit2⟩,fr⟩:=q;exact⟨.ref p,_,I2,rz,⟨p,x,λys hy=>by rw[I.list_inj hy hq];exact hx,hp,rfl,rfl⟩,⟨⟨u,gS⟩,hit2⟩,fr⟩
 done:=by
  intro X hP hw hK hc i pins s σ H E I hf st hg;subst hP hw hK;obtain⟨xs,hq,hx⟩:=hg;obtain⟨aa,rv,p,hz⟩:=I.list hq;obtain⟨⟨old,he⟩,hit⟩:=st;have hl:=rv.length;obtain⟨f0,f1,f2,f3,f4,f5⟩:=hf it (by simp)
  exact wpAny_pyNext_enum_end (I.ok.hd hc) he hit p.isList (by simp;lia) λh' eb=>⟨rfl,I.turned (t':=s.toks) (λb o hb e=>eb b o hb e) f0 f1 f3 f4 f5⟩
 self:=λ_ _ _ _ _ st h=>by
  obtain⟨⟨old,he⟩,_⟩:=st;exact wpAny_pyIter_enum he h
theorem zit_ {P:m7}{w:nL}{it:nc}{x:Str}{t:Tok}(A:qu)(hA:A.handled=none):Draws P w A it [it] x.cps.size (λi v=>∃c u,x.cps[i]?=some c/\v=.str ⟨#[c]⟩ u) (λi h=>h.IsStrIter it (qK x) x t i):=by
 cases ha:x.cps.all (·<128)
 ·have e:qK x="str_iterator":=by simp[qK,ha]
  rw[e];exact Draws.strWide hA it x t
 ·have e:qK x="str_ascii_iterator":=by simp[qK,ha]
  rw[e];exact Draws.strAscii hA it x t
section
variable {X:Cx}{elts:List qF}{kk:Nat}{er:Pos}
def iEnumL (K:Fgg)(ta:TA):TI:=λσ H R=>ta σ H λvs H1=>∃a,vs=[.ref a]/\(∃xs,SqL K H1 a xs)/\R (Ite K a) H1
theorem zpm_ {a:qF}{ta:TA}{p pos:Pos}(hg:Gl X "enumerate")(hm:X.mg "enumerate"=none)(ha:PA X [a] ta)(hs:qg [a] X.env=[(false,eval a X.env)]:=by rfl):
  PI X (.Tuple elts kk er) (.Call (.Name "enumerate" p) [a] [] pos) (iEnumL X.K ta):=by
 intro pins s σ H R I h;refine Call_ (zhZ_ I hg hm (u:=.type "enumerate") (by rfl) (rQ (thn (ha pos pins s σ H _ I h) λus s1 af=>?_) hs rfl))
 obtain⟨vs,H1,I1,r1,q1⟩:=af;obtain⟨l,e,⟨xs,hq⟩,q⟩:=q1;subst e;cases r1 with
 |cons r rr=>
  cases rr;cases r;obtain⟨aa,rv,p,hz⟩:=I1.list hq;refine call_enumerate_list p.isList λh' he hit hsz hk=>?_
  refine wpAny_pyIter_enum (s:={s1 with heap:=h'}) he ?_;have I2:Inv X pins σ H1 {s1 with heap:=h'}:=I1.kept (t':=s1.toks) hk;refine⟨s1.heap.objs.size+1,[s1.heap.objs.size+1,s1.heap.objs.size],_,_,H1,rfl,I2,zkW_ _ _ l (by simp),⟨⟨_,he⟩,hit⟩,λb hb=>?_,q⟩
  have mn:s1.heap.objs.size<=b:=by
   grind
  exact I1.fpOk mn (I1.hok.fresh mn)
variable {prog:m7}{w:nL}{A:qu}{R:Result->kZ->Prop}{s:kZ}
theorem zjo_ {elt target iter:qF}{ifs:List qF}{scope:Scope}{pos:Pos}{it acc:aL}{env:Env}(I:Nat->kZ->Prop)
  (turn:∀n s,I n s->nI (model prog w) A (pyNext it) (λr ag=>match r with
   |none=>R (.ok .next) ag
   | some v=>nI (model prog w) A (letOwnedTupleGo target it v) (λ_ aA=>nI (model prog w) A (assign target env v) (λ_ aJ=>
     nI (model prog w) A (forIn ifs true λc r=>if r=true then do let ok <- isTrue c env (eval c env);pure (ForInStep.yield ok)else pure (ForInStep.yield r)) (λok cA=>
      if ok=true then nI (model prog w) A (eval elt env) (λx f_=>
       nI (model prog w) A (call (.builtin "list.append") [acc,x]) (λ_ fZ=>∃m,m<n/\I m fZ) (λ_ _=>False) f_) (λ_ _=>False) cA
      else∃m,m<n/\I m cA) (λ_ _=>False) aJ) (λ_ _=>False) aA) (λ_ _=>False) ag) (λ_ _=>False) s)
  (n:Nat) (h:I n s):
  codeAny (model prog w) A (.compLoop (.ListComp elt [⟨target,iter,ifs,0⟩] scope pos) 0 it acc env) R s:=by
 refine codeAny_loop rfl I (λn s hI=>?_) n h
 show nI _ A ((compTurn (.ListComp elt [⟨target,iter,ifs,0⟩] scope pos) 0 it acc env).onRaise (λx=>do noteFrame x env;theTreesLotGoes x)) _ _ s
 refine wpAny_noted ?_;rw[compTurn_list];refine iV (wpAny_standAt (iV (qH (turn n s hI) (λr ag a_=>?_) λ_ _ h'=>h'.elim)))
 cases r with
 |none=>exact nh a_
 |some v=>
  refine iV (qH a_ (λ_ aA cH=>?_) λ_ _ h'=>h'.elim)
  refine iV (qH cH (λ_ aJ eZ=>iV (qH eZ (λok cA gw=>?_) λ_ _ h'=>h'.elim)) λ_ _ h'=>h'.elim)
  cases ok with
  |false=>exact nh ⟨rfl,gw⟩
  |true=>
   exact iV (iV (qH gw (λx f_ jz=>iV (qH jz (λ_ fZ jy=>nh (nh ⟨rfl,jy⟩)) λ_ _ h'=>h'.elim)) λ_ _ h'=>h'.elim))
end
def closeL (cells:List (Str×nc)):List (Str×uo)->List (Str×nc)->Option (List (Str×nc))
 |[],acc=>some acc
 |(n,k)::r,acc=>if(k == .free)=true then(match cells.lookup n with |some c=>closeL cells r ((n,c)::acc)|none=>none)else closeL cells r acc
theorem zeB_ {env:Env}{f:Str×uo->List (Str×nc)->Sem (ForInStep (List (Str×nc)))}
  (hf:∀n k cs,f (n,k) cs=if(k == NameKind.free)=true then(do let c <- cellOf env n;pure (ForInStep.yield ((n,c)::cs)))else pure (ForInStep.yield cs)):
  ∀(names:List (Str×uo)) (acc cl:List (Str×nc)),closeL env.cells names acc=some cl->(forIn names acc f:Sem (List (Str×nc)))=pure cl
 |[],acc,cl,h=>by cases h;rfl
 |(n,k)::r,acc,cl,h=>by
  rw[vK,hf];unfold closeL at h;by_cases hk:(k == NameKind.free)=true
  ·rw[if_pos hk]at h
   rw[if_pos hk];cases hc:env.cells.lookup n with
   |none=>rw[hc]at h;cases h
   |some c=>
    rw[hc]at h;have e:cellOf env n=pure c:=by unfold cellOf;rw[hc]
    rw[e];simp only[pure_bind];exact zeB_ hf r _ cl h
  ·rw[if_neg hk]at h
   rw[if_neg hk];simp only[pure_bind];exact zeB_ hf r _ cl h
theorem zif_ {env:Env}{scope:Scope}{cl:List (Str×nc)}(h:closeL env.cells scope.names []=some cl):closureFor scope env=pure cl:=by
 unfold closureFor;dsimp only;rw[zeB_ (env:=env) (λn k cs=>rfl) scope.names [] cl h]
 rfl
theorem zdk_ {cells:List (Str×nc)}:∀(names:List (Str×uo)) (acc cl:List (Str×nc)),closeL cells names acc=some cl->(∀x c,acc.lookup x=some c->cells.lookup x=some c) ->
  (∀x c,cl.lookup x=some c->cells.lookup x=some c)
 |[],acc,cl,h,ha=>by cases h;exact ha
 |(n,k)::r,acc,cl,h,ha=>by
  unfold closeL at h;by_cases hk:(k == NameKind.free)=true
  ·rw[if_pos hk]at h
   cases hc:cells.lookup n with
   |none=>rw[hc]at h;cases h
   |some c=>
    rw[hc]at h;refine zdk_ r _ cl h λx c' e=>?_
    grind
  ·rw[if_neg hk]at h
   exact zdk_ r _ cl h ha
theorem zeg_ {cells:List (Str×nc)}:∀(names:List (Str×uo)) (acc cl:List (Str×nc)),closeL cells names acc=some cl->∀x,((x,NameKind.free)∈names\/∃c,acc.lookup x=some c)->∃c,cl.lookup x=some c
 |[],acc,cl,h,x,hx=>by
  cases h;rcases hx with hx |hx
  ·cases hx
  ·exact hx
 |(n,k)::r,acc,cl,h,x,hx=>by
  unfold closeL at h;by_cases hk:(k == NameKind.free)=true
  ·rw[if_pos hk]at h
   cases hc:cells.lookup n with
   |none=>rw[hc]at h;cases h
   |some c=>
    rw[hc]at h;refine zeg_ r _ cl h x ?_;grind
  ·rw[if_neg hk]at h
   refine zeg_ r _ cl h x ?_;grind
theorem zfx_ {scope:Scope}{env:Env}{x:Str}{k:uo}(h:(relabel scope env).names.lookup x=some k)(hk:k=.cell\/k=.free)(cR:∀y∈scope.names,y.2≠.cell):(x,NameKind.free)∈scope.names:=by
 have m:=sr h;obtain⟨⟨n,k0⟩,hm,e⟩:=qp.mp m;grind
noncomputable def cxComp (X:Cx)(scope:Scope)(cl:List (Str×nc))(C:nc)(N:List Str)(fp:List nc)(s2:kZ)(H2:Hp):Cx where
 prog:=X.prog
 w:=X.w
 K:=X.K
 mg:=X.mg
 base:=X.base
 A:=X.A
 N:=N
 s₀:=s2
 H₀:=H2
 env:=compEnvC scope cl C X.env
 outer:=X.stack
 stack:=X.stack
 ex:=fp
 fn:=λ_=>false
 calm:=X.calm
 pn:=[]
 xe:=λ_ _=>False
structure CScope (X:Cx)(scope:Scope)(cl:List (Str×nc))(lv:List Str)(fr:List (Str×Nat)):Prop where
 clos:closeL X.env.cells scope.names []=some cl
 cell:∀y∈scope.names,y.2≠.cell
 kind:scope.kind=.function
 names:∀z∈scope.names,z.2=.local->scope.names.lookup z.1=some .local
 fr:∀q∈fr,X.N[q.2]?=some q.1/\(q.1,NameKind.free)∈scope.names/\(X.env.kindOf q.1=some .cell\/X.env.kindOf q.1=some .free) /\
  ((relabel scope X.env).names.lookup q.1=some .cell\/(relabel scope X.env).names.lookup q.1=some .free)
def cN (lv:List Str)(fr:List (Str×Nat)):List Str:=lv++fr.map (·.1)
def cS (lv:List Str)(fr:List (Str×Nat))(σ:St):St:=lv.map (λ_=>none)++fr.map λq=>(σ[q.2]?).join
theorem zoa_ {X:Cx}{pins:Pnn}{σ:St}{H2:Hp}{s2:kZ}{scope:Scope}{cl:List (Str×nc)}{lv:List Str}{fr:List (Str×Nat)}{fp:List nc}{h4:Heap}{tk:Nat}{m:Str->Option aL}{n:Nat}
  (I:Inv X pins σ H2 s2) (S:CScope X scope cl lv fr) (hf:∀b∈fp,FpOk X pins H2 b) (aD:∀b∈fp,b<s2.heap.objs.size) (hC:h4.Ns (s2.heap.objs.size+1) m) (hD:h4.get? s2.heap.objs.size=some {cls:=.type "list",data:=.seq #[] n})
  (hk:∀b o,s2.heap.get? b=some o->h4.get? b=some o):
  Inv (cxComp X scope cl (s2.heap.objs.size+1) (cN lv fr) fp s2 H2) [] (cS lv fr σ) (upd H2 s2.heap.objs.size (.lst [])) {s2 with heap:=h4,toks:=tk}:=by
 have df:=zdk_ scope.names [] cl S.clos (λx c e=>by cases e)
 have gN:=zeg_ scope.names [] cl S.clos;have pz:H2 s2.heap.objs.size=none:=I.hok.fresh (nG _);have iD:H2 (s2.heap.objs.size+1)=none:=I.hok.fresh (tG _);have pB:s2.heap.objs.size+1≠s2.heap.objs.size:=tI (uD _);have pC:∀b∈fp,(b∈X.ex\/X.s₀.heap.objs.size<=b):=λb hb=>(hf b hb).2.2.2.1
 have fL:∀x c,cl.lookup x=some c->c<s2.heap.objs.size:=λx c e=>by
  obtain⟨v,o,ho,_⟩:=I.cell x c (df x c e);exact pT ho
 refine⟨⟨I.ok.mod,S.kind,I.ok.glob,I.ok.blt,tG _,λx y c h1 h2=>I.ok.inj x y c (df x c h1) (df y c h2),λx hx=>?_,λx c fB=>(by cases fB),I.ok.hd,I.ok.frames,.inl rfl,λb hb=>?_,I.bs,qV I.ok.bsz I.sz,λb o e hb=>?_,λb hb z=>?_,I.stack,I.stkFree⟩,
  rfl,I.bare,?_,⟨m,hC,λi x v h1 h2 h3=>?_⟩,λx c e=>?_,?_,λx c e=>?_,λp hp=>absurd (show p∈([]:Pnn)from hp) (by simp),?_,?_⟩
 ·-- has
  have oo:(relabel scope X.env).names.lookup x=some .cell\/(relabel scope X.env).names.lookup x=some .free:=hx;have hm:(x,NameKind.free)∈scope.names:=oo.elim (λz=>zfx_ z (.inl rfl) S.cell) λz=>zfx_ z (.inr rfl) S.cell
  exact gN x (.inl hm)
 ·-- exf
  obtain⟨f0,f1,f2,f3,f4,f5⟩:=hf b hb;refine⟨λz=>?_,λx c e=>f4 x c (df x c e)⟩
  have z':b=s2.heap.objs.size+1:=z;have:=aD b hb;rw[z']at this;exact absurd this (Nat.not_lt.mpr (tG _))
 ·rcases pC b hb with z |z
  ·exact I.ok.noex b o e z
  ·exact absurd (qw (qw (pT e) I.ok.bsz) z) (tL _)
 ·obtain⟨f0,f1,f2,_⟩:=hf b hb
  rcases qf.mp (I.stkSub b z)with q |q
  ·exact f1 q
  ·exact f2 q
 ·exact Un.laid hk (nG _) pz
 ·-- loc
  have h1':(lv++fr.map (·.1))[i]?=some x:=h1;have iG:(lv.map (λ_=>none)++fr.map λq=>(σ[q.2]?).join:St)[i]?=some (some v):=h2
  by_cases hi:i<lv.length
  ·grind
  ·rw [rD (by simpa using hi),qU]at iG
   rw[rD (by lia),qU]at h1'
   simp only[l6]at iG;cases hq:fr[i-lv.length]? with
   |none=>rw[hq]at h1';cases h1'
   |some q=>
    rw[hq]at h1' iG;have e1:q.1=x:=qW h1';have e2:(σ[q.2]?).join=some v:=qW iG;have e3:σ[q.2]?=some (some v):=by
     grind
    obtain⟨g1,g2,g3,g4⟩:=S.fr q (sW hq);obtain⟨m0,iz,hl0⟩:=I.loc;have nB:Vis X.env.scope q.1:=by
     rcases g3 with g3 |g3
     ·exact .inr (.inl g3)
     ·exact .inr (.inr g3)
    obtain⟨u,r,l⟩:=hl0 q.2 q.1 v g1 e3 nB;refine⟨u,r,.inr ⟨?_,?_⟩⟩
    ·rw[<- e1];exact g4
    ·rcases l with⟨lk,_⟩|⟨_,c,ec,ic⟩
     ·rcases g3 with g3 |g3<;>(rw[lk]at g3;cases g3)
     ·obtain⟨c',ec'⟩:=gN q.1 (.inl g2)
      have:c'=c:=by
       grind
      subst this;obtain⟨o,ho,hd⟩:=ic;exact⟨c',by rw[<- e1];exact ec',o,hk _ _ ho,hd⟩
 ·obtain⟨v,o,ho,hd⟩:=I.cell x c (df x c e)
  exact⟨v,o,hk _ _ ho,hd⟩
 ·show upd H2 _ _ (s2.heap.objs.size+1)=none
  rw[zI_ pB];exact iD
 ·have:=fL x c e
  rw[zI_ (qo this)];exact I.freeC x c (df x c e)
 ·exact I.hok.laid hk (nG _) ⟨rB _,[],n,.nil,hD⟩
 ·show(cS lv fr σ).length=(cN lv fr).length
  simp[cS,cN]
def PIf (X:Cx)(ifs:List qF)(t:TT):Prop:=
 ∀(pins:Pnn) (s:kZ) (σ:St) (H:Hp) (Q:Bool->Hp->Prop),Inv X pins σ H s->t σ H Q ->
  nI (model X.prog X.w) X.A (forIn ifs true λc r=>if r=true then do let ok <- isTrue c X.env (eval c X.env);pure (ForInStep.yield ok)else pure (ForInStep.yield r)) (TP X pins σ Q) X.xe s
def tTrue:TT:=λ_ H Q=>Q true H
theorem zmO_ {X:Cx}:PIf X [] tTrue:=λpins s σ H Q I h=>wpAny_tests_nil ⟨H,I,h⟩
def tCompR (J:It)(g:TG)(tt:TT)(te:TE)(m5:St)(H1:Hp)(Q:VK):Prop:=
 ∀ D,H1 D=none->∃W:Nat->Nat->List V->St->Hp->Prop,(∃m,W 0 m [] m5 (upd H1 D (.lst [])))/\∀i m ys σ H,W i m ys σ H ->
  (J.stop i H/\Q (.ref D) H)\/(J.go i H/\∃N:List V->St->Hp->Prop,(∀fM ai H',N fM ai H'->∃m',m'<m/\W (i+1) m' fM ai H') /\
   ∀x H',J.yld i H x H'->g x σ H' λcX H2=>tt cX H2 λb H3=>if b=true then te cX H3 λv H4=>H4 D=some (.lst ys)/\ys.length<pX/\N (ys++[v]) cX (upd H4 D (.lst (ys++[v])))else N ys cX H3)
section
variable {X:Cx}{scope:Scope}{cl:List (Str×nc)}{lv:List Str}{fr:List (Str×Nat)}{elt tg iter:qF}{ifs:List qF}{pos:Pos}{g:TG}{tt:TT}{te:TE}
theorem zgy_ {pins:Pnn}{σ:St}{H2:Hp}{s2:kZ}{it:nc}{fp:List nc}{tn:Nat->Heap->Prop}{J:It}{Q:VK}{E:aL->kZ->Prop}{use:Option (aL->Sem Unit)}{Q':aL->kZ->Prop}
  (I:Inv X pins σ H2 s2) (S:CScope X scope cl lv fr) (T:Turn X.prog X.w X.K tg J fp it tn) (st:tn 0 s2.heap) (hf:∀b∈fp,FpOk X pins H2 b) (hc:X.calm=true)
  (hg:∀C fp s2 H2,PG (cxComp X scope cl C (cN lv fr) fp s2 H2) tg g) (ht:∀C fp s2 H2,PIf (cxComp X scope cl C (cN lv fr) fp s2 H2) ifs tt) (he:∀C fp s2 H2,PE (cxComp X scope cl C (cN lv fr) fp s2 H2) elt te)
  (hq:tCompR J g tt te (cS lv fr σ) H2 Q)
  (fin:∀D C oC H' s',Inv X (pins++[(C,oC)]) σ H' s'->(∀h:Heap,h.get? C=some oC->∃m,h.Ns C m)->FpOk X pins H' C->Q (.ref D) H'->compPost (model X.prog X.w) X.A E use Q' (.ref D) C (.ok .next) s'):
  nI (model X.prog X.w) X.A (newList []) (λacc aJ=>nI (model X.prog X.w) X.A (newFunctionEnv scope X.env.globals cl [] X.env.qual none .none (some X.env)) (λg_ cA=>
   codeAny (model X.prog X.w) X.A (.compStart (.ListComp elt [⟨tg,iter,ifs,0⟩] scope pos) 0 (.ref it) acc {g_ with scope:=relabel scope X.env}) (compPost (model X.prog X.w) X.A E use Q' acc g_.locals) cA) E aJ) E s2:=by
 have aD:∀b∈fp,b<s2.heap.objs.size:=λb hb=>by
  obtain⟨o,ho,_⟩:=T.obj 0 _ st b hb;exact pT ho
 refine wpAny_newList (wpAny_newFunctionEnv S.cell (by intro y hy;simp at hy) (λa_ bS bu=>?_) S.kind)
 dsimp only at bS bu ⊢;have hsz:(s2.heap.push {cls:=.type "list",data:=.seq ([]:List aL).toArray}).objs.size=s2.heap.objs.size+1:=sG ..;rw[hsz]at bS bu ⊢;have old:∀b o,s2.heap.get? b=some o->a_.get? b=some o:=λb o e=>bu.extBut b o (qo (uq (pT e))) (iX _ (iX _ e))
 have bf:a_.get? s2.heap.objs.size=some {cls:=.type "list",data:=.seq #[]}:=bu.extBut _ _ (qo (uD _)) (iX _ (p7 _ rfl));have I4:Inv (cxComp X scope cl (s2.heap.objs.size+1) (cN lv fr) fp s2 H2) [] (cS lv fr σ) (upd H2 s2.heap.objs.size (.lst [])) {s2 with heap:=a_,toks:=s2.toks+([]:List (Str×aL)).length}:=
  zoa_ I S hf aD bS bf old
 generalize bM:cxComp X scope cl (s2.heap.objs.size+1) (cN lv fr) fp s2 H2=X' at I4
 have eP:X'.prog=X.prog:=by rw[<- bM];rfl
 have ew:X'.w=X.w:=by rw[<- bM];rfl
 have eK:X'.K=X.K:=by rw[<- bM];rfl
 have eA:X'.A=X.A:=by rw[<- bM];rfl
 have ec:X'.calm=true:=by rw[<- bM];exact hc
 have ex:X'.xe=λ_ _=>False:=by rw[<- bM];rfl
 have fI:X'.env=compEnvC scope cl (s2.heap.objs.size+1) X.env:=by rw[<- bM];rfl
 have oY:PG X' tg g:=bM ▸ hg _ _ _ _;have fb:PIf X' ifs tt:=bM ▸ ht _ _ _ _;have o6:PE X' elt te:=bM ▸ he _ _ _ _;obtain⟨W,⟨m0,w0⟩,turn⟩:=hq s2.heap.objs.size (I.hok.fresh (nG _));have cZ:tn 0 a_:=T.keep _ _ _ st λb _ o e=>old b o e
 have f4:∀b∈fp,FpOk X' [] (upd H2 s2.heap.objs.size (.lst [])) b:=λb hb=>by
  obtain⟨f0,f1,f2,f3,f4,f5⟩:=hf b hb;have:=aD b hb;refine⟨?_,?_,?_,.inl ?_,?_,?_⟩
  ·rw[zI_ (qo this)];exact f0
  ·rw[fI];exact qo (uq this)
  ·intro z
   have z':b∈frs X.stack:=by rw[<- bM]at z;exact z
   rcases qf.mp (I.stkSub b z')with q |q
   ·exact f1 q
   ·exact f2 q
  ·rw[<- bM];exact hb
  ·intro x c e
   rw[fI]at e;exact f4 x c (zdk_ scope.names [] cl S.clos (λx c e=>by cases e) x c e)
  ·intro p hp
   rw[<- bM]at hp;exact absurd (show p∈([]:Pnn)from hp) (by simp)
 have bN:∀{H':Hp},(∀b∈fp,H' b=none)->∀b∈fp,FpOk X' [] H' b:=λhn b hb=>⟨hn b hb,(f4 b hb).2⟩
 have loop:∀aJ:kZ,aJ={s2 with heap:=a_,toks:=s2.toks+([]:List (Str×aL)).length} ->
   codeAny (model X.prog X.w) X.A (.compLoop (.ListComp elt [⟨tg,iter,ifs,0⟩] scope pos) 0 (.ref it) (.ref s2.heap.objs.size) (compEnvC scope cl (s2.heap.objs.size+1) X.env))
    (compPost (model X.prog X.w) X.A E use Q' (.ref s2.heap.objs.size) (s2.heap.objs.size+1)) aJ:=by
  rintro aJ rfl;refine zjo_ (λn s'=>∃i ys ai H',Inv X' [] ai H' s'/\tn i s'.heap/\(∀b∈fp,H' b=none)/\W i n ys ai H') ?_ m0 ⟨0,[],_,_,I4,cZ,λb hb=>(f4 b hb).1,w0⟩
  rintro n s3 ⟨i,ys,ck,H3,I3,st3,fr3,w3⟩;rcases turn i n ys ck H3 w3 with⟨stop,qn⟩|⟨go,N,hN,step⟩
  ·have a0:=T.done X' eP ew eK ec i [] s3 ck H3 (λ_ _=>False) I3 (bN fr3) st3 stop
   rw[eA]at a0;refine thn a0 λr s4 af=>?_
   obtain⟨hr,I4'⟩:=af;subst hr;have un:Un (frs X.stack) fp H2 H3 s2.heap s4.heap:=by
    have:=I4'.base;rw[<- bM]at this;exact this
   have os:s4.os=s2.os:=by
    have:=I4'.os;rw[<- bM]at this;exact this
   have hok:HOk X.prog X.w H3 s4.heap:=by
    have:=I4'.hok;rw[<- bM]at this;exact this
   have J1:Inv X pins σ H3 s4:=I.call' os un hok I4'.bare λb hb=>by
    obtain⟨f0,f1,f2,f3,f4,f5⟩:=hf b hb;exact⟨f3,f1,f4,f5⟩
   obtain⟨m,hn,_⟩:=I4'.loc;have dH:s4.heap.Ns (s2.heap.objs.size+1) m:=by rw[fI]at hn;exact hn
   have iD:H3 (s2.heap.objs.size+1)=none:=by
    have:=I4'.free;rw[fI]at this;exact this
   have fC:FpOk X pins H3 (s2.heap.objs.size+1):=I.fpOk (tG _) iD;obtain⟨oC,es,ep,hoC,hdC,rC⟩:=id dH;have J2:Inv X (pins++[(s2.heap.objs.size+1,oC)]) σ H3 s4:=J1.pins_of λp hp=>by
    rcases qI.mp hp with hp |hp
    ·exact J1.pin p (p5 _ hp)
    ·have e:p=(s2.heap.objs.size+1,oC):=by simpa using hp
     subst e;exact⟨hoC,iD,fC.2.1,fC.2.2.1,λv z=>by rw[hdC]at z;cases z⟩
   exact fin _ _ oC H3 s4 J2 (λh e=>⟨m,oC,es,ep,e,hdC,rC⟩) fC qn
  ·have a0:=T.item X' eP ew eK ec i [] s3 ck H3 (λ_ _=>False) I3 (bN fr3) st3 go
   rw[eA]at a0;refine thn a0 λr s4 af=>?_
   obtain⟨u,hr,h4⟩:=af;subst hr;refine thn h4 λ_ s5 af=>?_
   obtain⟨x,H5,I5,r5,y5,st5,fr5⟩:=af;have lu:=I5.pinned (bN fr5) (T.obj _ _ st5);have a1:=oY _ s5 ck H5 x u _ lu r5 (step x H5 y5);rw[eP,ew,eA,fI,ex]at a1;refine thn a1 λ_ s6 af=>?_
   obtain⟨cW,H6,I6,q6⟩:=af;have a2:=fb _ s6 cW H6 _ I6 q6;rw[eP,ew,eA,fI,ex]at a2;refine thn a2 λok s7 af=>?_
   obtain⟨H7,I7,q7⟩:=af;have again:∀{hU:List V}{H7:Hp}{s7:kZ},Inv X' ([]++pinsAt fp s5.heap) cW H7 s7->N hU cW H7->∃m,m<n/\∃i ys ai H',Inv X' [] ai H' s7/\tn i s7.heap/\(∀b∈fp,H' b=none)/\W i m ys ai H':=λ{hU H7 s7} I7 n7=>by
    obtain⟨m',hm,w7⟩:=hN hU cW H7 n7;refine⟨m',hm,i+1,hU,cW,H7,I7.unpinned,T.keep _ _ _ st5 λb hb o e=>(I7.pin (b,o) (p5 _ (p5 _ (zdn_ hb e)))).1,λb hb=>?_,w7⟩
    obtain⟨o,e,d⟩:=T.obj _ _ st5 b hb;exact(I7.pin (b,o) (p5 _ (p5 _ (zdn_ hb e)))).2.1
   cases ok with
   |false=>exact again I7 q7
   |true=>
    have a3:=o6 _ s7 cW H7 _ I7 q7;rw[eP,ew,eA,fI,ex]at a3;refine thn a3 λy s8 af=>?_
    obtain⟨v,H8,I8,r8,hD8,hl8,n8⟩:=af;have a4:=zix_ (X:=X') _ s8 cW H8 (.ref s2.heap.objs.size) [v] (.ref s2.heap.objs.size) [y] (λ_ H9=>N (ys++[v]) cW H9) I8 rfl (.cons r8 .nil) ⟨_,_,_,rfl,rfl,hD8,hl8,n8⟩
    rw[eP,ew,eA,ex]at a4;refine thn a4 λ_ s9 af=>?_
    obtain⟨v9,H9,I9,_,n9⟩:=af;exact again I9 n9
 exact codeAny_compStart_list (loop _ rfl) (T.self _ 0 _ _ _ cZ (loop _ rfl))
def tComp (lv:List Str)(fr:List (Str×Nat))(wi:TI)(g:TG)(tt:TT)(te:TE):TE:=λσ H Q=>wi σ H λJ H1=>tCompR J g tt te (cS lv fr σ) H1 Q
theorem zmw_ {wi:TI}(hc:X.calm=true)(S:CScope X scope cl lv fr)(hi:PI X tg iter wi)
  (hg:∀C fp s2 H2,PG (cxComp X scope cl C (cN lv fr) fp s2 H2) tg g) (ht:∀C fp s2 H2,PIf (cxComp X scope cl C (cN lv fr) fp s2 H2) ifs tt) (he:∀C fp s2 H2,PE (cxComp X scope cl C (cN lv fr) fp s2 H2) elt te)
  (hs:∀x,foldedSetIterable iter X.env x=pure x:=by intro _;rfl):PE X (.ListComp elt [⟨tg,iter,ifs,0⟩] scope pos) (tComp lv fr wi g tt te):=by
 intro pins s σ H Q I h;rw[eval_ListComp];refine wpAny_comprehension_free (use:=none) rfl hs (zif_ S.clos) S.kind S.names ?_;refine thn (hi pins s σ H _ I h) λv s1 h1=>thn h1 λiy s2 h2=>?_
 obtain⟨it,fp,tn,J,H2,e,I2,T,bY,f2,q⟩:=h2;subst e;refine zgy_ I2 S T bY f2 hc hg ht he q λD C oC H' s' J1 j7 fC qD=>?_
 have hp:=J1.pin (C,oC) (p5 _ (p5 _ (pS.mpr rfl)));obtain⟨m,hm⟩:=j7 s'.heap hp.1;refine⟨m,hm,λh' bw=>?_⟩
 exact⟨.ref D,H',J1.unpinned.turned (t':=s'.toks) (λb o hb e=>(bw.2 b hb).trans e) fC.1 fC.2.1 fC.2.2.2.1 fC.2.2.2.2.1 fC.2.2.2.2.2,rfl,qD⟩
theorem zjC_ {wi:TI}{j:Nat}{y:Str}{py gc:Pos}(hc:X.calm=true)(S:CScope X scope cl lv fr)(hi:PI X tg iter wi)
  (hg:∀C fp s2 H2,PG (cxComp X scope cl C (cN lv fr) fp s2 H2) tg g) (ht:∀C fp s2 H2,PIf (cxComp X scope cl C (cN lv fr) fp s2 H2) ifs tt) (he:∀C fp s2 H2,PE (cxComp X scope cl C (cN lv fr) fp s2 H2) elt te)
  (hy:PG X (.Name y py) (gName j))
  (oB:swapsWith (.ListComp elt [⟨tg,iter,ifs,0⟩] scope pos) (some (.Name y py)) gc.line X.env=pure true:=by rfl)
  (hs:∀x,foldedSetIterable iter X.env x=pure x:=by intro _;rfl):PS X (.Assign [.Name y py] (.ListComp elt [⟨tg,iter,ifs,0⟩] scope pos) gc) (tAsg (tComp lv fr wi g tt te) (gName j)):=by
 intro pins s σ H D I h;rw[exec_Assign_Name_used _ _ _ _ oB];refine iV (wpAny_standAt (iV ?_));show nI _ X.A (do let _ <- comprehension (.ListComp elt [⟨tg,iter,ifs,0⟩] scope pos) scope X.env _ (newList []) false (eval iter X.env) (some (assign (.Name y py) X.env))) _ _ s
 refine iV (qH (wpAny_comprehension_free (use:=some (assign (.Name y py) X.env)) (Q:=λ_ s'=>SP X pins D .next s') rfl hs (zif_ S.clos) S.kind S.names ?_) (λ_ s' hq=>nh (nh hq)) λ_ _ e=>e)
 refine thn (hi pins s σ H _ I h) λv s1 h1=>thn h1 λiy s2 h2=>?_
 obtain⟨it,fp,tn,J,H2,e,I2,T,bY,f2,q⟩:=h2;subst e;refine zgy_ I2 S T bY f2 hc hg ht he q λD' C oC H' s' J1 j7 fC qD=>?_
 show nI _ X.A (assign (.Name y py) X.env (.ref D')) _ _ _
 refine thn (hy _ s' σ H' (.ref D') (.ref D') _ J1 rfl qD) λ_ s3 af=>?_
 obtain⟨ck,H3,I3,q3⟩:=af;have hp:=I3.pin (C,oC) (p5 _ (p5 _ (pS.mpr rfl)));obtain⟨m,hm⟩:=j7 s3.heap hp.1;refine⟨m,hm,λh' bw=>?_⟩
 have gZ:FpOk X pins H3 C:=⟨hp.2.1,fC.2⟩;exact⟨ck,H3,I3.unpinned.turned (t':=s3.toks) (λb o hb e=>(bw.2 b hb).trans e) gZ.1 gZ.2.1 gZ.2.2.2.1 gZ.2.2.2.2.1 gZ.2.2.2.2.2,q3⟩
end
abbrev tx (l:List Nat):V:=.str ⟨l.toArray⟩
def br (b:Bool)(A B:Prop):Prop:=(b=true->A)/\(b=false->B)
theorem zqH_ (a b:Str):a++b=⟨(a.cps.toList++b.cps.toList).toArray⟩:=by
 cases a;cases b;show Str.mk (_++_)=_
 simp
theorem zb3_ (a:Str):a=⟨a.cps.toList.toArray⟩:=by cases a;simp
def cutL (l:List Nat)(lo hi:Option Int):List Nat:=(l.drop (HT.sIx l.length 0 lo)).take (HT.sIx l.length l.length hi-HT.sIx l.length 0 lo)
theorem zeS_ (lo hi:Option Int)(n:Nat):qM lo hi 1 n=sliceRange ((HT.sIx n 0 lo:Nat):Int) ((HT.sIx n n hi:Nat):Int) 1:=by
 unfold qM;simp only[show(1:Int) > 0 by decide,if_true]
 congr 1
 ·cases lo with
  |none=>simp[HT.sIx]
  |some i=>
   simp only[HT.sIx];grind
 ·cases hi with
  |none=>simp[HT.sIx]
  |some i=>
   simp only[HT.sIx];grind
theorem zks_ (x:Str)(lo hi:Option Int):(qM lo hi 1 x.length).filterMap (x.cps[·]?)=cutL x.cps.toList lo hi:=by
 rw[zeS_,sliceRange_one,pick_run];unfold cutL rV;simp only[qZ]
theorem zfQ_ (l:List Nat)(lo hi:Option Int):(cutL l lo hi).length<=l.length:=by
 unfold cutL;rw[rp,rO];lia
theorem zl5_ {l:List Nat}{lo hi:Option Int}(h:(cutL l lo hi).length=l.length):cutL l lo hi=l:=by
 unfold cutL at h ⊢;rw[rp,rO]at h;have h1:HT.sIx l.length l.length hi<=l.length:=HT.sIx_le _ _ (nG _) _;by_cases hl:l.length=0
 ·have:l=[]:=rP.mp hl
  subst this;simp
 ·have h2:HT.sIx l.length 0 lo=0:=by lia
  rw[h2,vQ,ur];lia
section
variable {X:Cx}
def rSlS:V->Option Int->Option Int->Hp->VK->Prop:=λx lo hi H Q=>match x with |.str z=>z.length<=pX/\Q (tx (cutL z.cps.toList lo hi)) H |_=>False
theorem zc2_ {v:aL}{o:Option Int}(p:IsPart v o):∃l:Option (Int×Tok),v=partValue l/\l.map (·.1)=o:=by
 cases p with
 |none=>exact⟨none,rfl,rfl⟩
 |int i t=>exact⟨some (i,t),rfl,rfl⟩
theorem zsk_:SlR X rSlS:=by
 intro pins s σ H x v vl vu lo hi sl Q I rx hs pl pu h;cases x with
 |str z=>
  obtain⟨hz,q⟩:=h;obtain⟨t,rfl⟩:=rx;obtain⟨l,rfl,rfl⟩:=zc2_ pl;obtain⟨u,rfl,rfl⟩:=zc2_ pu;refine⟨"str",_,wm.lookup,typeIs_str _ _ _,?_⟩;refine wpAny_getItem_str_slice (l:=l) (u:=u) (st:=none) hs rfl ?_;unfold sliceMade;have e:slicePicked z l u none=qM (l.map (·.1)) (u.map (·.1)) 1 z.length:=rfl;rw[e];have hlen:(qM (l.map (·.1)) (u.map (·.1)) 1 z.length).length=(cutL z.cps.toList (l.map (·.1)) (u.map (·.1))).length:=by
   rw[zeS_,sliceRange_one,l6,qY];unfold cutL;rw[rp,rO];have h1:HT.sIx z.length z.length (u.map (·.1))<=z.length:=HT.sIx_le _ _ (nG _) _;have h2:z.cps.toList.length=z.length:=by simp[rV]
   rw[h2];lia
  split
  ·rename_i hc
   have dg:(cutL z.cps.toList (l.map (·.1)) (u.map (·.1))).length=z.cps.toList.length:=by
    rw[<- hlen]
    simpa [rV]using hc
   rw[zl5_ dg]at q;have q':Q (.str z) H:=by rw[zb3_ z];exact q
   exact⟨.str z,H,I,⟨_,rfl⟩,q'⟩
  ·rw[zks_]
   have h3:=zfQ_ z.cps.toList (l.map (·.1)) (u.map (·.1));have h2:z.cps.toList.length=z.length:=by simp[rV]
   refine⟨?_,tx (cutL z.cps.toList (l.map (·.1)) (u.map (·.1))),H,I.tok _,⟨_,rfl⟩,q⟩;show(cutL z.cps.toList (l.map (·.1)) (u.map (·.1))).toArray.size<=pX
   rw[ng];exact qV h3 (by rw[h2];exact hz)
 |_=>exact h.elim
end
def mVar (i:Nat):TE:=λσ H Q=>match σ[i]? with |some (some v)=>Q v H |_=>False
section
variable {X:Cx}{a b c:qF}{ta tb tc:TE}{pos:Pos}
theorem zl_ (i:Nat){x:Str}{pos:Pos}(hN:X.N[i]?=some x:=by rfl)(hv:Vis X.env.scope x:=by first |exact xo rfl |exact xp (xo rfl)|exact xp (xp rfl))(hd:(x==("__debug__":Str))=false:=by decide)
  (bB:(x==("__classdict__":Str))=false:=by decide):PE X (.Name x pos) (mVar i):=by
 intro pins s σ H Q I h;unfold mVar at h;cases e:σ[i]? with
 |none=>rw[e]at h;exact h.elim
 |some o=>
  rw[e]at h;cases o with
  |none=>exact h.elim
  |some v=>exact zss_ hN hv hd bB pins s σ H Q I ⟨v,e,h⟩
theorem zfi_ {x:Str}{l:List Nat}{j pos}(h:x=⟨l.toArray⟩:=by rfl):PE X (.Constant (.str x) j pos) (tC (tx l)):=h ▸ zqQ_
noncomputable def mAdd:R2:=λx y H Q=>match x,y with
 |.int i,.int j=>Q (.int (i+j)) H
 |.str a,.str b=>a.cps.toList.length+b.cps.toList.length<=pX/\Q (tx (a.cps.toList++b.cps.toList)) H
 |.ref a,.ref b=>∃xs zs,H a=some (.lst xs)/\H b=some (.lst zs)/\xs.length+zs.length<=pX/\∀p,H p=none->Q (.ref p) (upd H p (.lst (xs++zs)))
 |_,_=>False
theorem zhe_:OpR X (sq .Add) mAdd:=by
 intro pins s σ H x y v u Q I rx ry h
 cases x<;>cases y<;>first
  |exact h.elim
  |exact zsA_ pins s σ H _ _ v u Q I rx ry ⟨_,_,rfl,rfl,h⟩
  |exact zjZ_ pins s σ H _ _ v u Q I rx ry ⟨_,_,rfl,rfl,by simpa [rV]using h.1,by rw[zqH_];exact h.2⟩
  |(obtain⟨xs,zs,h1,h2,h3,h4⟩:=h;exact zsr_ pins s σ H _ _ v u Q I rx ry ⟨_,_,xs,zs,rfl,rfl,h1,h2,h3,h4⟩)
def mI (C:Int->Int->Prop)(g:Int->Int->V):R2:=λx y H Q=>match x,y with |.int i,.int j=>C i j/\Q (g i j) H |_,_=>False
def mI0 (g:Int->Int->V):R2:=λx y H Q=>match x,y with |.int i,.int j=>Q (g i j) H |_,_=>False
theorem opM {f:aL->aL->Sem aL}{C:Int->Int->Prop}{g:Int->Int->V}(h:OpR X f (rI C g)):OpR X f (mI C g):=by
 intro pins s σ H x y v u Q I rx ry q;cases x<;>cases y<;>first |exact q.elim |exact h pins s σ H _ _ v u Q I rx ry ⟨_,_,rfl,rfl,q.1,q.2⟩
theorem opM0 {f:aL->aL->Sem aL}{g:Int->Int->V}(h:OpR X f (rI0 g)):OpR X f (mI0 g):=by
 intro pins s σ H x y v u Q I rx ry q;cases x<;>cases y<;>first |exact q.elim |exact h pins s σ H _ _ v u Q I rx ry ⟨_,_,rfl,rfl,q⟩
abbrev mSub:R2:=mI0 λi j=>.int (i-j)
abbrev mMod:R2:=mI (λ_ j=>0<j) λi j=>.int (i % j)
abbrev mPow:R2:=mI CPow λi j=>.int (i ^ j.toNat)
theorem zqn_:OpR X (sq .Sub) mSub:=opM0 zst_
theorem zfy_:OpR X (sq .Mod) mMod:=opM zsO_
theorem zpR_:OpR X (sq .Pow) mPow:=opM zsx_
noncomputable def mEqB (x y:V):Option Bool:=match x,y with
 |.int i,.int j=>some (decide (i=j))
 |.str a,.str b=>some (decide (a.cps.toList=b.cps.toList))
 |.bl a,.bl b=>some (decide (a=b))
 |.non,.non=>some true
 |.non,.int _=>some false |.int _,.non=>some false |.non,.bl _=>some false |.bl _,.non=>some false |.non,.str _=>some false |.str _,.non=>some false
 |.int _,.str _=>some false |.str _,.int _=>some false |.bl _,.str _=>some false |.str _,.bl _=>some false
 |_,_=>none
theorem zjy_ {x y:V}{b:Bool}(h:mEqB x y=some b):scal x y=true/\decide (x=y)=b:=by
 cases x<;>cases y<;>first
  |(cases(show(none:Option Bool)=some b from h);done)
  |(refine⟨rfl,?_⟩;have h':=qW h;rw[<- h'];first |rfl |(simp;done))
  | (rename_i a b'
     refine⟨rfl,?_⟩;have h':=qW h;rw[<- h',decide_eq_decide];constructor
     ·intro e;cases e;rfl
     ·intro e;rw[zb3_ a,zb3_ b',e])
def mEq:R2:=λx y H Q=>match mEqB x y with |some b=>Q (.bl b) H |none=>False
def mNe:R2:=λx y H Q=>match mEqB x y with |some b=>Q (.bl (!b)) H |none=>False
theorem zsy_:OpR X (qB .Eq) mEq:=by
 intro pins s σ H x y v u Q I rx ry h;unfold mEq at h;cases e:mEqB x y with
 |none=>rw[e]at h;exact h.elim
 |some b=>
  rw[e]at h;obtain⟨h1,h2⟩:=zjy_ e;exact op_eq pins s σ H x y v u Q I rx ry ⟨h1,by rw[h2];exact h⟩
theorem zsP_:OpR X (qB .NotEq) mNe:=by
 intro pins s σ H x y v u Q I rx ry h;unfold mNe at h;cases e:mEqB x y with
 |none=>rw[e]at h;exact h.elim
 |some b=>
  rw[e]at h;obtain⟨h1,h2⟩:=zjy_ e;exact op_ne pins s σ H x y v u Q I rx ry ⟨h1,by rw[h2];exact h⟩
abbrev mLt:R2:=mI0 λi j=>.bl (decide (i<j))
abbrev mLe:R2:=mI0 λi j=>.bl (decide (i<=j))
abbrev mGt:R2:=mI0 λi j=>.bl (decide (j<i))
abbrev mGe:R2:=mI0 λi j=>.bl (decide (j<=i))
theorem zsc_:OpR X (qB .Lt) mLt:=opM0 op_lt
theorem ztm_:OpR X (qB .LtE) mLe:=opM0 op_le
theorem zqW_:OpR X (qB .Gt) mGt:=opM0 op_gt
theorem ztj_:OpR X (qB .GtE) mGe:=opM0 op_ge
def mIsB (x y:V):Option Bool:=match y with
 |.non=>some (decide (x=.non))
 |.bl b=>(match x with |.bl a=>some (decide (a=b))|_=>none)
 |_=>none
def mIs:R2:=λx y H Q=>match mIsB x y with |some b=>Q (.bl b) H |none=>False
def mIsNot:R2:=λx y H Q=>match mIsB x y with |some b=>Q (.bl (!b)) H |none=>False
theorem zo1_ {M:Model}{A:qu}{E:aL->kZ->Prop}{s:kZ}{a b:Bool}{Q:aL->kZ->Prop}(h:Q (.bool (decide (a=b))) s):nI M A (qB .Is (.bool a) (.bool b)) Q E s:=by
 cases a<;>cases b<;>exact nh h
theorem ziO_ {M:Model}{A:qu}{E:aL->kZ->Prop}{s:kZ}{a b:Bool}{Q:aL->kZ->Prop}(h:Q (.bool (!decide (a=b))) s):nI M A (qB .IsNot (.bool a) (.bool b)) Q E s:=by
 cases a<;>cases b<;>exact nh h
theorem zp5_:OpR X (qB .Is) mIs:=by
 intro pins s σ H x y v u Q I rx ry h;unfold mIs mIsB at h;cases y with
 |non=>exact zsi_ pins s σ H x _ v u Q I rx ry ⟨rfl,h⟩
 |bl b=>
  cases x with
  |bl a=>cases rx;cases ry;exact zo1_ ⟨.bl _,H,I,rfl,h⟩
  |_=>exact h.elim
 |_=>exact h.elim
theorem zmr_:OpR X (qB .IsNot) mIsNot:=by
 intro pins s σ H x y v u Q I rx ry h;unfold mIsNot mIsB at h;cases y with
 |non=>exact zqr_ pins s σ H x _ v u Q I rx ry ⟨rfl,h⟩
 |bl b=>
  cases x with
  |bl a=>cases rx;cases ry;exact ziO_ ⟨.bl _,H,I,rfl,h⟩
  |_=>exact h.elim
 |_=>exact h.elim
def inS (l:List Nat)(t:List Nat):Bool:=match l with |[c]=>decide (c∈t)|_=>!(tD ⟨t.toArray⟩ ⟨l.toArray⟩ 0 t.length 1).isEmpty
theorem zmv_ (a b:Str):(!(tD b a 0 b.length 1).isEmpty)=inS a.cps.toList b.cps.toList:=by
 have e:b.length=b.cps.toList.length:=by simp[rV]
 unfold inS;split
 ·rename_i c hc
  have ea:a=⟨#[c]⟩:=by rw[zb3_ a,hc]
  rw[ea];exact StrLaws.found_one b c
 ·rw[<- zb3_,<- zb3_,e]
noncomputable def mIn (K:Fgg)(neg:Bool):R2:=λx y H Q=>match y with
 |.str b=>(match x with |.str a=>Q (.bl (if neg then !inS a.cps.toList b.cps.toList else inS a.cps.toList b.cps.toList)) H |_=>False)
 |.ref p=>∃xs,(SqL K H p xs\/SqT K H p xs)/\flatV x=true/\xs.all flatV=true/\Q (.bl (if neg then !inV x xs else inV x xs)) H
 |_=>False
theorem zto_:OpR X (qB .In) (mIn X.K false):=by
 intro pins s σ H x y v u Q I rx ry h;unfold mIn at h;cases y with
 |str b=>
  cases x with
  |str a=>exact zmq_ pins s σ H _ _ v u Q I rx ry ⟨_,_,rfl,rfl,by rw[zmv_];exact h⟩
  |_=>exact h.elim
 |ref p=>
  obtain⟨xs,h1,h2,h3,h4⟩:=h;exact zmf_ pins s σ H _ _ v u Q I rx ry ⟨_,xs,rfl,h1,h2,h3,h4⟩
 |_=>exact h.elim
theorem zlW_:OpR X (qB .NotIn) (mIn X.K true):=by
 intro pins s σ H x y v u Q I rx ry h;unfold mIn at h;cases y with
 |str b=>
  cases x with
  |str a=>exact zho_ pins s σ H _ _ v u Q I rx ry ⟨_,_,rfl,rfl,by rw[zmv_];exact h⟩
  |_=>exact h.elim
 |ref p=>
  obtain⟨xs,h1,h2,h3,h4⟩:=h;exact zhT_ pins s σ H _ _ v u Q I rx ry ⟨_,xs,rfl,h1,h2,h3,h4⟩
 |_=>exact h.elim
def mTest (t:TE):TT:=λσ H Q=>t σ H λx H'=>match x with |.bl k=>Q k H' |_=>False
def mAndV (ta tb:TE):TE:=λσ H Q=>ta σ H λx H1=>match x with |.bl c=>br c (tb σ H1 Q) (Q (.bl false) H1)|_=>False
def mOrV (ta tb:TE):TE:=λσ H Q=>ta σ H λx H1=>match x with |.bl c=>br c (Q (.bl true) H1) (tb σ H1 Q)|_=>False
def mNotV (ta:TE):TE:=λσ H Q=>ta σ H λx H1=>match x with |.bl c=>Q (.bl (!c)) H1 |_=>False
def mAnd (t u:TT):TT:=λσ H Q=>t σ H λc H1=>br c (u σ H1 Q) (Q false H1)
def mOr (t u:TT):TT:=λσ H Q=>t σ H λc H1=>br c (Q true H1) (u σ H1 Q)
variable {rest:List qF}{tA ie:TT}
theorem zp9_ (ha:PE X a ta)(hb:PE X (.BoolOp .And (b::rest) pos) tb):PE X (.BoolOp .And (a::b::rest) pos) (mAndV ta tb):=by
 intro pins s σ H Q I h;refine BoolOp_and (thn (ha pins s σ H _ I h) λv s1 af=>?_)
 obtain⟨x,H1,I1,r1,q1⟩:=af;cases x with
 |bl c=>
  cases r1;refine rj ?_;cases c with
  |true=>exact hb pins s1 σ H1 Q I1 (q1.1 rfl)
  |false=>exact⟨.bl false,H1,I1,rfl,q1.2 rfl⟩
 |_=>exact q1.elim
theorem zsX_ (ha:PE X a ta)(hb:PE X (.BoolOp .Or (b::rest) pos) tb):PE X (.BoolOp .Or (a::b::rest) pos) (mOrV ta tb):=by
 intro pins s σ H Q I h;refine BoolOp_or (thn (ha pins s σ H _ I h) λv s1 af=>?_)
 obtain⟨x,H1,I1,r1,q1⟩:=af;cases x with
 |bl c=>
  cases r1;refine rj ?_;cases c with
  |false=>exact hb pins s1 σ H1 Q I1 (q1.2 rfl)
  |true=>exact⟨.bl true,H1,I1,rfl,q1.1 rfl⟩
 |_=>exact q1.elim
theorem zrN_ (ha:PE X a ta):PE X (.UnaryOp .Not a pos) (mNotV ta):=by
 intro pins s σ H Q I h;refine UnaryOp_ (thn (ha pins s σ H _ I h) λv s1 af=>?_)
 obtain⟨x,H1,I1,r1,q1⟩:=af;cases x with
 |bl c=>cases r1;exact not_of (rj ⟨.bl (!c),H1,I1,rfl,q1⟩)
 |_=>exact q1.elim
theorem znc_ (ha:PT X a tA)(hb:PW X (.BoolOp .And (b::rest) pos) ie):PW X (.BoolOp .And (a::b::rest) pos) (mAnd tA ie):=by
 intro wh pins s σ H Q I h;refine isTrue_and (thn (ha pins s σ H _ I h) λc s1 af=>?_)
 obtain⟨H1,I1,q1⟩:=af;cases c with
 |true=>exact hb wh pins s1 σ H1 Q I1 (q1.1 rfl)
 |false=>exact⟨H1,I1,q1.2 rfl⟩
theorem zs7_ (ha:PT X a tA)(hb:PW X (.BoolOp .Or (b::rest) pos) ie):PW X (.BoolOp .Or (a::b::rest) pos) (mOr tA ie):=by
 intro wh pins s σ H Q I h;refine isTrue_or (thn (ha pins s σ H _ I h) λc s1 af=>?_)
 obtain⟨H1,I1,q1⟩:=af;cases c with
 |true=>exact⟨H1,I1,q1.1 rfl⟩
 |false=>exact hb wh pins s1 σ H1 Q I1 (q1.2 rfl)
theorem zpC_ {e:qF}{t:TE}(h:PE X e t)(he:∀whole,isTrue e X.env whole=(do let v <- whole;standAt e.pos;holding [v] (truthy v)):=by intro _;rfl):PT X e (mTest t):=by
 intro pins s σ H Q I hw;refine isTrue_plain (thn (h pins s σ H _ I hw) λv s1 af=>?_) (he _)
 obtain⟨x,H1,I1,r1,q1⟩:=af;cases x with
 |bl c=>cases r1;exact rj ⟨H1,I1,q1⟩
 |_=>exact q1.elim
theorem zjH_ {op:CmpOp}{r:R2}(ho:OpR X (qB op) r)(ha:PE X a ta)(hb:PE X b tb)(hm:behindInMarks op b=false:=by first |exact nobehind _ (by decide) (by decide)|rfl):PT X (.Compare a [op] [b] pos) (mTest (tOp r ta tb)):=by
 intro pins s σ H Q I hw;refine wpAny_isTrue_Compare1 (binT ha hb I hw λv u s2 x y H2 I2 rx ry q=>?_) hm
 refine thn (ho pins s2 σ H2 x y v u _ I2 rx ry q) λc s3 af=>?_
 obtain⟨z,H3,I3,r3,q3⟩:=af;cases z with
 |bl k=>cases r3;exact rj ⟨H3,I3,q3⟩
 |_=>exact q3.elim
theorem zmU_ {op:CmpOp}{r:R2}(ho:OpR X (qB op) r)(ha:PE X a ta)(hb:PE X b tb)(hm:behindInMarks op b=false:=by first |exact nobehind _ (by decide) (by decide)|rfl):PE X (.Compare a [op] [b] pos) (tOp r ta tb):=zqh_ ho ha hb hm
def mIf (t:TT)(ta tb:TE):TE:=λσ H Q=>t σ H λc H1=>br c (ta σ H1 Q) (tb σ H1 Q)
theorem zs6_ {c:qF}(hc:PT X c tA)(ha:PE X a ta)(hb:PE X b tb):PE X (.IfExp c a b pos) (mIf tA ta tb):=by
 intro pins s σ H Q I h;refine wpAny_IfExp (thn (hc pins s σ H _ I h) λd s1 af=>?_)
 obtain⟨H1,I1,q1⟩:=af;cases d with
 |true=>exact ha pins s1 σ H1 Q I1 (q1.1 rfl)
 |false=>exact hb pins s1 σ H1 Q I1 (q1.2 rfl)
def mIfS (c:TT)(t u:TS):TS:=λD σ H=>c σ H λb H1=>br b (t D σ H1) (u D σ H1)
theorem zmp_ {c:qF}{a b:List qL}{tc:TT}{t u:TS}(hc:PT X c tc)(ha:PSs X a t)(hb:PSs X b u):PS X (.If c a b pos) (mIfS tc t u):=by
 intro pins s σ H D I h;refine wpAny_If (thn (hc pins s σ H _ I h) λd s1 af=>?_)
 obtain⟨H1,I1,q1⟩:=af;cases d with
 |true=>exact ha pins s1 σ H1 D I1 (q1.1 rfl)
 |false=>exact hb pins s1 σ H1 D I1 (q1.2 rfl)
def mChain (r r':R2)(ta tb tc:TE):TE:=λσ H Q=>ta σ H λx H1=>tb σ H1 λy H2=>r x y H2 λz H3=>match z with |.bl k=>br k (tc σ H3 λw H4=>r' y w H4 Q) (Q (.bl false) H3)|_=>False
theorem zlx_ {op eW:CmpOp}{r r':R2}(ho:OpR X (qB op) r)(bR:OpR X (qB eW) r')(ha:PE X a ta)(hb:PE X b tb)(hc:PE X c tc)
  (hm:lastMarks [op,eW] [b,c]=false:=by with_unfolding_all rfl):PE X (.Compare a [op,eW] [b,c] pos) (mChain r r' ta tb tc):=by
 intro pins s σ H Q I h;refine Compare_chain (thn (ha pins s σ H _ I h) λv s1 ⟨x,H1,I1,r1,q1⟩=>chain_link (thn (hb pins s1 σ H1 _ I1 q1) λu s2 ⟨y,H2,I2,r2,q2⟩=>
  thn (ho pins s2 σ H2 x y v u _ I2 r1 r2 q2) λd s3 ⟨z,H3,I3,r3,q3⟩=>?_)) hm
 cases z with
 |bl k=>
  cases r3;refine rj ?_;cases k with
  |false=>exact ite_ff ⟨.bl false,H3,I3,rfl,q3.2 rfl⟩
  |true=>exact ite_tt (chain_last (thn (hc pins s3 σ H3 _ I3 (q3.1 rfl)) λw' s4 ⟨z',H4,I4,r4,q4⟩=>bR pins s4 σ H4 y z' u w' Q I4 r2 r4 q4))
 |_=>exact q3.elim
end
section
variable {X:Cx}{a b c e:qF}{ta:TE}{t:TA}
def mIx (K:Fgg):R2:=λx y H Q=>match y with
 |.int i=>(match x with
  |.ref p=>∃xs,(SqL K H p xs\/SqT K H p xs)/\(match atI xs i with |some v=>Q v H |none=>False)
  |.str z=>z.cps.toList.length<=pX/\(match atI z.cps.toList i with |some c=>Q (tx [c]) H |none=>False)
  |_=>False)
 |_=>False
theorem ix_M:IxR X (mIx X.K):=by
 intro value slice pins s σ H x y v u Q I rx ry h jH;unfold mIx at h;cases y with
 |int i=>
  cases x with
  |ref p=>
   obtain⟨xs,hs,h⟩:=h;cases ev:atI xs i with
   |none=>rw[ev]at h;exact h.elim
   |some w'=>
    rw[ev]at h;rcases hs with hs |hs
    ·exact zq0_ value slice pins s σ H _ _ v u Q I rx ry ⟨p,xs,i,w',rfl,rfl,hs,ev,h⟩ jH
    ·exact ztb_ value slice pins s σ H _ _ v u Q I rx ry ⟨p,xs,i,w',rfl,rfl,hs,ev,h⟩ jH
  |str z=>
   obtain⟨hz,h⟩:=h;cases ev:atI z.cps.toList i with
   |none=>rw[ev]at h;exact h.elim
   |some w'=>
    rw[ev]at h;exact zsl_ value slice pins s σ H _ _ v u Q I rx ry ⟨z,i,w',rfl,rfl,by simpa [rV]using hz,ev,h⟩ jH
  |_=>exact h.elim
 |_=>exact h.elim
def mSl (K:Fgg):V->Option Int->Option Int->Hp->VK->Prop:=λx lo hi H Q=>match x with
 |.str z=>z.cps.toList.length<=pX/\Q (tx (cutL z.cps.toList lo hi)) H
 |.ref a=>∃xs,SqL K H a xs/\∀p,H p=none->Q (.ref p) (upd H p (.lst (cutV xs lo hi)))
 |_=>False
theorem sl_M:SlR X (mSl X.K):=by
 intro pins s σ H x v vl vu lo hi sl Q I rx hs pl pu h;unfold mSl at h;cases x with
 |str z=>exact zsk_ pins s σ H _ v vl vu lo hi sl Q I rx hs pl pu ⟨by simpa [rV]using h.1,h.2⟩
 |ref p=>
  obtain⟨xs,h1,h2⟩:=h;exact zq4_ pins s σ H _ v vl vu lo hi sl Q I rx hs pl pu ⟨p,xs,rfl,h1,h2⟩
 |_=>exact h.elim
def mPart (t:TE):TO:=λσ H Q=>t σ H λx H1=>match x with |.int i=>Q (some i) H1 |_=>False
theorem po_M (h:PE X e ta):PO X (some e) (mPart ta):=by
 intro pins s σ H Q I hw;rw[evalPart_some];refine thn (h pins s σ H _ I hw) λu s1 af=>?_
 obtain⟨x,H1,I1,r1,q1⟩:=af;cases x with
 |int i=>obtain⟨t,rfl⟩:=r1;exact⟨some i,H1,I1,.int i t,q1⟩
 |_=>exact q1.elim
def mLen (K:Fgg):List V->Hp->VK->Prop:=λxs H Q=>match xs with
 |[.str z]=>z.cps.toList.length<=pX/\Q (.int z.cps.toList.length) H
 |[.ref p]=>∃ys,(SqL K H p ys\/SqT K H p ys)/\Q (.int ys.length) H
 |_=>False
theorem zpe_ {K:Fgg}{xs:List V}{H:Hp}{Q:VK}(h:mLen K xs H Q):(∃z,xs=[.str z]/\z.cps.toList.length<=pX/\Q (.int z.cps.toList.length) H)\/∃p ys,xs=[.ref p]/\(SqL K H p ys\/SqT K H p ys)/\Q (.int ys.length) H:=by
 rcases xs with _ |⟨x,_ |⟨y,t⟩⟩
 ·exact qk h
 ·cases x with
  |str z=>exact .inl ⟨z,rfl,h⟩
  |ref p=>obtain⟨ys,h⟩:=h;exact .inr ⟨p,ys,rfl,h⟩
  |_=>exact qk h
 ·cases x<;>exact qk h
theorem zfK_:CallR X (.builtin "len") (mLen X.K):=by
 intro pins s σ H xs us Q I r h;rcases zpe_ h with⟨z,rfl,h⟩|⟨p,ys,rfl,h1,h2⟩
 ·exact zhD_ pins s σ H _ us Q I r ⟨_,rfl,by simpa [rV]using h.1,by simpa [rV]using h.2⟩
 ·exact zh0_ pins s σ H _ us Q I r ⟨_,ys,rfl,h1,h2⟩
def mTwo (g:Int->Int->Int):List V->Hp->VK->Prop:=λxs H Q=>match xs with |[.int i,.int j]=>Q (.int (g i j)) H |_=>False
theorem znz_ {g:Int->Int->Int}{xs:List V}{H:Hp}{Q:VK}(h:mTwo g xs H Q):∃i j,xs=[.int i,.int j]/\Q (.int (g i j)) H:=by
 rcases xs with _ |⟨x,_ |⟨y,_ |⟨w,t⟩⟩⟩
 ·exact qk h
 ·cases x<;>exact qk h
 ·cases x with
  |int i=>cases y with
   |int j=>exact⟨i,j,rfl,h⟩
   |_=>exact qk h
  |_=>exact qk h
 ·cases x with
  |int i=>cases y<;>exact qk h
  |_=>exact qk h
theorem zl6_ (hc:X.calm=true):CallR X (.builtin "min") (mTwo min):=by
 intro pins s σ H xs us Q I r h;obtain⟨i,j,rfl,h⟩:=znz_ h;refine zlG_ hc pins s σ H _ us Q I r ⟨i,j,rfl,?_⟩;have e:(if j<i then j else i)=min i j:=by split<;>lia
 rw[e];exact h
def tyS (K:Fgg)(H:Hp):V->String->Prop:=λx T=>match x with
 |.non=>T="NoneType" |.bl _=>T="bool" |.int _=>T="int" |.str _=>T="str"
 |.ref p=>(T="list" /\ ∃xs,H p=some (.lst xs))\/(T="tuple" /\ ∃xs,H p=some (.tup xs))
 |_=>False
theorem ztu_ {K:Fgg}{H:Hp}{x:V}{T:String}(h:tyS K H x T):TyOf K H x (.type T):=by
 unfold tyS at h;cases x with
 |non=>subst h;exact .non
 |bl b=>subst h;exact .bl b
 |int i=>subst h;exact .int i
 |str z=>subst h;exact .str z
 |ref p=>
  rcases h with⟨rfl,xs,h⟩|⟨rfl,xs,h⟩
  ·exact .lst h
  ·exact .tup h
 |_=>exact h.elim
def isaB (T c:String):Option Bool:=
 if T=c then some true else if T="bool" /\ c="int" then some true
 else if(T="bool" \/ T="int" \/ T="str" \/ T="list" \/ T="tuple" \/ T="NoneType")/\(c="bool" \/ c="int" \/ c="str" \/ c="list" \/ c="tuple" \/ c="dict")then some false else none
theorem zrw_ {K:Fgg}{T c:String}{b:Bool}(h:isaB T c=some b):xk K (.type T) (.type c)=some b:=by
 unfold isaB at h;split at h
 ·rename_i e;subst e;cases h
  unfold xk;rw[if_pos (by simp)]
 ·split at h
  ·rename_i e;obtain⟨rfl,rfl⟩:=e;cases h;rfl
  ·split at h
   ·rename_i h1 h2 e
    cases h;obtain⟨e1,e2⟩:=e;rcases e1 with rfl |rfl |rfl |rfl |rfl |rfl<;>rcases e2 with rfl |rfl |rfl |rfl |rfl |rfl<;>first |rfl |exact absurd rfl h1 |exact absurd ⟨rfl,rfl⟩ h2
   ·cases h
noncomputable def mIsa (K:Fgg):List V->Hp->VK->Prop:=λxs H Q=>match xs with
 |[.int _,.ty c]=>(match isaB "int" c with |some b=>Q (.bl b) H |none=>False)
 |[.bl _,.ty c]=>(match isaB "bool" c with |some b=>Q (.bl b) H |none=>False)
 |[.str _,.ty c]=>(match isaB "str" c with |some b=>Q (.bl b) H |none=>False)
 |[.non,.ty c]=>(match isaB "NoneType" c with |some b=>Q (.bl b) H |none=>False)
 |[.ref p,.ty c]=>∃T,tyS K H (.ref p) T/\(match isaB T c with |some b=>Q (.bl b) H |none=>False)
 |_=>False
theorem znN_:CallR X (.builtin "isinstance") (mIsa X.K):=by
 intro pins s σ H xs us Q I r h;have key:∀(x:V) (T c:String),xs=[x,.ty c]->tyS X.K H x T->(match isaB T c with |some b=>Q (.bl b) H |none=>False)->nI (model X.prog X.w) X.A (call (.builtin "isinstance") us) (EP X pins σ Q) X.xe s:=by
  intro x T c e ht hq;subst e;obtain⟨u,w',rfl,r1,r2⟩:=vals2 r;cases r2;cases eb:isaB T c with
  |none=>rw[eb]at hq;exact hq.elim
  |some b=>
   rw[eb]at hq;exact zl3_ I r1 (ztu_ ht) (zrw_ eb) λtk=>⟨.bl b,H,I.tok tk,rfl,hq⟩
 unfold mIsa at h;split at h
 ·exact key _ "int" _ rfl rfl h
 ·exact key _ "bool" _ rfl rfl h
 ·exact key _ "str" _ rfl rfl h
 ·exact key _ "NoneType" _ rfl rfl h
 ·obtain⟨T,h1,h2⟩:=h
  exact key _ T _ rfl h1 h2
 ·exact h.elim
def findS (l:List Nat)(t:List Nat):Int:=Txt.find ⟨l.toArray⟩ ⟨t.toArray⟩
theorem zoW_ (l:List Nat)(c:Nat):findS l [c]=(match l.findIdx? (· == c)with |some i=>(i:Int)|none => -1):=by
 unfold findS;rcases find_whole ⟨l.toArray⟩ ⟨[c].toArray⟩with⟨h1,h2⟩|⟨i,h1,h2,h3⟩
 ·rw[h1]
  have:l.findIdx? (· == c)=none:=by
   rw[List.findIdx?_eq_none_iff];intro x hx;obtain⟨j,hj⟩:=tM.mp hx;by_cases hxc:x=c
   ·subst hxc
    exact absurd ((vj ⟨l.toArray⟩ x j).mpr (by simpa using hj)) (h2 j)
   ·simpa using hxc
  rw[this]
 ·rw[h1]
  have hi:l[i]?=some c:=by simpa using(vj ⟨l.toArray⟩ c i).mp h2
  have:l.findIdx? (· == c)=some i:=by
   obtain⟨aD,hget⟩:=qi.mp hi;rw[List.findIdx?_eq_some_iff_getElem];refine⟨aD,by simp[hget],λj hj=>?_⟩
   have oV:j<l.length:=yk hj aD;have hn:=h3 j hj;intro hc;have dg:l[j]=c:=by simpa using hc
   exact hn ((vj ⟨l.toArray⟩ c j).mpr (by simp[oV,dg]))
  rw[this]
def mFind:V->List V->Hp->VK->Prop:=λx xs H Q=>match x,xs with |.str l,[.str t]=>Q (.int (findS l.cps.toList t.cps.toList)) H |_,_=>False
theorem zmk_ {x:V}{xs:List V}{H:Hp}{Q:VK}(h:mFind x xs H Q):∃l t,x=.str l/\xs=[.str t]/\Q (.int (findS l.cps.toList t.cps.toList)) H:=by
 cases x with
 |str l=>
  rcases xs with _ |⟨y,_ |⟨z,t⟩⟩
  ·exact qk h
  ·cases y with
   |str t=>exact⟨l,t,rfl,rfl,h⟩
   |_=>exact qk h
  ·cases y<;>exact qk h
 |_=>exact qk h
theorem zrW_:MtR X "str.find" mFind:=by
 intro pins s σ H x xs v us Q I rx rv h;obtain⟨l,t,rfl,rfl,h⟩:=zmk_ h;obtain⟨k,rfl⟩:=rx;obtain⟨u,rfl,ru⟩:=rv.one;obtain⟨k',rfl⟩:=ru;refine SC.find ?_;have e:Txt.find l t=findS l.cps.toList t.cps.toList:=by unfold findS;rw[<- zb3_,<- zb3_]
 rw[e];exact⟨.int _,H,I.tok _,⟨_,rfl⟩,h⟩
def strsOf:List V->Option (List Str)
 |[]=>some []
 |.str z::r=>(strsOf r).map (z::·)
 |_::_=>none
theorem zkZ_ {vs:List V}{zs:List Str}:strsOf vs=some zs->vs=zs.map V.str:=by
 induction vs generalizing zs with
 |nil=>intro h;cases h;rfl
 |cons v r ih=>
  intro h;cases v with
  |str z=>
   unfold strsOf at h;cases e:strsOf r with
   |none=>rw[e]at h;cases h
   |some y=>rw[e]at h;cases h;rw[ih e];rfl
  |_=>cases h
def joinS (sep:List Nat)(zs:List Str):List Nat:=(Txt.join ⟨sep.toArray⟩ zs).cps.toList
def mJoin (K:Fgg):V->List V->Hp->VK->Prop:=λx xs H Q=>match x,xs with
 |.str l,[.ref D]=>∃vs,(SqL K H D vs)/\(match strsOf vs with |some zs=>JoinOk l zs=true/\Q (tx (joinS l.cps.toList zs)) H |none=>False)
 |_,_=>False
theorem zh6_:∀{zs:List Str}{us:List aL},Vals (zs.map V.str) us->∃l:List (Str×Tok),us=strValues l/\l.map (·.1)=zs
 |[],us,r=>by cases r;exact⟨[],rfl,rfl⟩
 |z::zs,us,r=>by
  cases r with
  |cons r rr=>
   obtain⟨t,rfl⟩:=r;obtain⟨l,rfl,hl⟩:=zh6_ rr;exact⟨(z,t)::l,rfl,by rw[qv,hl]⟩
theorem zlm_ {K:Fgg}{x:V}{xs:List V}{H:Hp}{Q:VK}(h:mJoin K x xs H Q):∃l D,x=.str l/\xs=[.ref D]/\∃vs,(SqL K H D vs)/\(match strsOf vs with |some zs=>JoinOk l zs=true/\Q (tx (joinS l.cps.toList zs)) H |none=>False):=by
 cases x with
 |str l=>
  rcases xs with _ |⟨y,_ |⟨z,t⟩⟩
  ·exact qk h
  ·cases y with
   |ref t=>exact⟨l,t,rfl,rfl,h⟩
   |_=>exact qk h
  ·cases y<;>exact qk h
 |_=>exact qk h
theorem zqD_:MtR X "str.join" (mJoin X.K):=by
 intro pins s σ H x xs v us Q I rx rv h;obtain⟨l,D,rfl,rfl,h⟩:=zlm_ h
 ·obtain⟨k,rfl⟩:=rx
  obtain⟨u,rfl,ru⟩:=rv.one;cases ru;obtain⟨vs,hs,h⟩:=h;cases ez:strsOf vs with
  |none=>rw[ez]at h;exact h.elim
  |some zs=>
   rw[ez]at h;have ev:=zkZ_ ez;subst ev;obtain⟨aa,r,p,hz⟩:=I.list hs;obtain⟨lz,e1,e2⟩:=zh6_ r;subst e1;refine SC.join p.isList e2 h.1 λt' k'=>⟨tx (joinS l.cps.toList zs),H,I.tok _,⟨t',?_⟩,h.2⟩
   unfold joinS;rw[<- zb3_,<- zb3_]
end
theorem zov_ (zs:List Str):joinS [] zs=(zs.map λz=>z.cps.toList).flatten:=by
 unfold joinS Txt.join yE;cases zs with
 |nil=>rfl
 |cons z r=>
  show((r.foldl (λacc p=>acc++#[]++p.cps) z.cps)).toList=_
  have:∀(acc:Array Nat),(r.foldl (λacc p=>acc++#[]++p.cps) acc).toList=acc.toList++(r.map λz=>z.cps.toList).flatten:=by
   induction r with
   |nil=>intro acc;simp
   |cons y r ih=>intro acc;rw[uS,ih];simp
  rw[this];simp
def Gd (P:m7)(w:nL)(K:Fgg)(mg:Str->Option aL)(base:Heap)(CX:CXT)(k:Nat)(x:Str)(ps:List Str)(sp:Sp):Prop:=
 ∃f fd,FnOk P w K mg base CX k f fd ps sp/\mg x=some (.ref f)/\sH K (.ref f)=true/\Binds K fd ps []
def Gc (mg:Str->Option aL)(x:Str)(v:V):Prop:=∃u,mg x=some u/\RelV v u
abbrev Gb (mg:Str->Option aL)(x:Str):Prop:=mg x=none
section
variable {X:Cx}{k:Nat}{x:Str}{ps:List Str}{sp:Sp}{p pos:Pos}{e:qF}{es:List qF}{t:TA}{tg:qF}
theorem zku_ (G:Gd X.prog X.w X.K X.mg X.base CX0 k x ps sp)(hr:Room k X.A)(ha:PA X (e::es) t)(hg:Gl X x:=by rfl)(aB:(x==("__debug__":Str))=false:=by decide)
  (he:qg (e::es) X.env=(false,eval e X.env)::qg es X.env:=by rfl) (ax:(sh pos (qg es X.env)).any (·.1)=false:=by rfl):
  PE X (.Call (.Name x p) (e::es) [] pos) (tCall sp [] E0 t):=by
 obtain⟨f,fd,F,hm,hk,hb⟩:=G;exact zmt_ F hr hg hm hk hb .nil pass0 ha aB he ax
theorem ze6_ {v:V}(h:Gc X.mg x v)(hg:Gl X x:=by rfl)(hd:(x==("__debug__":Str))=false:=by decide):PE X (.Name x pos) (tC v):=by
 obtain⟨u,hm,r⟩:=h;exact zne_ hg hm r hd
theorem zr5_ (T:String)(hm:Gb X.mg x)(hg:Gl X x:=by rfl)(hv:sT x=some (.type T):=by rfl)(hn:x ≠ "__name__":=by decide)(hd:(x==("__debug__":Str))=false:=by decide):PE X (.Name x pos) (tC (.ty T)):=
 zqf_ hg hm hv rfl hn hd
theorem zna_ {id:String}{r:List V->Hp->VK->Prop}(hc:CallR X (.builtin id) r)(hm:Gb X.mg x)(ha:PA X (e::es) t)(hg:Gl X x:=by rfl)(hv:sT x=some (.builtin id):=by rfl)(hn:x ≠ "__name__":=by decide)(aB:(x==("__debug__":Str))=false:=by decide)
  (hs:qg (e::es) X.env=(false,eval e X.env)::qg es X.env:=by rfl) (ax:(sh pos (qg es X.env)).any (·.1)=false:=by rfl):PE X (.Call (.Name x p) (e::es) [] pos) (tCB r t):=
 znY_ hc hg hm hv ha hn aB hs ax
theorem pe_sm {o:qF}{to:TE}{name:Str}{id:String}{r:V->List V->Hp->VK->Prop}{apos ao:Pos}(slot:Slot "str" name id)(jE:typeOf (.builtin id)=pure (.type "method_descriptor"))(hm:MtR X id r)(ho:PE X o to)(ha:PA X (e::es) t)
  (h1:attributeBase o name X.env (eval o X.env)=eval o X.env:=by rfl) (h2:((((sh ao (qg (e::es) X.env)).all λx=>!x.fst) && (xn ao (vP [] X.env)).all λx=>x.fst.isSome) && decide (((e::es).length+([]:List Keyword).length+if([]:List Keyword).isEmpty=true then 0 else 1)<30))=true:=by rfl)
  (h3:(apos.endLine == ao.line)=true:=by rfl) (h4:qg (e::es) X.env=(false,eval e X.env)::qg es X.env:=by rfl) (h5:((sh ao (qg es X.env)).any λx=>x.fst)=false:=by rfl):
  PE X (.Call (.Attribute o name apos) (e::es) [] ao) (tBM X.K "str" r to t):=ztx_ PySem.F.plainAttrs_str slot jE hm ho ha h1 h2 h3 h4 h5
def iAny (K:Fgg)(tl:TE):TI:=λσ H R=>tl σ H λx H1=>match x with
 |.str z=>R (Itp z.cps.toList.length (λi=>tx [z.cps.toList.getD i 0])) H1
 |.ref a=>((∃xs,SqL K H1 a xs)/\R (Itl K a) H1)\/((∃xs,SqT K H1 a xs)/\R (Itt K a) H1)
 |_=>False
theorem zsI_ (z:Str):sgn z=λi=>tx [z.cps.toList.getD i 0]:=by
 funext i;unfold sgn;simp[rR,ql]
theorem zsm_ {l:qF}{tl:TE}(hl:PE X l tl):PI X tg l (iAny X.K tl):=by
 intro pins s σ H R I h;refine thn (hl pins s σ H _ I h) λv s1 af=>?_
 obtain⟨x,H1,I1,r1,q1⟩:=af;have pt:∀(v:V),PE X l (tC v)->PE X l (tC v):=λ_ h=>h
 cases x with
 |str z=>
  obtain⟨t,rfl⟩:=r1;refine wpAny_pyIter_strU ?_;have q:R (Itp z.cps.size (sgn z)) H1:=by
   have e:z.cps.toList.length=z.cps.size:=by simp
   rw[zsI_,<- e];exact q1
  refine⟨s1.heap.objs.size,[s1.heap.objs.size],_,_,H1,rfl,I1.kept (t':=s1.toks) λb o e=>iX _ e,znt_ _ z t,⟨rB _,⟨_,p7 _ rfl,rfl,rfl⟩⟩,λb hb=>?_,q⟩
  have e:b=s1.heap.objs.size:=by simpa using hb
  subst e;exact I1.fpOk (nG _) (I1.hok.fresh (nG _))
 |ref a=>
  cases r1;rcases q1 with⟨⟨xs,hq⟩,q⟩|⟨⟨xs,hq⟩,q⟩
  ·obtain⟨aa,rv,p,hz⟩:=I1.list hq
   refine wpAny_pyIter_list p.isList ?_;refine⟨s1.heap.objs.size,[s1.heap.objs.size],_,_,H1,rfl,I1.kept (t':=s1.toks) λb o e=>iX _ e,zlk_ a _,⟨_,p7 _ rfl,rfl,rfl⟩,λb hb=>?_,q⟩
   have e:b=s1.heap.objs.size:=by simpa using hb
   subst e;exact I1.fpOk (nG _) (I1.hok.fresh (nG _))
  ·obtain⟨aa,rv,p,hz⟩:=I1.tuple hq
   refine wpAny_pyIter_tuple (show s1.heap.IsTuple a aa.toArray from p) ?_
   refine⟨s1.heap.objs.size,[s1.heap.objs.size],_,_,H1,rfl,I1.kept (t':=s1.toks) λb o e=>iX _ e,zjK_ a _,⟨_,p7 _ rfl,rfl,rfl⟩,λb hb=>?_,q⟩
   have e:b=s1.heap.objs.size:=by simpa using hb
   subst e;exact I1.fpOk (nG _) (I1.hok.fresh (nG _))
 |_=>exact q1.elim
def mRng1 (ta:TA):TI:=λσ H R=>ta σ H λvs H1=>match vs with |[.int j] => -(2 ^ 62)<=j/\j<2 ^ 62/\R (Itr 0 j.toNat) H1 |_=>False
def mRng2 (ta:TA):TI:=λσ H R=>ta σ H λvs H1=>match vs with |[.int i,.int j]=>(-(2 ^ 62)<=i/\i<2 ^ 62 /\ -(2 ^ 62)<=j/\j<2 ^ 62)/\R (Itr i (j-i).toNat) H1 |_=>False
end
section
variable {X:Cx}{tg:qF}
theorem zkS_ {a:qF}{ta:TA}{p pos:Pos}(hm:Gb X.mg "range")(ha:PA X [a] ta)(hg:Gl X "range":=by rfl)(hs:qg [a] X.env=[(false,eval a X.env)]:=by rfl):PI X tg (.Call (.Name "range" p) [a] [] pos) (mRng1 ta):=by
 intro pins s σ H R I h;refine Call_ (zhZ_ I hg hm boot_range (rQ (thn (ha pos pins s σ H _ I h) λus s1 af=>?_) hs rfl))
 obtain⟨vs,H1,I1,r1,q1⟩:=af
 try dsimp only at q1
 split at q1
 ·obtain⟨q2,q3,q⟩:=q1
  cases r1 with
  |cons r rr=>
   cases rr;obtain⟨t,rfl⟩:=r;exact call_range_1 (zkJ_ I1 (by lia) (by lia) q2 q3 (by simpa using q))
 ·exact q1.elim
theorem zpx_ {a b:qF}{ta:TA}{p pos:Pos}(hm:Gb X.mg "range")(ha:PA X [a,b] ta)(hg:Gl X "range":=by rfl)(hs:qg [a,b] X.env=[(false,eval a X.env),(false,eval b X.env)]:=by rfl)(bQ:qg [b] X.env=[(false,eval b X.env)]:=by rfl):
  PI X tg (.Call (.Name "range" p) [a,b] [] pos) (mRng2 ta):=by
 intro pins s σ H R I h;refine Call_ (zhZ_ I hg hm boot_range (rQ (thn (ha pos pins s σ H _ I h) λus s1 af=>?_) (by rw[hs,bQ]) (by rw[bQ];rfl)))
 obtain⟨vs,H1,I1,r1,q1⟩:=af
 try dsimp only at q1
 split at q1
 ·obtain⟨⟨q1,q2,q3,q4⟩,q⟩:=q1
  cases r1 with
  |cons r rr=>
   cases rr with
   |cons r' rr=>
    cases rr;obtain⟨t,rfl⟩:=r;obtain⟨t',rfl⟩:=r';exact call_range_2 (zkJ_ I1 q1 q2 q3 q4 q)
 ·exact q1.elim
def gNilM:TGs:=λvs σ H Q=>match vs with |[]=>Q σ H |_=>False
def gConsM (t:TG)(u:TGs):TGs:=λvs σ H Q=>match vs with |v::r=>t v σ H λai H'=>u r ai H' Q |[]=>False
theorem znA_:PGs X [] gNilM:=by
 intro pins s σ H vs us Q I r h;cases vs with
 |nil=>exact zpL_ pins s σ H [] us Q I r ⟨rfl,h⟩
 |cons _ _=>exact h.elim
theorem zlu_ {e:qF}{es:List qF}{t:TG}{u:TGs}(h1:PG X e t)(h2:PGs X es u)
  (hs:(sE (e::es) X.env).map (·.2)=assign e X.env::(sE es X.env).map (·.2):=by rfl):PGs X (e::es) (gConsM t u):=by
 intro pins s σ H vs us Q I r h;cases vs with
 |nil=>exact h.elim
 |cons v vr=>exact zoU_ h1 h2 hs pins s σ H _ us Q I r ⟨v,vr,rfl,h⟩
def gTupM (K:Fgg)(n:Nat)(t:TGs):TG:=λv σ H Q=>match v with |.ref a=>∃xs,SqT K H a xs/\xs.length=n/\t xs σ H Q |_=>False
theorem zk5_ {es:List qF}{k:Nat}{t:TGs}{n:Nat}{pos:Pos}(hc:X.calm=true)(h:PGs X es t)
  (hn:(sE es X.env).length=n:=by rfl) (aM:(sE es X.env).findIdx? (·.1)=none:=by rfl):PG X (.Tuple es k pos) (gTupM X.K n t):=by
 intro pins s σ H v u Q I r hw;cases v with
 |ref a=>
  obtain⟨xs,h1,h2,h3⟩:=hw;exact zte_ hc h hn aM pins s σ H _ u Q I r ⟨a,xs,rfl,h1,h2,h3⟩
 |_=>exact hw.elim
def mNeg (ta:TE):TE:=λσ H Q=>ta σ H λx H1=>match x with |.int i=>Q (.int (-i)) H1 |_=>False
theorem zrl_ {a:qF}{ta:TE}{pos:Pos}(ha:PE X a ta):PE X (.UnaryOp .USub a pos) (mNeg ta):=by
 intro pins s σ H Q I h;refine UnaryOp_ (thn (ha pins s σ H _ I h) λv s1 af=>?_)
 obtain⟨x,H1,I1,r1,q1⟩:=af;cases x with
 |int i=>exact ztr_ pins s1 σ H1 _ v Q I1 r1 ⟨i,rfl,q1⟩
 |_=>exact q1.elim
end
theorem zbY_ {H:Hp}{p:nc}(h:H p=none)(o:HO):Same H (upd H p o):=λb u q=>by rw[zI_ (zbx_ q h)];exact q
theorem Same.tup {K:Fgg}{H H':Hp}{a:nc}{xs:List V}(e:Same H H')(h:SqT K H a xs):SqT K H' a xs:=by
 rcases h with(h |⟨o,h⟩)|h
 ·exact .inl (.inl (e _ _ h))
 ·exact .inl (.inr ⟨o,e _ _ h⟩)
 ·exact .inr h
theorem zdp_ {n:Nat}(h:n<=100000):n<=pX:=by rw[sizeLine_eq];lia
theorem zhY_ {zs:List Str}{sep:Str}(h:zs.length*(sep.length+1)<=100000)(h1:∀z∈zs,z.length<=1):JoinOk sep zs=true:=by
 unfold JoinOk;have key:∀(l:List Str) (acc:Nat),(∀z∈l,z.length<=1)->l.foldl (λx1 x2=>x1+x2.length+sep.length) acc<=acc+l.length*(sep.length+1):=by
  intro l;induction l with
  |nil=>intro acc _;simp
  |cons z r ih=>
   intro acc hz;rw[uS];have h2:=ih (acc+z.length+sep.length) λy hy=>hz y (qa _ hy)
   have h3:=hz z nu;rw[qh,Nat.add_mul];omega
 have q:=key zs 0 h1;rw[List.foldl_toArray];unfold vW;simp only[vk,decide_eq_false_iff_not];have:zs.foldl (λx1 x2=>x1+x2.length+sep.length) 0<=100000:=by omega
 have hl:(100000:Nat)<=pX:=by rw[sizeLine_eq];omega
 omega
section
variable {X:Cx}
def mSet:TSet:=λo i v H Q=>match i with
 |.int k=>(match o with
  |.ref p=>∃xs,H p=some (.lst xs)/\(match ixN xs.length k with |some j=>Q (upd H p (.lst (xs.set j v)))|none=>False)
  |_=>False)
 |_=>False
theorem set_M:PSet X mSet:=by
 intro pins s σ H o i v ov iv u Q I ro ri rv h;unfold mSet at h;cases i with
 |int k=>
  cases o with
  |ref p=>
   obtain⟨xs,h1,h⟩:=h;cases e:ixN xs.length k with
   |none=>rw[e]at h;exact h.elim
   |some j=>
    rw[e]at h;exact zob_ pins s σ H _ _ v ov iv u Q I ro ri rv ⟨p,xs,k,j,rfl,rfl,h1,e,h⟩
  |_=>exact h.elim
 |_=>exact h.elim
theorem zq2_ {n:Nat}{k:Int}(h0:0<=k)(h1:k<n):ixN n k=some k.toNat:=by unfold ixN;rw[if_pos h0,if_pos h1]
def strI (i:Int):List Nat:=(tQ (toString i)).cps.toList
variable {x:Str}{p pos:Pos}{e:qF}{es:List qF}{t:TA}
theorem zsH_ (T:String){r:List V->Hp->VK->Prop}(hc:CallR X (.type T) r)(hm:Gb X.mg x)(ha:PA X (e::es) t)(hg:Gl X x:=by rfl)(hv:sT x=some (.type T):=by rfl)(hn:x ≠ "__name__":=by decide)(aB:(x==("__debug__":Str))=false:=by decide)
  (hs:qg (e::es) X.env=(false,eval e X.env)::qg es X.env:=by rfl) (ax:(sh pos (qg es X.env)).any (·.1)=false:=by rfl):PE X (.Call (.Name x p) (e::es) [] pos) (tCB r t):=
 zl7_ hc hg hm hv ha hn aB hs ax
end
theorem zlE_ (l:List Nat):joinS [] (l.map λc=>(⟨#[c]⟩:Str))=l:=by
 rw[L2.zov_,rN];induction l with
 |nil=>rfl
 |cons c r ih=>rw[qv,si,ih];rfl
def Dc (x:nc)(d:Option nc)(h:Heap):Prop:=∃o,h.get? x=some o/\o.dict=d/\∀vs,o.data=.fields vs->vs[2]?=some .none
theorem zrQ_ (o:wb)(f):(o.mapFields f).dict=o.dict:=by obtain⟨c,d,dt,sl⟩:=o;cases dt<;>rfl
section
variable {M:Model}{A:qu}{E:aL->kZ->Prop}{s:kZ}{base:Heap}{env:Env}{outer l:List Env}{L e:nc}{cls a0 fl:aL}{d:Option nc}{Q:Unit->kZ->Prop}
theorem ent_d {oe:wb}{vs:Array aL}{head:aL}{nx:Bool}(cj:A.frames=some (env::outer))(hl:s.heap.FunFrames base (env::outer))(hf:env.frame=some L)(he:s.heap.get? e=some oe)(cP:base.StaysIn s.heap)(dI:base.get? e=none)(hd:oe.data=.fields vs)(hsz:1<vs.size)(h0:vs[0]?=some a0)(bA:vs[2]?=some .none)
  (k:∀h',vR base (env::outer) e oe.cls a0 (rawInt L) s.heap h'->Dc e oe.dict h'->Q () {s with heap:=h'}):
  nI M A (do let a <- frameOf env;let pl <- entryPlaceOf L nx;let b <- EntryCells.newEntry head a .none (rawInt L) .none pl;setField (.ref e) 1 b) Q E s:=by
 have out:e∉(env::outer).filterMap (·.frame):=λhm=>by obtain⟨_,o,ho,aW⟩:=hl.mem hm;cases he.symm.trans ho;exact aW vs hd
 refine iV (wpAny_frameOf_fun cj hl hf λg1 so=>iV (wpAny_entryPlaceOf λpl ax=>?_))
 unfold EntryCells.newEntry newFields;refine iV (wpAny_newObj_type ?_ (ax.sizeOk5 _ _ _ _ _));have e1:g1.get? e=some oe:=(so.2.1 e out).trans he;have b1:base.StaysIn g1:=λb o q=>(so.2.1 b λhm=>by have:=(hl.mem hm).1;rw[q]at this;cases this).trans (cP b o q)
 have ne:g1.objs.size≠e:=tI (pT e1)
 generalize pf:({cls:=.type "traceback",dict:=none,data:=.fields ([head,.ref L,.none,rawInt L,.none]++(if pl.isEmpty then nE 6 qJ else pl)).toArray}:wb)=ob
 have lZ:ob.data=.fields ([head,.ref L,.none,rawInt L,.none]++(if pl.isEmpty then nE 6 qJ else pl)).toArray:=by rw[<- pf]
 have nR:ob.isFreed=false:=uz lZ;have e2:(g1.push ob).get? e=some oe:=iX ob e1;have d3:=vf hd (·.setIfInBounds 1 (qq g1.objs.size));have e3:=sM (uf (·.setIfInBounds 1 (qq g1.objs.size))) e2 (uz d3);have t3:((g1.push ob).update e (uf (·.setIfInBounds 1 (qq g1.objs.size)))).get? g1.objs.size=some ob:=(rJ _ _ ne.symm).trans (p7 g1 nR);have old:∀b o,b≠e->g1.get? b=some o->((g1.push ob).update e (uf (·.setIfInBounds 1 (qq g1.objs.size)))).get? b=some o:=λb o hb q=>(rJ _ _ hb.symm).trans (iX ob q)
 have bE:∀b o,s.heap.get? b=some o->(∀vs,o.data≠.fields vs)->b≠e:=λb o q aW z=>by rw[z,he]at q;cases q;exact aW vs hd
 refine wpAny_setField e2 hd hsz (k _ ⟨λb o q=>old b o (λz=>by rw[z,dI]at q;cases q) (b1 b o q),hl.of_keeps λb o q aW=>?_,?_,λb o q aW=>?_⟩ ⟨_,e3,zrQ_ _ _,λws q=>by cases d3.symm.trans q;rw[uy (by decide)];exact bA⟩)
 ·obtain⟨sl,z⟩:=so.2.2 b o q;exact⟨_,old b _ (bE b o q aW) z,rfl⟩
 ·exact⟨_,_,_,_,_,e3,⟨Obj.cls_mapFields _ _,by rw[uy (by decide)];exact h0⟩,d3,by simp[hsz],b1.fresh,ne,t3,lZ,by first |(simp;done)|(rcases ax with rfl |⟨_,_,_,_,_,_,_,rfl⟩<;>simp)⟩
 ·obtain⟨sl,z⟩:=so.2.2 b o q;exact⟨sl,old b _ (bE b o q aW) z⟩
theorem fl_d (cP:base.StaysIn s.heap)(hl:s.heap.FunFrames base l)(ht:s.heap.TracedAtW base e cls a0 fl)(hD:Dc e d s.heap)
  (k:∀h',base.StaysIn h'->h'.FunFrames base l->h'.TracedW base e cls a0->s.heap.UpToSlots h'->Dc e d h'->Q () {s with heap:=h'}):nI M A (setFlight (.ref e) none) Q E s:=by
 obtain⟨oe,vs,T,oT,ts,he,hc,hd,h1,hnT,hTe,hT,hdT,h3⟩:=ht;have mG:3<ts.size:=(sI.mp h3).1;have c_:∀b,b≠T->(s.heap.update T (uf (·.setIfInBounds 3 ((none:Option nc).elim qJ λf=>rawInt f)))).get? b=s.heap.get? b:=λb z=>rJ _ _ (tH z)
 have bE:∀b o,s.heap.get? b=some o->(∀vs,o.data≠.fields vs)->b≠T:=λb o q aW z=>by rw[z,hT]at q;cases q;exact aW ts hdT
 unfold setFlight;refine iV (rK he hd h1 ?_);rw[if_pos (show(qq T != qJ)=true by simp)]
 refine wpAny_setField hT hdT mG (k _ (λb o q=>(c_ b λz=>by rw[z,hnT]at q;cases q).trans (cP b o q)) (hl.of_keeps λb o q aW=>⟨o,(c_ b (bE b o q aW)).trans q,rfl⟩) ?_ (λb o q aW=>⟨o.slots,(c_ b (bE b o q aW)).trans q⟩) ?_)
 ·exact⟨oe,vs,T,_,_,(c_ e hTe.symm).trans he,hc,hd,h1,hnT,hTe,sM _ hT (uz (vf hdT _)),vf hdT _,by simp[mG]⟩
 ·obtain⟨o,q,z⟩:=hD;exact⟨o,(c_ e hTe.symm).trans q,z⟩
theorem zqZ_ {oe:wb}{vs:Array aL}(cj:A.frames=some (env::outer))(hl:s.heap.FunFrames base (env::outer))(hf:env.frame=some L)(he:s.heap.get? e=some oe)(cP:base.StaysIn s.heap)(dI:base.get? e=none)(hd:oe.data=.fields vs)(h1:vs[1]?=some .none)(h0:vs[0]?=some a0)(bA:vs[2]?=some .none)
  (k:∀h',vR base (env::outer) e oe.cls a0 (rawInt L) s.heap h'->Dc e oe.dict h'->Q () {s with heap:=h'}):nI M A (noteFrame (.ref e) env) Q E s:=by
 unfold noteFrame;simp only[hf];refine iV (rK he hd h1 ?_);rw[if_neg (by decide)]
 exact ent_d cj hl hf he cP dI hd (sI.mp h1).1 h0 bA k
theorem zkO_ (cj:A.frames=some (env::outer))(hl:s.heap.FunFrames base (env::outer))(hf:env.frame=some L)(ht:s.heap.TracedW base e cls a0)(cP:base.StaysIn s.heap)(dI:base.get? e=none)(hD:Dc e d s.heap)
  (k:∀h',vR base (env::outer) e cls a0 (rawInt L) s.heap h'->Dc e d h'->Q () {s with heap:=h'}):nI M A (noteFrame (.ref e) env) Q E s:=by
 obtain⟨oe,vs,T,oT,ts,he,⟨rfl,h0⟩,hd,h1,hnT,hTe,hT,hdT,h3⟩:=ht;obtain⟨rfl,hx⟩:oe.dict=d/\vs[2]?=some .none:=by obtain⟨o,q,z,z2⟩:=hD;cases he.symm.trans q;exact⟨z,z2 _ hd⟩
 unfold noteFrame;simp only[hf];refine iV (rK he hd h1 ?_);rw[if_pos (show(qq T != qJ)=true by simp)]
 refine iV (rK hT hdT h3 ?_);rw[if_neg (show¬((qJ == rawInt L)=true) by simp[rawInt])];refine iV (wpAny_setField hT hdT (sI.mp h3).1 ?_)
 have c_:∀b,b≠T->(s.heap.update T (uf (·.setIfInBounds 3 qJ))).get? b=s.heap.get? b:=λb z=>rJ _ _ (tH z)
 have bE:∀b o,s.heap.get? b=some o->(∀vs,o.data≠.fields vs)->b≠T:=λb o q aW z=>by rw[z,hT]at q;cases q;exact aW ts hdT
 refine ent_d (s:={s with heap:=s.heap.update T (uf (·.setIfInBounds 3 qJ))}) cj (hl.of_keeps λb o q aW=>⟨o,(c_ b (bE b o q aW)).trans q,rfl⟩) hf ((c_ e hTe.symm).trans he) (λb o q=>(c_ b λz=>by rw[z,hnT]at q;cases q).trans (cP b o q)) dI hd (sI.mp h1).1 h0 hx
  λh' ⟨x1,x2,x3,x4⟩ dd=>k h' ⟨x1,x2,x3,λb o q aW=>x4 b o ((c_ b (bE b o q aW)).trans q) aW⟩ dd
theorem zhg_ {h h1 h2:Heap}(n:vR base l e cls a0 fl h h1)(a:base.StaysIn h2)(b:h2.FunFrames base l)(c:h2.TracedW base e cls a0)(u:h1.UpToSlots h2):wq base l e cls a0 h h2:=
 ⟨a,b,c,λx o q aW=>by obtain⟨sl,z⟩:=n.2.2.2 x o q aW;obtain⟨eB,z'⟩:=u x _ z aW;exact⟨eB,z'⟩⟩
theorem zpv_ {oe:wb}{vs:Array aL}(cj:A.frames=some (env::outer))(hl:s.heap.FunFrames base (env::outer))(hf:env.frame=some L)(he:s.heap.get? e=some oe)(cP:base.StaysIn s.heap)(dI:base.get? e=none)(hd:oe.data=.fields vs)(h1:vs[1]?=some .none)(h0:vs[0]?=some a0)(bA:vs[2]?=some .none)
  (k:∀h',wq base (env::outer) e oe.cls a0 s.heap h'->Dc e oe.dict h'->Q () {s with heap:=h'}):nI M A (leaving env (.ref e)) Q E s:=by
 unfold leaving;refine iV (zqZ_ cj hl hf he cP dI hd h1 h0 bA λh' n dd=>?_)
 exact fl_d n.1 n.2.1 n.2.2.1 dd λh2 a b c u dd=>k h2 (zhg_ n a b c u) dd
theorem zox_ (cj:A.frames=some (env::outer))(hl:s.heap.FunFrames base (env::outer))(hf:env.frame=some L)(ht:s.heap.TracedW base e cls a0)(cP:base.StaysIn s.heap)(dI:base.get? e=none)(hD:Dc e d s.heap)
  (k:∀h',wq base (env::outer) e cls a0 s.heap h'->Dc e d h'->Q () {s with heap:=h'}):nI M A (leaving env (.ref e)) Q E s:=by
 unfold leaving;refine iV (zkO_ cj hl hf ht cP dI hD λh' n dd=>?_)
 exact fl_d n.1 n.2.1 n.2.2.1 dd λh2 a b c u dd=>k h2 (zhg_ n a b c u) dd
end
def XAt (x C:nc)(d:Option nc)(h:Heap):Prop:=∃o vs,h.get? x=some o/\o.cls=.ref C/\o.dict=d/\o.data=.fields vs/\vs[2]?=some .none
abbrev XO (x C:nc)(d:Option nc):HO:=.ext (XAt x C d)
theorem xo_ok {P:m7}{w:nL}{H:Hp}{x C:nc}{d:Option nc}{h:Heap}(q:XAt x C d h):ObjOk P w H h x (XO x C d):=by
 obtain⟨o,vs,a,b⟩:=q;exact⟨⟨o,vs,a,b⟩,⟨o,a⟩,λh1 h2 ⟨o,vs,z1,z2⟩ k=>⟨o,vs,k o z1,z2⟩⟩
def DAt (dx:nc)(fs:List (Str×V))(h:Heap):Prop:=∃mA,h.Ns1 dx mA/\(∀f,RelO (fs.lookup f) (mA f))/\uX mA (fs.map (·.1))
abbrev XDO (dx:nc)(fs:List (Str×V)):HO:=.ext (DAt dx fs)
theorem xd_ok {P:m7}{w:nL}{H:Hp}{dx:nc}{fs:List (Str×V)}{h:Heap}(q:DAt dx fs h):ObjOk P w H h dx (XDO dx fs):=
 ⟨q,(by obtain⟨_,⟨_,_,_,e,_⟩,_⟩:=q;exact⟨_,e⟩),λh1 h2 ⟨mA,⟨o,es,ep,e,c⟩,r⟩ k=>⟨mA,⟨o,es,ep,k o e,c⟩,r⟩⟩
structure FlyX (x T C:nc)(d:Option nc)(H:Hp)(hb h:Heap):Prop where
 obj:∃oe vs a0 oT ts,h.get? x=some oe/\(oe.cls=.ref C/\vs[0]?=some a0)/\oe.data=.fields vs/\vs[1]?=some (.ref T)/\T≠x/\h.get? T=some oT/\oT.data=.fields ts/\ts[3]?=some .none
 dc:Dc x d h
 hx:H x=none
 hT:H T=none
 nx:hb.get? x=none
 nT:hb.get? T=none
def CXx (P:m7)(w:nL):CXT:=λouter H s E e s'=>∃x T C d H',e=.ref x/\s'.os=s.os/\AllBare s'.gens/\Un (frs outer) [] H H' s.heap s'.heap/\HOk P w H' s'.heap /\
 FlyX x T C d H' s.heap s'.heap/\E (.ref C) d H'
theorem HOk.at_ {P:m7}{w:nL}{H:Hp}{h:Heap}{a:nc}{o:HO}(x:HOk P w H h)(e:H a=some o):∃u,h.get? a=some u:=by
 have q:=x a o e;clear e x;induction o with
 |lst xs=>obtain⟨_,_,_,_,e⟩:=q;exact⟨_,e⟩
 |tup xs=>obtain⟨_,_,_,o,e,_⟩:=q;exact⟨_,e⟩
 |dK kvs=>obtain⟨_,_,_,_,o,_,_,e,_⟩:=q;exact⟨_,e⟩
 |dT kvs=>obtain⟨_,_,_,_,o,_,_,e,_⟩:=q;exact⟨_,e⟩
 |set S n=>obtain⟨o,_,_,_,e,_⟩:=q;exact⟨_,e⟩
 |ins C dx fs=>obtain⟨_,_,_,e,_⟩:=q;exact⟨_,e⟩
 |own y=>obtain⟨_,e⟩:=q;exact⟨_,e⟩
 |xd fs=>obtain⟨_,⟨_,_,_,e,_⟩,_⟩:=q;exact⟨_,e⟩
 |rng lo hi=>obtain⟨_,_,_,e⟩:=q;exact⟨_,e⟩
 |frz ob u _=>obtain⟨e,_⟩:=q;exact⟨_,e⟩
 |tbl ps=>exact⟨_,(show h.get? a=some _ from q)⟩
 |met f y=>exact⟨_,(show h.get? a=some _ from q)⟩
 |ext φ=>obtain⟨_,⟨_,e⟩,_⟩:=q;exact⟨_,e⟩
theorem HOk.none_at {P:m7}{w:nL}{H:Hp}{h:Heap}{a:nc}(x:HOk P w H h)(e:h.get? a=none):H a=none:=by
 cases q:H a with
 |none=>rfl
 |some o=>
  obtain⟨u,z⟩:=x.at_ q;rw[e]at z;cases z
section
variable {X:Cx}{pins:Pnn}{σ:St}{H:Hp}{s:kZ}
theorem zsK_ (aM:X.stack=X.env::X.outer){b:nc}(h:b∈X.fs):b∈frs X.stack:=by
 rw[aM];unfold Cx.fs frs at *;rw[sm];split
 ·exact h
 ·exact qa _ h
theorem zh7_ (I:Inv X pins σ H s)(aM:X.stack=X.env::X.outer)(hex:X.ex=[]){x C:nc}{a0:aL}{ex:List nc}{h2:Heap}(dD:∀b∈ex,H b=none/\X.s₀.heap.get? b=none)(hx:x∈ex)
  {d:Option nc}(L:wq (vq s.heap (frs X.stack++ex)) X.stack x (.ref C) a0 s.heap h2) (dd:Dc x d h2):
  ∃T,Un (frs X.outer) [] X.H₀ H X.s₀.heap h2/\HOk X.prog X.w H h2/\FlyX x T C d H X.s₀.heap h2:=by
 obtain⟨st,ff,⟨oe,vs,T,oT,ts,he,hc,hd,h1,hnT,hTe,hT,hdT,h3⟩,up⟩:=L;have gq:∀b:nc,b∉X.ex:=λb z=>by rw[hex]at z;cases z
 have bF:∀b o,s.heap.get? b=some o->b∉frs X.stack->b∉ex->h2.get? b=some o:=λb o q n1 n2=>st b o (vn _ q λz=>(qI.mp z).elim n1 n2)
 have cB:∀b o,s.heap.get? b=some o->b∈frs X.stack->∃sl,h2.get? b=some {o with slots:=sl}:=λb o q hb=>up b o q (by
  obtain⟨_,o',q',d⟩:=I.stack.mem hb;cases q.symm.trans q';exact d)
 have jl:∀b o,X.s₀.heap.get? b=some o->b≠X.env.locals:=λb o q=>qo (qw (pT q) I.ok.above)
 have ji:∀b o,X.s₀.heap.get? b=some o->b∉ex:=λb o q z=>by
  have:=(dD b z).2;rw[q]at this;cases this
 have jo:∀b o,X.s₀.heap.get? b=some o->b∉X.fs->b∉frs X.stack:=λb o q n z=>by
  rcases qf.mp (I.stkSub b z)with e |e
  ·exact jl b o q e
  ·exact n e
 have young:∀b,s.heap.get? b=none->X.s₀.heap.get? b=none:=λb q=>by
  cases e:X.s₀.heap.get? b with
  |none=>rfl
  |some o=>
   obtain⟨o',z⟩:=I.base.there b o e (gq b);rw[q]at z;cases z
 refine⟨T,⟨λb o q n hb _=>?_,λb o q n hb _=>?_,λb o q n _=>I.base.free b o q n (gq b),λb o q _=>?_,I.base.tups,I.base.frzs,I.base.tbls⟩,λa o e=>?_,⟨oe,vs,a0,oT,ts,he,hc,hd,h1,hTe,hT,hdT,h3⟩,dd,(dD x hx).1,?_,(dD x hx).2,?_⟩
 ·exact bF b o (I.base.keep b o q n hb (gq b)) (jo b o q hb) (ji b o q)
 ·obtain⟨sl,e⟩:=I.base.slot b o q n hb (gq b)
  obtain⟨eB,e'⟩:=cB b _ e (zsK_ aM hb);exact⟨eB,e'⟩
 ·obtain⟨o',e⟩:=I.base.there b o q (gq b)
  grind
 ·refine(I.hok a o e).stay (λb u hb q=>?_) (λ_ q=>q) λ_ _ q=>q
  have tr:∃o,H b=some o:=by
   rcases hb with rfl |hb
   ·exact⟨_,e⟩
   ·exact⟨_,hb⟩
  obtain⟨ob,tr⟩:=tr;refine bF b u q (λz=>?_) λz=>?_
  ·rw[I.stkFree b z]at tr;cases tr
  ·rw[(dD b z).1]at tr;cases tr
 all_goals
  by_cases hTx:T∈ex
  ·first |exact(dD T hTx).1 |exact(dD T hTx).2
  by_cases hTf:T∈frs X.stack
  ·obtain⟨_,o',q',d⟩:=I.stack.mem hTf
   grind
  have q:s.heap.get? T=none:=by
   cases e:s.heap.get? T with
   |none=>rfl
   |some o=>
    rw[vn _ e λz=>(qI.mp z).elim hTf hTx]at hnT
    cases hnT
  first |exact I.hok.none_at q |exact young T q
end
section
variable {P:m7}{w:nL}{K:Fgg}{mg:Str->Option aL}{base:Heap}{N:List Str}{qual:Str}{scope:Scope}{f:nc}{cd:aL}{A:qu}{outer:List Env}{s0:kZ}{H0:Hp}{E:XK}
theorem zlK_ {l:List Env}{more:List nc}:∀env∈l,∀a,env.frame=some a->a∈frs l++more:=λenv he a hf=>sf _ (vc.mpr ⟨env,he,hf⟩)
def Takes (X:Cx)(E:XK):Prop:=∀(pins:Pnn) (σ:St) (H:Hp) (s:kZ) (x C:nc) (oe:wb) (vs:Array aL) (a0:aL),Inv X pins σ H s->H x=none->X.s₀.heap.get? x=none->s.heap.get? x=some oe->oe.cls=.ref C->oe.data=.fields vs->vs[1]?=some .none->vs[0]?=some a0->vs[2]?=some .none->E (.ref C) oe.dict H->X.xe (.ref x) s
theorem zhO_:Takes (cxOf (CXx P w) P w K mg base N qual scope f cd A outer s0 H0 E) E:=by
 intro pins σ H s x C oe vs a0 I hx oj he hc hd h1 h0 bA hE;show nI _ _ (leaving _ _) _ _ _
 refine zpv_ (base:=vq s.heap (frs (envOfC qual scope s0.heap.objs.size f cd::outer)++[x])) (a0:=a0) I.ok.frames (uF I.stack zlK_) rfl he (λb o q=>uY _ q)
  (rS _ (p5 _ nu)) hd h1 h0 bA λh2 L dd=>?_
 rw[hc]at L;obtain⟨T,u,ok,aX⟩:=zh7_ (ex:=[x]) I rfl rfl (λb hb=>by
  rw[pS.mp hb];exact⟨hx,oj⟩) nu L dd
 exact⟨x,T,C,_,H,rfl,I.os,I.bare,u,ok,aX,hE⟩
theorem Takes.made {X:Cx}(hT:Takes X E){pins:Pnn}{σ:St}{H:Hp}{s:kZ}{h:Heap}{x C:nc}{args:List aL}(I:Inv X pins σ H s)(hex:X.ex=[])(hx:uu s.heap h x (.ref C) args)(hE:E (.ref C) none H):X.xe (.ref x) {s with heap:=h}:=by
 obtain⟨t,he,htn,ht⟩:=hx.there;refine hT pins σ H {s with heap:=h} x C _ _ _ (I.kept (t':=s.toks) hx.keeps) (I.hok.none_at hx.new) ?_ he rfl rfl rfl rfl rfl hE;cases e:X.s₀.heap.get? x with
 |none=>rfl
 |some o=>
  obtain⟨o',z⟩:=I.base.there x o e (λz=>by rw[hex]at z;cases z)
  rw[hx.new]at z;cases z
theorem ziv_:Passes (CXx P w) (cxOf (CXx P w) P w K mg base N qual scope f cd A outer s0 H0 E) E:=by
 intro pins σ H s e s' I h;obtain⟨x,T,C,d,H',rfl,os,bare,un,ok,aX,hE⟩:=h;have I1:Inv (cxOf (CXx P w) P w K mg base N qual scope f cd A outer s0 H0 E) pins σ H' s':=I.call' (ch:=[]) os un ok bare (λb z=>absurd z (by simp))
 obtain⟨oe,vs,a0,oT,ts,he,hc,hd,h1,hTe,hT,hdT,h3⟩:=aX.obj;show nI _ _ (leaving _ _) _ _ _
 refine zox_ (base:=vq s'.heap (frs (envOfC qual scope s0.heap.objs.size f cd::outer)++[x,T])) (cls:=.ref C) (a0:=a0) I.ok.frames (uF I1.stack zlK_) rfl
  ⟨oe,vs,T,oT,ts,he,hc,hd,h1,rS _ (p5 _ (qa _ nu)),hTe,hT,hdT,h3⟩ (λb o q=>uY _ q)
  (rS _ (p5 _ nu)) aX.dc λh2 L dd=>?_
 have old:∀b,s.heap.get? b=none->s0.heap.get? b=none:=λb q=>by
  cases e:s0.heap.get? b with
  |none=>rfl
  |some o=>
   obtain⟨o',z⟩:=I.base.there b o e (λz=>nomatch z)
   rw[q]at z;cases z
 obtain⟨T2,u,ok2,fly2⟩:=zh7_ (ex:=[x,T]) I1 rfl rfl (λb hb=>by
  rcases qf.mp hb with rfl |hb
  ·exact⟨aX.hx,old _ aX.nx⟩
  ·rw[pS.mp hb]
   exact⟨aX.hT,old _ aX.nT⟩) nu L dd
 exact⟨x,T2,C,d,H',rfl,I1.os,I1.bare,u,ok2,fly2,hE⟩
end
abbrev bmV:List aL:=[.type "ValueError",.type "Exception",.type "BaseException",.type "object"]
def excK (K:Fgg)(C:nc):Bool:=W.excIn K C bmV "ValueError.__new__"
def gA (K:Fgg)(x:Str):nc:=match sd K qm x with |some (some (.ref c))=>c |_=>0
theorem zlH_ {K:Fgg}{x:Str}{c:nc}(h:sd K qm x=some (some (.ref c))):gA K x=c:=by unfold gA;rw[h]
theorem zpJ_ {K:Fgg}{h:Heap}{C:nc}(kin:K.In h)(q:excK K C=true):
  ∃nm qn N bs bm hd sn sub ab col dd k0 k1 k2 k3 k5 mN,h.get? C=some (excClassObj nm qn C N bs bm hd sn sub ab col dd k0 k1 k2 k3 k5 "ValueError.__new__")/\h.Ns N mN/\mN "__init__"=none/\OwnTail h bmV bm:=by
 unfold excK W.excIn at q;split at q
 case h_2=>cases q
 case h_1 dx cx slx di=>
  split at q
  case h_2=>cases q
  case h_1 Cx tl y0 y1 y2 y3 yn y5 m1 m2=>
   rw[qj,qj,qj,qj,qj]at q;obtain⟨⟨⟨⟨⟨q1,q2⟩,q3⟩,q4⟩,q5⟩,q6⟩:=q;replace q1:=beq_iff_eq.mp q1;replace q2:=beq_iff_eq.mp q2;replace q6:=beq_iff_eq.mp q6;replace q3:cx.hasDel=false:=by simpa using q3
   subst q1 q2;cases cx;dsimp only at m1 q3 q5 q6;subst m1 q3;cases slx;dsimp only at m2;subst m2;exact⟨_,_,_,_,tl,_,_,_,_,_,dx,y0,y1,y2,y3,y5,_,kin _ _ di,.of_isNs (wB kin q5),W.nsMap_none_of_in kin q5 q6,yl kin q4⟩
section
variable {X:Cx}{E:XK}{C:nc}{x:Str}{e:qF}{es:List qF}{t:TA}{np ao pos:Pos}
def tRaise (C:nc)(E:XK)(t:TA):TS:=λ_ σ H=>t σ H λvs H1=>vs.length<=100/\E (.ref C) none H1
theorem zkL_ (hT:Takes X E)(jZ:X.calm=true)(hq:excK X.K C=true)(hm:X.mg x=some (.ref C))(ha:PA X (e::es) t)(hg:Gl X x:=by rfl)(aB:(x==("__debug__":Str))=false:=by decide)
  (he:qg (e::es) X.env=(false,eval e X.env)::qg es X.env:=by rfl) (ax:(sh ao (qg es X.env)).any (·.1)=false:=by rfl) (hex:X.ex=[]:=by rfl):
  PS X (.Raise (some (.Call (.Name x np) (e::es) [] ao)) none pos) (tRaise C E t):=by
 intro pins s σ H D I h;obtain⟨nm,qn,N,bs,bm,hd,sn,sub,ab,col,dd,k0,k1,k2,k3,k5,mN,hC,hN,gH,TL⟩:=zpJ_ I.ok.mod.kin hq
 refine wpAny_Raise_call_subU (C:=C) (nm:=nm) (q:=qn) (N:=N) (bs:=bs) (bm:=bm) (hdct:=hd) (sn:=sn) (sub:=sub) (ab:=ab) (col:=col) (dd:=dd) (k0:=k0) (k1:=k1) (k2:=k2) (k3:=k3) (k5:=k5)
  sJ (by decide) sJ (mN:=mN) (TL.hasType rfl) (I.ok.hd jZ) (by rw[he];show(false ||(sh ao (qg es X.env)).any (·.1))=false;rw[ax];rfl) gH (zcR_ I hg hm ⟨rfl,?_⟩ aB)
 have h2:=ha ao pins s σ H _ I h;rw[he]at h2 ⊢;refine Calls.evalArgs_plain (qH h2 (λus s1 q=>?_) λ_ _ y=>y)
 obtain⟨vs,H1,I1,r,hl,q⟩:=q;refine⟨rfl,?_,I1.bk _ _ hC,hN.keeps I1.bk,TL.keeps I1.bk,λh' a gJ=>hT.made I1 hex gJ q⟩
 show us.length<=pX
 rw[<- r.length];exact qV hl (by rw[sizeLine_eq];decide)
end
section
variable {X:Cx}{a:qF}{ta:TE}{pos:Pos}
abbrev TJ:=Str->St->Hp->(Str->Hp->Prop)->Prop
def PJ (X:Cx)(vs:List qF)(t:TJ):Prop:=∀(acc:Str) (pins:Pnn) (s:kZ) (σ:St) (H:Hp) (Q:Str->kZ->Prop) (R:Str->Hp->Prop),Inv X pins σ H s->t acc σ H R->(∀out s1 H1,Inv X pins σ H1 s1->R out H1->Q out s1) ->
 Joins (model X.prog X.w) X.A X.xe (evalEach vs X.env) acc Q s
def tJ0:TJ:=λacc _ H R=>R acc H
def tJ1 (ta:TE)(tr:TJ):TJ:=λacc σ H R=>ta σ H λx H1=>match x with |.str z=>(acc++z).length<=pX/\tr (acc++z) σ H1 R |_=>False
theorem zts_:PJ X [] tJ0:=λacc pins s σ H Q R I h hq=>hq acc s H I h
theorem zgr_ {vs:List qF}{tr:TJ}(ha:PE X a ta)(hr:PJ X vs tr)(he:evalEach (a::vs) X.env=eval a X.env::evalEach vs X.env:=by rfl):PJ X (a::vs) (tJ1 ta tr):=by
 intro acc pins s σ H Q R I h hq;rw[he];refine qH (ha pins s σ H _ I h) (λv s1 q=>?_) λ_ _ y=>y
 obtain⟨x,H1,I1,r1,q1⟩:=q;cases x with
 |str z=>
  obtain⟨k,rfl⟩:=r1;exact⟨z,k,rfl,q1.1,hr (acc++z) pins s1 σ H1 Q R I1 q1.2 hq⟩
 |_=>exact q1.elim
def tJoin (tj:TJ):TE:=λσ H Q=>tj vU σ H λout H1=>out.length<=pX/\Q (.str out) H1
theorem zlr_ {b:qF}{vs:List qF}{tj:TJ}(h:PJ X (a::b::vs) tj):PE X (.JoinedStr (a::b::vs) pos) (tJoin tj):=by
 intro pins s σ H Q I q;refine wpAny_JoinedStr (h vU pins s σ H _ _ I q λout s1 H1 I1 q1=>⟨q1.1,.str out,H1,I1.tok _,⟨_,rfl⟩,q1.2⟩)
end
noncomputable def isaK (K:Fgg)(D:nc)(c:aL):Option Bool:=
 if(qX K (.ref D) "__getattribute__"==some (some (.builtin "BaseException.__getattribute__")) && qX K (.ref D) "__getattr__"==some none && uJ K D (.type "BaseException")==some true) && uN K D && qX K (.ref D) "__class__"==some (some (.builtin "object.__class__")) && vi K (.builtin "object.__class__") "__get__"==some (some (.builtin "getset_descriptor.__get__"))
  && W.takesIn K (.builtin "object.__class__")==some true && uJ K D (.type "object")==some true then xk K (.ref D) c else none
end L2
namespace LX
open PySem PySem.W PySem.Calls PyProof.Rows Builtin Builtin.ObjectAttr Builtin.Getset_descriptor
section
variable {prog:m7}{w:nL}{A:qu}{K:Frag}{x D:nc}{dc:Option nc}
theorem ty_x {M:Model}{h:Heap}(I:L2.XAt x D dc h):Looks M h (typeOf (.ref x)) (.ref D):=by
 obtain⟨o,_,e,c,_⟩:=I;exact c ▸ (Looks.ld e).andThen .now
theorem zpi_ {M:Model}{E:aL->kZ->Prop}{s:kZ}{dQ:aL}{Q:Unit->kZ->Prop}(T0:Looks M s.heap (typeOf (.ref x)) (.ref D))(T8:Looks M s.heap (isSubtype (.ref D) (.type "BaseException")) true)(hq:Q () s):
  nI M A (checkBuiltinCall "BaseException.__getattribute__" ⟨[.ref x,dQ],[]⟩) Q E s:=by
 have hk:builtinKind "BaseException.__getattribute__"=some .slot:=by decide +kernel
 have fc:splitId "BaseException.__getattribute__"=some ("BaseException", "__getattribute__"):=by decide +kernel
 have mr:=F.args_bexc_ga (.ref x) dQ;simp only[checkBuiltinCall,hk,fc];refine iV ?_;unfold isInstance;cases s with
 |mk hp gs dr tk ost=>
 refine iV (T0.at (T8.at ?_))
 repeat(first |assumption |wp_step)
theorem zoe_ {E:aL->kZ->Prop}{s:kZ}{Q:Option aL->kZ->Prop}(gP:findIn K (.ref D) "__getattribute__"=some (some (.builtin "BaseException.__getattribute__")))(gO:findIn K (.ref D) "__getattr__"=some none)
  (ha:findIn K (.ref D) "__class__"=some (some (.builtin "object.__class__")))
  (hn:specialIn K (.builtin "object.__class__") "__get__"=some (some (.builtin "getset_descriptor.__get__"))) (fT:takesIn K (.builtin "object.__class__")=some true) (hm:mroIn K D (.type "object")=some true) (hb:mroIn K D (.type "BaseException")=some true)
  (kin:K.In s.heap) (I:L2.XAt x D dc s.heap) (h:Q (some (.ref D)) {s with toks:=s.toks+1}):nI (model prog w) A (getAttr? (.ref x) "__class__") Q E s:=by
 cases s with
 |mk hp gs dr tk ost=>
 have T0:=ty_x (M:=model prog w) I;have T1:=looks_findIn (M:=model prog w) kin gP;have T2:=looks_findIn (M:=model prog w) kin gO;have T3:=looks_findIn (M:=model prog w) kin ha;have T4:=looks_specialIn (M:=model prog w) kin hn;have T5:=looks_takesIn (M:=model prog w) kin fT;have T6:=looks_mroIn (M:=model prog w) kin hm;have T8:=looks_mroIn (M:=model prog w) kin hb;have T7:Looks (model prog w) hp (find (.ref x) (.ref D) "__class__") (.bind (.builtin "getset_descriptor.__get__") (.builtin "object.__class__")):=
  T3.andThen (T4.andThen ((show Looks (model prog w) hp (dataDescriptor? (some (.builtin "object.__class__")) (some (.builtin "getset_descriptor.__get__"))) (some (.builtin "getset_descriptor.__get__",.builtin "object.__class__"))from T5.andThen .now).andThen (.tag .now)))
 have bA:(onTheHeap (qq D) && uK "BaseException.__getattribute__"==uK "object.__getattribute__")=false:=(show(uK "BaseException.__getattribute__"==uK "object.__getattribute__")=false by decide +kernel)
 have f3:=vS.ga.bind (.ref x);unfold getAttr? getAttrBy? getAttrBy;refine iV (wpAny_mkText ?_);refine iV (wpAny_attempt (wpAny_holding ?_));refine iV (T0.at ?_);refine iV (T1.at ?_);simp only[bA];rw[if_neg (by decide)]
 unfold getAttrByItsOwn hookBefore;refine iV ?_;show nI _ _ (typeLookup (.ref D) "__getattr__") _ _ _
 refine T2.at ?_;refine iV (wpAny_attempt (wpAny_holding ?_));show nI _ _ (boundAndCalled _ _ _) _ _ _
 unfold boundAndCalled;rw[f3];refine iV (nh ?_);refine wpAny_call ?_;refine codeAny_call_builtin vS.ga.plain F.entry_bexc_ga ?_;refine(show nI _ _ (checkBuiltinCall "BaseException.__getattribute__" ⟨[.ref x,.str "__class__" tk],[]⟩) _ _ _ from ?_)
 refine zpi_ T0 T8 ?_;unfold uv.«object.__getattribute__»;refine iV (nh ?_);refine iV (nh ?_);refine iV (T0.at ?_);refine iV (T7.at ?_);show nI _ _ (holding [uK "object.__class__"] (call (.builtin "getset_descriptor.__get__") [.builtin "object.__class__",.ref x,.ref D])>>=ret) _ _ _
 refine iV (wpAny_holding (wpAny_call ?_));refine codeAny_call_builtin KF.slot_gs.plain KF.entry_gs (KF.slot_gs.check _ _ _ _ _ _ _ _ KF.type_class (KF.args_gs _ _ _) ?_);unfold uv.«getset_descriptor.__get__» descrGet;rw[dga_obj];refine iV (nh ?_);unfold descrGetter descrCheckInstance descrNameAndClass isInstance;simp only[KF.owner_class];repeat lk
 refine⟨Code.quiet_builtin _ (by decide +kernel),codeAny_builtin KF.entry_class ?_⟩;unfold uv.«object.__class__» shownTypeOf;repeat lk
 exact h
theorem it_x {h:Heap}(hd:hasDictIn K D=true)(kin:K.In h):(∃c d cd sl,h.get? D=some ⟨c,d,.cls cd,sl⟩)/\∀M:Model,Looks M h (isType (.ref D)) true:=by
 obtain⟨cd,e,_⟩:=any_some hd;unfold clsIn at e;split at e
 case h_2=>cases e
 case h_1 c1 d1 cd1 sl1 di=>
  refine⟨⟨_,_,_,_,kin _ _ di⟩,λM A' Q' E' s' k q=>?_⟩
  unfold isType loadHead;exact iV (wpAny_loadPart (k _ _ (kin _ _ di)) (nh q))
theorem kitx_x (gP:findIn K (.ref D) "__getattribute__"=some (some (.builtin "BaseException.__getattribute__")))(gO:findIn K (.ref D) "__getattr__"=some none)(hb:mroIn K D (.type "BaseException")=some true)(hd:hasDictIn K D=true)(ha:findIn K (.ref D) "__class__"=some (some (.builtin "object.__class__")))
  (hn:specialIn K (.builtin "object.__class__") "__get__"=some (some (.builtin "getset_descriptor.__get__"))) (fT:takesIn K (.builtin "object.__class__")=some true) (hm:mroIn K D (.type "object")=some true):
  KitX K (.ref x) (.ref D) (L2.XAt x D dc):=
 ⟨λ_ _ _ I=>ty_x I,λ_ _ kin _=>(it_x hd kin).2 _,(λh tp dd aa n sl kin e=>by
  obtain⟨⟨c,d,cd,sl2,e2⟩,_⟩:=it_x hd kin;refine Bool.eq_false_iff.mpr λq=>?_
  have z:=Value.ref.inj (beq_iff_eq.mp q);subst z;have e3:=e2.symm.trans e;cases e3),λkin I k=>zoe_ gP gO ha hn fT hm hb kin I k⟩
end
end LX
namespace L2
open PySem PySem.Spec PyProof.Rows
def clsV:V->Option aL
 |.ty c=>some (.type c)
 |.ref a=>some (.ref a)
 |_=>none
def mIsaX (K:Fgg):List V->Hp->VK->Prop:=λxs H Q=>match xs with
 |[.ref p,c]=>∃D d v b,H p=some (XO p D d)/\clsV c=some v/\isaK K D v=some b/\Q (.bl b) H
 |_=>False
theorem zll_ {X:Cx}:CallR X (.builtin "isinstance") (mIsaX X.K):=by
 intro pins s σ H xs us Q I r h;unfold mIsaX at h;split at h
 ·rename_i p c
  obtain⟨D,d,v,b,hp,hv,hk,q⟩:=h;obtain⟨u,z,rfl,r1,r2⟩:=vals2 r;obtain rfl:u=.ref p:=r1;have ez:z=v:=by
   cases c<;>first |(cases hv;exact r2)|cases hv
  subst ez;unfold isaK at hk;split at hk
  case isFalse=>cases hk
  case isTrue g=>
   rw[qj,qj,qj,qj,qj,qj,qj]at g;obtain⟨⟨⟨⟨⟨⟨⟨g1,g7⟩,g8⟩,g2⟩,g3⟩,g4⟩,g5⟩,g6⟩:=g;obtain⟨hx,_,_⟩:=I.hok p _ hp;exact tE (LX.kitx_x (beq_iff_eq.mp g1) (beq_iff_eq.mp g7) (beq_iff_eq.mp g8) g2 (beq_iff_eq.mp g3) (beq_iff_eq.mp g4) (beq_iff_eq.mp g5) (beq_iff_eq.mp g6)) I.kIn hx hk (λz=>by cases z) λtk=>⟨.bl b,H,I.tok tk,rfl,q⟩
 ·exact h.elim
section
variable {X:Cx}{k:Nat}{x:Str}{ps:List Str}{sp:Sp}{E:XK}{p pos:Pos}{e:qF}{es:List qF}{t:TA}
theorem zor_ (G:Gd X.prog X.w X.K X.mg X.base (CXx X.prog X.w) k x ps sp)(hr:Room k X.A)(hx:Passes (CXx X.prog X.w) X E)(ha:PA X (e::es) t)(hg:Gl X x:=by rfl)(aB:(x==("__debug__":Str))=false:=by decide)
  (he:qg (e::es) X.env=(false,eval e X.env)::qg es X.env:=by rfl) (ax:(sh pos (qg es X.env)).any (·.1)=false:=by rfl):
  PE X (.Call (.Name x p) (e::es) [] pos) (tCall sp [] E t):=by
 obtain⟨f,fd,F,hm,hk,hb⟩:=G;exact zmt_ F hr hg hm hk hb .nil hx ha aB he ax
end
def XP (X:Cx)(pins:Pnn)(W:St->XK)(e:aL)(s':kZ):Prop:=∃ai Hb sb,Inv X pins ai Hb sb/\CXx X.prog X.w X.stack Hb sb (W ai) e s'
abbrev TX:=Ends->(St->XK)->St->Hp->Prop
def PSx (X:Cx)(st:qL)(t:TX):Prop:=
 ∀(pins:Pnn) (s:kZ) (σ:St) (H:Hp) (D:Ends) (W:St->XK),Inv X pins σ H s->t D W σ H->nI (model X.prog X.w) X.A (exec st X.env) (SP X pins D) (XP X pins W) s
def PSsx (X:Cx)(st:List qL)(t:TX):Prop:=
 ∀(pins:Pnn) (s:kZ) (σ:St) (H:Hp) (D:Ends) (W:St->XK),Inv X pins σ H s->t D W σ H->nI (model X.prog X.w) X.A (execs st X.env) (SP X pins D) (XP X pins W) s
theorem PA.nox {X:Cx}{es:List qF}{t:TA}(h:PA X.nox es t):PA X es t:=λpos pins s σ H Q I hw=>
 qH (h pos pins s σ H Q (I.wish _) hw) (λ_ _ ⟨v,H',I',r,q⟩=>⟨v,H',I'.unwish,r,q⟩) λ_ _ z=>qk z
section
variable {X:Cx}{st:qL}{t u:TX}{k:Nat}{x:Str}{ps:List Str}{sp:Sp}{p pos pos':Pos}{e:qF}{es:List qF}{ta:TA}
theorem zkk_ (h1:PSx X st t):PSsx X [st] t:=by
 intro pins s σ H D W I h;refine wpAny_execs_cons (thn (h1 pins s σ H D W I h) λf s1 q=>?_)
 cases f with
 |next=>exact wpAny_execs_nil q
 |ret v=>exact q
 |brk=>exact q
 |cont=>exact q
theorem zmy_ (G:Gd X.prog X.w X.K X.mg X.base (CXx X.prog X.w) k x ps sp)(hr:Room k X.A)(ha:PA X.nox (e::es) ta){pins:Pnn}{s:kZ}{σ:St}{H:Hp}{Q:VK}{W:St->XK}(I:Inv X pins σ H s)
  (h:ta σ H λvs H1=>sp (vs++[]) H1 Q (W σ)) (hg:Gl X x:=by rfl) (aB:(x==("__debug__":Str))=false:=by decide)
  (he:qg (e::es) X.env=(false,eval e X.env)::qg es X.env:=by rfl) (ax:(sh pos (qg es X.env)).any (·.1)=false:=by rfl):
  nI (model X.prog X.w) X.A (eval (.Call (.Name x p) (e::es) [] pos) X.env) (EP X pins σ Q) (XP X pins W) s:=by
 obtain⟨f,fd,F,hm,hk,hb⟩:=G;refine se (zcR_ I hg hm ?_ aB);have o9:=(PA.nox (X:=X.wish (XP X pins W)) ha) pos pins s σ H _ (I.wish _) h;refine PySem.W.callWith_K (h₀:=X.base) I.ok.mod.kin hk (thn o9 λus s1 q=>?_) he ax
 obtain⟨vs,H1,I1,r,q⟩:=q;have I1:=I1.unwish;refine⟨I1.kIn,?_⟩;have r2:Vals (vs++[]) (us++[]):=r.append .nil;have hl:(us++[]).length=ps.length:=by rw[<- r2.length];exact F.len _ _ _ _ q
 refine wpAny_call (codeAny_mono (F.run X.A X.stack s1 H1 ⟨us,[]⟩ (us++[]) (vs++[]) Q (W σ) hr I1.env0 (hb s1 us I1.kIn hl) r2 q) λr s' hq=>?_)
 cases r with
 |error e=>exact⟨σ,H1,s1,I1,hq⟩
 |ok fl=>
  cases fl with
  |ret u=>exact I1.after hq
  |next=>exact qk hq
  |brk=>exact qk hq
  |cont=>exact qk hq
def tDropX (sp:Sp)(ta:TA):TX:=λD W σ H=>ta σ H λvs H1=>sp (vs++[]) H1 (λ_ H2=>D.nx σ H2) (W σ)
theorem znF_ (G:Gd X.prog X.w X.K X.mg X.base (CXx X.prog X.w) k x ps sp)(hr:Room k X.A)(ha:PA X.nox (e::es) ta)(hg:Gl X x:=by rfl)(aB:(x==("__debug__":Str))=false:=by decide)
  (he:qg (e::es) X.env=(false,eval e X.env)::qg es X.env:=by rfl) (ax:(sh pos (qg es X.env)).any (·.1)=false:=by rfl)
  (hs:swapsWith (.Call (.Name x p) (e::es) [] pos) none pos'.line X.env=pure false:=by rfl):PSx X (.Expr (.Call (.Name x p) (e::es) [] pos) pos') (tDropX sp ta):=by
 intro pins s σ H D W I h;exact wpAny_Expr_any (thn (zmy_ G hr ha I h hg aB he ax) λv s1 ⟨y,H1,I1,r1,q1⟩=>⟨σ,H1,I1,q1⟩) I.quiet hs
end
section
variable {X:Cx}{pins:Pnn}{σ:St}{Hb H':Hp}{sb s1:kZ}{x T C:nc}{d:Option nc}
theorem landed (Ib:Inv X pins σ Hb sb)(os:s1.os=sb.os)(bare:AllBare s1.gens)(un:Un (frs X.stack) [] Hb H' sb.heap s1.heap)(ok:HOk X.prog X.w H' s1.heap)(aX:FlyX x T C d H' sb.heap s1.heap){h':Heap}{a0:aL}
  (f:Heap.FlyingW (vq s1.heap (frs X.stack++[x,T])) X.stack x (.ref C) a0 h') (up:s1.heap.UpToSlots h') (dd:Dc x d h'):Inv X pins σ (upd H' x (XO x C d)) {s1 with heap:=h'}:=by
 have ne:∀b o,sb.heap.get? b=some o->b≠x/\b≠T:=λb o q=>⟨(λz=>by rw[z,aX.nx]at q;cases q),(λz=>by rw[z,aX.nT]at q;cases q)⟩
 have nt:∀b o,H' b=some o->b≠x/\b≠T:=λb o q=>⟨(λz=>by rw[z,aX.hx]at q;cases q),(λz=>by rw[z,aX.hT]at q;cases q)⟩
 have I1:Inv X pins σ H' s1:=Ib.call' (ch:=[]) os un ok bare (λb z=>absurd z (by simp))
 have bF:∀b o,s1.heap.get? b=some o->b∉frs X.stack->b≠x/\b≠T->h'.get? b=some o:=λb o q n1 n2=>f.1 b o (vn _ q λz=>by
  grind)
 have cB:∀b o,s1.heap.get? b=some o->b∈frs X.stack->∃sl,h'.get? b=some {o with slots:=sl}:=λb o q hb=>up b o q (by
  obtain⟨_,o',q',d⟩:=I1.stack.mem hb;cases q.symm.trans q';exact d)
 have old:∀b,b≠x->upd H' x (XO x C d) b=H' b:=λb h=>zI_ h
 refine Ib.call' (s':={s1 with heap:=h'}) (ch:=[]) os ⟨λb o q n hb hx=>?_,λb o q n hb hx=>?_,λb o q n hx=>?_,λb o q hx=>?_,λb xs q=>?_,λb o u q=>?_,λb ps q=>?_⟩ (λa o e=>?_) bare (λb z=>absurd z (by simp))
 ·exact bF b o (un.keep b o q n hb hx) hb (ne b o q)
 ·obtain⟨sl,e⟩:=un.slot b o q n hb hx
  obtain⟨eB,e'⟩:=cB b _ e hb;exact⟨eB,e'⟩
 ·rw[old b (ne b o q).1]
  exact un.free b o q n hx
 ·obtain⟨o',e⟩:=un.there b o q hx
  grind
 ·have z:=un.tups b xs q
  rw[old b (nt b _ z).1];exact z
 ·have z:=un.frzs b o u q
  rw[old b (nt b _ z).1];exact z
 ·obtain⟨m,z⟩:=un.tbls b ps q
  exact⟨m,by rw[old b (nt b _ z).1];exact z⟩
 ·by_cases ha:a=x
  ·subst ha
   rw[zq_]at e;cases e;obtain⟨ob,vs,q1,q2,q3,_⟩:=f.first;obtain⟨o2,z1,z2,z3⟩:=dd;cases q1.symm.trans z1;exact xo_ok ⟨ob,vs,q1,q2,z2,q3,z3 _ q3⟩
  ·rw[old a ha]at e
   refine(ok a o e).stay (λb u hb q=>?_) (λb q=>by rw[old b (nt b _ q).1];exact q) λb xs q=>by rw[old b (nt b _ q).1];exact q
   have tr:∃o,H' b=some o:=by
    rcases hb with rfl |hb
    ·exact⟨_,e⟩
    ·exact⟨_,hb⟩
   obtain⟨ob,tr⟩:=tr;refine bF b u q (λz=>?_) (nt b ob tr)
   rw[I1.stkFree b z]at tr;cases tr
end
abbrev Cx.inX (X:Cx)(x:nc):Cx:={X with A:=X.A.mark (some (.ref x)),calm:=false,xe:=λ_ _=>False}
theorem Inv.inX {X:Cx}{pins:Pnn}{σ:St}{H:Hp}{s:kZ}(I:Inv X pins σ H s)(x:nc):Inv (X.inX x) pins σ H s:=
 ⟨⟨I.ok.mod,I.ok.kind,I.ok.glob,I.ok.blt,I.ok.above,I.ok.inj,I.ok.has,I.ok.cab,(λz=>by cases z),I.ok.frames,I.ok.stk,I.ok.exf,I.ok.bs,I.ok.bsz,I.ok.noex,I.ok.exfs,I.ok.funs,I.ok.frf⟩,I.os,I.bare,I.base,I.loc,I.cell,I.free,I.freeC,I.pin,I.hok,I.len⟩
theorem Inv.outX {X:Cx}{pins:Pnn}{σ:St}{H:Hp}{s:kZ}{x:nc}(ok:X.Ok)(I:Inv (X.inX x) pins σ H s):Inv X pins σ H s:=
 ⟨ok,I.os,I.bare,I.base,I.loc,I.cell,I.free,I.freeC,I.pin,I.hok,I.len⟩
theorem SP.outX {X:Cx}{pins:Pnn}{D:Ends}{f:Flow}{s':kZ}{x:nc}(ok:X.Ok)(h:SP (X.inX x) pins D f s'):SP X pins D f s':=by
 cases f with
 |next=>obtain⟨ai,H',I,q⟩:=h;exact⟨ai,H',I.outX ok,q⟩
 |brk=>obtain⟨ai,H',I,q⟩:=h;exact⟨ai,H',I.outX ok,q⟩
 |cont=>obtain⟨ai,H',I,q⟩:=h;exact⟨ai,H',I.outX ok,q⟩
 |ret u=>obtain⟨v,ai,H',I,r,q⟩:=h;exact⟨v,ai,H',I.outX ok,r,q⟩
def catN (K:Fgg)(C S:nc):Bool:=
 xj K (.ref S)==some (.type "type") && (ym K S).isSome && uJ K S (.type "BaseException")==some true && uJ K C (.ref S)==some false
def catK (K:Fgg)(C S:nc):Bool:=
 xj K (.ref S)==some (.type "type") && (ym K S).isSome && uJ K S (.type "BaseException")==some true && uJ K C (.ref S)==some true
theorem zlZ_ {K:Fgg}{M:Model}{A:qu}{E:aL->kZ->Prop}{s:kZ}{x C S:nc}{d:Option nc}{Q:Bool->kZ->Prop}(kin:K.In s.heap)(I:XAt x C d s.heap)(h:catK K C S=true)(q:Q true s):
  nI M A (excMatches (.ref x) (.ref S)) Q E s:=by
 unfold catK at h;rw[qj,qj,qj]at h;obtain⟨⟨⟨h1,h2⟩,h3⟩,h4⟩:=h;have T1:=xq (M:=M) kin (beq_iff_eq.mp h1);have T3:=uL (M:=M) kin (beq_iff_eq.mp h3);have T4:=uL (M:=M) kin (beq_iff_eq.mp h4);have T5:=LX.ty_x (M:=M) I;have T6:vV M s.heap (isSubtype (.type "type") (.type "tuple")) false:=.of_pure tc_notTuple;have T2:vV M s.heap (isType (.ref S)) true:=by
  obtain⟨cd,e⟩:=ue.mp h2;unfold ym at e;split at e
  case h_2=>cases e
  case h_1 c1 d1 cd1 sl1 di=>
   intro A' Q' E' s' k z;unfold isType loadHead;exact iV (wpAny_loadPart (k _ _ (kin _ _ di)) (nh z))
 cases s with
 |mk hp gs dr tk ost=>
 unfold excMatches isInstance isExcClass
 repeat lk
 exact q
theorem zlB_ {K:Fgg}{M:Model}{A:qu}{E:aL->kZ->Prop}{s:kZ}{x C S:nc}{d:Option nc}{Q:Bool->kZ->Prop}(kin:K.In s.heap)(I:XAt x C d s.heap)(h:catN K C S=true)(q:Q false s):
  nI M A (excMatches (.ref x) (.ref S)) Q E s:=by
 unfold catN at h;rw[qj,qj,qj]at h;obtain⟨⟨⟨h1,h2⟩,h3⟩,h4⟩:=h;have T1:=xq (M:=M) kin (beq_iff_eq.mp h1);have T3:=uL (M:=M) kin (beq_iff_eq.mp h3);have T4:=uL (M:=M) kin (beq_iff_eq.mp h4);have T5:=LX.ty_x (M:=M) I;have T6:vV M s.heap (isSubtype (.type "type") (.type "tuple")) false:=.of_pure tc_notTuple;have T2:vV M s.heap (isType (.ref S)) true:=by
  obtain⟨cd,e⟩:=ue.mp h2;unfold ym at e;split at e
  case h_2=>cases e
  case h_1 c1 d1 cd1 sl1 di=>
   intro A' Q' E' s' k z;unfold isType loadHead;exact iV (wpAny_loadPart (k _ _ (kin _ _ di)) (nh z))
 cases s with
 |mk hp gs dr tk ost=>
 unfold excMatches isInstance isExcClass
 repeat lk
 exact q
theorem ziG_ {X:Cx}{pins:Pnn}{σ:St}{H:Hp}{s:kZ}{M:Model}{A:qu}{E:aL->kZ->Prop}{i:Nat}{n:Str}{pos:Pos}{Q:Unit->kZ->Prop}(I:Inv X pins σ H s)(hN:X.N.Nodup)(hi:X.N[i]?=some n)
  (hl:X.env.scope.names.lookup n=some .local) (h:∀s',Inv X pins (σ.set i none) H s'->Q () s'):nI M A (do bindName X.env n .none;unbindBehindTheSuite X.env n pos) Q E s:=by
 have fD:(X.env.scope.kind == .class ||(X.env.scope.kind == .module && X.env.locals != X.env.globals))=false:=by rw[I.ok.kind];rfl
 have hk:X.env.kindOf n=some .local:=hl;refine iV (wpAny_bindName (ze4_ (v:=.non) I hN hi (.inl hl) rfl (λs1 I1=>?_) (.inr hl)))
 obtain⟨m,hn,jN⟩:=id I1.loc;unfold unbindBehindTheSuite;refine wpAny_onRaise ?_;unfold unbindName;refine iV (wpAny_point ?_);refine iV ?_;unfold deleteName;simp only[hk,fD];rw[if_neg (by decide)]
 have cQ:i<σ.length:=by rw[I.len];exact(qi.mp hi).1
 have there:(m n).isSome=true:=by
  obtain⟨u,r,q⟩:=jN i n .non hi (sy cQ) (.inl hl);rcases q with⟨_,e⟩|⟨z,_⟩
  ·rw[e];rfl
  ·rw[hk]at z
   rcases z with z |z<;>cases z
 refine iV (wpAny_nsDel_keeps hn λh2 v cf hs=>?_)
 rw[there];simp only[wa,uk,if_false];refine nh (wpAny_point (h _ ?_));obtain⟨oL,_,_,dU,_⟩:=id hn;have cne:=I1.cne;have low:∀b o,X.s₀.heap.get? b=some o->b≠X.env.locals:=λb o e=>qo (qw (pT e) I1.ok.above)
 refine⟨I1.ok,I1.os,I1.bare,⟨λb o e n hb hx=>?_,λb o e n hb hx=>?_,I1.base.free,λb o e hx=>?_,I1.base.tups,I1.base.frzs,I1.base.tbls⟩,⟨_,cf,λj y v' e1 e2 e3=>?_⟩,λy c e=>?_,I1.free,I1.freeC,λp hp=>?_,λb ob e=>?_,by simpa using I.len⟩
 ·exact(hs.2 b (low b o e)).trans (I1.base.keep b o e n hb hx)
 ·obtain⟨sl,e1⟩:=I1.base.slot b o e n hb hx
  exact⟨sl,(hs.2 b (low b o e)).trans e1⟩
 ·obtain⟨o',e1⟩:=I1.base.there b o e hx
  exact⟨o',(hs.2 b (low b o e)).trans e1⟩
 ·by_cases hj:j=i
  ·subst hj
   rw[sy cQ]at e2;cases e2
  ·rw[sV (tH hj)]at e2
   obtain⟨u',r',q⟩:=jN j y v' e1 (by rw[sV (tH hj)];exact e2) e3
   refine⟨u',r',?_⟩;rcases q with⟨k,e⟩|⟨k,c,e,z⟩
   ·refine .inl ⟨k,?_⟩
    have:y≠n:=λe=>hj (zhq_ hN e1 (e ▸ hi))
    simp[this,e]
   ·exact .inr ⟨k,c,e,z.sameBut hs (cne y c e)⟩
 ·obtain⟨w',z⟩:=I1.cell y c e
  exact⟨w',z.sameBut hs (cne y c e)⟩
 ·obtain⟨e,n,ne,nf,d⟩:=I1.pin p hp
  exact⟨(hs.2 p.1 ne).trans e,n,ne,nf,d⟩
 ·refine(I1.hok b ob e).stay (λc w' hc q=>(hs.2 c ?_).trans q) (λ_ q=>q) λ_ _ q=>q
  rintro rfl;rcases hc with rfl |hc
  ·rw[I1.free]at e;cases e
  ·rw[I1.free]at hc;cases hc
abbrev zlb_ (X:Cx)(s1:kZ)(x T:nc):Heap:=vq s1.heap (frs X.stack++[x,T])
section
variable {X:Cx}{body:List qL}{tb:TX}{ts:TS}{S:nc}{sx n:Str}{i:Nat}{bU:qL}{aR:List qL}{np cb pos:Pos}
def gone (i:Nat)(D:Ends):Ends:={nx:=λσ H=>D.nx (σ.set i none) H,rt:=D.rt,bk:=λσ H=>D.bk (σ.set i none) H,ct:=λσ H=>D.ct (σ.set i none) H}
abbrev TH:=nc->Option nc->Ends->St->Hp->Prop
def tHAs (K:Fgg)(S:nc)(i:Nat)(ts:TS)(rest:TH):TH:=λC d D σ H=>if catK K C S=true then∀x,H x=none->ts (gone i D) (σ.set i (some (.ref x))) (upd H x (XO x C d))else catN K C S=true/\rest C d D σ H
def tH0:TH:=λ_ _ _ _ _=>False
def tTryH (tb:TX)(th:TH):TS:=λD σ H=>tb D (λai c d H'=>∃C,c=.ref C/\th C d D ai H') σ H
def PH (X:Cx)(hs:List ExceptHandler)(t:TH):Prop:=∀(pins:Pnn) (σ:St) (H:Hp) (D:Ends) (s:kZ) (x C:nc) (d:Option nc) (E:aL->kZ->Prop),Inv X pins σ (upd H x (XO x C d)) s->H x=none ->
 (∀A' Q' E',(∀h2,Inv X pins σ (upd H x (XO x C d)) {s with heap:=h2}->Q' () {s with heap:=h2})->nI (model X.prog X.w) A' (setFlight (.ref x) none) Q' E' s)->t C d D σ H->nI (model X.prog X.w) X.A (handleBy (.ref x) X.env hs) (SP X pins D) E s
variable {th rest:TH}{hs:List ExceptHandler}
theorem zsF_:PH X [] tH0:=λ_ _ _ _ _ _ _ _ _ _ _ _ h=>h.elim
theorem zry_ {t:Prop}{nm:Option Str}(hm:X.mg sx=some (.ref S))(hg:Gl X sx)(aB:(sx==("__debug__":Str))=false){pins:Pnn}{σ:St}{H:Hp}{D:Ends}{s:kZ}{x C:nc}{d:Option nc}{E:aL->kZ->Prop}(I:Inv X pins σ (upd H x (XO x C d)) s)
  (h:if catK X.K C S=true then codeAny (model X.prog X.w) (X.A.mark (some (.ref x))) (.handlers (.ref x) [.ExceptHandler none nm (bU::aR) cb] X.env) (λr aA=>match r with
     |.ok f=>(match nm with
      |none=>SP X pins D f aA
      |some n=>nI (model X.prog X.w) X.A (do bindName X.env n .none;unbindBehindTheSuite X.env n cb) (λ_ aJ=>SP X pins D f aJ) E aA)
     |.error y=>cameBackBy (model X.prog X.w) X.A X.env E y aA) s else catN X.K C S=true/\nI (model X.prog X.w) X.A (handleBy (.ref x) X.env hs) (SP X pins D) E s):
  nI (model X.prog X.w) X.A (handleBy (.ref x) X.env (.ExceptHandler (some (.Name sx np)) nm (bU::aR) cb::hs)) (SP X pins D) E s:=by
 refine wpAny_handleBy_cons (codeAny_handlers_test (zcR_ (X:=X.inX x) (I.inX x) hg hm ?_ aB)) (by intro q;cases q)
 obtain⟨xa,_⟩:=I.hok x _ zq_;split at h
 case isTrue hc=>exact zlZ_ (K:=X.K) I.kIn xa hc h
 case isFalse hc=>exact zlB_ (K:=X.K) I.kIn xa h.1 h.2
theorem ph_as (hm:X.mg sx=some (.ref S))(hN:X.N.Nodup)(hi:X.N[i]?=some n)(hl:X.env.scope.names.lookup n=some .local)(jF:∀x,PSs (X.inX x) (bU::aR) ts)(hr:PH X hs rest)
  (hg:Gl X sx:=by rfl) (aB:(sx==("__debug__":Str))=false:=by decide):PH X (.ExceptHandler (some (.Name sx np)) (some n) (bU::aR) cb::hs) (tHAs X.K S i ts rest):=by
 intro pins σ H D s x C d E I hx fl h;refine zry_ (t:=True) hm hg aB I ?_;unfold tHAs at h;split at h
 case isFalse hc=>rw[if_neg hc];exact⟨h.1,hr pins σ H D s x C d E I hx fl h.2⟩
 case isTrue hc=>
  rw[if_pos hc];refine codeAny_handlers_suite_as (fl _ _ _ λh6 I6=>?_)
  refine ze4_ (X:=X.inX x) (v:=.ref x) (I6.inX x) hN hi (.inl hl) rfl (λs7 I7=>?_) (.inr hl)
  refine qH (jF x pins s7 _ _ _ I7 (h x hx)) (λf s8 q=>?_) λ_ _ z=>z.elim
  have q:=q.outX I.ok;cases f with
  |next=>
   obtain⟨cX,H2,I8,q⟩:=q;exact ziG_ I8 hN hi hl λs9 I9=>⟨_,H2,I9,q⟩
  |brk=>
   obtain⟨cX,H2,I8,q⟩:=q;exact ziG_ I8 hN hi hl λs9 I9=>⟨_,H2,I9,q⟩
  |cont=>
   obtain⟨cX,H2,I8,q⟩:=q;exact ziG_ I8 hN hi hl λs9 I9=>⟨_,H2,I9,q⟩
  |ret u=>
   obtain⟨v,cX,H2,I8,r,q⟩:=q;exact ziG_ I8 hN hi hl λs9 I9=>⟨v,_,H2,I9,r,q⟩
theorem zqm_ {h₀:ExceptHandler}(aM:X.stack=X.env::X.outer)(cj:X.env.frame=some X.env.locals)(hb:PSsx X body tb)(hh:PH X (h₀::hs) th):PS X (.Try body (h₀::hs) [] [] pos) (tTryH tb th):=by
 intro pins s σ H D I h;refine wpAny_Try_except (qH (hb pins s σ H D _ I h) (λf s1 q=>?_) λe s1 q=>?_)
 ·cases f with
  |next=>exact wpAny_execs_nil q
  |ret v=>exact q
  |brk=>exact q
  |cont=>exact q
 ·obtain⟨ai,Hb,sb,Ib,x,T,C,d,H',rfl,os,bare,un,ok,aX,C',hC',q⟩:=q
  cases hC';have I1:Inv X pins ai H' s1:=Ib.call' (ch:=[]) os un ok bare (λb z=>absurd z (by simp))
  obtain⟨oe,vs,a0,oT,ts',he,df,hd,h1,hTe,hT,hdT,h3⟩:=aX.obj;have land:∀h',zlb_ X s1 x T |>.StaysIn h'->h'.FunFrames (zlb_ X s1 x T) X.stack->h'.TracedW (zlb_ X s1 x T) x (.ref C) a0->s1.heap.UpToSlots h'->Dc x d h'->Inv X pins ai (upd H' x (XO x C d)) {s1 with heap:=h'}:=λh' a b c up dd=>landed Ib os bare un ok aX ⟨a,rS _ (p5 _ nu),b,c⟩ up dd
  have tr:s1.heap.TracedW (zlb_ X s1 x T) x (.ref C) a0:=⟨oe,vs,T,oT,ts',he,df,hd,h1,rS _ (p5 _ (qa _ nu)),hTe,hT,hdT,h3⟩;have fG:s1.heap.FunFrames (zlb_ X s1 x T) X.stack:=uF I1.stack zlK_;rw[aM]at fG;refine zkO_ (outer:=X.outer) (I1.ok.frames.trans (congrArg some aM)) fG cj tr (λb o q=>uY _ q) (rS _ (p5 _ nu)) aX.dc λh4 n4 d4=>?_
  refine fl_d n4.1 n4.2.1 n4.2.2.1 d4 λh5 a5 b5 c5 u5 d5=>?_
  have u4:s1.heap.UpToSlots h4:=n4.2.2.2;rw[<- aM]at b5;refine hh pins ai H' D _ x C d _ (land h5 a5 b5 c5 (u4.trans u5) d5) aX.hx (λA' Q' E' kk=>?_) q
  exact fl_d a5 b5 c5.at d5 λh6 a6 b6 c6 u6 d6=>kk h6 (land h6 a6 b6 c6 ((u4.trans u5).trans u6) d6)
end
structure RoomN (k:Nat)(A:qu):Prop where
 dp:A.depth+3*k+5<recursionLimit
 un:A.units+16*k+200<cLine
theorem Room.nX {k:Nat}{A:qu}(r:Room k A)(x:nc):RoomN k (A.mark (some (.ref x))):=⟨r.dp,r.un⟩
theorem RoomN.mono {j k:Nat}{A:qu}(r:RoomN k A)(h:j<=k):RoomN j A:=⟨by have:=r.dp;lia,by have:=r.un;lia⟩
theorem RoomN.deeper {k:Nat}{A:qu}(r:RoomN (k+1) A)(env:Env):RoomN k (A.deeper env):=⟨by have:=r.dp;show A.depth+1+3*k+5<_;lia,by have:=r.un;show A.units+3+16*k+200<_;lia⟩
structure FnOkN (P:m7)(w:nL)(K:Fgg)(mg:Str->Option aL)(base:Heap)(k:Nat)(f:nc)(fd:rm)(ps:List Str)(sp:Sp):Prop where
 len:∀vs H Q E,sp vs H Q E->vs.length=ps.length
 run:∀(A:qu) (outer:List Env) (s:kZ) (H:Hp) (args:Args) (us:List aL) (vs:List V) (Q:VK) (E:XK),RoomN k A->Env0 P w K mg base A outer s H->BindsTo s fd args (ps.zip us)->Vals vs us->sp vs H Q E ->
  codeAny (model P w) A (.call (.ref f) args) (CR CX0 outer P w H s Q E) s
def cxN (P:m7)(w:nL)(K:Fgg)(mg:Str->Option aL)(base:Heap)(N:List Str)(qual:Str)(scope:Scope)(f:nc)(cd:aL)(A:qu)(outer:List Env)(s:kZ)(H:Hp):Cx:=
 {cxOf CX0 P w K mg base N qual scope f cd A outer s H E0 with calm:=false,xe:=λ_ _=>False}
section
variable {P:m7}{w:nL}{K:Fgg}{mg:Str->Option aL}{base:Heap}
theorem Fun.okN {x qual:Str}{st:qL}{f:nc}{fd:rm}{N ps:List Str}{k:Nat}{sp:Sp}(F:Fun K x qual st f fd)(S:FnScope N ps (defScope st))(len:∀vs H Q E,sp vs H Q E->vs.length=ps.length)
  (aG:∀(ah:aL) (A:qu) (outer:List Env) (s:kZ) (H:Hp) (vs:List V) (Q:VK) (E:XK),RoomN k (A.deeper (envOfC qual (defScope st) s.heap.objs.size f ah))->sp vs H Q E ->
   ∃t,PSs (cxN P w K mg base N qual (defScope st) f ah A outer s H) (defBody st) t/\t {nx:=λ_ H'=>Q .non H',rt:=Q} (start N vs) H):FnOkN P w K mg base (k+1) f fd ps sp:=by
 obtain⟨oc,od,kV,doc,pm,an,ah,ct,aw,rfl,lk,bB⟩:=F.ex;refine⟨len,λA outer s H args us vs Q E hr e0 hb r bI=>?_⟩
 have hl:=len _ _ _ _ bI;have KX:K.In s.heap:=e0.mod.kin.keeps λb o e=>(e0.bs b o e).1
 have lim:s.heap.NoLimit:=e0.mod.nolimit.keeps λb o e=>(e0.bs b o e).1
 have cO:∀y∈ps.zip us,(defScope st).names.lookup y.1=some .local\/((defScope st).names.lookup y.1=some .cell/\((cellsFrom (s.heap.objs.size+1) (defScope st).names []).lookup y.1).isSome=true):=λ⟨n,v⟩ hy=>by
  rcases S.par n (uh hy).1 with q |q
  ·exact .inl q
  ·exact .inr ⟨q,vv _ _ _ (.inl q)⟩
 refine codeAny_call_function (by have:=hr.dp;lia) (KX _ _ lk) rfl S.co S.gen rfl (yh KX bB) (hb _ _ _ _ ?_)
 refine wpAny_newFunctionEnv_cells S.kind cO λenv he s1 x=>?_
 subst he;refine⟨lim.keeps x.toInCall.keep,codeAny_func ?_⟩;obtain⟨t,ht,hq⟩:=aG ah A outer s H vs Q E (hr.deeper _) bI;have J:Inv (cxOf CX0 P w K mg base N qual (defScope st) f ah {A with handled:=none} outer s H E0) [] (start N vs) H s1:=ziy_ S rfl ⟨e0.frames,e0.mod,e0.bs,e0.bsz,e0.funs,e0.frf,e0.hok,e0.bare⟩ hl r x;have I:Inv (cxN P w K mg base N qual (defScope st) f ah A outer s H) [] (start N vs) H s1:=
  ⟨⟨J.ok.mod,J.ok.kind,J.ok.glob,J.ok.blt,J.ok.above,J.ok.inj,J.ok.has,J.ok.cab,(λz=>by cases z),Around.frames_deeper e0.frames,J.ok.stk,J.ok.exf,J.ok.bs,J.ok.bsz,J.ok.noex,J.ok.exfs,J.ok.funs,J.ok.frf⟩,J.os,J.bare,J.base,J.loc,J.cell,J.free,J.freeC,J.pin,J.hok,J.len⟩
 refine qH (ht [] s1 (start N vs) H _ I hq) (λfl s' hs=>?_) λe s' hs=>hs.elim
 have fin:∀{ai:St}{H':Hp}{v:V}{u:aL},Inv (cxN P w K mg base N qual (defScope st) f ah A outer s H) [] ai H' s'->RelV v u->Q v H'->CE outer P w H s Q u s':=
  λ{ai H' v u} J rv q=>⟨v,H',J.os,J.bare,J.base,J.hok,rv,q⟩
 cases fl with
 |ret u=>
  obtain⟨v,ai,H',J,rv,q⟩:=hs;exact fin J rv q
 |next=>
  obtain⟨ai,H',J,q⟩:=hs;exact fin (v:=V.non) (u:=qJ) J rfl q
 |brk=>
  obtain⟨_,_,_,q⟩:=hs;exact qk q
 |cont=>
  obtain⟨_,_,_,q⟩:=hs;exact qk q
theorem Fun.okX {x qual:Str}{st:qL}{f:nc}{fd:rm}{N ps:List Str}{k:Nat}{sp:Sp}(F:Fun K x qual st f fd)(S:FnScope N ps (defScope st))(len:∀vs H Q E,sp vs H Q E->vs.length=ps.length)
  (aG:∀(ah:aL) (A:qu) (outer:List Env) (s:kZ) (H:Hp) (vs:List V) (Q:VK) (E:XK),Room k (A.deeper (envOfC qual (defScope st) s.heap.objs.size f ah))->sp vs H Q E ->
   ∃t,PSs (cxOf (CXx P w) P w K mg base N qual (defScope st) f ah A outer s H E) (defBody st) t/\t {nx:=λ_ H'=>Q .non H',rt:=Q} (start N vs) H):FnOk P w K mg base (CXx P w) (k+1) f fd ps sp:=by
 obtain⟨oc,od,kV,doc,pm,an,ah,ct,aw,rfl,lk,bB⟩:=F.ex;exact zse_ lk bB S len λA outer s H vs Q E hr bI=>aG ah A outer s H vs Q E hr bI
end
def GdN (P:m7)(w:nL)(K:Fgg)(mg:Str->Option aL)(base:Heap)(k:Nat)(x:Str)(ps:List Str)(sp:Sp):Prop:=
 ∃f fd,FnOkN P w K mg base k f fd ps sp/\mg x=some (.ref f)/\sH K (.ref f)=true/\Binds K fd ps []
section
variable {X:Cx}{k:Nat}{x:Str}{ps:List Str}{sp:Sp}{p pos:Pos}{e:qF}{es:List qF}{t:TA}
theorem zn9_ (G:GdN X.prog X.w X.K X.mg X.base k x ps sp)(hr:RoomN k X.A)(ha:PA X (e::es) t)(hg:Gl X x:=by rfl)(aB:(x==("__debug__":Str))=false:=by decide)
  (he:qg (e::es) X.env=(false,eval e X.env)::qg es X.env:=by rfl) (ax:(sh pos (qg es X.env)).any (·.1)=false:=by rfl):
  PE X (.Call (.Name x p) (e::es) [] pos) (tCall sp [] E0 t):=by
 intro pins s σ H Q I h;obtain⟨f,fd,F,hm,hk,hb⟩:=G;refine se (zcR_ I hg hm ?_ aB);refine vD (h₀:=X.base) I.ok.mod.kin hk (thn (ha pos pins s σ H _ I h) λus s1 q=>?_) he ax
 obtain⟨vs,H1,I1,r,q⟩:=q;refine⟨I1.kIn,?_⟩;have r2:Vals (vs++[]) (us++[]):=r.append .nil;have hl:(us++[]).length=ps.length:=by rw[<- r2.length];exact F.len _ _ _ _ q
 refine wpAny_call (codeAny_mono (F.run X.A X.stack s1 H1 ⟨us,[]⟩ (us++[]) (vs++[]) Q E0 hr I1.env0 (hb s1 us I1.kIn hl) r2 q) λr s' hq=>?_)
 cases r with
 |error e=>exact qk hq
 |ok fl=>
  cases fl with
  |ret u=>exact I1.after hq
  |next=>exact qk hq
  |brk=>exact qk hq
  |cont=>exact qk hq
end
def SG:List Nat:=[32,48,49,50,51,52,53,54,55,56,57,65,66,67,68,69,70,71,72,73,74,75,76,77,78,79,80,81,82,83,84,85,86,87,88,89,90]
def rk (l:List Nat):Option Nat:=match l with |[c]=>SG.findIdx? (· == c)|_=>none
theorem zrJ_ (c:Nat):c∈SG↔(SG.findIdx? (· == c)).isSome=true:=by
 grind
section
variable {X:Cx}
def mAll (K:Fgg):List V->Hp->VK->Prop:=λxs H Q=>match xs with |[.ref p]=>∃bs:List Bool,SqL K H p (bs.map V.bl)/\Q (.bl (bs.all id)) H |_=>False
theorem zgX_:∀{bs:List Bool}{us:List aL},Vals (bs.map V.bl) us->us=bs.map tP
 |[],_,.nil=>rfl
 |b::bs,_,.cons r t=>by rw[zgX_ t];cases r;rfl
theorem zjn_ {P:m7}{w:nL}{A:qu}{bs:List Bool}:TruthOf P w A (λi v=>(bs.map tP).toArray[i]?=some v) (λi=>bs.getD i false):=by
 intro i v s Q E h q;have h':(bs.map tP)[i]?=some v:=by simpa using h
 rw[qU]at h';cases e:bs[i]? with
 |none=>rw[e]at h';cases h'
 |some b=>
  rw[e]at h';cases h';have:bs.getD i false=b:=by rw[ql,e];rfl
  have q:Q (bs.getD i false) s:=q;rw[this]at q;exact rj q
theorem zfU_ (bs:List Bool):(qG bs.length).all (λi=>bs.getD i false)=bs.all id:=by
 rw[sR,rq,rq];constructor
 ·intro h b hb
  obtain⟨i,hi,e⟩:=List.getElem_of_mem hb;have:=h i (rd.mpr hi);rw[ql,nj hi]at this;rw[<- e];exact this
 ·intro h i hi
  have hi:=rd.mp hi;rw[ql,nj hi];exact h _ (tR hi)
theorem zmm_ (hc:X.calm=true):CallR X (.builtin "all") (mAll X.K):=by
 intro pins s σ H xs us Q I r h;unfold mAll at h;split at h
 ·rename_i p
  obtain⟨bs,hS,q⟩:=h;obtain⟨u,rfl,rx⟩:=vals1 r;cases rx;obtain⟨aa,rv,pl,hz⟩:=I.list hS;rw[zgX_ rv]at pl;have hp:=pT pl.isList.choose_spec.1;have aF:p≠s.heap.objs.size:=qo hp;refine call_all_walk (wpAny_pyIter_list pl.isList ⟨_,_,_,_,_,_,_,rfl,Walks.list (A:=X.A.in1) (I.ok.hd hc) _ p aF (bs.map tP).toArray,⟨⟨_,p7 _ rfl,rfl,rfl⟩,pl.isList.at λo e=>iX _ e⟩,zjn_,λh' tk kk=>?_⟩)
  refine⟨.bl (bs.all id),H,I.kept (t':=tk) λb o e=>kk b o (by simpa using qo (pT e)) (iX _ e),?_,q⟩
  show tP _=_
  rw[ng,l6,zfU_]
 ·exact h.elim
def mRange:List V->Hp->VK->Prop:=λxs H Q=>match xs with
 |[.int j]=>∀p,H p=none->Q (.ref p) (upd H p (.rng 0 j))
 |[.int i,.int j]=>∀p,H p=none->Q (.ref p) (upd H p (.rng i j))
 |_=>False
theorem ziL_:CallR X (.type "range") mRange:=by
 intro pins s σ H xs us Q I r h;unfold mRange at h;split at h
 ·rename_i j
  obtain⟨u,rfl,t,rfl⟩:=vals1 r;refine call_range_1 ⟨.ref s.heap.objs.size,_,I.laid (o:=.rng 0 j) (λb ob q=>iX _ q) (nG _) ?_,rfl,h _ (I.hok.fresh (nG _))⟩
  exact⟨_,_,_,p7 _ rfl⟩
 ·rename_i i j
  obtain⟨u,u',rfl,⟨t,rfl⟩,⟨t',rfl⟩⟩:=vals2 r;refine call_range_2 ⟨.ref s.heap.objs.size,_,I.laid (o:=.rng i j) (λb ob q=>iX _ q) (nG _) ?_,rfl,h _ (I.hok.fresh (nG _))⟩
  exact⟨_,_,_,p7 _ rfl⟩
 ·exact h.elim
def intsV (lo hi:Int):List V:=(qG (hi-lo).toNat).map λ(i:Nat)=>V.int (lo+i)
noncomputable def mList (K:Fgg):List V->Hp->VK->Prop:=λxs H Q=>match xs with
 | [.ref p]=>(∃ys,(SqL K H p ys\/SqT K H p ys)/\∀l,H l=none->Q (.ref l) (upd H l (.lst ys))) \/
   (∃lo hi,H p=some (.rng lo hi)/\(-50000<=lo/\lo<=50000 /\ -50000<=hi/\hi<=50000)/\∀l,H l=none->Q (.ref l) (upd H l (.lst (intsV lo hi))))
 |_=>False
theorem zn6_ {lo:Int}:∀{n:Nat}{us:List aL},us.length=n->(∀(j:Nat) (v:aL),us[j]?=some v->∃t,v=uB (lo+j) t)->Vals ((qG n).map λ(i:Nat)=>V.int (lo+i)) us
 |n,us,hl,h=>by
  refine paired_of (by rw[l6,qY,hl]) λj x u hx hu=>?_
  rw[qU]at hx;cases e:(qG n)[j]? with
  |none=>rw[e]at hx;cases hx
  |some i=>
   rw[e]at hx;cases hx;have:=qi.mp e;obtain⟨hj,ej⟩:=this;rw[um]at ej;subst ej;exact h j u hu
 where paired_of:∀{xs:List V}{us:List aL},xs.length=us.length->(∀(j:Nat) x u,xs[j]?=some x->us[j]?=some u->RelV x u)->Vals xs us
 |[],[],_,_=>.nil
 |x::xs,u::us,hl,h=>.cons (h 0 x u rfl rfl) (paired_of (yo hl) λj x u a b=>h (j+1) x u a b)
theorem zkr_ (hc:X.calm=true):CallR X (.type "list") (mList X.K):=by
 intro pins s σ H xs us Q I r h;have hv:∃p,xs=[.ref p]:=by
  rcases xs with _ |⟨y,_ |⟨z,t⟩⟩
  ·exact qk h
  ·cases y with
   |ref p=>exact⟨p,rfl⟩
   |_=>exact qk h
  ·cases y<;>exact qk h
 obtain⟨p,rfl⟩:=hv
 ·rcases h with⟨ys,hq,q⟩|⟨lo,hi,hp,⟨h1,h2,h3,h4⟩,q⟩
  ·exact zhF_ pins s σ H _ us Q I r ⟨p,ys,rfl,hq,q⟩
  ·obtain⟨u,rfl,rx⟩:=vals1 r
   cases rx;obtain⟨t,u,v,e⟩:=I.hok p _ hp;have hn:vt lo hi 1=(((hi-lo).toNat:Nat):Int):=by rw[rangeSize_one];split<;>lia
   refine call_list_range (I.ok.hd hc) e (small_one (by lia) (by lia) (by lia) (by lia)) hn (by lia) λh' tk acc c' kp e' af=>?_
   obtain⟨hs,bT⟩:=af;refine⟨.ref s.heap.objs.size,_,I.laid (o:=.lst (intsV lo hi)) (t':=tk) kp (nG _) ?_,rfl,q _ (I.hok.fresh (nG _))⟩;refine⟨?_,acc.toList,c',zn6_ (by simpa using hs) (λj v hv=>?_),by simpa using e'⟩
   ·unfold intsV;rw[l6,qY];exact zdp_ (by lia)
   ·obtain⟨t,ht⟩:=bT j v (by simpa using hv)
    exact⟨t,by rw[ht];simp⟩
end
inductive EqD (K:Fgg) (H:Hp):Nat->V->V->Bool->Prop
 |flat {x y:V}(hx:flatV x=true) (hy:flatV y=true):EqD K H 0 x y (eqV x y)
 |lst {n:Nat}{p q:nc}{xs ys:List V}(e:Nat->Bool) (hp:SqL K H p xs) (hq:SqL K H q ys) (hl:xs.length=ys.length) (h:∀(i:Nat) x y,xs[i]?=some x->ys[i]?=some y->EqD K H n x y (e i)):EqD K H (n+1) (.ref p) (.ref q) ((qG xs.length).all e)
 |lstN {n:Nat}{p q:nc}{xs ys:List V}(hp:SqL K H p xs) (hq:SqL K H q ys) (hl:xs.length≠ys.length):EqD K H n (.ref p) (.ref q) false
 |tup {n:Nat}{p q:nc}{xs ys:List V}(e:Nat->Bool) (hp:SqT K H p xs) (hq:SqT K H q ys) (h:∀(i:Nat) x y,xs[i]?=some x->ys[i]?=some y->EqD K H n x y (e i)):EqD K H (n+1) (.ref p) (.ref q) ((qG (min xs.length ys.length)).all e && xs.length == ys.length)
 |lt {n:Nat}{p q:nc}{xs ys:List V}(hp:SqL K H p xs) (hq:SqT K H q ys):EqD K H n (.ref p) (.ref q) false
 |tl {n:Nat}{p q:nc}{xs ys:List V}(hp:SqT K H p xs) (hq:SqL K H q ys):EqD K H n (.ref p) (.ref q) false
 |lf {n:Nat}{p:nc}{xs:List V}{y:V}(hp:SqL K H p xs) (hy:flatV y=true):EqD K H n (.ref p) y false
 |fl {n:Nat}{p:nc}{xs:List V}{y:V}(hp:SqL K H p xs) (hy:flatV y=true):EqD K H n y (.ref p) false
 |tf {n:Nat}{p:nc}{xs:List V}{y:V}(hp:SqT K H p xs) (hy:flatV y=true):EqD K H n (.ref p) y false
 |ft {n:Nat}{p:nc}{xs:List V}{y:V}(hp:SqT K H p xs) (hy:flatV y=true):EqD K H n y (.ref p) false
 |up {n:Nat}{x y:V}{b:Bool}(h:EqD K H n x y b):EqD K H (n+1) x y b
section
variable {X:Cx}{pins:Pnn}{σ:St}{H:Hp}{s:kZ}
theorem zdZ_ {xs:List V}{us:List aL}(r:Vals xs us){i:Nat}(h:i<us.toArray.size):∃x,xs[i]?=some x/\RelV x us.toArray[i]:=by
 have hi:i<us.length:=by simpa using h
 have hl:=r.length;obtain⟨u,hu,ru⟩:=r.get (nj (show i<xs.length by lia))
 grind
theorem zkC_ (I:Inv X pins σ H s){n:Nat}{x y:V}{b:Bool}(h:EqD X.K H n x y b):x=y->b=true:=by
 induction h with
 |flat hx hy=>
  rename_i x y
  rintro rfl;cases x<;>first |(cases hx;done)|(simp[eqV];done)|rfl
 |lst e hp hq hl h ih=>
  rename_i n p q xs ys
  intro e0;cases e0;have fH:=I.list_inj hp hq;subst fH;rw[rq];intro i hi;have hi:=rd.mp hi;exact ih i _ _ (nj hi) (nj hi) rfl
 |lstN hp hq hl=>
  intro e0;cases e0;exact absurd (by rw[I.list_inj hp hq]) hl
 |tup e hp hq h ih=>
  rename_i n p q xs ys
  intro e0;cases e0;have fH:=I.tuple_inj hp hq;subst fH;rw[qj,rq];refine⟨?_,by simp⟩
  intro i hi;have hi:=rd.mp hi;have hi:i<xs.length:=by lia
  exact ih i _ _ (nj hi) (nj hi) rfl
 |lt hp hq=>
  intro e0;cases e0;obtain⟨aa,r1,p1,z1⟩:=I.list hp;obtain⟨au,r2,p2,z2⟩:=I.tuple hq;exact absurd rfl (vG p1.isList p2)
 |tl hp hq=>
  intro e0;cases e0;obtain⟨aa,r1,p1,z1⟩:=I.tuple hp;obtain⟨au,r2,p2,z2⟩:=I.list hq;exact absurd rfl (vG p2.isList p1)
 |lf hp hy=>rintro rfl;cases hy
 |fl hp hy=>rintro rfl;cases hy
 |tf hp hy=>rintro rfl;cases hy
 |ft hp hy=>rintro rfl;cases hy
 |up h ih=>exact ih
theorem zoM_ (I:Inv X pins σ H s){n:Nat}{x y:V}{b:Bool}(h:EqD X.K H n x y b):∀(A:qu) (v u:aL),A.units+n<cLine->RelV x v->RelV y u ->
  xm A s v u b/\(∀p q,x=.ref p->y=.ref q->wt A s v u b):=by
 induction h with
 |flat hx hy=>
  intro A v u _ rx ry;refine⟨zpN_ rx ry hx hy,λp q e _=>?_⟩
  subst e;cases hx
 |lst e hp hq hl h ih=>
  rename_i n p q xs ys
  intro A v u hu rx ry;cases rx;cases ry;obtain⟨aa,r1,p1,z1⟩:=I.list hp;obtain⟨au,r2,p2,z2⟩:=I.list hq;have l1:=r1.length;have l2:=r2.length;have rc:wt A s (.ref p) (.ref q) ((qG xs.length).all e):=by
   have:=SeqAt.RcAt.lists (A:=A) (e:=e) p1.isList p2.isList (by simp only[ng];lia) (by lia) (λj h1 h2=>by
    obtain⟨x,ex,rx⟩:=zdZ_ r1 h1;obtain⟨y,ey,ry⟩:=zdZ_ r2 h2;exact(ih j x y ex ey A.in1 _ _ (by show A.units+1+n<_;lia) rx ry).1)
   rw[ng,<- l1]at this;exact this
  refine⟨?_,λ_ _ _ _=>rc⟩
  by_cases hpq:p=q
  ·subst hpq
   have fH:=I.list_inj hp hq;subst fH;have:(qG xs.length).all e=true:=by
    rw[rq];intro i hi;have hi:=rd.mp hi;exact zkC_ I (h i _ _ (nj hi) (nj hi)) rfl
   rw[this];exact vJ _
  ·exact .of_refs hpq rc
 |lstN hp hq hl=>
  rename_i n p q xs ys
  intro A v u hu rx ry;cases rx;cases ry;obtain⟨aa,r1,p1,z1⟩:=I.list hp;obtain⟨au,r2,p2,z2⟩:=I.list hq;have l1:=r1.length;have l2:=r2.length;have rc:wt A s (.ref p) (.ref q) false:=SeqAt.RcAt.lists_lengths p1.isList p2.isList (by simp only[ng,bne_iff_ne,ne_eq];lia) (by lia)
  refine⟨.of_refs (λe=>?_) rc,λ_ _ _ _=>rc⟩
  subst e;exact hl (by rw[I.list_inj hp hq])
 |tup e hp hq h ih=>
  rename_i n p q xs ys
  intro A v u hu rx ry;cases rx;cases ry;obtain⟨aa,r1,p1,z1⟩:=I.tuple hp;obtain⟨au,r2,p2,z2⟩:=I.tuple hq;have l1:=r1.length;have l2:=r2.length;have rc:wt A s (.ref p) (.ref q) ((qG (min xs.length ys.length)).all e && xs.length == ys.length):=by
   have:=SeqAt.RcAt.tuples (A:=A) (e:=e) (show s.heap.IsTuple p aa.toArray from p1) (show s.heap.IsTuple q au.toArray from p2) (by lia) (λj h1 h2=>by
    obtain⟨x,ex,rx⟩:=zdZ_ r1 h1;obtain⟨y,ey,ry⟩:=zdZ_ r2 h2;exact(ih j x y ex ey A.in1 _ _ (by show A.units+1+n<_;lia) rx ry).1)
   rw[ng,ng,<- l1,<- l2]at this;exact this
  refine⟨?_,λ_ _ _ _=>rc⟩
  by_cases hpq:p=q
  ·subst hpq
   have fH:=I.tuple_inj hp hq;subst fH;have:((qG (min xs.length xs.length)).all e && xs.length == xs.length)=true:=by
    rw[qj,rq];refine⟨?_,by simp⟩
    intro i hi;have hi:=rd.mp hi;have hi:i<xs.length:=by lia
    exact zkC_ I (h i _ _ (nj hi) (nj hi)) rfl
   rw[this];exact vJ _
  ·exact .of_refs hpq rc
 |lt hp hq=>
  intro A v u hu rx ry;cases rx;cases ry;obtain⟨aa,r1,p1,z1⟩:=I.list hp;obtain⟨au,r2,p2,z2⟩:=I.tuple hq;exact⟨.list_tuple p1.isList p2 (by lia),λ_ _ _ _=>.list_tuple p1.isList p2 (by lia)⟩
 |tl hp hq=>
  intro A v u hu rx ry;cases rx;cases ry;obtain⟨aa,r1,p1,z1⟩:=I.tuple hp;obtain⟨au,r2,p2,z2⟩:=I.list hq;exact⟨.tuple_list p1 p2.isList (by lia),λ_ _ _ _=>.tuple_list p1 p2.isList (by lia)⟩
 |lf hp hy=>
  rename_i n p xs y
  intro A v u hu rx ry;cases rx;obtain⟨aa,r1,p1,z1⟩:=I.list hp;refine⟨?_,λ_ _ _ e=>by subst e;cases hy⟩
  cases y with
  |non=>cases ry;exact .list_none p1.isList (by lia)
  |bl b=>cases ry;exact .list_bool b p1.isList (by lia)
  |int b=>obtain⟨t,rfl⟩:=ry;exact .list_int b t p1.isList (by lia)
  |str b=>obtain⟨t,rfl⟩:=ry;exact .list_str b t p1.isList (by lia)
  |_=>cases hy
 |fl hp hy=>
  rename_i n p xs y
  intro A v u hu rx ry;cases ry;obtain⟨aa,r1,p1,z1⟩:=I.list hp;refine⟨?_,λ_ _ e _=>by subst e;cases hy⟩
  cases y with
  |non=>cases rx;exact .none_list p1.isList (by lia)
  |bl b=>cases rx;exact .bool_list b p1.isList (by lia)
  |int b=>obtain⟨t,rfl⟩:=rx;exact .int_list b t p1.isList (by lia)
  |str b=>obtain⟨t,rfl⟩:=rx;exact .str_list b t p1.isList (by lia)
  |_=>cases hy
 |tf hp hy=>
  rename_i n p xs y
  intro A v u hu rx ry;cases rx;obtain⟨aa,r1,p1,z1⟩:=I.tuple hp;refine⟨?_,λ_ _ _ e=>by subst e;cases hy⟩
  cases y with
  |non=>cases ry;exact .tuple_none p1 (by lia)
  |bl b=>cases ry;exact .tuple_bool b p1 (by lia)
  |int b=>obtain⟨t,rfl⟩:=ry;exact .tuple_int b t p1 (by lia)
  |str b=>obtain⟨t,rfl⟩:=ry;exact .tuple_str b t p1 (by lia)
  |_=>cases hy
 |ft hp hy=>
  rename_i n p xs y
  intro A v u hu rx ry;cases ry;obtain⟨aa,r1,p1,z1⟩:=I.tuple hp;refine⟨?_,λ_ _ e _=>by subst e;cases hy⟩
  cases y with
  |non=>cases rx;exact .none_tuple p1 (by lia)
  |bl b=>cases rx;exact .bool_tuple b p1 (by lia)
  |int b=>obtain⟨t,rfl⟩:=rx;exact .int_tuple b t p1 (by lia)
  |str b=>obtain⟨t,rfl⟩:=rx;exact .str_tuple b t p1 (by lia)
  |_=>cases hy
 |up h ih=>
  intro A v u hu rx ry;exact ih A v u (by lia) rx ry
end
section
variable {X:Cx}
def mEqK (K:Fgg):R2:=λx y H Q=>match x,y with
 |.ref p,.ref q=>∃n b,n<=50/\EqD K H n (.ref p) (.ref q) b/\Q (.bl b) H
 |_,_=>mEq x y H Q
def mNeK (K:Fgg):R2:=λx y H Q=>match x,y with
 |.ref p,.ref q=>∃n b,n<=50/\EqD K H n (.ref p) (.ref q) b/\Q (.bl (!b)) H
 |_,_=>mNe x y H Q
theorem znM_ (hu:X.A.units+60<cLine):OpR X (qB .Eq) (mEqK X.K):=by
 intro pins s σ H x y v u Q I rx ry h;unfold mEqK at h;split at h
 ·rename_i p q
  obtain⟨n,b,hn,h,q⟩:=h;have:=(zoM_ I h X.A v u (by lia) rx ry).2 _ _ rfl rfl
  exact this X.prog X.w X.xe _ ⟨.bl b,H,I,rfl,q⟩
 ·exact zsy_ pins s σ H x y v u Q I rx ry h
variable {pins:Pnn}{σ:St}{H:Hp}{s:kZ}
theorem ztp_ (I:Inv X pins σ H s){n:Nat}{x y:V}{b:Bool}(h:EqD X.K H n x y b):∀(A:qu) (v u:aL),A.units+n<cLine->RelV x v->RelV y u->∀p q,x=.ref p->y=.ref q->SeqAt.RcNeAt A s v u (!b):=by
 induction h with
 |flat hx hy=>intro A v u _ rx ry p q e _;subst e;cases hx
 |lst e hp hq hl h ih=>
  rename_i n p q xs ys
  intro A v u hu rx ry _ _ _ _;cases rx;cases ry;obtain⟨aa,r1,p1,z1⟩:=I.list hp;obtain⟨au,r2,p2,z2⟩:=I.list hq;have l1:=r1.length;have l2:=r2.length;have:=yB (A:=A) (e:=e) p1.isList p2.isList (by simp only[ng];lia) (by lia) (λj h1 h2=>by
   obtain⟨x,ex,rx⟩:=zdZ_ r1 h1;obtain⟨y,ey,ry⟩:=zdZ_ r2 h2;exact(zoM_ I (h j x y ex ey) A.in1 _ _ (by show A.units+1+n<_;lia) rx ry).1)
  rw[ng,<- l1]at this;exact this
 |lstN hp hq hl=>
  intro A v u hu rx ry _ _ _ _;cases rx;cases ry;obtain⟨aa,r1,p1,z1⟩:=I.list hp;obtain⟨au,r2,p2,z2⟩:=I.list hq;have l1:=r1.length;have l2:=r2.length;exact xt p1.isList p2.isList (by simp only[ng,bne_iff_ne,ne_eq];lia) (by lia)
 |tup e hp hq h ih=>
  rename_i n p q xs ys
  intro A v u hu rx ry _ _ _ _;cases rx;cases ry;obtain⟨aa,r1,p1,z1⟩:=I.tuple hp;obtain⟨au,r2,p2,z2⟩:=I.tuple hq;have l1:=r1.length;have l2:=r2.length;have:=yx (A:=A) (e:=e) (show s.heap.IsTuple p aa.toArray from p1) (show s.heap.IsTuple q au.toArray from p2) (by lia) (λj h1 h2=>by
   obtain⟨x,ex,rx⟩:=zdZ_ r1 h1;obtain⟨y,ey,ry⟩:=zdZ_ r2 h2;exact(zoM_ I (h j x y ex ey) A.in1 _ _ (by show A.units+1+n<_;lia) rx ry).1)
  rw[ng,ng,<- l1,<- l2]at this;exact this
 |lt hp hq=>
  intro A v u hu rx ry _ _ _ _;cases rx;cases ry;obtain⟨aa,r1,p1,z1⟩:=I.list hp;obtain⟨au,r2,p2,z2⟩:=I.tuple hq;exact .list_tuple p1.isList p2 (by lia)
 |tl hp hq=>
  intro A v u hu rx ry _ _ _ _;cases rx;cases ry;obtain⟨aa,r1,p1,z1⟩:=I.tuple hp;obtain⟨au,r2,p2,z2⟩:=I.list hq;exact .tuple_list p1 p2.isList (by lia)
 |lf hp hy=>intro A v u hu rx ry _ _ _ e;subst e;cases hy
 |fl hp hy=>intro A v u hu rx ry _ _ e _;subst e;cases hy
 |tf hp hy=>intro A v u hu rx ry _ _ _ e;subst e;cases hy
 |ft hp hy=>intro A v u hu rx ry _ _ e _;subst e;cases hy
 |up h ih=>intro A v u hu rx ry;exact ih A v u (by lia) rx ry
theorem ztz_ (hu:X.A.units+60<cLine):OpR X (qB .NotEq) (mNeK X.K):=by
 intro pins s σ H x y v u Q I rx ry h;unfold mNeK at h;split at h
 ·rename_i p q
  obtain⟨n,b,hn,h,q⟩:=h;have:=ztp_ I h X.A v u (by lia) rx ry _ _ rfl rfl
  exact this X.prog X.w X.xe _ ⟨.bl (!b),H,I,rfl,q⟩
 ·exact zsP_ pins s σ H x y v u Q I rx ry h
end
theorem Room.u60 {k:Nat}{A:qu}(r:Room k A):A.units+60<cLine:=by have:=r.units;lia
end L2
namespace LX
open PySem Builtin Builtin.Str
section
end
end LX
namespace L2
open PySem PySem.Spec PyProof.Rows
section
variable {X:Cx}{a b c d:qF}{ta tb tc td:TE}{pos:Pos}
def mChain3 (r r' il:R2)(ta tb tc td:TE):TE:=λσ H Q=>ta σ H λx H1=>tb σ H1 λy H2=>r x y H2 λz H3=>match z with
 |.bl k=>br k (tc σ H3 λw H4=>r' y w H4 λz' H5=>match z' with |.bl k'=>br k' (td σ H5 λw' H6=>il w w' H6 Q) (Q (.bl false) H5)|_=>False) (Q (.bl false) H3)
 |_=>False
theorem zkG_ {op eW eU:CmpOp}{r r' il:R2}(ho:OpR X (qB op) r)(bR:OpR X (qB eW) r')(jK:OpR X (qB eU) il)(ha:PE X a ta)(hb:PE X b tb)(hc:PE X c tc)(hd:PE X d td)
  (hm:lastMarks [op,eW,eU] [b,c,d]=false:=by with_unfolding_all rfl):PE X (.Compare a [op,eW,eU] [b,c,d] pos) (mChain3 r r' il ta tb tc td):=by
 intro pins s σ H Q I h;refine Compare_chain (thn (ha pins s σ H _ I h) λv s1 ⟨x,H1,I1,r1,q1⟩=>chain_link (thn (hb pins s1 σ H1 _ I1 q1) λu s2 ⟨y,H2,I2,r2,q2⟩=>
  thn (ho pins s2 σ H2 x y v u _ I2 r1 r2 q2) λd s3 ⟨z,H3,I3,r3,q3⟩=>?_)) hm
 cases z with
 |bl k=>
  cases r3;refine rj ?_;cases k with
  |false=>exact ite_ff ⟨.bl false,H3,I3,rfl,q3.2 rfl⟩
  |true=>
   refine ite_tt (chain_link (thn (hc pins s3 σ H3 _ I3 (q3.1 rfl)) λw' s4 ⟨z',H4,I4,r4,q4⟩=>thn (bR pins s4 σ H4 y z' u w' _ I4 r2 r4 q4) λd' s5 af=>?_))
   obtain⟨z2,H5,I5,r5,q5⟩:=af;cases z2 with
   |bl k2=>
    cases r5;refine rj ?_;cases k2 with
    |false=>exact ite_ff ⟨.bl false,H5,I5,rfl,q5.2 rfl⟩
    |true=>exact ite_tt (chain_last (thn (hd pins s5 σ H5 _ I5 (q5.1 rfl)) λw2 s6 ⟨z3,H6,I6,r6,q6⟩=>jK pins s6 σ H6 z' z3 w' w2 Q I6 r4 r6 q6))
   |_=>exact q5.elim
 |_=>exact q3.elim
end
section
variable {κ:Type}[DecidableEq κ]
def valV (kvs:List (κ×V))(k:κ):Option V:=(kvs.find? λkv=>decide (kv.1=k)).map (·.2)
def putK (kvs:List (κ×V))(k:κ)(v:V):List (κ×V):=
 if(kvs.any λkv=>decide (kv.1=k))=true then kvs.map (λkv=>if kv.1=k then(kv.1,v)else kv)else kvs++[(k,v)]
theorem zhw_ {p:κ×V}{r:List (κ×V)}{k:κ}(e:p.1=k):valV (p::r) k=some p.2:=by simp[valV,rE,e]
theorem zht_ {p:κ×V}{r:List (κ×V)}{k:κ}(e:¬p.1=k):valV (p::r) k=valV r k:=by simp[valV,rE,e]
theorem zkK_ (k:κ):∀kvs:List (κ×V),(kvs.any λkv=>decide (kv.1=k))=(valV kvs k).isSome
 |[]=>rfl
 |p::r=>by
  rw[sC];by_cases e:p.1=k
  ·simp only[zhw_ e,decide_eq_true e,Bool.true_or,Option.isSome_some]
  ·rw[zht_ e,decide_eq_false e,Bool.false_or];exact zkK_ k r
theorem zdF_ (kvs:List (κ×V))(k:κ)(v:V):(putK kvs k v).length<=kvs.length+1:=by
 unfold putK;grind
theorem RelO.isSome_eq {o:Option V}{u:Option aL}(r:RelO o u):o.isSome=u.isSome:=by
 cases o with
 |none=>cases u with
  |none=>rfl
  |some _=>exact(show False from r).elim
 |some _=>cases u with
  |none=>exact(show False from r).elim
  |some _=>rfl
theorem KV.val {kvs:List (κ×V)}{vs:List (κ×aL)}(r:KV kvs vs)(k:κ):RelO (valV kvs k) (valueAt vs k):=by
 unfold KV at r;induction r with
 |nil=>exact rT
 | @cons p q ps qs h t ih=>
  obtain⟨h1,h2⟩:=h;by_cases e:p.1=k
  ·have e':q.1=k:=h1.symm.trans e
   have b:valueAt (q::qs) k=some q.2:=by simp[valueAt,rE,e']
   rw[zhw_ e,b];exact h2
  ·have e':¬q.1=k:=λz=>e (h1.trans z)
   have b:valueAt (q::qs) k=valueAt qs k:=by simp[valueAt,rE,e']
   rw[zht_ e,b];exact ih
theorem KV.any {kvs:List (κ×V)}{vs:List (κ×aL)}(r:KV kvs vs)(k:κ):(kvs.any λkv=>decide (kv.1=k))=vs.any λkv=>decide (kv.1=k):=by
 unfold KV at r;induction r with
 |nil=>rfl
 |cons h t ih=>rw[sC,sC,ih,h.1]
theorem KV.repl {kvs:List (κ×V)}{vs:List (κ×aL)}(r:KV kvs vs)(k:κ){y:V}{u:aL}(ry:RelV y u):
  KV (kvs.map λkv=>if kv.1=k then(kv.1,y)else kv) (vs.map λkv=>if kv.1=k then(kv.1,u)else kv):=by
 unfold KV at r ⊢;induction r with
 |nil=>exact .nil
 | @cons p q ps qs h t ih=>
  rw[qv,qv];refine .cons ?_ ih;grind
theorem KV.put {kvs:List (κ×V)}{vs:List (κ×aL)}(r:KV kvs vs)(k:κ){y:V}{u:aL}(ry:RelV y u):KV (putK kvs k y) (stored vs k u):=by
 unfold putK stored;rw[r.any k];by_cases e:(vs.any λkv=>decide (kv.1=k))=true
 ·rw[if_pos e,if_pos e];exact r.repl k ry
 ·rw[if_neg e,if_neg e];exact Paired.snoc r ⟨rfl,ry⟩
theorem KV.length {kvs:List (κ×V)}{vs:List (κ×aL)}(r:KV kvs vs):kvs.length=vs.length:=Paired.length r
end
theorem zrx_ {P:m7}{w:nL}{k:Key}{u:aL}(r:RelV (kV k) u):(mixKind P w).is k u=true:=by
 cases k with
 |inl i=>obtain⟨t,e⟩:=(show∃t,u=uB i t from r);subst e;exact zi3_ P w i t
 |inr x=>obtain⟨t,e⟩:=(show∃t,u=vb x t from r);subst e;exact zi7_ P w x t
theorem zin_ {P:m7}{w:nL}:∀{ks:List Key}{us:List aL},Vals (ks.map kV) us->ItemsAre (mixKind P w) ks us
 |[],_,r=>by rw[uZ]at r;cases r;exact .nil
 |k::ks,_,r=>by
  rw[qv]at r;cases r with
  |cons h t=>exact .cons (zrx_ h) (zin_ t)
abbrev KT (H:Hp):List (List Key×V)->List (List Key×nc×aL)->Prop:=Paired λp q=>p.1=q.1/\H q.2.1=some (.tup (p.1.map kV))/\RelV p.2 q.2.2
theorem KT.val {H:Hp}{kvs:List (List Key×V)}{xs:List (List Key×nc×aL)}(r:KT H kvs xs)(k:List Key):RelO (valV kvs k) ((atKey xs k).map (·.2)):=by
 induction r with
 |nil=>exact rT
 | @cons p q ps qs h t ih=>
  obtain⟨h1,_,h2⟩:=h;by_cases e:p.1=k
  ·have e':q.1=k:=h1.symm.trans e
   have b:atKey (q::qs) k=some q.2:=by simp[atKey,rE,e']
   rw[zhw_ e,b];exact h2
  ·have e':¬q.1=k:=λz=>e (h1.trans z)
   have b:atKey (q::qs) k=atKey qs k:=by simp[atKey,rE,e']
   rw[zht_ e,b];exact ih
theorem KT.repl {H:Hp}{kvs:List (List Key×V)}{xs:List (List Key×nc×aL)}(r:KT H kvs xs)(k:List Key){y:V}{u:aL}(ry:RelV y u):
  KT H (kvs.map λkv=>if kv.1=k then(kv.1,y)else kv) (xs.map (putAt k u)):=by
 induction r with
 |nil=>exact .nil
 | @cons p q ps qs h t ih=>
  rw[qv,qv];refine .cons ?_ ih;obtain⟨h1,h2,h3⟩:=h;unfold putAt;grind
theorem KT.put {H:Hp}{kvs:List (List Key×V)}{xs:List (List Key×nc×aL)}(r:KT H kvs xs)(k:List Key){b:nc}{y:V}{u:aL}(hb:H b=some (.tup (k.map kV)))(ry:RelV y u):
  KT H (putK kvs k y) (storedH xs k b u):=by
 have e:(kvs.any λkv=>decide (kv.1=k))=(atKey xs k).isSome:=by
  rw[zkK_,(r.val k).isSome_eq,wC]
 unfold putK storedH;rw[e];by_cases q:(atKey xs k).isSome=true
 ·rw[if_pos q,if_pos q];exact r.repl k ry
 ·rw[if_neg q,if_neg q];exact Paired.snoc r ⟨rfl,hb,ry⟩
theorem KT.keeps {H H':Hp}{kvs:List (List Key×V)}{xs:List (List Key×nc×aL)}(r:KT H kvs xs)(ht:∀b ys,H b=some (.tup ys)->H' b=some (.tup ys)):KT H' kvs xs:=
 Paired.mapP r λ_ _ z=>⟨z.1,ht _ _ z.2.1,z.2.2⟩
section
variable {P:m7}{w:nL}{H:Hp}{h:Heap}{a:nc}
theorem rd_of {u:HO}(ok:HOk P w H h)(e:Rd H a u):ObjOk P w H h a u:=e.ok ok
theorem zpz_ {kvs:List (Key×V)}(ok:HOk P w H h)(e:Rd H a (.dK kvs)):kvs.length<=pX/\(a == sysModules)=false/\∃vs,KV kvs vs/\h.DictOf (mixKind P w) a vs:=
 show ObjOk P w H h a (.dK kvs)from rd_of ok e
theorem dk_of {kvs:List (Key×V)}(ok:HOk P w H h)(e:H a=some (.dK kvs)):kvs.length<=pX/\(a == sysModules)=false/\∃vs,KV kvs vs/\h.DictOf (mixKind P w) a vs:=zpz_ ok (.inl e)
theorem zlz_ {ks:List Key}(ok:HOk P w H h)(e:H a=some (.tup (ks.map kV))):(tupleKind (mixKind P w)).is h ks a:=by
 obtain⟨_,aa,r,o,h1,h2,n,h3⟩:=(show ObjOk P w H h a (.tup (ks.map kV))from ok a _ e)
 exact⟨o,aa.toArray,n,h1,h2,h3,by simpa using zin_ r⟩
theorem zpT_ {kvs:List (List Key×V)}(ok:HOk P w H h)(e:Rd H a (.dT kvs)):kvs.length<=pX/\(a == sysModules)=false /\
  ∃xs,KT H kvs xs/\h.DictOfH (tupleKind (mixKind P w)) a xs:=by
 obtain⟨z,y,xs,r,o,es,ep,h1,h2,h3,h4,h5⟩:=(show ObjOk P w H h a (.dT kvs)from rd_of ok e)
 refine⟨z,y,xs,r,o,es,ep,h1,h2,h3,h4,λx hx=>?_,h5⟩
 have all:∀{l:List (List Key×V)}{m:List (List Key×nc×aL)},KT H l m->∀x∈m,(tupleKind (mixKind P w)).is h x.1 x.2.1:=by
  intro l m q;induction q with
  |nil=>intro x hx;exact nomatch hx
  | @cons p q ps qs hq t ih=>
   intro x hx;rcases qf.mp hx with e |hx
   ·subst e
    exact zlz_ ok (by rw[<- hq.1];exact hq.2.1)
   ·exact ih x hx
 exact all r x hx
theorem dt_of {kvs:List (List Key×V)}(ok:HOk P w H h)(e:H a=some (.dT kvs)):kvs.length<=pX/\(a == sysModules)=false /\
  ∃xs,KT H kvs xs/\h.DictOfH (tupleKind (mixKind P w)) a xs:=zpT_ ok (.inl e)
end
def DGet (H:Hp)(a:nc)(y:V)(r:Option V):Prop:=
 (∃kvs k,Rd H a (.dK kvs)/\y=kV k/\r=valV kvs k)\/∃kvs k b,Rd H a (.dT kvs)/\y=.ref b/\H b=some (.tup (k.map kV))/\r=valV kvs k
def DPut (H:Hp)(a:nc)(y v:V)(H':Hp):Prop:=
 (∃kvs k,H a=some (.dK kvs)/\y=kV k/\kvs.length<pX/\H'=upd H a (.dK (putK kvs k v))) \/
 ∃kvs k b,H a=some (.dT kvs)/\y=.ref b/\H b=some (.tup (k.map kV))/\kvs.length<pX/\H'=upd H a (.dT (putK kvs k v))
theorem DGet.k {H:Hp}{a:nc}{kvs:List (Key×V)}{k:Key}(e:H a=some (.dK kvs)):DGet H a (kV k) (valV kvs k):=.inl ⟨kvs,k,.inl e,rfl,rfl⟩
theorem DPut.k {H:Hp}{a:nc}{kvs:List (Key×V)}{k:Key}{v:V}(e:H a=some (.dK kvs))(hl:kvs.length<pX):DPut H a (kV k) v (upd H a (.dK (putK kvs k v))):=.inl ⟨kvs,k,e,rfl,hl,rfl⟩
section
variable {X:Cx}{pins:Pnn}{σ:St}{H:Hp}{s:kZ}{a:nc}{y v:V}{u r:aL}{o:Option V}{A:qu}{E:aL->kZ->Prop}
theorem Inv.big (I:Inv X pins σ H s):sysModules<s.heap.objs.size:=by
 have h:qm<s.heap.objs.size:=(I.mod.glob.keeps I.bk).lt;exact yk (by decide) h
theorem zlX_ {Q:aL->kZ->Prop}(hu:A.units+1<cLine)(I:Inv X pins σ H s)(g:DGet H a y (some v))(ry:RelV y u)(h:∀w' s',Inv X pins σ H s'->RelV v w'->Q w' s'):
  nI (model X.prog X.w) A (getItem (.ref a) u) Q E s:=by
 rcases g with⟨kvs,k,e,ey,l⟩|⟨kvs,k,b,e,ey,eb,l⟩
 ·subst ey
  obtain⟨z,hd,vs,rel,dd⟩:=zpz_ I.hok e;obtain⟨w',hw,aS⟩:=RelO.some_of (v:=v) (o:=valueAt vs k) (by rw[l];exact rel.val k)
  exact wpAny_getItem_of (zrx_ ry) dd.mapOf hw (h w' _ (I.tok _) aS)
 ·subst ey
  cases(show u=qq b from ry)
  obtain⟨z,hd,xs,rel,dd⟩:=zpT_ I.hok e;obtain⟨w',hw,aS⟩:=RelO.some_of (v:=v) (o:=(atKey xs k).map (·.2)) (by rw[l];exact rel.val k)
  obtain⟨p,hp,hp2⟩:=rX.mp hw;refine wpAny_getItem_heap (tupleKind_room_in1 hu) (zlz_ I.hok eb) dd hp ?_;rw[hp2];exact h w' _ (I.tok _) aS
theorem d_in {Q:aL->kZ->Prop}(hu:A.units+1<cLine)(I:Inv X pins σ H s)(g:DGet H a y o)(ry:RelV y u)(h:∀s',Inv X pins σ H s'->Q (.bool o.isSome) s'):
  nI (model X.prog X.w) A (qB .In u (.ref a)) Q E s:=by
 rcases g with⟨kvs,k,e,ey,l⟩|⟨kvs,k,b,e,ey,eb,l⟩
 ·subst ey
  obtain⟨z,hd,vs,rel,dd⟩:=zpz_ I.hok e;refine wpAny_in_of (zrx_ ry) hd dd.mapOf ?_;rw[<- (rel.val k).isSome_eq,<- l];exact h _ (I.tok _)
 ·subst ey
  cases(show u=qq b from ry)
  obtain⟨z,hd,xs,rel,dd⟩:=zpT_ I.hok e;refine wpAny_in_heap (tupleKind_room_in1 hu) (zlz_ I.hok eb) hd dd ?_;have q:=(rel.val k).isSome_eq;rw[wC]at q;rw[<- q,<- l];exact h _ (I.tok _)
theorem zkH_ {h':Heap}{t':Nat}{ob:HO}(I:Inv X pins σ H s)(mu:Mut (H a))(hs:sU a s.heap h')(he:∃q,h'.get? a=some q)(new:ObjOk X.prog X.w (upd H a ob) h' a ob):
  Inv X pins σ (upd H a ob) {s with heap:=h',toks:=t'}:=
 I.write (x:=a) (e:=a) mu (.inl rfl) (λb q hb z=>(hs.2 b hb).trans z) he new
theorem zrV_ {P:m7}{w:nL}{H':Hp}{h':Heap}{kvs:List (Key×V)}{vs:List (Key×aL)}(z:kvs.length<=pX)(hd:(a == sysModules)=false)(rel:KV kvs vs)(dd:h'.DictOf (mixKind P w) a vs):
  ObjOk P w H' h' a (.dK kvs):=⟨z,hd,vs,rel,dd⟩
theorem zlg_ {H':Hp}{Q:Unit->kZ->Prop}(hu:A.units+1<cLine)(I:Inv X pins σ H s)(g:DPut H a y v H')(ry:RelV y u)(rv:RelV v r)(h:∀s',Inv X pins σ H' s'->Q () s'):
  nI (model X.prog X.w) A (setItem (.ref a) u r) Q E s:=by
 rcases g with⟨kvs,k,e,ey,l,eH⟩|⟨kvs,k,b,e,ey,eb,l,eH⟩
 ·subst ey eH
  obtain⟨z,hd,vs,rel,dd⟩:=dk_of I.hok e;have hz:vs.length<=pX:=by rw[<- rel.length];exact z
  have hl:(putK kvs k v).length<=pX:=by have:=zdF_ kvs k v;lia
  refine wpAny_setItem_pairs (hsz:=hz) (zrx_ ry) dd λh' fK hs=>h _ ?_
  have he:∃q,h'.get? a=some q:=let⟨q,_,_,hq,_⟩:=fK;⟨q,hq⟩
  exact zkH_ I (by rw[e];exact rT) hs he (zrV_ hl hd (rel.put k rv) fK)
 ·subst ey eH
  cases(show u=qq b from ry)
  obtain⟨z,hd,xs,rel,dd⟩:=dt_of I.hok e;have hz:xs.length<=pX:=by rw[<- Paired.length rel];exact z
  have hl:(putK kvs k v).length<=pX:=by have:=zdF_ kvs k v;lia
  refine wpAny_setItem_heap (hsz:=hz) (tupleKind_room_in1 hu) (zlz_ I.hok eb) dd λh' fK hs=>h _ ?_
  obtain⟨q,es,ep,hq,h2,h3,h4,_,h5⟩:=fK;refine zkH_ I (by rw[e];exact rT) hs ⟨q,hq⟩ ⟨hl,hd,_,(rel.put k eb rv).keeps λc ys ec=>?_,q,es,ep,hq,h2,h3,h4,h5⟩
  rw[zI_ (ne_of ec e (λz=>nomatch z))]
  exact ec
end
def NoSl (i:qF):Prop:=∀ov iv,subscripted i false ov iv=operate [ov,iv] (getItem ov iv)
theorem zri_ {prog:m7}{w:nL}{A:qu}{E:aL->kZ->Prop}{s:kZ}{env:Env}{value slice:qF}{pos:Pos}{T id:String}{Q:aL->kZ->Prop}
  (hl:typeLookup (.type T) "__getitem__"=pure (some (.builtin id))) (hs:NoSl slice)
  (h:nI (model prog w) A (eval value env) (λo ag=>nI (model prog w) A (eval slice env) (λi aA=>aA.TypeIs o T/\nI (model prog w) A (getItem o i) Q E aA) E ag) E s):
  nI (model prog w) A (eval (.Subscript value slice pos) env) Q E s:=by
 refine Subscript_ (qH h (λo ag a_=>qH a_ (λi aA cH=>?_) λ_ _ x=>x) λ_ _ x=>x)
 obtain⟨hT,cH⟩:=cH;unfold subscriptTail;refine iV ?_;rw[getitemInPython_of_ne hT.not_modules];refine iV (wpAny_specialOf hT hl ?_);have fin:nI (model prog w) A (subscripted slice false o i) (λr aJ=>nI (model prog w) A (letTemporaryGo value o r>>=λ_=>pure r) Q E aJ) E aA:=by
  rw[hs o i];exact wpAny_operating (qH cH (λr aJ eZ=>iV (wpAny_letTemporaryGo (nh eZ))) λ_ _ x=>x)
 first
  |exact nh (iV fin)
  |exact iV (nh (iV fin))
  |exact iV fin
theorem zja_ {X:Cx}{pins:Pnn}{σ:St}{H:Hp}{s:kZ}{a:nc}{y:V}{o:Option V}(I:Inv X pins σ H s)(g:DGet H a y o):s.TypeIs (.ref a) "dict":=by
 rcases g with⟨kvs,k,e,_,_⟩|⟨kvs,k,b,e,_,_,_⟩
 ·obtain⟨_,_,vs,_,dd⟩:=zpz_ I.hok e
  exact dd.typeIs
 ·obtain⟨_,_,xs,_,dd⟩:=zpT_ I.hok e
  exact dd.typeIs
section
end
theorem zol_ {P:m7}{w:nL}{H:Hp}(h:Heap)(hb:sysModules<h.objs.size):ObjOk P w H (h.push {cls:=.type "dict",data:=.dict #[]}) h.objs.size (.dK []):=
 ⟨rB _,beq_eq_false_iff_ne.mpr (tH (qo hb)),[],.nil,yG h⟩
def tDNewK:TE:=λ_ H Q=>∀p,H p=none->Q (.ref p) (upd H p (.dK []))
section
variable {X:Cx}{pos:Pos}
theorem zo2_:PE X (.Dict [] [] pos) tDNewK:=λpins s σ H Q I h=>
 wpAny_Dict_empty ⟨.ref s.heap.objs.size,_,I.laid (a:=s.heap.objs.size) (o:=.dK []) (t':=s.toks) (λ_ _ q=>iX _ q) (nG _) (zol_ s.heap I.big),rfl,h _ (I.hok.fresh (nG _))⟩
end
structure M2 (X:Cx)(o:qF)(m:Str)(apos:Pos)(e f:qF)(ao:Pos):Prop where
 base:attributeBase o m X.env (eval o X.env)=eval o X.env
 few:((sh ao (qg [e,f] X.env)).all (λx=>!x.1) && (xn ao (vP [] X.env)).all (λx=>x.1.isSome)
  && decide (([e,f]:List qF).length+([]:List Keyword).length+(if([]:List Keyword).isEmpty then 0 else 1)<30))=true
 line:(apos.endLine == ao.line)=true
 trees:sh ao (qg [e,f] X.env)=[(false,eval e X.env),(false,eval f X.env)]
def IsD (H:Hp)(a:nc):Prop:=(∃kvs,Rd H a (.dK kvs))\/∃kvs,Rd H a (.dT kvs)
theorem zsW_ {X:Cx}{pins:Pnn}{σ:St}{H:Hp}{s:kZ}{a:nc}(I:Inv X pins σ H s)(d:IsD H a):
  s.TypeIs (.ref a) "dict" /\ (∀b,qq a=.ref b->∃ob,s.heap.get? b=some ob/\ob.dict=none)/\(a==sysModules)=false:=by
 rcases d with⟨kvs,e⟩|⟨kvs,e⟩
 ·obtain⟨_,hd,vs,_,dd⟩:=zpz_ I.hok e
  refine⟨dd.typeIs,λb q=>?_,hd⟩
  cases q;obtain⟨ob,_,_,h1,h2,_⟩:=dd;exact⟨ob,h1,h2.2.1⟩
 ·obtain⟨_,hd,xs,_,dd⟩:=zpT_ I.hok e
  refine⟨dd.typeIs,λb q=>?_,hd⟩
  cases q;obtain⟨ob,_,_,h1,h2,_⟩:=dd;exact⟨ob,h1,h2.2.1⟩
section
end
section
namespace L2
open PySem PySem.Spec PyProof.Rows
section
end
section
variable {κ:Type}[DecidableEq κ]
end
end L2
end
section
end
noncomputable def Itz (K:Fgg)(l m:nc):It:=
 ⟨λi H=>∃xs ys x y,SqL K H l xs/\SqL K H m ys/\xs[i]?=some x/\ys[i]?=some y,
  λi H v H'=>∃p x y,(∀xs,SqL K H l xs->xs[i]?=some x)/\(∀ys,SqL K H m ys->ys[i]?=some y)/\H p=none/\v=.ref p/\H'=upd H p (.tup [x,y]),
  λi H=>∃xs ys,SqL K H l xs/\SqL K H m ys/\(xs.length<=i\/ys.length<=i)⟩
theorem zoF_ {P:m7}{w:nL}{K:Fgg}{elts:List qF}{kk:Nat}{pos:Pos}(z TI TO i1 i2 l m:nc)(D:ZipApart z TI TO i1 i2 l m):
  Turn P w K (.Tuple elts kk pos) (Itz K l m) [z,TI,TO,i1,i2] z (λi h=>IsZip h z TI TO .none/\sA h TI (.ref i1) (.ref i2)/\(∃a b,sA h TO a b)/\h.IsListIter i1 l i/\h.IsListIter i2 m i) where
 mem:=by simp
 obj:=λi h st b hb=>by
  obtain⟨hz,bg,⟨a,c,bx⟩,⟨o1,ho1,c1,d1⟩,⟨o2,ho2,c2,d2⟩⟩:=st;grind
 keep:=λi h h' st k=>by
  obtain⟨hz,bg,⟨a,c,bx⟩,h1,h2⟩:=st;exact⟨k z (by simp) _ hz,k TI (by simp) _ bg,⟨a,c,k TO (by simp) _ bx⟩,h1.at λo q=>k i1 (by simp) o q,h2.at λo q=>k i2 (by simp) o q⟩
 item:=by
  intro X hP hw hK hc i pins s σ H E I hf st hg;subst hP hw hK;obtain⟨xs,ys,x,y,hq,dE,hx,hy⟩:=hg;obtain⟨aa,rv,p,hz0⟩:=I.list hq;obtain⟨au,rv2,p2,hz2⟩:=I.list dE;obtain⟨u,hu,ru⟩:=rv.get hx;obtain⟨v,hv,aS⟩:=rv2.get hy;obtain⟨hz,bg,⟨a,c,bx⟩,h1,h2⟩:=st;have lt:∀{c o},s.heap.get? c=some o->c<s.heap.objs.size:=λe=>pT e
  have lz:=lt hz;have n6:=lt bg;have n0:=lt bx;have l1:i1<s.heap.objs.size:=by obtain⟨o,e,_⟩:=id h1;exact lt e
  have l2:i2<s.heap.objs.size:=by obtain⟨o,e,_⟩:=id h2;exact lt e
  refine wpAny_pyNext_zip_item D hz bg bx h1 h2 p.isList p2.isList (x:=u) (y:=v) (by simpa using hu) (by simpa using hv) λh3 z3 lq eY eX je nK gM=>?_
  refine⟨_,rfl,?_⟩;refine wpAny_letOwnedTupleGo_zip z3 λh4 z4 bP=>?_
  replace bP:sU z h3 h4:=bP;have hp:H s.heap.objs.size=none:=I.hok.fresh (nG _);have I1:Inv X pins σ (upd H s.heap.objs.size (.tup [x,y])) {s with heap:=s.heap.push {cls:=.type "tuple",data:=.seq #[u,v]},toks:=s.toks}:=by
   refine I.laid (λb u q=>iX _ q) (nG _) ⟨?_,[u,v],.cons ru (.cons aS .nil),⟨_,p7 _ rfl,rfl,_,rfl⟩⟩
   show 2<=pX
   decide
  have aD:∀b∈[z,TI,TO,i1,i2],b<s.heap.objs.size:=λb hb=>by
   grind
  have dY:∀b∈[z,TI,TO,i1,i2],FpOk X pins (upd H s.heap.objs.size (.tup [x,y])) b:=λb hb=>by
   obtain⟨f0,r⟩:=hf b hb;refine⟨?_,r⟩;rw[zI_ (qo (aD b hb))];exact f0
  have I2:Inv X pins σ (upd H s.heap.objs.size (.tup [x,y])) {s with heap:=h4,toks:=s.toks}:=by
   refine Inv.turnedL (s:={s with heap:=s.heap.push {cls:=.type "tuple",data:=.seq #[u,v]},toks:=s.toks}) (ch:=[z,TI,TO,i1,i2]) I1 (λb o hb q=>?_) dY
   have n1:b≠z:=λe=>hb (by simp[e])
   have n2:b≠TO:=λe=>hb (by simp[e])
   have n3:b≠i1:=λe=>hb (by simp[e])
   have n4:b≠i2:=λe=>hb (by simp[e])
   refine(bP.2 b n1).trans ?_;rcases uP q with⟨rfl,rfl⟩|q'
   ·exact je
   ·exact gM b o n1 n2 n3 n4 q'
  refine⟨.ref s.heap.objs.size,_,I2,rfl,⟨s.heap.objs.size,x,y,λzs gB=>by rw[I.list_inj gB hq];exact hx,λzs gB=>by rw[I.list_inj gB dE];exact hy,hp,rfl,rfl⟩,⟨z4,?_,⟨u,v,?_⟩,?_,?_⟩,λb hb=>(dY b hb).1⟩
  ·exact(bP.2 TI D.TIz).trans (gM TI _ D.TIz D.TITO D.TIi1 D.TIi2 bg)
  ·exact(bP.2 TO D.TOz).trans lq
  ·exact eY.extBut bP.extBut D.i1z
  ·exact eX.extBut bP.extBut D.i2z
 done:=by
  intro X hP hw hK hc i pins s σ H E I hf st hg;subst hP hw hK;obtain⟨xs,ys,hq,dE,hx⟩:=hg;obtain⟨aa,rv,p,hz0⟩:=I.list hq;obtain⟨au,rv2,p2,hz2⟩:=I.list dE;obtain⟨hz,bg,⟨a,c,bx⟩,h1,h2⟩:=st;have hl:=rv.length;have dX:=rv2.length;refine wpAny_pyNext_zip_end (I.ok.hd hc) D hz bg bx h1 h2 p.isList p2.isList ?_ λh' eb=>⟨rfl,?_⟩
  ·grind
  ·refine Inv.turnedL (s:=s) (t':=s.toks) (ch:=[z,TI,TO,i1,i2]) I (λb o hb q=>eb b o (λe=>hb (by simp[e])) (λe=>hb (by simp[e])) (λe=>hb (by simp[e])) (λe=>hb (by simp[e])) q) hf
 self:=λ_ _ _ _ _ st h=>wpAny_pyIter_zip st.1 h
theorem zmn_ {N l m:Nat}(hl:l<N)(hm:m<N):ZipApart (N+4) (N+2) (N+3) N (N+1) l m:=by
 constructor<;>(intro e;have e':(_:Nat)=_:=congrArg (λx:Nat=>x) e;lia)
section
end
theorem zdb_ {α β:Type}{f g:α->Option β}:∀{l:List α},(∀a∈l,f a=g a)->l.filterMap f=l.filterMap g
 |[],_=>rfl
 |a::l,h=>by rw[sm,sm,h a nu,zdb_ λb hb=>h b (qa _ hb)]
section
end
def keyV:V->Option Key
 |.int i=>some (.inl i)
 |.str z=>some (.inr z)
 |_=>none
theorem zrz_ {y:V}{k:Key}(h:keyV y=some k):y=kV k:=by
 cases y<;>first |(cases h;rfl)|cases h
def atD (x y:V)(H:Hp)(R:nc->List (Key×V)->Key->Prop):Prop:=match x with
 |.ref a=>(match keyV y with |some k=>∃kvs,H a=some (.dK kvs)/\R a kvs k |none=>False)
 |_=>False
theorem zlA_ {x y:V}{H:Hp}{R:nc->List (Key×V)->Key->Prop}(h:atD x y H R):∃a kvs k,x=.ref a/\y=kV k/\H a=some (.dK kvs)/\R a kvs k:=by
 unfold atD at h;cases x with
 |ref a=>
  cases e:keyV y with
  |none=>rw[e]at h;exact h.elim
  |some k=>
   rw[e]at h;obtain⟨kvs,h1,h2⟩:=h;exact⟨a,kvs,k,rfl,zrz_ e,h1,h2⟩
 |_=>exact h.elim
def mDGet (td ty:TE):TE:=λσ H Q=>td σ H λx H1=>ty σ H1 λy H2=>atD x y H2 λ_ kvs k=>∃v,valV kvs k=some v/\Q v H2
def mDIn (neg:Bool)(ty td:TE):TE:=λσ H Q=>ty σ H λy H1=>td σ H1 λx H2=>atD x y H2 λ_ kvs k=>Q (.bl (if neg then !(valV kvs k).isSome else(valV kvs k).isSome)) H2
def mDPut (td ty tv:TE):TS:=λD σ H=>tv σ H λv H1=>td σ H1 λx H2=>ty σ H2 λy H3=>atD x y H3 λa kvs k=>kvs.length<pX/\D.nx σ (upd H3 a (.dK (putK kvs k v)))
section
variable {X:Cx}{o i value:qF}{pos pos':Pos}{td ty tv:TE}
theorem zoG_ (hu:X.A.units+60<cLine)(ho:PE X o td)(hi:PE X i ty)(hs:NoSl i:=by exact λ_ _=>rfl):PE X (.Subscript o i pos) (mDGet td ty):=by
 intro pins s σ H Q I h;refine zri_ PySem.F.slot_dict_getitem.lookup hs (thn (ho pins s σ H _ I h) λu s1 ⟨x,H1,I1,rx,q1⟩=>thn (hi pins s1 σ H1 _ I1 q1) λiv s2 af=>?_)
 obtain⟨y,H2,I2,ry,q2⟩:=af;obtain⟨a,kvs,k,rfl,rfl,hd,v,hv,q⟩:=zlA_ q2;obtain rfl:u=qq a:=rx;have g:DGet H2 a (kV k) (some v):=by rw[<- hv];exact DGet.k hd
 exact⟨zja_ I2 g,zlX_ (by lia) I2 g ry λw' s3 I3 aS=>⟨v,H2,I3,aS,q⟩⟩
theorem zpF_ (hu:X.A.units+60<cLine)(hi:PE X i ty)(ho:PE X o td):PC X .In i o (mDIn false ty td):=by
 intro pins s σ H Q I h;refine thn (hi pins s σ H _ I h) λiv s1 ⟨y,H1,I1,ry,q1⟩=>thn (ho pins s1 σ H1 _ I1 q1) λu s2 af=>?_
 obtain⟨x,H2,I2,rx,q2⟩:=af;obtain⟨a,kvs,k,rfl,rfl,hd,q⟩:=zlA_ q2;obtain rfl:u=qq a:=rx;exact d_in (by lia) I2 (DGet.k (k:=k) hd) ry λs3 I3=>⟨.bl (valV kvs k).isSome,H2,I3,rfl,q⟩
theorem znD_ (hu:X.A.units+60<cLine)(ho:PE X o td)(hi:PE X i ty)(hv:PE X value tv)(hs:swapsWith value (some (.Subscript o i pos')) pos.line X.env=pure false:=by rfl):
  PS X (.Assign [.Subscript o i pos'] value pos) (mDPut td ty tv):=by
 intro pins s σ H D I h;refine wpAny_Assign_Subscript (thn (hv pins s σ H _ I h) λr s1 ⟨v,H1,I1,rv,q1⟩=>thn (ho pins s1 σ H1 _ I1 q1) λu s2 ⟨x,H2,I2,rx,q2⟩=>thn (hi pins s2 σ H2 _ I2 q2) λiv s3 af=>?_) hs
 obtain⟨y,H3,I3,ry,q3⟩:=af;obtain⟨a,kvs,k,rfl,rfl,hd,hl,q⟩:=zlA_ q3;obtain rfl:u=qq a:=rx;exact zlg_ (by lia) I3 (DPut.k hd hl) ry rv λs4 I4=>⟨σ,_,I4,q⟩
theorem zpp_ {op:CmpOp}{a b:qF}{t:TE}(h:PC X op a b t)(h1:behindInMarks op b=false):PT X (.Compare a [op] [b] pos) (mTest t):=by
 intro pins s σ H Q I hw;refine wpAny_isTrue_Compare1 (thn (h pins s σ H _ I hw) λv s1 q=>thn q λu s2 q=>thn q λc s3 af=>?_) h1
 obtain⟨x,H1,I1,r,q⟩:=af;cases x with
 |bl k=>cases r;exact rj ⟨H1,I1,q⟩
 |_=>exact q.elim
theorem zp6_ (hu:X.A.units+60<cLine)(hi:PE X i ty)(ho:PE X o td)(h1:behindInMarks .In o=false:=by rfl):PT X (.Compare i [.In] [o] pos) (mTest (mDIn false ty td)):=zpp_ (zpF_ hu hi ho) h1
end
inductive Av where
 |i (n:Int)|p (a b:Int)
inductive Xc where
 |pl (c:String)|at(c:String) (as:List (Str×Av))
instance:Coe String Xc:=⟨Xc.pl⟩
inductive Mo (α:Type) where
 |ok (a:α)|ex (c:Xc)|no
namespace Mo
variable {α β:Type}
def bind (x:Mo α)(f:α->Mo β):Mo β:=match x with |.ok a=>f a |.ex c=>.ex c |.no=>.no
theorem ok_bind (a:α)(f:α->Mo β):(Mo.ok a).bind f=f a:=rfl
def noex (x:Mo α):Mo α:=match x with |.ok a=>.ok a |_=>.no
def lim (n:Nat)(k:Mo α):Mo α:=if n<=pX then k else .no
theorem lim_ok {n:Nat}{k:Mo α}(h:n<=100000):lim n k=k:=if_pos (zdp_ h)
def grd (p:Prop)[Decidable p](k:Mo α):Mo α:=if p then k else .no
theorem grd_ok {p:Prop}[Decidable p]{k:Mo α}(h:p):grd p k=k:=if_pos h
def opt (x:Option α):Mo α:=match x with |some a=>.ok a |none=>.no
end Mo
def un (F h:Hp):Hp:=λp=>match F p with |some o=>some o |none=>h p
def Dj (F h:Hp):Prop:=∀p,F p=none\/h p=none
def Jn (h1 h2 h:Hp):Prop:=∀p,(h1 p=none/\h p=h2 p)\/(h2 p=none/\h p=h1 p)
def Ext (F H F' H':Hp):Prop:=Same F F'/\Same F' H'/\Same H H'/\∀p,F p=none->F' p≠none->H p=none
theorem Ext.refl {F H:Hp}(h:Same F H):Ext F H F H:=⟨Same.refl _,h,Same.refl _,λp a b=>absurd a b⟩
theorem Ext.trans {F H F1 H1 F2 H2:Hp}(a:Ext F H F1 H1)(b:Ext F1 H1 F2 H2):Ext F H F2 H2:=by
 obtain⟨a1,a2,a3,a4⟩:=a;obtain⟨b1,b2,b3,b4⟩:=b;refine⟨a1.trans b1,b2,a3.trans b3,λp hp hq=>?_⟩
 cases e:F1 p with
 |none=>exact a3.free (b4 p e hq)
 |some o=>exact a4 p hp (by rw[e];exact sN _)
theorem Ext.heap {F H H':Hp}(h:Same F H)(g:Same H H'):Ext F H F H':=⟨Same.refl _,h.trans g,g,λp a b=>absurd a b⟩
theorem Ext.new {F H:Hp}(h:Same F H){p:nc}{o:HO}(hp:H p=none):Ext F H (upd F p o) (upd H p o):=by
 refine⟨zbY_ (h.free hp) _,λb u e=>?_,zbY_ hp _,λq a b=>?_⟩
 ·unfold upd at e ⊢
  split
  ·rename_i z;rw[if_pos z]at e;exact e
  ·rename_i z;rw[if_neg z]at e;exact h _ _ e
 ·unfold upd at b
  split at b
  ·rename_i z;rw[z];exact hp
  ·exact absurd a b
structure Ty (α:Type) where
 R:α->V->Hp->Prop
 mono:∀{a v H H'},Same H H'->R a v H->R a v H'
def Tups (H H':Hp):Prop:=∀p xs,H p=some (.tup xs)->H' p=some (.tup xs)
theorem Same.tups {H H':Hp}(h:Same H H'):Tups H H':=λp xs e=>h _ _ e
def Imm {α:Type}(T:Ty α):Prop:=∀{a v H H'},Tups H H'->T.R a v H->T.R a v H'
abbrev tyInt:Ty Int:=⟨λa v _=>v=.int a,λ_ h=>h⟩
abbrev tyStr:Ty (List Nat):=⟨λa v _=>v=tx a,λ_ h=>h⟩
abbrev tyBl:Ty Bool:=⟨λa v _=>v=.bl a,λ_ h=>h⟩
abbrev tyNon:Ty Unit:=⟨λ_ v _=>v=.non,λ_ h=>h⟩
theorem zE_:Imm tyInt:=λ_ h=>h
theorem zW_:Imm tyStr:=λ_ h=>h
theorem zbX_:Imm tyBl:=λ_ h=>h
theorem zqx_:Imm tyNon:=λ_ h=>h
abbrev tyOpt {α:Type}(T:Ty α):Ty (Option α):=⟨λa v H=>match a with |none=>v=.non |some x=>T.R x v H/\v≠.non,λ{a v H H'} g h=>by cases a with |none=>exact h |some x=>exact⟨T.mono g h.1,h.2⟩⟩
theorem zeM_ {α:Type}{T:Ty α}(i:Imm T):Imm (tyOpt T):=λ{a v H H'} g h=>by cases a with |none=>exact h |some x=>exact⟨i g h.1,h.2⟩
structure Cs (γ:Type) where
 R:γ->List V->Hp->Prop
 mono:∀{c vs H H'},Same H H'->R c vs H->R c vs H'
def ImmC {γ:Type}(C:Cs γ):Prop:=∀{c vs H H'},Tups H H'->C.R c vs H->C.R c vs H'
abbrev csNil:Cs Unit:=⟨λ_ vs _=>vs=[],λ_ h=>h⟩
abbrev csLast {α:Type}(T:Ty α):Cs α:=⟨λa vs H=>∃v,vs=[v]/\T.R a v H,λg ⟨v,e,h⟩=>⟨v,e,T.mono g h⟩⟩
abbrev csCons {α γ:Type}(T:Ty α)(C:Cs γ):Cs (α×γ):=⟨λa vs H=>∃v us,vs=v::us/\T.R a.1 v H/\C.R a.2 us H,λg ⟨v,us,e,h,q⟩=>⟨v,us,e,T.mono g h,C.mono g q⟩⟩
theorem zdl_ {α:Type}{T:Ty α}(i:Imm T):ImmC (csLast T):=λg ⟨v,e,h⟩=>⟨v,e,i g h⟩
theorem zaL_ {α γ:Type}{T:Ty α}{C:Cs γ}(i:Imm T)(j:ImmC C):ImmC (csCons T C):=λg ⟨v,us,e,h,q⟩=>⟨v,us,e,i g h,j g q⟩
abbrev tyTup {γ:Type}(C:Cs γ):Ty γ:=⟨λc v H=>∃p us,v=.ref p/\H p=some (.tup us)/\C.R c us H,λg ⟨p,us,e,h,q⟩=>⟨p,us,e,g _ _ h,C.mono g q⟩⟩
theorem zgK_ {γ:Type}{C:Cs γ}(i:ImmC C):Imm (tyTup C):=λg ⟨p,us,e,h,q⟩=>⟨p,us,e,g _ _ h,i g q⟩
abbrev Prs {α:Type}(T:Ty α)(H:Hp)(xs:List α)(vs:List V):Prop:=Paired (λx v=>T.R x v H) xs vs
theorem zbA_ {α β:Type}{R R':α->β->Prop}(h:∀a b,R a b->R' a b):∀{xs:List α}{ys:List β},Paired R xs ys->Paired R' xs ys
 |_,_,.nil=>.nil
 |_,_,.cons a t=>.cons (h _ _ a) (zbA_ h t)
theorem Prs.mono {α:Type}{T:Ty α}{H H':Hp}{xs:List α}{vs:List V}(g:Same H H')(h:Prs T H xs vs):Prs T H' xs vs:=zbA_ (λ_ _ r=>T.mono g r) h
theorem Prs.imm {α:Type}{T:Ty α}(i:Imm T){H H':Hp}{xs:List α}{vs:List V}(g:Tups H H')(h:Prs T H xs vs):Prs T H' xs vs:=zbA_ (λ_ _ r=>i g r) h
abbrev tyL {α:Type}(T:Ty α):Ty (List α):=⟨λxs v H=>∃p vs,v=.ref p/\H p=some (.lst vs)/\Prs T H xs vs,λg ⟨p,vs,e,h,q⟩=>⟨p,vs,e,g _ _ h,q.mono g⟩⟩
abbrev tySc (K:Fgg):Ty (List Int):=⟨λxs v H=>∃p,v=.ref p/\SqL K H p (xs.map V.int),λg ⟨p,e,h⟩=>⟨p,e,g.seq h⟩⟩
structure Own (α:Type) where
 O:α->V->Hp->Hp->Prop
 fr:Ty α
 mono:∀{a v F F' h},Same F F'->O a v F h->O a v F' h
 frz:∀{a v F h},Dj F h->O a v F h->fr.R a v (un F h)
 notup:∀{a v F h},O a v F h->∀p xs,h p≠some (.tup xs)
def ImmO {α:Type}(O:Own α):Prop:=∀{a v F F' h},Tups F F'->O.O a v F h->O.O a v F' h
theorem zdc_ {F h:Hp}:Same F (un F h):=λp o e=>by unfold un;rw[e]
theorem zgE_ {F h:Hp}(d:Dj F h):Same h (un F h):=λp o e=>by
 unfold un;rcases d p with z |z
 ·rw[z];exact e
 ·rw[z]at e;cases e
abbrev owF {α:Type}(T:Ty α):Own α:=⟨λa v F h=>(∀p,h p=none)/\T.R a v F,T,λg ⟨e,h⟩=>⟨e,T.mono g h⟩,λ_ ⟨_,h⟩=>T.mono zdc_ h,λ⟨e,_⟩ p xs z=>by rw[e]at z;cases z⟩
theorem zag_ {α:Type}{T:Ty α}(i:Imm T):ImmO (owF T):=λg ⟨e,h⟩=>⟨e,i g h⟩
def one (p:nc)(o:HO):Hp:=λq=>if q=p then some o else none
theorem zaa_ {p:nc}{o:HO}:one p o p=some o:=if_pos rfl
noncomputable abbrev owL {α:Type}(T:Ty α):Own (List α):=⟨λxs v F h=>∃p vs,v=.ref p/\h=one p (.lst vs)/\Prs T F xs vs,tyL T,λg ⟨p,vs,e,z,q⟩=>⟨p,vs,e,z,q.mono g⟩,
 λd ⟨p,vs,e,z,q⟩=>⟨p,vs,e,zgE_ d _ _ (by rw[z];exact zaa_),q.mono zdc_⟩,
 λ⟨p,vs,e,z,q⟩ b xs y=>by rw[z]at y;unfold one at y;split at y<;>cases y⟩
theorem zH_ {α:Type}{T:Ty α}(i:Imm T):ImmO (owL T):=λg ⟨p,vs,e,z,q⟩=>⟨p,vs,e,z,q.imm i g⟩
inductive Sl:Type 1 where
 |dead
 |fz {α:Type}(T:Ty α) (a:α)
 |ow {α:Type}(O:Own α) (a:α)
def Sl.P:Sl->Option V->Hp->Hp->Prop
 |.dead,_,_,_=>True
 |.fz T a,o,F,_=>∃v,o=some v/\T.R a v F
 |.ow O a,o,F,h=>∃v,o=some v/\O.O a v F h
def Sl.Z:Sl->Option V->Hp->Prop
 |.dead,_,_=>True
 |.fz T a,o,F=>∃v,o=some v/\T.R a v F
 |.ow O a,o,F=>∃v,o=some v/\O.fr.R a v F
def Sl.cold:Sl->Sl
 |.ow _ _=>.dead
 |s=>s
def Hold:List Sl->St->Hp->Hp->Prop
 |[],[],_,_=>True
 |s::L,o::σ,F,h=>∃h1 h2,Jn h1 h2 h/\s.P o F h1/\Hold L σ F h2
 |_,_,_,_=>False
def HoldF (L:List Sl)(σ:St)(F:Hp):Prop:=∀(i:Nat) (s:Sl),L[i]?=some s->s.Z (σ[i]?.join) F
theorem Sl.P.mono {s:Sl}{o:Option V}{F F' h:Hp}(g:Same F F')(q:s.P o F h):s.P o F' h:=by
 cases s with
 |dead=>exact q
 |fz T a=>obtain⟨v,e,r⟩:=q;exact⟨v,e,T.mono g r⟩
 |ow O a=>obtain⟨v,e,r⟩:=q;exact⟨v,e,O.mono g r⟩
theorem Sl.Z.mono {s:Sl}{o:Option V}{F F':Hp}(g:Same F F')(q:s.Z o F):s.Z o F':=by
 cases s with
 |dead=>exact q
 |fz T a=>obtain⟨v,e,r⟩:=q;exact⟨v,e,T.mono g r⟩
 |ow O a=>obtain⟨v,e,r⟩:=q;exact⟨v,e,O.fr.mono g r⟩
theorem HoldF.mono {L:List Sl}{σ:St}{F F':Hp}(g:Same F F')(q:HoldF L σ F):HoldF L σ F':=λi s e=>(q i s e).mono g
theorem Hold.mono:∀{L:List Sl}{σ:St}{F F' h:Hp},Same F F'->Hold L σ F h->Hold L σ F' h
 |[],[],_,_,_,_,q=>q
 |s::L,o::σ,F,F',h,g,⟨h1,h2,j,p,r⟩=>⟨h1,h2,j,p.mono g,r.mono g⟩
 |[],_::_,_,_,_,_,q=>q.elim
 |_::_,[],_,_,_,_,q=>q.elim
theorem Hold.len:∀{L:List Sl}{σ:St}{F h:Hp},Hold L σ F h->L.length=σ.length
 |[],[],_,_,_=>rfl
 |s::L,o::σ,F,h,⟨h1,h2,j,p,r⟩=>by rw[qh,qh,r.len]
 |[],_::_,_,_,q=>q.elim
 |_::_,[],_,_,q=>q.elim
theorem Jn.l {h1 h2 h:Hp}(j:Jn h1 h2 h):Same h1 h:=λp o e=>by
 rcases j p with⟨a,b⟩|⟨a,b⟩
 ·rw[a]at e;cases e
 ·rw[b];exact e
theorem Jn.r {h1 h2 h:Hp}(j:Jn h1 h2 h):Same h2 h:=λp o e=>by
 rcases j p with⟨a,b⟩|⟨a,b⟩
 ·rw[b];exact e
 ·rw[a]at e;cases e
theorem Jn.dj {h1 h2 h:Hp}(j:Jn h1 h2 h):Dj h1 h2:=λp=>by
 rcases j p with⟨a,b⟩|⟨a,b⟩
 ·exact .inl a
 ·exact .inr a
theorem zjt_ {h1 h2:Hp}(d:Dj h1 h2):Jn h1 h2 (un h1 h2):=λp=>by
 unfold un;rcases d p with a |a
 ·rw[a];exact .inl ⟨rfl,rfl⟩
 ·refine .inr ⟨a,?_⟩
  cases h1 p with
  |none=>exact a
  |some o=>rfl
theorem Hold.at:∀{L:List Sl}{σ:St}{F h:Hp}(i:Nat) {s:Sl},Hold L σ F h->L[i]?=some s ->
  ∃o h1 h2,σ[i]?=some o/\Jn h1 h2 h/\s.P o F h1/\∀s' o' h1' h',Jn h1' h2 h'->s'.P o' F h1'->Hold (L.set i s') (σ.set i o') F h'
 |[],_,_,_,_,_,_,e=>by cases e
 |s::L,[],_,_,_,_,q,_=>q.elim
 |s::L,o::σ,F,h,0,t,⟨h1,h2,j,p,r⟩,e=>by
  cases e;exact⟨o,h1,h2,rfl,j,p,λs' o' h1' h' j' p'=>⟨h1',h2,j',p',r⟩⟩
 |s::L,o::σ,F,h,i+1,t,⟨h1,h2,j,p,r⟩,e=>by
  obtain⟨o1,k1,k2,e1,j1,p1,f⟩:=Hold.at i r (by simpa using e)
  have d1:Dj h1 k1:=λp=>by
   rcases j.dj p with a |a
   ·exact .inl a
   ·exact .inr (j1.l.free a)
  have d2:Dj h1 k2:=λp=>by
   rcases j.dj p with a |a
   ·exact .inl a
   ·exact .inr (j1.r.free a)
  refine⟨o1,k1,un h1 k2,by simpa using e1,λp=>?_,p1,λs' o' cu h' j' p'=>?_⟩
  ·rcases j p with⟨a,b⟩|⟨a,b⟩
   ·rcases j1 p with⟨c,d⟩|⟨c,d⟩
    ·refine .inl ⟨c,?_⟩;unfold un;rw[a,b,d]
    ·refine .inr ⟨?_,by rw[b,d]⟩;unfold un;rw[a,c]
   ·refine .inl ⟨j1.l.free a,?_⟩
    have:k2 p=none:=j1.r.free a;unfold un;rw[b];cases h1 p with
    |none=>rw[this]
    |some u=>rfl
  ·have dd:Dj cu k2:=λp=>by
    rcases j' p with⟨a,b⟩|⟨a,b⟩
    ·exact .inl a
    ·right;unfold un at a
     grind
   refine⟨h1,un cu k2,λp=>?_,p,f s' o' cu _ (zjt_ dd) p'⟩
   rcases j' p with⟨a,b⟩|⟨a,b⟩
   ·unfold un at b ⊢
    cases z:h1 p with
    |none=>rw[z]at b;exact .inl ⟨rfl,by rw[b,a]⟩
    |some u=>
     rw[z]at b;refine .inr ⟨?_,b⟩;rw[a];rcases d2 p with y |y
     ·rw[y]at z;cases z
     ·exact y
   ·unfold un at a
    cases z:h1 p with
    |some u=>rw[z]at a;cases a
    |none=>
     rw[z]at a;refine .inl ⟨rfl,?_⟩;unfold un;rw[b];cases cu p with
     |none=>exact a.symm
     |some u=>rfl
theorem Hold.froz {L:List Sl}{σ:St}{F h:Hp}(d:Dj F h)(q:Hold L σ F h):HoldF L σ (un F h):=by
 intro i s e;obtain⟨o,h1,h2,e1,j,p,_⟩:=q.at i e;rw[e1];have d1:Dj F h1:=λp=>by
  rcases d p with a |a
  ·exact .inl a
  ·exact .inr (j.l.free a)
 cases s with
 |dead=>trivial
 |fz T a=>obtain⟨v,e2,r⟩:=p;exact⟨v,e2,T.mono zdc_ r⟩
 |ow O a=>
  obtain⟨v,e2,r⟩:=p;refine⟨v,e2,O.fr.mono (λp u z=>?_) (O.frz d1 r)⟩
  unfold un at z ⊢;cases y:F p with
  |some w=>rw[y]at z;exact z
  |none=>rw[y]at z;exact j.l _ _ z
theorem Hold.coldF {L:List Sl}{σ:St}{F h:Hp}(q:Hold L σ F h):HoldF (L.map Sl.cold) σ F:=by
 intro i s e;rw[qU]at e;cases e1:L[i]? with
 |none=>rw[e1]at e;cases e
 |some t=>
  rw[e1]at e;cases e;obtain⟨o,h1,h2,e2,j,p,_⟩:=q.at i e1;rw[e2];cases t with
  |dead=>trivial
  |fz T a=>obtain⟨v,e2,r⟩:=p;exact⟨v,e2,r⟩
  |ow O a=>trivial
end L2
namespace L2
open PySem PySem.Spec PyProof.Rows
def Av.R:Av->V->Hp->Prop
 |.i n,v,_=>v=.int n
 |.p a b,v,H=>∃q,v=.ref q/\H q=some (.tup [.int a,.int b])
theorem Av.imm {x:Av}{v:V}{H H':Hp}(g:Tups H H')(h:x.R v H):x.R v H':=by
 cases x with
 |i n=>exact h
 |p a b=>obtain⟨q,e,z⟩:=h;exact⟨q,e,g _ _ z⟩
def AtR (as:List (Str×Av))(fs:List (Str×V))(F:Hp):Prop:=Paired (λa f=>a.1=f.1/\a.2.R f.2 F) as fs
theorem AtR.imm {as:List (Str×Av)}{fs:List (Str×V)}{H H':Hp}(g:Tups H H')(h:AtR as fs H):AtR as fs H':=zbA_ (λ_ _ r=>⟨r.1,Av.imm g r.2⟩) h
def Tell (K:Fgg)(E:XK)(x:Xc)(H0 F H:Hp):Prop:=match x with
 |.pl c=>E (.ref (gA K c)) none H
 |.at c as=>∀dx fs,H0 dx=none->F dx=some (XDO dx fs)->AtR as fs F->E (.ref (gA K c)) (some dx) H
theorem Tell.up {K:Fgg}{E:XK}{x:Xc}{H0 H1 F H:Hp}(s:Same H0 H1)(h:Tell K E x H0 F H):Tell K E x H1 F H:=by
 cases x with
 |pl c=>exact h
 |«at» c as=>exact λdx fs e=>h dx fs (s.free e)
def After {α:Type}(K:Fgg)(r:Mo α)(E:XK)(F H:Hp)(k:α->Hp->Hp->Prop):Prop:=match r with
 |.ok a=>∀F' H',Ext F H F' H'->k a F' H'
 |.ex c=>∀F' H',Ext F H F' H'->Tell K E c H F' H'
 |.no=>False
section
variable {K:Fgg}{E:XK}{α β γ ρ:Type}{F H:Hp}
theorem After.bind {r:Mo α}{f:α->Mo β}{k:β->Hp->Hp->Prop}(h:After K (r.bind f) E F H k):After K r E F H λa F1 H1=>After K (f a) E F1 H1 k:=by
 cases r with
 |ok a=>
  intro F1 H1 x;have h':After K (f a) E F H k:=h;cases e:f a with
  |ok b=>rw[e]at h';exact λF2 H2 y=>h' F2 H2 (x.trans y)
  |ex c=>rw[e]at h';exact λF2 H2 y=>(h' F2 H2 (x.trans y)).up x.2.2.1
  |no=>rw[e]at h';exact h'
 |ex c=>exact h
 |no=>exact h
theorem After.imp {r:Mo α}{k k':α->Hp->Hp->Prop}(h:After K r E F H k)(g:∀a F' H',Ext F H F' H'->k a F' H'->k' a F' H'):After K r E F H k':=by
 cases r with
 |ok a=>exact λF' H' x=>g a F' H' x (h F' H' x)
 |ex c=>exact h
 |no=>exact h
theorem After.ok {a:α}{k:α->Hp->Hp->Prop}(hs:Same F H)(h:After K (.ok a) E F H k):k a F H:=h F H (.refl hs)
theorem After.noex {r:Mo α}{k:α->Hp->Hp->Prop}(h:After K r.noex E F H k):After K r E0 F H k:=by
 cases r with
 |ok a=>exact h
 |ex c=>exact h.elim
 |no=>exact h
theorem After.lim {n:Nat}{r:Mo α}{k:α->Hp->Hp->Prop}(h:After K (Mo.lim n r) E F H k):n<=pX/\After K r E F H k:=by
 unfold Mo.lim at h;split at h
 ·exact⟨by assumption,h⟩
 ·exact h.elim
theorem After.grd {p:Prop}[Decidable p]{r:Mo α}{k:α->Hp->Hp->Prop}(h:After K (Mo.grd p r) E F H k):p/\After K r E F H k:=by
 unfold Mo.grd at h;split at h
 ·exact⟨by assumption,h⟩
 ·exact h.elim
theorem After.opt {x:Option α}{k:α->Hp->Hp->Prop}(h:After K (Mo.opt x) E F H k):∃a,x=some a/\After K (.ok a) E F H k:=by
 cases x with
 |none=>exact h.elim
 |some a=>exact⟨a,rfl,h⟩
def EvF (K:Fgg)(e:TE)(E:XK)(L:List Sl)(r:Mo α)(T:Ty α):Prop:=
 ∀σ F H (Q:VK),HoldF L σ F->Same F H->After K r E F H (λa F' H'=>∀v,T.R a v F'->Q v H')->e σ H Q
def OwnK (O:Own α)(H:Hp)(Q:VK)(a:α)(F' H':Hp):Prop:=∀v h,(∀p,h p≠none->H p=none)->Dj F' h->Same h H'->O.O a v F' h->Q v H'
def EvO (K:Fgg)(e:TE)(E:XK)(L:List Sl)(r:Mo α)(O:Own α):Prop:=
 ∀σ F H (Q:VK),HoldF L σ F->Same F H->After K r E F H (OwnK O H Q)->e σ H Q
def EvT (K:Fgg)(t:TT)(E:XK)(L:List Sl)(r:Mo Bool):Prop:=
 ∀σ F H (Q:Bool->Hp->Prop),HoldF L σ F->Same F H->After K r E F H (λb _ H'=>Q b H')->t σ H Q
def EvA (K:Fgg)(t:TA)(E:XK)(L:List Sl)(r:Mo γ)(C:Cs γ):Prop:=
 ∀σ F H (Q:List V->Hp->Prop),HoldF L σ F->Same F H->After K r E F H (λc F' H'=>∀vs,C.R c vs F'->Q vs H')->t σ H Q
variable {L:List Sl}{e e1 e2:TE}{T:Ty α}{r:Mo α}
theorem EvO.fr {O:Own α}(h:EvO K e E L r O):EvF K e E L r O.fr:=by
 intro σ F H Q hL hs q;refine h σ F H Q hL hs ?_;cases r with
 |ok a=>
  intro F' H' x v h' fresh d s o;refine q (un F' h') H' ⟨x.1.trans zdc_,λp o e=>?_,x.2.2.1,λp a b=>?_⟩ v (O.frz d o)
  ·unfold un at e
   cases z:F' p with
   |some w=>rw[z]at e;cases e;exact x.2.1 _ _ z
   |none=>rw[z]at e;exact s _ _ e
  ·unfold un at b
   cases z:F' p with
   |some w=>exact x.2.2.2 p a (by rw[z];exact sN _)
   |none=>rw[z]at b;exact fresh p b
 |ex c=>exact q
 |no=>exact q
theorem EvF.ow (h:EvF K e E L r T):EvO K e E L r (owF T):=by
 intro σ F H Q hL hs q;refine h σ F H Q hL hs (q.imp λa F' H' x k v hv=>?_)
 exact k v (λ_=>none) (λp z=>absurd rfl z) (λp=>.inr rfl) (λp o z=>by cases z) ⟨λ_=>rfl,hv⟩
theorem ev_c {v:V}{a:α}(h:∀F,T.R a v F):EvF K (tC v) E L (.ok a) T:=λσ F H Q hL hs q=>q.ok hs v (h F)
theorem ze_ (i:Int):EvF K (tC (.int i)) E L (.ok i) tyInt:=ev_c λ_=>rfl
theorem zs_ (l:List Nat):EvF K (tC (tx l)) E L (.ok l) tyStr:=ev_c λ_=>rfl
theorem zlh_ (b:Bool):EvF K (tC (.bl b)) E L (.ok b) tyBl:=ev_c λ_=>rfl
theorem zgP_:EvF K (tC .non) E L (.ok ()) tyNon:=ev_c λ_=>rfl
theorem zmH_ {β:Type}{T:Ty β}:EvF K (tC .non) E L (.ok (none:Option β)) (tyOpt T):=ev_c λ_=>rfl
theorem zjD_ (hn:∀a v F,T.R a v F->v≠.non)(h:EvF K e E L r T):EvF K e E L (r.bind λa=>.ok (some a)) (tyOpt T):=by
 intro σ F H Q hL hs q;exact h σ F H Q hL hs (q.bind.imp λa F1 H1 x k v hv=>k.ok x.2.1 v ⟨hv,hn _ _ _ hv⟩)
theorem za_ (i:Nat){a:α}(h:L[i]?=some (.fz T a)):EvF K (mVar i) E L (.ok a) T:=by
 intro σ F H Q hL hs q;obtain⟨v,e,r⟩:=hL i _ h;unfold mVar;cases z:σ[i]? with
 |none=>rw[z]at e;cases e
 |some o=>
  rw[z]at e;cases(show o=some v from e)
  exact q.ok hs v r
theorem zkM_ (i:Nat){O:Own α}{a:α}(h:L[i]?=some (.ow O a)):EvF K (mVar i) E L (.ok a) O.fr:=by
 intro σ F H Q hL hs q;obtain⟨v,e,r⟩:=hL i _ h;unfold mVar;cases z:σ[i]? with
 |none=>rw[z]at e;cases e
 |some o=>
  rw[z]at e;cases(show o=some v from e)
  exact q.ok hs v r
def Op2 (K:Fgg)(m:R2)(E:XK)(T1:Ty α)(T2:Ty β)(g:α->β->Mo γ)(T:Ty γ):Prop:=
 ∀a b x y F H (Q:VK),Same F H->T1.R a x F->T2.R b y F->After K (g a b) E F H (λc F' H'=>∀v,T.R c v F'->Q v H')->m x y H Q
def Op2O (K:Fgg)(m:R2)(E:XK)(T1:Ty α)(T2:Ty β)(g:α->β->Mo γ)(O:Own γ):Prop:=
 ∀a b x y F H (Q:VK),Same F H->T1.R a x F->T2.R b y F->After K (g a b) E F H (OwnK O H Q)->m x y H Q
theorem OwnK.back {O:Own α}{H H1:Hp}{Q:VK}{a:α}{F' H':Hp}(g:Same H H1)(h:OwnK O H Q a F' H'):OwnK O H1 Q a F' H':=
 λv k fresh d s o=>h v k (λp z=>g.free (fresh p z)) d s o
theorem zh_ {m:R2}{T1:Ty α}{T2:Ty β}{T:Ty γ}{g:α->β->Mo γ}{r1:Mo α}{r2:Mo β}(dG:Op2 K m E T1 T2 g T)(h1:EvF K e1 E L r1 T1)(h2:EvF K e2 E L r2 T2):
  EvF K (tOp m e1 e2) E L (r1.bind λa=>r2.bind λb=>g a b) T:=by
 intro σ F H Q hL hs q;refine h1 σ F H _ hL hs (q.bind.imp λa F1 H1 x1 k1 v1 bH=>?_)
 refine h2 σ F1 H1 _ (hL.mono x1.1) x1.2.1 (k1.bind.imp λb F2 H2 x2 k2 v2 ba=>?_)
 exact dG a b v1 v2 F2 H2 Q x2.2.1 (T1.mono x2.1 bH) ba k2
theorem za5_ {m:R2}{T1:Ty α}{T2:Ty β}{O:Own γ}{g:α->β->Mo γ}{r1:Mo α}{r2:Mo β}(dG:Op2O K m E T1 T2 g O)(h1:EvF K e1 E L r1 T1)(h2:EvF K e2 E L r2 T2):
  EvO K (tOp m e1 e2) E L (r1.bind λa=>r2.bind λb=>g a b) O:=by
 intro σ F H Q hL hs q;refine h1 σ F H _ hL hs (q.bind.imp λa F1 H1 x1 k1 v1 bH=>?_)
 refine h2 σ F1 H1 _ (hL.mono x1.1) x1.2.1 (k1.bind.imp λb F2 H2 x2 k2 v2 ba=>?_)
 exact dG a b v1 v2 F2 H2 Q x2.2.1 (T1.mono x2.1 bH) ba (k2.imp λc F3 H3 x3 k3=>k3.back (x1.2.2.1.trans x2.2.2.1))
theorem zrY_ {g:Int->Int->V}{f:Int->Int->α}(h:∀i j F,T.R (f i j) (g i j) F):Op2 K (mI0 g) E tyInt tyInt (λi j=>.ok (f i j)) T:=by
 intro a b x y F H Q hs hx hy q;cases hx;cases hy;exact q.ok hs _ (h a b F)
theorem op_i {C:Int->Int->Prop}[∀i j,Decidable (C i j)]{g:Int->Int->V}{f:Int->Int->α}(h:∀i j F,T.R (f i j) (g i j) F):Op2 K (mI C g) E tyInt tyInt (λi j=>.grd (C i j) (.ok (f i j))) T:=by
 intro a b x y F H Q hs hx hy q;cases hx;cases hy;obtain⟨c,q⟩:=q.grd;exact⟨c,q.ok hs _ (h a b F)⟩
instance (i j:Int):Decidable (CMul i j):=inferInstanceAs (Decidable (_\/_))
instance (i j:Int):Decidable (CDiv i j):=inferInstanceAs (Decidable (_/\_))
instance (i j:Int):Decidable (CPow i j):=inferInstanceAs (Decidable (_/\_/\_))
theorem zu_:Op2 K mAdd E tyInt tyInt (λi j=>.ok (i+j)) tyInt:=by
 intro a b x y F H Q hs hx hy q;cases hx;cases hy;exact q.ok hs _ rfl
theorem zaU_:Op2 K mSub E tyInt tyInt (λi j=>.ok (i-j)) tyInt:=zrY_ λ_ _ _=>rfl
theorem zp_:Op2 K mMod E tyInt tyInt (λi j=>.grd (0<j) (.ok (i % j))) tyInt:=op_i (C:=λ_ j=>0<j) λ_ _ _=>rfl
theorem zjW_:Op2 K mPow E tyInt tyInt (λi j=>.grd (CPow i j) (.ok (i ^ j.toNat))) tyInt:=op_i λ_ _ _=>rfl
theorem zo7_:Op2 K mLt E tyInt tyInt (λi j=>.ok (decide (i<j))) tyBl:=zrY_ λ_ _ _=>rfl
theorem zck_:Op2 K mLe E tyInt tyInt (λi j=>.ok (decide (i<=j))) tyBl:=zrY_ λ_ _ _=>rfl
theorem zlS_:Op2 K mGt E tyInt tyInt (λi j=>.ok (decide (j<i))) tyBl:=zrY_ λ_ _ _=>rfl
theorem zsh_:Op2 K mGe E tyInt tyInt (λi j=>.ok (decide (j<=i))) tyBl:=zrY_ λ_ _ _=>rfl
theorem zct_:Op2 K mAdd E tyStr tyStr (λi j=>.lim (i.length+j.length) (.ok (i++j))) tyStr:=by
 intro a b x y F H Q hs hx hy q;cases hx;cases hy;obtain⟨c,q⟩:=q.lim;exact⟨c,q.ok hs _ rfl⟩
theorem Prs.append {xs ys:List α}{vs us:List V}(a:Prs T H xs vs)(b:Prs T H ys us):Prs T H (xs++ys) (vs++us):=by
 induction a with
 |nil=>exact b
 |cons r t ih=>exact .cons r ih
theorem Prs.len {xs:List α}{vs:List V}(a:Prs T H xs vs):xs.length=vs.length:=Paired.length a
theorem Prs.get {xs:List α}{vs:List V}(a:Prs T H xs vs)(i:Nat):(xs[i]?=none/\vs[i]?=none)\/∃x v,xs[i]?=some x/\vs[i]?=some v/\T.R x v H:=by
 induction a generalizing i with
 |nil=>exact .inl ⟨rfl,rfl⟩
 |cons r t ih=>
  cases i with
  |zero=>exact .inr ⟨_,_,rfl,rfl,r⟩
  |succ i=>simpa using ih i
theorem Prs.take {xs:List α}{vs:List V}(a:Prs T H xs vs)(n:Nat):Prs T H (xs.take n) (vs.take n):=by
 induction a generalizing n with
 |nil=>rw[vp,vp];exact .nil
 |cons r t ih=>
  cases n with
  |zero=>exact .nil
  |succ n=>exact .cons r (ih n)
theorem Prs.drop {xs:List α}{vs:List V}(a:Prs T H xs vs)(n:Nat):Prs T H (xs.drop n) (vs.drop n):=by
 induction a generalizing n with
 |nil=>rw[xZ,xZ];exact .nil
 |cons r t ih=>
  cases n with
  |zero=>exact .cons r t
  |succ n=>exact ih n
theorem Prs.set {xs:List α}{vs:List V}(a:Prs T H xs vs)(i:Nat){x:α}{v:V}(q:T.R x v H):Prs T H (xs.set i x) (vs.set i v):=by
 induction a generalizing i with
 |nil=>exact .nil
 |cons r t ih=>
  cases i with
  |zero=>exact .cons q t
  |succ i=>exact .cons r (ih i)
theorem zmJ_ {vs:List V}{xs:List α}{p:nc}{F' H':Hp}{Q:VK}(hp:H p=none)(h2:H' p=some (.lst vs))(hf:F' p=none)(hr:Prs T F' xs vs)(q:OwnK (owL T) H Q xs F' H'):Q (.ref p) H':=by
 refine q (.ref p) (one p (.lst vs)) (λb z=>?_) (λb=>?_) (λb o z=>?_) ⟨p,vs,rfl,rfl,hr⟩
 ·unfold one at z;split at z
  ·rename_i e;rw[e];exact hp
  ·exact absurd rfl z
 ·unfold one;split
  ·rename_i e;rw[e];exact .inl hf
  ·exact .inr rfl
 ·unfold one at z;split at z
  ·rename_i e;rw[e];cases z;exact h2
  ·cases z
theorem zbB_ {vs:List V}{xs:List α}{p:nc}{Q:VK}(hs:Same F H)(hp:H p=none)(hr:Prs T F xs vs)(q:After K (.ok xs) E F H (OwnK (owL T) H Q)):Q (.ref p) (upd H p (.lst vs)):=
 zmJ_ hp zq_ (hs.free hp) hr (q F _ (.heap hs (zbY_ hp _)))
theorem zas_:Op2O K mAdd E (tyL T) (tyL T) (λi j=>.lim (i.length+j.length) (.ok (i++j))) (owL T):=by
 rintro a b x y F H Q hs ⟨p,vs,rfl,h1,r1⟩ ⟨p2,us,rfl,h2,r2⟩ q;obtain⟨c,q⟩:=q.lim;exact⟨vs,us,hs _ _ h1,hs _ _ h2,by rw[<- r1.len,<- r2.len];exact c,λp hp=>zbB_ hs hp (r1.append r2) q⟩
theorem zb_ (h:EvF K e E L r T):EvA K (tCons e tNil) E L r (csLast T):=by
 intro σ F H Q hL hs q;exact h σ F H _ hL hs (q.imp λa F1 H1 x k v hv=>k [v] ⟨v,rfl,hv⟩)
theorem zd_ {ta:TA}{r2:Mo γ}{C:Cs γ}(h:EvF K e E L r T)(h2:EvA K ta E L r2 C):EvA K (tCons e ta) E L (r.bind λa=>r2.bind λc=>.ok (a,c)) (csCons T C):=by
 intro σ F H Q hL hs q;refine h σ F H _ hL hs (q.bind.imp λa F1 H1 x1 k1 v1 bH=>?_)
 refine h2 σ F1 H1 _ (hL.mono x1.1) x1.2.1 (k1.bind.imp λc F2 H2 x2 k2 vs bt=>?_)
 exact k2.ok x2.2.1 (v1::vs) ⟨v1,vs,rfl,T.mono x2.1 bH,bt⟩
def Ct (K:Fgg)(C:Cs γ)(f:γ->Mo ρ)(O:Own ρ):Sp:=λvs H Q E=>∃F c,Same F H/\C.R c vs F/\After K (f c) E F H (OwnK O H Q)
theorem zrb_ {C:Cs γ}{f:γ->Mo ρ}{O:Own ρ}{ta:TA}{r:Mo γ}(h:EvA K ta E L r C):EvO K (tCall (Ct K C f O) [] E ta) E L (r.bind f) O:=by
 intro σ F H Q hL hs q;refine h σ F H _ hL hs (q.bind.imp λc F1 H1 x1 k1 vs bt=>?_)
 rw[qC];exact⟨F1,c,x1.2.1,bt,k1.imp λr F2 H2 x2 k2=>k2.back x1.2.2.1⟩
theorem z1_ {C:Cs γ}{f:γ->Mo ρ}{O:Own ρ}{ta:TA}{r:Mo γ}(h:EvA K ta E L r C):EvO K (tCall (Ct K C f O) [] E0 ta) E L (r.bind λc=>(f c).noex) O:=by
 intro σ F H Q hL hs q;refine h σ F H _ hL hs (q.bind.imp λc F1 H1 x1 k1 vs bt=>?_)
 rw[qC];exact⟨F1,c,x1.2.1,bt,k1.noex.imp λr F2 H2 x2 k2=>k2.back x1.2.2.1⟩
def Bl (K:Fgg)(m:List V->Hp->VK->Prop)(E:XK)(C:Cs γ)(g:γ->Mo α)(T:Ty α):Prop:=
 ∀c vs F H (Q:VK),Same F H->C.R c vs F->After K (g c) E F H (λc F' H'=>∀v,T.R c v F'->Q v H')->m vs H Q
def BlO (K:Fgg)(m:List V->Hp->VK->Prop)(E:XK)(C:Cs γ)(g:γ->Mo α)(O:Own α):Prop:=
 ∀c vs F H (Q:VK),Same F H->C.R c vs F->After K (g c) E F H (OwnK O H Q)->m vs H Q
theorem zd5_ {m:List V->Hp->VK->Prop}{C:Cs γ}{g:γ->Mo α}{ta:TA}{r:Mo γ}(hb:Bl K m E C g T)(h:EvA K ta E L r C):EvF K (tCB m ta) E L (r.bind g) T:=by
 intro σ F H Q hL hs q;exact h σ F H _ hL hs (q.bind.imp λc F1 H1 x1 k1 vs bt=>hb c vs F1 H1 Q x1.2.1 bt k1)
theorem zfl_ {m:List V->Hp->VK->Prop}{C:Cs γ}{g:γ->Mo α}{O:Own α}{ta:TA}{r:Mo γ}(hb:BlO K m E C g O)(h:EvA K ta E L r C):EvO K (tCB m ta) E L (r.bind g) O:=by
 intro σ F H Q hL hs q;exact h σ F H _ hL hs (q.bind.imp λc F1 H1 x1 k1 vs bt=>hb c vs F1 H1 Q x1.2.1 bt (k1.imp λa F2 H2 x2 k2=>k2.back x1.2.2.1))
theorem zkg_:Bl K (mLen K) E (csLast tyStr) (λl=>.lim l.length (.ok (l.length:Int))) tyInt:=by
 rintro c vs F H Q hs ⟨v,rfl,rfl⟩ q;obtain⟨z,q⟩:=q.lim;exact⟨z,q.ok hs _ rfl⟩
theorem zb4_:Bl K (mLen K) E (csLast (tyL T)) (λl=>.ok (l.length:Int)) tyInt:=by
 rintro c vs F H Q hs ⟨v,rfl,p,us,rfl,h,r⟩ q;exact⟨us,.inl (.of (hs _ _ h)),q.ok hs _ (by rw[r.len])⟩
theorem zoN_:Bl K (mLen K) E (csLast (tySc K)) (λl=>.ok (l.length:Int)) tyInt:=by
 rintro c vs F H Q hs ⟨v,rfl,p,rfl,h⟩ q;exact⟨_,.inl (hs.seq h),q.ok hs _ (by rw[l6])⟩
theorem zp8_:Bl K (mTwo min) E (csCons tyInt (csLast tyInt)) (λc=>.ok (min c.1 c.2)) tyInt:=by
 rintro c vs F H Q hs ⟨v,us,rfl,rfl,w,rfl,rfl⟩ q;exact q.ok hs _ rfl
theorem zft_:BlO K (mList K) E (csLast (tyL T)) (λl=>.ok l) (owL T):=by
 rintro c vs F H Q hs ⟨v,rfl,p,us,rfl,h,r⟩ q;exact .inl ⟨us,.inl (.of (hs _ _ h)),λl hl=>zbB_ hs hl r q⟩
theorem zkA_ {xs:List Int}:Prs tyInt H xs (xs.map V.int):=by
 induction xs with
 |nil=>exact .nil
 |cons x xs ih=>exact .cons rfl ih
theorem zmb_:Op2 K (mIx K) E tyStr tyInt (λl i=>.lim l.length (.opt ((atI l i).map λc=>[c]))) tyStr:=by
 rintro a b x y F H Q hs rfl rfl q;obtain⟨z,q⟩:=q.lim;obtain⟨l,e,q⟩:=q.opt;refine⟨z,?_⟩;show(match atI a b with |some c=>Q (tx [c]) H |none=>False)
 cases e1:atI a b with
 |none=>rw[e1]at e;cases e
 |some c=>rw[e1]at e;cases e;exact q.ok hs _ rfl
theorem zmS_ {xs:List α}{vs:List V}(r:Prs T H xs vs){i:Int}{x:α}(e:atI xs i=some x):∃v,atI vs i=some v/\T.R x v H:=by
 unfold atI at e ⊢;rw[<- r.len];cases e1:ixN xs.length i with
 |none=>rw[e1]at e;cases e
 |some j=>
  rw[e1]at e;rcases r.get j with⟨a,b⟩|⟨y,v,a,b,c⟩
  ·have:xs[j]?=some x:=e
   rw[a]at this;cases this
  ·have:xs[j]?=some x:=e
   rw[a]at this;cases this;exact⟨v,b,c⟩
theorem zV_:Op2 K (mIx K) E (tyL T) tyInt (λl i=>.opt (atI l i)) T:=by
 rintro a b x y F H Q hs ⟨p,vs,rfl,h,r⟩ rfl q;obtain⟨l,e,q⟩:=q.opt;refine⟨vs,.inl (.of (hs _ _ h)),?_⟩;obtain⟨v,e2,rv⟩:=zmS_ r e;rw[e2];exact q.ok hs v rv
theorem zrT_:Op2 K (mIx K) E (tySc K) tyInt (λl i=>.opt (atI l i)) tyInt:=by
 rintro a b x y F H Q hs ⟨p,rfl,h⟩ rfl q;obtain⟨l,e,q⟩:=q.opt;refine⟨_,.inl (hs.seq h),?_⟩;obtain⟨v,e2,rv⟩:=zmS_ (H:=F) zkA_ e;rw[e2];exact q.ok hs v rv
def CsAt (C:Cs γ)(i:Nat)(T:Ty α)(pr:γ->α):Prop:=∀{c vs H},C.R c vs H->∃v,vs[i]?=some v/\T.R (pr c) v H
theorem zpV_:CsAt (csLast T) 0 T id:=λ⟨v,e,h⟩=>⟨v,by rw[e];rfl,h⟩
theorem at_0 {C:Cs γ}:CsAt (csCons T C) 0 T Prod.fst:=λ⟨v,us,e,h,q⟩=>⟨v,by rw[e];rfl,h⟩
theorem at_s {C:Cs γ}{i:Nat}{pr:γ->α}{T':Ty β}(h:CsAt C i T pr):CsAt (csCons T' C) (i+1) T (λc=>pr c.2):=λ⟨v,us,e,_,q⟩=>by
 obtain⟨w,e2,r⟩:=h q;exact⟨w,by rw[e];exact e2,r⟩
theorem zB_ {C:Cs γ}{i:Nat}{pr:γ->α}{r:Mo γ}(ha:CsAt C i T pr)(h:EvF K e E L r (tyTup C)):EvF K (tOp (mIx K) e (tC (.int i))) E L (r.bind λc=>.ok (pr c)) T:=by
 intro σ F H Q hL hs q;refine h σ F H _ hL hs (q.bind.imp λc F1 H1 x1 k1 v1 af=>?_)
 obtain⟨p,us,ev,hp,hc⟩:=af;subst ev;obtain⟨w,e2,aS⟩:=ha hc;refine⟨us,.inr (.of (x1.2.1 _ _ hp)),?_⟩;have e3:atI us (i:Int)=some w:=by
  unfold atI;rw[zq2_ (by lia) (by have:=(qi.mp e2).1;lia)]
  simpa using e2
 rw[e3];exact k1.ok x1.2.1 w aS
end
section
variable {K:Fgg}{E:XK}{α β γ:Type}{F H:Hp}{L:List Sl}{e e1 e2:TE}{T:Ty α}{r:Mo α}
variable {t t1 t2:TT}{b b1 b2:Mo Bool}
theorem zF_ (h:EvF K e E L b tyBl):EvT K (mTest e) E L b:=by
 intro σ F H Q hL hs q;refine h σ F H _ hL hs (q.imp λa F1 H1 x k v hv=>?_)
 cases hv;exact k
theorem zmc_ (h:EvT K t E L b):EvT K (tNot t) E L (b.bind λc=>.ok (!c)):=by
 intro σ F H Q hL hs q;exact h σ F H _ hL hs (q.bind.imp λa F1 H1 x k=>k.ok x.2.1)
theorem znZ_ (h1:EvT K t1 E L b1)(h2:EvT K t2 E L b2):EvT K (mAnd t1 t2) E L (b1.bind λc=>if c then b2 else .ok false):=by
 intro σ F H Q hL hs q;refine h1 σ F H _ hL hs (q.bind.imp λa F1 H1 x k=>⟨λc=>?_,λc=>?_⟩)
 ·rw[if_pos c]at k;exact h2 σ F1 H1 _ (hL.mono x.1) x.2.1 k
 ·rw[if_neg (by rw[c];decide)]at k;exact k.ok x.2.1
theorem et_or (h1:EvT K t1 E L b1)(h2:EvT K t2 E L b2):EvT K (mOr t1 t2) E L (b1.bind λc=>if c then .ok true else b2):=by
 intro σ F H Q hL hs q;refine h1 σ F H _ hL hs (q.bind.imp λa F1 H1 x k=>⟨λc=>?_,λc=>?_⟩)
 ·rw[if_pos c]at k;exact k.ok x.2.1
 ·rw[if_neg (by rw[c];decide)]at k;exact h2 σ F1 H1 _ (hL.mono x.1) x.2.1 k
theorem zer_ (h1:EvF K e1 E L b1 tyBl)(h2:EvF K e2 E L b2 tyBl):EvF K (mAndV e1 e2) E L (b1.bind λc=>if c then b2 else .ok false) tyBl:=by
 intro σ F H Q hL hs q;refine h1 σ F H _ hL hs (q.bind.imp λa F1 H1 x k v hv=>?_)
 cases hv;refine⟨λc=>?_,λc=>?_⟩
 ·rw[if_pos c]at k;exact h2 σ F1 H1 _ (hL.mono x.1) x.2.1 k
 ·rw[if_neg (by rw[c];decide)]at k;exact k.ok x.2.1 _ rfl
theorem ztl_ (h1:EvF K e1 E L b1 tyBl)(h2:EvF K e2 E L b2 tyBl):EvF K (mOrV e1 e2) E L (b1.bind λc=>if c then .ok true else b2) tyBl:=by
 intro σ F H Q hL hs q;refine h1 σ F H _ hL hs (q.bind.imp λa F1 H1 x k v hv=>?_)
 cases hv;refine⟨λc=>?_,λc=>?_⟩
 ·rw[if_pos c]at k;exact k.ok x.2.1 _ rfl
 ·rw[if_neg (by rw[c];decide)]at k;exact h2 σ F1 H1 _ (hL.mono x.1) x.2.1 k
theorem zso_ (h1:EvF K e1 E L b1 tyBl):EvF K (mNotV e1) E L (b1.bind λc=>.ok (!c)) tyBl:=by
 intro σ F H Q hL hs q;refine h1 σ F H _ hL hs (q.bind.imp λa F1 H1 x k v hv=>?_)
 cases hv;exact k.ok x.2.1 _ rfl
theorem zfd_ {r:Mo Int}(h1:EvF K e1 E L r tyInt):EvF K (mNeg e1) E L (r.bind λc=>.ok (-c)) tyInt:=by
 intro σ F H Q hL hs q;refine h1 σ F H _ hL hs (q.bind.imp λa F1 H1 x k v hv=>?_)
 cases hv;exact k.ok x.2.1 _ rfl
theorem ev_if {r1 r2:Mo α}(ht:EvT K t E L b)(h1:EvF K e1 E L r1 T)(h2:EvF K e2 E L r2 T):EvF K (mIf t e1 e2) E L (b.bind λc=>if c then r1 else r2) T:=by
 intro σ F H Q hL hs q;refine ht σ F H _ hL hs (q.bind.imp λa F1 H1 x k=>⟨λc=>?_,λc=>?_⟩)
 ·rw[if_pos c]at k;exact h1 σ F1 H1 _ (hL.mono x.1) x.2.1 k
 ·rw[if_neg (by rw[c];decide)]at k;exact h2 σ F1 H1 _ (hL.mono x.1) x.2.1 k
theorem zmi_ {r1 r2:Mo α}{O:Own α}(ht:EvT K t E L b)(h1:EvO K e1 E L r1 O)(h2:EvO K e2 E L r2 O):EvO K (mIf t e1 e2) E L (b.bind λc=>if c then r1 else r2) O:=by
 intro σ F H Q hL hs q;refine ht σ F H _ hL hs (q.bind.imp λa F1 H1 x k=>⟨λc=>?_,λc=>?_⟩)
 ·rw[if_pos c]at k;exact h1 σ F1 H1 _ (hL.mono x.1) x.2.1 (k.imp λa F2 H2 y z=>z.back x.2.2.1)
 ·rw[if_neg (by rw[c];decide)]at k;exact h2 σ F1 H1 _ (hL.mono x.1) x.2.1 (k.imp λa F2 H2 y z=>z.back x.2.2.1)
theorem zf3_ {m m':R2}{e3:TE}{T1:Ty α}{T2:Ty β}{T3:Ty γ}{g:α->β->Mo Bool}{g':β->γ->Mo Bool}{r1:Mo α}{r2:Mo β}{r3:Mo γ}(dG:Op2 K m E T1 T2 g tyBl)(fu:Op2 K m' E T2 T3 g' tyBl)
  (h1:EvF K e1 E L r1 T1) (h2:EvF K e2 E L r2 T2) (h3:EvF K e3 E L r3 T3):
  EvF K (mChain m m' e1 e2 e3) E L (r1.bind λa=>r2.bind λb=>(g a b).bind λc=>if c then r3.bind λd=>g' b d else .ok false) tyBl:=by
 intro σ F H Q hL hs q;refine h1 σ F H _ hL hs (q.bind.imp λa F1 H1 x1 k1 v1 bH=>?_)
 refine h2 σ F1 H1 _ (hL.mono x1.1) x1.2.1 (k1.bind.imp λb F2 H2 x2 k2 v2 ba=>?_)
 refine dG a b v1 v2 F2 H2 _ x2.2.1 (T1.mono x2.1 bH) ba (k2.bind.imp λc F3 H3 x3 k3 v3 jC=>?_)
 cases jC;refine⟨λz=>?_,λz=>?_⟩
 ·rw[if_pos z]at k3
  refine h3 σ F3 H3 _ (hL.mono ((x1.1.trans x2.1).trans x3.1)) x3.2.1 (k3.bind.imp λd F4 H4 x4 k4 v4 dR=>?_)
  exact fu b d v2 v4 F4 H4 Q x4.2.1 (T2.mono (x3.1.trans x4.1) ba) dR k4
 ·rw[if_neg (by rw[z];decide)]at k3;exact k3.ok x3.2.1 _ rfl
theorem zle_ {m m' me:R2}{e3 e4:TE}{δ:Type}{T1:Ty α}{T2:Ty β}{T3:Ty γ}{T4:Ty δ}{g:α->β->Mo Bool}{g':β->γ->Mo Bool}{mQ:γ->δ->Mo Bool}{r1:Mo α}{r2:Mo β}{r3:Mo γ}{r4:Mo δ}
  (dG:Op2 K m E T1 T2 g tyBl) (fu:Op2 K m' E T2 T3 g' tyBl) (gG:Op2 K me E T3 T4 mQ tyBl)
  (h1:EvF K e1 E L r1 T1) (h2:EvF K e2 E L r2 T2) (h3:EvF K e3 E L r3 T3) (h4:EvF K e4 E L r4 T4):
  EvF K (mChain3 m m' me e1 e2 e3 e4) E L (r1.bind λa=>r2.bind λb=>(g a b).bind λc=>if c then(r3.bind λd=>(g' b d).bind λc'=>if c' then r4.bind λf=>mQ d f else .ok false)else .ok false) tyBl:=by
 intro σ F H Q hL hs q;refine h1 σ F H _ hL hs (q.bind.imp λa F1 H1 x1 k1 v1 bH=>?_)
 refine h2 σ F1 H1 _ (hL.mono x1.1) x1.2.1 (k1.bind.imp λb F2 H2 x2 k2 v2 ba=>?_)
 refine dG a b v1 v2 F2 H2 _ x2.2.1 (T1.mono x2.1 bH) ba (k2.bind.imp λc F3 H3 x3 k3 v3 jC=>?_)
 cases jC;refine⟨λz=>?_,λz=>?_⟩
 ·rw[if_pos z]at k3
  refine h3 σ F3 H3 _ (hL.mono ((x1.1.trans x2.1).trans x3.1)) x3.2.1 (k3.bind.imp λd F4 H4 x4 k4 v4 dR=>?_)
  refine fu b d v2 v4 F4 H4 _ x4.2.1 (T2.mono (x3.1.trans x4.1) ba) dR (k4.bind.imp λc' F5 H5 x5 k5 v5 oz=>?_)
  cases oz;refine⟨λz=>?_,λz=>?_⟩
  ·rw[if_pos z]at k5
   refine h4 σ F5 H5 _ (hL.mono ((((x1.1.trans x2.1).trans x3.1).trans x4.1).trans x5.1)) x5.2.1 (k5.bind.imp λf F6 H6 x6 k6 v6 oy=>?_)
   exact gG d f v4 v6 F6 H6 Q x6.2.1 (T3.mono (x5.1.trans x6.1) dR) oy k6
  ·rw[if_neg (by rw[z];decide)]at k5;exact k5.ok x5.2.1 _ rfl
 ·rw[if_neg (by rw[z];decide)]at k3;exact k3.ok x3.2.1 _ rfl
theorem After.more {k:α->Hp->Hp->Prop}(h:After K r E F H k):After K r E F H λa F1 H1=>∀F2 H2,Ext F1 H1 F2 H2->k a F2 H2:=by
 cases r with
 |ok a=>exact λF1 H1 x F2 H2 y=>h F2 H2 (x.trans y)
 |ex c=>exact h
 |no=>exact h
def CsN (C:Cs γ)(n:Nat):Prop:=∀{c vs H},C.R c vs H->vs.length=n
theorem zf_:CsN (csLast T) 1:=λ⟨v,e,_⟩=>by rw[e];rfl
theorem zc_ {C:Cs γ}{n:Nat}(h:CsN C n):CsN (csCons T C) (n+1):=λ⟨v,us,e,_,q⟩=>by rw[e,qh,h q]
theorem zw_ {ta:TA}{C:Cs γ}{r:Mo γ}{n:Nat}(hl:CsN C n)(h:EvA K ta E L r C)(hn:n<=100:=by decide):EvF K (tTup ta) E L r (tyTup C):=by
 intro σ F H Q hL hs q;refine h σ F H _ hL hs (q.more.imp λc F1 H1 x1 k1 vs bt=>⟨zdp_ (by rw[hl bt];lia),λp hp=>?_⟩)
 have x:=Ext.new (o:=.tup vs) x1.2.1 hp;exact k1 _ _ x _ ⟨p,vs,rfl,zq_,C.mono x.1 bt⟩
def CsL (C:Cs γ)(T:Ty α)(f:γ->List α):Prop:=∀{c vs H},C.R c vs H->Prs T H (f c) vs
theorem zn_:CsL (csLast T) T λa=>[a]:=λ⟨v,e,h⟩=>by rw[e];exact .cons h .nil
theorem zj_ {C:Cs γ}{f:γ->List α}(h:CsL C T f):CsL (csCons T C) T λc=>c.1::f c.2:=λ⟨v,us,e,q,z⟩=>by rw[e];exact .cons q (h z)
theorem zQ_ {ta:TA}{C:Cs γ}{r:Mo γ}{n:Nat}{f:γ->List α}(hl:CsN C n)(hf:CsL C T f)(h:EvA K ta E L r C)(hn:n<=100:=by decide):EvO K (tLst ta) E L (r.bind λc=>.ok (f c)) (owL T):=by
 intro σ F H Q hL hs q;refine h σ F H _ hL hs (q.bind.imp λc F1 H1 x1 k1 vs bt=>⟨zdp_ (by rw[hl bt];omega),λp hp=>?_⟩)
 exact zbB_ x1.2.1 hp (hf bt) (k1.imp λa F2 H2 x2 k2=>k2.back x1.2.2.1)
theorem zcN_ (T:Ty α):EvO K (tLst tNil) E L (.ok []) (owL T):=by
 intro σ F H Q hL hs q;exact⟨rB _,λp hp=>zbB_ hs hp (T:=T) .nil q⟩
def EvP (K:Fgg)(t:TO)(E:XK)(L:List Sl)(r:Mo (Option Int)):Prop:=
 ∀σ F H (Q:Option Int->Hp->Prop),HoldF L σ F->Same F H->After K r E F H (λb _ H'=>Q b H')->t σ H Q
theorem zgV_:EvP K tNoPart E L (.ok none):=λσ F H Q hL hs q=>q.ok hs
theorem zfH_ {r:Mo Int}(h:EvF K e E L r tyInt):EvP K (mPart e) E L (r.bind λi=>.ok (some i)):=by
 intro σ F H Q hL hs q;refine h σ F H _ hL hs (q.bind.imp λa F1 H1 x k v hv=>?_)
 cases hv;exact k.ok x.2.1
def cutG (xs:List α)(lo hi:Option Int):List α:=(xs.drop (HT.sIx xs.length 0 lo)).take (HT.sIx xs.length xs.length hi-HT.sIx xs.length 0 lo)
theorem zk9_ {xs:List α}{vs:List V}(q:Prs T H xs vs)(lo hi:Option Int):Prs T H (cutG xs lo hi) (cutV vs lo hi):=by
 unfold cutG cutV;rw[<- q.len];exact(q.drop _).take _
variable {tl th:TO}{rl rh:Mo (Option Int)}
theorem zhU_ {r:Mo (List Nat)}(h:EvF K e E L r tyStr)(hl:EvP K tl E L rl)(hh:EvP K th E L rh):EvF K (tSl (mSl K) e tl th) E L (r.bind λl=>rl.bind λa=>rh.bind λb=>.lim l.length (.ok (cutG l a b))) tyStr:=by
 intro σ F H Q hL hs q;refine h σ F H _ hL hs (q.bind.imp λl F1 H1 x1 k1 v hv=>?_)
 refine hl σ F1 H1 _ (hL.mono x1.1) x1.2.1 (k1.bind.imp λa F2 H2 x2 k2=>?_)
 refine hh σ F2 H2 _ (hL.mono (x1.1.trans x2.1)) x2.2.1 (k2.bind.imp λb F3 H3 x3 k3=>?_)
 cases hv;obtain⟨z,k3⟩:=k3.lim;exact⟨z,k3.ok x3.2.1 _ rfl⟩
theorem zgQ_ {r:Mo (List α)}(h:EvF K e E L r (tyL T))(hl:EvP K tl E L rl)(hh:EvP K th E L rh):EvO K (tSl (mSl K) e tl th) E L (r.bind λl=>rl.bind λa=>rh.bind λb=>.ok (cutG l a b)) (owL T):=by
 intro σ F H Q hL hs q;refine h σ F H _ hL hs (q.bind.imp λl F1 H1 x1 k1 v hv=>?_)
 refine hl σ F1 H1 _ (hL.mono x1.1) x1.2.1 (k1.bind.imp λa F2 H2 x2 k2=>?_)
 refine hh σ F2 H2 _ (hL.mono (x1.1.trans x2.1)) x2.2.1 (k2.bind.imp λb F3 H3 x3 k3=>?_)
 obtain⟨p,vs,rfl,hp,hr⟩:=hv;have x:=x2.1.trans x3.1;exact⟨vs,.of (x3.2.1 _ _ (x _ _ hp)),λq hq=>zbB_ x3.2.1 hq (zk9_ (hr.mono x) a b) (k3.imp λ_ _ _ _ z=>z.back ((x1.2.2.1.trans x2.2.2.1).trans x3.2.2.1))⟩
theorem zrr_ {r:Mo (List Int)}(h:EvF K e E L r (tySc K))(hl:EvP K tl E L rl)(hh:EvP K th E L rh):EvO K (tSl (mSl K) e tl th) E L (r.bind λl=>rl.bind λa=>rh.bind λb=>.ok (cutG l a b)) (owL tyInt):=by
 intro σ F H Q hL hs q;refine h σ F H _ hL hs (q.bind.imp λl F1 H1 x1 k1 v hv=>?_)
 refine hl σ F1 H1 _ (hL.mono x1.1) x1.2.1 (k1.bind.imp λa F2 H2 x2 k2=>?_)
 refine hh σ F2 H2 _ (hL.mono (x1.1.trans x2.1)) x2.2.1 (k2.bind.imp λb F3 H3 x3 k3=>?_)
 obtain⟨p,rfl,hp⟩:=hv;have x:=x2.1.trans x3.1;exact⟨_,x3.2.1.seq (x.seq hp),λq hq=>zbB_ x3.2.1 hq (zk9_ zkA_ a b) (k3.imp λ_ _ _ _ z=>z.back ((x1.2.2.1.trans x2.2.2.1).trans x3.2.2.1))⟩
structure EqT (K:Fgg)(T:Ty α)(n:Nat)(q:α->α->Bool):Prop where
 eq:∀{a b x y H},T.R a x H->T.R b y H->EqD K H n x y (q a b)
theorem zni_:EqT K tyInt 0 (λa b=>decide (a=b)):=⟨by
 rintro a b x y H rfl rfl;have:eqV (.int a) (.int b)=decide (a=b):=by unfold eqV;exact rfl
 rw[<- this];exact .flat rfl rfl⟩
def eqL (q:α->α->Bool):List α->List α->Bool
 |[],[]=>true
 |x::xs,y::ys=>q x y && eqL q xs ys
 |_,_=>false
theorem zmL_ {q:α->α->Bool}:∀{xs ys:List α},xs.length≠ys.length->eqL q xs ys=false
 |[],[],h=>absurd rfl h
 |[],_::_,_=>rfl
 |_::_,[],_=>rfl
 |x::xs,y::ys,h=>by unfold eqL;rw[zmL_ (by simpa using h),ve]
theorem znf_ {q:α->α->Bool}:∀{xs ys:List α},xs.length=ys.length->eqL q xs ys=(qG xs.length).all λi=>match xs[i]?,ys[i]? with |some x,some y=>q x y |_,_=>true
 |[],[],_=>rfl
 |x::xs,y::ys,h=>by
  unfold eqL;rw[qh,vH,rL,yp,znf_ (by simpa using h)]
  rfl
theorem zmX_ {q:α->α->Bool}[DecidableEq α](hq:∀a b,q a b=decide (a=b)):∀xs ys:List α,eqL q xs ys=decide (xs=ys)
 |[],[]=>rfl
 |[],_::_=>rfl
 |_::_,[]=>rfl
 |x::xs,y::ys=>by unfold eqL;rw[hq,zmX_ hq];simp
theorem eqt_l {n:Nat}{q:α->α->Bool}(h:EqT K T n q):EqT K (tyL T) (n+1) (eqL q):=⟨by
 rintro a b x y H ⟨p,vs,rfl,hp,hr⟩ ⟨p2,us,rfl,hp2,cv⟩;by_cases hl:a.length=b.length
 ·rw[znf_ hl,hr.len]
  refine .lst _ (.of hp) (.of hp2) (by rw[<- hr.len,<- cv.len,hl]) λi x y hx hy=>?_
  rcases hr.get i with⟨_,z⟩|⟨x1,v1,e1,e2,r1⟩
  ·rw[z]at hx;cases hx
  rcases cv.get i with⟨_,z⟩|⟨x2,v2,e3,e4,r2⟩
  ·rw[z]at hy;cases hy
  rw[e2]at hx;cases hx;rw[e4]at hy;cases hy;simp only[e1,e3];exact h.eq r1 r2
 ·rw[zmL_ hl]
  exact .lstN (.of hp) (.of hp2) (by rw[<- hr.len,<- cv.len];exact hl)⟩
structure EqC (K:Fgg)(C:Cs γ)(n m:Nat)(q:γ->γ->Bool):Prop where
 eq:∀{a b xs ys H},C.R a xs H->C.R b ys H->xs.length=m/\ys.length=m/\∃e:Nat->Bool,(∀i x y,xs[i]?=some x->ys[i]?=some y->EqD K H n x y (e i))/\(qG m).all e=q a b
theorem EqD.le {H:Hp}{n m:Nat}{x y:V}{b:Bool}(h:EqD K H n x y b)(g:n<=m):EqD K H m x y b:=by
 induction g with
 |refl=>exact h
 |step _ ih=>exact .up ih
theorem zoV_ {n:Nat}{q:α->α->Bool}(h:EqT K T n q):EqC K (csLast T) n 1 q:=⟨by
 rintro a b xs ys H ⟨v,rfl,hv⟩ ⟨u,rfl,hu⟩;refine⟨rfl,rfl,λ_=>q a b,λi x y hx hy=>?_,by simp[List.range_succ]⟩
 cases i with
 |zero=>cases hx;cases hy;exact h.eq hv hu
 |succ i=>cases hx⟩
theorem zoX_ {C:Cs γ}{n m k:Nat}{q:α->α->Bool}{q':γ->γ->Bool}(h:EqT K T n q)(h':EqC K C k m q'):EqC K (csCons T C) (max n k) (m+1) (λa b=>q a.1 b.1 && q' a.2 b.2):=⟨by
 rintro a b xs ys H ⟨v,us,rfl,hv,hc⟩ ⟨u,ws,rfl,hu,dg⟩;obtain⟨l1,l2,e,he,ea⟩:=h'.eq hc dg;refine⟨by rw[qh,l1],by rw[qh,l2],λi=>match i with |0=>q a.1 b.1 |j+1=>e j,λi x y hx hy=>?_,?_⟩
 ·cases i with
  |zero=>cases hx;cases hy;exact(h.eq hv hu).le (Nat.le_max_left _ _)
  |succ i=>exact(he i x y (by simpa using hx) (by simpa using hy)).le (Nat.le_max_right _ _)
 ·rw[vH,rL,yp,<- ea];rfl⟩
theorem zru_ {C:Cs γ}{n m:Nat}{q:γ->γ->Bool}(h:EqC K C n m q):EqT K (tyTup C) (n+1) q:=⟨by
 rintro a b x y H ⟨p,us,rfl,hp,hc⟩ ⟨p2,ws,rfl,hp2,hc2⟩;obtain⟨l1,l2,e,he,ea⟩:=h.eq hc hc2;have:=EqD.tup e (.of hp) (.of hp2) he (K:=K);rw[l1,l2,yq,ea,beq_self_eq_true,ya]at this;exact this⟩
theorem ztd_ {n:Nat}{q:α->α->Bool}(h:EqT K T n q)(hn:n<=50:=by decide)(hr:∀{a x H},T.R a x H->∃p,x=.ref p):Op2 K (mEqK K) E T T (λa b=>.ok (q a b)) tyBl:=by
 intro a b x y F H Q hs hx hy k;have hd:=h.eq (T.mono hs hx) (T.mono hs hy);obtain⟨p,rfl⟩:=hr hx;obtain⟨p2,rfl⟩:=hr hy;exact⟨n,_,hn,hd,k.ok hs _ rfl⟩
theorem ref_l {a:List α}{x:V}{H:Hp}(h:(tyL T).R a x H):∃p,x=.ref p:=by obtain⟨p,_,e,_⟩:=h;exact⟨p,e⟩
theorem zs5_ {n:Nat}{q:α->α->Bool}(h:EqT K (tyL T) n (eqL q))(hn:n<=50:=by decide):Op2 K (mEqK K) E (tyL T) (tyL T) (λa b=>.ok (eqL q a b)) tyBl:=ztd_ h hn ref_l
theorem zao_:Op2 K (mEqK K) E tyInt tyInt (λa b=>.ok (decide (a=b))) tyBl:=by
 rintro a b x y F H Q hs rfl rfl k;exact k.ok hs _ rfl
theorem zsf_:Op2 K (mNeK K) E tyInt tyInt (λa b=>.ok (!decide (a=b))) tyBl:=by
 rintro a b x y F H Q hs rfl rfl k;exact k.ok hs _ rfl
theorem zrE_:Op2 K (mEqK K) E tyStr tyStr (λa b=>.ok (decide (a=b))) tyBl:=by
 rintro a b x y F H Q hs rfl rfl k;exact k.ok hs _ rfl
theorem zqP_:Op2 K (mNeK K) E tyStr tyStr (λa b=>.ok (!decide (a=b))) tyBl:=by
 rintro a b x y F H Q hs rfl rfl k;exact k.ok hs _ rfl
theorem zic_:Op2 K mIs E (tyOpt T) tyNon (λa _=>.ok a.isNone) tyBl:=by
 rintro a b x y F H Q hs hx rfl k;have:decide (x=.non)=a.isNone:=by
  cases a with
  |none=>cases hx;rfl
  |some a=>exact decide_eq_false hx.2
 show(match mIsB x .non with |some b=>Q (.bl b) H |none=>False)
 have e:mIsB x .non=some (decide (x=.non)):=rfl;rw[e,this];exact k.ok hs _ rfl
theorem zhC_:Op2 K mIsNot E (tyOpt T) tyNon (λa _=>.ok a.isSome) tyBl:=by
 rintro a b x y F H Q hs hx rfl k;have:(!decide (x=.non))=a.isSome:=by
  cases a with
  |none=>cases hx;rfl
  |some a=>rw[decide_eq_false hx.2];rfl
 show(match mIsB x .non with |some b=>Q (.bl (!b)) H |none=>False)
 have e:mIsB x .non=some (decide (x=.non)):=rfl;rw[e];show Q (.bl (!decide (x=.non))) H
 rw[this];exact k.ok hs _ rfl
theorem zrD_:Op2 K (mIn K false) E tyStr tyStr (λa b=>.ok (inS a b)) tyBl:=by
 rintro a b x y F H Q hs rfl rfl k;exact k.ok hs _ rfl
structure Flt (T:Ty α)(q:α->α->Bool):Prop where
 flat:∀{a x H},T.R a x H->flatV x=true
 eq:∀{a b x y H},T.R a x H->T.R b y H->eqV x y=q a b
theorem zq1_:Flt tyInt (λa b=>decide (a=b)):=⟨λh=>by cases h;rfl,λh h'=>by cases h;cases h';unfold eqV;exact rfl⟩
theorem zp3_:Flt tyStr (λa b=>decide (a=b)):=⟨λh=>by cases h;rfl,λ{a b x y H} h h'=>by
 cases h;cases h';unfold eqV;grind⟩
theorem zmD_ {q:α->α->Bool}(f:Flt T q){H:Hp}{a:α}{x:V}(ha:T.R a x H){xs:List α}{vs:List V}(r:Prs T H xs vs):vs.all flatV=true/\inV x vs=xs.any λy=>q y a:=by
 induction r with
 |nil=>exact⟨rfl,rfl⟩
 |cons r t ih=>
  refine⟨by rw[rL,f.flat r,ih.1];rfl,?_⟩
  unfold inV at ih ⊢;rw[sC,sC,f.eq r ha,ih.2]
theorem znd_ {q:α->α->Bool}(f:Flt T q):Op2 K (mIn K true) E T (tyL T) (λa b=>.ok (!(b.any λy=>q y a))) tyBl:=by
 rintro a b x y F H Q hs hx ⟨p,vs,rfl,hp,hr⟩ k;obtain⟨h1,h2⟩:=zmD_ f hx hr;refine⟨vs,.inl (.of (hs _ _ hp)),f.flat hx,h1,?_⟩;rw[h2];exact k.ok hs _ rfl
def TyN (K:Fgg)(T:Ty α)(n:String):Prop:=∀{a x H},T.R a x H->tyS K H x n
theorem zok_:TyN K tyInt "int":=λh=>by cases h;rfl
theorem tn_bl:TyN K tyBl "bool":=λh=>by cases h;rfl
theorem ztv_:TyN K tyStr "str":=λh=>by cases h;rfl
theorem zsG_:TyN K tyNon "NoneType":=λh=>by cases h;rfl
theorem zm3_ {x:V}{n c:String}{bb:Bool}{Q:VK}(h:tyS K H x n)(hb:isaB n c=some bb)(q:Q (.bl bb) H):mIsa K [x,.ty c] H Q:=by
 cases x with
 |non=>cases(show n=_ from h);show(match isaB "NoneType" c with |some b=>Q (.bl b) H |none=>False);rw[hb];exact q
 |bl _=>cases(show n=_ from h);show(match isaB "bool" c with |some b=>Q (.bl b) H |none=>False);rw[hb];exact q
 |int _=>cases(show n=_ from h);show(match isaB "int" c with |some b=>Q (.bl b) H |none=>False);rw[hb];exact q
 |str _=>cases(show n=_ from h);show(match isaB "str" c with |some b=>Q (.bl b) H |none=>False);rw[hb];exact q
 |ref p=>exact⟨n,h,by rw[hb];exact q⟩
 |_=>exact h.elim
theorem zpM_ {n c:String}{bb:Bool}(hn:TyN K T n)(h:EvF K e E L r T)(hb:isaB n c=some bb:=by decide):EvF K (tCB (mIsa K) (tCons e (tCons (tC (.ty c)) tNil))) E L (r.bind λ_=>.ok bb) tyBl:=by
 intro σ F H Q hL hs q;refine h σ F H _ hL hs (q.bind.imp λl F1 H1 x1 k1 v hv=>?_)
 exact zm3_ (hn (T.mono x1.2.1 hv)) hb (k1.ok x1.2.1 _ rfl)
def Me (K:Fgg)(m:V->List V->Hp->VK->Prop)(E:XK)(C:Cs γ)(g:List Nat->γ->Mo α)(T:Ty α):Prop:=
 ∀l c vs F H (Q:VK),Same F H->C.R c vs F->After K (g l c) E F H (λc F' H'=>∀v,T.R c v F'->Q v H')->m (tx l) vs H Q
theorem ztC_ {m:V->List V->Hp->VK->Prop}{C:Cs γ}{g:List Nat->γ->Mo α}{ta:TA}{r0:Mo (List Nat)}{r:Mo γ}(hb:Me K m E C g T)(h0:EvF K e E L r0 tyStr)(h:EvA K ta E L r C):EvF K (tBM K "str" m e ta) E L (r0.bind λl=>r.bind λc=>g l c) T:=by
 intro σ F H Q hL hs q;refine h0 σ F H _ hL hs (q.bind.imp λl F1 H1 x1 k1 v hv=>?_)
 cases hv;refine⟨rfl,h σ F1 H1 _ (hL.mono x1.1) x1.2.1 (k1.bind.imp λc F2 H2 x2 k2 vs bt=>hb l c vs F2 H2 Q x2.2.1 bt k2)⟩
theorem zqI_:Me K mFind E (csLast tyStr) (λl c=>.ok (findS l c)) tyInt:=by
 rintro l c vs F H Q hs ⟨v,rfl,rfl⟩ k;exact k.ok hs _ rfl
end
section
variable {K:Fgg}{E:XK}{α β γ:Type}{F H:Hp}{L:List Sl}{e:TE}{T:Ty α}{r:Mo α}
def setL (L:List Sl)(ss:List (Nat×Sl)):List Sl:=ss.foldl (λL q=>L.set q.1 q.2) L
def setS (σ:St)(ss:List (Nat×Option V)):St:=ss.foldl (λL q=>L.set q.1 q.2) σ
inductive Plain (F:Hp):List (Nat×Sl)->List (Nat×Option V)->Prop
 |nil:Plain F [] []
 |cons {α:Type}{T:Ty α}{a:α}{i:Nat}{v:V}{ss vs} (h:T.R a v F) (t:Plain F ss vs):Plain F ((i,.fz T a)::ss) ((i,some v)::vs)
def TgR (K:Fgg)(g:TG)(T:Ty α)(ss:α->List (Nat×Sl)):Prop:=
 ∀a v σ F H (Q:St->Hp->Prop),Same F H->T.R a v F->(∀vs,Plain F (ss a) vs->Q (setS σ vs) H)->g v σ H Q
theorem zK_ (i:Nat):TgR K (gName i) T λa=>[(i,.fz T a)]:=by
 intro a v σ F H Q hs hv q;exact q [(i,some v)] (.cons hv .nil)
def TgC (K:Fgg)(g:TGs)(C:Cs γ)(ss:γ->List (Nat×Sl)):Prop:=
 ∀a vs σ F H (Q:St->Hp->Prop),Same F H->C.R a vs F->(∀us,Plain F (ss a) us->Q (setS σ us) H)->g vs σ H Q
theorem zfp_ {g:TG}{ss:α->List (Nat×Sl)}(h:TgR K g T ss):TgC K (gConsM g gNilM) (csLast T) ss:=by
 rintro a vs σ F H Q hs ⟨v,rfl,hv⟩ q;exact h a v σ F H _ hs hv λus hu=>q us hu
theorem zd1_ (i:Nat){g:TGs}{C:Cs γ}{ss:γ->List (Nat×Sl)}(h:TgC K g C ss):TgC K (gConsM (gName i) g) (csCons T C) λc=>(i,.fz T c.1)::ss c.2:=by
 rintro a vs σ F H Q hs ⟨v,us,rfl,hv,hc⟩ q;exact h a.2 us _ F H _ hs hc λws hw=>q ((i,some v)::ws) (.cons hv hw)
theorem zi9_ {n:Nat}{g:TGs}{C:Cs γ}{ss:γ->List (Nat×Sl)}(hn:CsN C n)(h:TgC K g C ss):TgR K (gTupM K n g) (tyTup C) ss:=by
 rintro a v σ F H Q hs ⟨p,us,rfl,hp,hc⟩ q;exact⟨us,.of (hs _ _ hp),hn hc,h a us σ F H Q hs hc q⟩
theorem zjX_ {σ:St}{i j:Nat}{o:Option V}(h:i<σ.length):((σ.set i o)[j]?).join=if i=j then o else(σ[j]?).join:=by
 grind
theorem zlC_ {σ:St}{i:Nat}{s:Sl}{o:Option V}(hl:L.length=σ.length)(h:HoldF L σ F)(hs:s.Z o F):HoldF (L.set i s) (σ.set i o) F:=by
 intro j t e;rw[List.getElem?_set]at e;split at e
 ·grind
 ·rename_i z
  by_cases y:i<σ.length
  ·rw[zjX_ y,if_neg z];exact h j t e
  ·rw[tu (by lia)];exact h j t e
theorem ziM_ {ss:List (Nat×Sl)}{vs:List (Nat×Option V)}(p:Plain F ss vs):∀{L:List Sl}{σ:St},L.length=σ.length->HoldF L σ F->HoldF (setL L ss) (setS σ vs) F/\(setS σ vs).length=σ.length/\(setL L ss).length=L.length:=by
 induction p with
 |nil=>exact λhl h=>⟨h,rfl,rfl⟩
 |cons hv t ih=>
  rename_i T a i v ss vs
  intro L σ hl h;obtain⟨a1,b,c⟩:=ih (L:=L.set i (.fz T a)) (σ:=σ.set i (some v)) (by rw[tK,tK];exact hl) (zlC_ (s:=.fz T a) hl h ⟨v,rfl,hv⟩)
  exact⟨a1,b.trans (by rw[tK]),c.trans (by rw[tK])⟩
def DeadAt (L:List Sl)(is:List Nat):Prop:=∀i∈is,∀s,L[i]?=some s->s=.dead
theorem zjR_ {ss:List (Nat×Sl)}{vs:List (Nat×Option V)}(p:Plain F ss vs):∀{L:List Sl}{σ:St},L.length=σ.length->DeadAt L (ss.map (·.1))->HoldF L σ F->HoldF L (setS σ vs) F:=by
 induction p with
 |nil=>exact λhl d h=>h
 |cons hv t ih=>
  rename_i i v ss vs
  intro L σ hl d h;refine ih (σ:=σ.set i (some v)) (by rw[tK];exact hl) (λj hj=>d j (qa _ hj)) λj s e=>?_
  by_cases y:i<σ.length
  ·rw[zjX_ y]
   split
   ·rename_i z;subst z
    rw[d i nu s e];trivial
   ·exact h j s e
  ·rw[tu (by lia)];exact h j s e
theorem zoc_ {ss:List (Nat×Sl)}{vs:List (Nat×Option V)}(p:Plain F ss vs){j:Nat}:∀{σ:St},j∉ss.map (·.1)->(setS σ vs)[j]?=σ[j]?:=by
 induction p with
 |nil=>exact λ_=>rfl
 |cons hv t ih=>
  rename_i i v ss vs
  intro σ hj;have h1:i≠j:=λz=>hj (by rw[<- z];exact nu)
  have h2:=ih (σ:=σ.set i (some v)) λz=>hj (qa _ z)
  exact h2.trans (sV h1)
structure Yl (K:Fgg)(J:It)(xs:List α)(T:Ty α)(F1:Hp):Prop where
 go:∀i H x,Same F1 H->xs[i]?=some x->J.go i H/\∀v H',J.yld i H v H'->∀F,Same F1 F->Same F H->∃F',Ext F H F' H'/\T.R x v F'
 stop:∀H,Same F1 H->J.stop xs.length H
def EvI (K:Fgg)(wi:TI)(E:XK)(L:List Sl)(r:Mo (List α))(T:Ty α):Prop:=
 ∀σ F H (R:It->Hp->Prop),HoldF L σ F->Same F H->After K r E F H (λxs F' H'=>∀J,Yl K J xs T F'->R J H')->wi σ H R
theorem zqc_ {r:Mo (List Nat)}(h:EvF K e E L r tyStr):EvI K (iAny K e) E L (r.bind λl=>.ok (l.map λc=>[c])) tyStr:=by
 intro σ F H R hL hs q;refine h σ F H _ hL hs (q.bind.imp λl F1 H1 x1 k1 v hv=>?_)
 cases hv;refine k1.ok x1.2.1 _ ⟨λi H x hH hx=>?_,λH hH=>?_⟩
 ·rw[qU]at hx
  cases e:l[i]? with
  |none=>rw[e]at hx;cases hx
  |some c=>
   rw[e]at hx;cases hx;have hi:=(qi.mp e).1;refine⟨hi,?_⟩;rintro v H' ⟨rfl,rfl⟩ F _ hF;refine⟨F,.refl hF,?_⟩;show tx [l.getD i 0]=tx [c]
   rw[ql,e];rfl
 ·show l.length<=(l.map λc=>[c]).length
  rw[l6];exact nG _
theorem ei_l {r:Mo (List α)}(h:EvF K e E L r (tyL T)):EvI K (iAny K e) E L r T:=by
 intro σ F H R hL hs q;refine h σ F H _ hL hs (q.imp λl F1 H1 x1 k1 v hv=>?_)
 obtain⟨p,vs,rfl,hp,hr⟩:=hv;refine .inl ⟨⟨vs,.of (x1.2.1 _ _ hp)⟩,k1 _ ⟨λi H x hH hx=>?_,λH hH=>⟨vs,.of (hH _ _ hp),by rw[hr.len];exact nG _⟩⟩⟩
 rcases hr.get i with⟨a,_⟩|⟨y,u,a,b,c⟩
 ·rw[a]at hx;cases hx
 ·rw[a]at hx;cases hx
  refine⟨⟨vs,u,.of (hH _ _ hp),b⟩,?_⟩;rintro v H' ⟨rfl,z⟩ F hF fE;have e:=z vs (.of (hH _ _ hp));rw[b]at e;cases e;exact⟨F,.refl fE,T.mono hF c⟩
def rngI (lo:Int)(n:Nat):List Int:=(qG n).map λ(i:Nat)=>lo+i
theorem zrt_ {lo:Int}{n:Nat}{F1:Hp}:Yl K (Itr lo n) (rngI lo n) tyInt F1:=by
 refine⟨λi H x hH hx=>?_,λH hH=>?_⟩
 ·unfold rngI at hx
  rw[qU]at hx;cases e:(qG n)[i]? with
  |none=>rw[e]at hx;cases hx
  |some c=>
   rw[e]at hx;cases hx;obtain⟨hi,e⟩:=qi.mp e;rw[um]at e;subst e;rw[qY]at hi;refine⟨hi,?_⟩;rintro v H' ⟨rfl,rfl⟩ F _ hF;exact⟨F,.refl hF,rfl⟩
 ·show n<=_
  unfold rngI;rw[l6,qY];exact nG _
theorem zm7_ {r:Mo Int}{ta:TA}(h:EvA K ta E L r (csLast tyInt)):EvI K (mRng1 ta) E L (r.bind λj=>.grd (-(2 ^ 62)<=j/\j<2 ^ 62) (.ok (rngI 0 j.toNat))) tyInt:=by
 intro σ F H R hL hs q;refine h σ F H _ hL hs (q.bind.imp λl F1 H1 x1 k1 v hv=>?_)
 obtain⟨u,rfl,rfl⟩:=hv;obtain⟨z,k1⟩:=k1.grd;exact⟨z.1,z.2,k1.ok x1.2.1 _ zrt_⟩
theorem zqi_ {r:Mo (Int×Int)}{ta:TA}(h:EvA K ta E L r (csCons tyInt (csLast tyInt))):EvI K (mRng2 ta) E L (r.bind λc=>.grd (-(2 ^ 62)<=c.1/\c.1<2 ^ 62 /\ -(2 ^ 62)<=c.2/\c.2<2 ^ 62) (.ok (rngI c.1 (c.2-c.1).toNat))) tyInt:=by
 intro σ F H R hL hs q;refine h σ F H _ hL hs (q.bind.imp λl F1 H1 x1 k1 v hv=>?_)
 obtain⟨u,us,rfl,rfl,w,rfl,rfl⟩:=hv;obtain⟨z,k1⟩:=k1.grd;exact⟨z,k1.ok x1.2.1 _ zrt_⟩
def enumL (xs:List α):List (Int×α):=(qG xs.length).zip xs |>.map λq=>((q.1:Int),q.2)
theorem zbM_ (xs:List α)(i:Nat):(enumL xs)[i]?=(xs[i]?).map λx=>((i:Int),x):=by
 unfold enumL;grind
theorem zbL_ (xs:List α):(enumL xs).length=xs.length:=by unfold enumL;rw[l6,sS,qY,yq]
def compM (f:α->Mo (Option β)):List α->List β->Mo (List β)
 |[],acc=>.ok acc
 |x::xs,acc=>(f x).bind λo=>match o with |none=>compM f xs acc |some y=>.lim (acc.length+1) (compM f xs (acc++[y]))
theorem zM_ {f:α->Mo (Option β)}{g:α->β}:∀{xs:List α}{acc:List β},(∀x∈xs,f x=.ok (some (g x)))->acc.length+xs.length<=100000->compM f xs acc=.ok (acc++xs.map g)
 |[],acc,_,_=>by unfold compM;rw[uZ,qC]
 |x::xs,acc,h,hl=>by
  rw[qh]at hl;unfold compM;rw[h x nu,Mo.ok_bind];show Mo.lim _ _=_
  rw[Mo.lim_ok (by lia),zM_ (λy hy=>h y (qa _ hy)) (by rw[nA,qE];lia)]
  simp
def cL (lv:List Str)(fr:List (Str×Nat))(L:List Sl):List Sl:=lv.map (λ_=>Sl.dead)++fr.map λq=>(L[q.2]?).getD .dead
theorem zk7_ {lv:List Str}{fr:List (Str×Nat)}{σ:St}(h:HoldF L σ F):HoldF (cL lv fr L) (cS lv fr σ) F:=by
 intro i s e;unfold cL at e;unfold cS;by_cases hi:i<lv.length
 ·rw[tV (by rw[l6];exact hi),qU,nj hi]at e
  cases e;trivial
 ·rw[rD (by rw[l6];lia),l6,qU]at e
  rw[rD (by rw[l6];lia),l6,qU]
  cases z:fr[i-lv.length]? with
  |none=>rw[z]at e;cases e
  |some q=>
   rw[z]at e;have e:(L[q.2]?).getD .dead=s:=by simpa using e
   show Sl.Z s (σ[q.2]?).join F
   cases y:L[q.2]? with
   |none=>rw[y]at e;rw[<- e];trivial
   |some t=>rw[y]at e;cases e;exact h _ _ y
theorem zoj_ {lv:List Str}{fr:List (Str×Nat)}{σ:St}:(cL lv fr L).length=(cS lv fr σ).length:=by unfold cL cS;simp
def cond1 (c:Mo Bool)(f:Mo β):Mo (Option β):=(c.bind λb=>if b then f.bind λy=>.ok (some y)else .ok none).noex
theorem zaI_ {lv:List Str}{fr:List (Str×Nat)}{wi:TI}{g:TG}{tt:TT}{te:TE}{r:Mo (List α)}{ss:α->List (Nat×Sl)}{c:α->Mo Bool}{f:α->Mo β}{T':Ty β}
  (hi:EvI K wi E L r T) (hg:TgR K g T ss) (hd:∀a,DeadAt (cL lv fr L) ((ss a).map (·.1))) (ht:∀a,EvT K tt E0 (setL (cL lv fr L) (ss a)) (c a)) (he:∀a,EvF K te E0 (setL (cL lv fr L) (ss a)) (f a) T'):
  EvO K (tComp lv fr wi g tt te) E L (r.bind λxs=>compM (λx=>cond1 (c x) (f x)) xs []) (owL T'):=by
 intro σ F0 H0 Q hL hs q;refine hi σ F0 H0 _ hL hs (q.bind.imp λxs F1 H1 x1 k1 J Y D hD=>?_)
 have ph:=hL.mono x1.1
 refine⟨λi m ys ai H'=>m=xs.length-i/\i<=xs.length/\∃acc Fi,Ext F1 H1 Fi H'/\Fi D=none/\H' D=some (.lst ys)/\Prs T' Fi acc ys/\HoldF (cL lv fr L) ai F1/\ai.length=(cL lv fr L).length/\After K (compM (λx=>cond1 (c x) (f x)) (xs.drop i) acc) E F1 H1 (OwnK (owL T') H0 Q),
  ⟨_,rfl,rB _,[],F1,.heap x1.2.1 (zbY_ hD _),x1.2.1.free hD,zq_,.nil,zk7_ ph,zoj_.symm,k1⟩,?_⟩
 rintro i m ys ai H' ⟨rfl,hi,acc,Fi,xi,hDi,hy,hp,hσ,fA,A⟩;by_cases aD:i<xs.length
 ·right
  have ex:xs[i]?=some xs[i]:=nj aD;obtain⟨g1,g2⟩:=Y.go i H' xs[i] (xi.1.trans xi.2.1) ex;refine⟨g1,λfM d9 lx=>i+1<=xs.length/\∃acc Fi,Ext F1 H1 Fi lx/\Fi D=none/\lx D=some (.lst fM)/\Prs T' Fi acc fM/\HoldF (cL lv fr L) d9 F1/\d9.length=(cL lv fr L).length/\After K (compM (λx=>cond1 (c x) (f x)) (xs.drop (i+1)) acc) E F1 H1 (OwnK (owL T') H0 Q),λfM d9 lx z=>⟨xs.length-(i+1),by omega,rfl,z⟩,λv H2 oi=>?_⟩
  obtain⟨F2,x2,hv⟩:=g2 v H2 oi Fi xi.1 xi.2.1;have keep:∀{Fa Ha Fb Hb:Hp},Ext Fa Ha Fb Hb->Fa D=none->Ha D=some (.lst ys)->Fb D=none/\Hb D=some (.lst ys):=by
   intro Fa Ha Fb Hb x h1 h2;refine⟨?_,x.2.2.1 _ _ h2⟩;cases z:Fb D with
   |none=>rfl
   |some o=>have:=x.2.2.2 D h1 (by rw[z];exact sN _);rw[h2]at this;cases this
  obtain⟨pA,hy2⟩:=keep x2 hDi hy;refine hg xs[i] v ai F2 H2 _ x2.2.1 hv λvs ax=>?_
  have gz:HoldF (cL lv fr L) ai F2:=hσ.mono (xi.1.trans x2.1);obtain⟨a1,a2,a3⟩:=ziM_ ax fA.symm gz;have gy:HoldF (cL lv fr L) (setS ai vs) F1:=by
   have d7:=hd xs[i];refine λj s e=>?_
   have h1:=zjR_ ax fA.symm d7 gz;by_cases hj:∃q∈(ss xs[i]).map (·.1),q=j
   ·obtain⟨q,hq,rfl⟩:=hj
    rw[d7 q hq s e];trivial
   ·have:((setS ai vs)[j]?)=ai[j]?:=by
     exact zoc_ ax (λhq=>hj ⟨j,hq,rfl⟩)
    rw[this];exact hσ j s e
  have gT:xs.drop i=xs[i]::xs.drop (i+1):=tW aD;rw[gT]at A;unfold compM at A;cases ec:c xs[i]with
  |no=>unfold cond1 at A;rw[ec]at A;exact A.elim
  |ex cc=>unfold cond1 at A;rw[ec]at A;exact A.elim
  |ok bb=>
   refine ht xs[i] _ F2 H2 _ a1 x2.2.1 ?_;rw[ec];intro F3 H3 x3;obtain⟨mE,hy3⟩:=keep x3 pA hy2;have lD:=(xi.trans x2).trans x3;cases bb with
   |false=>
    rw[if_neg (by decide)]
    refine⟨aD,acc,F3,lD,mE,hy3,hp.mono (x2.1.trans x3.1),gy,by rw[a2];exact fA,?_⟩
    unfold cond1 at A;rw[ec]at A;exact A
   |true=>
    rw[if_pos rfl];cases ef:f xs[i]with
    |no=>unfold cond1 at A;rw[ec,ef]at A;exact A.elim
    |ex cc=>unfold cond1 at A;rw[ec,ef]at A;exact A.elim
    |ok y=>
     unfold cond1 at A;rw[ec,ef]at A;have A':After K (Mo.lim (acc.length+1) (compM (λx=>cond1 (c x) (f x)) (xs.drop (i+1)) (acc++[y]))) E F1 H1 (OwnK (owL T') H0 Q):=A
     obtain⟨hz,A'⟩:=A'.lim;refine he xs[i] _ F3 H3 _ (a1.mono x3.1) x3.2.1 ?_;rw[ef];intro F4 H4 x4 v4 dR;obtain⟨mD,hy4⟩:=keep x4 mE hy3;have hlen:=hp.len;refine⟨hy4,by omega,aD,acc++[y],F4,?_,mD,zq_,(hp.mono ((x2.1.trans x3.1).trans x4.1)).append (.cons dR .nil),gy,by rw[a2];exact fA,A'⟩
     have hW:=lD.trans x4;refine⟨hW.1,λb o z=>?_,λb o z=>?_,hW.2.2.2⟩
     ·unfold upd;split
      ·rename_i w;rw[w,mD]at z;cases z
      ·exact hW.2.1 _ _ z
     ·unfold upd;split
      ·rename_i w;rw[w,hD]at z;cases z
      ·exact hW.2.2.1 _ _ z
 ·left
  have e:i=xs.length:=by omega
  subst e;refine⟨Y.stop H' (xi.1.trans xi.2.1),?_⟩;rw[uG]at A;have A':OwnK (owL T') H0 Q acc Fi H':=A Fi H' xi;exact zmJ_ (x1.2.2.1.free hD) hy hDi hp A'
end
inductive Out (ρ B S:Type) where
 |nx (s:S)|rt (r:ρ)|bk (b:B)|ct (b:B)
def Okk (F0 H0 F h H:Hp):Prop:=Ext F0 H0 F H/\Dj F h/\Same h H/\(∀p,h p≠none->H0 p=none)/\∀p xs,h p≠some (.tup xs)
section
variable {K:Fgg}{E:XK}{α γ ρ S S' B:Type}{F0 H0 F h H:Hp}{L:List Sl}{e e1 e2:TE}{T:Ty α}{r:Mo α}{O:Own ρ}
def Fin (K:Fgg)(r:Mo (Out ρ B S))(E:XK)(LS:S->List Sl)(LB:B->List Sl)(O:Own ρ)(F0 H0:Hp)(D:Ends):Prop:=match r with
 |.ok (.nx s)=>∀σ F h H,Hold (LS s) σ F h->Okk F0 H0 F h H->D.nx σ H
 |.ok (.bk b)=>∀σ F h H,Hold (LB b) σ F h->Okk F0 H0 F h H->D.bk σ H
 |.ok (.ct b)=>∀σ F h H,Hold (LB b) σ F h->Okk F0 H0 F h H->D.ct σ H
 |.ok (.rt a)=>∀v F h H,Okk F0 H0 F h H->O.O a v F h->D.rt v H
 |.ex c=>∀F h H,Okk F0 H0 F h H->Tell K E c H0 F H
 |.no=>False
def EvS (K:Fgg)(t:TS)(E:XK)(L:List Sl)(r:Mo (Out ρ B S))(LS:S->List Sl)(LB:B->List Sl)(O:Own ρ):Prop:=
 ∀F0 H0 σ F h H (D:Ends),Hold L σ F h->Okk F0 H0 F h H->Fin K r E LS LB O F0 H0 D->t D σ H
variable {t u:TS}{LS:S->List Sl}{m3:S'->List Sl}{LB:B->List Sl}
def thenO (r:Mo (Out ρ B S))(k:S->Mo (Out ρ B S')):Mo (Out ρ B S'):=r.bind λo=>match o with |.nx s=>k s |.rt a=>.ok (.rt a)|.bk b=>.ok (.bk b)|.ct b=>.ok (.ct b)
theorem zoz_ {r:Mo (Out ρ B S)}{k:S->Mo (Out ρ B S')}(h1:EvS K t E L r LS LB O)(h2:∀s,EvS K u E (LS s) (k s) m3 LB O):EvS K (tSeq t u) E L (thenO r k) m3 LB O:=by
 intro F0 H0 σ F h H D hL ok fin;refine h1 F0 H0 σ F h H {D with nx:=u D} hL ok ?_;cases r with
 |no=>exact fin
 |ex c=>exact fin
 |ok o=>
  cases o with
  |nx s=>exact λσ F h H hL ok=>h2 s F0 H0 σ F h H D hL ok fin
  |rt a=>exact fin
  |bk b=>exact fin
  |ct b=>exact fin
theorem Okk.thaw (ok:Okk F0 H0 F h H):Same (un F h) H:=λp o e=>by
 unfold un at e;cases z:F p with
 |some w=>rw[z]at e;cases e;exact ok.1.2.1 _ _ z
 |none=>rw[z]at e;exact ok.2.2.1 _ _ e
def less (G h:Hp):Hp:=λp=>match h p with |none=>G p |some _=>none
theorem zbb_ {G h:Hp}{p:nc}(e:h p=none):less G h p=G p:=by unfold less;rw[e]
theorem Okk.back (ok:Okk F0 H0 F h H){G' H':Hp}(x:Ext (un F h) H G' H'):Okk F0 H0 (less G' h) h H'/\Same F (less G' h)/\Tups G' (less G' h):=by
 obtain⟨o1,o2,o3,o4,o5⟩:=ok;have hs:Same F (less G' h):=λp o e=>by
  have hp:h p=none:=by
   rcases o2 p with z |z
   ·rw[z]at e;cases e
   ·exact z
  rw[zbb_ hp];exact x.1 _ _ (zdc_ _ _ e)
 refine⟨⟨⟨o1.1.trans hs,λp o e=>?_,o1.2.2.1.trans x.2.2.1,λp a b=>?_⟩,λp=>?_,λp o e=>?_,o4,o5⟩,hs,λp xs e=>?_⟩
 ·unfold less at e
  split at e
  ·exact x.2.1 _ _ e
  ·cases e
 ·unfold less at b
  split at b
  ·rename_i z
   cases y:un F h p with
   |none=>exact o1.2.2.1.free (x.2.2.2 p y b)
   |some o=>
    unfold un at y;cases w:F p with
    |some _=>exact o1.2.2.2 p a (by rw[w];exact sN _)
    |none=>rw[w,z]at y;cases y
  ·exact absurd rfl b
 ·unfold less
  cases z:h p with
  |none=>exact .inr rfl
  |some o=>exact .inl rfl
 ·exact x.2.1 _ _ (x.1 _ _ (zgE_ o2 _ _ e))
 ·unfold less
  cases z:h p with
  |none=>exact e
  |some o=>
   have:=x.1 _ _ (zgE_ o2 _ _ z);rw[e]at this;cases this;exact absurd z (o5 p xs)
theorem Tell.back {x:Xc}(ok:Okk F0 H0 F h H){G' H':Hp}(y:Ext (un F h) H G' H')(t:Tell K E x H0 (less G' h) H'):Tell K E x H G' H':=by
 cases x with
 |pl c=>exact t
 |«at» c as=>
  refine λdx fs e q r=>t dx fs (ok.1.2.2.1.free e) ?_ (r.imm (ok.back y).2.2)
  rw[zbb_ (ok.2.2.1.free e)];exact q
theorem zaw_ {r:Mo α}{k:α->Mo (Out ρ B S)}{G:Hp}{D:Ends}{kk:α->Hp->Hp->Prop}(ok:Okk F0 H0 F h H)(G1:Hp)(hG:G1=un F h\/G1=F)(fin:Fin K (r.bind k) E LS LB O F0 H0 D)
  (hk:∀a F' H',r=.ok a->Ext G1 H F' H'->kk a F' H'):After K r E G1 H kk:=by
 cases r with
 |ok a=>exact λF' H' x=>hk a F' H' rfl x
 |no=>exact fin
 |ex c=>
  intro F' H' x;rcases hG with rfl |rfl
  ·exact(fin _ _ _ (ok.back x).1).back ok x
  ·refine Tell.up ok.1.2.2.1 (fin F' h H' ⟨ok.1.trans x,λp=>?_,ok.2.2.1.trans x.2.2.1,ok.2.2.2.1,ok.2.2.2.2⟩)
   cases z:h p with
   |none=>exact .inr rfl
   |some o=>
    left;rcases ok.2.1 p with y |y
    ·cases w:F' p with
     |none=>rfl
     |some o'=>have:=x.2.2.2 p y (by rw[w];exact sN _);rw[ok.2.2.1 _ _ z]at this;cases this
    ·rw[y]at z;cases z
theorem Okk.cold (ok:Okk F0 H0 F h H){F' H':Hp}(x:Ext F H F' H'):Okk F0 H0 F' h H':=by
 refine⟨ok.1.trans x,λp=>?_,ok.2.2.1.trans x.2.2.1,ok.2.2.2.1,ok.2.2.2.2⟩
 cases z:h p with
 |none=>exact .inr rfl
 |some o=>
  left;rcases ok.2.1 p with y |y
  ·cases w:F' p with
   |none=>rfl
   |some o'=>have:=x.2.2.2 p y (by rw[w];exact sN _);rw[ok.2.2.1 _ _ z]at this;cases this
  ·rw[y]at z;cases z
theorem zdj_ {i:Nat}{s:Sl}{σ:St}{a:α}{v:V}(hi:L[i]?=some s)(hL:Hold L σ F h)(hv:T.R a v F):Hold (L.set i (.fz T a)) (σ.set i (some v)) F h:=by
 obtain⟨o,h1,h2,_,j,_,f⟩:=hL.at i hi;exact f (.fz T a) (some v) h1 h j ⟨v,rfl,hv⟩
theorem zfX_ {i:Nat}{s:Sl}{σ:St}{a:α}{v:V}{O1:Own α}{hn:Hp}(ok:Okk F0 H0 F h H)(hi:L[i]?=some s)(hL:Hold L σ F h)(fresh:∀p,hn p≠none->H0 p=none)(dj:Dj F hn)(dh:Dj hn h)(hs:Same hn H)(hv:O1.O a v F hn):
  ∃h',Hold (L.set i (.ow O1 a)) (σ.set i (some v)) F h'/\Okk F0 H0 F h' H:=by
 obtain⟨o,h1,h2,_,j,_,f⟩:=hL.at i hi;have d2:Dj hn h2:=λp=>by
  rcases dh p with z |z
  ·exact .inl z
  ·exact .inr (j.r.free z)
 refine⟨un hn h2,f (.ow O1 a) (some v) hn _ (zjt_ d2) ⟨v,rfl,hv⟩,ok.1,λp=>?_,λp o e=>?_,λp e=>?_,λp xs e=>?_⟩
 ·unfold un
  cases z:hn p with
  |some w=>
   rcases dj p with y |y
   ·exact .inl y
   ·rw[y]at z;cases z
  |none=>
   rcases ok.2.1 p with y |y
   ·exact .inl y
   ·exact .inr (j.r.free y)
 ·unfold un at e
  cases z:hn p with
  |some w=>rw[z]at e;cases e;exact hs _ _ z
  |none=>rw[z]at e;exact ok.2.2.1 _ _ (j.r _ _ e)
 ·unfold un at e
  cases z:hn p with
  |some w=>exact fresh p (by rw[z];exact sN _)
  |none=>
   rw[z]at e;cases y:h2 p with
   |none=>exact absurd y e
   |some w=>exact ok.2.2.2.1 p (by rw[j.r _ _ y];exact sN _)
 ·unfold un at e
  cases z:hn p with
  |some w=>rw[z]at e;cases e;exact O1.notup hv p xs z
  |none=>rw[z]at e;exact ok.2.2.2.2 p xs (j.r _ _ e)
theorem zaQ_ {i:Nat}{s:Sl}{k:α->Mo (Out ρ B S)}(hi:L[i]?=some s)(hT:Imm T)(he:EvF K e E L r T)(hk:∀a,EvS K u E (L.set i (.fz T a)) (k a) LS LB O):EvS K (tSeq (tAsg e (gName i)) u) E L (r.bind k) LS LB O:=by
 intro F0 H0 σ F h H D hL ok fin;refine he σ (un F h) H _ (hL.froz ok.2.1) ok.thaw (zaw_ (G:=F) ok _ (.inl rfl) fin λa F' H' hr x v hv=>?_)
 obtain⟨o,hs,ht⟩:=ok.back x;rw[hr]at fin;exact hk a F0 H0 _ _ h H' D (zdj_ hi (hL.mono hs) (hT ht hv)) o fin
theorem zsU_ {i:Nat}{s:Sl}{k:α->Mo (Out ρ B S)}(hi:L[i]?=some s)(he:EvF K e E (L.map Sl.cold) r T)(hk:∀a,EvS K u E (L.set i (.fz T a)) (k a) LS LB O):EvS K (tSeq (tAsg e (gName i)) u) E L (r.bind k) LS LB O:=by
 intro F0 H0 σ F h H D hL ok fin;refine he σ F H _ hL.coldF ok.1.2.1 (zaw_ (G:=F) ok _ (.inr rfl) fin λa F' H' hr x v hv=>?_)
 rw[hr]at fin;exact hk a F0 H0 _ _ h H' D (zdj_ hi (hL.mono x.1) hv) (ok.cold x) fin
theorem zoo_ {hn h:Hp}(hh:Same h H)(fresh:∀p,hn p≠none->H p=none):Dj hn h:=λp=>by
 cases z:hn p with
 |none=>exact .inl rfl
 |some w=>
  have:=fresh p (by rw[z];exact sN _)
  exact .inr (hh.free this)
theorem zaN_ {i:Nat}{s:Sl}{O1:Own α}{k:α->Mo (Out ρ B S)}(hi:L[i]?=some s)(hO:ImmO O1)(he:EvO K e E L r O1)(hk:∀a,EvS K u E (L.set i (.ow O1 a)) (k a) LS LB O):EvS K (tSeq (tAsg e (gName i)) u) E L (r.bind k) LS LB O:=by
 intro F0 H0 σ F h H D hL ok fin;refine he σ (un F h) H _ (hL.froz ok.2.1) ok.thaw (zaw_ (G:=F) ok _ (.inl rfl) fin λa F' H' hr x v hn fresh dj cI hv=>?_)
 obtain⟨o,hs,ht⟩:=ok.back x;rw[hr]at fin;have kS:Dj (less F' h) hn:=λp=>by
  unfold less;cases z:h p with
  |none=>exact dj p
  |some w=>exact .inl rfl
 obtain⟨h',a1,a2⟩:=zfX_ o hi (hL.mono hs) (λp z=>ok.1.2.2.1.free (fresh p z)) kS (zoo_ ok.2.2.1 fresh) cI (hO ht hv)
 exact hk a F0 H0 _ _ h' H' D a1 a2 fin
theorem zhh_ {i:Nat}{s:Sl}{O1:Own α}{k:α->Mo (Out ρ B S)}(hi:L[i]?=some s)(he:EvO K e E (L.map Sl.cold) r O1)(hk:∀a,EvS K u E (L.set i (.ow O1 a)) (k a) LS LB O):EvS K (tSeq (tAsg e (gName i)) u) E L (r.bind k) LS LB O:=by
 intro F0 H0 σ F h H D hL ok fin;refine he σ F H _ hL.coldF ok.1.2.1 (zaw_ (G:=F) ok _ (.inr rfl) fin λa F' H' hr x v hn fresh dj cI hv=>?_)
 rw[hr]at fin;obtain⟨h',a1,a2⟩:=zfX_ (ok.cold x) hi (hL.mono x.1) (λp z=>ok.1.2.2.1.free (fresh p z)) dj (zoo_ ok.2.2.1 fresh) cI hv
 exact hk a F0 H0 _ _ h' H' D a1 a2 fin
theorem zch_ {α:Type}{l:List α}{i:Nat}{o:α}(h:l[i]?=some o):l.set i o=l:=by
 obtain⟨hi,e⟩:=qi.mp h;rw[<- e];exact List.set_getElem_self hi
theorem zee_ {i:Nat}{O1:Own α}{a:α}{r:Mo (Out ρ B S)}(hi:L[i]?=some (.ow O1 a))(hk:EvS K u E (L.set i (.fz O1.fr a)) r LS LB O):EvS K u E L r LS LB O:=by
 intro F0 H0 σ F h H D hL ok fin;obtain⟨o,h1,h2,e1,j,⟨v,e2,hv⟩,f⟩:=hL.at i hi;obtain⟨o1,o2,o3,o4,o5⟩:=ok;have pH:Dj F h1:=λp=>by
  rcases o2 p with z |z
  ·exact .inl z
  ·exact .inr (j.l.free z)
 have pG:Dj F h2:=λp=>by
  rcases o2 p with z |z
  ·exact .inl z
  ·exact .inr (j.r.free z)
 have g1:Hold (L.set i (.dead)) σ F h2:=by
  have:=f .dead o (λ_=>none) h2 (λp=>.inl ⟨rfl,rfl⟩) trivial
  rwa[zch_ e1]at this
 have g2:Hold (L.set i (.fz O1.fr a)) σ (un F h1) h2:=by
  have g3:=g1.mono (zdc_ (h:=h1));have bT:(L.set i Sl.dead)[i]?=some .dead:=by
   rw[sy];exact(qi.mp hi).1
  have:=zdj_ (T:=O1.fr) bT g3 (O1.frz pH hv);rw[List.set_set]at this;subst e2;rwa[zch_ e1]at this
 refine hk F0 H0 σ _ h2 H D g2 ⟨⟨o1.1.trans zdc_,λp o e=>?_,o1.2.2.1,λp a b=>?_⟩,λp=>?_,j.r.trans o3,λp z=>?_,λp xs e=>o5 p xs (j.r _ _ e)⟩ fin
 ·unfold un at e
  cases z:F p with
  |some w=>rw[z]at e;cases e;exact o1.2.1 _ _ z
  |none=>rw[z]at e;exact o3 _ _ (j.l _ _ e)
 ·unfold un at b
  cases z:F p with
  |some w=>exact o1.2.2.2 p a (by rw[z];exact sN _)
  |none=>
   rw[z]at b;cases y:h1 p with
   |none=>exact absurd y b
   |some w=>exact o4 p (by rw[j.l _ _ y];exact sN _)
 ·unfold un
  cases z:F p with
  |some w=>
   rcases pG p with y |y
   ·rw[y]at z;cases z
   ·exact .inr y
  |none=>exact j.dj p
 ·cases y:h2 p with
  |none=>exact absurd y z
  |some w=>exact o4 p (by rw[j.r _ _ y];exact sN _)
theorem za4_ {r:Mo ρ}(hO:ImmO O)(he:EvO K e E L r O):EvS K (tRet e) E L (r.bind λa=>.ok (.rt a)) LS LB O:=by
 intro F0 H0 σ F h H D hL ok fin;refine he σ (un F h) H _ (hL.froz ok.2.1) ok.thaw (zaw_ (G:=F) ok _ (.inl rfl) fin λa F' H' hr x v hn fresh dj cI hv=>?_)
 obtain⟨o,hs,ht⟩:=ok.back x;rw[hr]at fin;refine fin v _ hn H' ⟨o.1,λp=>?_,cI,λp z=>ok.1.2.2.1.free (fresh p z),O.notup hv⟩ (hO ht hv)
 unfold less;cases z:h p with
 |none=>exact dj p
 |some w=>exact .inl rfl
theorem zpw_ {r:Mo ρ}(he:EvO K e E (L.map Sl.cold) r O):EvS K (tRet e) E L (r.bind λa=>.ok (.rt a)) LS LB O:=by
 intro F0 H0 σ F h H D hL ok fin;refine he σ F H _ hL.coldF ok.1.2.1 (zaw_ (G:=F) ok _ (.inr rfl) fin λa F' H' hr x v hn fresh dj cI hv=>?_)
 rw[hr]at fin;exact fin v _ hn H' ⟨ok.1.trans x,dj,cI,λp z=>ok.1.2.2.1.free (fresh p z),O.notup hv⟩ hv
theorem zjw_ {i:Nat}{a:ρ}(hi:L[i]?=some (.ow O a)):EvS K (tRet (mVar i)) E L (.ok (.rt a)) LS LB O:=by
 intro F0 H0 σ F h H D hL ok fin;obtain⟨o,h1,h2,e1,j,⟨v,e2,hv⟩,f⟩:=hL.at i hi;subst e2;show mVar i σ H D.rt
 unfold mVar;rw[e1];obtain⟨o1,o2,o3,o4,o5⟩:=ok;refine fin v F h1 H ⟨o1,λp=>?_,j.l.trans o3,λp z=>?_,O.notup hv⟩ hv
 ·rcases o2 p with z |z
  ·exact .inl z
  ·exact .inr (j.l.free z)
 ·cases y:h1 p with
  |none=>exact absurd y z
  |some w=>exact o4 p (by rw[j.l _ _ y];exact sN _)
theorem s_if {c:TT}{b:Mo Bool}{r1 r2:Mo (Out ρ B S)}(hc:EvT K c E L b)(h1:EvS K t E L r1 LS LB O)(h2:EvS K u E L r2 LS LB O):EvS K (mIfS c t u) E L (b.bind λc=>if c then r1 else r2) LS LB O:=by
 intro F0 H0 σ F h H D hL ok fin;refine hc σ (un F h) H _ (hL.froz ok.2.1) ok.thaw (zaw_ (G:=F) ok _ (.inl rfl) fin λa F' H' hr x=>?_)
 obtain⟨o,hs,ht⟩:=ok.back x;rw[hr]at fin;have dN:Fin K (if a then r1 else r2) E LS LB O F0 H0 D:=fin
 refine⟨λz=>?_,λz=>?_⟩
 ·rw[if_pos z]at dN;exact h1 F0 H0 σ _ h H' D (hL.mono hs) o dN
 ·rw[if_neg (by rw[z];decide)]at dN;exact h2 F0 H0 σ _ h H' D (hL.mono hs) o dN
inductive Sub:List Sl->List Sl->Prop
 |nil:Sub [] []
 |same {s:Sl}{L L':List Sl}(h:Sub L L'):Sub (s::L) (s::L')
 |dead {s:Sl}{L L':List Sl}(h:Sub L L'):Sub (s::L) (.dead::L')
theorem Sub.hold {L L':List Sl}(w:Sub L L'):∀{σ:St}{F h:Hp},Hold L σ F h->Hold L' σ F h:=by
 induction w with
 |nil=>exact λh=>h
 |same _ ih=>
  intro σ F h q;cases σ with
  |nil=>exact q.elim
  |cons o σ=>obtain⟨h1,h2,j,p,r⟩:=q;exact⟨h1,h2,j,p,ih r⟩
 |dead _ ih=>
  intro σ F h q;cases σ with
  |nil=>exact q.elim
  |cons o σ=>obtain⟨h1,h2,j,p,r⟩:=q;exact⟨h1,h2,j,trivial,ih r⟩
theorem zi_ {s:S}(w:Sub L (LS s)):EvS K tNext E L (.ok (.nx s)) LS LB O:=λF0 H0 σ F h H D hL ok fin=>fin σ F h H (w.hold hL) ok
theorem zrd_ {b:B}(w:Sub L (LB b)):EvS K tCont E L (.ok (.ct b)) LS LB O:=λF0 H0 σ F h H D hL ok fin=>fin σ F h H (w.hold hL) ok
theorem zbo_ {r:Mo (Out ρ B S)}(h:EvS K (tSeq t tNext) E L r LS LB O):EvS K t E L r LS LB O:=h
def forO (step:S->α->Mo (Out ρ S S)):List α->S->Mo (Out ρ B S)
 |[],s=>.ok (.nx s)
 |x::xs,s=>(step s x).bind λo=>match o with |.nx s'=>forO step xs s' |.ct s'=>forO step xs s' |.bk s'=>.ok (.nx s')|.rt a=>.ok (.rt a)
theorem zgT_ {ss:List (Nat×Sl)}{vs:List (Nat×Option V)}(p:Plain F ss vs):∀{L:List Sl}{σ:St},Hold L σ F h->Hold (setL L ss) (setS σ vs) F h:=by
 induction p with
 |nil=>exact λh=>h
 |cons hv t ih=>
  rename_i T a i v ss vs
  intro L σ q;refine ih (L:=L.set i (.fz T a)) (σ:=σ.set i (some v)) ?_;by_cases hi:i<L.length
  ·exact zdj_ (nj hi) q hv
  ·rw[tu (by lia),tu (by have:=q.len;lia)];exact q
theorem Okk.rebase {F1 H1:Hp}(x:Ext F0 H0 F1 H1)(ok:Okk F0 H0 F h H)(s:Same F1 F):Okk F1 H0 F h H:=by
 obtain⟨o1,o2,o3,o4,o5⟩:=ok;refine⟨⟨s,o1.2.1,o1.2.2.1,λp a b=>o1.2.2.2 p (x.1.free a) b⟩,o2,o3,o4,o5⟩
theorem Okk.unbase {F1 H1:Hp}(x:Ext F0 H0 F1 H1)(ok:Okk F1 H0 F h H):Okk F0 H0 F h H:=by
 obtain⟨o1,o2,o3,o4,o5⟩:=ok;refine⟨⟨x.1.trans o1.1,o1.2.1,o1.2.2.1,λp a b=>?_⟩,o2,o3,o4,o5⟩
 cases z:F1 p with
 |none=>exact o1.2.2.2 p z b
 |some w=>exact x.2.2.2 p a (by rw[z];exact sN _)
theorem ziN_ {wi:TI}{g:TG}{tb:TS}{s0:S}{r:Mo (List α)}{ss:α->List (Nat×Sl)}{step:S->α->Mo (Out ρ S S)}(hi:EvI K wi E ((LS s0).map Sl.cold) r T)(hg:TgR K g T ss)
  (hb:∀s a,EvS K tb E (setL (LS s) (ss a)) (step s a) LS LS O):EvS K (tFor wi g tb) E (LS s0) (r.bind λxs=>forO step xs s0) LS LB O:=by
 intro F0 H0 σ F h H D hL ok fin;refine hi σ F H _ hL.coldF ok.1.2.1 (zaw_ (G:=F) ok _ (.inr rfl) fin λxs F1 H1 hr x1 J Y=>?_)
 rw[hr]at fin;have xx:=ok.1.trans x1
 refine⟨λi m σ H=>m=xs.length-i/\i<=xs.length/\∃s F h,Hold (LS s) σ F h/\Okk F1 H0 F h H/\Fin K (forO (B:=B) step (xs.drop i) s) E LS LB O F0 H0 D,
  ⟨_,rfl,rB _,s0,F1,h,hL.mono x1.1,(ok.cold x1).rebase xx (Same.refl _),fin⟩,?_⟩
 rintro i m σ H ⟨rfl,hi,s,F,h,hL,ok,fin⟩;have s1:Same F1 H:=ok.1.1.trans ok.1.2.1;by_cases aD:i<xs.length
 ·right
  obtain⟨g1,g2⟩:=Y.go i H xs[i] s1 (nj aD);refine⟨g1,λai H'=>i+1<=xs.length/\∃s F h,Hold (LS s) ai F h/\Okk F1 H0 F h H'/\Fin K (forO (B:=B) step (xs.drop (i+1)) s) E LS LB O F0 H0 D,λai H' z=>⟨xs.length-(i+1),by omega,rfl,z⟩,λv H2 hy=>?_⟩
  obtain⟨F2,x2,hv⟩:=g2 v H2 hy F ok.1.1 ok.1.2.1;refine hg xs[i] v σ F2 H2 _ x2.2.1 hv λvs hp=>?_
  refine hb s xs[i] F1 H0 _ F2 h H2 _ (zgT_ hp (hL.mono x2.1)) (ok.cold x2) ?_;rw[tW aD]at fin;unfold forO at fin;cases e:step s xs[i]with
  |no=>rw[e]at fin;exact fin
  |ex c=>rw[e]at fin;exact λF h H ok=>fin F h H (ok.unbase xx)
  |ok o=>
   rw[e]at fin;cases o with
   |nx s'=>exact λai F' h' H' bh gj=>⟨aD,s',F',h',bh,gj,fin⟩
   |ct s'=>exact λai F' h' H' bh gj=>⟨aD,s',F',h',bh,gj,fin⟩
   |bk s'=>exact λai F' h' H' bh gj=>fin ai F' h' H' bh (gj.unbase xx)
   |rt a=>exact λv F h H ok=>fin v F h H (ok.unbase xx)
 ·left
  have e:i=xs.length:=by omega
  subst e;rw[uG]at fin;exact⟨Y.stop H s1,fin σ F h H hL (ok.unbase xx)⟩
theorem zdv_ {i:Nat}{σ:St}{xs:List α}(hL:Hold L σ F h)(hi:L[i]?=some (.ow (owL T) xs))(ok:Okk F0 H0 F h H):
  ∃p vs,σ[i]?=some (some (.ref p))/\H p=some (.lst vs)/\Prs T F xs vs/\∀bJ bC,Prs T F bJ bC->∃h',Hold (L.set i (.ow (owL T) bJ)) σ F h'/\Okk F0 H0 F h' (upd H p (.lst bC)):=by
 obtain⟨o,h1,h2,e1,j,⟨v,e2,p,vs,rfl,rfl,hr⟩,f⟩:=hL.at i hi;subst e2;obtain⟨o1,o2,o3,o4,o5⟩:=ok;have hp:h p=some (.lst vs):=j.l _ _ zaa_;have ka:h2 p=none:=by
  rcases j.dj p with z |z
  ·rw[zaa_]at z;cases z
  ·exact z
 have Fp:F p=none:=by
  rcases o2 p with z |z
  ·exact z
  ·rw[hp]at z;cases z
 have hJ:H0 p=none:=o4 p (by rw[hp];exact sN _)
 refine⟨p,vs,e1,o3 _ _ hp,hr,λbJ bC aP=>?_⟩
 have d2:Dj (one p (.lst bC)) h2:=λq=>by
  unfold one;split
  ·rename_i z;rw[z];exact .inr ka
  ·exact .inl rfl
 have g:=f (.ow (owL T) bJ) (some (.ref p)) (one p (.lst bC)) _ (zjt_ d2) ⟨_,rfl,p,bC,rfl,rfl,aP⟩;rw[zch_ e1]at g;refine⟨_,g,⟨o1.1,λq o z=>?_,λq o z=>?_,o1.2.2.2⟩,λq=>?_,λq o z=>?_,λq z=>?_,λq ys z=>?_⟩
 ·unfold upd;split
  ·rename_i w;rw[w,Fp]at z;cases z
  ·exact o1.2.1 _ _ z
 ·unfold upd;split
  ·rename_i w;rw[w,hJ]at z;cases z
  ·exact o1.2.2.1 _ _ z
 ·by_cases w:q=p
  ·rw[w];exact .inl Fp
  ·unfold un one;simp only[if_neg w]
   rcases o2 q with z |z
   ·exact .inl z
   ·exact .inr (j.r.free z)
 ·unfold un one at z
  unfold upd;by_cases w:q=p
  ·rw[if_pos w];simp only[if_pos w]at z;exact z
  ·rw[if_neg w];simp only[if_neg w]at z;exact o3 _ _ (j.r _ _ z)
 ·unfold un one at z
  by_cases w:q=p
  ·rw[w];exact hJ
  ·simp only[if_neg w]at z
   cases y:h2 q with
   |none=>exact absurd y z
   |some u=>exact o4 q (by rw[j.r _ _ y];exact sN _)
 ·unfold un one at z
  by_cases w:q=p
  ·simp only[if_pos w]at z;cases z
  ·simp only[if_neg w]at z;exact o5 q ys (j.r _ _ z)
theorem zdY_ {i:Nat}{σ:St}{v:V}{Q:VK}(e:σ[i]?=some (some v))(q:Q v H):mVar i σ H Q:=by unfold mVar;rw[e];exact q
theorem zgU_ {n:Nat}{r:Mo (Out ρ B S)}{D:Ends}(h:Fin K (Mo.lim n r) E LS LB O F0 H0 D):n<=pX/\Fin K r E LS LB O F0 H0 D:=by
 unfold Mo.lim at h;split at h
 ·exact⟨by assumption,h⟩
 ·exact h.elim
theorem zkv_ {x:Option α}{k:α->Mo (Out ρ B S)}{D:Ends}(h:Fin K ((Mo.opt x).bind k) E LS LB O F0 H0 D):∃a,x=some a/\Fin K (k a) E LS LB O F0 H0 D:=by
 cases x with
 |none=>exact h.elim
 |some a=>exact⟨a,rfl,h⟩
theorem zkp_ {i:Nat}{xs:List α}{k:α->Mo (Out ρ B S)}(hi:L[i]?=some (.ow (owL T) xs))(hT:Imm T)(he:EvF K e E L r T)(hk:∀a,EvS K u E (L.set i (.ow (owL T) (xs++[a]))) (k a) LS LB O):
  EvS K (tSeq (tDrop (tBM K "list" rAppend (mVar i) (tCons e tNil))) u) E L (r.bind λa=>.lim (xs.length+1) (k a)) LS LB O:=by
 intro F0 H0 σ F h H D hL ok fin;obtain⟨p,vs,e1,hp,hr,_⟩:=zdv_ hL hi ok;show mVar i σ H λx H1=>tyV K "list" x H1/\tCons e tNil σ H1 λxs H2=>rAppend x xs H2 (λ_ H3=>u D σ H3)
 refine zdY_ e1 ⟨.inl ⟨rfl,vs,.of hp⟩,?_⟩;refine he σ (un F h) H _ (hL.froz ok.2.1) ok.thaw (zaw_ (G:=F) ok _ (.inl rfl) fin λa F' H' b_ x v hv=>?_)
 obtain⟨o,hs,ht⟩:=ok.back x;rw[b_]at fin;obtain⟨hz,fin⟩:=zgU_ (show Fin K (Mo.lim (xs.length+1) (k a)) E LS LB O F0 H0 D from fin)
 obtain⟨p',bC,aI,hp',aP,mm⟩:=zdv_ (hL.mono hs) hi o;rw[e1]at aI;cases aI;obtain⟨h',a1,a2⟩:=mm (xs++[a]) (bC++[v]) (aP.append (.cons (hT ht hv) .nil));exact⟨p,bC,v,rfl,rfl,hp',by rw[<- aP.len];lia,hk a F0 H0 σ _ h' _ D a1 a2 fin⟩
theorem zh3_ {i:Nat}{xs:List α}{r:Mo (List α)}{k:List α->Mo (Out ρ B S)}(hi:L[i]?=some (.ow (owL T) xs))(hT:Imm T)(he:EvF K e E L r (tyL T))(hk:∀a,EvS K u E (L.set i (.ow (owL T) (xs++a))) (k a) LS LB O):
  EvS K (tSeq (tDrop (tBM K "list" rExtend (mVar i) (tCons e tNil))) u) E L (r.bind λa=>.lim (xs.length+a.length) (k a)) LS LB O:=by
 intro F0 H0 σ F h H D hL ok fin;obtain⟨p,vs,e1,hp,hr,_⟩:=zdv_ hL hi ok;show mVar i σ H λx H1=>tyV K "list" x H1/\tCons e tNil σ H1 λxs H2=>rExtend x xs H2 (λ_ H3=>u D σ H3)
 refine zdY_ e1 ⟨.inl ⟨rfl,vs,.of hp⟩,?_⟩;refine he σ (un F h) H _ (hL.froz ok.2.1) ok.thaw (zaw_ (G:=F) ok _ (.inl rfl) fin λa F' H' b_ x v af=>?_)
 obtain⟨p2,us,ev,hp2,cv⟩:=af;obtain⟨o,hs,ht⟩:=ok.back x;rw[b_]at fin;subst ev;obtain⟨hz,fin⟩:=zgU_ (show Fin K (Mo.lim (xs.length+a.length) (k a)) E LS LB O F0 H0 D from fin)
 obtain⟨p',bC,aI,hp',aP,mm⟩:=zdv_ (hL.mono hs) hi o;rw[e1]at aI;cases aI;obtain⟨h',a1,a2⟩:=mm (xs++a) (bC++us) (aP.append (cv.imm hT ht));exact⟨p,p2,bC,us,rfl,rfl,hp',x.2.1 _ _ hp2,by rw[<- aP.len,<- cv.len];exact hz,hk a F0 H0 σ _ h' _ D a1 a2 fin⟩
theorem zay_ {k:α->Mo (Out ρ B S)}(he:EvF K e E L r T)(hk:∀a,EvS K u E L (k a) LS LB O):EvS K (tSeq (tDrop e) u) E L (r.bind k) LS LB O:=by
 intro F0 H0 σ F h H D hL ok fin;refine he σ (un F h) H _ (hL.froz ok.2.1) ok.thaw (zaw_ (G:=F) ok _ (.inl rfl) fin λa F' H' hr x v hv=>?_)
 obtain⟨o,hs,ht⟩:=ok.back x;rw[hr]at fin;exact hk a F0 H0 σ _ h H' D (hL.mono hs) o fin
theorem zm0_ {c:String}{ta:TA}{C:Cs γ}{n:Nat}{r:Mo γ}(hl:CsN C n)(h:EvA K ta E L r C)(hn:n<=100:=by decide):EvS K (tRaise (gA K c) E ta) E L (r.bind λ_=>.ex c) LS LB O:=by
 intro F0 H0 σ F hh H D hL ok fin;refine h σ (un F hh) H _ (hL.froz ok.2.1) ok.thaw (zaw_ (G:=F) ok _ (.inl rfl) fin λa F' H' hr x vs hv=>?_)
 obtain⟨o,hs,ht⟩:=ok.back x;rw[hr]at fin;exact⟨by rw[hl hv];exact hn,fin _ hh H' o⟩
def fnO (r:Mo (Out ρ Unit Unit)):Mo ρ:=r.bind λo=>match o with |.rt a=>.ok a |_=>.no
inductive Args (F:Hp):List V->List Sl->Prop
 |nil:Args F [] []
 |cons {α:Type}{T:Ty α}{a:α}{v:V}{vs ss} (h:T.R a v F) (t:Args F vs ss):Args F (v::vs) (.fz T a::ss)
theorem Args.hold {vs:List V}{ss:List Sl}(a:Args F vs ss)(n:Nat):Hold (ss++nE n .dead) (vs.map some++nE n none) F (λ_=>none):=by
 induction a with
 |nil=>
  induction n with
  |zero=>trivial
  |succ n ih=>exact⟨λ_=>none,λ_=>none,λp=>.inl ⟨rfl,rfl⟩,trivial,ih⟩
 |cons hv t ih=>exact⟨λ_=>none,λ_=>none,λp=>.inl ⟨rfl,rfl⟩,⟨_,rfl,hv⟩,ih⟩
def CsS (C:Cs γ)(ss:γ->List Sl):Prop:=∀{c vs F},C.R c vs F->Args F vs (ss c)
theorem zk_:CsS (csLast T) λa=>[.fz T a]:=λ⟨v,e,h⟩=>by rw[e];exact .cons h .nil
theorem zD_ {C:Cs γ}{ss:γ->List Sl}(h:CsS C ss):CsS (csCons T C) λc=>.fz T c.1::ss c.2:=λ⟨v,us,e,q,z⟩=>by rw[e];exact .cons q (h z)
theorem zh5_ (hs:Same F H):Okk F H F (λ_=>none) H:=by
 refine⟨.refl hs,λp=>.inr rfl,λp o e=>?_,λp e=>absurd rfl e,λp xs e=>?_⟩
 ·cases e
 ·cases e
theorem zr8_ {t:XK->TS}{C:Cs γ}{ss:γ->List Sl}{f:γ->Mo (Out ρ Unit Unit)}{N:List Str}(n m:Nat)(hn:CsN C n)(hm:N.length-n=m)(hC:CsS C ss)(h:∀c E,EvS K (t E) E (ss c++nE m .dead) (f c) (λ_:Unit=>[]) (λ_:Unit=>[]) O):
  ∀vs H Q E,Ct K C (λc=>fnO (f c)) O vs H Q E->t E {nx:=λ_ H'=>Q .non H',rt:=Q} (start N vs) H:=by
 rintro vs H Q E ⟨F,c,hs,hc,q⟩;have aV:start N vs=vs.map some++nE m none:=by unfold start;rw[hn hc,hm]
 rw[aV];refine h c E F H _ F (λ_=>none) H _ ((hC hc).hold m) (zh5_ hs) ?_
 have q:After K (fnO (f c)) E F H (OwnK O H Q):=q;cases e:f c with
 |no=>rw[e]at q;exact q
 |ex cc=>rw[e]at q;exact λF h H ok=>q F H ok.1
 |ok o=>
  rw[e]at q;cases o with
  |nx s=>exact q.elim
  |bk s=>exact q.elim
  |ct s=>exact q.elim
  |rt a=>exact λv F' h' H' ok hv=>q F' H' ok.1 v h' (λp z=>ok.2.2.2.1 p z) ok.2.1 ok.2.2.1 hv
end
section
variable {K:Fgg}{E:XK}{α γ ρ S B:Type}{F0 H0 F h H:Hp}{L L':List Sl}{e:TE}{T:Ty α}{r:Mo α}{O:Own ρ}{t:TS}{LS:S->List Sl}{LB:B->List Sl}
def CDivG (i j:Int):Prop:=0<j/\uT i j=false
instance (i j:Int):Decidable (CDivG i j):=inferInstanceAs (Decidable (_/\_))
instance (i j:Int):Decidable (IntMulOk i j):=inferInstanceAs (Decidable (¬_))
abbrev mMulG:R2:=mI IntMulOk λi j=>.int (i*j)
abbrev mDivG:R2:=mI CDivG λi j=>.int (i / j)
theorem zp2_ {X:Cx}:OpR X (sq .Mult) mMulG:=opM (opI λ_ _ _ _ _ _ _ hc q=>mul_int q hc)
theorem zij_ {X:Cx}:OpR X (sq .FloorDiv) mDivG:=opM (opI λi j _ _ _ _ _ hc q=>by
 have h1:(0:Int)<j:=hc.1;exact floordiv_int (by lia) (by rw[Int.fdiv_eq_ediv_of_nonneg i (by lia)];exact q) (.inl hc.2))
theorem zt_:Op2 K mDivG E tyInt tyInt (λi j=>.grd (CDivG i j) (.ok (i / j))) tyInt:=op_i λ_ _ _=>rfl
theorem zro_ {Pq:α->Prop}{a:α}{l:List α}(h:Pq a)(t:∀q∈l,Pq q):∀q∈a::l,Pq q:=List.forall_mem_cons.mpr ⟨h,t⟩
theorem zpP_:EvS K t E L (.no:Mo (Out ρ B S)) LS LB O:=λ_ _ _ _ _ _ _ _ _ fin=>fin.elim
theorem zqb_ {r:Mo (Out ρ B S)}(w:Sub L L')(hk:EvS K t E L' r LS LB O):EvS K t E L r LS LB O:=λF0 H0 σ F h H D hL ok fin=>hk F0 H0 σ F h H D (w.hold hL) ok fin
theorem at_ {r:Mo (Out ρ B S)}(L:List Sl)(hk:EvS K t E L r LS LB O):EvS K t E L r LS LB O:=hk
theorem zaK_:EvT K tTrue E L (.ok true):=λσ F H Q hL hs q=>q.ok hs
theorem dead1 {L:List Sl}:DeadAt (.dead::L) [0]:=λi hi s e=>by
 cases(pS.mp hi);cases e;rfl
theorem dead2 {L:List Sl}:DeadAt (.dead::.dead::L) [0,1]:=λi hi s e=>by
 grind
theorem nn_l {a:List α}{v:V}{F:Hp}(h:(tyL T).R a v F):v≠.non:=by obtain⟨p,vs,rfl,_⟩:=h;exact λz=>V.noConfusion z
theorem zha_ {C:Cs γ}{a:γ}{v:V}{F:Hp}(h:(tyTup C).R a v F):v≠.non:=by obtain⟨p,vs,rfl,_⟩:=h;exact λz=>V.noConfusion z
end
section
variable {α β ρ S S' B:Type}
@[simp] theorem Mo.okB (a:α) (f:α->Mo β):(Mo.ok a).bind f=f a:=of_eq_true (eq_self _)
@[simp] theorem Mo.exB (c:Xc) (f:α->Mo β):(Mo.ex c:Mo α).bind f=.ex c:=of_eq_true (eq_self _)
@[simp] theorem Mo.noB (f:α->Mo β):(Mo.no:Mo α).bind f=.no:=of_eq_true (eq_self _)
@[simp] theorem Mo.noexO (a:α):(Mo.ok a).noex=.ok a:=of_eq_true (eq_self _)
@[simp] theorem Mo.optS (a:α):Mo.opt (some a)=.ok a:=of_eq_true (eq_self _)
@[simp] theorem zbm_ (s:S) (k:S->Mo (Out ρ B S')):thenO (.ok (.nx s)) k=k s:=of_eq_true (eq_self _)
@[simp] theorem zpy_ (a:ρ) (k:S->Mo (Out ρ B S')):thenO (.ok (.rt a)) k=.ok (.rt a):=of_eq_true (eq_self _)
@[simp] theorem zop_ (b:B) (k:S->Mo (Out ρ B S')):thenO (.ok (.bk b)) k=.ok (.bk b):=of_eq_true (eq_self _)
@[simp] theorem znO_ (b:B) (k:S->Mo (Out ρ B S')):thenO (.ok (.ct b)) k=.ok (.ct b):=of_eq_true (eq_self _)
@[simp] theorem znR_ (a:ρ):fnO (.ok (.rt a))=.ok a:=of_eq_true (eq_self _)
@[simp] theorem zos_ (step:S->α->Mo (Out ρ S S)) (s:S):forO (B:=B) step [] s=.ok (.nx s):=of_eq_true (eq_self _)
theorem za7_ (step:S->α->Mo (Out ρ S S))(x:α)(xs:List α)(s:S):forO (B:=B) step (x::xs) s=(step s x).bind λo=>match o with |.nx s'=>forO step xs s' |.ct s'=>forO step xs s' |.bk s'=>.ok (.nx s')|.rt a=>.ok (.rt a):=rfl
theorem zig_ {step:S->α->Mo (Out ρ S S)}{x:α}{xs:List α}{s s':S}(h:step s x=.ok (.nx s')):forO (B:=B) step (x::xs) s=forO step xs s':=by rw[za7_,h];rfl
theorem zkx_ {step:S->α->Mo (Out ρ S S)}(P:List α->S->Prop):∀{xs:List α}(done:List α) {s:S},P done s->(∀d x s,(∃r,done++xs=d++x::r)->P d s->∃s',step s x=.ok (.nx s')/\P (d++[x]) s')->∃s',forO (B:=B) step xs s=.ok (.nx s')/\P (done++xs) s'
 |[],done,s,h0,_=>⟨s,rfl,by rw[qC];exact h0⟩
 |x::xs,done,s,h0,h=>by
  obtain⟨s1,e1,p1⟩:=h done x s ⟨xs,rfl⟩ h0;obtain⟨s2,e2,p2⟩:=zkx_ P (xs:=xs) (done++[x]) p1 λd y s ⟨r,hr⟩ hp=>h d y s ⟨r,by rw[<- hr];simp⟩ hp
  exact⟨s2,by rw[zig_ e1,e2],by simpa using p2⟩
theorem zaH_ {step:Unit->α->Mo (Out ρ Unit Unit)}:∀{xs:List α},(∀x∈xs,step () x=.ok (.nx ()))->forO (B:=B) step xs ()=.ok (.nx ())
 |[],_=>rfl
 |x::xs,h=>by rw[zig_ (h x nu),zaH_ λy hy=>h y (qa _ hy)]
open PySem PySem.Spec PyProof.Rows in
theorem zqz_ {a j:Int}(h0:0<j)(h:j.natAbs.log2<9000):CDivG a j:=by
 refine⟨h0,?_⟩;unfold uT;simp only;rw[Bool.and_eq_false_iff];left;rw[decide_eq_false_iff_not];split<;>lia
theorem log2_lt {n k:Nat}(h:n<2 ^ k):n.log2<k\/n=0:=by
 by_cases hz:n=0
 ·exact .inr hz
 ·exact .inl ((Nat.log2_lt hz).mpr h)
theorem zqF_ {a j:Int}(h0:0<j)(h:j<2 ^ 1000):CDivG a j:=by
 refine zqz_ h0 ?_;have h1:j.natAbs<2 ^ 1000:=by
  grind
 rcases log2_lt h1 with h |h
 ·lia
 ·rw[h];decide
open PySem PySem.Spec PyProof.Rows in
theorem zgu_ {i j:Int}(h : -(2 ^ 64)<i/\i<2 ^ 64 \/ -(2 ^ 64)<j/\j<2 ^ 64):IntMulOk i j:=CMul.ok h
@[simp] theorem zmE_ {a j:Int}{k:Mo α}(h0:0<j) (h1:j<1073741824):Mo.grd (CDivG a j) k=k:=Mo.grd_ok (zqF_ h0 (by lia))
@[simp] theorem grd_T {k:Mo α} [Decidable True]:Mo.grd True k=k:=Mo.grd_ok trivial
@[simp] theorem zqE_ {j:Int}{k:Mo α}(h0:0<j):Mo.grd (0<j) k=k:=Mo.grd_ok h0
open PySem PySem.Spec PyProof.Rows in
@[simp] theorem zgi_ {i j:Int}{k:Mo α}(h0 : -18446744073709551616<i) (h1:i<18446744073709551616):Mo.grd (IntMulOk i j) k=k:=Mo.grd_ok (zgu_ (.inl ⟨by lia,by lia⟩))
open PySem PySem.Spec PyProof.Rows in
theorem zoH_ {i j:Int}{k:Mo α}(h0 : -18446744073709551616<j)(h1:j<18446744073709551616):Mo.grd (IntMulOk i j) k=k:=Mo.grd_ok (zgu_ (.inr ⟨by lia,by lia⟩))
theorem zT_ (lo:Int)(n:Nat):(rngI lo n).length=n:=by unfold rngI;rw[l6,qY]
theorem zhn_ {lo x:Int}{n:Nat}:x∈rngI lo n↔lo<=x/\x<lo+n:=by
 unfold rngI;simp only[qp,rd];constructor
 ·rintro⟨a,h,rfl⟩;lia
 ·rintro⟨h1,h2⟩;exact⟨(x-lo).toNat,by lia,by lia⟩
theorem zqw_ {xs:List α}{k:Int}(h0:0<=k):atI xs k=xs[k.toNat]?:=by
 unfold atI ixN;rw[if_pos h0];split
 ·rfl
 ·rename_i h
  rw[tN (by omega)];rfl
theorem zdM_ {xs:List α}{k:Int}(h0:0<=k)(h1:k<xs.length):∃x,atI xs k=some x/\x∈xs:=by
 rw[zqw_ h0,nj (show k.toNat<xs.length by lia)]
 exact⟨_,rfl,tR _⟩
theorem zkz_ {q:α->α->Bool}(hq:∀a,q a a=true):∀xs:List α,eqL q xs xs=true
 |[]=>rfl
 |x::xs=>by unfold eqL;rw[hq,zkz_ hq xs];rfl
end
section
variable {K:Fgg}{E:XK}{α ρ S B:Type}{F0 H0 F h H:Hp}{L:List Sl}{e e1 e2:TE}{T:Ty α}{r:Mo α}{O:Own ρ}{u:TS}{LS:S->List Sl}{LB:B->List Sl}
def OwIn (T:Ty α)(F:Hp):List (List α)->List V->Hp->Prop
 |[],[],h=>∀p,h p=none
 |xs::ar,v::vs,h=>∃h1 h2,Jn h1 h2 h/\(owL T).O xs v F h1/\OwIn T F ar vs h2
 |_,_,_=>False
theorem OwIn.mono:∀{ar:List (List α)}{vs:List V}{F F' h:Hp},Same F F'->OwIn T F ar vs h->OwIn T F' ar vs h
 |[],[],_,_,_,_,q=>q
 |xs::ar,v::vs,F,F',h,g,⟨h1,h2,j,o,r⟩=>⟨h1,h2,j,(owL T).mono g o,r.mono g⟩
 |[],_::_,_,_,_,_,q=>q.elim
 |_::_,[],_,_,_,_,q=>q.elim
theorem OwIn.imm (i:Imm T):∀{ar:List (List α)}{vs:List V}{F F' h:Hp},Tups F F'->OwIn T F ar vs h->OwIn T F' ar vs h
 |[],[],_,_,_,_,q=>q
 |xs::ar,v::vs,F,F',h,g,⟨h1,h2,j,o,r⟩=>⟨h1,h2,j,zH_ i g o,r.imm i g⟩
 |[],_::_,_,_,_,_,q=>q.elim
 |_::_,[],_,_,_,_,q=>q.elim
theorem OwIn.notup:∀{ar:List (List α)}{vs:List V}{F h:Hp},OwIn T F ar vs h->∀p xs,h p≠some (.tup xs)
 |[],[],_,_,q,p,xs=>by rw[q p];exact λz=>by cases z
 |xs::ar,v::vs,F,h,⟨h1,h2,j,o,r⟩,p,ys=>by
  rcases j p with⟨_,b⟩|⟨_,b⟩
  ·rw[b];exact r.notup p ys
  ·rw[b];exact(owL T).notup o p ys
 |[],_::_,_,_,q,_,_=>q.elim
 |_::_,[],_,_,q,_,_=>q.elim
theorem OwIn.len:∀{ar:List (List α)}{vs:List V}{F h:Hp},OwIn T F ar vs h->ar.length=vs.length
 |[],[],_,_,_=>rfl
 |xs::ar,v::vs,F,h,⟨h1,h2,j,o,r⟩=>by rw[qh,qh,r.len]
 |[],_::_,_,_,q=>q.elim
 |_::_,[],_,_,q=>q.elim
theorem OwIn.prs:∀{ar:List (List α)}{vs:List V}{F h G:Hp},Same F G->Same h G->OwIn T F ar vs h->Prs (tyL T) G ar vs
 |[],[],_,_,_,_,_,_=>.nil
 |xs::ar,v::vs,F,h,G,gF,gh,⟨h1,h2,j,⟨p,us,e,z,q⟩,r⟩=>by
  refine .cons ⟨p,us,e,gh _ _ (j.l _ _ (by rw[z];exact zaa_)),q.mono gF⟩ (r.prs gF (j.r.trans gh))
 |[],_::_,_,_,_,_,_,q=>q.elim
 |_::_,[],_,_,_,_,_,q=>q.elim
noncomputable abbrev owLL (T:Ty α):Own (List (List α)):=⟨λar v F h=>∃p vs h2,v=.ref p/\Jn (one p (.lst vs)) h2 h/\OwIn T F ar vs h2,tyL (tyL T),λg ⟨p,vs,h2,e,j,q⟩=>⟨p,vs,h2,e,j,q.mono g⟩,
 λd ⟨p,vs,h2,e,j,q⟩=>⟨p,vs,e,zgE_ d _ _ (j.l _ _ zaa_),q.prs zdc_ (j.r.trans (zgE_ d))⟩,
 λ⟨p,vs,h2,e,j,q⟩ b xs y=>by
  rcases j b with⟨_,z⟩|⟨_,z⟩
  ·rw[z]at y;exact q.notup b xs y
  ·rw[z]at y;unfold one at y;split at y<;>cases y⟩
theorem zpI_ (i:Imm T):ImmO (owLL T):=λg ⟨p,vs,h2,e,j,q⟩=>⟨p,vs,h2,e,j,q.imm i g⟩
theorem zkB_ (i:Nat){xs:List (List α)}(h:L[i]?=some (.ow (owLL T) xs)):EvF K (mVar i) E L (.ok xs) (tyL (tyL T)):=zkM_ i h
theorem OwIn.at:∀{ar:List (List α)}{vs:List V}{F h:Hp}(i:Nat) {xs:List α},OwIn T F ar vs h->ar[i]?=some xs ->
  ∃p us h2,vs[i]?=some (.ref p)/\Jn (one p (.lst us)) h2 h/\Prs T F xs us/\∀bJ aN h',Prs T F bJ aN->Jn (one p (.lst aN)) h2 h'->OwIn T F (ar.set i bJ) vs h'
 |[],_,_,_,_,_,_,e=>by cases e
 |xs::ar,[],_,_,_,_,q,_=>q.elim
 |xs::ar,v::vs,F,h,0,ys,⟨h1,h2,j,⟨p,us,ev,z,q⟩,r⟩,e=>by
  cases e;subst ev z;exact⟨p,us,h2,rfl,j,q,λbJ aN h' q' j'=>⟨_,h2,j',⟨p,aN,rfl,rfl,q'⟩,r⟩⟩
 |xs::ar,v::vs,F,h,i+1,ys,⟨h1,h2,j,o,r⟩,e=>by
  obtain⟨p,us,k2,e1,j1,q1,f⟩:=OwIn.at i r (by simpa using e)
  have d2:Dj h1 k2:=λq=>by
   rcases j.dj q with a |a
   ·exact .inl a
   ·exact .inr (j1.r.free a)
  have qP:h1 p=none:=by
   rcases j.dj p with a |a
   ·exact a
   ·have:=j1.l p _ zaa_;rw[a]at this;cases this
  refine⟨p,us,un h1 k2,by simpa using e1,λq=>?_,q1,λbJ aN h' q' j'=>?_⟩
  ·rcases j q with⟨a,b⟩|⟨a,b⟩
   ·rcases j1 q with⟨c,d⟩|⟨c,d⟩
    ·refine .inl ⟨c,?_⟩;unfold un;rw[a,b,d]
    ·refine .inr ⟨?_,by rw[b,d]⟩;unfold un;rw[a,c]
   ·refine .inl ⟨j1.l.free a,?_⟩
    have:k2 q=none:=j1.r.free a;unfold un;rw[b];cases h1 q with
    |none=>rw[this]
    |some u=>rfl
  ·have dd:Dj (one p (.lst aN)) k2:=λq=>by
    unfold one;split
    ·rename_i z;rw[z]
     rcases j1.dj p with a |a
     ·rw[zaa_]at a;cases a
     ·exact .inr a
    ·exact .inl rfl
   refine⟨h1,un (one p (.lst aN)) k2,λq=>?_,o,f bJ aN _ q' (zjt_ dd)⟩
   rcases j' q with⟨a,b⟩|⟨a,b⟩
   ·unfold un at b ⊢
    rw[a];cases z:h1 q with
    |none=>rw[z]at b;exact .inl ⟨rfl,b⟩
    |some w=>
     rw[z]at b;refine .inr ⟨?_,b⟩;rcases d2 q with y |y
     ·rw[y]at z;cases z
     ·exact y
   ·unfold un at a
    cases z:h1 q with
    |some w=>rw[z]at a;cases a
    |none=>
     rw[z]at a;refine .inl ⟨rfl,?_⟩;unfold un;rw[b];cases one p (.lst aN) q with
     |none=>exact a.symm
     |some w=>rfl
theorem znH_ {n:Nat}{j:Int}{k:Nat}(h:ixN n j=some k):k<n:=by
 unfold ixN at h;grind
theorem zm6_ {p:nc}{o':HO}{h1' hr h':Hp}(ok:Okk F0 H0 F h H)(hp:h p≠none)(nt:∀xs,o'≠.tup xs)(h':Hp)(hh:∀q,h' q=if q=p then some o' else h q):Okk F0 H0 F h' (upd H p o'):=by
 obtain⟨o1,o2,o3,o4,o5⟩:=ok;have Fp:F p=none:=by
  rcases o2 p with z |z
  ·exact z
  ·exact absurd z hp
 have hJ:H0 p=none:=o4 p hp;refine⟨⟨o1.1,λq o z=>?_,λq o z=>?_,o1.2.2.2⟩,λq=>?_,λq o z=>?_,λq z=>?_,λq ys z=>?_⟩
 ·unfold upd;split
  ·rename_i w;rw[w,Fp]at z;cases z
  ·exact o1.2.1 _ _ z
 ·unfold upd;split
  ·rename_i w;rw[w,hJ]at z;cases z
  ·exact o1.2.2.1 _ _ z
 ·rw[hh];split
  ·rename_i w;rw[w];exact .inl Fp
  ·exact o2 q
 ·rw[hh]at z;unfold upd
  split at z
  ·rename_i w;rw[if_pos w];exact z
  ·rename_i w;rw[if_neg w];exact o3 _ _ z
 ·rw[hh]at z;split at z
  ·rename_i w;rw[w];exact hJ
  ·exact o4 q z
 ·rw[hh]at z;split at z
  ·exact nt ys (by injection z)
  ·exact o5 q ys z
theorem zip_ {i:Nat}{σ:St}{ar:List (List α)}{j:Nat}{xs:List α}(hL:Hold L σ F h)(hi:L[i]?=some (.ow (owLL T) ar))(hj:ar[j]?=some xs)(ok:Okk F0 H0 F h H):
  ∃p vs q us,σ[i]?=some (some (.ref p))/\H p=some (.lst vs)/\ar.length=vs.length/\vs[j]?=some (.ref q)/\H q=some (.lst us)/\Prs T F xs us /\
   ∀bJ aN,Prs T F bJ aN->∃h',Hold (L.set i (.ow (owLL T) (ar.set j bJ))) σ F h'/\Okk F0 H0 F h' (upd H q (.lst aN)):=by
 obtain⟨o,h1,h2,e1,jj,⟨v,e2,p,vs,k2,rfl,jk,inn⟩,f⟩:=hL.at i hi;subst e2;obtain⟨q,us,m2,e3,jm,hr,g⟩:=inn.at j hj;have mj:k2 q=some (.lst us):=jm.l _ _ zaa_;have dE:h1 q=some (.lst us):=jk.r _ _ mj;have hq:h q=some (.lst us):=jj.l _ _ dE;have hp:h p=some (.lst vs):=jj.l _ _ (jk.l _ _ zaa_);refine⟨p,vs,q,us,e1,ok.2.2.1 _ _ hp,inn.len,e3,ok.2.2.1 _ _ hq,hr,λbJ aN aP=>?_⟩
 have pq:p≠q:=λz=>by
  rcases jk.dj p with a |a
  ·rw[zaa_]at a;cases a
  ·rw[z,mj]at a;cases a
 let k2':Hp:=λb=>if b=q then some (.lst aN)else k2 b
 let h1':Hp:=λb=>if b=q then some (.lst aN)else h1 b
 let h':Hp:=λb=>if b=q then some (.lst aN)else h b
 have j1:Jn (one q (.lst aN)) m2 k2':=λb=>by
  show _\/_
  by_cases z:b=q
  ·right
   have:m2 b=none:=by
    rcases jm.dj b with a |a
    ·rw[z,zaa_]at a;cases a
    ·exact a
   refine⟨this,?_⟩;show(if b=q then _ else _)=one q _ b
   rw[if_pos z];unfold one;rw[if_pos z]
  ·left
   refine⟨by unfold one;rw[if_neg z],?_⟩
   show(if b=q then _ else _)=_
   rw[if_neg z];rcases jm b with⟨_,c⟩|⟨a,c⟩
   ·exact c
   ·rw[c,a];unfold one;rw[if_neg z]
 have j2:Jn (one p (.lst vs)) k2' h1':=λb=>by
  by_cases z:b=q
  ·left
   refine⟨by unfold one;rw[if_neg (λy=>pq (by rw[<- y,z]))],?_⟩
   show(if b=q then _ else _)=(if b=q then _ else _)
   rw[if_pos z,if_pos z]
  ·rcases jk b with⟨a,c⟩|⟨a,c⟩
   ·grind
   ·grind
 have j3:Jn h1' h2 h':=λb=>by
  by_cases z:b=q
  ·right
   have:h2 b=none:=by
    rcases jj.dj b with a |a
    ·rw[z,dE]at a;cases a
    ·exact a
   grind
  ·rcases jj b with⟨a,c⟩|⟨a,c⟩
   ·grind
   ·grind
 have gg:=f (.ow (owLL T) (ar.set j bJ)) (some (.ref p)) h1' h' j3 ⟨_,rfl,p,vs,k2',rfl,j2,g bJ aN k2' aP j1⟩;rw[zch_ e1]at gg;exact⟨h',gg,zm6_ (h1':=h) (hr:=h) (h':=h) ok (by rw[hq];exact sN _) (λxs z=>by cases z) h' λb=>rfl⟩
def appN (ar:List (List α))(j:Nat)(a:α):List (List α):=match ar[j]? with |some xs=>ar.set j (xs++[a])|none=>ar
theorem zdf_ {i:Nat}{ar:List (List α)}{ei:TE}{ri:Mo Int}{k:Nat->α->Mo (Out ρ B S)}(hi:L[i]?=some (.ow (owLL T) ar))(hT:Imm T)(dZ:EvF K ei E L ri tyInt)(he:EvF K e E L r T)(hk:∀j a,EvS K u E (L.set i (.ow (owLL T) (appN ar j a))) (k j a) LS LB O):
  EvS K (tSeq (tDrop (tBM K "list" rAppend (tOp (mIx K) (mVar i) ei) (tCons e tNil))) u) E L (ri.bind λj=>(Mo.opt (ixN ar.length j)).bind λn=>r.bind λa=>.lim ((ar[n]?.getD []).length+1) (k n a)) LS LB O:=by
 intro F0 H0 σ F h H D hL ok fin;show mVar i σ H λo p9=>ei σ p9 λy H1=>mIx K o y H1 λx H1=>tyV K "list" x H1/\tCons e tNil σ H1 λxs H2=>rAppend x xs H2 (λ_ H3=>u D σ H3)
 obtain⟨o0,g1,g2,e0,_,⟨v0,e00,p0,vs0,_,rfl,_,_⟩,_⟩:=hL.at i hi;subst e00;refine zdY_ e0 ?_;refine dZ σ (un F h) H _ (hL.froz ok.2.1) ok.thaw (zaw_ (G:=F) ok _ (.inl rfl) fin λj F1 H1 jJ x1 v1 bH=>?_)
 cases bH;obtain⟨o,hs,ht⟩:=ok.back x1;rw[jJ]at fin;have bh:=hL.mono hs;obtain⟨n,en,fin⟩:=zkv_ fin;have hn:=znH_ en;obtain⟨p,vs,q,us,e1,hp,hlen,e3,hq,hr,_⟩:=zip_ bh hi (nj hn) o;rw[e0]at e1;cases e1;refine⟨vs,.inl (.of hp),?_⟩;have ea:atI vs j=some (.ref q):=by unfold atI;rw[<- hlen,en];exact e3
 rw[ea];refine⟨.inl ⟨rfl,us,.of hq⟩,?_⟩;refine he σ (un _ h) H1 _ (bh.froz o.2.1) o.thaw (zaw_ (G:=F) o _ (.inl rfl) fin λa F2 H2 b_ x2 v hv=>?_)
 obtain⟨o',bw,fb⟩:=o.back x2;rw[b_]at fin;obtain⟨hz,fin⟩:=zgU_ (show Fin K (Mo.lim ((ar[n]?.getD []).length+1) (k n a)) E LS LB O F0 H0 D from fin)
 obtain⟨p',bC,q',aN,aI,hp',hlen',cU,aY,aP,mm⟩:=zip_ (bh.mono bw) hi (nj hn) o';rw[e0]at aI;cases aI;have:bC=vs:=by
  have h1:=x2.2.2.1 _ _ hp;rw[hp']at h1;injection h1 with h1;injection h1
 subst this;rw[e3]at cU;cases cU;have:aN=us:=by
  have h1:=x2.2.2.1 _ _ hq;rw[aY]at h1;injection h1 with h1;injection h1
 subst this;obtain⟨h',a1,a2⟩:=mm (ar[n]++[a]) (aN++[v]) (aP.append (.cons (hT fb hv) .nil));have ex:appN ar n a=ar.set n (ar[n]++[a]):=by unfold appN;rw[nj hn]
 have iB:=hk n a;rw[ex]at iB;rw[nj hn]at hz;have hl:=aP.len;exact⟨q,aN,v,rfl,rfl,aY,by simp only[Option.getD_some]at hz;lia,iB F0 H0 σ _ h' _ D a1 a2 fin⟩
@[irreducible] def fuelW:Nat:=100000
end
section
variable {α:Type}
theorem zaO_ {S B ρ:Type}{step:S->α->Mo (Out ρ S S)}{xs:List α}{s:S}{G:Mo (Out ρ B S)->Prop}(P:List α->S->Prop)(h0:P [] s)(hs:∀d x s,(∃r,xs=d++x::r)->P d s->∃s',step s x=.ok (.nx s')/\P (d++[x]) s')(hk:∀s',P xs s'->G (.ok (.nx s'))):G (forO step xs s):=by
 obtain⟨s',e,p⟩:=zkx_ (B:=B) P (xs:=xs) [] h0 (λd x s hr hp=>hs d x s hr hp)
 rw[e];exact hk s' p
end
abbrev Crd:=List Nat
def sg (c:Crd)(col:Int):Nat:=c.getD (col-1).toNat 0
def rk1 (x:Nat):Nat:=(SG.findIdx? (· == x)).getD 0 % 37
def rnk (c:Crd)(col:Int):Nat:=rk1 (sg c col)
def kv:List Int->Crd->Nat
 |[],_=>0
 |c::L,a=>rnk a c*37 ^ L.length+kv L a
open PySem.SeqAt
open PySem.AutoSeq1 (wpAny_loadPart')
open PySem.MeetsSeq PySem.MeetsSeq2 PySem.MeetsSeq3
section
variable {α:Type}
theorem zjq_ {n d:Nat}{i:Int}(h:0<=i):HT.sIx n d (some i)=min i.toNat n:=by
 unfold HT.sIx;simp only;split<;>lia
theorem zgY_ {xs:List α}{i:Int}(h:0<=i):cutG xs none (some i)=xs.take i.toNat:=by
 unfold cutG;rw[zjq_ h,show HT.sIx xs.length 0 none=0 from rfl,vQ,yr,<- List.take_take,List.take_length]
theorem zl4_ {xs:List α}{i:Int}(h:0<=i):cutG xs (some i) none=xs.drop i.toNat:=by
 unfold cutG;rw[zjq_ h,show HT.sIx xs.length xs.length none=xs.length from rfl]
 by_cases hl:i.toNat<=xs.length
 ·rw[vL hl,ur (by rw[rO];exact nG _)]
 ·rw[wM (by lia),uG,vI (by lia),vp]
theorem zil_ {xs:List α}{q:Int×α}(h:q∈enumL xs):∃i:Nat,i<xs.length/\q.1=i/\xs[i]?=some q.2:=by
 obtain⟨i,hi,e⟩:=uQ.mp h;rw[zbL_]at hi;have:=zbM_ xs i;grind
theorem zbZ_ {xs:List α}{k:Int}(h0 : -(xs.length:Int)<=k)(h1:k<xs.length):∃x,atI xs k=some x/\x∈xs:=by
 by_cases h:0<=k
 ·exact zdM_ h h1
 ·unfold atI ixN
  rw[if_neg h,if_pos h0];have:(k+xs.length).toNat<xs.length:=by lia
  exact⟨xs[(k+xs.length).toNat],by simp[nj this],tR _⟩
variable {K:Fgg}{E:XK}{γ:Type}{h:Hp}{L:List Sl}{T:Ty α}{r:Mo α}
theorem zA_ {C:Cs γ}{f:γ->Mo α}{ta:TA}{r:Mo γ}(h:EvA K ta E L r C):EvF K (tCall (Ct K C f (owF T)) [] E ta) E L (r.bind f) T:=(zrb_ h).fr
theorem zg_ {C:Cs γ}{f:γ->Mo α}{ta:TA}{r:Mo γ}(h:EvA K ta E L r C):EvF K (tCall (Ct K C f (owF T)) [] E0 ta) E L (r.bind λc=>(f c).noex) T:=(z1_ h).fr
end
def repL {α:Type}(xs:List α)(n:Int):List α:=(nE n.toNat xs).flatten
def CRep (m:Nat)(n:Int):Prop:=0<=n/\n<=100000/\m<=100000/\m*n.toNat<=100000
instance (m:Nat) (n:Int):Decidable (CRep m n):=inferInstanceAs (Decidable (_/\_))
def mMulX:R2:=λx y H Q=>match x,y with
 |.int i,.int j=>IntMulOk i j/\Q (.int (i*j)) H
 |.str z,.int n=>CRep z.cps.toList.length n/\Q (tx (repL z.cps.toList n)) H
 |.ref l,.int k=>∃xs,H l=some (.lst xs)/\CRep xs.length k/\∀p,H p=none->Q (.ref p) (upd H p (.lst (repL xs k)))
 |_,_=>False
theorem znl_ (z:Array Nat)(n:Nat):(vF (λx1 x2=>x1++x2) #[] (nE n z)).toList=(nE n z.toList).flatten:=by
 have:∀(l:List (Array Nat)) (acc:Array Nat),(l.foldl (λx1 x2=>x1++x2) acc).toList=acc.toList++(l.map wy).flatten:=by
  intro l;induction l with
  |nil=>intro acc;simp
  |cons a l ih=>intro acc;rw[uS,ih];simp
 rw[this];simp
theorem zmA_ {X:Cx}:OpR X (sq .Mult) mMulX:=by
 intro pins s σ H x y v u Q I rx ry h
 cases x<;>cases y<;>first
  |exact h.elim
  |exact zp2_ pins s σ H _ _ v u Q I rx ry h
  | (obtain⟨xs,hl,⟨c1,c2,c3,c4⟩,q⟩:=h
     exact zsB_ pins s σ H _ _ v u Q I rx ry ⟨_,_,xs,rfl,rfl,hl,by lia,by lia,zdp_ c4,q⟩)
  | (rename_i z n
     obtain⟨⟨c1,c2,c3,c4⟩,q⟩:=h;obtain⟨t,rfl⟩:=rx;obtain⟨t',rfl⟩:=ry;have hz:z.length=z.cps.toList.length:=by simp[rV]
     refine PySem.P.mul_str (by simp;lia) (λh1 h2=>?_) (λh1 h2=>?_) ?_
     ·rw[hz]
      have hn:0<n:=by lia
      have:(z.cps.toList.length:Int)*n<=2 ^ 63-1:=by
       have e:n=(n.toNat:Int):=by lia
       rw[e,<- Int.natCast_mul];lia
      have:=Int.le_ediv_of_mul_le hn this;lia
     ·unfold vW
      rw[hz];have:=zdp_ c4;exact decide_eq_false (by lia)
     ·by_cases h1:n<1
      ·rw[if_pos h1]
       have:n=0:=by lia
       subst this;exact⟨rB _,tx [],H,I.tok _,⟨_,rfl⟩,q⟩
      ·rw [if_neg h1]
       by_cases h2:(n == 1 ||z.length == 0)=true
       ·rw[if_pos h2]
        have e:repL z.cps.toList n=z.cps.toList:=by
         unfold repL;rw[Bool.or_eq_true]at h2;rcases h2 with h2 |h2
         ·have:n=1:=by simpa using h2
          subst this;simp
         ·have:z.cps.toList=[]:=rP.mp (by rw[<- hz];simpa using h2)
          rw[this];simp
        rw[e]at q;refine⟨tx z.cps.toList,H,I,⟨t,?_⟩,q⟩;grind
       ·rw[if_neg h2]
        refine⟨?_,tx (repL z.cps.toList n),H,I.tok _,⟨s.toks,?_⟩,q⟩
        ·have e:(⟨vF (λx1 x2=>x1++x2) #[] (nE n.toNat z.cps)⟩:Str).length=(nE n.toNat z.cps.toList).flatten.length:=by
          rw[<- znl_];simp[rV]
         rw[e,zmz_];exact zdp_ (by rw[yj];exact c4)
        show vb _ _=vb _ _
        congr 1;unfold repL;rw[<- znl_])
section
variable {K:Fgg}{E:XK}{α:Type}{F h H:Hp}{L:List Sl}{e e2:TE}{T:Ty α}{r:Mo α}{t:TS}
theorem zc7_:Op2 K mMulX E tyInt tyInt (λi j=>.grd (IntMulOk i j) (.ok (i*j))) tyInt:=by
 rintro a b x y F H Q hs rfl rfl k;obtain⟨c,k⟩:=k.grd;exact⟨c,k.ok hs _ rfl⟩
theorem zdE_:Op2 K mMulX E tyStr tyInt (λl n=>.grd (CRep l.length n) (.ok (repL l n))) tyStr:=by
 rintro a b x y F H Q hs rfl rfl k;obtain⟨c,k⟩:=k.grd;exact⟨c,k.ok hs _ rfl⟩
theorem zrX_ {xs:List α}{vs:List V}(hr:Prs T H xs vs)(n:Int):Prs T H (repL xs n) (repL vs n):=by
 unfold repL;induction n.toNat with
 |zero=>exact .nil
 |succ m ih=>rw[rY,rY,si,si];exact hr.append ih
theorem zhG_:Op2O K mMulX E (tyL T) tyInt (λl n=>.grd (CRep l.length n) (.ok (repL l n))) (owL T):=by
 rintro a b x y F H Q hs ⟨p,vs,rfl,hp,hr⟩ rfl k;obtain⟨c,k⟩:=k.grd;exact⟨vs,hs _ _ hp,by rw[<- hr.len];exact c,λq hq=>zbB_ hs hq (zrX_ hr b) k⟩
def strsL (l:List (List Nat)):List Str:=l.map λz=>⟨z.toArray⟩
theorem zoE_ {l:List (List Nat)}{vs:List V}(h:Prs tyStr H l vs):strsOf vs=some (strsL l):=by
 induction h with
 |nil=>rfl
 |cons r t ih=>cases r;show(strsOf _).map _=_;rw[ih];rfl
theorem znm_:Me K (mJoin K) E (csLast (tyL tyStr)) (λl c=>.grd (JoinOk ⟨l.toArray⟩ (strsL c)=true) (.ok (joinS l (strsL c)))) tyStr:=by
 rintro l c vs F H Q hs ⟨v,rfl,p,us,rfl,hp,hr⟩ k;obtain⟨z,k⟩:=k.grd;refine⟨us,.of (hs _ _ hp),?_⟩;rw[zoE_ hr];exact⟨z,k.ok hs _ rfl⟩
abbrev Pas:=Int×Option (List Nat)
def passR (c:Pas)(v:V)(H:Hp):Prop:=∃p,v=.ref p/\H p=some (.tup (match c.2 with |none=>[tx [100,101,97,108],.int c.1]|some s=>[tx [112,105,99,107],.int c.1,tx s]))
abbrev tyPass:Ty Pas:=⟨passR,λg ⟨p,e,h⟩=>⟨p,e,g _ _ h⟩⟩
theorem zjY_:Imm tyPass:=λg ⟨p,e,h⟩=>⟨p,e,g _ _ h⟩
theorem zrn_ {r:Mo Int}{r2:Mo (List Nat)}(h:EvF K e E L r tyInt)(h2:EvF K e2 E L r2 tyStr):EvF K (tTup (tCons (tC (tx [112,105,99,107])) (tCons e (tCons e2 tNil)))) E L (r.bind λc=>r2.bind λs=>.ok (c,some s)) tyPass:=by
 intro σ F H Q hL hs q;refine h σ F H _ hL hs (q.bind.imp λc F1 H1 x1 k1 v hv=>?_)
 refine h2 σ F1 H1 _ (hL.mono x1.1) x1.2.1 (k1.bind.imp λs F2 H2 x2 k2 v2 ba=>⟨zdp_ (by show 3<=100000;decide),λp hp=>?_⟩)
 cases hv;cases ba;exact k2 _ _ (Ext.new x2.2.1 hp) _ ⟨p,rfl,zq_⟩
def pTag (c:Pas):List Nat:=match c.2 with |none=>[100,101,97,108]|some _=>[112,105,99,107]
theorem zps_ {r:Mo Pas}(h:EvF K e E L r tyPass):EvF K (tOp (mIx K) e (tC (.int 0))) E L (r.bind λc=>.ok (pTag c)) tyStr:=by
 intro σ F H Q hL hs q;refine h σ F H _ hL hs (q.bind.imp λc F1 H1 x1 k1 v af=>?_)
 obtain⟨p,ev,hp⟩:=af;subst ev;refine⟨_,.inr (.of (x1.2.1 _ _ hp)),?_⟩;obtain⟨c1,c2⟩:=c;cases c2 with
 |none=>exact k1.ok x1.2.1 _ rfl
 |some s=>exact k1.ok x1.2.1 _ rfl
theorem zpj_ {r:Mo Pas}(h:EvF K e E L r tyPass):EvF K (tOp (mIx K) e (tC (.int 1))) E L (r.bind λc=>.ok c.1) tyInt:=by
 intro σ F H Q hL hs q;refine h σ F H _ hL hs (q.bind.imp λc F1 H1 x1 k1 v af=>?_)
 obtain⟨p,ev,hp⟩:=af;subst ev;refine⟨_,.inr (.of (x1.2.1 _ _ hp)),?_⟩;obtain⟨c1,c2⟩:=c;cases c2 with
 |none=>exact k1.ok x1.2.1 _ rfl
 |some s=>exact k1.ok x1.2.1 _ rfl
theorem zjU_ {r:Mo Pas}(h:EvF K e E L r tyPass):EvF K (tOp (mIx K) e (tC (.int 2))) E L (r.bind λc=>.opt c.2) tyStr:=by
 intro σ F H Q hL hs q;refine h σ F H _ hL hs (q.bind.imp λc F1 H1 x1 k1 v af=>?_)
 obtain⟨p,ev,hp⟩:=af;subst ev;obtain⟨s,es,k1⟩:=k1.opt;refine⟨_,.inr (.of (x1.2.1 _ _ hp)),?_⟩;obtain⟨c1,c2⟩:=c;cases(show c2=some s from es)
 exact k1.ok x1.2.1 _ rfl
end
structure KyT (κ:Type) where
 T:Ty κ
 key:κ->Key
 inj:∀{a b},key a=key b->a=b
 of:∀{a v H},T.R a v H->keyV v=some (key a)
abbrev kInt:KyT Int:=⟨tyInt,vA,λh=>by injection h,λh=>by cases h;rfl⟩
section
variable {K:Fgg}{E:XK}{α ρ κ S B:Type}{F0 H0 F h H:Hp}{L:List Sl}{e e1 e2:TE}{T:Ty α}{r:Mo α}{O:Own ρ}{t u:TS}{LS:S->List Sl}{LB:B->List Sl}{KY:KyT κ}
abbrev DPr (KY:KyT κ)(T:Ty α)(H:Hp)(m:List (κ×α))(kvs:List (Key×V)):Prop:=Paired (λ(q:κ×α) (w:Key×V)=>w.1=KY.key q.1/\T.R q.2 w.2 H) m kvs
theorem DPr.mono {m:List (κ×α)}{kvs:List (Key×V)}{H H':Hp}(g:Same H H')(h:DPr KY T H m kvs):DPr KY T H' m kvs:=zbA_ (λ_ _ r=>⟨r.1,T.mono g r.2⟩) h
theorem DPr.imm (i:Imm T){m:List (κ×α)}{kvs:List (Key×V)}{H H':Hp}(g:Tups H H')(h:DPr KY T H m kvs):DPr KY T H' m kvs:=zbA_ (λ_ _ r=>⟨r.1,i g r.2⟩) h
abbrev tyD (KY:KyT κ)(T:Ty α):Ty (List (κ×α)):=⟨λm v H=>∃p kvs,v=.ref p/\H p=some (.dK kvs)/\DPr KY T H m kvs,λg ⟨p,kvs,e,h,q⟩=>⟨p,kvs,e,g _ _ h,q.mono g⟩⟩
noncomputable abbrev owD (KY:KyT κ)(T:Ty α):Own (List (κ×α)):=⟨λm v F h=>∃p kvs,v=.ref p/\h=one p (.dK kvs)/\DPr KY T F m kvs,tyD KY T,λg ⟨p,vs,e,z,q⟩=>⟨p,vs,e,z,q.mono g⟩,
 λd ⟨p,vs,e,z,q⟩=>⟨p,vs,e,zgE_ d _ _ (by rw[z];exact zaa_),q.mono zdc_⟩,
 λ⟨p,vs,e,z,q⟩ b xs y=>by rw[z]at y;unfold one at y;split at y<;>cases y⟩
theorem zp7_ (i:Imm T):ImmO (owD KY T):=λg ⟨p,vs,e,z,q⟩=>⟨p,vs,e,z,q.imm i g⟩
variable [DecidableEq κ]
def getA (m:List (κ×α))(k:κ):Option α:=(m.find? λq=>decide (q.1=k)).map (·.2)
def putA (m:List (κ×α))(k:κ)(v:α):List (κ×α):=if(m.any λq=>decide (q.1=k))=true then m.map (λq=>if q.1=k then(q.1,v)else q)else m++[(k,v)]
theorem znp_ (a b:κ):decide (KY.key a=KY.key b)=decide (a=b):=by rw[decide_eq_decide];exact⟨KY.inj,λh=>by rw[h]⟩
theorem zj4_ {m:List (κ×α)}{kvs:List (Key×V)}(h:DPr KY T H m kvs)(k:κ):(getA m k=none/\valV kvs (KY.key k)=none)\/∃a v,getA m k=some a/\valV kvs (KY.key k)=some v/\T.R a v H:=by
 induction h with
 |nil=>exact .inl ⟨rfl,rfl⟩
 |cons r t ih=>
  rename_i q w m kvs
  unfold getA valV at ih ⊢;rw[rE,rE,r.1,znp_];grind
theorem zrk_ {m:List (κ×α)}{kvs:List (Key×V)}(h:DPr KY T H m kvs)(k:κ):(kvs.any λw=>decide (w.1=KY.key k))=m.any λq=>decide (q.1=k):=by
 induction h with
 |nil=>rfl
 |cons r t ih=>rw[sC,sC,ih,r.1,znp_]
theorem zqs_ {m m':List (κ×α)}{kvs aE:List (Key×V)}(h:DPr KY T H m kvs)(h':DPr KY T H m' aE):DPr KY T H (m++m') (kvs++aE):=by
 induction h with
 |nil=>exact h'
 |cons r t ih=>exact .cons r ih
theorem zrU_ {m:List (κ×α)}{kvs:List (Key×V)}(h:DPr KY T H m kvs)(k:κ){a:α}{v:V}(hv:T.R a v H):DPr KY T H (m.map λq=>if q.1=k then(q.1,a)else q) (kvs.map λw=>if w.1=KY.key k then(w.1,v)else w):=by
 induction h with
 |nil=>exact .nil
 |cons r t ih=>
  rename_i q w m kvs
  rw[qv,qv];refine .cons ?_ ih;by_cases e:q.1=k
  ·rw[if_pos e,if_pos (by rw[r.1,e])];exact⟨r.1,hv⟩
  ·rw[if_neg e,if_neg (λz=>e (KY.inj (by rw[<- r.1,z])))];exact r
theorem zmI_ {m:List (κ×α)}{kvs:List (Key×V)}(h:DPr KY T H m kvs)(k:κ){a:α}{v:V}(hv:T.R a v H):DPr KY T H (putA m k a) (putK kvs (KY.key k) v):=by
 unfold putA putK;rw[zrk_ h];split
 ·exact zrU_ h k hv
 ·exact zqs_ h (.cons ⟨rfl,hv⟩ .nil)
theorem znn_ (KY:KyT κ)(T:Ty α):EvO K tDNewK E L (.ok []) (owD KY T):=by
 intro σ F H Q hL hs q p hp;have q':OwnK (owD KY T) H Q [] F (upd H p (.dK [])):=q F _ (.heap hs (zbY_ hp _));refine q' (.ref p) (one p (.dK [])) (λb z=>?_) (λb=>?_) (λb o z=>?_) ⟨p,[],rfl,rfl,.nil⟩
 ·unfold one at z;split at z
  ·rename_i e;rw[e];exact hp
  ·exact absurd rfl z
 ·unfold one;split
  ·rename_i e;rw[e];exact .inl (hs.free hp)
  ·exact .inr rfl
 ·unfold one at z;split at z
  ·rename_i e;rw[e];cases z;exact zq_
  ·cases z
theorem zie_ (i:Nat){m:List (κ×α)}(h:L[i]?=some (.ow (owD KY T) m)):EvF K (mVar i) E L (.ok m) (tyD KY T):=zkM_ i h
theorem at_d {x y:V}{R:nc->List (Key×V)->Key->Prop}{m:List (κ×α)}{k:κ}(hx:(tyD KY T).R m x F)(hy:KY.T.R k y F)(hs:Same F H)(hr:∀p kvs,H p=some (.dK kvs)->DPr KY T F m kvs->R p kvs (KY.key k)):atD x y H R:=by
 obtain⟨p,kvs,rfl,hp,hd⟩:=hx;unfold atD;simp only;rw[KY.of hy];exact⟨kvs,hs _ _ hp,hr p kvs (hs _ _ hp) hd⟩
theorem zmx_ {r1:Mo (List (κ×α))}{r2:Mo κ}(h1:EvF K e1 E L r1 (tyD KY T))(h2:EvF K e2 E L r2 KY.T):EvF K (mDGet e1 e2) E L (r1.bind λm=>r2.bind λk=>.opt (getA m k)) T:=by
 intro σ F H Q hL hs q;refine h1 σ F H _ hL hs (q.bind.imp λm F1 H1 x1 k1 v1 bH=>?_)
 refine h2 σ F1 H1 _ (hL.mono x1.1) x1.2.1 (k1.bind.imp λk F2 H2 x2 k2 v2 ba=>?_)
 refine at_d ((tyD KY T).mono x2.1 bH) ba x2.2.1 λp kvs hp hd=>?_
 obtain⟨a,ea,k3⟩:=k2.opt;rcases zj4_ hd k with⟨z,_⟩|⟨a',v,z1,z2,z3⟩
 ·rw[z]at ea;cases ea
 ·rw[z1]at ea;cases ea
  exact⟨v,z2,k3.ok x2.2.1 v z3⟩
theorem ztf_ (neg:Bool){r1:Mo (List (κ×α))}{r2:Mo κ}(h2:EvF K e2 E L r2 KY.T)(h1:EvF K e1 E L r1 (tyD KY T)):EvF K (mDIn neg e2 e1) E L (r2.bind λk=>r1.bind λm=>.ok (if neg then !(getA m k).isSome else(getA m k).isSome)) tyBl:=by
 intro σ F H Q hL hs q;refine h2 σ F H _ hL hs (q.bind.imp λk F1 H1 x1 k1 v1 bH=>?_)
 refine h1 σ F1 H1 _ (hL.mono x1.1) x1.2.1 (k1.bind.imp λm F2 H2 x2 k2 v2 ba=>?_)
 refine at_d ba (KY.T.mono x2.1 bH) x2.2.1 λp kvs hp hd=>?_
 have e:(valV kvs (KY.key k)).isSome=(getA m k).isSome:=by
  rcases zj4_ hd k with⟨z1,z2⟩|⟨a',v,z1,z2,z3⟩
  ·rw[z1,z2];rfl
  ·rw[z1,z2];rfl
 rw[e];exact k2.ok x2.2.1 _ rfl
theorem zec_ {i:Nat}{σ:St}{m:List (κ×α)}(hL:Hold L σ F h)(hi:L[i]?=some (.ow (owD KY T) m))(ok:Okk F0 H0 F h H):
  ∃p kvs,σ[i]?=some (some (.ref p))/\H p=some (.dK kvs)/\DPr KY T F m kvs/\∀m' aE,DPr KY T F m' aE->∃h',Hold (L.set i (.ow (owD KY T) m')) σ F h'/\Okk F0 H0 F h' (upd H p (.dK aE)):=by
 obtain⟨o,h1,h2,e1,j,⟨v,e2,p,kvs,rfl,rfl,hr⟩,f⟩:=hL.at i hi;subst e2;have hp:h p=some (.dK kvs):=j.l _ _ zaa_;have ka:h2 p=none:=by
  rcases j.dj p with z |z
  ·rw[zaa_]at z;cases z
  ·exact z
 refine⟨p,kvs,e1,ok.2.2.1 _ _ hp,hr,λm' aE aP=>?_⟩
 have d2:Dj (one p (.dK aE)) h2:=λq=>by
  unfold one;split
  ·rename_i z;rw[z];exact .inr ka
  ·exact .inl rfl
 have g:=f (.ow (owD KY T) m') (some (.ref p)) (one p (.dK aE)) _ (zjt_ d2) ⟨_,rfl,p,aE,rfl,rfl,aP⟩;rw[zch_ e1]at g;refine⟨_,g,zm6_ (h1':=h) (hr:=h) (h':=h) ok (by rw[hp];exact sN _) (λxs z=>by cases z) _ λb=>?_⟩
 unfold un one;by_cases z:b=p
 ·simp only[if_pos z]
 ·simp only[if_neg z]
  rcases j b with⟨_,c⟩|⟨a,c⟩
  ·exact c.symm
  ·rw[c,a];unfold one;rw[if_neg z]
theorem zth_ {i:Nat}{m:List (κ×α)}{r2:Mo κ}{k:α->κ->Mo (Out ρ B S)}(hi:L[i]?=some (.ow (owD KY T) m))(hT:Imm T)(mB:Imm KY.T)(he:EvF K e E L r T)(gS:EvF K e2 E L r2 KY.T)(hk:∀a y,EvS K u E (L.set i (.ow (owD KY T) (putA m y a))) (k a y) LS LB O):
  EvS K (tSeq (mDPut (mVar i) e2 e) u) E L (r.bind λa=>r2.bind λy=>.lim (m.length+1) (k a y)) LS LB O:=by
 intro F0 H0 σ F h H D hL ok fin;show e σ H λv H1=>mVar i σ H1 λx H2=>e2 σ H2 λy H3=>atD x y H3 λa kvs k=>kvs.length<pX/\u D σ (upd H3 a (.dK (putK kvs k v)))
 refine he σ (un F h) H _ (hL.froz ok.2.1) ok.thaw (zaw_ (G:=F) ok _ (.inl rfl) fin λa F1 H1 b_ x1 v hv=>?_)
 obtain⟨o,hs,ht⟩:=ok.back x1;rw[b_]at fin;have bh:=hL.mono hs;have dS:=hT ht hv;obtain⟨p,kvs,e1,hp,hr,_⟩:=zec_ bh hi o;refine zdY_ e1 ?_;refine gS σ (un _ h) H1 _ (bh.froz o.2.1) o.thaw (zaw_ (G:=F) o _ (.inl rfl) fin λy F2 H2 jI x2 v2 ba=>?_)
 obtain⟨o',bw,fb⟩:=o.back x2;rw[jI]at fin;obtain⟨hz,fin⟩:=zgU_ (show Fin K (Mo.lim (m.length+1) (k a y)) E LS LB O F0 H0 D from fin)
 obtain⟨p',aE,aI,hp',aP,mm⟩:=zec_ (bh.mono bw) hi o';rw[e1]at aI;cases aI;obtain⟨h',a1,a2⟩:=mm (putA m y a) (putK aE (KY.key y) v) (zmI_ aP y (T.mono bw dS));unfold atD;simp only;rw[KY.of ba];refine⟨aE,hp',?_,hk a y F0 H0 σ _ h' _ D a1 a2 fin⟩;have:=Paired.length aP;lia
end
section
variable {α κ:Type}[DecidableEq κ]
theorem zjS_ (m:List (κ×α))(k j:κ)(v:α):getA (putA m k v) j=if k=j then some v else getA m j:=by
 unfold getA putA;by_cases ha:(m.any λq=>decide (q.1=k))=true
 ·rw [if_pos ha]
  induction m with
  |nil=>cases ha
  |cons q m ih=>
   rw[qv,rE,rE];by_cases e:q.1=k
   ·rw [if_pos e]
    by_cases e2:k=j
    ·rw[if_pos e2]
     simp[e,e2]
    ·rw[if_neg e2]
     have:¬q.1=j:=λz=>e2 (by rw[<- e,z])
     simp only[decide_eq_false this];by_cases hb:(m.any λq=>decide (q.1=k))=true
     ·have:=ih hb
      rw[if_neg e2]at this;exact this
     ·have e3:m.map (λq=>if q.1=k then(q.1,v)else q)=m:=by
       rw[tY (g:=id) (λx hx=>?_),vT]
       grind
      rw[e3]
   ·grind
 ·grind
end
section
end
theorem ztq_:isSubtype (ui "int") (ui "int")=pure true:=by first |rfl |exact AutoSeq1.sub_int_int
theorem zs9_:typeLookup (ui "str") (tQ "__int__")=pure none:=by kernel_rfl!
theorem zsJ_:typeLookup (ui "str") (tQ "__index__")=pure none:=by kernel_rfl!
theorem zta_:typeLookup (ui "str") (tQ "__trunc__")=pure none:=by kernel_rfl!
theorem zrg_ {t:Tok}{c:Nat}(h0:48<=c)(h1:c<=57):Meets (uv.«int.__new__» ⟨[.type "int",.str ⟨#[c]⟩ t],[]⟩) (λ_ R s=>R (.ok (.ret (.int ((c:Int)-48) s.toks))) {s with toks:=s.toks+1}):=by
 intro prog w A R s h;have f2:=ztq_;have f3:=PySem.F.madeHere_int;have f4:=zs9_;have f5:=zsJ_;have f6:=zta_
 wp_walk
 refine Eq.mp (congrArg (λt=>nI (model prog w) A.in1 t _ _ _) (?e:mkInt ((c:Int)-48)=_)) ?_
 case e=>
  have:c=48\/c=49\/c=50\/c=51\/c=52\/c=53\/c=54\/c=55\/c=56\/c=57:=by lia
  clear h f2 f3 f4 f5 f6 h0 h1;rcases this with rfl |rfl |rfl |rfl |rfl |rfl |rfl |rfl |rfl |rfl<;>kernel_rfl!
 wp_walk
 exact h
def figB (z:List Nat):Bool:=match z with |[c]=>decide (48<=c/\c<=57)|_=>false
def figV (z:List Nat):Int:=match z with |[c]=>(c:Int)-48 |_=>0
def mIntC:List V->Hp->VK->Prop:=λxs H Q=>match xs with
 |[.str z]=>figB z.cps.toList=true/\Q (.int (figV z.cps.toList)) H
 |[.bl b]=>Q (.int (if b=true then 1 else 0)) H
 |_=>False
theorem zli_ {X:Cx}:CallR X (.type "int") mIntC:=by
 intro pins s σ H xs us Q I r h;unfold mIntC at h;split at h
 ·rename_i z
  obtain⟨u,rfl,t,rfl⟩:=vals1 r;obtain⟨hf,q⟩:=h;unfold figB at hf;split at hf
  ·rename_i c hc
   have hz:z=⟨#[c]⟩:=by rw[zb3_ z,hc]
   subst hz;have hf:=of_decide_eq_true hf;refine call_int_1 (zrg_ hf.1 hf.2) ?_;refine⟨?_,.int ((c:Int)-48),H,I.tok _,⟨_,rfl⟩,q⟩;exact rfl
  ·cases hf
 ·rename_i b
  obtain⟨u,rfl,ru⟩:=vals1 r;cases ru;exact call_int_bool ⟨.int (if b=true then 1 else 0),H,I.tok _,⟨_,rfl⟩,h⟩
 ·exact h.elim
section
variable {K:Fgg}{E:XK}
theorem zqp_:Bl K mIntC E (csLast tyBl) (λb=>.ok (if b=true then 1 else 0)) tyInt:=by
 rintro c vs F H Q hs ⟨v,rfl,rfl⟩ q;exact q.ok hs _ rfl
end
end L2
namespace Att
open PySem PySem.W PySem.Calls PyProof.Rows
theorem zoA_ {ns:List Int}(h:WData.layableAll [WData.list (ns.map WData.int)]=true):∀x∈ns,tZ x<=1048576:=by
 intro x hx;have h1:=layableW_arg h _ (pS.mpr rfl);have h2:=layableW_item h1 (.int x) (qp.mpr ⟨x,hx,rfl⟩);exact PyData.bits_of_layable (layable_int h2)
theorem attach_callB {l:OpenLaw}{n:Nat}{q:m7}{loose:List Str}{XP:(Str->Option aL)->Heap->Prop}{YP:nL->Heap->Prop}{d:DefRec}
  (hn:l.most=some n) (gU:d.params.defaults=[])
  (call:∀(w:nL) (s₀ ag:kZ) (mg mb:Str->Option aL) (fa:nc) (o:wb) (pm cd doc:aL) (a:nc) (vs:List aL) (ns:List Int),
   (∀x∈ns,tZ x<=1048576) ->
   Ground q loose [] XP w s₀ mg mb ag.heap->YP w ag.heap ->
   ag.heap.get? fa=some o->o.data=.func (docDef d.name d.params d.body d.scope pm cd doc)->ag.heap.CodeRec cd d.name->mg d.name=some (.ref fa) ->
   ag.heap.get? a=some {cls:=.type "list",data:=.seq vs.toArray}->IntsAre vs ns->ns.length<=n->ag.gens=#[] ->
   codeAny (model l.prog w) callerA (.call (.ref fa) ⟨[.ref a],[]⟩) (λr s'=>r=.ok (.ret (.bool true))/\OldK ag.heap s'.heap/\s'.os=ag.os/\AllBare s'.gens) ag):
  WalkO q loose XP YP l.row.toRowW d [] (λf vs=>xu f vs):=by
 intro w s₀ ag mg mb G Y fa o pm cd doc dV kV ho hd bB hD gI hg args vals as dF jP mi jB jN;obtain rfl:dV=.none:=Dflts.none hD gU;obtain rfl:kV=.none:=Dflts.noKw hD;obtain⟨a,vs,ns,rfl,rfl,fw,hints,hlen⟩:=zlY_ hn dF jB;refine enter_call (codeAny_mono (call w s₀ ag mg mb fa o pm cd doc a vs ns (zoA_ jP) G Y ho (fd_plain hd) bB gI fw hints hlen hg) λr s' hq=>?_)
 obtain⟨rfl,h2,h3,h4⟩:=hq;exact⟨.inl ⟨.bool true,.bool true,[],rfl,λ_=>rfl,.bool true,zma_ l _,λ_=>⟨yF,λ_ hm=>(nomatch hm)⟩⟩,h2,h3,h4⟩
end Att
namespace L2
open PySem PySem.Spec PyProof.Rows
theorem zoY_ {l:wN}{n k:Nat}{q:m7}{loose:List Str}{XP:(Str->Option aL)->Heap->Prop}{YP:nL->Heap->Prop}{d:DefRec}{K:Params->Fgg}{CX:nL->CXT}{sp:nL->Sp}{x:Str}
  (hn:l.most=some n) (cf:n<=pX) (gU:d.params.defaults=[]) (hr:Room k callerA)
  (hY:∀(w:nL) (h:Heap),YP w h->(K w.params).In h)
  (F:∀(w:nL) (mg:Str->Option aL) (fa:nc) (h:Heap),(K w.params).In h->h.Ns qm mg->mg d.name=some (.ref fa) ->
   ∃fd:rm,(∀(s:kZ) (u:aL),BindsTo s fd ⟨[u],[]⟩ [(x,u)]) /\
    ∀base:Heap,(K w.params).In base->base.Ns qm mg->FnOk l.prog w (K w.params) mg base (CX w) k fa fd [x] (sp w))
  (bI:∀(w:nL) (H:Hp) (a:nc) (ns:List Int),ns.length<=n->(∀x∈ns,tZ x<=1048576)->Only H->SqL (K w.params) H a (ns.map V.int)->sp w [.ref a] H (λv _=>v=.bl true) λ_ _ _=>False)
  (j_:∀(w:nL) (H:Hp) (s:kZ) (e:aL) (s':kZ),CX w [] H s (λ_ _ _=>False) e s'->False):
  W.WalkO q loose XP YP l.row.toRowW d [] (λf vs=>xu f vs):=by
 refine Att.attach_callB hn gU λw s₀ ag mg mb fa o pm cd doc a vs ns gV G Y ho hd bB gI fw hints hlen hg=>?_
 have KX:=hY w _ Y;obtain⟨fd,hb,hF⟩:=F w mg fa _ KX G.T.g gI;exact znW_ KX G.T.g G.T.b G.T.builtins G.T.nolimit hg fw hints (qV hlen cf) hr hF hb (λH hO hS=>bI w H a ns hlen gV hO hS) λH e s'=>j_ w H ag e s'
abbrev BitsOk (ns:List Int):Prop:=∀x∈ns,tZ x<=1048576
open PySem PySem.Spec PyProof.Rows PySem.W
section
variable {α β:Type}
def okT (lt:Nat->Nat->Bool)(n:Nat):KasT α->(α->Prop)->Prop
 |.ret a,P=>P a
 |.ask i j k,P=>i<n/\j<n/\okT lt n (k (lt i j)) P
variable {lt:Nat->Nat->Bool}{n:Nat}
theorem zdP_ {f:α->KasT β}{P:β->Prop}:∀(t:KasT α),okT lt n t (λa=>okT lt n (f a) P)->okT lt n (t.bind f) P
 |.ret _,h=>h
 |.ask i j k,h=>⟨h.1,h.2.1,zdP_ (k (lt i j)) h.2.2⟩
theorem zbH_ {P Q:α->Prop}(hq:∀a,P a->Q a):∀(t:KasT α),okT lt n t P->okT lt n t Q
 |.ret _,h=>hq _ h
 |.ask i j k,h=>⟨h.1,h.2.1,zbH_ hq (k (lt i j)) h.2.2⟩
theorem zpE_ {prog:m7}{w:nL}{A:qu}{κ:SortKind}{vs:List aL}{s:kZ}{P:α->Prop}{Q:α->kZ->Prop}
  (cm:∀i j (C:Bool->kZ->Prop),i<n->j<n->C (lt i j) s->kas_ask prog w A κ vs i j C s) (hq:∀a,P a->Q a s):∀t:KasT α,okT lt n t P->t.kasWp (kas_ask prog w A κ vs) Q s
 |.ret a,h=>hq a h
 |.ask i j k,h=>cm i j (λb s'=>(k b).kasWp (kas_ask prog w A κ vs) Q s') h.1 h.2.1 (zpE_ cm hq (k (lt i j)) h.2.2)
structure WOr (lt:Nat->Nat->Bool):Prop where
 asym:∀{a b},lt a b=true->lt b a=false
 tr:∀{a b c},lt b a=false->lt c b=false->lt c a=false
abbrev le (lt:Nat->Nat->Bool)(a b:Nat):Prop:=lt b a=false
theorem WOr.refl (w:WOr lt)(a:Nat):le lt a a:=by
 cases h:lt a a with
 |false=>exact h
 |true=>exact w.asym h
abbrev Pm (p:Array Nat)(n:Nat):Prop:=p.toList.Perm (qG n)
theorem zeQ_ {p:Array Nat}(h:Pm p n):p.size=n:=by have:=h.length_eq;rwa[qY,qZ]at this
theorem zla_ {p:Array Nat}(h:Pm p n){i:Nat}(hi:i<n):p.getD i 0<n:=by
 have hs:=zeQ_ h;have:p.getD i 0=p[i]'(by lia):=by simp[yC,hs,hi]
 rw[this];exact rd.mp (h.mem_iff.mp (by simp))
theorem zcs_ {p q:Array Nat}{i j:Nat}(h:p[i]?=q[j]?):p.getD i 0=q.getD j 0:=by
 rw[rR,rR,h]
theorem zkj_ {p:Array Nat}(h:Pm p n)(i j:Nat):Pm (kas_rev p i j) n:=(vg.mp (mirror_perm p i j _)).trans h
theorem zg6_ {p:Array Nat}{i j:Nat}(hj:j<=p.size)(k:Nat):(kas_rev p i j).getD k 0=if i<=k/\k<j then p.getD (i+j-1-k) 0 else p.getD k 0:=by
 have:=getElem?_mirror_all (xs:=p) (i:=i) hj k;split
 ·rename_i q;rw[if_pos q]at this;exact zcs_ this
 ·rename_i q;rw[if_neg q]at this;exact zcs_ this
def Asc (lt:Nat->Nat->Bool)(p:Array Nat)(k:Nat):Prop:=∀i j,i<=j->j<k->le lt (p.getD i 0) (p.getD j 0)
def Dsc (lt:Nat->Nat->Bool)(p:Array Nat)(k:Nat):Prop:=∀i j,i<=j->j<k->le lt (p.getD j 0) (p.getD i 0)
theorem Asc.one (w:WOr lt)(p:Array Nat):Asc lt p 1:=λi j a b=>by
 obtain rfl:i=j:=by lia
 exact w.refl _
theorem znr_ (w:WOr lt){p:Array Nat}(hp:Pm p n):∀(f m:Nat),1<=m->m+f<=n->Asc lt p m->okT lt n (kas_asc p f m) (λr=>m<=r/\r<=m+f/\Asc lt p r/\(r<m+f->lt (p.getD r 0) (p.getD (r-1) 0)=true))
 |0,m,h1,hm,ha=>⟨nG _,nG _,ha,λh=>absurd h (tL _)⟩
 |f+1,m,h1,hm,ha=>by
  refine⟨zla_ hp (by lia),zla_ hp (by lia),?_⟩
  show okT lt n (if lt (p.getD m 0) (p.getD (m-1) 0)=true then KasT.ret m else kas_asc p f (m+1)) _
  cases h:lt (p.getD m 0) (p.getD (m-1) 0)with
  |true=>rw[if_pos rfl];exact⟨nG _,by lia,ha,λ_=>h⟩
  |false=>
   rw[if_neg (by decide)]
   refine zbH_ (λr q=>⟨by lia,by lia,q.2.2.1,λz=>q.2.2.2 (by lia)⟩) _ (znr_ w hp f (m+1) (by lia) (by lia) λi j cg hj=>?_)
   by_cases e:j<m
   ·exact ha i j cg e
   ·obtain rfl:j=m:=by lia
    by_cases e2:i=j
    ·subst e2;exact w.refl _
    ·exact w.tr (ha i (j-1) (by lia) (by lia)) h
theorem zrK_ (w:WOr lt){p:Array Nat}{m q:Nat}(hm:m<=p.size)(hq:q+1<=m)(hd:Dsc lt p m)(he:∀i,m-(q+1)<=i->i<m->le lt (p.getD i 0) (p.getD (m-1) 0)):Dsc lt (kas_rev p (m-(q+1)) m) m:=by
 intro i j cg hj;have r1:=zg6_ (p:=p) (i:=m-(q+1)) hm i;have r2:=zg6_ (p:=p) (i:=m-(q+1)) hm j;show lt _ _=false
 rw[r1,r2];by_cases a:m-(q+1)<=i
 ·rw[if_pos ⟨a,by omega⟩,if_pos ⟨by omega,hj⟩]
  exact w.tr (he _ (by omega) (by omega)) (hd _ (m-1) (by omega) (by omega))
 ·rw[if_neg (λz=>a z.1)]
  by_cases b:m-(q+1)<=j
  ·rw[if_pos ⟨b,hj⟩];exact hd _ _ (by omega) (by omega)
  ·rw[if_neg (λz=>b z.1)];exact hd _ _ cg hj
theorem zj0_ (w:WOr lt):∀(f:Nat) (p:Array Nat) (m q:Nat),Pm p n->q+1<=m->m+f<=n->Dsc lt p m->(∀i,m-(q+1)<=i->i<m->le lt (p.getD i 0) (p.getD (m-1) 0)) ->
  okT lt n (kas_desc f p m q) (λr=>Pm r.1 n/\r.2.2+1<=r.2.1/\r.2.1<=m+f/\Dsc lt r.1 r.2.1/\∀i,r.2.1-(r.2.2+1)<=i->i<r.2.1->le lt (r.1.getD i 0) (r.1.getD (r.2.1-1) 0))
 |0,p,m,q,hp,h1,hm,hd,he=>⟨hp,h1,nG _,hd,he⟩
 |f+1,p,m,q,hp,h1,hm,hd,he=>by
  have hsz:=zeQ_ hp;refine⟨zla_ hp (by lia),zla_ hp (by lia),?_⟩
  cases h:lt (p.getD m 0) (p.getD (m-1) 0)with
  |true=>
   dsimp only;rw[if_pos rfl];have fin:∀p1:Array Nat,Pm p1 n->Dsc lt p1 m->p1.getD m 0=p.getD m 0->(∀i,i<m->le lt (p.getD (m-1) 0) (p1.getD i 0))->okT lt n (kas_desc f p1 (m+1) 0) (λr=>Pm r.1 n/\r.2.2+1<=r.2.1/\r.2.1<=m+(f+1)/\Dsc lt r.1 r.2.1/\∀i,r.2.1-(r.2.2+1)<=i->i<r.2.1->le lt (r.1.getD i 0) (r.1.getD (r.2.1-1) 0)):=by
    intro p1 fk jY e1 hb;refine zbH_ (λr q=>⟨q.1,q.2.1,by lia,q.2.2.2⟩) _ (zj0_ w f p1 (m+1) 0 fk (by lia) (by lia) (λi j cg hj=>?_) λi a b=>?_)
    ·by_cases e:j<m
     ·exact jY i j cg e
     ·obtain rfl:j=m:=by lia
      by_cases e2:i=j
      ·subst e2;exact w.refl _
      ·rw[e1];exact w.tr (w.asym h) (hb i (by lia))
    ·obtain rfl:i=m:=by lia
     exact w.refl _
   by_cases hq:q > 0
   ·rw[if_pos hq]
    refine fin _ (zkj_ hp _ _) (zrK_ w (by lia) h1 hd he) ?_ λi hi=>?_
    ·rw[zg6_ (by lia),if_neg (by lia)]
    ·rw[zg6_ (by lia)]
     split
     ·exact hd _ _ (by lia) (by lia)
     ·exact hd _ _ (by lia) (by lia)
   ·rw[if_neg hq]
    exact fin p hp hd rfl λi hi=>hd _ _ (by lia) (by lia)
  |false=>
   dsimp only;rw[if_neg (by decide)]
   refine⟨zla_ hp (by lia),zla_ hp (by lia),?_⟩
   cases h2:lt (p.getD (m-1) 0) (p.getD m 0)with
   |true=>dsimp only;rw[if_pos rfl];exact⟨hp,h1,by show m<=m+(f+1);lia,hd,he⟩
   |false=>
    dsimp only;rw[if_neg (by decide)]
    refine zbH_ (λr q=>⟨q.1,q.2.1,by lia,q.2.2.2⟩) _ (zj0_ w f p (m+1) (q+1) hp (by lia) (by lia) (λi j cg hj=>?_) λi a b=>?_)
    ·by_cases e:j<m
     ·exact hd i j cg e
     ·obtain rfl:j=m:=by lia
      by_cases e2:i=j
      ·subst e2;exact w.refl _
      ·exact w.tr h2 (hd i (j-1) (by lia) (by lia))
    ·show le lt (p.getD i 0) (p.getD m 0)
     by_cases e:i=m
     ·subst e;exact w.refl _
     ·exact w.tr (he i (by lia) (by lia)) h
abbrev Got (lt:Nat->Nat->Bool)(n:Nat)(r:Nat×Array Nat):Prop:=Pm r.2 n/\r.1<=n/\Asc lt r.2 r.1
theorem zjA_ (w:WOr lt){p:Array Nat}{m:Nat}(hp:Pm p n)(h1:1<=m)(hm:m<=n)(hd:Dsc lt p m):okT lt n (kas_tail3 m n p) (Got lt n):=by
 have hsz:=zeQ_ hp;refine zdP_ _ (zbH_ (λr q=>?_) _ (znr_ w (zkj_ hp 0 m) (n-m) m h1 (by omega) λi j cg hj=>?_))
 ·exact⟨zkj_ hp 0 m,by show r<=n;omega,q.2.2.1⟩
 ·rw[zg6_ (by omega),zg6_ (by omega),if_pos (by omega),if_pos (by omega)]
  exact hd _ _ (by omega) (by omega)
theorem zfG_ (w:WOr lt){p:Array Nat}{m:Nat}(hp:Pm p n)(hm:m+1<=n)(hd:Dsc lt p (m+1)):okT lt n (kas_descPart m n p) (Got lt n):=by
 refine zdP_ _ (zbH_ (λr q=>?_) _ (zj0_ w (n-(m+1)) p (m+1) 0 hp (by lia) (by lia) hd λi a b=>?_))
 ·obtain⟨q1,q2,q3,q4,q5⟩:=q
  have hsz:=zeQ_ q1;by_cases z:r.2.2 > 0
  ·rw[if_pos z]
   exact zjA_ w (zkj_ q1 _ _) (by lia) (by lia) (zrK_ w (by lia) q2 q4 q5)
  ·rw[if_neg z]
   exact zjA_ w q1 (by lia) (by lia) q4
 ·obtain rfl:i=m:=by lia
  exact w.refl _
theorem zof_ (w:WOr lt){p:Array Nat}(hp:Pm p n)(hn:1<=n):okT lt n (kas_count n p) (Got lt n):=by
 have hsz:=zeQ_ hp;refine zdP_ _ (zbH_ (λm q=>?_) _ (znr_ w hp (n-1) 1 (nG _) (by lia) (Asc.one w p)))
 obtain⟨q1,q2,q3,q4⟩:=q;by_cases e:m=n
 ·rw[if_pos (by simp[e])];exact⟨hp,by show m<=n;lia,q3⟩
 ·rw [if_neg (by simp[e])]
  have hl:=q4 (by lia)
  by_cases z:m > 1
  ·rw [if_pos z]
   refine⟨zla_ hp (by lia),zla_ hp (by lia),?_⟩
   cases c:lt (p.getD 0 0) (p.getD (m-1) 0)with
   |true=>dsimp only;rw[if_pos rfl];exact⟨hp,by show m<=n;lia,q3⟩
   |false=>
    dsimp only;rw[if_neg (by decide)]
    have az:∀a b,a<m->b<m->le lt (p.getD a 0) (p.getD b 0):=λa b ha hb=>w.tr (w.tr (q3 a (m-1) (by lia) (by lia)) c) (q3 0 b (by lia) hb)
    refine zfG_ w (zkj_ hp 0 m) (by lia) λi j cg hj=>?_
    rw[zg6_ (by lia),zg6_ (by lia)]
    by_cases a:j<m
    ·rw[if_pos (by lia),if_pos (by lia)];exact az _ _ (by lia) (by lia)
    ·obtain rfl:j=m:=by lia
     rw[if_neg (by lia)]
     by_cases b:i<j
     ·rw[if_pos (by lia)];exact w.tr (w.asym hl) (az _ _ (by lia) (by lia))
     ·obtain rfl:i=j:=by lia
      rw[if_neg (by lia)];exact w.refl _
  ·rw[if_neg z]
   obtain rfl:m=1:=by lia
   refine zfG_ w hp (by lia) λi j cg hj=>?_
   by_cases a:i=j
   ·subst a;exact w.refl _
   ·obtain rfl:i=0:=by lia
    obtain rfl:j=1:=by lia
    exact w.asym hl
theorem zhl_ (w:WOr lt){p:Array Nat}{k:Nat}(hp:Pm p n)(hk:k<n)(ha:Asc lt p k):∀(f l r:Nat),l<=r->r<=k->r-l<=f->(∀i,i<l->le lt (p.getD i 0) (p.getD k 0))->(∀i,r<=i->i<k->le lt (p.getD k 0) (p.getD i 0)) ->
  okT lt n (kas_place p k f l r) (λm=>m<=k/\(∀i,i<m->le lt (p.getD i 0) (p.getD k 0))/\∀i,m<=i->i<k->le lt (p.getD k 0) (p.getD i 0))
 |0,l,r,h1,h2,h3,h4,h5=>⟨by show l<=k;omega,h4,λi a b=>h5 i (by omega) b⟩
 |f+1,l,r,h1,h2,h3,h4,h5=>by
  unfold kas_place;by_cases e:l ≥ r
  ·rw[if_pos e];exact⟨by show l<=k;omega,h4,λi a b=>h5 i (by omega) b⟩
  ·rw[if_neg e]
   refine⟨zla_ hp hk,zla_ hp (by omega),?_⟩
   cases c:lt (p.getD k 0) (p.getD ((l+r) / 2) 0)with
   |true=>
    dsimp only;rw[if_pos rfl];refine zhl_ w hp hk ha f l ((l+r) / 2) (by omega) (by omega) (by omega) h4 λi a b=>?_
    exact w.tr (w.asym c) (ha _ _ a b)
   |false=>
    dsimp only;rw[if_neg (by decide)]
    refine zhl_ w hp hk ha f ((l+r) / 2+1) r (by omega) h2 (by omega) (λi hi=>?_) h5
    exact w.tr (ha i ((l+r) / 2) (by omega) (by omega)) c
theorem zqj_ (w:WOr lt):∀(f:Nat) (p:Array Nat) (k:Nat),Pm p n->k+f=n->Asc lt p k->okT lt n (kas_bin f p k) (λr=>Pm r n/\Asc lt r n)
 |0,p,k,hp,hk,ha=>⟨hp,(show k=n by lia) ▸ ha⟩
 |f+1,p,k,hp,hk,ha=>by
  have hsz:=zeQ_ hp;refine zdP_ _ (zbH_ (λl q=>?_) _ (zhl_ w hp (by lia) ha k 0 k (by lia) (nG _) (by lia) (λi hi=>absurd hi (by lia)) λi a b=>absurd b (by lia)))
  obtain⟨q1,q2,q3⟩:=q;have hb:∀i,(bubble p k (k-l)).getD i 0=if i=l then p.getD k 0 else if l<i/\i<=k then p.getD (i-1) 0 else p.getD i 0:=λi=>by
   have:=getElem?_bubble (xs:=p) (src:=k) (by lia) (k-l) (by lia) i
   rw[show k-(k-l)=l by lia]at this
   split
   ·rename_i z;rw[if_pos z]at this;exact zcs_ this
   ·rename_i z
    rw[if_neg z]at this;split
    ·rename_i y;rw[if_pos y]at this;exact zcs_ this
    ·rename_i y;rw[if_neg y]at this;exact zcs_ this
  refine zqj_ w f _ (k+1) ((vg.mp (bubble_perm p k _)).trans hp) (by lia) λi j cg hj=>?_
  rw[hb,hb];by_cases e1:i=l
  ·rw[if_pos e1]
   by_cases e2:j=l
   ·rw[if_pos e2];exact w.refl _
   ·rw[if_neg e2,if_pos (by lia)];exact q3 _ (by lia) (by lia)
  ·rw[if_neg e1]
   by_cases e2:j=l
   ·rw[if_pos e2,if_neg (by lia)];exact q2 _ (by lia)
   ·rw[if_neg e2]
    by_cases e3:l<i
    ·rw[if_pos (by lia),if_pos (by lia)];exact ha _ _ (by lia) (by lia)
    ·rw[if_neg (by lia)]
     by_cases e4:l<j
     ·rw[if_pos (by lia)];exact ha _ _ (by lia) (by lia)
     ·rw[if_neg (by lia)];exact ha _ _ cg (by lia)
theorem zrv_ (w:WOr lt)(hn:1<=n):okT lt n (kas_sort n) (λr=>Pm r n/\Asc lt r n):=by
 have h0:Pm (uw (qG n)) n:=by simp[Pm]
 refine zdP_ _ (zbH_ (λr q=>?_) _ (zof_ w h0 hn))
 obtain⟨q1,q2,q3⟩:=q;by_cases e:r.1<n
 ·rw[if_pos e]
  refine zqj_ w _ _ _ q1 (by lia) ?_
  by_cases e1:r.1=0
  ·rw[e1];exact Asc.one w _
  ·rw[Nat.max_eq_left (by lia)];exact q3
 ·rw[if_neg e]
  obtain e:r.1=n:=by lia
  rw[e]at q3;exact⟨q1,q3⟩
end
section
variable {prog:m7}{w:nL}{A:qu}{E:aL->kZ->Prop}{s:kZ}{vs:List aL}{lt:Nat->Nat->Bool}
def CmpAt (prog:m7)(w:nL)(vs:List aL)(lt:Nat->Nat->Bool)(s:kZ):Prop:=
 ∃κ,(∀(A:qu) (C:SortKind->kZ->Prop),C κ s->nI (model prog w) A (keyKind' vs.toArray) C (λ_ _=>False) s) /\
  ∀(A:qu) i j (C:Bool->kZ->Prop),i<vs.length->j<vs.length->C (lt i j) s->kas_ask prog w A κ vs i j C s
def Srtd (lt:Nat->Nat->Bool)(n:Nat)(p:List Nat):Prop:=p.Perm (qG n)/\p.Pairwise (le lt)
theorem zpG_ {n:Nat}{p:Array Nat}(h:Pm p n/\Asc lt p n):Srtd lt n p.toList:=by
 refine⟨h.1,List.pairwise_iff_getElem.mpr λi j hi hj cg=>?_⟩
 have hs:=zeQ_ h.1;rw[qZ]at hi hj;have:=h.2 i j (by lia) (by lia)
 have e:∀k (hk:k<p.size),p.getD k 0=p.toList[k]'(by simpa using hk):=λk hk=>by simp[yC,hk]
 rwa[e i hi,e j hj]at this
def RunB (b:Nat):Prop:=b<=1000/\∀{prog:m7}{w:nL}{A:qu}{E:aL->kZ->Prop}{s:kZ}{vs:List aL}{lt:Nat->Nat->Bool}{κ:SortKind},2<=vs.length->vs.length<b->WOr lt ->
 (∀(A:qu) i j (C:Bool->kZ->Prop),i<vs.length->j<vs.length->C (lt i j) s->kas_ask prog w A κ vs i j C s) ->
 nI (model prog w) A ((sortRuns').run (SortSt.mk' κ (vs.toArray.zip vs.toArray) #[] 7 none)) (λr s'=>s'=s/\∃p:List Nat,(arrOf r.2).map (·.2)=(p.map λi=>vs.getD i qJ).toArray/\failedOf r.2=none/\Srtd lt vs.length p) E s
theorem runB64:RunB 64:=by
 refine⟨by decide,λ{prog w A E s vs lt κ} cf cT wo k2=>?_⟩
 refine qH (kat_run (Q:=λaO s'=>s'=s/\∃p:Array Nat,p.size=vs.length/\arrOf aO=p.map (kas_item (vs.toArray.zip vs.toArray))/\failedOf aO=none/\(Pm p vs.length/\Asc lt p vs.length)) (G:=λp s'=>s'=s/\(Pm p vs.length/\Asc lt p vs.length))
   rfl cf cT (λp' aO s' a1 a2 a3 a4=>⟨a4.1,p',a1,a2,a3,a4.2⟩) (zpE_ (P:=λr=>Pm r vs.length/\Asc lt r vs.length) (λi j C hi hj hc=>k2 A i j C hi hj hc) (λp hp=>⟨rfl,hp⟩) _ (zrv_ wo (by lia)))) ?_ λ_ _ e=>e
 rintro⟨⟨⟩,aO⟩ s' ⟨rfl,p,hp,har,hf,hpp⟩;exact⟨rfl,p.toList,kat_snds rfl har,hf,zpG_ hpp⟩
theorem zj3_ {b:Nat}(hB:RunB b){a:nc}{n:Nat}{P:PySem.Fin->kZ->Prop}(ho:s.heap.get? a=some (seqObj "list" vs.toArray n))(cT:vs.length<b)(wo:WOr lt)
  (kk:2<=vs.length->∀h':Heap,(∀b o,b≠a->s.heap.get? b=some o->h'.get? b=some o)->CmpAt prog w vs lt {s with heap:=h'})
  (q:∀(h':Heap) c (p:List Nat),(∀b o,b≠a->s.heap.get? b=some o->h'.get? b=some o)->Srtd lt vs.length p->h'.get? a=some (seqObj "list" (p.map λi=>vs.getD i qJ).toArray c)->P (.done (.ret .none)) {s with heap:=h'}):
  nI (model prog w) A (uv.«list.sort» ⟨[.ref a],[]⟩) P E s:=by
 have iE:=hB.1;have ha:a<s.heap.objs.size:=pT ho;have s1:=vX s.heap a (rA λ_=>(#[]:Array aL))
 obtain⟨e1,ho1⟩:∃e1,(s.heap.update a (rA λ_=>(#[]:Array aL))).get? a=some (seqObj "list" #[] e1):=⟨_,get?_update_seq ho λ_=>#[]⟩
 have kp:∀b o,b≠a->s.heap.get? b=some o->(((s.heap.update a (rA λ_=>(#[]:Array aL))).push (seqObj "tuple" vs.toArray 0)).push (seqObj "list" #[] 0)).get? b=some o:=λb o hb e=>
  iX _ (iX _ ((s1.2 b hb).trans e))
 have na:(((s.heap.update a (rA λ_=>(#[]:Array aL))).push (seqObj "tuple" vs.toArray 0)).push (seqObj "list" #[] 0)).get? a=some (seqObj "list" #[] e1):=iX _ (iX _ ho1)
 rw[list_sort_plain];refine iV (listItems_at ho rfl ?_);refine iV (listUpdate_at ho rfl ?_ (by rw[ng,sizeLine_eq];lia) (rB _))
 refine iV (seqEpoch_at ho1 rfl ?_);refine iV (wpAny_newTuple ?_ (by show vs.length<=_;rw[sizeLine_eq];lia))
 refine iV (wpAny_newList ?_ (rB _));refine wpAny_holding ?_;show nI (model prog w) A _ P E {s with heap:=((s.heap.update a (rA λ_=>(#[]:Array aL))).push (seqObj "tuple" vs.toArray 0)).push (seqObj "list" #[] 0)}
 generalize hh:((s.heap.update a (rA λ_=>(#[]:Array aL))).push (seqObj "tuple" vs.toArray 0)).push (seqObj "list" #[] 0)=h2 at kp na
 dsimp only
 have fin:∀(aO:SortSt) (p:List Nat),(arrOf aO).map (·.2)=(p.map λi=>vs.getD i qJ).toArray->failedOf aO=none->Srtd lt vs.length p->nI (model prog w) A (do
   let touched:=(<- seqEpoch a) != e1
   yd (.ref a) λ_=>(arrOf aO).map (·.2)
   if let some e:=failedOf aO then rule "list.sort.comparison-raised";throw e
   if touched then rule "list.sort.modified";raiseError "ValueError" "list modified during sort"
   ret .none) P E {s with heap:=h2}:=by
  intro aO p fm hf hp;rw[fm,hf];have hsz:(uw (p.map λi=>vs.getD i qJ)).size=vs.length:=by rw[ng,l6,hp.1.length_eq,qY]
  have s2:=vX h2 a (rA λ_=>uw (p.map λi=>vs.getD i qJ))
  obtain⟨c2,hc2⟩:∃c2,(h2.update a (rA λ_=>uw (p.map λi=>vs.getD i qJ))).get? a=some (seqObj "list" (uw (p.map λi=>vs.getD i qJ)) c2):=⟨_,get?_update_seq na λ_=>uw (p.map λi=>vs.getD i qJ)⟩
  refine iV (seqEpoch_at (s:={s with heap:=h2}) na rfl ?_);refine iV (listUpdate_at (s:={s with heap:=h2}) na rfl ?_ (rB _) (qV (wz hsz) (by rw[sizeLine_eq];lia)))
  simp only[bne_self_eq_false,uk,if_false];exact nh (q _ c2 p (λb o hb e=>(s2.2 b hb).trans (kp b o hb e)) hp hc2)
 by_cases cf:2<=vs.length
 ·have cK:¬vs.toArray.size<2:=by rw[ng];lia
  rw[if_neg cK,if_neg cK];obtain⟨κ,k1,k2⟩:=kk cf h2 kp;refine iV (qH (k1 A (λly s'=>ly=κ/\s'={s with heap:=h2}) ⟨rfl,rfl⟩) (λly s0 hk=>?_) λ_ _ x=>x.elim)
  obtain⟨rfl,rfl⟩:=hk;refine iV (qH (hB.2 cf cT wo k2) ?_ λ_ _ e=>e)
  rintro⟨⟨⟩,aO⟩ s' ⟨rfl,p,fm,hf,hpp⟩;exact fin aO p fm hf hpp
 ·have cK:vs.toArray.size<2:=by rw[ng];lia
  rw[if_pos cK,if_pos cK];refine iV (nh ?_);refine iV (nh ?_);refine fin _ (qG vs.length) ?_ rfl ⟨xv _,?_⟩
  ·show((vs.toArray.zip vs.toArray).map (·.2))=_
   apply wO.mp;rw[Array.toList_map,Array.toList_zip];have e:∀l:List aL,(l.zip l).map (·.2)=l:=λl=>by
    induction l with
    |nil=>rfl
    |cons x l ih=>rw[tJ,qv,ih]
   show(vs.zip vs).map (·.2)=(qG vs.length).map λi=>vs.getD i qJ
   rw[e];apply sX;intro i;by_cases hi:i<vs.length
   ·simp[hi]
   ·simp[tN,hi,Nat.le_of_not_lt hi]
  ·rcases(show vs.length=0\/vs.length=1 by lia)with e |e
   ·rw[e];exact .nil
   ·rw[e];exact List.pairwise_singleton _ _
theorem zpo_ {b:Nat}(hB:RunB b){l:nc}{Q:aL->kZ->Prop}(hl:s.heap.IsList l vs.toArray)(cT:vs.length<b)(wo:WOr lt)
  (kk:2<=vs.length->∀h':Heap,(∀b o,s.heap.get? b=some o->h'.get? b=some o)->CmpAt prog w vs lt {s with heap:=h'})
  (q:∀(h':Heap) c (p:List Nat),(∀b o,s.heap.get? b=some o->h'.get? b=some o)->Srtd lt vs.length p->h'.get? (s.heap.objs.size+1)=some (seqObj "list" (p.map λi=>vs.getD i qJ).toArray c)->Q (.ref (s.heap.objs.size+1)) {s with heap:=h'}):
  nI (model prog w) A (call (.builtin "sorted") [.ref l]) Q E s:=by
 have iE:=hB.1;refine Calls.call_function_entry kind_sorted plain_sorted entry_sorted (args_sorted1 _) ?_;unfold uv.«sorted»;refine iV (m:=checkCount "sorted" 1 1 _) (nh ?_);refine iV (collect_list hl ?_ (by rw[sizeLine_eq];lia))
 refine iV (wpAny_newList ?_ (by rw[sizeLine_eq];lia))
 have hsz:((s.heap.push (seqObj "list" #[] 0)).update s.heap.objs.size (rA (·++vs.toArray))).objs.size=s.heap.objs.size+1:=by
  rw[Heap.size_update,size_push']
 have dU:(((s.heap.push (seqObj "list" #[] 0)).update s.heap.objs.size (rA (·++vs.toArray))).push (seqObj "list" vs.toArray 0)).get? (s.heap.objs.size+1)=some (seqObj "list" vs.toArray 0):=by
  rw[<- hsz];exact p7 _ rfl
 have keep:∀b o,s.heap.get? b=some o->(((s.heap.push (seqObj "list" #[] 0)).update s.heap.objs.size (rA (·++vs.toArray))).push (seqObj "list" vs.toArray 0)).get? b=some o:=λb o q=>by
  have aD:b<s.heap.objs.size:=pT q;rw[wD _ _ _ (by rw[hsz];exact qo (uq aD)),uW _ _ _ _ (qo aD),wD _ _ _ (qo aD)]
  exact q
 show nI _ _ _ _ _ {s with heap:=((s.heap.push (seqObj "list" #[] 0)).update s.heap.objs.size (rA (·++vs.toArray))).push (seqObj "list" vs.toArray 0)}
 rw[hsz];have bG:∀(h':Heap),(∀b o,b≠s.heap.objs.size+1->(((s.heap.push (seqObj "list" #[] 0)).update s.heap.objs.size (rA (·++vs.toArray))).push (seqObj "list" vs.toArray 0)).get? b=some o->h'.get? b=some o)->∀b o,s.heap.get? b=some o->h'.get? b=some o:=λh' hk b o e=>
  hk b o (qo (uq (pT e))) (keep b o e)
 refine iV (wpAny_holding (wpAny_call_entry slot_list_sort ⟨_,dU,rfl⟩ entry_list_sort ?body (args_list_sort _)))
 case body=>
  refine zj3_ hB (s:={s with heap:=((s.heap.push (seqObj "list" #[] 0)).update s.heap.objs.size (rA (·++vs.toArray))).push (seqObj "list" vs.toArray 0)}) dU cT wo (λh2 h' hk=>kk h2 h' (bG h' hk)) λh' c p hk hp bR=>?_
  exact⟨_,rfl,nh ⟨_,rfl,q h' c p (bG h' hk) hp bR⟩⟩
end
def knd:V->Nat |.int _=>1 |.str _=>2 |_=>0
def ltF:V->V->Bool |.int a,.int b=>decide (a<b)|.str a,.str b=>decide (a.cps.toList<b.cps.toList)|_,_=>false
def eqF:V->V->Bool |.int a,.int b=>a == b |.str a,.str b=>decide (a=b)|_,_=>false
def lexV:List V->List V->Bool
 |x::xs,y::ys=>if eqF x y then lexV xs ys else ltF x y
 |_,_=>false
section
variable {prog:m7}{w:nL}{A:qu}{E:aL->kZ->Prop}{s:kZ}{Q:Bool->kZ->Prop}
theorem zbS_ {x:V}(h:knd x≠0):(∃i,x=.int i)\/∃z,x=.str z:=by
 cases x<;>first |exact .inl ⟨_,rfl⟩|exact .inr ⟨_,rfl⟩|exact absurd rfl h
theorem zkb_ {x y:V}{u v:aL}{b:Bool}(hx:RelV x u)(hy:RelV y v)(hk:knd x=knd y)(h0:knd x≠0)(q:Q (ltF x y) s):nI (model prog w) A (oneLt' b u v) Q E s:=by
 rcases zbS_ h0 with⟨i,rfl⟩|⟨z,rfl⟩
 ·rcases zbS_ (x:=y) (λe=>h0 (hk.trans e))with⟨j,rfl⟩|⟨z,rfl⟩
  ·obtain⟨t,rfl⟩:=hx
   obtain⟨t',rfl⟩:=hy;cases b with
   |true=>exact oneLt_int q
   |false=>exact kat_one _ _ (yy q)
  ·cases hk
 ·rcases zbS_ (x:=y) (λe=>h0 (hk.trans e))with⟨j,rfl⟩|⟨z',rfl⟩
  ·cases hk
  ·obtain⟨t,rfl⟩:=hx
   obtain⟨t',rfl⟩:=hy;cases b with
   |true=>exact oneLt_str q
   |false=>exact kat_one _ _ (yz q)
theorem eq_F {x y:V}{u v:aL}(hx:RelV x u)(hy:RelV y v)(hk:knd x=knd y)(h0:knd x≠0)(q:Q (eqF x y) s):nI (model prog w) A (eqBool u v) Q E s:=by
 rcases zbS_ h0 with⟨i,rfl⟩|⟨z,rfl⟩
 ·rcases zbS_ (x:=y) (λe=>h0 (hk.trans e))with⟨j,rfl⟩|⟨z,rfl⟩
  ·obtain⟨t,rfl⟩:=hx
   obtain⟨t',rfl⟩:=hy;exact wpAny_eqBool_int q
  ·cases hk
 ·rcases zbS_ (x:=y) (λe=>h0 (hk.trans e))with⟨j,rfl⟩|⟨z',rfl⟩
  ·cases hk
  ·obtain⟨t,rfl⟩:=hx
   obtain⟨t',rfl⟩:=hy;exact wpAny_eqBool_str q
theorem zjE_ {b:Bool}:∀{xs ys:List V}{us vs:List aL}(i:Nat),Vals xs us->Vals ys vs->xs.map knd=ys.map knd->(0:Nat)∉xs.map knd->Q (lexV xs ys) s->KatLex prog w A b false Q (us.zip vs) i s
 |[],[],_,_,i,.nil,.nil,_,_,q=>q
 |x::xs,[],_,_,i,_,_,hk,_,_=>by simp at hk
 |[],x::xs,_,_,i,_,_,hk,_,_=>by simp at hk
 |x::xs,y::ys,_,_,i,.cons hx r,.cons hy r',hk,h0,q=>by
  rw[qv,qv]at hk;injection hk with k1 k2;rw[qv]at h0;have z1:knd x≠0:=λe=>h0 (by rw[e];exact nu ..)
  have z2:(0:Nat)∉xs.map knd:=λe=>h0 (qa _ e)
  rw[tJ];refine kat_cons (eq_F hx hy k1 z1 (kat_go (λe=>kat_yes ?_) λe=>kat_no ?_))
  ·refine zjE_ (i+1) r r' k2 z2 ?_
   unfold lexV at q;rw[e,if_pos rfl]at q;exact q
  ·refine zkb_ hx hy k1 z1 ?_
   unfold lexV at q;rw[e,if_neg (by decide)]at q
   exact q
end
def SrtV (K:Fgg)(H:Hp)(ys:List V)(lt:Nat->Nat->Bool):Prop:=
 (∃k,k≠0/\(∀y∈ys,knd y=k)/\∀i j x y,ys[i]?=some x->ys[j]?=some y->lt i j=ltF x y) \/
 (∃(rows:Nat->List V) (ks:List Nat),ks≠[]/\0∉ks/\(∀i y,ys[i]?=some y->∃a,y=.ref a/\SqT K H a (rows i)/\(rows i).map knd=ks)/\∀i j,i<ys.length->j<ys.length->lt i j=lexV (rows i) (rows j))
def mSorted (b:Nat)(K:Fgg):List V->Hp->VK->Prop:=λxs H Q=>match xs with
 |[.ref p]=>∃ys lt,SqL K H p ys/\ys.length<b/\WOr lt/\SrtV K H ys lt/\∀idx,Srtd lt ys.length idx->∀l,H l=none->Q (.ref l) (upd H l (.lst (idx.map λi=>ys.getD i .non)))
 |_=>False
def tyK (k:Nat):aL:=if k=1 then .type "int" else .type "str"
theorem zkm_ {M:Model}{h:Heap}{x:V}{u:aL}{k:Nat}(r:RelV x u)(hk:knd x=k)(h0:k≠0):Looks M h (typeOf u) (tyK k):=by
 subst hk;rcases zbS_ h0 with⟨i,rfl⟩|⟨z,rfl⟩
 ·obtain⟨t,rfl⟩:=r
  exact .now
 ·obtain⟨t,rfl⟩:=r
  exact .now
theorem zoB_ (k:Nat):(tyK k != ui "tuple")=true:=by unfold tyK;split<;>decide +kernel
theorem zoi_ (k:Nat):(tyK k == tyK k)=true:=by unfold tyK;split<;>decide +kernel
theorem za6_ {ys:List V}{us:List aL}(r:Vals ys us){i:Nat}(h:i<us.length):∃y,ys[i]?=some y/\RelV y (us.getD i qJ)/\y∈ys:=by
 have hl:=Vals.length r;have e:ys[i]?=some ys[i]:=nj (by omega)
 obtain⟨u,eu,ru⟩:=Vals.get r e;refine⟨_,e,?_,tR _⟩;rw[ql,eu];exact ru
theorem zhR_ {ys:List V}{us:List aL}(r:Vals ys us):∀(idx:List Nat),(∀i∈idx,i<us.length)->Vals (idx.map λi=>ys.getD i .non) (idx.map λi=>us.getD i qJ)
 |[],_=>.nil
 |i::idx,h=>by
  obtain⟨y,e,ry,_⟩:=za6_ r (h i (nu ..));refine .cons ?_ (zhR_ r idx λj hj=>h j (qa _ hj))
  show RelV (ys.getD i V.non) _
  rw[ql,e];exact ry
section
variable {X:Cx}
theorem zhW_ {b:Nat}(hB:RunB b):CallR X (.builtin "sorted") (mSorted b X.K):=by
 have iE:=hB.1;intro pins s σ H xs us Q I r h;unfold mSorted at h;split at h
 ·rename_i p
  obtain⟨ys,lt,hp,cT,wo,sv,q⟩:=h;obtain⟨u,rfl,rx⟩:=vals1 r;cases rx;obtain⟨aa,r',pl,hz⟩:=I.list hp;have hlen:=Vals.length r';refine zpo_ hB pl.isList (by lia) wo (λh2 h' kp=>?_) λh' c idx kp hi ho=>?_
  ·rcases sv with⟨k,hk,az,aD⟩|⟨rows,ks,aF,h0,hrow,aD⟩
   ·refine⟨oneType',λA C hC=>?_,λA i j C hi hj hC=>?_⟩
    ·refine kas_kind h2 (T:=tyK k) (λv hv=>?_) (zoB_ k) (zoi_ k) hC
     obtain⟨i,hi⟩:=tM.mp hv;obtain⟨bT,_⟩:=qi.mp hi;obtain⟨y,_,ry,hy⟩:=za6_ r' bT;rw[ql,hi]at ry;exact zkm_ ry (az y hy) hk
    ·obtain⟨x,ex,rx,hx⟩:=za6_ r' hi
     obtain⟨y,ey,ry,hy⟩:=za6_ r' hj;rw[aD i j x y ex ey]at hC;unfold kas_ask;rw[keyLt'_oneType];exact zkb_ rx ry (by rw[az x hx,az y hy]) (by rw[az x hx];exact hk) hC
   ·have tup:∀i,i<aa.length->∃(a:nc) (o:wb) (ts:List aL) (n:Nat),aa[i]?=some (.ref a)/\h'.get? a=some o/\o.cls=.type "tuple" /\ o.data=.seq ts.toArray n/\Vals (rows i) ts/\(rows i).map knd=ks:=λi hi=>by
     obtain⟨y,e,ry,_⟩:=za6_ r' hi;obtain⟨a,rfl,ht,hk⟩:=hrow i y e;obtain⟨ts,rt,⟨o,ho,hc,n,hd⟩,_⟩:=I.tuple ht;refine⟨a,o,ts,n,?_,kp _ _ ho,hc,hd,rt,hk⟩;have:aa.getD i qJ=.ref a:=ry;grind
    obtain⟨k,iw,rfl⟩:∃k iw,ks=k::iw:=by
     cases ks with
     |nil=>exact absurd rfl aF
     |cons k iw=>exact⟨k,iw,rfl⟩
    have oS:k≠0:=λe=>h0 (by rw[e];exact nu ..)
    refine⟨tuples' true,λA C hC=>?_,λA i j C hi hj hC=>?_⟩
    ·have kt:∀(l:List aL) (d:Nat),aa.drop d=l->∃fs,KatTups h' l fs/\fs.length=l.length/\∀v∈fs,Looks (model X.prog X.w) h' (typeOf v) (tyK k):=by
      intro l;induction l with
      |nil=>intro d _;exact⟨[],.nil,rfl,λv hv=>by cases hv⟩
      |cons v l ih=>
       intro d hd;have jX:d<aa.length:=by
        have:=congrArg rZ hd;rw[rO,qh]at this;lia
       obtain⟨a,o,ts,n,e,ho,hc,hdd,rt,hk⟩:=tup d jX;have e2:aa.drop d=aa[d]::aa.drop (d+1):=tW jX;rw[hd]at e2;injection e2 with e3 e4;obtain⟨fs,k1,k2,k3⟩:=ih (d+1) e4.symm;rw[nj jX]at e;injection e with e;rw[e3,e];cases hr:rows d with
       |nil=>rw[hr]at hk;simp at hk
       |cons x xr=>
        rw[hr]at rt hk;cases rt with
        | @cons _ f _ tr rf rr=>
         rw[qv]at hk;injection hk with jR hk2;refine⟨f::fs,.cons ho hc hdd (by simp) k1,by simp[k2],λv hv=>?_⟩
         rcases qf.mp hv with rfl |hv
         ·exact zkm_ rf jR oS
         ·exact k3 v hv
     obtain⟨fs,k1,k2,k3⟩:=kt aa 0 rfl;have:=kat_kind (M:=model X.prog X.w) (A:=A) (E:=λ_ _=>False) (s:={s with heap:=h'}) (Q:=C) k1 (by lia) k3 (zoi_ k) (by rw[zoB_];exact hC)
     exact this
    ·obtain⟨a,o,ts,n,e,ho,hc,hd,rt,hk⟩:=tup i hi
     obtain⟨a2,o2,ts2,n2,e2,ho2,hc2,hd2,rt2,hk2⟩:=tup j hj;unfold kas_ask;rw[ql,ql,e,e2];have hl:ts.length=ts2.length:=by
      have a1:=Vals.length rt;have a2:=Vals.length rt2;have:=congrArg rZ (hk.trans hk2.symm);rw[l6,l6]at this;lia
     refine kat_lt (s:={s with heap:=h'}) ho hd ho2 hd2 ?_;rw[show decide (ts.toArray.size<ts2.toArray.size)=false from decide_eq_false (by simp[hl])]
     refine zjE_ 0 rt rt2 (hk.trans hk2.symm) (by rw[hk];exact h0) ?_
     rw[<- aD i j (by lia) (by lia)]
     exact hC
  ·refine⟨.ref (s.heap.objs.size+1),_,I.laid (o:=.lst (idx.map λi=>ys.getD i .non)) (t':=s.toks) kp (tG _) ?_,rfl,q idx (by rwa[hlen]) _ (I.hok.fresh (tG _))⟩
   have hi1:∀i∈idx,i<aa.length:=λi bT=>rd.mp (hi.1.mem_iff.mp bT)
   refine⟨?_,_,c,zhR_ r' idx hi1,ho⟩;rw[l6,hi.1.length_eq,qY,sizeLine_eq];lia
 ·exact h.elim
variable {α β:Type}
structure LOr (lt:α->α->Bool):Prop where
 asym:∀{a b},lt a b=true->lt b a=false
 tr:∀{a b c},lt b a=false->lt c b=false->lt c a=false
 anti:∀{a b},lt a b=false->lt b a=false->a=b
def srtL (lt:α->α->Bool)(xs:List α):List α:=xs.mergeSort (λa b=>!lt b a)
theorem zbO_ (lt:α->α->Bool)(xs:List α):(srtL lt xs).Perm xs:=List.mergeSort_perm _ _
theorem LOr.irr {lt:α->α->Bool}(o:LOr lt)(a:α):lt a a=false:=by
 cases h:lt a a with
 |false=>rfl
 |true=>rw[<- h];exact o.asym h
theorem zdu_ {lt:α->α->Bool}(o:LOr lt)(xs:List α):(srtL lt xs).Pairwise λa b=>lt b a=false:=by
 have:=List.pairwise_mergeSort (le:=λa b=>!lt b a) (λa b c h1 h2=>by simp only[vk]at *;exact o.tr h1 h2) (λa b=>by
  cases h:lt b a with
  |false=>simp
  |true=>simp[o.asym h]) xs
 exact this.imp (λh=>by simpa using h)
theorem zko_ {lt:α->α->Bool}(o:LOr lt):∀{ws ys:List α},ws.Perm ys->ws.Pairwise (λa b=>lt b a=false)->ys.Pairwise (λa b=>lt b a=false)->ws=ys
 |[],ys,hp,_,_=>by rw[List.Perm.nil_eq hp]
 |w::ws,[],hp,_,_=>by have:=hp.length_eq;simp at this
 |w::ws,y::ys,hp,h1,h2=>by
  obtain⟨a1,a2⟩:=wu.mp h1;obtain⟨b1,b2⟩:=wu.mp h2;have e:w=y:=by
   have m1:w∈y::ys:=hp.mem_iff.mp (nu ..);have m2:y∈w::ws:=hp.mem_iff.mpr (nu ..);rcases qf.mp m1 with e |m1
   ·exact e
   ·rcases qf.mp m2 with e |m2
    ·exact e.symm
    ·exact o.anti (b1 w m1) (a1 y m2)
  subst e;rw[zko_ o (List.Perm.cons_inv hp) a2 b2]
theorem zfN_ {lt:α->α->Bool}(o:LOr lt){ws xs:List α}(hp:ws.Perm xs)(hs:ws.Pairwise λa b=>lt b a=false):ws=srtL lt xs:=
 zko_ o (hp.trans (zbO_ lt xs).symm) hs (zdu_ o xs)
def ltI (a b:Int):Bool:=decide (a<b)
def lxP [DecidableEq α](l:α->α->Bool)(m:β->β->Bool)(x y:α×β):Bool:=if x.1=y.1 then m x.2 y.2 else l x.1 y.1
theorem zd8_:LOr ltI:=by
 unfold ltI;refine⟨λh=>?_,λh h'=>?_,λh h'=>?_⟩<;>simp only[decide_eq_true_eq,decide_eq_false_iff_not]at*<;> lia
theorem zh8_ [DecidableEq α]{l:α->α->Bool}{m:β->β->Bool}(ol:LOr l)(om:LOr m):LOr (lxP l m):=by
 unfold lxP;refine⟨λ{a b} h=>?_,λ{a b c} h h'=>?_,λ{a b} h h'=>?_⟩
 ·by_cases e:a.1=b.1
  ·rw[if_pos e]at h;rw[if_pos e.symm];exact om.asym h
  ·rw[if_neg e]at h;rw[if_neg (λz=>e z.symm)];exact ol.asym h
 ·by_cases e:b.1=a.1
  ·rw[if_pos e]at h
   by_cases e2:c.1=b.1
   ·rw[if_pos e2]at h';rw[if_pos (e2.trans e)];exact om.tr h h'
   ·rw[if_neg e2]at h';rw[if_neg (λz=>e2 (z.trans e.symm)),<- e];exact h'
  ·rw[if_neg e]at h
   by_cases e2:c.1=b.1
   ·rw[if_neg (λz=>e (e2.symm.trans z)),e2];exact h
   ·rw[if_neg e2]at h'
    by_cases e3:c.1=a.1
    ·exfalso
     rw[e3]at h';exact e (ol.anti h h')
    ·rw[if_neg e3];exact ol.tr h h'
 ·by_cases e:a.1=b.1
  ·rw[if_pos e]at h;rw[if_pos e.symm]at h'
   exact Prod.ext e (om.anti h h')
  ·rw[if_neg e]at h;rw[if_neg (λz=>e z.symm)]at h'
   exact absurd (ol.anti h h') e
variable {γ:Type}{K:Fgg}{E:XK}
def FlT (T:Ty α)(k:Nat)(lt:α->α->Bool):Prop:=k≠0/\∀a v F,T.R a v F->knd v=k/\∀b u F',T.R b u F'->ltF v u=lt a b/\(eqF v u=true↔a=b)
theorem znC_:FlT tyInt 1 ltI:=by
 refine⟨by decide,λa v F h=>?_⟩
 subst h;refine⟨rfl,λb u F' h'=>?_⟩
 subst h';exact⟨rfl,by simp[eqF]⟩
def LxC (C:Cs γ)(ks:List Nat)(lt:γ->γ->Bool):Prop:=ks≠[]/\0∉ks/\∀c vs F,C.R c vs F->vs.map knd=ks/\∀d us F',C.R d us F'->lexV vs us=lt c d
theorem zpZ_ {T:Ty α}{k:Nat}{lt:α->α->Bool}(f:FlT T k lt)(o:LOr lt):LxC (csLast T) [k] lt:=by
 refine⟨by simp,λh=>f.1 (pS.mp h).symm,?_⟩
 rintro c vs F ⟨v,rfl,hv⟩;obtain⟨e,g⟩:=f.2 c v F hv;refine⟨by rw[wx,e],?_⟩
 rintro d us F' ⟨u,rfl,hu⟩;obtain⟨g1,g2⟩:=g d u F' hu;show(if eqF v u=true then false else ltF v u)=_
 by_cases z:eqF v u=true
 ·rw[if_pos z,g2.mp z];exact(o.irr d).symm
 ·rw[if_neg z,g1]
theorem zr1_ [DecidableEq α]{T:Ty α}{C:Cs γ}{k:Nat}{ks:List Nat}{lt:α->α->Bool}{jv:γ->γ->Bool}(f:FlT T k lt)(l:LxC C ks jv):LxC (csCons T C) (k::ks) (lxP lt jv):=by
 refine⟨by simp,λh=>?_,?_⟩
 ·rcases qf.mp h with h |h
  ·exact f.1 h.symm
  ·exact l.2.1 h
 ·rintro c vs F ⟨v,us,rfl,hv,hus⟩
  obtain⟨e,g⟩:=f.2 c.1 v F hv;obtain⟨e2,g'⟩:=l.2.2 c.2 us F hus;refine⟨by rw[qv,e,e2],?_⟩
  rintro d ws F' ⟨u,aN,rfl,hu,hus'⟩;obtain⟨g1,g2⟩:=g d.1 u F' hu;show(if eqF v u=true then lexV us aN else ltF v u)=lxP lt jv c d
  unfold lxP;grind
theorem zhs_ {T:Ty α}{H:Hp}:∀{xs:List α}{vs:List V},Prs T H xs vs->∀(i:Nat) (v:V),vs[i]?=some v->∃x,xs[i]?=some x/\T.R x v H
 |_,_,.nil,i,v,e=>by simp at e
 |_,_,.cons a t,0,v,e=>by simp at e;subst e;exact⟨_,rfl,a⟩
 |_,_,.cons a t,i+1,v,e=>zhs_ t i v (by simpa using e)
theorem zk6_ {T:Ty α}{H:Hp}{xs:List α}{vs:List V}(r:Prs T H xs vs)(d:α):∀(idx:List Nat),(∀i∈idx,i<vs.length)->Prs T H (idx.map λi=>xs.getD i d) (idx.map λi=>vs.getD i .non)
 |[],_=>.nil
 |i::idx,h=>by
  have hi:=h i (nu ..);obtain⟨x,e,rx⟩:=zhs_ r i vs[i] (nj hi);refine .cons ?_ (zk6_ r d idx λj hj=>h j (qa _ hj))
  grind
theorem zgv_ {lt:α->α->Bool}(o:LOr lt){xs:List α}{d:α}{idx:List Nat}(h:Srtd (λi j=>lt (xs.getD i d) (xs.getD j d)) xs.length idx):(idx.map λi=>xs.getD i d)=srtL lt xs:=by
 refine zfN_ o ?_ ?_
 ·have e:(qG xs.length).map (λi=>xs.getD i d)=xs:=by
   apply sX;grind
  have:=h.1.map (λi=>xs.getD i d)
  rwa[e]at this
 ·exact wF.mpr (h.2.imp λq=>q)
theorem zp1_ {lt:α->α->Bool}(o:LOr lt)(f:Nat->α):WOr λi j=>lt (f i) (f j):=⟨λh=>o.asym h,λh h'=>o.tr h h'⟩
theorem zhr_ {b:Nat}(b0:0<b){T:Ty α}{lt:α->α->Bool}(o:LOr lt)(sv:∀(d:α) (xs:List α) (vs:List V) (F:Hp),Prs T F xs vs->SrtV K F vs λi j=>lt (xs.getD i d) (xs.getD j d))(mono:∀{F H:Hp}{vs l},Same F H->SrtV K F vs l->SrtV K H vs l):
  BlO K (mSorted b K) E (csLast (tyL T)) (λl=>.grd (l.length<b) (.ok (srtL lt l))) (owL T):=by
 rintro c vs F H Q hs ⟨v,rfl,p,us,rfl,h,r⟩ q;obtain⟨cT,q⟩:=q.grd;have hl:=Paired.length r;cases c with
 |nil=>
  cases r;refine⟨[],λ_ _=>false,.of (hs _ _ h),b0,⟨(λh=>by cases h),(λ_ _=>rfl)⟩,.inl ⟨1,by decide,(λy hy=>by cases hy),(λi j x y e=>by simp at e)⟩,λidx hi l hl=>?_⟩
  have:idx=[]:=by have:=hi.1.length_eq;simpa using this
  subst this;rw[show srtL lt ([]:List α)=[] by simp[srtL]]at q
  exact zbB_ hs hl (xs:=[]) .nil q
 |cons x xs=>
  refine⟨us,λi j=>lt ((x::xs).getD i x) ((x::xs).getD j x),.of (hs _ _ h),by lia,zp1_ o _,mono hs (sv x _ us F r),λidx hi l dX=>?_⟩
  rw[<- hl]at hi;have e:=zgv_ o hi;rw[<- e]at q;refine zbB_ hs dX (zk6_ r x idx λi bT=>?_) q
  have:=rd.mp (hi.1.mem_iff.mp bT);lia
theorem zlU_ {F H:Hp}{vs:List V}{l:Nat->Nat->Bool}(hs:Same F H)(h:SrtV K F vs l):SrtV K H vs l:=by
 rcases h with h |⟨rows,ks,a,b,c,d⟩
 ·exact .inl h
 ·refine .inr ⟨rows,ks,a,b,λi y e=>?_,d⟩
  obtain⟨p,e1,e2,e3⟩:=c i y e;exact⟨p,e1,hs.tup e2,e3⟩
theorem zk3_ {b:Nat}{C:Cs γ}{ks:List Nat}{lt:γ->γ->Bool}(l:LxC C ks lt)(o:LOr lt)(b0:0<b:=by decide):BlO K (mSorted b K) E (csLast (tyL (tyTup C))) (λl=>.grd (l.length<b) (.ok (srtL lt l))) (owL (tyTup C)):=by
 refine zhr_ b0 o (λd xs vs F r=>?_) zlU_
 have hl:=Paired.length r;have row:∀i:Nat,∃row:List V,∀y:V,vs[i]?=some y->∃(a:nc) (c:γ),xs[i]?=some c/\y=V.ref a/\SqT K F a row/\C.R c row F:=λi=>by
  cases e:vs[i]? with
  |none=>exact⟨[],λy h=>by cases h⟩
  |some y=>
   obtain⟨x,ex,p,us,rfl,hp,hc⟩:=zhs_ r i y e;refine⟨us,λy' h=>?_⟩
   injection h with h;subst h;exact⟨p,x,ex,rfl,.of hp,hc⟩
 refine .inr ⟨λi=>Classical.choose (row i),ks,l.1,l.2.1,λi y e=>?_,λi j hi hj=>?_⟩
 ·obtain⟨a,c,ec,rfl,ht,hc⟩:=uA (row i) y e
  exact⟨a,rfl,ht,(l.2.2 c _ F hc).1⟩
 ·obtain⟨a,c,ec,_,ht,hc⟩:=uA (row i) _ (nj hi)
  obtain⟨a',c',ec',_,fb,dg⟩:=uA (row j) _ (nj hj);show lt (xs.getD i d) (xs.getD j d)=_
  rw[ql,ql,ec,ec'];exact((l.2.2 c _ F hc).2 c' _ F dg).symm
end
end L2
universe u
namespace L2
open PySem PySem.Spec PyProof.Rows
section
variable {α:Type}{h:Hp}
theorem zl8_ {α:Type u}{l:List α}{i:Nat}{o:α}(h:l[i]?=some o):l.set i o=l:=by
 apply sX;grind
end
open PySem PySem.Spec PyProof.Rows PySem.W
section
variable {prog:m7}{w:nL}{A:qu}{E:aL->kZ->Prop}{s:kZ}{T:String}{rr dd:nc}{n:Nat}{PP:Nat->aL->Prop}{OK:Heap->Prop}
theorem znv_ {R:List aL->kZ->Prop}(Kd:KdlSrc prog w T rr dd n PP OK)(hh:A.handled=none)(hok:OK s.heap)(hn:n<=pX)
  (hR:∀(h':Heap) (tk:Nat) (acc:Array aL),s.heap.objs.size<h'.objs.size->(∀b o,s.heap.get? b=some o->h'.get? b=some o)->ItemsOf PP acc n->R acc.toList {s with heap:=h',toks:=tk}):
  nI (model prog w) A (collect (.ref rr)) R E s:=by
 obtain⟨lr,ld⟩:=Kd.there _ hok;unfold collect;refine iV (wpAny_runValue (codeAny_builtin entry_proto_collect' ?_));rw[Around.under_plainId PySem.F.plain_proto_collect _];show nI _ A.in1 (newList []>>=λl=>again (.builtin "list.__iadd__" ⟨[l,.ref rr],[]⟩)) _ _ s;refine iV (wpAny_newObj_type ?_)
 refine nh ⟨plainId_quiet vx _,codeAny_builtin entry_list_iadd' ?_⟩;rw[Around.under_plainId vx _];have h0:(s.heap.push {cls:=.type "list",data:=.seq ([]:List aL).toArray}).get? s.heap.objs.size=some {cls:=.type "list",data:=.seq #[]}:=p7 _ rfl;show nI _ A.in1 (xf (.ref s.heap.objs.size) (.ref rr) (.ref s.heap.objs.size)) _ _ _
 have key:=kdl_extend (A:=A) (s:={s with heap:=s.heap.push {cls:=.type "list",data:=.seq ([]:List aL).toArray}})
  (R:=λ(q:Result) (s':kZ)=>∃(h':Heap) (tk:Nat) (acc:Array aL) (c:Nat),q=.ok (.ret (.ref s.heap.objs.size))/\s'={s with heap:=h',toks:=tk}/\(∀b o,s.heap.get? b=some o->h'.get? b=some o)/\h'.get? s.heap.objs.size=some {cls:=.type "list",dict:=none,data:=.seq acc c,slots:=#[]}/\ItemsOf PP acc n)
  Kd hh (Kd.keep _ _ hok λb _ o e=>iX _ e) s.heap.objs.size (tI lr) (tI ld) (.ref s.heap.objs.size) 0 h0
  (λh' tk acc c hk hS bf=>⟨h',tk,acc,c,rfl,rfl,λb o e=>hk b o (qo (pT e)) (iX _ e),hS,bf⟩) hn
 refine qH key (λfin s' x=>?_) λe s' x=>?_
 ·cases fin with
  |done f=>
   obtain⟨h',tk,acc,c,e,rfl,hk,hS,bf⟩:=x;cases e;show nI _ A (load s.heap.objs.size>>=_) _ _ _
   exact iV (wpAny_load hS (nh (hR h' tk acc (pT hS) hk bf)))
  |again c1=>
   refine⟨x.1,codeAny_mono x.2 λq s2 y=>?_⟩;obtain⟨h',tk,acc,c,rfl,rfl,hk,hS,bf⟩:=y
   show nI _ A (load s.heap.objs.size>>=_) _ _ _;exact iV (wpAny_load hS (nh (hR h' tk acc (pT hS) hk bf)))
 ·obtain⟨_,_,_,_,e',_⟩:=x;cases e'
end
section
variable {prog:m7}{w:nL}{A:qu}{E:aL->kZ->Prop}{s:kZ}{lt:Nat->Nat->Bool}
theorem zl0_ {b:Nat}(hB:RunB b){v:aL}{n:Nat}{PV:List aL->Prop}{Q:aL->kZ->Prop}(cT:n<b)(wo:WOr lt)(hlen:∀vs,PV vs->vs.length=n)
  (col:∀R:List aL->kZ->Prop,(∀(vs:List aL) (h':Heap) (tk:Nat),PV vs->s.heap.objs.size<=h'.objs.size->(∀b o,s.heap.get? b=some o->h'.get? b=some o)->R vs {s with heap:=h',toks:=tk})->nI (model prog w) A.in1 (collect v) R E s)
  (kk:∀(vs:List aL),PV vs->2<=vs.length->∀(h':Heap) (tk:Nat),(∀b o,s.heap.get? b=some o->h'.get? b=some o)->CmpAt prog w vs lt {s with heap:=h',toks:=tk})
  (q:∀(vs:List aL) (l:nc) (h':Heap) (tk:Nat) c (p:List Nat),PV vs->s.heap.objs.size<=l->(∀b o,s.heap.get? b=some o->h'.get? b=some o)->Srtd lt vs.length p->h'.get? l=some (seqObj "list" (p.map λi=>vs.getD i qJ).toArray c)->Q (.ref l) {s with heap:=h',toks:=tk}):
  nI (model prog w) A (call (.builtin "sorted") [v]) Q E s:=by
 have iE:=hB.1;refine Calls.call_function_entry kind_sorted plain_sorted entry_sorted (args_sorted1 _) ?_;unfold uv.«sorted»;refine iV (m:=checkCount "sorted" 1 1 _) (nh ?_);refine iV (col _ λvs h1 tk pv hle k1=>?_)
 have hn:=hlen vs pv;refine iV (wpAny_newList ?_ (by rw[sizeLine_eq];lia))
 have dU:(h1.push (seqObj "list" vs.toArray 0)).get? h1.objs.size=some (seqObj "list" vs.toArray 0):=p7 _ rfl;have keep:∀b o,s.heap.get? b=some o->(h1.push (seqObj "list" vs.toArray 0)).get? b=some o:=λb o e=>iX _ (k1 b o e)
 show nI _ _ _ _ _ {s with heap:=h1.push (seqObj "list" vs.toArray 0),toks:=tk}
 have bG:∀(h':Heap),(∀b o,b≠h1.objs.size->(h1.push (seqObj "list" vs.toArray 0)).get? b=some o->h'.get? b=some o)->∀b o,s.heap.get? b=some o->h'.get? b=some o:=λh' hk b o e=>
  hk b o (qo (pT (k1 b o e))) (keep b o e)
 refine iV (wpAny_holding (wpAny_call_entry slot_list_sort ⟨_,dU,rfl⟩ entry_list_sort ?body (args_list_sort _)))
 case body=>
  refine zj3_ hB (s:={s with heap:=h1.push (seqObj "list" vs.toArray 0),toks:=tk}) dU (by lia) wo (λh2 h' hk=>kk vs pv h2 h' tk (bG h' hk)) λh' c p hk hp bR=>?_
  exact⟨_,rfl,nh ⟨_,rfl,q vs _ h' tk c p pv hle (bG h' hk) hp bR⟩⟩
end
section
variable {X:Cx}
theorem znL_ {ys:List V}{aa:List aL}{lt:Nat->Nat->Bool}{k:Nat}{s:kZ}(r':Vals ys aa)(hk:k≠0)(az:∀y∈ys,knd y=k)(aD:∀i j x y,ys[i]?=some x->ys[j]?=some y->lt i j=ltF x y)(h2:2<=aa.length):
  CmpAt X.prog X.w aa lt s:=by
 refine⟨oneType',λA C hC=>?_,λA i j C hi hj hC=>?_⟩
 ·refine kas_kind h2 (T:=tyK k) (λv hv=>?_) (zoB_ k) (zoi_ k) hC
  obtain⟨i,hi⟩:=tM.mp hv;obtain⟨bT,_⟩:=qi.mp hi;obtain⟨y,_,ry,hy⟩:=za6_ r' bT;rw[ql,hi]at ry;exact zkm_ ry (az y hy) hk
 ·obtain⟨x,ex,rx,hx⟩:=za6_ r' hi
  obtain⟨y,ey,ry,hy⟩:=za6_ r' hj;rw[aD i j x y ex ey]at hC;unfold kas_ask;rw[keyLt'_oneType];exact zkb_ rx ry (by rw[az x hx,az y hy]) (by rw[az x hx];exact hk) hC
noncomputable def mSortD (b:Nat)(K:Fgg):List V->Hp->VK->Prop:=λxs H Q=>mSorted b K xs H Q\/match xs with
 | [.ref p]=>∃(kvs:List (Key×V)) (k:Nat) (lt:Nat->Nat->Bool),H p=some (.dK kvs)/\kvs.length<b/\WOr lt/\k≠0/\(∀q∈kvs,knd (kV q.1)=k)/\(∀i j x y,(kvs.map λq:Key×V=>kV q.1)[i]?=some x->(kvs.map λq=>kV q.1)[j]?=some y->lt i j=ltF x y) /\
   ∀idx,Srtd lt kvs.length idx->∀l,H l=none->Q (.ref l) (upd H l (.lst (idx.map λi=>(kvs.map λq=>kV q.1).getD i .non)))
 |_=>False
theorem is_kV {P:m7}{w:nL}{k:Key}{u:aL}(h:(mixKind P w).is k u=true):RelV (kV k) u:=by
 rw[zka_]at h;rcases zY_ h with⟨i,t,rfl,rfl⟩|⟨x,t,rfl,rfl⟩<;>exact⟨_,rfl⟩
theorem zhI_ {b:Nat}(hB:RunB b)(hc:X.calm=true):CallR X (.builtin "sorted") (mSortD b X.K):=by
 have iE:=hB.1;intro pins s σ H xs us Q I r h;unfold mSortD at h;rcases h with h |h
 ·exact zhW_ hB pins s σ H xs us Q I r h
 ·split at h
  ·rename_i p
   obtain⟨kvs,k,lt,hp,cT,wo,hk,az,aD,q⟩:=h;obtain⟨u,rfl,rx⟩:=vals1 r;cases rx;obtain⟨z,hd,vs,rel,dd⟩:=zpz_ I.hok (.inl hp);obtain⟨ep,j6⟩:=dd.dictAt;have fA:kvs.length=vs.length:=rel.length;have ml:∀us:List aL,Vals (kvs.map λq=>kV q.1) us->us.length=kvs.length:=λus hv=>by rw[<- Vals.length hv,l6]
   refine zl0_ hB (n:=kvs.length) (PV:=λus=>Vals (kvs.map λq=>kV q.1) us) cT wo ml (λR hR=>?_) (λus hv h2 h' tk _=>?_) λus l h' tk c idx hv hl kp hi ho=>?_
   ·refine znv_ (kdl_dict (knd:=mixKind X.prog X.w) (kvs:=vs) (ep:=ep) hd) ?_ j6 (by rw[<- fA,sizeLine_eq];lia) λh' tk acc hsz jQ bf=>hR _ h' tk ?_ (vB hsz) jQ
    ·exact I.ok.hd hc
    ·have hl:acc.toList.length=kvs.length:=by rw[qZ,fA];exact bf.1
     have e:∀(ks:List (Key×V)) (us:List aL),ks.length=us.length->(∀(i:Nat) (q:Key×V) (u:aL),ks[i]?=some q->us[i]?=some u->RelV (kV q.1) u)->Vals (ks.map λq=>kV q.1) us:=by
      intro ks;induction ks with
      |nil=>intro us hl _;cases us with |nil=>exact .nil |cons _ _=>simp at hl
      |cons q ks ih=>
       intro us hl hh;cases us with
       |nil=>simp at hl
       |cons u us=>exact .cons (hh 0 q u rfl rfl) (ih us (by simpa using hl) λi q' u' e1 e2=>hh (i+1) q' u' (by simpa using e1) (by simpa using e2))
     refine e kvs acc.toList hl.symm λi q u e1 e2=>?_
     obtain⟨k',x,ek,iB⟩:=bf.2 i u (by rw[<- Array.getElem?_toList];exact e2)
     have:∀(a:List (Key×V)) (b:List (Key×aL)) (i:Nat) q k' x,KV a b->a[i]?=some q->b[i]?=some (k',x)->q.1=k':=by
      intro a b i q k' x mv;unfold KV at mv;induction mv generalizing i with
      |nil=>intro e;simp at e
      |cons r t ih=>
       grind
     rw[this kvs vs i q k' x rel e1 ek];exact is_kV iB
   ·refine znL_ hv hk (λy hy=>?_) aD h2
    obtain⟨q,hq,rfl⟩:=qp.mp hy;exact az q hq
   ·have oR:=ml us hv
    refine⟨.ref l,_,I.laid (o:=.lst (idx.map λi=>(kvs.map λq=>kV q.1).getD i .non)) (t':=tk) kp hl ?_,rfl,q idx (by rwa[<- oR]) _ (I.hok.fresh hl)⟩
    have hi1:∀i∈idx,i<us.length:=λi bT=>rd.mp (hi.1.mem_iff.mp bT)
    refine⟨?_,_,c,zhR_ hv idx hi1,ho⟩;rw[l6,hi.1.length_eq,qY,sizeLine_eq];lia
  ·exact h.elim
variable {α γ κ:Type}{K:Fgg}{E:XK}
theorem zqA_ {b:Nat}{C:Cs γ}{f:γ->Mo α}{O:Own α}(h:BlO K (mSorted b K) E C f O):BlO K (mSortD b K) E C f O:=by
 intro c vs F H Q hs hc q;exact .inl (h c vs F H Q hs hc q)
theorem zkU_ {b:Nat}[DecidableEq κ]{KY:KyT κ}{T:Ty α}{k:Nat}{lt:κ->κ->Bool}(f:FlT KY.T k lt)(o:LOr lt)(hk:∀x F,KY.T.R x (kV (KY.key x)) F)(b0:0<b:=by decide):
  BlO K (mSortD b K) E (csLast (tyD KY T)) (λm=>.grd (m.length<b) (.ok (srtL lt (m.map (·.1))))) (owL KY.T):=by
 rintro m vs F H Q hs ⟨v,rfl,p,kvs,rfl,h,r⟩ q;have hl:m.length=kvs.length:=Paired.length r;have pr:Prs KY.T F (m.map (·.1)) (kvs.map λq=>kV q.1):=by
  clear h hl q;induction r with
  |nil=>exact .nil
  |cons a t ih=>rename_i q w m kvs;rw[qv,qv,a.1];exact .cons (hk _ _) ih
 obtain⟨cT,q⟩:=q.grd;have all:∀q∈kvs,knd (kV q.1)=k:=λq hq=>by
  obtain⟨i,e⟩:=tM.mp (vY (f:=λq:Key×V=>kV q.1) hq)
  obtain⟨x,_,rx⟩:=zhs_ pr i _ e;exact(f.2 x _ F rx).1
 cases m with
 |nil=>
  cases r;refine .inr ⟨[],1,λ_ _=>false,hs _ _ h,b0,⟨(λh=>by cases h),(λ_ _=>rfl)⟩,by decide,(λy hy=>by cases hy),(λi j x y e=>by simp at e),λidx hi l hl=>?_⟩
  have:idx=[]:=by have:=hi.1.length_eq;simpa using this
  subst this;rw[show srtL lt (([]:List (κ×α)).map (·.1))=[] by simp[srtL]]at q
  exact zbB_ hs hl (xs:=[]) .nil q
 |cons x xs=>
  refine .inr ⟨kvs,k,λi j=>lt (((x::xs).map (·.1)).getD i x.1) (((x::xs).map (·.1)).getD j x.1),hs _ _ h,by omega,zp1_ o _,f.1,all,λi j a b ea eb=>?_,λidx hi l dX=>?_⟩
  ·obtain⟨a',ea',ra⟩:=zhs_ pr i a ea
   obtain⟨b',eb',rb⟩:=zhs_ pr j b eb;show lt (((x::xs).map (·.1)).getD i x.1) (((x::xs).map (·.1)).getD j x.1)=_
   rw[ql,ql,ea',eb'];exact((f.2 a' a F ra).2 b' b F rb).1.symm
  ·rw[<- hl,<- l6 (f:=(·.1))]at hi
   have e:=zgv_ o hi;rw[<- e]at q;refine zbB_ hs dX (zk6_ pr x.1 idx λi bT=>?_) q
   have:=rd.mp (hi.1.mem_iff.mp bT);rw[l6]at this ⊢;omega
theorem zs3_ (x:Int)(F:Hp):(kInt).T.R x (kV (kInt.key x)) F:=rfl
end
structure ZpAp (z ti to i j:nc)(f g:List nc):Prop where
 a1:ti≠z
 a2:to≠z
 a3:i≠z
 a4:j≠z
 a5:ti≠to
 a6:ti≠i
 a7:ti≠j
 a8:to≠i
 a9:to≠j
 b1:i≠j
 b2:z∉f
 b3:z∉g
 b4:to∉f
 b5:to∉g
 b6:j∉f
 b7:i∉g
section
variable {prog:m7}{w:nL}{A:qu}{E:aL->kZ->Prop}{s:kZ}{z ti to i j:nc}{f g:List nc}{n1 n2 k:Nat}{P1 P2:Nat->aL->Prop}{S1 S2:Nat->Heap->Prop}{a b:aL}
theorem zn2_ {Q:aL->kZ->Prop}(D1:Draws prog w A i f n1 P1 S1)(D2:Draws prog w A j g n2 P2 S2)(ap:ZpAp z ti to i j f g)
  (hz:IsZip s.heap z ti to .none) (e_:sA s.heap ti (.ref i) (.ref j)) (e9:sA s.heap to a b) (cZ:S1 k s.heap) (bY:S2 k s.heap) (l1:k<n1) (l2:k<n2)
  (hQ:∀x y h' tk,P1 k x->P2 k y->IsZip h' z ti to (rawInt s.heap.objs.size)->sA h' to x y->S1 (k+1) h'->S2 (k+1) h'->sA h' s.heap.objs.size x y->h'.objs.size=s.heap.objs.size+1 ->
   (∀c o,c≠z->c≠to->c≠i->c≠j->s.heap.get? c=some o->h'.get? c=some o)->Q (.ref s.heap.objs.size) {s with heap:=h',toks:=tk}):
  nI (model prog w) A (uv.«zip.__next__» ⟨[.ref z],[]⟩) (λfin s'=>∃v,fin=.done (.ret v)/\Q v s') E s:=by
 obtain⟨hp,gn,dd,tk0,os⟩:=s;show nI _ _ (field (.ref z) 2>>=_) _ _ _;refine iV (rK hz rfl (x:=.bool false) rfl ?_)
 show nI _ _ (field (.ref z) 3>>=_) _ _ _;refine iV (rK hz rfl (x:=.ref ti) rfl ?_)
 refine iV (wpAny_seqItems e_ rfl ?_);show nI _ _ (rM (.ref z)>>=_) _ _ _
 refine iV ?_;unfold rM;refine iV (rK hz rfl (x:=.none) rfl (nh ?_));simp only[if_true];refine iV (wpAny_rule ?_);refine iV (rK hz rfl (x:=.ref to) rfl ?_);refine iV (sL hz (by simp) λq1 (z1:IsZip q1 z ti to .ellipsis) e1=>?_)
 have aI:sY z hp q1:=e1.extBut;refine iV ?_;simp only[wQ,xc,vK,xw];refine iV (iV (wpAny_onRaise ?_));show nI _ _ (sQ (.ref i)>>=_) _ _ _
 refine iV (D1.item k _ _ _ l1 (D1.frame k _ _ cZ λc hc o e=>aI c o (λq=>ap.b2 (q ▸ hc)) e) λx q2 t2 px s2 e2=>nh ?_)
 have cy:sY i q1 q2:=e2.extBut;have to2:sA q2 to a b:=cy _ _ ap.a8 (aI _ _ ap.a2 e9);refine iV (wpAny_seqItems (s:=⟨q2,gn,dd,t2,os⟩) to2 rfl ?_);refine iV (wpAny_updateSeq_pair (s:=⟨q2,gn,dd,t2,os⟩) to2 λq3 (to3:sA q3 to x b) e3=>?_)
 have cU:sY to q2 q3:=e3.extBut;refine iV (wpAny_letGo (nh ?_));refine iV (iV (wpAny_onRaise ?_));show nI _ _ (sQ (.ref j)>>=_) _ _ _
 refine iV (D2.item k ⟨q3,gn,dd,t2,os⟩ _ _ l2 (D2.frame k _ _ bY λc hc o e=>cU c o (λq=>ap.b5 (q ▸ hc)) (cy c o (λq=>ap.b7 (q ▸ hc)) (aI c o (λq=>ap.b3 (q ▸ hc)) e))) λy q4 t4 py s4 e4=>nh ?_)
 have fJ:sY j q3 q4:=e4.extBut;have lH:sA q4 to x b:=fJ _ _ ap.a9 to3;refine iV (wpAny_seqItems (s:=⟨q4,gn,dd,t4,os⟩) lH rfl ?_);refine iV (wpAny_updateSeq_pair (s:=⟨q4,gn,dd,t4,os⟩) lH λq5 (lG:sA q5 to x y) e5=>?_)
 have e5':sY to q4 q5:=e5.extBut;refine iV (wpAny_letGo (nh (nh ?_)));refine iV (wpAny_seqItems (s:=⟨q5,gn,dd,t4,os⟩) lG rfl ?_);refine iV (wpAny_newTuple ?_);have sz:q5.objs.size=hp.objs.size:=by rw[e5.1,e4.1,e3.1,e2.1,e1.1]
 have z5:IsZip q5 z ti to .ellipsis:=e5' _ _ ap.a2.symm (fJ _ _ ap.a4.symm (cU _ _ ap.a2.symm (cy _ _ ap.a3.symm z1)));have kp:∀c o,c≠z->c≠to->c≠i->c≠j->hp.get? c=some o->q5.get? c=some o:=λc o c1 c2 c3 c4 e=>
  e5' c o c2 (fJ c o c4 (cU c o c2 (cy c o c3 (aI c o c1 e))))
 have zl:z<q5.objs.size:=pT z5;show nI _ _ (ud (.ref z) (.ref q5.objs.size)>>=_) _ _ ⟨q5.push _,gn,dd,t4,os⟩
 refine iV ?_;unfold ud;have z6:IsZip (q5.push {cls:=.type "tuple",data:=.seq #[x,y]}) z ti to .ellipsis:=iX _ z5;refine iV (sL (s:=⟨q5.push _,gn,dd,t4,os⟩) z6 (by simp) λq7 (z7:IsZip q7 z ti to (rawInt q5.objs.size)) e7=>?_)
 refine sL (s:=⟨q7,gn,dd,t4,os⟩) z7 (by simp) λq8 (z8:IsZip q8 z ti to (rawInt q5.objs.size)) e8=>?_
 have up:∀c o,c≠z->(q5.push {cls:=.type "tuple",data:=.seq #[x,y]}).get? c=some o->q8.get? c=some o:=λc o c1 e=>e8.extBut _ _ c1 (e7.extBut _ _ c1 e)
 have ia:∀c o,c≠z->q5.get? c=some o->q8.get? c=some o:=λc o c1 e=>up c o c1 (iX _ e)
 have t8:sA q8 q5.objs.size x y:=up _ _ (tI zl) (p7 _ rfl);have lI:q8.objs.size=q5.objs.size+1:=by rw[e8.1,e7.1];exact sG ..
 rw[sz]at z8 t8 lI;refine nh ⟨_,rfl,?_⟩;show Q (.ref q5.objs.size) ⟨q8,gn,dd,t4,os⟩
 rw[sz];refine hQ x y q8 t4 px py z8 (ia _ _ ap.a2 lG) (D1.frame _ _ _ s2 λc hc o e=>?_) (D2.frame _ _ _ s4 λc hc o e=>?_) t8 lI λc o c1 c2 c3 c4 e=>ia c o c1 (kp c o c1 c2 c3 c4 e)
 ·exact ia c o (λq=>ap.b2 (q ▸ hc)) (e5' c o (λq=>ap.b4 (q ▸ hc)) (fJ c o (λq=>ap.b6 (q ▸ hc)) (cU c o (λq=>ap.b4 (q ▸ hc)) e)))
 ·exact ia c o (λq=>ap.b3 (q ▸ hc)) (e5' c o (λq=>ap.b5 (q ▸ hc)) e)
theorem zq6_ {Q:PySem.Fin->kZ->Prop}(D1:Draws prog w A i f n1 P1 S1)(D2:Draws prog w A j g n2 P2 S2)(ap:ZpAp z ti to i j f g)
  (hz:IsZip s.heap z ti to .none) (e_:sA s.heap ti (.ref i) (.ref j)) (e9:sA s.heap to a b) (cZ:S1 k s.heap) (bY:S2 k s.heap) (l1:k=n1\/k<n1/\k=n2)
  (hE:∀h' e tk,(∀c o,c≠z->c≠to->c≠i->c≠j->s.heap.get? c=some o->h'.get? c=some o)->(∃o,h'.get? e=some o/\o.cls=.type "StopIteration")->E (.ref e) {s with heap:=h',toks:=tk}):
  nI (model prog w) A (uv.«zip.__next__» ⟨[.ref z],[]⟩) Q E s:=by
 obtain⟨hp,gn,dd,tk0,os⟩:=s;show nI _ _ (field (.ref z) 2>>=_) _ _ _;refine iV (rK hz rfl (x:=.bool false) rfl ?_)
 show nI _ _ (field (.ref z) 3>>=_) _ _ _;refine iV (rK hz rfl (x:=.ref ti) rfl ?_)
 refine iV (wpAny_seqItems e_ rfl ?_);show nI _ _ (rM (.ref z)>>=_) _ _ _
 refine iV ?_;unfold rM;refine iV (rK hz rfl (x:=.none) rfl (nh ?_));simp only[if_true];refine iV (wpAny_rule ?_);refine iV (rK hz rfl (x:=.ref to) rfl ?_);refine iV (sL hz (by simp) λq1 (z1:IsZip q1 z ti to .ellipsis) e1=>?_)
 have aI:sY z hp q1:=e1.extBut;refine iV ?_;simp only[wQ,xc,vK,xw];refine iV (iV (wpAny_onRaise ?_));show nI _ _ (sQ (.ref i)>>=_) _ _ _
 have f1:S1 k q1:=D1.frame k _ _ cZ λc hc o e=>aI c o (λq=>ap.b2 (q ▸ hc)) e
 rcases l1 with rfl |⟨l1,rfl⟩
 ·refine iV (D1.done _ _ _ f1 λq2 e e2 he=>?_)
  obtain⟨oe,hoe,hce⟩:=he;have cy:sY i q1 q2:=e2;have z2:IsZip q2 z ti to .ellipsis:=cy _ _ ap.a3.symm z1;have ez:e≠z:=λx=>by subst x;have cJ:q2.get? e=some oe:=hoe;rw[z2]at cJ;cases cJ;simp at hce
  exact sL (s:=⟨q2,gn,dd,tk0,os⟩) z2 (by simp) λq3 _ e3=>hE q3 e tk0 (λc o c1 _ c3 _ x=>e3.extBut _ _ c1 (cy c o c3 (aI c o c1 x))) ⟨oe,e3.extBut _ _ ez hoe,hce⟩
 ·refine iV (D1.item k _ _ _ l1 f1 λx q2 t2 px s2 e2=>nh ?_)
  have cy:sY i q1 q2:=e2.extBut;have to2:sA q2 to a b:=cy _ _ ap.a8 (aI _ _ ap.a2 e9);refine iV (wpAny_seqItems (s:=⟨q2,gn,dd,t2,os⟩) to2 rfl ?_);refine iV (wpAny_updateSeq_pair (s:=⟨q2,gn,dd,t2,os⟩) to2 λq3 (to3:sA q3 to x b) e3=>?_)
  have cU:sY to q2 q3:=e3.extBut;refine iV (wpAny_letGo (nh ?_));refine iV (iV (wpAny_onRaise ?_));show nI _ _ (sQ (.ref j)>>=_) _ _ _
  refine iV (D2.done ⟨q3,gn,dd,t2,os⟩ _ _ (D2.frame k _ _ bY λc hc o e=>cU c o (λq=>ap.b5 (q ▸ hc)) (cy c o (λq=>ap.b7 (q ▸ hc)) (aI c o (λq=>ap.b3 (q ▸ hc)) e))) λq4 e e4 he=>?_)
  obtain⟨oe,hoe,hce⟩:=he;have fJ:sY j q3 q4:=e4;have z4:IsZip q4 z ti to .ellipsis:=fJ _ _ ap.a4.symm (cU _ _ ap.a2.symm (cy _ _ ap.a3.symm z1));have ez:e≠z:=λx=>by subst x;have cJ:q4.get? e=some oe:=hoe;rw[z4]at cJ;cases cJ;simp at hce
  exact sL (s:=⟨q4,gn,dd,t2,os⟩) z4 (by simp) λq5 _ e5=>hE q5 e t2 (λc o c1 c2 c3 c4 x=>e5.extBut _ _ c1 (fJ c o c4 (cU c o c2 (cy c o c3 (aI c o c1 x))))) ⟨oe,e5.extBut _ _ ez hoe,hce⟩
theorem zpk_ {Q:Option aL->kZ->Prop}(D1:Draws prog w A.in1 i f n1 P1 S1)(D2:Draws prog w A.in1 j g n2 P2 S2)(ap:ZpAp z ti to i j f g)
  (hz:IsZip s.heap z ti to .none) (e_:sA s.heap ti (.ref i) (.ref j)) (e9:sA s.heap to a b) (cZ:S1 k s.heap) (bY:S2 k s.heap) (l1:k<n1) (l2:k<n2)
  (hQ:∀x y h' tk,P1 k x->P2 k y->IsZip h' z ti to (rawInt s.heap.objs.size)->sA h' to x y->S1 (k+1) h'->S2 (k+1) h'->sA h' s.heap.objs.size x y->h'.objs.size=s.heap.objs.size+1 ->
   (∀c o,c≠z->c≠to->c≠i->c≠j->s.heap.get? c=some o->h'.get? c=some o)->Q (some (.ref s.heap.objs.size)) {s with heap:=h',toks:=tk}):
  nI (model prog w) A (pyNext (.ref z)) Q E s:=by
 have hT:s.TypeIs (.ref z) "zip":=⟨_,hz,rfl⟩;unfold pyNext;refine iV (wpAny_attempt (wpAny_callSpecial?_slot (name:=tQ "__next__") hT uU (wpAny_call_entry uU hT wR ?_ (wG _))));exact zn2_ D1 D2 ap hz e_ e9 cZ bY l1 l2 λx y h' tk p1 p2 q1 q2 q3 q4 q5 q6 q7=>nh (hQ x y h' tk p1 p2 q1 q2 q3 q4 q5 q6 q7)
theorem zrS_ {Q:Option aL->kZ->Prop}(D1:Draws prog w A.in1 i f n1 P1 S1)(D2:Draws prog w A.in1 j g n2 P2 S2)(ap:ZpAp z ti to i j f g)
  (hz:IsZip s.heap z ti to .none) (e_:sA s.heap ti (.ref i) (.ref j)) (e9:sA s.heap to a b) (cZ:S1 k s.heap) (bY:S2 k s.heap) (l1:k=n1\/k<n1/\k=n2)
  (hQ:∀h' tk,(∀c o,c≠z->c≠to->c≠i->c≠j->s.heap.get? c=some o->h'.get? c=some o)->Q none {s with heap:=h',toks:=tk}):nI (model prog w) A (pyNext (.ref z)) Q E s:=by
 have hT:s.TypeIs (.ref z) "zip":=⟨_,hz,rfl⟩;unfold pyNext;refine iV (wpAny_attempt (wpAny_callSpecial?_slot (name:=tQ "__next__") hT uU (wpAny_call_entry uU hT wR ?_ (wG _))));refine zq6_ D1 D2 ap hz e_ e9 cZ bY l1 λh' e tk hk he=>?_
 obtain⟨o,ho,hc⟩:=he;exact iV (wpAny_isInstance (s:={s with heap:=h',toks:=tk}) (T:="StopIteration") (b:=true) ⟨o,ho,hc⟩ isSubtype_stop (nh (hQ _ _ hk)))
end
def strIt (x:Str)(t:Tok):wb:={cls:=.type (qK x),data:=.fields #[.str x t,.int 0 0]}
theorem zjN_ {prog:m7}{w:nL}{A:qu}{E:aL->kZ->Prop}{s:kZ}{x:Str}{t:Tok}{Q:aL->kZ->Prop}(h:Q (.ref s.heap.objs.size) {s with heap:=s.heap.push (strIt x t)}):nI (model prog w) A (pyIter (.str x t)) Q E s:=by
 unfold strIt at h;cases ha:x.cps.all (·<128)
 ·rw[show qK x="str_iterator" by simp[qK,ha]]at h;exact wpAny_pyIter_wide ha h
 ·rw[show qK x="str_ascii_iterator" by simp[qK,ha]]at h;exact wpAny_pyIter_ascii ha h
abbrev zp1 (h:Heap)(l:nc):Heap:=h.push {cls:=.type "list_iterator",data:=.fields #[.ref l,.int 0 0]}
abbrev zp2 (h:Heap)(l:nc)(x:Str)(t:Tok):Heap:=(zp1 h l).push (strIt x t)
abbrev zp3 (h:Heap)(l:nc)(x:Str)(t:Tok):Heap:=(zp2 h l x t).push {cls:=.type "tuple",data:=.seq #[.ref h.objs.size,.ref (zp1 h l).objs.size]}
abbrev zp4 (h:Heap)(l:nc)(x:Str)(t:Tok):Heap:=(zp3 h l x t).push {cls:=.type "tuple",data:=.seq #[.none,.none]}
abbrev zp5 (h:Heap)(l:nc)(x:Str)(t:Tok):Heap:=(zp4 h l x t).push {cls:=.type "zip",data:=.fields #[.none,.bool false,.bool false,.ref (zp2 h l x t).objs.size,.ref (zp3 h l x t).objs.size]}
theorem mt_zp (l:nc)(x:Str)(t:Tok)(xs:Array aL):
  Meets (uv.«zip.__new__» ⟨[.type "zip",.ref l,.str x t],[]⟩) (λ_ R s=>s.heap.IsList l xs/\R (.ok (.ret (.ref (zp4 s.heap l x t).objs.size))) {s with heap:=zp5 s.heap l x t}):=
 .of_wp λprog w A R s h=>by
  obtain⟨hp,g,d,tk,os⟩:=s;obtain⟨iA,h⟩:=h;have oE:=sub_zip;have h1:Heap.IsList (Shared.heap ⟨hp,g,d,tk,os⟩) l xs:=iA
  wp_walk using wpAny_pyIter_list h1,zjN_
  exact⟨_,rfl,h⟩
section
variable {prog:m7}{w:nL}{A:qu}{E:aL->kZ->Prop}{s:kZ}
theorem zrO_ {l:nc}{x:Str}{t:Tok}{xs:Array aL}{Q:aL->kZ->Prop}(hl:s.heap.IsList l xs)
  (h:∀h',IsZip h' (s.heap.objs.size+4) (s.heap.objs.size+2) (s.heap.objs.size+3) .none->sA h' (s.heap.objs.size+2) (.ref s.heap.objs.size) (.ref (s.heap.objs.size+1)) ->
   sA h' (s.heap.objs.size+3) .none .none->h'.IsListIter s.heap.objs.size l 0->h'.IsStrIter (s.heap.objs.size+1) (qK x) x t 0 ->
   (∀c o,s.heap.get? c=some o->h'.get? c=some o)->Q (.ref (s.heap.objs.size+4)) {s with heap:=h'}):
  nI (model prog w) A (call (.type "zip") [.ref l,.str x t]) Q E s:=by
 refine callType_new F.called_zip (by decide) (F.typeCall_zip_2 _ _) (F.newCall_zip_2 _ _) (λobj=>F.args_object_init_3 obj _ _) F.entry_zip_new (mt_zp l x t xs) ⟨hl,?_⟩
 have n1:(zp1 s.heap l).objs.size=s.heap.objs.size+1:=sG ..;have n2:(zp2 s.heap l x t).objs.size=s.heap.objs.size+2:=by rw[sG,n1]
 have n3:(zp3 s.heap l x t).objs.size=s.heap.objs.size+3:=by rw[sG,n2]
 have n4:(zp4 s.heap l x t).objs.size=s.heap.objs.size+4:=by rw[sG,n3]
 have up:∀c o,(zp2 s.heap l x t).get? c=some o->(zp5 s.heap l x t).get? c=some o:=λc o e=>iX _ (iX _ (iX _ e))
 have g5:(zp5 s.heap l x t).get? (zp4 s.heap l x t).objs.size=some _:=p7 _ rfl;have g4:(zp5 s.heap l x t).get? (zp3 s.heap l x t).objs.size=some _:=iX _ (p7 _ rfl);have g3:(zp5 s.heap l x t).get? (zp2 s.heap l x t).objs.size=some _:=iX _ (iX _ (p7 _ rfl));have g2:(zp5 s.heap l x t).get? (zp1 s.heap l).objs.size=some _:=up _ _ (p7 _ rfl);have g1:(zp5 s.heap l x t).get? s.heap.objs.size=some _:=up _ _ (iX _ (p7 _ rfl));show _/\_
 rw[n2,n3,n4]at g5;rw[n1,n2]at g3;rw[n3]at g4;rw[n1]at g2;rw[n4];exact⟨⟨_,g5,rfl⟩,h _ g5 g3 g4 ⟨_,g1,rfl,rfl⟩ ⟨_,g2,rfl,rfl⟩ λc o e=>up c o (iX _ (iX _ e))⟩
end
def ItzS (K:Fgg)(l:nc)(n:Nat)(f:Nat->V):It:=
 ⟨λi H=>∃xs x,SqL K H l xs/\xs[i]?=some x/\i<n,
  λi H v H'=>∃p x,(∀xs,SqL K H l xs->xs[i]?=some x)/\H p=none/\v=.ref p/\H'=upd H p (.tup [x,f i]),
  λi H=>∃xs,SqL K H l xs/\(i=xs.length\/i<xs.length/\i=n)⟩
theorem zln_ {P:m7}{w:nL}{K:Fgg}{elts:List qF}{kk:Nat}{pos:Pos}(z ti to i1 i2 l:nc)(t0:Str)(t:Tok)(D:ZpAp z ti to i1 i2 [i1,l] [i2])(iA:l≠i1):
  Turn P w K (.Tuple elts kk pos) (ItzS K l t0.cps.size (sgn t0)) [z,ti,to,i1,i2] z (λi h=>IsZip h z ti to .none/\sA h ti (.ref i1) (.ref i2)/\(∃a b,sA h to a b)/\h.IsListIter i1 l i/\h.IsStrIter i2 (qK t0) t0 t i) where
 mem:=by simp
 obj:=λi h st b hb=>by
  obtain⟨hz,bg,⟨a,c,bx⟩,⟨o1,ho1,c1,d1⟩,⟨o2,ho2,c2,d2⟩⟩:=st;grind
 keep:=λi h h' st k=>by
  obtain⟨hz,bg,⟨a,c,bx⟩,h1,o2,ho2,r2⟩:=st;exact⟨k z (by simp) _ hz,k ti (by simp) _ bg,⟨a,c,k to (by simp) _ bx⟩,h1.at λo q=>k i1 (by simp) o q,o2,k i2 (by simp) o2 ho2,r2⟩
 item:=by
  intro X hP hw hK hc i pins s σ H E I hf st hg;subst hP hw hK;obtain⟨xs,x,hq,hx,hin⟩:=hg;obtain⟨aa,rv,p,hz0⟩:=I.list hq;obtain⟨u,hu,ru⟩:=rv.get hx;obtain⟨hz,bg,⟨a,c,bx⟩,h1,h2⟩:=st;have lt:∀{c o},s.heap.get? c=some o->c<s.heap.objs.size:=λe=>pT e
  have lz:=lt hz;have n6:=lt bg;have n0:=lt bx;have l1:i1<s.heap.objs.size:=by obtain⟨o,e,_⟩:=id h1;exact lt e
  have l2:i2<s.heap.objs.size:=by obtain⟨o,e,_⟩:=id h2;exact lt e
  have jT:i<aa.toArray.size:=by have:=(qi.mp hu).1;simpa using this
  refine zpk_ (Draws.list (A:=X.A.in1) (show X.A.in1.handled=none from I.ok.hd hc) i1 l iA aa.toArray) (zit_ (t:=t) X.A.in1 (I.ok.hd hc)) D hz bg bx ⟨h1,p.isList⟩ h2 jT hin λu' v h3 tk pu pv z3 lq eY eX je nK gM=>?_
  obtain rfl:u'=u:=by
   grind
  have aS:RelV (sgn t0 i) v:=zg3_ pv;refine⟨_,rfl,?_⟩;refine wpAny_letOwnedTupleGo_zip (s:={s with heap:=h3,toks:=tk}) z3 λh4 z4 bP=>?_
  replace bP:sU z h3 h4:=bP;have hp:H s.heap.objs.size=none:=I.hok.fresh (nG _);have I1:Inv X pins σ (upd H s.heap.objs.size (.tup [x,sgn t0 i])) {s with heap:=s.heap.push {cls:=.type "tuple",data:=.seq #[u',v]},toks:=tk}:=by
   refine I.laid (λb u q=>iX _ q) (nG _) ⟨?_,[u',v],.cons ru (.cons aS .nil),⟨_,p7 _ rfl,rfl,_,rfl⟩⟩
   show 2<=pX
   decide
  have aD:∀b∈[z,ti,to,i1,i2],b<s.heap.objs.size:=λb hb=>by
   grind
  have dY:∀b∈[z,ti,to,i1,i2],FpOk X pins (upd H s.heap.objs.size (.tup [x,sgn t0 i])) b:=λb hb=>by
   obtain⟨f0,r⟩:=hf b hb;refine⟨?_,r⟩;rw[zI_ (qo (aD b hb))];exact f0
  have I2:Inv X pins σ (upd H s.heap.objs.size (.tup [x,sgn t0 i])) {s with heap:=h4,toks:=tk}:=by
   refine Inv.turnedL (s:={s with heap:=s.heap.push {cls:=.type "tuple",data:=.seq #[u',v]},toks:=tk}) (ch:=[z,ti,to,i1,i2]) I1 (λb o hb q=>?_) dY
   have n1:b≠z:=λe=>hb (by simp[e])
   have n2:b≠to:=λe=>hb (by simp[e])
   have n3:b≠i1:=λe=>hb (by simp[e])
   have n4:b≠i2:=λe=>hb (by simp[e])
   refine(bP.2 b n1).trans ?_;rcases uP q with⟨rfl,rfl⟩|q'
   ·exact je
   ·exact gM b o n1 n2 n3 n4 q'
  refine⟨.ref s.heap.objs.size,_,I2,rfl,⟨s.heap.objs.size,x,λzs gB=>by rw[I.list_inj gB hq];exact hx,hp,rfl,rfl⟩,⟨z4,?_,⟨u',v,?_⟩,?_,?_⟩,λb hb=>(dY b hb).1⟩
  ·exact(bP.2 ti D.a1).trans (gM ti _ D.a1 D.a5 D.a6 D.a7 bg)
  ·exact(bP.2 to D.a2).trans lq
  ·exact eY.1.extBut bP.extBut D.a3
  ·exact eX.extBut bP.extBut D.a4
 done:=by
  intro X hP hw hK hc i pins s σ H E I hf st hg;subst hP hw hK;obtain⟨xs,hq,hx⟩:=hg;obtain⟨aa,rv,p,hz0⟩:=I.list hq;obtain⟨hz,bg,⟨a,c,bx⟩,h1,h2⟩:=st;have hl:=rv.length;refine zrS_ (Draws.list (A:=X.A.in1) (show X.A.in1.handled=none from I.ok.hd hc) i1 l iA aa.toArray) (zit_ (t:=t) X.A.in1 (I.ok.hd hc)) D hz bg bx ⟨h1,p.isList⟩ h2 (by rw[hl]at hx;simpa using hx) λh' tk eb=>⟨rfl,?_⟩
  exact Inv.turnedL (s:=s) (t':=tk) (ch:=[z,ti,to,i1,i2]) I (λb o hb q=>eb b o (λe=>hb (by simp[e])) (λe=>hb (by simp[e])) (λe=>hb (by simp[e])) (λe=>hb (by simp[e])) q) hf
 self:=λ_ _ _ _ _ st h=>wpAny_pyIter_zip st.1 h
theorem znX_ {N l:Nat}(hl:l<N):ZpAp (N+4) (N+2) (N+3) N (N+1) [N,l] [N+1]:=by
 have q:∀{a b:Nat},a≠b->(a:nc)≠(b:nc):=λh=>h
 have m1:∀{a b:Nat},a≠b->(a:nc)∉([b]:List nc):=λh e=>h (pS.mp e)
 have m2:∀{a b c:Nat},a≠b->a≠c->(a:nc)∉([b,c]:List nc):=λh1 h2 e=>by
  grind
 exact⟨q (by lia),q (by lia),q (by lia),q (by lia),q (by lia),q (by lia),q (by lia),q (by lia),q (by lia),q (by lia),m2 (by lia) (by lia),m1 (by lia),m2 (by lia) (by lia),m1 (by lia),m2 (by lia) (by lia),m1 (by lia)⟩
section
variable {X:Cx}{elts:List qF}{kk:Nat}{er:Pos}
def iZipX (K:Fgg)(ta:TA):TI:=λσ H R=>ta σ H λvs H1=>match vs with
 |[.ref a,.ref b]=>(∃xs,SqL K H1 a xs)/\(∃ys,SqL K H1 b ys)/\R (Itz K a b) H1
 |[.ref a,.str x]=>(∃xs,SqL K H1 a xs)/\R (ItzS K a x.cps.size (sgn x)) H1
 |_=>False
theorem zqB_ {a b:qF}{ta:TA}{p pos:Pos}(hm:Gb X.mg "zip")(ha:PA X [a,b] ta)(hg:Gl X "zip":=by rfl)(hs:qg [a,b] X.env=[(false,eval a X.env),(false,eval b X.env)]:=by rfl)(bQ:qg [b] X.env=[(false,eval b X.env)]:=by rfl):
  PI X (.Tuple elts kk er) (.Call (.Name "zip" p) [a,b] [] pos) (iZipX X.K ta):=by
 intro pins s σ H R I h;refine Call_ (zhZ_ I hg hm (u:=.type "zip") (by rfl) (rQ (thn (ha pos pins s σ H _ I h) λus s1 af=>?_) (by rw[hs,bQ]) (by rw[bQ];rfl)))
 obtain⟨vs,H1,I1,r1,q1⟩:=af
 try dsimp only at q1
 have lo:∀b∈[s1.heap.objs.size+4,s1.heap.objs.size+2,s1.heap.objs.size+3,s1.heap.objs.size,s1.heap.objs.size+1],s1.heap.objs.size<=b:=λb hb=>by
  grind
 split at q1
 ·rename_i l m
  obtain⟨⟨xs,hq⟩,⟨ys,dE⟩,q⟩:=q1;obtain⟨w1,w2,rfl,r,r'⟩:=vals2 r1;cases r;cases r';obtain⟨aa,rv,p1,hz⟩:=I1.list hq;obtain⟨au,rv2,p2,hz2⟩:=I1.list dE;refine call_zip_2 p1.isList p2.isList λh' fS bg bx h1 h2 hsz hk=>?_
  refine wpAny_pyIter_zip (s:={s1 with heap:=h'}) fS ?_;have I2:Inv X pins σ H1 {s1 with heap:=h'}:=I1.kept (t':=s1.toks) hk;have la:l<s1.heap.objs.size:=by obtain⟨o,e,_⟩:=p1.isList;exact pT e
  have lb:m<s1.heap.objs.size:=by obtain⟨o,e,_⟩:=p2.isList;exact pT e
  refine⟨s1.heap.objs.size+4,[s1.heap.objs.size+4,s1.heap.objs.size+2,s1.heap.objs.size+3,s1.heap.objs.size,s1.heap.objs.size+1],_,_,H1,rfl,I2,zoF_ _ _ _ _ _ l m (zmn_ la lb),⟨fS,bg,⟨_,_,bx⟩,h1,h2⟩,λb hb=>?_,q⟩
  exact I1.fpOk (lo b hb) (I1.hok.fresh (lo b hb))
 ·rename_i l x
  obtain⟨⟨xs,hq⟩,q⟩:=q1;obtain⟨w1,w2,rfl,r,r'⟩:=vals2 r1;cases r;obtain⟨t,rfl⟩:=r';obtain⟨aa,rv,p1,hz⟩:=I1.list hq;refine zrO_ p1.isList λh' fS bg bx h1 h2 hk=>?_
  refine wpAny_pyIter_zip (s:={s1 with heap:=h'}) fS ?_;have I2:Inv X pins σ H1 {s1 with heap:=h'}:=I1.kept (t':=s1.toks) hk;have la:l<s1.heap.objs.size:=by obtain⟨o,e,_⟩:=p1.isList;exact pT e
  refine⟨s1.heap.objs.size+4,[s1.heap.objs.size+4,s1.heap.objs.size+2,s1.heap.objs.size+3,s1.heap.objs.size,s1.heap.objs.size+1],_,_,H1,rfl,I2,zln_ _ _ _ _ _ l x t (znX_ la) (qo la),⟨fS,bg,⟨_,_,bx⟩,h1,h2⟩,λb hb=>?_,q⟩
  exact I1.fpOk (lo b hb) (I1.hok.fresh (lo b hb))
 ·exact q1.elim
variable {K:Fgg}{E:XK}{α:Type}{L:List Sl}{T:Ty α}
theorem znJ_ {r:Mo (List α×List Nat)}{ta:TA}(h:EvA K ta E L r (csCons (tyL T) (csLast tyStr))):EvI K (iZipX K ta) E L (r.bind λc=>.ok (c.1.zip (c.2.map λc=>[c]))) (tyTup (csCons T (csLast tyStr))):=by
 intro σ F H R hL hs q;refine h σ F H _ hL hs (q.bind.imp λl F1 H1 x1 k1 vs hv=>?_)
 obtain⟨v,ws,rfl,⟨p,us,rfl,hp,hr⟩,v2,rfl,rfl⟩:=hv;refine⟨⟨us,.of (x1.2.1 _ _ hp)⟩,k1.ok x1.2.1 _ ⟨λi H x hH hx=>?_,λH hH=>?_⟩⟩
 ·obtain⟨da,bA⟩:=List.getElem?_zip_eq_some.mp (show(l.1.zip (l.2.map λc=>[c]))[i]?=some (x.1,x.2)from hx)
  rcases hr.get i with⟨a,_⟩|⟨y,u,a,b,c⟩
  ·rw[a]at da;cases da
  rw[a]at da;injection da with da;rw[qU]at bA;cases e2:l.2[i]? with
  |none=>rw[e2]at bA;cases bA
  |some c2=>
   rw[e2]at bA;injection bA with bA;have hi:=(qi.mp e2).1;refine⟨⟨us,u,.of (hH _ _ hp),b,hi⟩,?_⟩;rintro v H' ⟨p3,w,z,hp3,rfl,rfl⟩ F hF fE;have e:=z us (.of (hH _ _ hp));rw[b]at e;cases e;have x':=Ext.new (o:=.tup [u,L2.sgn ⟨l.2.toArray⟩ i]) fE hp3;refine⟨_,x',p3,_,rfl,zq_,_,_,rfl,?_,_,rfl,?_⟩
   ·rw[<- da];exact T.mono (hF.trans x'.1) c
   ·rw[<- bA]
    have e3:(l.2.toArray).getD i 0=c2:=by rw[rR,List.getElem?_toArray,e2];rfl
    show V.str ⟨#[(l.2.toArray).getD i 0]⟩=tx [c2]
    rw[e3]
 ·refine⟨us,.of (hH _ _ hp),?_⟩
  rw[sS,hr.len,l6];grind
variable {β ρ:Type}{F0 H0 F h H:Hp}{e:TE}{r:Mo α}{O:Own ρ}{u:TS}
theorem Hold.atM:∀{L:List Sl}{σ:St}{F h:Hp}(i:Nat) {s:Sl},Hold L σ F h->L[i]?=some s ->
  ∃o h1 h2,σ[i]?=some o/\Jn h1 h2 h/\s.P o F h1/\∀F' s' o' h1' h',Same F F'->Jn h1' h2 h'->s'.P o' F' h1'->Hold (L.set i s') (σ.set i o') F' h'
 |[],_,_,_,_,_,_,e=>by cases e
 |s::L,[],_,_,_,_,q,_=>q.elim
 |s::L,o::σ,F,h,0,t,⟨h1,h2,j,p,r⟩,e=>by
  cases e;exact⟨o,h1,h2,rfl,j,p,λF' s' o' h1' h' g j' p'=>⟨h1',h2,j',p',r.mono g⟩⟩
 |s::L,o::σ,F,h,i+1,t,⟨h1,h2,j,p,r⟩,e=>by
  obtain⟨o1,k1,k2,e1,j1,p1,f⟩:=Hold.atM i r (by simpa using e)
  have d1:Dj h1 k1:=λp=>by
   rcases j.dj p with a |a
   ·exact .inl a
   ·exact .inr (j1.l.free a)
  have d2:Dj h1 k2:=λp=>by
   rcases j.dj p with a |a
   ·exact .inl a
   ·exact .inr (j1.r.free a)
  refine⟨o1,k1,un h1 k2,by simpa using e1,λp=>?_,p1,λF' s' o' cu h' g j' p'=>?_⟩
  ·rcases j p with⟨a,b⟩|⟨a,b⟩
   ·rcases j1 p with⟨c,d⟩|⟨c,d⟩
    ·refine .inl ⟨c,?_⟩;unfold un;rw[a,b,d]
    ·refine .inr ⟨?_,by rw[b,d]⟩;unfold un;rw[a,c]
   ·refine .inl ⟨j1.l.free a,?_⟩
    have:k2 p=none:=j1.r.free a;unfold un;rw[b];cases h1 p with
    |none=>rw[this]
    |some u=>rfl
  ·have dd:Dj cu k2:=λp=>by
    rcases j' p with⟨a,b⟩|⟨a,b⟩
    ·exact .inl a
    ·right;unfold un at a
     grind
   refine⟨h1,un cu k2,λp=>?_,p.mono g,f F' s' o' cu _ g (zjt_ dd) p'⟩
   rcases j' p with⟨a,b⟩|⟨a,b⟩
   ·unfold un at b ⊢
    cases z:h1 p with
    |none=>rw[z]at b;exact .inl ⟨rfl,by rw[b,a]⟩
    |some u=>
     rw[z]at b;refine .inr ⟨?_,b⟩;rw[a];rcases d2 p with y |y
     ·rw[y]at z;cases z
     ·exact y
   ·unfold un at a
    cases z:h1 p with
    |some u=>rw[z]at a;cases a
    |none=>
     rw[z]at a;refine .inl ⟨rfl,?_⟩;unfold un;rw[b];cases cu p with
     |none=>exact a.symm
     |some u=>rfl
structure PutC (F2 H2 h H0 k k' F3 H3:Hp):Prop where
 ff:Same F2 F3
 fh:Same F3 H3
 ol:Same (less H2 k) H3
 nw:∀q,F2 q=none->F3 q≠none->H2 q=none\/k q≠none
 kh:Same k' H3
 dj:Dj F3 k'
 fr:∀q,k q=none->k' q≠none->h q=none/\H0 q=none
theorem zk1_ {O1:Own α}{i:Nat}{σ:St}{x:α}(hL:Hold L σ F h)(hi:L[i]?=some (.ow O1 x))(ok:Okk F0 H0 F h H):
  ∃v k,σ[i]?=some (some v)/\O1.O x v F k/\Same k H/\Same k h/\Dj F k/\∀{β:Type}(O2:Own β) (x':β) (v':V) (k' F3 H3:Hp),PutC F H h H0 k k' F3 H3->O2.O x' v' F3 k' ->
   ∃h',Hold (L.set i (.ow O2 x')) (σ.set i (some v')) F3 h'/\Okk F0 H0 F3 h' H3:=by
 obtain⟨o,k,hr,e1,j,⟨v,e2,ho⟩,f⟩:=hL.atM i hi;subst e2;obtain⟨o1,o2,o3,o4,o5⟩:=ok;have kh:Same k h:=j.l;have rh:Same hr h:=j.r;have mh:∀q,k q≠none->h q≠none:=λq z w=>z (kh.free w)
 refine⟨v,k,e1,ho,kh.trans o3,kh,λq=>?_,?_⟩
 ·rcases o2 q with z |z
  ·exact .inl z
  ·exact .inr (kh.free z)
 intro β O2 x' v' k' F3 H3 P dS;have rk:∀{q o},hr q=some o->k q=none:=λ{q o} z=>by
  rcases j.dj q with y |y
  ·exact y
  ·rw[y]at z;cases z
 have dj:Dj k' hr:=λq=>by
  by_cases w:k' q=none
  ·exact .inl w
  ·right
   by_cases w2:k q=none
   ·exact rh.free (P.fr q w2 w).1
   ·rcases j.dj q with y |y
    ·exact absurd y w2
    ·exact y
 have rH:∀{q o},hr q=some o->H3 q=some o:=λ{q o} z=>P.ol q o (by rw[zbb_ (rk z)];exact o3 _ _ (rh _ _ z))
 refine⟨un k' hr,f F3 (.ow O2 x') (some v') k' _ P.ff (zjt_ dj) ⟨_,rfl,dS⟩,⟨o1.1.trans P.ff,P.fh,λq o z=>?_,λq a b=>?_⟩,λq=>?_,λq o z=>?_,λq z=>?_,λq xs z=>?_⟩
 ·have hq:h q=none:=by
   grind
  exact P.ol q o (by rw[zbb_ (kh.free hq)];exact o1.2.2.1 _ _ z)
 ·by_cases w:F q=none
  ·rcases P.nw q w b with y |y
   ·exact o1.2.2.1.free y
   ·exact o4 q (mh q y)
  ·exact o1.2.2.2 q a w
 ·unfold un
  cases w:k' q with
  |some s=>
   left;rcases P.dj q with y |y
   ·exact y
   ·rw[y]at w;cases w
  |none=>
   cases y:hr q with
   |none=>exact .inr rfl
   |some s=>
    left;have hq:h q=some s:=rh _ _ y;have Fq:F q=none:=by
     rcases o2 q with d |d
     ·exact d
     ·rw[d]at hq;cases hq
    by_cases w3:F3 q=none
    ·exact w3
    ·rcases P.nw q Fq w3 with d |d
     ·rw[o3 _ _ hq]at d;cases d
     ·exact absurd (rk y) d
 ·unfold un at z
  cases w:k' q with
  |some s=>rw[w]at z;rw[P.kh q s w];exact z
  |none=>rw[w]at z;exact rH z
 ·unfold un at z
  cases w:k' q with
  |some s=>
   by_cases y:k q=none
   ·exact(P.fr q y (by rw[w];exact sN _)).2
   ·exact o4 q (mh q y)
  |none=>
   rw[w]at z;exact o4 q λy=>z (rh.free y)
 ·unfold un at z
  cases w:k' q with
  |some s=>rw[w]at z;refine O2.notup dS q xs ?_;rw[w];exact z
  |none=>rw[w]at z;exact o5 q xs (rh _ _ z)
theorem PutC.same {k k':Hp}{H3:Hp}(ok:Okk F0 H0 F h H)(kh:Same k h)(a:Same k' H3)(b:∀q,k q=none->k' q=none->H3 q=H q)(c:∀q,k q=none->k' q≠none->F q=none/\h q=none/\H0 q=none/\H q=k' q):PutC F H h H0 k k' F H3:=by
 have dj:Dj F k':=λq=>by
  by_cases w:k' q=none
  ·exact .inr w
  ·left
   by_cases y:k q=none
   ·exact(c q y w).1
   ·rcases ok.2.1 q with d |d
    ·exact d
    ·exact absurd (kh.free d) y
 have ol:∀q o,k q=none->H q=some o->H3 q=some o:=λq o y z=>by
  by_cases w:k' q=none
  ·rw[b q y w];exact z
  ·obtain⟨_,_,_,e⟩:=c q y w
   rw[z]at e;exact a _ _ e.symm
 refine⟨Same.refl _,λq o z=>?_,λq o z=>?_,λq y z=>absurd y z,a,dj,λq y z=>⟨(c q y z).2.1,(c q y z).2.2.1⟩⟩
 ·have y:k q=none:=by
   rcases ok.2.1 q with d |d
   ·rw[d]at z;cases z
   ·exact kh.free d
  exact ol q o y (ok.1.2.1 _ _ z)
 ·unfold less at z
  split at z
  ·rename_i y;exact ol q o y z
  ·cases z
end
section
variable {α:Type}
def OwAll (O:Own α)(F:Hp):List α->List V->Hp->Prop
 |[],[],h=>∀p,h p=none
 |x::xs,v::vs,h=>∃h1 h2,Jn h1 h2 h/\O.O x v F h1/\OwAll O F xs vs h2
 |_,_,_=>False
variable {O:Own α}
theorem OwAll.mono:∀{xs:List α}{vs:List V}{F F' h:Hp},Same F F'->OwAll O F xs vs h->OwAll O F' xs vs h
 |[],[],_,_,_,_,q=>q
 |x::xs,v::vs,F,F',h,g,⟨h1,h2,j,o,r⟩=>⟨h1,h2,j,O.mono g o,r.mono g⟩
 |[],_::_,_,_,_,_,q=>q.elim
 |_::_,[],_,_,_,_,q=>q.elim
theorem OwAll.notup:∀{xs:List α}{vs:List V}{F h:Hp},OwAll O F xs vs h->∀p ys,h p≠some (.tup ys)
 |[],[],_,_,q,p,ys=>by rw[q p];exact λz=>by cases z
 |x::xs,v::vs,F,h,⟨h1,h2,j,o,r⟩,p,ys=>by
  rcases j p with⟨_,b⟩|⟨_,b⟩
  ·rw[b];exact r.notup p ys
  ·rw[b];exact O.notup o p ys
 |[],_::_,_,_,q,_,_=>q.elim
 |_::_,[],_,_,q,_,_=>q.elim
theorem OwAll.len:∀{xs:List α}{vs:List V}{F h:Hp},OwAll O F xs vs h->xs.length=vs.length
 |[],[],_,_,_=>rfl
 |x::xs,v::vs,F,h,⟨h1,h2,j,o,r⟩=>by rw[qh,qh,r.len]
 |[],_::_,_,_,q=>q.elim
 |_::_,[],_,_,q=>q.elim
theorem zeA_ {F h1 h:Hp}(d:Dj F h)(s:Same h1 h):Same (un F h1) (un F h):=λp o e=>by
 unfold un at e ⊢;cases z:F p with
 |some w=>rw[z]at e;exact e
 |none=>rw[z]at e;exact s _ _ e
theorem OwAll.prs:∀{xs:List α}{vs:List V}{F h G:Hp},Dj F h->Same (un F h) G->OwAll O F xs vs h->Prs O.fr G xs vs
 |[],[],_,_,_,_,_,_=>.nil
 |x::xs,v::vs,F,h,G,d,g,⟨h1,h2,j,o,r⟩=>by
  have d1:Dj F h1:=λp=>by
   rcases d p with z |z
   ·exact .inl z
   ·exact .inr (j.l.free z)
  have d2:Dj F h2:=λp=>by
   rcases d p with z |z
   ·exact .inl z
   ·exact .inr (j.r.free z)
  exact .cons (O.fr.mono ((zeA_ d j.l).trans g) (O.frz d1 o)) (r.prs d2 ((zeA_ d j.r).trans g))
 |[],_::_,_,_,_,_,_,q=>q.elim
 |_::_,[],_,_,_,_,_,q=>q.elim
theorem zsC_ {h1 h2 h:Hp}(j:Jn h1 h2 h):Jn h2 h1 h:=λp=>by
 rcases j p with⟨a,b⟩|⟨a,b⟩
 ·exact .inr ⟨a,b⟩
 ·exact .inl ⟨a,b⟩
noncomputable abbrev owLO (O:Own α):Own (List α):=⟨λxs v F h=>∃p vs h2,v=.ref p/\Jn (one p (.lst vs)) h2 h/\OwAll O F xs vs h2,tyL O.fr,λg ⟨p,vs,h2,e,j,q⟩=>⟨p,vs,h2,e,j,q.mono g⟩,
 λ{a v F h} d ⟨p,vs,h2,e,j,q⟩=>⟨p,vs,e,zgE_ d _ _ (j.l _ _ zaa_),q.prs (λb=>by
  rcases d b with z |z
  ·exact .inl z
  ·exact .inr (j.r.free z)) (zeA_ d j.r)⟩,
 λ⟨p,vs,h2,e,j,q⟩ b xs y=>by
  rcases j b with⟨_,z⟩|⟨_,z⟩
  ·rw[z]at y;exact q.notup b xs y
  ·rw[z]at y;unfold one at y;split at y<;>cases y⟩
end
section
end
def mFld (C:nc)(te:TE)(f:Str):TE:=λσ H Q=>te σ H λx H1=>match x with
 |.ref a=>∃dx fs v,H1 a=some (.ins C dx fs)/\fs.lookup f=some v/\Q v H1
 |_=>False
def mSFld (C:nc)(te tv:TE)(f:Str):TS:=λD σ H=>tv σ H λy H1=>te σ H1 λx H2=>match x with
 |.ref a=>∃dx fs,H2 a=some (.ins C dx fs)/\fs.length<1000/\D.nx σ (upd H2 a (.ins C dx (putF f y fs)))
 |_=>False
section
variable {X:Cx}{e value o:qF}{f x:Str}{pos pos':Pos}{ta tv:TE}{C:nc}
theorem zqO_ (c:Cls X.K C)(n:NoAttr X.K C f)(he:PE X e ta)(hb:attributeBase e f X.env (eval e X.env)=eval e X.env:=by rfl):PE X (.Attribute e f pos) (mFld C ta f):=by
 intro pins s σ H Q I h;refine zqt_ hb (thn (he pins s σ H _ I h) λu s1 af=>?_)
 obtain⟨x,H1,I1,rx,q1⟩:=af;cases x with
 |ref a=>
  obtain⟨dx,fs,v,ea,l,q⟩:=q1;obtain rfl:u=qq a:=rx;exact zkP_ I1 ea c n l λu' s2 I2 ru=>⟨v,H1,I2,ru,q⟩
 |_=>exact q1.elim
theorem zqo_ (c:Cls X.K C)(n:NoAttr X.K C f)(ha:PE X o ta)(hv:PE X value tv)(hs:swapsWith value (some (.Attribute o f pos')) pos.line X.env=pure false:=by rfl):PS X (.Assign [.Attribute o f pos'] value pos) (mSFld C ta tv f):=by
 intro pins s σ H D I h;refine plainObj_wpAny_Assign_Attribute (thn (hv pins s σ H _ I h) λu s1 ⟨y,H1,I1,ry,q⟩=>thn (ha pins s1 σ H1 _ I1 q) λov s2 af=>?_) hs
 obtain⟨x,H2,I2,rx,q2⟩:=af;cases x with
 |ref a=>
  obtain⟨dx,fs,ea,l,q3⟩:=q2;obtain rfl:ov=qq a:=rx;exact zjF_ I2 ea c n l ry λs3 I3=>⟨σ,_,I3,q3⟩
 |_=>exact q2.elim
end
theorem zgO_:∀{ns:List Str}{vs:List V}{i:Nat}{f:Str}{v:V},ns.Nodup->ns[i]?=some f->vs[i]?=some v->(ns.zip vs).lookup f=some v
 |[],_,_,_,_,_,h,_=>by simp at h
 |n::ns,[],_,_,_,_,_,h=>by simp at h
 |n::ns,w::vs,0,f,v,_,h,h'=>by
  simp at h h';subst h h';rw[tJ,uH,beq_self_eq_true]
 |n::ns,w::vs,i+1,f,v,nd,h,h'=>by
  obtain⟨h1,h2⟩:=sk.mp nd;have hf:ns[i]?=some f:=by simpa using h
  have aF:(f == n)=false:=beq_eq_false_iff_ne.mpr λz=>h1 (z ▸ sW hf)
  rw[tJ,uH,aF];exact zgO_ h2 hf (by simpa using h')
theorem zhV_:∀{ns:List Str}{vs:List V}{f:Str}(v:V),f∉ns->vs.length=ns.length->putF f v (ns.zip vs)=(ns++[f]).zip (vs++[v])
 |[],[],f,v,_,_=>rfl
 |[],_::_,_,_,_,h=>by simp at h
 |_::_,[],_,_,_,h=>by simp at h
 |n::ns,w::vs,f,v,h,hl=>by
  have aF:¬n=f:=λz=>h (z ▸ nu ..)
  rw[tJ,putF,if_neg aF,zhV_ v (λz=>h (qa _ z)) (by simpa using hl)];rfl
structure Ps (γ:Type) where
 P:γ->List V->Hp->Hp->Prop
 fr:Cs γ
 mono:∀{c vs F F' h},Same F F'->P c vs F h->P c vs F' h
 frz:∀{c vs F h},Dj F h->P c vs F h->fr.R c vs (un F h)
 notup:∀{c vs F h},P c vs F h->∀p xs,h p≠some (.tup xs)
section
variable {α β γ:Type}
theorem dj_l {F h1 h2 h:Hp}(d:Dj F h)(j:Jn h1 h2 h):Dj F h1:=λp=>by
 rcases d p with z |z
 ·exact .inl z
 ·exact .inr (j.l.free z)
theorem dj_r {F h1 h2 h:Hp}(d:Dj F h)(j:Jn h1 h2 h):Dj F h2:=λp=>by
 rcases d p with z |z
 ·exact .inl z
 ·exact .inr (j.r.free z)
abbrev psNil:Ps Unit:=⟨λ_ vs _ h=>vs=[]/\∀p,h p=none,csNil,λ_ q=>q,λ_ q=>q.1,λq p xs z=>by rw[q.2 p]at z;cases z⟩
noncomputable abbrev psO (O:Own α)(P:Ps γ):Ps (α×γ):=⟨λc vs F h=>∃v us h1 h2,vs=v::us/\Jn h1 h2 h/\O.O c.1 v F h1/\P.P c.2 us F h2,csCons O.fr P.fr,
 λg ⟨v,us,h1,h2,e,j,a,b⟩=>⟨v,us,h1,h2,e,j,O.mono g a,P.mono g b⟩,
 λd ⟨v,us,h1,h2,e,j,a,b⟩=>⟨v,us,e,O.fr.mono (zeA_ d j.l) (O.frz (dj_l d j) a),P.fr.mono (zeA_ d j.r) (P.frz (dj_r d j) b)⟩,
 λ⟨v,us,h1,h2,e,j,a,b⟩ p xs z=>by
  rcases j p with⟨_,y⟩|⟨_,y⟩
  ·rw[y]at z;exact P.notup b p xs z
  ·rw[y]at z;exact O.notup a p xs z⟩
def two (p dx:nc)(o:HO):Hp:=λq=>if q=p then some o else if q=dx then some (.own p)else none
theorem zod_ {p dx:nc}{o:HO}:two p dx o p=some o:=if_pos rfl
theorem zo5_ {p dx:nc}{o:HO}(h:dx≠p):two p dx o dx=some (.own p):=by unfold two;rw[if_neg h,if_pos rfl]
theorem zrp_ {p dx q:nc}{o:HO}(h:two p dx o q=none):q≠p/\q≠dx:=by
 refine⟨λe=>?_,λe=>?_⟩
 ·rw[e,zod_]at h;cases h
 ·unfold two at h;split at h
  ·cases h
  ·first |cases h |(rw[if_pos e]at h;cases h)
abbrev tyI (C:nc)(ns:List Str)(Q:Cs γ):Ty γ:=⟨λc v H=>∃p dx vs,v=.ref p/\H p=some (.ins C dx (ns.zip vs))/\vs.length=ns.length/\Q.R c vs H,λg ⟨p,dx,vs,e,h,l,q⟩=>⟨p,dx,vs,e,g _ _ h,l,Q.mono g q⟩⟩
noncomputable abbrev owI (C:nc)(ns:List Str)(P:Ps γ):Own γ:=⟨λc v F h=>∃p dx vs k,v=.ref p/\dx≠p/\Jn (two p dx (.ins C dx (ns.zip vs))) k h/\vs.length=ns.length/\P.P c vs F k,tyI C ns P.fr,
 λg ⟨p,dx,vs,k,e,n,j,l,q⟩=>⟨p,dx,vs,k,e,n,j,l,P.mono g q⟩,
 λd ⟨p,dx,vs,k,e,n,j,l,q⟩=>⟨p,dx,vs,e,zgE_ d _ _ (j.l _ _ zod_),l,P.fr.mono (zeA_ d j.r) (P.frz (dj_r d j) q)⟩,
 λ⟨p,dx,vs,k,e,n,j,l,q⟩ b xs y=>by
  rcases j b with⟨_,z⟩|⟨_,z⟩
  ·rw[z]at y;exact P.notup q b xs y
  ·rw[z]at y;unfold two at y;split at y
   ·cases y
   ·split at y<;>cases y⟩
abbrev owAt (u:V)(O:Own α):Own α:=⟨λa v F h=>v=u/\O.O a v F h,O.fr,λg q=>⟨q.1,O.mono g q.2⟩,λd q=>O.frz d q.2,λq=>O.notup q.2⟩
def PsAt (P:Ps γ)(n:Nat)(O:Own β)(pr:γ->β)(st:γ->β->γ):Prop:=∀{c vs F h},P.P c vs F h->∃v h1 h2,vs[n]?=some v/\Jn h1 h2 h/\O.O (pr c) v F h1/\∀z' h1' h' F3,Same F F3->O.O z' v F3 h1'->Jn h1' h2 h'->P.P (st c z') vs F3 h'
theorem pat_0 {O:Own β}{P:Ps γ}:PsAt (psO O P) 0 O (λc=>c.1) (λc z=>(z,c.2)):=λ⟨v,us,h1,h2,e,j,a,b⟩=>by
 subst e;exact⟨v,h1,h2,rfl,j,a,λz' h1' h' F3 g o' j'=>⟨v,us,h1',h2,rfl,j',o',P.mono g b⟩⟩
theorem jn_re {b t m a h:Hp}(jm:Jn b t m)(j:Jn a m h):Jn t (un a b) h:=λq=>by
 rcases j q with⟨x,y⟩|⟨x,y⟩
 ·rcases jm q with⟨c,e⟩|⟨c,e⟩
  ·right
   refine⟨by unfold un;rw[x,c],by rw[y,e]⟩
  ·left
   refine⟨c,by unfold un;rw[x,y,e]⟩
 ·left
  refine⟨jm.r.free x,?_⟩;unfold un;rw[y];cases z:a q with
  |none=>exact(jm.l.free x).symm ▸ rfl
  |some w=>rfl
theorem dj_of {a b t m h:Hp}(jm:Jn b t m)(j:Jn a m h):Dj a b:=λq=>by
 rcases j.dj q with z |z
 ·exact .inl z
 ·exact .inr (jm.l.free z)
def PsAdd (P:Ps γ)(O:Own β){δ:Type}(P':Ps δ)(ad:γ->β->δ):Prop:=∀{c vs F h},P.P c vs F h->∀z v' h1' h' F3,Same F F3->O.O z v' F3 h1'->Jn h1' h h'->P'.P (ad c z) (vs++[v']) F3 h'
theorem zfY_ {O:Own β}:PsAdd psNil O (psO O psNil) (λ_ z=>(z,())):=λq z v' h1' h' F3 g o' j'=>by
 rw[q.1];exact⟨v',[],h1',_,rfl,j',o',rfl,q.2⟩
theorem z4_ {O:Own α}{O':Own β}{P:Ps γ}{δ:Type}{P':Ps δ}{ad:γ->β->δ}(h:PsAdd P O' P' ad):PsAdd (psO O P) O' (psO O P') (λc z=>(c.1,ad c.2 z)):=λ⟨v,us,h1,h2,e,j,a,b⟩ z v' cu h' F3 g o' j'=>by
 subst e;have jm:Jn h2 h1 _:=zsC_ j;exact⟨v,us++[v'],h1,un cu h2,rfl,jn_re jm j',O.mono g a,h b z v' cu _ F3 g o' (zjt_ (dj_of jm j'))⟩
variable {K:Fgg}{E:XK}{δ ρ S B:Type}{F0 H0 F h H:Hp}{L:List Sl}{e te:TE}{T:Ty α}{r:Mo α}{Or:Own ρ}{u:TS}{LS:S->List Sl}{LB:B->List Sl}{σ:St}{C:nc}{ns:List Str}{f:Str}{i n:Nat}
theorem zai_ {Q:Cs γ}{pr:γ->α}{r:Mo γ}(nd:ns.Nodup)(hf:ns[n]?=some f)(ha:CsAt Q n T pr)(he:EvF K te E L r (tyI C ns Q)):EvF K (mFld C te f) E L (r.bind λc=>.ok (pr c)) T:=by
 intro σ F H R hL hs q;refine he σ F H _ hL hs (q.bind.imp λc F1 H1 x1 k1 v af=>?_)
 obtain⟨p,dx,vs,e,hp,hl,hc⟩:=af;subst e;obtain⟨w,ew,aS⟩:=ha hc;exact⟨dx,_,w,x1.2.1 _ _ hp,zgO_ nd hf ew,k1.ok x1.2.1 w aS⟩
theorem znq_ {p dx:nc}{o o':HO}{m h2 hn:Hp}{k:Hp}(ok:Okk F0 H0 F h H)(kh:Same k h)(cG:dx≠p)(jn:Jn (two p dx o) m k)(kb:Same h2 m)(fresh:∀q,hn q≠none->F q=none/\h q=none/\H0 q=none)(hs:Same hn H)(dn:Dj hn h2):
  Jn (two p dx o') (un hn h2) (un (two p dx o') (un hn h2))/\PutC F H h H0 k (un (two p dx o') (un hn h2)) F (upd H p o'):=by
 have oM:∀q,hn q≠none->k q=none:=λq z=>kh.free (fresh q z).2.1
 have kp:k p=some o:=jn.l _ _ zod_;have oa:k dx=some (.own p):=jn.l _ _ (zo5_ cG);have m0:∀q,two p dx o q≠none->m q=none:=λq z=>by
  rcases jn.dj q with y |y
  ·exact absurd y z
  ·exact y
 have el:∀{o:HO}{q},two p dx o q≠none->q=p\/q=dx:=λ{o q} z=>by
  by_cases a:q=p
  ·exact .inl a
  ·by_cases b:q=dx
   ·exact .inr b
   ·exact absurd (by unfold two;rw[if_neg a,if_neg b]) z
 have dj:Dj (two p dx o') (un hn h2):=λq=>by
  by_cases z:two p dx o' q=none
  ·exact .inl z
  ·right
   have kq:k q≠none:=by
    grind
   have hq:hn q=none:=by
    by_cases y:hn q=none
    ·exact y
    ·exact absurd (oM q y) kq
   have mq:m q=none:=m0 q (by
    rcases el z with e |e
    ·rw[e,zod_];exact sN _
    ·rw[e,zo5_ cG];exact sN _)
   unfold un;rw[hq];exact kb.free mq
 refine⟨zjt_ dj,PutC.same ok kh (λq s z=>?_) (λq z1 z2=>zI_ λe=>?_) λq z1 z2=>?_⟩
 ·unfold un at z
  cases y:two p dx o' q with
  |some w=>
   rw[y]at z;by_cases e:q=p
   ·rw[e,zod_]at y;rw[e,zq_,y];exact z
   ·rw[zI_ e]
    have e2:q=dx:=by
     grind
    rw[e2,zo5_ cG]at y;rw[<- z,<- y,e2];exact ok.2.2.1 _ _ (kh _ _ oa)
  |none=>
   rw[y]at z;have e:=(zrp_ y).1;rw[zI_ e];cases x:hn q with
   |some w=>rw[x]at z;rw[<- z];exact hs _ _ x
   |none=>rw[x]at z;exact ok.2.2.1 _ _ (kh _ _ (jn.r _ _ (kb _ _ z)))
 ·rw[e,kp]at z1;cases z1
 ·have e1:two p dx o' q=none:=by
   grind
  have e2:h2 q=none:=kb.free (jn.r.free z1);have eu:un (two p dx o') (un hn h2) q=hn q:=by
   unfold un;rw[e1];cases x:hn q with
   |some w=>rfl
   |none=>exact e2
  rw[eu]at z2 ⊢;obtain⟨a,b,c⟩:=fresh q z2;refine⟨a,b,c,?_⟩;cases x:hn q with
  |none=>exact absurd x z2
  |some w=>exact hs _ _ x
theorem zsQ_ {P:Ps γ}{P':Ps δ}{ad:γ->α->δ}{x:γ}{w:V}{k:δ->Mo (Out ρ B S)}(hi:L[i]?=some (.ow (owAt w (owI C ns P)) x))(hf:f∉ns)(jG:ns.length<900)(pp:PsAdd P (owF T) P' ad)(hT:Imm T)(he:EvF K e E L r T)(hk:∀x',EvS K u E (L.set i (.ow (owAt w (owI C (ns++[f]) P')) x')) (k x') LS LB Or):
  EvS K (tSeq (mSFld C (mVar i) e f) u) E L (r.bind λa=>k (ad x a)) LS LB Or:=by
 intro F0 H0 σ F h H D hL ok fin;refine he σ (un F h) H _ (hL.froz ok.2.1) ok.thaw (zaw_ (G:=F) ok _ (.inl rfl) fin λa F' H' b_ x1 v hv=>?_)
 obtain⟨o,hs,ht⟩:=ok.back x1;rw[b_]at fin;obtain⟨v0,k0,e1,⟨ew,p,dx,vs,m,rfl,cG,jn,hl,ps⟩,kH,kh,_,g⟩:=zk1_ (hL.mono hs) hi o;have fk:H' p=some (.ins C dx (ns.zip vs)):=kH _ _ (jn.l _ _ zod_);refine zdY_ e1 ⟨dx,_,fk,by rw[sS];omega,?_⟩
 rw[zhV_ v hf hl];have nul:∀q,(λ_:nc=>(none:Option HO)) q≠none->less F' h q=none/\h q=none/\H0 q=none:=λq z=>absurd rfl z
 obtain⟨j',PC⟩:=znq_ (o':=.ins C dx ((ns++[f]).zip (vs++[v]))) (hn:=λ_=>none) o kh cG jn (Same.refl m) nul (λq o z=>by cases z) (λq=>.inl rfl)
 have eu:un (λ_=>none) m=m:=by funext q;rfl
 rw[eu]at j' PC;obtain⟨h',a1,a2⟩:=g (owAt w (owI C (ns++[f]) P')) (ad x a) (.ref p) _ _ _ PC ⟨ew,p,dx,vs++[v],m,rfl,cG,j',by rw[nA,nA,hl];rfl,pp ps a v (λ_=>none) m _ (Same.refl _) ⟨λ_=>rfl,hT ht hv⟩ (λq=>.inl ⟨rfl,rfl⟩)⟩
 rw[zch_ e1]at a1;exact hk _ F0 H0 σ _ h' _ D a1 a2 fin
variable {t:TS}{m:Str}
def FinM (K:Fgg)(r:Mo ρ)(E:XK)(F0 H0:Hp)(kk:ρ->Hp->Hp->Hp->Prop):Prop:=match r with
 |.ok a=>∀F h H,Okk F0 H0 F h H->kk a F h H
 |.ex c=>∀F h H,Okk F0 H0 F h H->Tell K E c H0 F H
 |.no=>False
noncomputable abbrev owRM (w:V)(O2:Own β)(Or:Own ρ):Own (ρ×β):=⟨λr v F h=>∃h1 h2,Jn h1 h2 h/\Or.O r.1 v F h1/\O2.O r.2 w F h2,⟨λr v H=>Or.fr.R r.1 v H,λg q=>Or.fr.mono g q⟩,
 λg ⟨h1,h2,j,a,b⟩=>⟨h1,h2,j,Or.mono g a,O2.mono g b⟩,
 λd ⟨h1,h2,j,a,b⟩=>Or.fr.mono (zeA_ d j.l) (Or.frz (dj_l d j) a),
 λ⟨h1,h2,j,a,b⟩ p xs z=>by
  rcases j p with⟨_,y⟩|⟨_,y⟩
  ·rw[y]at z;exact O2.notup b p xs z
  ·rw[y]at z;exact Or.notup a p xs z⟩
def CtM (K:Fgg)(O:Own α)(O2:Own β)(Q:Cs γ)(g:α->γ->Mo (ρ×β))(Or:Own ρ):Sp:=λvs H R E=>∃F h x c w ws,vs=w::ws/\Same F H/\Dj F h/\Same h H/\O.O x w F h/\Q.R c ws F /\
 FinM K (g x c) E F (less H h) λr F' h' H'=>∀v,(owRM w O2 Or).O r v F' h'->R v H'
theorem zqG_ {k:Hp}(ok:Okk F0 H0 F h H)(s:Same k h):Okk F0 H0 F k H:=by
 refine⟨ok.1,λp=>?_,s.trans ok.2.2.1,λp z=>ok.2.2.2.1 p λy=>z (s.free y),λp xs z=>ok.2.2.2.2 p xs (s _ _ z)⟩
 rcases ok.2.1 p with z |z
 ·exact .inl z
 ·exact .inr (s.free z)
theorem ziA_ {h:Hp}(p:nc)(z:h p≠none):less H h p=none:=by
 unfold less;cases y:h p with
 |none=>exact absurd y z
 |some w=>rfl
theorem zng_:Same (less H h) H:=λp o z=>by
 unfold less at z;split at z
 ·exact z
 ·cases z
theorem zoO_ (hs:Same F H)(dj:Dj F h)(hh:Same h H)(nt:∀p xs,h p≠some (.tup xs)):Okk F (less H h) F h H:=by
 refine⟨⟨Same.refl _,hs,zng_,λp a b=>absurd a b⟩,dj,hh,λp z=>ziA_ p z,nt⟩
def fnMU (r:Mo (Out (Unit×β) Unit β)):Mo (Unit×β):=r.bind λo=>match o with |.rt a=>.ok a |.nx x=>.ok ((),x)|_=>.no
theorem zj6_ {O:Own α}{Q:Cs γ}{ss:γ->List Sl}{x:α}{c:γ}{w:V}{ws:List V}(m:Nat)(hC:CsS Q ss)(hO:O.O x w F h)(hc:Q.R c ws F):Hold (.ow (owAt w O) x::(ss c++nE m .dead)) (some w::(ws.map some++nE m none)) F h:=
 ⟨h,λ_=>none,λ_=>.inr ⟨rfl,rfl⟩,⟨w,rfl,rfl,hO⟩,(hC hc).hold m⟩
theorem zqa_ {t:XK->TS}{O:Own α}{O2:Own β}{Q:Cs γ}{ss:γ->List Sl}{g:α->γ->Mo (Out (Unit×β) Unit β)}{N:List Str}{LS:V->β->List Sl}(n m:Nat)(hn:CsN Q n)(hm:N.length-(n+1)=m)(hC:CsS Q ss)(j8:∀w x,(LS w x)[0]?=some (.ow (owAt w O2) x))
  (hb:∀w x c E,EvS K (t E) E (.ow (owAt w O) x::(ss c++nE m .dead)) (g x c) (LS w) (λ_:Unit=>[]) (owRM w O2 (owF tyNon))):
  ∀vs H R E,CtM K O O2 Q (λx c=>fnMU (g x c)) (owF tyNon) vs H R E->t E {nx:=λ_ H'=>R .non H',rt:=R} (start N vs) H:=by
 rintro vs H R E ⟨F,h,x,c,w,ws,rfl,hs,dj,hh,hO,hc,q⟩;have aV:start N (w::ws)=some w::(ws.map some++nE m none):=by
  unfold start;rw[qh,hn hc,hm];rfl
 rw[aV];refine hb w x c E F (less H h) _ F h H _ (zj6_ m hC hO hc) (zoO_ hs dj hh (O.notup hO)) ?_;cases e:g x c with
 |no=>simp only[fnMU,e]at q;exact q
 |ex cc=>simp only[fnMU,e]at q;exact q
 |ok o=>
  simp only[fnMU,e]at q;cases o with
  |nx s=>
   intro σ F' h' H' hL ok;obtain⟨o,k,hr,e1,j,⟨v,e2,e3,ho⟩,_⟩:=hL.at 0 (j8 w s);subst e3;exact q F' k H' (zqG_ ok j.l) .non ⟨λ_=>none,k,λ_=>.inl ⟨rfl,rfl⟩,⟨λ_=>rfl,rfl⟩,ho⟩
  |bk s=>exact q.elim
  |ct s=>exact q.elim
  |rt a=>exact λv F' h' H' ok hv=>q F' h' H' ok v hv
def ImmP (P:Ps γ):Prop:=∀{c vs F F' h},Tups F F'->P.P c vs F h->P.P c vs F' h
theorem zpa_:ImmP psNil:=λ_ q=>q
theorem zfR_ {O:Own α}{P:Ps γ}(a:ImmO O)(b:ImmP P):ImmP (psO O P):=λg ⟨v,us,h1,h2,e,j,x,y⟩=>⟨v,us,h1,h2,e,j,a g x,b g y⟩
theorem zsu_ {P:Ps γ}(b:ImmP P):ImmO (owI C ns P):=λg ⟨p,dx,vs,k,e,nd,j,l,q⟩=>⟨p,dx,vs,k,e,nd,j,l,b g q⟩
theorem zh9_ {P:Ps γ}{P':Ps δ}{ad:γ->α->δ}{x:γ}{w:V}{k:δ->Mo (Out ρ B S)}(hi:L[i]?=some (.ow (owAt w (owI C ns P)) x))(hf:f∉ns)(jG:ns.length<900)(pp:PsAdd P (owF T) P' ad)(hT:Imm T)(he:EvF K e E L r T)(hk:∀x',EvS K u E (L.set i (.ow (owAt w (owI C (ns++[f]) P')) x')) (k x') LS LB Or):
  EvS K (tSeq (mSFld C (mVar i) e f) u) E L (r.bind λa=>(Mo.ok (ad x a)).bind k) LS LB Or:=zsQ_ hi hf jG pp hT he hk
def EvAO (K:Fgg)(t:TA)(E:XK)(L:List Sl)(r:Mo (List α))(O:Own α):Prop:=
 ∀σ F H (Q:List V->Hp->Prop),HoldF L σ F->Same F H->After K r E F H (λxs F' H'=>∀vs h,(∀p,h p≠none->H p=none)->Dj F' h->Same h H'->OwAll O F' xs vs h->Q vs H')->t σ H Q
theorem zrB_ {O:Own α}:EvAO K tNil E L (.ok ([]:List α)) O:=λσ F H Q hL hs q=>q.ok hs [] (λ_=>none) (λp z=>absurd rfl z) (λp=>.inr rfl) (λp o z=>by cases z) λ_=>rfl
theorem zeY_ {O:Own α}{t:TA}{r':Mo (List α)}(he:EvO K e E L r O)(ht:EvAO K t E L r' O):EvAO K (tCons e t) E L (r.bind λa=>r'.bind λas=>.ok (a::as)) O:=by
 intro σ F H Q hL hs q;refine he σ F H _ hL hs (q.bind.imp λa F1 H1 x1 k1 v h1 fG d1 s1 o1=>?_)
 refine ht σ F1 H1 _ (hL.mono x1.1) x1.2.1 (k1.bind.imp λas F2 H2 x2 k2 vs h2 mR d2 s2 o2=>?_)
 have dj:Dj h1 h2:=λp=>by
  by_cases z:h2 p=none
  ·exact .inr z
  ·exact .inl (s1.free (mR p z))
 have k3:=k2.ok x2.2.1;refine k3 (v::vs) (un h1 h2) (λp z=>?_) (λp=>?_) (λp o z=>?_) ⟨h1,h2,zjt_ dj,O.mono x2.1 o1,o2⟩
 ·unfold un at z
  cases y:h1 p with
  |some w=>exact fG p (by rw[y];exact sN _)
  |none=>rw[y]at z;exact x1.2.2.1.free (mR p z)
 ·unfold un
  cases y:h1 p with
  |some w=>
   left;have p_:F1 p=none:=by
    rcases d1 p with z |z
    ·exact z
    ·rw[z]at y;cases y
   by_cases w:F2 p=none
   ·exact w
   ·have:=x2.2.2.2 p p_ w
    rw[s1 _ _ y]at this;cases this
  |none=>exact d2 p
 ·unfold un at z
  cases y:h1 p with
  |some w=>rw[y]at z;rw[<- z];exact x2.2.2.1 _ _ (s1 _ _ y)
  |none=>rw[y]at z;exact s2 _ _ z
theorem zra_ {O:Own α}{t:TA}{r:Mo (List α)}(ht:EvAO K t E L r O):EvO K (tLst t) E L (r.bind λxs=>.lim xs.length (.ok xs)) (owLO O):=by
 intro σ F H Q hL hs q;refine ht σ F H _ hL hs (q.bind.imp λxs F1 H1 x1 k1 vs h1 fr d s o=>?_)
 obtain⟨hz,k1⟩:=k1.lim;refine⟨by rw[<- o.len];exact hz,λp hp=>?_⟩
 have fk:h1 p=none:=s.free hp;have dj:Dj (one p (.lst vs)) h1:=λq=>by
  by_cases z:q=p
  ·rw[z];exact .inr fk
  ·left;unfold one;rw[if_neg z]
 have xx:Ext F1 H1 F1 (upd H1 p (.lst vs)):=⟨Same.refl _,λb o z=>by rw[zI_ (λe=>by rw[e]at z;have:=x1.2.1 _ _ z;rw[hp]at this;cases this)];exact x1.2.1 _ _ z,λb o z=>by rw[zI_ (λe=>by rw[e,hp]at z;cases z)];exact z,λb a c=>absurd a c⟩
 refine k1 F1 _ xx (.ref p) (un (one p (.lst vs)) h1) (λb z=>?_) (λb=>?_) (λb o' z=>?_) ⟨p,vs,h1,rfl,zjt_ dj,o⟩
 ·unfold un at z
  by_cases e:b=p
  ·rw[e];exact x1.2.2.1.free hp
  ·unfold one at z;rw[if_neg e]at z;exact fr b z
 ·unfold un
  by_cases e:b=p
  ·left;rw[e];exact x1.2.1.free hp
  ·unfold one;rw[if_neg e];exact d b
 ·unfold un at z
  by_cases e:b=p
  ·rw[e,zaa_]at z;rw[e,zq_];exact z
  ·unfold one at z;rw[if_neg e]at z;rw[zI_ e];exact s _ _ z
end
section
variable {K:Fgg}{E:XK}{γ:Type}{L:List Sl}{C:nc}{ns:List Str}
theorem zoP_ (i:Nat){P:Ps γ}{x:γ}{w:V}(h:L[i]?=some (.ow (owAt w (owI C ns P)) x)):EvF K (mVar i) E L (.ok x) (tyI C ns P.fr):=zkM_ i h
end
section
variable {X:Cx}
def mTrL (K:Fgg)(t:TE):TT:=λσ H Q=>t σ H λx H'=>match x with
 |.bl k=>Q k H'
 |.ref a=>∃xs,SqL K H' a xs/\Q (!xs.isEmpty) H'
 |_=>False
theorem zpb_ {e:qF}{t:TE}(h:PE X e t)(he:∀whole,isTrue e X.env whole=(do let v <- whole;standAt e.pos;holding [v] (truthy v)):=by intro _;rfl):PT X e (mTrL X.K t):=by
 intro pins s σ H Q I hw;refine isTrue_plain (thn (h pins s σ H _ I hw) λv s1 af=>?_) (he _)
 obtain⟨x,H1,I1,r1,q1⟩:=af;cases x with
 |bl c=>cases r1;exact rj ⟨H1,I1,q1⟩
 |ref a=>
  cases r1;obtain⟨xs,hq,q⟩:=q1;obtain⟨aa,rv,p,hz⟩:=I1.list hq;have hl:=rv.length;refine wpAny_truthy_list p.isList (by rw[ng,<- hl];rw[sizeLine_eq]at hz;lia) ?_
  have e:aa.isEmpty=xs.isEmpty:=by cases rv<;>rfl
  refine⟨H1,I1.tok _,?_⟩
  simpa [e]using q
 |_=>exact q1.elim
variable {K:Fgg}{E:XK}{α:Type}{L:List Sl}{e:TE}{T:Ty α}
theorem znx_ {b:Mo Bool}(h:EvF K e E L b tyBl):EvT K (mTrL K e) E L b:=by
 intro σ F H Q hL hs q;refine h σ F H _ hL hs (q.imp λa F1 H1 x k v hv=>?_)
 cases hv;exact k
theorem zsz_ {r:Mo (List α)}(h:EvF K e E L r (tyL T)):EvT K (mTrL K e) E L (r.bind λl=>.ok (!l.isEmpty)):=by
 intro σ F H Q hL hs q;refine h σ F H _ hL hs (q.bind.imp λa F1 H1 x k v hv=>?_)
 obtain⟨p,us,rfl,hp,hr⟩:=hv;refine⟨us,.of (x.2.1 _ _ hp),?_⟩;have e:a.isEmpty=us.isEmpty:=by cases hr<;>rfl
 have:=k.ok x.2.1;rwa[e]at this
theorem zqS_:Bl K (mAll K) E (csLast (tyL tyBl)) (λl=>.ok (l.all id)) tyBl:=by
 rintro c vs F H Q hs ⟨v,rfl,p,us,rfl,h,r⟩ q;refine⟨c,?_,q.ok hs _ rfl⟩;have e:us=c.map V.bl:=by
  clear h q;induction r with
  |nil=>rfl
  |cons a t ih=>rw[qv,<- ih];exact congrArg (·::_) a
 rw[<- e];exact .of (hs _ _ h)
theorem zaz_ {r:Mo (Option α)}(h:EvF K e E L r (tyOpt T)):EvF K e E L (r.bind λo=>Mo.opt o) T:=by
 intro σ F H Q hL hs q;refine h σ F H _ hL hs (q.bind.imp λo F1 H1 x k v hv=>?_)
 cases o with
 |none=>exact k.elim
 |some a=>exact k.ok x.2.1 v hv.1
end
section
variable {K:Fgg}{E:XK}{α γ δ ρ S B:Type}{F0 H0 F h H:Hp}{L:List Sl}{e:TE}{T:Ty α}{r:Mo α}{Or:Own ρ}{t u:TS}{LS:S->List Sl}{LB:B->List Sl}{σ:St}{C:nc}{ns:List Str}{f m:Str}{i n w:Nat}
theorem EvO.weak {O O2:Own α}{e:TE}{r:Mo α}(h:∀{a v F h},O.O a v F h->O2.O a v F h)(he:EvO K e E L r O):EvO K e E L r O2:=by
 intro σ F H Q hL hs q;exact he σ F H Q hL hs (q.imp λa F1 H1 x1 k1 v hp fresh d s o=>k1 v hp fresh d s (h o))
section
open PySem PySem.Spec PyProof.Rows PySem.W
end
theorem zkN_ {r:Mo (List α)}{ta:TA}(h:EvA K ta E L r (csLast (tyL T))):EvI K (iEnumL K ta) E L (r.bind λl=>.ok (enumL l)) (tyTup (csCons tyInt (csLast T))):=by
 intro σ F H R hL hs q;refine h σ F H _ hL hs (q.bind.imp λl F1 H1 x1 k1 vs hv=>?_)
 obtain⟨v,rfl,p,us,rfl,hp,hr⟩:=hv;refine⟨p,rfl,⟨us,.of (x1.2.1 _ _ hp)⟩,k1.ok x1.2.1 _ ⟨λi H x hH hx=>?_,λH hH=>?_⟩⟩
 ·rw[zbM_]at hx
  rcases hr.get i with⟨a,_⟩|⟨y,u,a,b,c⟩
  ·rw[a]at hx;cases hx
  ·rw[a]at hx;cases hx
   refine⟨⟨us,u,.of (hH _ _ hp),b⟩,?_⟩;rintro v H' ⟨p2,w,z,hp2,rfl,rfl⟩ F hF fE;have e:=z us (.of (hH _ _ hp));rw[b]at e;cases e;have x:=Ext.new (o:=.tup [.int i,u]) fE hp2;exact⟨_,x,p2,_,rfl,zq_,_,_,rfl,rfl,u,rfl,T.mono (hF.trans x.1) c⟩
 ·exact⟨us,.of (hH _ _ hp),by rw[zbL_,hr.len];exact nG _⟩
theorem zac_ {α:Type}{us:List α}{n:Nat}(h:us.length=n+1):∃a t,us=a::t/\t.length=n:=by
 cases us with
 |nil=>cases h
 |cons a t=>exact⟨a,t,rfl,yo h⟩
theorem Fun.binds1 {x qual:Str}{st:qL}{f:nc}{fd:rm}{ps:List Str}(hp:ps.length=1)(F:Fun K x qual st f fd)(h:∀(kV doc pm:aL) (an:Option nc) (ah ct:aL) (ua:aL),bindArgs (tX x qual (defArgs st) (defBody st) (defScope st) .none kV doc pm an ah ct) ⟨[ua],[]⟩=pure (ps.zip [ua])):Binds K fd ps []:=by
 refine F.binds λkV doc pm an ah ct us hl=>?_
 have h0:=hl.trans hp;obtain⟨ua,t1,rfl,h1⟩:=zac_ h0;cases rP.mp h1;exact h kV doc pm an ah ct ua
theorem Fun.binds2 {x qual:Str}{st:qL}{f:nc}{fd:rm}{ps:List Str}(hp:ps.length=2)(F:Fun K x qual st f fd)(h:∀(kV doc pm:aL) (an:Option nc) (ah ct:aL) (ua ub:aL),bindArgs (tX x qual (defArgs st) (defBody st) (defScope st) .none kV doc pm an ah ct) ⟨[ua,ub],[]⟩=pure (ps.zip [ua,ub])):Binds K fd ps []:=by
 refine F.binds λkV doc pm an ah ct us hl=>?_
 have h0:=hl.trans hp;obtain⟨ua,t1,rfl,h1⟩:=zac_ h0;obtain⟨ub,t2,rfl,h2⟩:=zac_ h1;cases rP.mp h2;exact h kV doc pm an ah ct ua ub
theorem Fun.binds3 {x qual:Str}{st:qL}{f:nc}{fd:rm}{ps:List Str}(hp:ps.length=3)(F:Fun K x qual st f fd)(h:∀(kV doc pm:aL) (an:Option nc) (ah ct:aL) (ua ub uc:aL),bindArgs (tX x qual (defArgs st) (defBody st) (defScope st) .none kV doc pm an ah ct) ⟨[ua,ub,uc],[]⟩=pure (ps.zip [ua,ub,uc])):Binds K fd ps []:=by
 refine F.binds λkV doc pm an ah ct us hl=>?_
 have h0:=hl.trans hp;obtain⟨ua,t1,rfl,h1⟩:=zac_ h0;obtain⟨ub,t2,rfl,h2⟩:=zac_ h1;obtain⟨uc,t3,rfl,h3⟩:=zac_ h2;cases rP.mp h3;exact h kV doc pm an ah ct ua ub uc
theorem zg9_ {P:Ps γ}{P':Ps δ}{O1:Own α}{ad:γ->α->δ}{x:γ}{w:V}{k:δ->Mo (Out ρ B S)}(hi:L[i]?=some (.ow (owAt w (owI C ns P)) x))(hf:f∉ns)(jG:ns.length<900)(pp:PsAdd P O1 P' ad)(hO:ImmO O1)(he:EvO K e E L r O1)(hk:∀x',EvS K u E (L.set i (.ow (owAt w (owI C (ns++[f]) P')) x')) (k x') LS LB Or):
  EvS K (tSeq (mSFld C (mVar i) e f) u) E L (r.bind λa=>(Mo.ok (ad x a)).bind k) LS LB Or:=by
 intro F0 H0 σ F h H D hL ok fin;refine he σ (un F h) H _ (hL.froz ok.2.1) ok.thaw (zaw_ (G:=F) ok _ (.inl rfl) fin λa F' H' b_ x1 v hn fresh dj cI hv=>?_)
 obtain⟨o,hs,ht⟩:=ok.back x1;rw[b_]at fin;obtain⟨v0,k0,e1,⟨ew,p,dx,vs,m,rfl,cG,jn,hl,ps⟩,kH,kh,_,g⟩:=zk1_ (hL.mono hs) hi o;have fk:H' p=some (.ins C dx (ns.zip vs)):=kH _ _ (jn.l _ _ zod_);refine zdY_ e1 ⟨dx,_,fk,by rw[sS];lia,?_⟩
 rw[zhV_ v hf hl];have fr:∀q,hn q≠none->less F' h q=none/\h q=none/\H0 q=none:=λq z=>⟨by
  rcases dj q with y |y
  ·exact zng_.free y
  ·exact absurd y z,ok.2.2.1.free (fresh q z),ok.1.2.2.1.free (fresh q z)⟩
 have dn:Dj hn m:=λq=>by
  by_cases z:hn q=none
  ·exact .inl z
  ·exact .inr (jn.r.free (kh.free (fr q z).2.1))
 obtain⟨j',PC⟩:=znq_ (o':=.ins C dx ((ns++[f]).zip (vs++[v]))) (hn:=hn) o kh cG jn (Same.refl m) fr cI dn;obtain⟨h',a1,a2⟩:=g (owAt w (owI C (ns++[f]) P')) (ad x a) (.ref p) _ _ _ PC ⟨ew,p,dx,vs++[v],un hn m,rfl,cG,j',by rw[nA,nA,hl];rfl,pp ps a v hn _ _ (Same.refl _) (hO ht hv) (zjt_ dn)⟩
 rw[zch_ e1]at a1;exact hk _ F0 H0 σ _ h' _ D a1 a2 fin
end
section
end
section
variable {κ:Type}[DecidableEq κ]
end
section
end
theorem atF {K:Fgg}{E:XK}{α:Type}{e:TE}{r:Mo α}{T:Ty α}(L:List Sl)(h:EvF K e E L r T):EvF K e E L r T:=h
section
end
def mSetD (td ty tz:TE):TE:=λσ H Q=>td σ H λx H1=>(match x with |.ref a=>∃kvs,H1 a=some (.dK kvs)|_=>False)/\ty σ H1 λy H2=>tz σ H2 λz H3=>atD x y H3 λa kvs k=>
 match valV kvs k with |some v=>Q v H3 |none=>kvs.length<pX/\Q z (upd H3 a (.dK (putK kvs k z)))
section
variable {X:Cx}{o e f:qF}{apos ao:Pos}{td ty tz:TE}
theorem zoD_ (hu:X.A.units+60<cLine)(ho:PE X o td)(he:PE X e ty)(hf:PE X f tz)(m:M2 X o "setdefault" apos e f ao:=by exact⟨rfl,rfl,rfl,rfl⟩):PE X (.Call (.Attribute o "setdefault" apos) [e,f] [] ao) (mSetD td ty tz):=by
 intro pins s σ H Q I h;refine wpAny_Call_method m.base m.few m.line PySem.F.plainAttrs_dict uV PySem.F.type_dict_setdefault (thn (ho pins s σ H _ I h) λu s1 af=>?_)
 obtain⟨x,H1,I1,rx,hx,q1⟩:=af;cases x with
 |ref a=>
  obtain⟨jx,hd0⟩:=hx;obtain rfl:u=qq a:=rx;obtain⟨t1,t2,_⟩:=zsW_ I1 (.inl ⟨jx,.inl hd0⟩);refine⟨t1,t2,?_⟩;rw[m.trees];refine Calls.callWith_builtin rfl (Calls.evalArgs_plain (Calls.spliced_cons (thn (he pins s1 σ H1 _ I1 q1) λiv s2 ⟨y,H2,I2,ry,q2⟩=>
   Calls.spliced_cons (thn (hf pins s2 σ H2 _ I2 q2) λfv s3 ⟨z,H3,I3,rz,q3⟩=>Calls.spliced_nil ?_))))
  obtain⟨a',kvs,k,ea,rfl,hd,q⟩:=zlA_ q3;cases ea;obtain⟨hz,hsys,vs,rel,dd⟩:=dk_of I3.hok hd;have og:vs.length<=pX:=by rw[<- rel.length];exact hz
  have rk:=rel.val k;refine call_meetsIn uV dd.typeIs PySem.F.entry_dict_setdefault (PySem.F.args_dict_setdefault_3 _ _ _) (kt_meets_setdefault (mixKind X.prog X.w) a (zrx_ ry) hsys fv) ⟨vs,dd,og,λv hv=>?_,λhn h' fK hs=>?_⟩
  ·rw[hv]at rk
   cases g:valV kvs k with
   |none=>rw[g]at rk;exact rk.elim
   |some v0=>rw[g]at rk q;exact⟨v0,H3,I3.tok _,rk,q⟩
  ·rw[hn]at rk
   cases g:valV kvs k with
   |some v0=>rw[g]at rk;exact rk.elim
   |none=>
    rw[g]at q;have hl:(putK kvs k z).length<=pX:=by have:=zdF_ kvs k z;have:=q.1;lia
    have hq:∃q,h'.get? a=some q:=let⟨q,_,_,hq,_⟩:=fK;⟨q,hq⟩
    exact⟨z,_,zkH_ I3 (by rw[hd];exact rT) hs hq (zrV_ hl hsys (rel.put k rz) fK),rz,q.2⟩
 |_=>exact hx.elim
end
section
variable {K:Fgg}{E:XK}{α ρ κ S B:Type}{F0 H0 F h H:Hp}{L:List Sl}{T:Ty α}{O:Own ρ}{t u:TS}{LS:S->List Sl}{LB:B->List Sl}{KY:KyT κ}[DecidableEq κ]
def sdA (m:List (κ×α))(k:κ)(d:α):α×List (κ×α):=match getA m k with |some a=>(a,m)|none=>(d,putA m k d)
theorem zs4_ {i:Nat}{m:List (κ×α)}{rk:Mo κ}{rv:Mo α}{rc:α×List (κ×α)->Mo α}{ek ev ec:TE}{R:R2}{g:α->α->Mo Bool}{r1 r2:α×List (κ×α)->Mo (Out ρ B S)}
  (hi:L[i]?=some (.ow (owD KY T) m)) (hT:Imm T) (mB:Imm KY.T) (hk:EvF K ek E L rk KY.T) (hv:EvF K ev E L rv T) (dG:Op2 K R E T T g tyBl)
  (hc:∀q:α×List (κ×α),EvF K ec E (L.set i (.ow (owD KY T) q.2)) (rc q) T) (h1:∀q:α×List (κ×α),EvS K t E (L.set i (.ow (owD KY T) q.2)) (r1 q) LS LB O) (h2:∀q:α×List (κ×α),EvS K u E (L.set i (.ow (owD KY T) q.2)) (r2 q) LS LB O):
  EvS K (mIfS (mTest (tOp R (mSetD (mVar i) ek ev) ec)) t u) E L (rk.bind λk=>rv.bind λd=>.lim (m.length+1) ((Mo.ok (sdA m k d)).bind λq=>(rc q).bind λc=>(g q.1 c).bind λb=>if b then r1 q else r2 q)) LS LB O:=by
 intro F0 H0 σ F h H D hL ok fin;obtain⟨p,kvs,e1,hp,hr,_⟩:=zec_ hL hi ok;show mVar i σ H λx H1=>(match x with |.ref a=>∃kvs,H1 a=some (.dK kvs)|_=>False)/\ek σ H1 λy H2=>ev σ H2 λz H3=>atD x y H3 λa kvs k=>
  match valV kvs k with
  |some v=>ec σ H3 λw H4=>R v w H4 λx H5=>match x with |.bl k=>br k (t D σ H5) (u D σ H5)|_=>False
  |none=>kvs.length<pX/\ec σ (upd H3 a (.dK (putK kvs k z))) λw H4=>R z w H4 λx H5=>match x with |.bl k=>br k (t D σ H5) (u D σ H5)|_=>False
 refine zdY_ e1 ⟨⟨kvs,hp⟩,?_⟩;refine hk σ (un F h) H _ (hL.froz ok.2.1) ok.thaw (zaw_ (G:=F) ok _ (.inl rfl) fin λy F1 H1 jI x1 v1 bH=>?_)
 obtain⟨o,hs,ht⟩:=ok.back x1;rw[jI]at fin;have bh:=hL.mono hs;have jD:=mB ht bH;refine hv σ (un _ h) H1 _ (bh.froz o.2.1) o.thaw (zaw_ (G:=F) o _ (.inl rfl) fin λd F2 H2 mi x2 v2 ba=>?_)
 obtain⟨o',bw,fb⟩:=o.back x2;rw[mi]at fin;obtain⟨hz,fin⟩:=zgU_ (show Fin K (Mo.lim (m.length+1) ((Mo.ok (sdA m y d)).bind λq=>(rc q).bind λc=>(g q.1 c).bind λb=>if b then r1 q else r2 q)) E LS LB O F0 H0 D from fin)
 have my:=bh.mono bw;obtain⟨p',aE,aI,hp',aP,mm⟩:=zec_ my hi o';rw[e1]at aI;cases aI;have gD:=hT fb ba
 have tail:∀(q:α×List (κ×α)) (va:V) (h' H':Hp),sdA m y d=q->Hold (L.set i (.ow (owD KY T) q.2)) σ (less F2 h) h'->Okk F0 H0 (less F2 h) h' H'->T.R q.1 va (less F2 h) ->
   ec σ H' λw H3=>R va w H3 λx H4=>match x with |.bl k=>br k (t D σ H4) (u D σ H4)|_=>False:=by
  intro q va h' H' hq mx iq ot;have fq:Fin K ((rc q).bind λc=>(g q.1 c).bind λb=>if b then r1 q else r2 q) E LS LB O F0 H0 D:=by rw[<- hq];exact fin
  refine hc q σ (un _ h') H' _ (mx.froz iq.2.1) iq.thaw (zaw_ (G:=F) iq _ (.inl rfl) fq λc F3 H3 oH x3 w hw=>?_)
  obtain⟨o3,hs3,ht3⟩:=iq.back x3;rw[oH]at fq;have kL:Fin K ((g q.1 c).bind λb=>if b then r1 q else r2 q) E LS LB O F0 H0 D:=fq
  refine dG q.1 c va w _ H3 _ o3.1.2.1 (T.mono hs3 ot) (hT ht3 hw) (zaw_ (G:=F) o3 _ (.inr rfl) kL λb F4 H4 oI x4 v4 dR=>?_)
  cases dR;rw[oI]at kL;have f4:Fin K (if b then r1 q else r2 q) E LS LB O F0 H0 D:=kL
  have L4:=(mx.mono hs3).mono x4.1;have o4:=o3.cold x4;refine⟨λz=>?_,λz=>?_⟩
  ·rw[if_pos z]at f4;exact h1 q F0 H0 σ _ h' H4 D L4 o4 f4
  ·rw[if_neg (by rw[z];decide)]at f4;exact h2 q F0 H0 σ _ h' H4 D L4 o4 f4
 unfold atD;simp only;rw[KY.of (KY.T.mono bw jD)];refine⟨aE,hp',?_⟩;rcases zj4_ aP y with⟨g1,g2⟩|⟨a,va,g1,g2,g3⟩
 ·rw[g2]
  obtain⟨h',a1,a2⟩:=mm (putA m y d) (putK aE (KY.key y) v2) (zmI_ aP y gD);refine⟨?_,tail (d,putA m y d) v2 h' _ (by unfold sdA;rw[g1]) a1 a2 gD⟩
  have:=Paired.length aP;lia
 ·rw[g2]
  refine tail (a,m) va h H2 (by unfold sdA;rw[g1]) ?_ o' g3
  show Hold (L.set i (.ow (owD KY T) m)) σ (less F2 h) h
  rw[zl8_ hi];exact my
end
section
variable {α κ:Type}{T:Ty α}{KY:KyT κ}
theorem zpX_ [DecidableEq κ]{a:List (κ×α)}{v:V}{F:Hp}(h:(tyD KY T).R a v F):v≠.non:=by obtain⟨p,vs,rfl,_⟩:=h;exact λz=>V.noConfusion z
end
section
variable {κ:Type}
variable [DecidableEq κ]
end
section
variable {κ:Type}[DecidableEq κ]
end
section
end
def Fi (K:Fgg)(x q:Str)(st:qL)(f:nc):Prop:=∃(oc:aL) (od:Option nc) (kV doc pm:aL) (an:Option nc) (ah ct:aL) (aw:Array (Option aL)),
 K.lookup f=some ⟨oc,od,.func (tX x q (defArgs st) (defBody st) (defScope st) .none kV doc pm an ah ct),aw⟩/\uO K ah q=true/\sH K (.ref f)=true
def Fg (K:Fgg)(x:Str)(st:qL):Prop:=∃f,sd K qm x=some (some (.ref f))/\Fi K x x st f
def Fm (K:Fgg)(c m q:Str)(st:qL):Prop:=∃cw f,sd K qm c=some (some (.ref cw))/\qX K (.ref cw) m=some (some (.ref f))/\wj K (.ref f)=true/\Fi K m q st f
def Fc (K:Fgg)(c:Str):Prop:=∃cw,sd K qm c=some (some (.ref cw))/\vC K cw vU=true/\uN K cw=true/\vN K cw=true /\
 qX K (.ref cw) "__setattr__"=some (some (.builtin "object.__setattr__"))/\wK K cw=true/\sH K (.ref cw)=true
def Fa (K:Fgg)(c a:Str):Prop:=∃cw,sd K qm c=some (some (.ref cw))/\qX K (.ref cw) a=some none
def Fb (K:Fgg)(x:Str):Prop:=sd K qm x=some none
def Fv (K:Fgg)(x:Str)(v:V):Prop:=∃u,sd K qm x=some (some u)/\RelV v u
def Fk (K:Fgg)(x:Str):Prop:=∃c,sd K qm x=some (some (.ref c))
def Mgo (K:Fgg)(mg:Str->Option aL):Prop:=∃h:Heap,K.In h/\h.Ns qm mg
section
variable {P:m7}{w:nL}{K:Fgg}{mg:Str->Option aL}{base:Heap}{CX:CXT}{x q c m a:Str}{st:qL}{f:nc}{fd:rm}{ps:List Str}{k j:Nat}{sp:Sp}{A:qu}{v:V}
theorem Fg.mk_ {oc:aL}{od:Option nc}{kV doc pm:aL}{an:Option nc}{ah ct:aL}{aw:Array (Option aL)}(h:sd K qm x=some (some (.ref f)))(l:K.lookup f=some ⟨oc,od,.func (tX x x (defArgs st) (defBody st) (defScope st) .none kV doc pm an ah ct),aw⟩)(c:uO K ah x=true)(k:sH K (.ref f)=true):Fg K x st:=⟨f,h,oc,od,kV,doc,pm,an,ah,ct,aw,l,c,k⟩
theorem Fm.mk_ {cw:nc}{oc:aL}{od:Option nc}{kV doc pm:aL}{an:Option nc}{ah ct:aL}{aw:Array (Option aL)}(h:sd K qm c=some (some (.ref cw)))(h1:qX K (.ref cw) m=some (some (.ref f)))(h2:wj K (.ref f)=true)(l:K.lookup f=some ⟨oc,od,.func (tX m q (defArgs st) (defBody st) (defScope st) .none kV doc pm an ah ct),aw⟩)(h3:uO K ah q=true)(k:sH K (.ref f)=true):Fm K c m q st:=⟨cw,f,h,h1,h2,oc,od,kV,doc,pm,an,ah,ct,aw,l,h3,k⟩
theorem Fc.mk_ {cw:nc}(h:sd K qm c=some (some (.ref cw)))(h1:vC K cw vU=true)(h2:uN K cw=true)(h3:vN K cw=true)(h4:qX K (.ref cw) "__setattr__"=some (some (.builtin "object.__setattr__")))(h5:wK K cw=true)(h6:sH K (.ref cw)=true):Fc K c:=⟨cw,h,h1,h2,h3,h4,h5,h6⟩
theorem Fa.mk_ {cw:nc}(h:sd K qm c=some (some (.ref cw)))(h1:qX K (.ref cw) a=some none):Fa K c a:=⟨cw,h,h1⟩
theorem Fv.mk_ {u:aL}(h:sd K qm x=some (some u))(h1:RelV v u):Fv K x v:=⟨u,h,h1⟩
theorem Fk.mk_ {cw:nc}(h:sd K qm x=some (some (.ref cw))):Fk K x:=⟨cw,h⟩
theorem Fi.fun_ (h:Fi K x q st f):∃fd,Fun K x q st f fd:=by
 obtain⟨oc,od,kV,doc,pm,an,ah,ct,aw,l,c,k⟩:=h;exact⟨_,zpH_ l c k⟩
theorem Mgo.gb (M:Mgo K mg)(h:Fb K x):Gb mg x:=by
 obtain⟨_,X,G⟩:=M;exact W.mg_none_of X G h
theorem Mgo.gv (M:Mgo K mg)(h:Fv K x v):Gc mg x v:=by
 obtain⟨_,X,G⟩:=M;obtain⟨u,e,r⟩:=h;exact⟨u,xg X G e,r⟩
theorem Mgo.gk (M:Mgo K mg)(h:Fk K x):mg x=some (.ref (gA K x)):=by
 obtain⟨_,X,G⟩:=M;obtain⟨u,e⟩:=h;rw[zlH_ e];exact xg X G e
theorem Mgo.gkc (M:Mgo K mg)(h:Fk K x):Gc mg x (.ref (gA K x)):=⟨_,M.gk h,rfl⟩
theorem Fc.cls (h:Fc K c):Cls K (gA K c):=by
 obtain⟨cw,e,h1,h2,h3,h4,_⟩:=h;rw[zlH_ e];exact⟨h1,h2,h3,h4⟩
theorem Fa.no (h:Fa K c a):NoAttr K (gA K c) a:=by
 obtain⟨cw,e,h⟩:=h;rw[zlH_ e];exact h
abbrev OkF (P:m7)(w:nL)(K:Fgg)(mg:Str->Option aL)(base:Heap)(CX:CXT)(k:Nat)(x q:Str)(st:qL)(ps:List Str)(sp:Sp):Prop:=∀f fd,Fun K x q st f fd->FnOk P w K mg base CX k f fd ps sp/\Binds K fd ps []
theorem za3_ (M:Mgo K mg)(F:Fg K x st)(h:OkF P w K mg base CX k x x st ps sp):Gd P w K mg base CX k x ps sp:=by
 obtain⟨_,X,G⟩:=M;obtain⟨f,e,i⟩:=F;obtain⟨fd,F⟩:=i.fun_;exact⟨f,fd,(h f fd F).1,xg X G e,F.kp,(h f fd F).2⟩
theorem gn_of (M:Mgo K mg)(F:Fg K x st)(h:∀f fd,Fun K x x st f fd->FnOkN P w K mg base k f fd ps sp/\Binds K fd ps []):GdN P w K mg base k x ps sp:=by
 obtain⟨_,X,G⟩:=M;obtain⟨f,e,i⟩:=F;obtain⟨fd,F⟩:=i.fun_;exact⟨f,fd,(h f fd F).1,xg X G e,F.kp,(h f fd F).2⟩
theorem hm (hr:Room k A)(h:j<=k:=by decide):Room j A:=hr.mono h
theorem hmN (hr:RoomN k A)(h:j<=k:=by decide):RoomN j A:=hr.mono h
end
section
variable {P:m7}{w:nL}{K:Fgg}{mg:Str->Option aL}{base:Heap}{x q:Str}{st:qL}{N ps:List Str}{k:Nat}{γ ρ:Type}
abbrev Tm (P:m7)(w:nL)(K:Fgg)(mg:Str->Option aL)(base:Heap)(k:Nat)(N:List Str)(q:Str)(st:qL)(t:XK->TS):Prop:=
 ∀(ah:aL) (A:qu) (outer:List Env) (s:kZ) (H:Hp) (f:nc) (E:XK),N.Nodup->Room k (A.deeper (envOfC q (defScope st) s.heap.objs.size f ah))->PSs (cxOf CX0 P w K mg base N q (defScope st) f ah A outer s H E).nox (defBody st) (t E)
abbrev TmX (P:m7)(w:nL)(K:Fgg)(mg:Str->Option aL)(base:Heap)(k:Nat)(N:List Str)(q:Str)(st:qL)(t:XK->TS):Prop:=
 ∀(ah:aL) (A:qu) (outer:List Env) (s:kZ) (H:Hp) (f:nc) (E:XK),N.Nodup->Room k (A.deeper (envOfC q (defScope st) s.heap.objs.size f ah))->PSs (cxOf (CXx P w) P w K mg base N q (defScope st) f ah A outer s H E) (defBody st) (t E)
abbrev TmN (P:m7)(w:nL)(K:Fgg)(mg:Str->Option aL)(base:Heap)(k:Nat)(N:List Str)(q:Str)(st:qL)(t:XK->TS):Prop:=
 ∀(ah:aL) (A:qu) (outer:List Env) (s:kZ) (H:Hp) (f:nc) (E:XK),N.Nodup->RoomN k (A.deeper (envOfC q (defScope st) s.heap.objs.size f ah))->PSs (cxN P w K mg base N q (defScope st) f ah A outer s H) (defBody st) (t E)
abbrev Bnd (K:Fgg)(x q:Str)(st:qL)(ps:List Str):Prop:=∀f fd,Fun K x q st f fd->Binds K fd ps []
theorem okC {C:Cs γ}{O:Own ρ}{ss:γ->List Sl}{g:γ->Mo (Out ρ Unit Unit)}{t:XK->TS}(n m:Nat)(hC:CsS C ss)(tm:Tm P w K mg base k N q st t)
  (ev:∀c E,EvS K (t E) E (ss c++nE m .dead) (g c) (λ_:Unit=>[]) (λ_:Unit=>[]) O) (hn:CsN C n:=by repeat first |exact zf_ |exact csn_nil |refine zc_ ?_) (S:FnScope N ps (defScope st):=by exact⟨rfl,rfl,rfl,by decide +kernel,rfl,by decide +kernel,by decide +kernel⟩) (b:Bnd K x q st ps:=by first |exact λ_ _ F=>Fun.binds1 rfl F λ_ _ _ _ _ _ _=>rfl |exact λ_ _ F=>Fun.binds2 rfl F λ_ _ _ _ _ _ _ _=>rfl |exact λ_ _ F=>Fun.binds3 rfl F λ_ _ _ _ _ _ _ _ _=>rfl |exact λ_ _ F=>Fun.binds4 rfl F λ_ _ _ _ _ _ _ _ _ _=>rfl |exact λ_ _ F=>Fun.binds5 rfl F λ_ _ _ _ _ _ _ _ _ _ _=>rfl |exact λ_ _ F=>Fun.binds6 rfl F λ_ _ _ _ _ _ _ _ _ _ _ _=>rfl |exact λ_ _ F=>Fun.binds7 rfl F λ_ _ _ _ _ _ _ _ _ _ _ _ _=>rfl) (hp:ps.length=n:=by rfl) (hm:N.length-n=m:=by rfl):OkF P w K mg base CX0 (k+1) x q st ps (Ct K C (λc=>fnO (g c)) O):=λf fd F=>
 ⟨F.ok S (λvs H Q E h=>by obtain⟨F,c,_,hc,_⟩:=h;exact(hn hc).trans hp.symm) λah A outer s H vs Q E hr h=>⟨t E,tm ah A outer s H f E S.nd hr,zr8_ (N:=N) (t:=t) n m hn hm hC ev vs H Q E h⟩,b f fd F⟩
theorem okX {C:Cs γ}{O:Own ρ}{ss:γ->List Sl}{g:γ->Mo (Out ρ Unit Unit)}{t:XK->TS}(n m:Nat)(hC:CsS C ss)(tm:TmX P w K mg base k N q st t)
  (ev:∀c E,EvS K (t E) E (ss c++nE m .dead) (g c) (λ_:Unit=>[]) (λ_:Unit=>[]) O) (hn:CsN C n:=by repeat first |exact zf_ |exact csn_nil |refine zc_ ?_) (S:FnScope N ps (defScope st):=by exact⟨rfl,rfl,rfl,by decide +kernel,rfl,by decide +kernel,by decide +kernel⟩) (b:Bnd K x q st ps:=by first |exact λ_ _ F=>Fun.binds1 rfl F λ_ _ _ _ _ _ _=>rfl |exact λ_ _ F=>Fun.binds2 rfl F λ_ _ _ _ _ _ _ _=>rfl |exact λ_ _ F=>Fun.binds3 rfl F λ_ _ _ _ _ _ _ _ _=>rfl |exact λ_ _ F=>Fun.binds4 rfl F λ_ _ _ _ _ _ _ _ _ _=>rfl |exact λ_ _ F=>Fun.binds5 rfl F λ_ _ _ _ _ _ _ _ _ _ _=>rfl |exact λ_ _ F=>Fun.binds6 rfl F λ_ _ _ _ _ _ _ _ _ _ _ _=>rfl |exact λ_ _ F=>Fun.binds7 rfl F λ_ _ _ _ _ _ _ _ _ _ _ _ _=>rfl) (hp:ps.length=n:=by rfl) (hm:N.length-n=m:=by rfl):OkF P w K mg base (CXx P w) (k+1) x q st ps (Ct K C (λc=>fnO (g c)) O):=λf fd F=>
 ⟨F.okX S (λvs H Q E h=>by obtain⟨F,c,_,hc,_⟩:=h;exact(hn hc).trans hp.symm) λah A outer s H vs Q E hr h=>⟨t E,tm ah A outer s H f E S.nd hr,zr8_ (N:=N) (t:=t) n m hn hm hC ev vs H Q E h⟩,b f fd F⟩
theorem okN {C:Cs γ}{O:Own ρ}{ss:γ->List Sl}{g:γ->Mo (Out ρ Unit Unit)}{t:XK->TS}(n m:Nat)(hC:CsS C ss)(tm:TmN P w K mg base k N q st t)
  (ev:∀c E,EvS K (t E) E (ss c++nE m .dead) (g c) (λ_:Unit=>[]) (λ_:Unit=>[]) O) (hn:CsN C n:=by repeat first |exact zf_ |exact csn_nil |refine zc_ ?_) (S:FnScope N ps (defScope st):=by exact⟨rfl,rfl,rfl,by decide +kernel,rfl,by decide +kernel,by decide +kernel⟩) (b:Bnd K x q st ps:=by first |exact λ_ _ F=>Fun.binds1 rfl F λ_ _ _ _ _ _ _=>rfl |exact λ_ _ F=>Fun.binds2 rfl F λ_ _ _ _ _ _ _ _=>rfl |exact λ_ _ F=>Fun.binds3 rfl F λ_ _ _ _ _ _ _ _ _=>rfl |exact λ_ _ F=>Fun.binds4 rfl F λ_ _ _ _ _ _ _ _ _ _=>rfl |exact λ_ _ F=>Fun.binds5 rfl F λ_ _ _ _ _ _ _ _ _ _ _=>rfl |exact λ_ _ F=>Fun.binds6 rfl F λ_ _ _ _ _ _ _ _ _ _ _ _=>rfl |exact λ_ _ F=>Fun.binds7 rfl F λ_ _ _ _ _ _ _ _ _ _ _ _ _=>rfl) (hp:ps.length=n:=by rfl) (hm:N.length-n=m:=by rfl):∀f fd,Fun K x q st f fd->FnOkN P w K mg base (k+1) f fd ps (Ct K C (λc=>fnO (g c)) O)/\Binds K fd ps []:=λf fd F=>
 ⟨F.okN S (λvs H Q E h=>by obtain⟨F,c,_,hc,_⟩:=h;exact(hn hc).trans hp.symm) λah A outer s H vs Q E hr h=>⟨t E,tm ah A outer s H f E S.nd hr,zr8_ (N:=N) (t:=t) n m hn hm hC ev vs H Q E h⟩,b f fd F⟩
end
section
variable {l:PySem.W.OpenLaw}{w:nL}{K:Fgg}{mg:Str->Option aL}{st:qL}{x:Str}{k:Nat}{sp:Sp}{fa:nc}
theorem okLaw (M:Mgo K mg)(F:Fg K "law" st)(jW:mg "law"=some (.ref fa))(hb:∀(kV doc pm:aL) (an:Option nc) (ah ct:aL) (s:kZ) (v:aL),bindArgs (tX "law" "law" (defArgs st) (defBody st) (defScope st) .none kV doc pm an ah ct) ⟨[v],[]⟩=pure [(x,v)])
  (h:∀(base:Heap) (f:nc) (fd:rm),Fun K "law" "law" st f fd->FnOk l.prog w K mg base CX0 k f fd [x] sp):
  ∃fd:rm,(∀(s:kZ) (v:aL),BindsTo s fd ⟨[v],[]⟩ [(x,v)])/\∀base:Heap,K.In base->base.Ns qm mg->FnOk l.prog w K mg base CX0 k fa fd [x] sp:=by
 obtain⟨_,X,G⟩:=M;obtain⟨f,e,oc,od,kV,doc,pm,an,ah,ct,aw,l',c,kk⟩:=F;cases jW.symm.trans (xg X G e);exact⟨_,λs v=>.of_eq (hb kV doc pm an ah ct s v),λbase _ _=>h base _ _ (zpH_ l' c kk)⟩
def spL (K:Fgg):Sp:=λvs H Q _=>∃(a:nc) (ns:List Int),vs=[.ref a]/\SqL K H a (ns.map V.int)/\ns.length<=63/\BitsOk ns/\∀H',Q (.bl true) H'
theorem okL {base:Heap}{N:List Str}{g:List Int->Mo (Out Bool Unit Unit)}{t:XK->TS}(m:Nat)(tm:Tm l.prog w K mg base k N "law" st t)
  (hf:∀ns:List Int,ns.length<=63->BitsOk ns->fnO (g ns)=.ok true)
  (ev:∀c E,EvS K (t E) E (.fz (tySc K) c::nE m .dead) (g c) (λ_:Unit=>[]) (λ_:Unit=>[]) (owF tyBl)) (f:nc) (fd:rm) (F:Fun K "law" "law" st f fd) (S:FnScope N [x] (defScope st):=by exact⟨rfl,rfl,rfl,by decide +kernel,rfl,by decide +kernel,by decide +kernel⟩) (hm:N.length-1=m:=by rfl):FnOk l.prog w K mg base CX0 (k+1) f fd [x] (spL K):=
 F.ok S (λvs H Q E h=>by obtain⟨a,ns,rfl,_⟩:=h;rfl) λah A outer s H vs Q E hr h=>⟨t E,tm ah A outer s H f E S.nd hr,by
  obtain⟨a,ns,rfl,hS,hl,hb,q⟩:=h;refine zr8_ (K:=K) (N:=N) (C:=csLast (tySc K)) (O:=owF tyBl) (t:=t) (ss:=λc=>[.fz (tySc K) c]) (f:=g) 1 m zf_ hm zk_ ev _ H Q E ⟨H,ns,Same.refl _,⟨_,rfl,a,rfl,hS⟩,?_⟩
  show After K (fnO (g ns)) E H H _
  rw[hf ns hl hb];rintro F' H' x v h _ _ _ ⟨_,rfl⟩;exact q H'⟩
variable {X:Cx}{pos pos':Pos}{e:qF}{te:TE}
abbrev FrP (X:Cx)(scope:Scope)(q:Str×Nat):Prop:=X.N[q.2]?=some q.1/\(q.1,NameKind.free)∈scope.names/\(X.env.kindOf q.1=some .cell\/X.env.kindOf q.1=some .free)/\((relabel scope X.env).names.lookup q.1=some .cell\/(relabel scope X.env).names.lookup q.1=some .free)
theorem pgn (i:Nat)(hN:X.N.Nodup:=by assumption)(hi:X.N[i]?=some x:=by rfl)(hx:Loc X.env.scope x:=by first |exact xo rfl |exact xp rfl)(hf:X.fn x=true\/X.env.scope.names.lookup x=some .local:=by first |exact .inl rfl |exact .inr rfl |assumption):PG X (.Name x pos) (gName i):=zmV_ hN hi hx hf
theorem pst (i:Nat)(he:PE X e te)(hN:X.N.Nodup:=by assumption)(hi:X.N[i]?=some x:=by rfl)(hx:Loc X.env.scope x:=by first |exact xo rfl |exact xp rfl)(hs:swapsWith e (some (.Name x pos')) pos.line X.env=pure false:=by rfl)(hf:X.fn x=true\/X.env.scope.names.lookup x=some .local:=by first |exact .inl rfl |exact .inr rfl |assumption):
  PS X (.Assign [.Name x pos'] e pos) (tAsg te (gName i)):=ztn_ hN hi hx he hs hf
theorem csm {scope:Scope}{cl:List (Str×nc)}{lv:List Str}{fr:List (Str×Nat)}(h:closeL X.env.cells scope.names []=some cl)(f:∀q∈fr,FrP X scope q)(h2:∀y∈scope.names,y.2≠.cell:=by decide +kernel)(h3:scope.kind=.function:=by rfl)(h4:∀z∈scope.names,z.2=.local->scope.names.lookup z.1=some .local:=by decide +kernel):CScope X scope cl lv fr:=⟨h,h2,h3,h4,f⟩
theorem frc {scope:Scope}{q:Str×Nat}{fr:List (Str×Nat)}(t:∀q∈fr,FrP X scope q)(h:FrP X scope q:=by refine⟨rfl,by decide +kernel,?_,?_⟩<;>first |exact xo rfl |exact xp rfl):∀z∈q::fr,FrP X scope z:=zro_ h t
theorem fr0 {scope:Scope}:∀q∈([]:List (Str×Nat)),FrP X scope q:=λ_ h=>by cases h
theorem pgc {scope:Scope}{cl:List (Str×nc)}{C:nc}{lv:List Str}{fr:List (Str×Nat)}{fp:List nc}{s2:kZ}{H2:Hp}(i:Nat)(hN:(cN lv fr).Nodup:=by decide +kernel)(hi:(cN lv fr)[i]?=some x:=by rfl)(hx:Loc (cxComp X scope cl C (cN lv fr) fp s2 H2).env.scope x:=by exact xo rfl)(hf:(cxComp X scope cl C (cN lv fr) fp s2 H2).fn x=true\/(cxComp X scope cl C (cN lv fr) fp s2 H2).env.scope.names.lookup x=some .local:=by first |exact .inl rfl |exact .inr rfl |assumption):PG (cxComp X scope cl C (cN lv fr) fp s2 H2) (.Name x pos) (gName i):=zmV_ hN hi hx hf
end
abbrev ziX_:=@PySem.F.slot_str_find
abbrev zjg_:=@PySem.F.type_str_find
abbrev ziU_:=@PySem.F.slot_str_join
abbrev ziP_:=@PySem.F.type_str_join
abbrev zmP_:=@PySem.F.plainAttrs_list
abbrev zf7_:=@PySem.F.slot_list_append
abbrev zgh_:=@PySem.F.type_list_append
abbrev zgc_:=@PySem.F.slot_list_extend
abbrev zgf_:=@PySem.F.type_list_extend
def gallop':Bool->Keyed->Array Keyed->Nat->Nat->Nat->StateT SortSt Sem (Option Nat):=sortPriv% PySem.Builtin.gallop
section
abbrev T7:Type:=Option (Array Keyed)×Array Keyed×Nat×Nat×Nat×Nat×Nat
abbrev T6:Type:=Option (Array Keyed)×Array Keyed×Nat×Nat×Nat×Nat
abbrev T5:Type:=Option (Array Keyed)×Array Keyed×Nat×Nat×Nat
variable {lt:Nat->Nat->Bool}
abbrev op (lt:Nat->Nat->Bool):Nat->Nat->Bool:=λa b=>lt b a
abbrev U7:Type:=Option (Array Keyed)×Nat×Nat×Array Keyed×Nat×Nat×Nat
noncomputable def hi3 (a b:Array Keyed)(na nb:Nat)(ou:Array Keyed)(mg ac bc:Nat):StateT SortSt Sem (ForInStep U7):=do
 let e <- elem' a (na-1)
 if na-1 == 0 then pure (.done (some (a.extract 0 (na-1)++b.extract 0 nb++(ou.push e).reverse),na-1,nb,ou.push e,mg,ac,bc))
 else if ac<7 && bc<7 then pure (.done (none,na-1,nb,ou.push e,mg,ac,bc))else pure (.yield (none,na-1,nb,ou.push e,mg,ac,bc))
noncomputable def hi2b (a b:Array Keyed)(na nb q:Nat)(ou:Array Keyed)(mg ac:Nat):StateT SortSt Sem (ForInStep U7):=
 if nb-q > 0 then
  if q == 1 then pure (.done (some (b.extract 0 q++a.extract 0 na++(ou++(b.extract q nb).reverse).reverse),na,q,ou++(b.extract q nb).reverse,mg,ac,nb-q))
  else if q == 0 then pure (.done (some (a.extract 0 na++b.extract 0 q++(ou++(b.extract q nb).reverse).reverse),na,q,ou++(b.extract q nb).reverse,mg,ac,nb-q))
  else hi3 a b na q (ou++(b.extract q nb).reverse) mg ac (nb-q)
 else hi3 a b na nb ou mg ac (nb-q)
noncomputable def hi2 (a b:Array Keyed)(na nb:Nat)(ou:Array Keyed)(mg ac bc:Nat):StateT SortSt Sem (ForInStep U7):=do
 let e <- elem' b (nb-1)
 if nb-1 == 1 then pure (.done (some (b.extract 0 (nb-1)++a.extract 0 na++(ou.push e).reverse),na,nb-1,ou.push e,mg,ac,bc))
 else
  let f <- elem' a (na-1)
  let r <- gallop' true f b 0 (nb-1) (nb-1-1)
  match r with
  |some q=>hi2b a b na (nb-1) q (ou.push e) mg ac
  |_=>pure (.done (some (a.extract 0 na++b.extract 0 (nb-1)++(ou.push e).reverse),na,nb-1,ou.push e,mg,ac,bc))
noncomputable def hi1 (a b:Array Keyed)(na nb q:Nat)(ou:Array Keyed)(mg bc:Nat):StateT SortSt Sem (ForInStep U7):=
 if na-q > 0 then
  if q == 0 then pure (.done (some (a.extract 0 q++b.extract 0 nb++(ou++(a.extract q na).reverse).reverse),q,nb,ou++(a.extract q na).reverse,mg,na-q,bc))
  else hi2 a b q nb (ou++(a.extract q na).reverse) mg (na-q) bc
 else hi2 a b na nb ou mg (na-q) bc
variable {K:Fgg}{E:XK}{α γ ρ S:Type}{F h H:Hp}{L:List Sl}{e:TE}{T:Ty α}{O:Own ρ}{t:TS}{LS:S->List Sl}
theorem znh_:∀{ar:List (List α)}{vs:List V}{F h:Hp},OwAll (owL T) F ar vs h->OwIn T F ar vs h
 |[],[],_,_,q=>q
 |_::_,_::_,_,_,⟨h1,h2,j,o,r⟩=>⟨h1,h2,j,o,znh_ r⟩
 |[],_::_,_,_,q=>q.elim
 |_::_,[],_,_,q=>q.elim
theorem zon_ {t:TA}{r:Mo (List (List α))}(ht:EvAO K t E L r (owL T)):EvO K (tLst t) E L (r.bind λxs=>.lim xs.length (.ok xs)) (owLL T):=
 EvO.weak (O:=owLO (owL T)) (O2:=owLL T) (λ⟨p,vs,h2,e,j,q⟩=>⟨p,vs,h2,e,j,znh_ q⟩) (zra_ ht)
abbrev tyRng:Ty (Int×Int):=⟨λa v F=>∃p,v=.ref p/\F p=some (.rng a.1 a.2),λg ⟨p,e,h⟩=>⟨p,e,g _ _ h⟩⟩
theorem zl1_:Bl K mRange E (csCons tyInt (csLast tyInt)) (λc=>.ok c) tyRng:=by
 rintro c vs F H Q hs ⟨v,us,rfl,rfl,w,rfl,rfl⟩ q p hp;have x:=Ext.new (o:=.rng c.1 c.2) hs hp;exact q _ _ x _ ⟨p,rfl,zq_⟩
theorem zjO_:BlO K (mList K) E (csLast tyRng) (λc=>.grd (-50000<=c.1/\c.1<=50000 /\ -50000<=c.2/\c.2<=50000) (.ok (rngI c.1 (c.2-c.1).toNat))) (owL tyInt):=by
 rintro c vs F H Q hs ⟨v,rfl,p,rfl,h⟩ q;obtain⟨z,q⟩:=q.grd;refine .inr ⟨_,_,hs _ _ h,z,λl hl=>zbB_ hs hl ?_ q⟩
 have e:intsV c.1 c.2=(rngI c.1 (c.2-c.1).toNat).map V.int:=by unfold intsV rngI;rw[rN];rfl
 rw[e];exact zkA_
def fnU (r:Mo (Out Unit Unit Unit)):Mo Unit:=r.bind λo=>match o with |.rt a=>.ok a |.nx _=>.ok ()|_=>.no
theorem zs8_ {t:XK->TS}{C:Cs γ}{ss:γ->List Sl}{f:γ->Mo (Out Unit Unit Unit)}{LS:Unit->List Sl}{N:List Str}(n m:Nat)(hn:CsN C n)(hm:N.length-n=m)(hC:CsS C ss)(h:∀c E,EvS K (t E) E (ss c++nE m .dead) (f c) LS (λ_:Unit=>[]) (owF tyNon)):
  ∀vs H Q E,Ct K C (λc=>fnU (f c)) (owF tyNon) vs H Q E->t E {nx:=λ_ H'=>Q .non H',rt:=Q} (start N vs) H:=by
 rintro vs H Q E ⟨F,c,hs,hc,q⟩;have aV:start N vs=vs.map some++nE m none:=by unfold start;rw[hn hc,hm]
 rw[aV];refine h c E F H _ F (λ_=>none) H _ ((hC hc).hold m) (zh5_ hs) ?_
 have q:After K (fnU (f c)) E F H (OwnK (owF tyNon) H Q):=q;cases e:f c with
 |no=>rw[e]at q;exact q
 |ex cc=>rw[e]at q;exact λF h H ok=>q F H ok.1
 |ok o=>
  rw[e]at q;cases o with
  |nx s=>exact λσ F' h' H' _ ok=>q F' H' ok.1 .non (λ_=>none) (λp z=>absurd rfl z) (λp=>.inr rfl) (λp o z=>by cases z) ⟨λ_=>rfl,rfl⟩
  |bk s=>exact q.elim
  |ct s=>exact q.elim
  |rt a=>exact λv F' h' H' ok hv=>q F' H' ok.1 v h' (λp z=>ok.2.2.2.1 p z) ok.2.1 ok.2.2.1 hv
end
section
variable {P:m7}{w:nL}{K:Fgg}{mg:Str->Option aL}{base:Heap}{x q:Str}{st:qL}{N ps:List Str}{k:Nat}{γ:Type}
theorem okXU {C:Cs γ}{ss:γ->List Sl}{g:γ->Mo (Out Unit Unit Unit)}{LS:Unit->List Sl}{t:XK->TS}(n m:Nat)(hC:CsS C ss)(tm:TmX P w K mg base k N q st t)
  (ev:∀c E,EvS K (t E) E (ss c++nE m .dead) (g c) LS (λ_:Unit=>[]) (owF tyNon)) (hn:CsN C n:=by repeat first |exact zf_ |exact csn_nil |refine zc_ ?_) (S:FnScope N ps (defScope st):=by exact⟨rfl,rfl,rfl,by decide +kernel,rfl,by decide +kernel,by decide +kernel⟩) (b:Bnd K x q st ps:=by first |exact λ_ _ F=>Fun.binds1 rfl F λ_ _ _ _ _ _ _=>rfl |exact λ_ _ F=>Fun.binds2 rfl F λ_ _ _ _ _ _ _ _=>rfl |exact λ_ _ F=>Fun.binds3 rfl F λ_ _ _ _ _ _ _ _ _=>rfl |exact λ_ _ F=>Fun.binds4 rfl F λ_ _ _ _ _ _ _ _ _ _=>rfl |exact λ_ _ F=>Fun.binds5 rfl F λ_ _ _ _ _ _ _ _ _ _ _=>rfl |exact λ_ _ F=>Fun.binds6 rfl F λ_ _ _ _ _ _ _ _ _ _ _ _=>rfl |exact λ_ _ F=>Fun.binds7 rfl F λ_ _ _ _ _ _ _ _ _ _ _ _ _=>rfl) (hp:ps.length=n:=by rfl) (hm:N.length-n=m:=by rfl):OkF P w K mg base (CXx P w) (k+1) x q st ps (Ct K C (λc=>fnU (g c)) (owF tyNon)):=λf fd F=>
 ⟨F.okX S (λvs H Q E h=>by obtain⟨F,c,_,hc,_⟩:=h;exact(hn hc).trans hp.symm) λah A outer s H vs Q E hr h=>⟨t E,tm ah A outer s H f E S.nd hr,zs8_ (N:=N) (t:=t) n m hn hm hC ev vs H Q E h⟩,b f fd F⟩
end
def Fe1 (K:Fgg)(a:Str)(P:nc->Prop):Prop:=∃v,sd K qm a=some (some (.ref v))/\P v
theorem Fe1.mk_ {K:Fgg}{a:Str}{P:nc->Prop}{v:nc}(h:sd K qm a=some (some (.ref v)))(p:P v):Fe1 K a P:=⟨v,h,p⟩
theorem Fe1.g {K:Fgg}{a:Str}{P:nc->Prop}(h:Fe1 K a P):P (gA K a):=by
 obtain⟨v,h,p⟩:=h;rw[zlH_ h];exact p
def Fe2 (K:Fgg)(a b:Str)(P:nc->nc->Prop):Prop:=∃v w,sd K qm a=some (some (.ref v))/\sd K qm b=some (some (.ref w))/\P v w
theorem Fe2.mk_ {K:Fgg}{a b:Str}{P:nc->nc->Prop}{v w:nc}(h:sd K qm a=some (some (.ref v)))(h2:sd K qm b=some (some (.ref w)))(p:P v w):Fe2 K a b P:=⟨v,w,h,h2,p⟩
theorem Fe2.g {K:Fgg}{a b:Str}{P:nc->nc->Prop}(h:Fe2 K a b P):P (gA K a) (gA K b):=by
 obtain⟨v,w,h,h2,p⟩:=h;rw[zlH_ h,zlH_ h2];exact p
section
variable {K:Fgg}{E:XK}{L:List Sl}{e:TE}{α γ δ:Type}{T:Ty α}{C:Cs γ}{C':Cs δ}{f:γ->δ}{n m:Nat}
def CsTk (n:Nat)(C:Cs γ)(C':Cs δ)(f:γ->δ):Prop:=∀{c vs F},C.R c vs F->C'.R (f c) (vs.take n) F/\n<vs.length
theorem tk_1 (h:CsN C (m+1)):CsTk 1 (csCons T C) (csLast T) Prod.fst:=λ{c vs F} ⟨v,us,e,q,z⟩=>by
 have:=h z;subst e;exact⟨⟨v,rfl,q⟩,by rw[qh,this];lia⟩
def CsDp (n:Nat)(C:Cs γ)(C':Cs δ)(f:γ->δ):Prop:=∀{c vs F},C.R c vs F->C'.R (f c) (vs.drop n) F/\0<n/\0<vs.length
theorem dp_1:CsDp 1 (csCons T C) C Prod.snd:=λ{c vs F} ⟨v,us,e,q,z⟩=>by
 subst e;exact⟨z,by lia,by simp⟩
theorem dp_s (h:CsDp n C C' f):CsDp (n+1) (csCons T C) C' (λc=>f c.2):=λ{c vs F} ⟨v,us,e,q,z⟩=>by
 subst e;exact⟨(h z).1,by lia,by simp⟩
theorem ev_slTk {r:Mo γ}{i:Int}(hc:CsTk n C C' f)(h:EvF K e E L r (tyTup C))(hi:i=(n:Int):=by rfl):EvF K (tSl (rSlT K) e tNoPart (mPart (tC (.int i)))) E L (r.bind λc=>.ok (f c)) (tyTup C'):=by
 subst hi;intro σ F H Q hL hs q;refine h σ F H _ hL hs (q.bind.imp λc F1 H1 x1 k1 v af=>?_)
 obtain⟨p,vs,ev,hp,hr⟩:=af;subst ev;obtain⟨h1,h2⟩:=hc hr;refine⟨p,vs,rfl,.of (x1.2.1 _ _ hp),λz=>?_,λq hq=>?_⟩
 ·have:=z.2
  rw[zjq_ (by lia)]at this
  lia
 ·have e:cutV vs none (some (n:Int))=vs.take n:=by
   unfold cutV;rw[zjq_ (by lia),show HT.sIx vs.length 0 none=0 from rfl,vQ,yr,show((n:Int)).toNat=n from rfl,vL (by lia)]
  rw[e];have x:=Ext.new (o:=.tup (vs.take n)) x1.2.1 hq;exact k1 _ _ x _ ⟨q,_,rfl,zq_,C'.mono x.1 h1⟩
theorem zpU_ {r:Mo γ}{i:Int}(hc:CsDp n C C' f)(h:EvF K e E L r (tyTup C))(hi:i=(n:Int):=by rfl):EvF K (tSl (rSlT K) e (mPart (tC (.int i))) tNoPart) E L (r.bind λc=>.ok (f c)) (tyTup C'):=by
 subst hi;intro σ F H Q hL hs q;refine h σ F H _ hL hs (q.bind.imp λc F1 H1 x1 k1 v af=>?_)
 obtain⟨p,vs,ev,hp,hr⟩:=af;subst ev;obtain⟨h1,h2,h3⟩:=hc hr;refine⟨p,vs,rfl,.of (x1.2.1 _ _ hp),λz=>?_,λq hq=>?_⟩
 ·have:=z.1
  rw[zjq_ (by lia)]at this
  lia
 ·have e:cutV vs (some (n:Int)) none=vs.drop n:=by
   unfold cutV;rw[zjq_ (by lia),show HT.sIx vs.length vs.length none=vs.length from rfl,show((n:Int)).toNat=n from rfl]
   by_cases hl:n<=vs.length
   ·rw[vL hl,ur (by rw[rO];exact nG _)]
   ·rw[wM (by lia),uG,vI (by lia),vp]
  rw[e];have x:=Ext.new (o:=.tup (vs.drop n)) x1.2.1 hq;exact k1 _ _ x _ ⟨q,_,rfl,zq_,C'.mono x.1 h1⟩
end
open PySem.SeqAt
open PySem.AutoSeq1 (wpAny_loadPart')
open PySem.MeetsSeq PySem.MeetsSeq2 PySem.MeetsSeq3
section
end
inductive Dy where
 |non |int (i:Int)|bl (b:Bool)|str (l:List Nat)|tup (ds:List Dy)|lst (ds:List Dy)
mutual
def DyR:Dy->V->Hp->Prop
 |.non,v,_=>v=.non
 |.int i,v,_=>v=.int i
 |.bl b,v,_=>v=.bl b
 |.str l,v,_=>v=tx l
 |.tup ds,v,H=>∃p us,v=.ref p/\H p=some (.tup us)/\DyRs ds us H
 |.lst ds,v,H=>∃p us,v=.ref p/\H p=some (.lst us)/\DyRs ds us H
def DyRs:List Dy->List V->Hp->Prop
 |[],us,_=>us=[]
 |d::ds,us,H=>∃v vs,us=v::vs/\DyR d v H/\DyRs ds vs H
end
mutual
def Dy.plain:Dy->Bool
 |.tup ds=>plains ds
 |.lst _=>false
 |_=>true
def plains:List Dy->Bool
 |[]=>true
 |d::ds=>d.plain && plains ds
end
mutual
theorem DyR.mono:∀{d:Dy}{v:V}{H H':Hp},Same H H'->DyR d v H->DyR d v H'
 |.non,_,_,_,_,h=>by unfold DyR at h ⊢;exact h
 |.int _,_,_,_,_,h=>by unfold DyR at h ⊢;exact h
 |.bl _,_,_,_,_,h=>by unfold DyR at h ⊢;exact h
 |.str _,_,_,_,_,h=>by unfold DyR at h ⊢;exact h
 |.tup ds,_,_,_,g,h=>by
  unfold DyR at h ⊢;obtain⟨p,us,e,hp,r⟩:=h;exact⟨p,us,e,g _ _ hp,DyRs.mono g r⟩
 |.lst ds,_,_,_,g,h=>by
  unfold DyR at h ⊢;obtain⟨p,us,e,hp,r⟩:=h;exact⟨p,us,e,g _ _ hp,DyRs.mono g r⟩
theorem DyRs.mono:∀{ds:List Dy}{us:List V}{H H':Hp},Same H H'->DyRs ds us H->DyRs ds us H'
 |[],_,_,_,_,h=>by unfold DyRs at h ⊢;exact h
 |d::ds,_,_,_,g,h=>by
  unfold DyRs at h ⊢;obtain⟨v,vs,e,a,r⟩:=h;exact⟨v,vs,e,DyR.mono g a,DyRs.mono g r⟩
end
mutual
theorem DyR.imm:∀{d:Dy}{v:V}{H H':Hp},d.plain=true->Tups H H'->DyR d v H->DyR d v H'
 |.non,_,_,_,_,_,h=>by unfold DyR at h ⊢;exact h
 |.int _,_,_,_,_,_,h=>by unfold DyR at h ⊢;exact h
 |.bl _,_,_,_,_,_,h=>by unfold DyR at h ⊢;exact h
 |.str _,_,_,_,_,_,h=>by unfold DyR at h ⊢;exact h
 |.tup ds,_,_,_,z,g,h=>by
  unfold Dy.plain at z;unfold DyR at h ⊢;obtain⟨p,us,e,hp,r⟩:=h;exact⟨p,us,e,g _ _ hp,DyRs.imm z g r⟩
 |.lst ds,_,_,_,z,g,h=>by unfold Dy.plain at z;cases z
theorem DyRs.imm:∀{ds:List Dy}{us:List V}{H H':Hp},plains ds=true->Tups H H'->DyRs ds us H->DyRs ds us H'
 |[],_,_,_,_,_,h=>by unfold DyRs at h ⊢;exact h
 |d::ds,_,_,_,z,g,h=>by
  unfold plains at z;obtain⟨z1,z2⟩:=uR.mp z;unfold DyRs at h ⊢;obtain⟨v,vs,e,a,r⟩:=h;exact⟨v,vs,e,DyR.imm z1 g a,DyRs.imm z2 g r⟩
end
abbrev tyDy:Ty Dy:=⟨DyR,λg h=>h.mono g⟩
abbrev tyDp:Ty Dy:=⟨λd v H=>d.plain=true/\DyR d v H,λg h=>⟨h.1,h.2.mono g⟩⟩
theorem zgS_:Imm tyDp:=λg h=>⟨h.1,DyR.imm h.1 g h.2⟩
section
variable {K:Fgg}{E:XK}{α γ:Type}{L:List Sl}{T:Ty α}{C:Cs γ}{e:TE}
def Into (T:Ty α)(f:α->Dy):Prop:=∀{a v H},T.R a v H->DyR (f a) v H
def IntoC (C:Cs γ)(f:γ->List Dy):Prop:=∀{a vs H},C.R a vs H->DyRs (f a) vs H
theorem zjh_:Into tyInt .int:=λh=>by unfold DyR;exact h
theorem zcU_:Into tyStr .str:=λh=>by unfold DyR;exact h
theorem zjb_:Into tyDp (λd=>d):=λh=>h.2
theorem zrZ_ {f:α->Dy}(h:Into T f):∀{xs:List α}{vs:List V}{H:Hp},Prs T H xs vs->DyRs (xs.map f) vs H
 |_,_,_,.nil=>by rw[uZ];unfold DyRs;rfl
 |_,_,_,.cons r t=>by rw[qv];unfold DyRs;exact⟨_,_,rfl,h r,zrZ_ h t⟩
theorem in_l {f:α->Dy}(h:Into T f):Into (tyL T) (λxs=>.lst (xs.map f)):=λ⟨p,vs,e,hp,q⟩=>by
 unfold DyR;exact⟨p,vs,e,hp,zrZ_ h q⟩
theorem zn5_ {f:α->Dy}(h:Into T f):IntoC (csLast T) (λa=>[f a]):=λ⟨v,e,q⟩=>by
 unfold DyRs;exact⟨v,[],e,h q,by unfold DyRs;rfl⟩
theorem znu_ {f:α->Dy}{g:γ->List Dy}(h:Into T f)(hc:IntoC C g):IntoC (csCons T C) (λc=>f c.1::g c.2):=λ⟨v,us,e,q,r⟩=>by
 unfold DyRs;exact⟨v,us,e,h q,hc r⟩
theorem ztc_ {g:γ->List Dy}(h:IntoC C g):Into (tyTup C) (λc=>.tup (g c)):=λ⟨p,us,e,hp,q⟩=>by
 unfold DyR;exact⟨p,us,e,hp,h q⟩
def OutOf (T:Ty α)(g:Dy->Option α):Prop:=∀{d a v H},g d=some a->DyR d v H->T.R a v H
def OutC (C:Cs γ)(g:List Dy->Option γ):Prop:=∀{ds c vs H},g ds=some c->DyRs ds vs H->C.R c vs H
def Dy.int?:Dy->Option Int |.int i=>some i |_=>none
def Dy.str?:Dy->Option (List Nat)|.str i=>some i |_=>none
def Dy.tup?:Dy->Option (List Dy)|.tup i=>some i |_=>none
def Dy.lst?:Dy->Option (List Dy)|.lst i=>some i |_=>none
def Dy.isNon:Dy->Bool |.non=>true |_=>false
theorem zih_:OutOf tyInt Dy.int?:=λ{d a v H} e h=>by
 cases d with
 |int i=>cases e;unfold DyR at h;exact h
 |_=>cases e
theorem zax_:OutOf tyStr Dy.str?:=λ{d a v H} e h=>by
 cases d with
 |str i=>cases e;unfold DyR at h;exact h
 |_=>cases e
def allO (g:Dy->Option α):List Dy->Option (List α)
 |[]=>some []
 |d::ds=>(g d).bind λa=>(allO g ds).map λas=>a::as
theorem ziz_ {g:Dy->Option α}(h:OutOf T g):∀{ds:List Dy}{xs:List α}{vs:List V}{H:Hp},allO g ds=some xs->DyRs ds vs H->Prs T H xs vs
 |[],_,_,_,e,q=>by
  unfold DyRs at q;subst q;cases e;exact .nil
 |d::ds,_,_,_,e,q=>by
  unfold DyRs at q;obtain⟨v,vs,rfl,a,r⟩:=q;obtain⟨x,e1,e2⟩:=vy.mp e;obtain⟨y,e3,e4⟩:=rX.mp e2;subst e4;exact .cons (h e1 a) (ziz_ h e3 r)
theorem out_l {g:Dy->Option α}(h:OutOf T g):OutOf (tyL T) (λd=>d.lst?.bind (allO g)):=λ{d a v H} e q=>by
 cases d with
 |lst ds=>
  unfold DyR at q;obtain⟨p,us,e1,hp,r⟩:=q;exact⟨p,us,e1,hp,ziz_ h e r⟩
 |_=>cases e
theorem zmg_ {g:Dy->Option α}(h:OutOf T g):OutC (csLast T) (λds=>match ds with |[d]=>g d |_=>none):=λ{ds c vs H} e q=>by
 match ds,e,q with
 |[d],e,q=>
  unfold DyRs at q;obtain⟨v,us,rfl,a,r⟩:=q;unfold DyRs at r;subst r;exact⟨v,rfl,h e a⟩
theorem zme_ {g:Dy->Option α}{g':List Dy->Option γ}(h:OutOf T g)(hc:OutC C g'):OutC (csCons T C) (λds=>match ds with |d::ds=>(g d).bind λa=>(g' ds).map λc=>(a,c)|[]=>none):=λ{ds c vs H} e q=>by
 match ds,e,q with
 |d::ds,e,q=>
  unfold DyRs at q;obtain⟨v,us,rfl,a,r⟩:=q;obtain⟨x,e1,e2⟩:=vy.mp e;obtain⟨y,e3,e4⟩:=rX.mp e2;subst e4;exact⟨v,us,rfl,h e1 a,hc e3 r⟩
theorem zpQ_ {g:List Dy->Option γ}(h:OutC C g):OutOf (tyTup C) (λd=>d.tup?.bind g):=λ{d a v H} e q=>by
 cases d with
 |tup ds=>
  unfold DyR at q;obtain⟨p,us,e1,hp,r⟩:=q;exact⟨p,us,e1,hp,h e r⟩
 |_=>cases e
def Dy.ty:Dy->String |.non => "NoneType" |.int _ => "int" |.bl _ => "bool" |.str _ => "str" |.tup _ => "tuple" |.lst _ => "list"
theorem ty_dy {d:Dy}{x:V}{H:Hp}(h:DyR d x H):tyS K H x d.ty:=by
 cases d with
 |non=>unfold DyR at h;exact zsG_ (K:=K) (a:=()) h
 |int=>unfold DyR at h;exact zok_ (K:=K) h
 |bl=>unfold DyR at h;exact tn_bl (K:=K) h
 |str=>unfold DyR at h;exact ztv_ (K:=K) h
 |tup=>unfold DyR at h;obtain⟨p,us,rfl,hp,_⟩:=h;exact .inr ⟨rfl,us,hp⟩
 |lst=>unfold DyR at h;obtain⟨p,us,rfl,hp,_⟩:=h;exact .inl ⟨rfl,us,hp⟩
theorem znG_ {c:String}{r:Mo Dy}(h:EvF K e E L r tyDy):EvF K (tCB (mIsa K) (tCons e (tCons (tC (.ty c)) tNil))) E L (r.bind λd=>Mo.opt (isaB d.ty c)) tyBl:=by
 intro σ F H Q hL hs q;refine h σ F H _ hL hs (q.bind.imp λd F1 H1 x1 k1 v hv=>?_)
 obtain⟨b,eb,k1⟩:=k1.opt;exact zm3_ (ty_dy (tyDy.mono x1.2.1 hv)) eb (k1.ok x1.2.1 _ rfl)
def Dy.flat:Dy->V |.int i=>.int i |.bl b=>.bl b |.str l=>tx l |_=>.non
end
def Fs (K:Fgg)(c m q:Str)(st:qL):Prop:=∃cw f,sd K qm c=some (some (.ref cw))/\vi K (.ref cw) "__getattribute__"=some (some (.builtin "type.__getattribute__"))/\ye K cw (.type "type")=true/\yf K (.ref cw) (.type "type") m=some (.val (.ref f))/\Fi K m q st f
section
variable {K:Fgg}{q c m:Str}{st:qL}{f:nc}
theorem Fs.mk_ {cw:nc}{oc:aL}{od:Option nc}{kV doc pm:aL}{an:Option nc}{ah ct:aL}{aw:Array (Option aL)}(h:sd K qm c=some (some (.ref cw)))(h1:vi K (.ref cw) "__getattribute__"=some (some (.builtin "type.__getattribute__")))(h2:ye K cw (.type "type")=true)(h3:yf K (.ref cw) (.type "type") m=some (.val (.ref f)))
  (l:K.lookup f=some ⟨oc,od,.func (tX m q (defArgs st) (defBody st) (defScope st) .none kV doc pm an ah ct),aw⟩) (hc:uO K ah q=true) (hk:sH K (.ref f)=true):Fs K c m q st:=⟨cw,f,h,h1,h2,h3,oc,od,kV,doc,pm,an,ah,ct,aw,l,hc,hk⟩
end
section
variable {K:Fgg}{E:XK}{α ρ S B κ:Type}{F0 H0 F h H:Hp}{L:List Sl}{e:TE}{T:Ty α}{r:Mo α}{Or:Own ρ}{u:TS}{LS:S->List Sl}{LB:B->List Sl}{σ:St}
section
variable [DecidableEq κ]
end
theorem zsM_:EvS K tRetN E L ((Mo.ok ()).bind λa=>.ok (.rt a)) LS LB (owF tyNon):=za4_ (zag_ zqx_) (EvF.ow zgP_)
theorem zqM_ {g:TG}{ss:α->List (Nat×Sl)}{k:α->Mo (Out ρ B S)}(he:EvF K e E (L.map Sl.cold) r T)(hg:TgR K g T ss)(hk:∀a,EvS K u E (setL L (ss a)) (k a) LS LB Or):EvS K (tSeq (tAsg e g) u) E L (r.bind k) LS LB Or:=by
 intro F0 H0 σ F h H D hL ok fin;refine he σ F H _ hL.coldF ok.1.2.1 (zaw_ (G:=F) ok _ (.inr rfl) fin λa F' H' hr x v hv=>?_)
 rw[hr]at fin;exact hg a v σ _ H' _ x.2.1 hv λus hp=>hk a F0 H0 _ _ h H' D (zgT_ hp (hL.mono x.1)) (ok.cold x) fin
end
section
variable {prog:m7}{w:nL}{A:qu}{E:aL->kZ->Prop}{h:Heap}{g:Array GenState}{d:Drawn}{t:Nat}{os:OsState}{nm q:Str}{C N:nc}{bs bm:List aL}{hd:Bool}{sn:List Str}{sub:List aL}{ab:Bool}{col:Option Bool}{dd:Option nc}{k0 k1 k2 k3 k5:Option aL}
def exH (h:Heap)(C:nc)(vs:List aL):Heap:=(h.push {cls:=.type "tuple",data:=.seq vs.toArray}).push {cls:=.ref C,data:=.fields #[.ref h.objs.size,.none,.none,.none,.bool false,.none]}
theorem zgt_ {vs:List aL}{b:nc}{o:wb}(e:h.get? b=some o):(exH h C vs).get? b=some o:=iX _ (iX _ e)
theorem zqR_ {vs:List aL}:(exH h C vs).get? (h.objs.size+1)=some {cls:=.ref C,data:=.fields #[.ref h.objs.size,.none,.none,.none,.bool false,.none]}:=by unfold exH;heap_get
theorem zph_ {vs:List aL}:uu h (exH h C vs) (h.objs.size+1) (.ref C) vs:=
 ⟨λ_ _ e=>zgt_ e,uM (tG _),_,zqR_,uM (nG _),iX _ (wH rfl rfl)⟩
theorem zoK_ (T:OwnTail h bmV bm){mN:Str->Option aL}{vs:List aL}{f:nc}{fo:wb}{Q:PySem.Fin->kZ->Prop}(hC:h.get? C=some (excClassObj nm q C N bs bm hd sn sub ab col dd k0 k1 k2 k3 k5 "ValueError.__new__"))(hn:h.Ns N mN)(hi:mN "__init__"=some (.ref f))(hf:h.get? f=some fo)(gR:fo.cls=.type "function")
  (hq:∀h' e,uu h h' e (.ref C) vs->h.objs.size<=e->nI (model prog w) A (call (.ref f) (.ref e::vs)) (λr s'=>r=.none/\Q (.done (.ret (.ref e))) s') E ⟨h',g,d,t,os⟩) (hl:vs.length<=pX):
  nI (model prog w) A (uv.«type.__call__» ⟨.ref C::vs,[]⟩) Q E ⟨h,g,d,t,os⟩:=by
 have F:=sJ;have c1:(qq C::bm).contains (.ref C)=true:=List.contains_iff_mem.mpr nu;have mF:=zgt_ (C:=C) (vs:=vs) hC;have f1:=zgt_ (C:=C) (vs:=vs) hf;have T1:=T.keeps (h':=exH h C vs) λ_ _ e=>zgt_ e
 have n1:(exH h C vs).Ns N mN:=by obtain⟨o,es,ep,e,r⟩:=hn;exact⟨o,es,ep,zgt_ e,r⟩
 repeat(first |with_reducible refine wpAny_madeBy_exc hC ?_ |with_reducible refine wpAny_loadPart_at hC ?_ |wp_step)
 refine codeAny_call_builtin_code (Code.quiet_builtin _ F.quiet) (wpAny_check_new_subT F T hC (codeAny_exc_new_subT F T hC ?_ hl));show nI _ _ _ _ _ ⟨exH h C vs,_,_,_,_⟩
 unfold isInstance;repeat(first |(with_reducible refine wpAny_isSubtype_exc mF ?_;rw[c1])|with_reducible refine wpAny_loadPart_at zqR_ ?_ |wp_step)
 show nI _ _ (typeLookup (.ref C) "__init__") _ _ _;refine wpAny_typeLookup_tail mF n1 T1 F.mroIs F.init.lookup ?_
 rw[hi];refine wpAny_holding (iV ?_);unfold bindSpecial;refine iV (wpAny_typeOf (T:="function") ⟨_,f1,gR⟩ ?_);rw[if_pos (by decide)]
 refine nh (iV (qH (hq _ _ zph_ (tG _)) (λr s' z=>?_) λ_ _ y=>y))
 obtain⟨rfl,z⟩:=z;wp_walk;exact z
theorem zpq_ (T:OwnTail h bmV bm){mN:Str->Option aL}{vs:List aL}{f:nc}{fo:wb}{Q:aL->kZ->Prop}(hC:h.get? C=some (excClassObj nm q C N bs bm hd sn sub ab col dd k0 k1 k2 k3 k5 "ValueError.__new__"))(hn:h.Ns N mN)(hi:mN "__init__"=some (.ref f))(hf:h.get? f=some fo)(gR:fo.cls=.type "function")
  (hq:∀h' e,uu h h' e (.ref C) vs->h.objs.size<=e->nI (model prog w) (A.under (.builtin "type.__call__" ⟨.ref C::vs,[]⟩)) (call (.ref f) (.ref e::vs)) (λr s'=>r=.none/\Q (.ref e) s') E ⟨h',g,d,t,os⟩) (hl:vs.length<=pX):
  nI (model prog w) A (call (.ref C) vs) Q E ⟨h,g,d,t,os⟩:=by
 have t1:=tc_lookup;have t2:=tc_bind (.ref C);have ty:(⟨h,g,d,t,os⟩:kZ).TypeIs (.ref C) "type":=⟨_,hC,rfl⟩;refine wpAny_call (codeAny_of_tree ?_);show nI _ _ (callAny (.ref C) _) _ _ _
 repeat(any_goals(first |with_reducible refine wpAny_loadPart_at hC ?_ |assumption |wp_step))
 exact⟨rfl,codeAny_call_builtin_at (Code.quiet_builtin _ (by decide +kernel)) entry_typeCall (wpAny_check_type_call_sub hC (zoK_ T hC hn hi hf gR (λh' e hm hz=>hq h' e hm hz) hl))⟩
variable {M:Model}{env:Env}{ni:String}
theorem zlj_ {s:kZ}{x:Sem aL}{Q:Flow->kZ->Prop}(hb:bm.contains (.type "BaseException")=true)(hh:A.handled=none)
  (k:nI M A x (λv s1=>∃e oe vs,v=.ref e/\s1.heap.get? C=some (excClassObj nm q C N bs bm hd sn sub ab col dd k0 k1 k2 k3 k5 ni)/\s1.heap.get? e=some oe/\oe.cls=.ref C/\oe.data=.fields vs/\vs[1]?=some .none/\E (.ref e) s1) E s):
  nI M A (raiseStmt env (some x) none) Q E s:=by
 have c1:(qq C::bm).contains (.type "BaseException")=true:=by rw[List.contains_cons,hb,Bool.or_true]
 unfold raiseStmt;refine iV (qH k (λv s1 z=>?_) λ_ _ y=>y)
 obtain⟨e,oe,vs,rfl,hC,he,hc,hdt,h1v,z⟩:=z;obtain⟨h1,g1,d1,t1,os1⟩:=s1
 repeat(first |(with_reducible refine wpAny_isSubtype_exc hC ?_;rw[c1])|with_reducible refine wpAny_loadPart_at hC ?_ |(with_reducible refine wpAny_loadPart_at he ?_;try rw[hc])|wp_step)
 rw[hdt];refine nh ?_;rw[h1v];refine nh ?_;rw[if_neg (by decide)]
 exact nh (wpAny_raiseNew_none hh z)
end
noncomputable def excJ (K:Fgg)(C:nc):Bool:=(K.lookup C).any λo=>match o.data,o.slots.toList with
 |.cls cd,[_,_,_,_,some (.builtin n),_]=>o.cls==.type "type" && (n=="ValueError.__new__" && (cd.mro==.ref C::cd.mro.tail && (!cd.hasDel && (cd.hasDict && (W.tailIn K bmV cd.mro.tail && (W.nsOkIn K cd.ns && (sd K cd.ns "__init__"==qX K (.ref C) "__init__" && sH K (.ref C))))))))
 |_,_=>false
theorem ztD_ {K:Fgg}{h:Heap}{N:nc}{m:Str->Option aL}{n:Str}{v:aL}(kin:K.In h)(G:h.Ns N m)(e:sd K N n=some (some v)):m n=some v:=by
 obtain⟨o,es,ep,ho,hd,_,hf⟩:=G;unfold sd at e;split at e
 case h_2=>cases e
 case h_1 c d es' n' sl q=>
  have z:=(kin _ _ q).symm.trans ho;cases z;cases hd;split at e
  case h_2=>split at e<;>cases e
  case h_1 en he=>cases e;rw[<- hf];unfold nsFind findBy;rw[<- wg,he];rfl
theorem zg1_ {K:Fgg}{h:Heap}{C:nc}(kin:K.In h)(q:excJ K C=true):
  ∃nm qn N bs bm sn sub ab col dd k0 k1 k2 k3 k5 mN,h.get? C=some (excClassObj nm qn C N bs bm true sn sub ab col dd k0 k1 k2 k3 k5 "ValueError.__new__")/\h.Ns N mN/\(∀f,qX K (.ref C) "__init__"=some (some (.ref f))->mN "__init__"=some (.ref f))/\OwnTail h bmV bm/\sH K (.ref C)=true:=by
 unfold excJ at q;cases e:K.lookup C with
 |none=>rw[e]at q;cases q
 |some o=>
  rw[e]at q;obtain⟨oc,od,odt,aw⟩:=o;simp only[Option.any_some]at q;split at q
  case h_2=>cases q
  case h_1 _ _ cd y0 y1 y2 y3 n y5 m2=>
   simp only[qj,beq_iff_eq,vk]at q;obtain⟨rfl,rfl,q3,q4,q5,q6,q7,q8,q9⟩:=q;have hs:aw=#[y0,y1,y2,y3,some (.builtin "ValueError.__new__"),y5]:=by rw[<- wO];exact m2
   subst hs;obtain⟨nm,bs,mro,ns,qn,hd,sn,sub,ab,col,del⟩:=cd;dsimp only at q3 q4 q5 q6 q7 q8;rw[q3]at e;subst q4 q5;exact⟨_,_,_,_,_,_,_,_,_,_,y0,y1,y2,y3,y5,_,kin _ _ e,.of_isNs (wB kin q7),λf z=>ztD_ kin (.of_isNs (wB kin q7)) (q8.trans z),yl kin q6,q9⟩
noncomputable def exA (K:Fgg)(C:nc)(a:Str):Bool:=qX K (.ref C) "__getattribute__"==some (some (.builtin "BaseException.__getattribute__")) && (qX K (.ref C) "__getattr__"==some none && (uJ K C (.type "BaseException")==some true &&
 (uJ K C (.type "object")==some true && (qX K (.ref C) "__setattr__"==some (some (.builtin "object.__setattr__")) && qX K (.ref C) a==some none))))
section
variable {prog:m7}{w:nL}{A:qu}{E:aL->kZ->Prop}{s:kZ}{K:Fgg}{C a:nc}{name:Str}{v:aL}{o:wb}
theorem zqN_ (h:exA K C name=true):qX K (.ref C) "__getattribute__"=some (some (.builtin "BaseException.__getattribute__"))/\qX K (.ref C) "__getattr__"=some none/\uJ K C (.type "BaseException")=some true/\uJ K C (.type "object")=some true/\qX K (.ref C) "__setattr__"=some (some (.builtin "object.__setattr__"))/\qX K (.ref C) name=some none:=by
 unfold exA at h;simpa only[qj,beq_iff_eq]using h
theorem ty_of {M:Model}{h:Heap}(e:h.get? a=some o)(c:o.cls=.ref C):vV M h (typeOf (.ref a)) (.ref C):=c ▸ (W.Looks.ld e).andThen .now
theorem zjv_ {h:Heap}{bm:List aL}(self:aL)(T:OwnTail h bmV bm):refuseLoop self "__setattr__" bm=pure ():=by
 induction T with
 |base=>exact PySem.F.store_ValueError.passes self
 |own _ _ _ _ ih=>rw[refuseLoop_ref];exact ih
theorem ziq_ {Q:Unit->kZ->Prop}(kin:K.In s.heap)(hj:excJ K C=true)(ha:exA K C name=true)(hx:s.heap.get? a=some o)(hc:o.cls=.ref C)
  (h:nI (model prog w) A.in1 (sO (.ref a) (.ref C) (.str name s.toks) name v false) (λr s'=>match r with |.done (.ret _)=>Q () s' |_=>False) E {s with toks:=s.toks+1}):nI (model prog w) A (setAttr (.ref a) name v) Q E s:=by
 obtain⟨g1,g2,g3,g4,g5,g6⟩:=zqN_ ha;obtain⟨nm,qn,N,bs,bm,sn,sub,ab,col,dd,k0,k1,k2,k3,k5,mN,hC,_,_,TL,_⟩:=zg1_ kin hj;have T0:=ty_of (M:=model prog w) hx hc;have SF:=PySem.F.store_object;refine iV (wpAny_mkText (iV (iV (iV (T0 _ _ _ _ (λ_ _ e=>e) (vO kin g5 _ _ _ _ (λ_ _ e=>e) (wpAny_holding ?_)))))))
 rw[SF.slot.bind];refine iV (nh (iV (wpAny_call ?_)));have sub:vV (model prog w) s.heap (isInstance (.ref a) (.type "object")) true:=T0.andThen (uL kin g4);refine codeAny_call_builtin SF.slot.plain SF.entry (@W.check_slot (model prog w) _ _ {s with toks:=s.toks+1} "object.__setattr__" "object" "__setattr__" (.ref a) [.str name s.toks,v] [] _ SF.kind SF.split sub (SF.args (.ref a) (.str name s.toks) v) ?_);have hm:vV (model prog w) s.heap (mroOf (.ref C)) (.ref C::bm):=λA' Q' E' s' k q=>wpAny_mroOf_exc (h:=s'.heap) (k _ _ hC) q
 show nI _ _ (uv.«object.__setattr__» ⟨[.ref a,.str name s.toks,v],[]⟩) _ _ _
 rw[W.osa_eq,refuse_eq];refine iV (iV (T0.here (s:={s with toks:=s.toks+1}) (iV (hm.here (s:={s with toks:=s.toks+1}) ?_))));rw[refuseLoop_ref,zjv_ _ TL];refine nh (iV (T0.here (s:={s with toks:=s.toks+1}) (iV ((vO kin g6).here (s:={s with toks:=s.toks+1}) (iV (nh ?_))))));refine qH h (λr s' z=>?_) λ_ _ z=>z
 rcases r with(_ |_ |_ |_)|_<;>first |exact z.elim |exact nh (nh z)
variable {dx:nc}{mA:Str->Option aL}{vs:Array aL}{sl:Array (Option aL)}
def Stop (P:Prop):Prop:=P
theorem zmZ_ {M:Model}{d:nc}{Q:Unit->kZ->Prop}(h:Stop (nI M A (nsSet d name v) Q E s)):nI M A (nsSet d name v) Q E s:=h
theorem zpr_ {Q:Unit->kZ->Prop}(kin:K.In s.heap)(hj:excJ K C=true)(ha:exA K C name=true)(hx:s.heap.get? a=some ⟨.ref C,none,.fields vs,sl⟩)
  (k:∀h' tk,h'.get? a=some ⟨.ref C,some s.heap.objs.size,.fields vs,sl⟩->(∀b u,b≠a->s.heap.get? b=some u->h'.get? b=some u)->h'.Ns1 s.heap.objs.size (λy=>if y=name then some v else none)->Q () {s with heap:=h',toks:=tk}):
  nI (model prog w) A (setAttr (.ref a) name v) Q E s:=by
 refine ziq_ kin hj ha hx rfl ?_;obtain⟨nm,qn,N,bs,bm,sn,sub,ab,col,dd,k0,k1,k2,k3,k5,mN,hC,_⟩:=zg1_ kin hj;cases s with
 |mk hp gs dr tk ost=>
 unfold sO
 repeat(first |with_reducible refine zmZ_ ?_ |with_reducible refine wpAny_loadPart_at hC ?_ |with_reducible refine wpAny_loadPart_at hx ?_ |wp_step)
 have dD:a≠hp.objs.size:=qo (pT hx);refine wpAny_nsSet1 (wA ⟨_,#[],_,(uW _ _ _ _ dD.symm).trans (wH rfl rfl),rfl,λe he=>absurd he (by simp),λ_=>rfl⟩) λh' dH hs=>?_
 obtain⟨oD,esD,epD,hoD,hdD,hcD⟩:=dH.count (Within.cons name v Within.nil);refine iV (wpAny_lookBehind hoD (by rw[hdD];exact pastItsLine_dict (qV hcD (by rw[qh,rF,sizeLine_eq];lia))) ?_)
 wp_walk
 exact k h' _ ((hs.2 a dD).trans (sM _ (iX _ hx) rfl)) (λb u hb q=>(hs.2 b (qo (pT q))).trans ((uW _ _ _ _ hb).trans (iX _ q))) dH
theorem zom_ {Q:Unit->kZ->Prop}{ns:List Str}(kin:K.In s.heap)(hj:excJ K C=true)(ha:exA K C name=true)(hx:s.heap.get? a=some ⟨.ref C,some dx,.fields vs,sl⟩)(hn:s.heap.Ns1 dx mA)(hw:uX mA ns)(hz:ns.length<=pX)
  (k:∀h' tk,h'.Ns1 dx (λy=>if y=name then some v else mA y)->sU dx s.heap h'->Q () {s with heap:=h',toks:=tk}):
  nI (model prog w) A (setAttr (.ref a) name v) Q E s:=by
 refine ziq_ kin hj ha hx rfl ?_;obtain⟨nm,qn,N,bs,bm,sn,sub,ab,col,dd,k0,k1,k2,k3,k5,mN,hC,_⟩:=zg1_ kin hj;cases s with
 |mk hp gs dr tk ost=>
 unfold sO
 repeat(first |with_reducible refine zmZ_ ?_ |with_reducible refine wpAny_loadPart_at hC ?_ |with_reducible refine wpAny_loadPart_at hx ?_ |wp_step)
 refine wpAny_nsSet1 hn λh' dH hs=>?_
 obtain⟨oD,esD,epD,hoD,hdD,hcD⟩:=dH.count (Within.cons name v hw);refine iV (wpAny_lookBehind hoD (by rw[hdD];exact pastItsLine_dict (qV hcD (by rw[qh];lia))) ?_)
 wp_walk
 exact k h' _ dH hs
theorem zn8_ {Q:aL->kZ->Prop}{d:Option nc}{t0:nc}(kin:K.In s.heap)(hj:excJ K C=true)(hx:s.heap.get? a=some {cls:=.ref C,dict:=d,data:=.fields #[.ref t0,.none,.none,.none,.bool false,.none]})
  (k:∀h',h'.get? a=some {cls:=.ref C,dict:=d,data:=.fields #[.ref s.heap.objs.size,.none,.none,.none,.bool false,.none]}->(∀b u,b≠a->s.heap.get? b=some u->h'.get? b=some u)->Q .none {s with heap:=h'}):
  nI (model prog w) A (call (.builtin "ValueError.__init__") [.ref a,v]) Q E s:=by
 obtain⟨nm,qn,N,bs,bm,sn,sub,ab,col,dd,k0,k1,k2,k3,k5,mN,hC,_,_,TL,_⟩:=zg1_ kin hj;have F:=sJ;cases s with
 |mk hp gs dr tk ost=>
 refine wpAny_call (codeAny_call_builtin F.init.plain F.initEntry (wpAny_check_init_subU F TL hC hx rfl ?_))
 wp_walk
 refine k _ ?_ λb u hb q=>(rJ _ _ (tH hb)).trans (iX _ q)
 rw[sM _ (iX _ hx) rfl];rfl
end
def XMt (x C:nc)(d:Option nc)(h:Heap):Prop:=∃t,h.get? x=some {cls:=.ref C,dict:=d,data:=.fields #[.ref t,.none,.none,.none,.bool false,.none]}
abbrev XM (x C:nc)(d:Option nc):HO:=.ext (XMt x C d)
theorem ztA_ {P:m7}{w:nL}{H:Hp}{x C:nc}{d:Option nc}{h:Heap}(q:XMt x C d h):ObjOk P w H h x (XM x C d):=⟨q,(by obtain⟨t,e⟩:=q;exact⟨_,e⟩),λh1 h2 ⟨t,e⟩ k=>⟨t,k _ e⟩⟩
theorem zoI_ {H:Hp}{a:nc}{o:HO}(h:H a=some o):upd H a o=H:=by
 funext b;unfold upd;split
 ·rename_i e;rw[e,h]
 ·rfl
def rem (H:Hp)(a:nc):Hp:=λb=>if b=a then none else H b
theorem zhf_ {H:Hp}{a b:nc}(h:b≠a):rem H a b=H b:=if_neg h
theorem zkt_ {H:Hp}{a:nc}:rem H a a=none:=if_pos rfl
section
variable {X:Cx}{pins:Pnn}{σ:St}{H:Hp}{s:kZ}{a C dx:nc}{d:Option nc}{fs:List (Str×V)}{f:Str}{y:V}{u:aL}{A:qu}{E:aL->kZ->Prop}{φ:Heap->Prop}
theorem Inv.drop (I:Inv X pins σ H s)(e:H a=some (.ext φ))(n:X.s₀.heap.get? a=none):Inv X pins σ (rem H a) s:=by
 have g:∀b,H b=none->rem H a b=none:=λb z=>by
  unfold rem;split
  ·rfl
  ·exact z
 refine⟨I.ok,I.os,I.bare,⟨I.base.keep,I.base.slot,λb o q z hx=>g b (I.base.free b o q z hx),I.base.there,λb xs q=>?_,λb o u q=>?_,λb ps q=>?_⟩,I.loc,I.cell,g _ I.free,λx c q=>g _ (I.freeC x c q),λp hp=>?_,λb o q=>?_,I.len⟩
 ·have z:=I.base.tups b xs q
  rw[zhf_ (λw=>by rw[w,e]at z;cases z)];exact z
 ·have z:=I.base.frzs b o u q
  rw[zhf_ (λw=>by rw[w,e]at z;cases z)];exact z
 ·obtain⟨m,z⟩:=I.base.tbls b ps q
  exact⟨m,by rw[zhf_ (λw=>by rw[w,e]at z;cases z)];exact z⟩
 ·obtain⟨q1,q2,q3⟩:=I.pin p hp
  exact⟨q1,g _ q2,q3⟩
 ·by_cases hb:b=a
  ·rw[hb,zkt_]at q;cases q
  ·rw[zhf_ hb]at q
   exact(I.hok b o q).stay (λ_ _ _ z=>z) (λc z=>by rw[zhf_ (λw=>by rw[w,e]at z;cases z)];exact z) λc xs z=>by rw[zhf_ (λw=>by rw[w,e]at z;cases z)];exact z
theorem Inv.addX {h':Heap}{us:List aL}(I:Inv X pins σ H s)(m:uu s.heap h' a (.ref C) us)(hs:s.heap.objs.size<=a):Inv X pins σ (upd H a (XM a C none)) {s with heap:=h'}:=by
 obtain⟨t,he,_,_⟩:=m.there;exact I.laid (t':=s.toks) m.keeps hs (ztA_ ⟨t,he⟩)
theorem zpK_ {Q:Unit->kZ->Prop}(I:Inv X pins σ H s)(e:H a=some (XM a C none))(hj:excJ X.K C=true)(ha:exA X.K C f=true)(ry:RelV y u)
  (h:∀s' dx,H dx=none->Inv X pins σ (upd (upd H dx (XDO dx [(f,y)])) a (XM a C (some dx))) s'->Q () s'):nI (model X.prog X.w) A (setAttr (.ref a) f u) Q E s:=by
 obtain⟨⟨t,hx⟩,_⟩:=I.hok a _ e;have fr:H s.heap.objs.size=none:=I.hok.fresh (nG _);refine zpr_ I.kIn hj ha hx λh' tk g1 g2 g3=>h _ s.heap.objs.size fr ?_
 have na:s.heap.objs.size≠a:=λz=>by rw[z,e]at fr;cases fr
 have nd:∀b o,s.heap.get? b=some o->b≠s.heap.objs.size:=λb o q=>qo (pT q)
 have tr:∀b,b≠a->b≠s.heap.objs.size->upd (upd H s.heap.objs.size (XDO s.heap.objs.size [(f,y)])) a (XM a C (some s.heap.objs.size)) b=H b:=λb z1 z2=>by rw[zI_ z1,zI_ z2]
 have nH:∀b o,H b=some o->b≠s.heap.objs.size:=λb o q z=>by rw[z,fr]at q;cases q
 refine I.un (h':=h') (t':=tk) ⟨λb o q n _ _=>g2 b o (λz=>by rw[z,e]at n;cases n) q,λb o q n _ _=>⟨o.slots,g2 b o (λz=>by rw[z,e]at n;cases n) q⟩,λb o q n _=>?_,λb o q _=>?_,λb xs q=>?_,λb o u q=>?_,λb ps q=>⟨#[],?_⟩⟩ λb o q=>?_
 ·rw[tr b (λz=>by rw[z,e]at n;cases n) (nd b o q)];exact n
 ·by_cases hb:b=a
  ·rw[hb];exact⟨_,g1⟩
  ·exact⟨o,g2 b o hb q⟩
 ·rw[tr b (λz=>by rw[z,e]at q;cases q) (nH b _ q)];exact q
 ·rw[tr b (λz=>by rw[z,e]at q;cases q) (nH b _ q)];exact q
 ·rw[tr b (λz=>by rw[z,e]at q;cases q) (nH b _ q),Array.append_empty];exact q
 ·by_cases hb:b=a
  ·subst hb;rw[zq_]at q;cases q;exact ztA_ ⟨t,g1⟩
  ·rw[zI_ hb]at q
   by_cases hd:b=s.heap.objs.size
   ·rw[hd,zq_]at q;cases q
    rw[hd];refine xd_ok ⟨_,g3,λg=>?_,λg hg=>?_⟩
    ·rw[uH]
     by_cases z:g=f
     ·rw[z,beq_self_eq_true,if_pos rfl];exact ry
     ·rw[beq_eq_false_iff_ne.mpr z,if_neg z];exact rT
    ·grind
   ·rw[zI_ hd]at q
    refine(I.hok b o q).stay (λc w hc z=>g2 c w (λzz=>?_) z) (λc z=>?_) λc xs z=>?_
    ·rcases hc with rfl |hc
     ·exact hb zz
     ·rw[zz,e]at hc;cases hc
    ·rw[tr c (λw=>by rw[w,e]at z;cases z) (nH c _ z)];exact z
    ·rw[tr c (λw=>by rw[w,e]at z;cases z) (nH c _ z)];exact z
theorem zrM_ {Q:Unit->kZ->Prop}(I:Inv X pins σ H s)(e:H a=some (XM a C (some dx)))(ed:H dx=some (XDO dx fs))(hj:excJ X.K C=true)(ha:exA X.K C f=true)(hl:fs.length<1000)(ry:RelV y u)
  (h:∀s',Inv X pins σ (upd H dx (XDO dx (putF f y fs))) s'->Q () s'):nI (model X.prog X.w) A (setAttr (.ref a) f u) Q E s:=by
 obtain⟨⟨t,hx⟩,_⟩:=I.hok a _ e;obtain⟨⟨mA,n1,n2,n3⟩,_⟩:=I.hok dx _ ed;have hz:(fs.map (·.1)).length<=pX:=by rw[l6,sizeLine_eq];lia
 refine zom_ I.kIn hj ha hx n1 n3 hz λh' tk g1 g2=>h _ ?_
 refine I.write (t':=tk) (x:=dx) (e:=dx) (by rw[ed];exact rT) (.inl rfl) (λb q hb z=>(g2.2 b hb).trans z) (by obtain⟨o,_,_,z,_⟩:=g1;exact⟨o,z⟩) (xd_ok ⟨_,g1,λg=>?_,λg hg=>?_⟩)
 ·rw[zdL_]
  by_cases q:g=f
  ·rw[if_pos q,if_pos q];exact ry
  ·rw[if_neg q,if_neg q];exact n2 g
 ·by_cases q:g=f
  ·rw[q];exact(zdh_ f y fs).1
  ·refine(zdh_ f y fs).2 g (n3 g λz=>hg ?_)
   show(if g=f then some u else mA g)=none
   rw[if_neg q];exact z
theorem zq7_ {Q:aL->kZ->Prop}{u:aL}(I:Inv X pins σ H s)(e:H a=some (XM a C d))(hj:excJ X.K C=true)(h:∀s',Inv X pins σ H s'->Q .none s'):nI (model X.prog X.w) A (call (.builtin "ValueError.__init__") [.ref a,u]) Q E s:=by
 obtain⟨⟨t,hx⟩,_⟩:=I.hok a _ e;refine zn8_ I.kIn hj hx λh' g1 g2=>h _ ?_
 have z:=I.write (t':=s.toks) (o:=XM a C d) (x:=a) (e:=a) (by rw[e];exact rT) (.inl rfl) g2 ⟨_,g1⟩ (ztA_ ⟨_,g1⟩)
 rw[zoI_ e]at z;exact z
end
noncomputable def mXSet (C:nc)(te tv:TE)(f:Str):TS:=λD σ H=>tv σ H λy H1=>te σ H1 λx H2=>match x with
 |.ref a=>(∃dx fs,H2 a=some (XM a C (some dx))/\H2 dx=some (XDO dx fs)/\fs.length<1000/\D.nx σ (upd H2 dx (XDO dx (putF f y fs))))\/(H2 a=some (XM a C none)/\∀dx,H2 dx=none->D.nx σ (upd (upd H2 dx (XDO dx [(f,y)])) a (XM a C (some dx))))
 |_=>False
def mBInit (C:nc)(t:TA):TS:=λD σ H=>t σ H λvs H1=>match vs with
 |[.ref a,_]=>∃d,H1 a=some (XM a C d)/\D.nx σ H1
 |_=>False
def binK (K:Fgg)(B:nc):Bool:=vi K (.ref B) "__getattribute__"==some (some (.builtin "type.__getattribute__")) && (ye K B (.type "type") && match yf K (.ref B) (.type "type") "__init__" with |some (.val v)=>v==.builtin "ValueError.__init__" |_=>false)
section
variable {X:Cx}{e value o:qF}{f x:Str}{p pos pos' apos:Pos}{ta tv:TE}{t:TA}{C B:nc}
theorem zm2_ (hj:excJ X.K C=true)(hA:exA X.K C f=true)(ha:PE X o ta)(hv:PE X value tv)(hs:swapsWith value (some (.Attribute o f pos')) pos.line X.env=pure false:=by rfl):PS X (.Assign [.Attribute o f pos'] value pos) (mXSet C ta tv f):=by
 intro pins s σ H D I h;refine plainObj_wpAny_Assign_Attribute (thn (hv pins s σ H _ I h) λu s1 ⟨y,H1,I1,ry,q⟩=>thn (ha pins s1 σ H1 _ I1 q) λov s2 af=>?_) hs
 obtain⟨x,H2,I2,rx,q2⟩:=af;cases x with
 |ref a=>
  obtain rfl:ov=qq a:=rx;rcases q2 with⟨dx,fs,ea,ed,l,q3⟩|⟨ea,q3⟩
  ·exact zrM_ I2 ea ed hj hA l ry λs3 I3=>⟨σ,_,I3,q3⟩
  ·exact zpK_ I2 ea hj hA ry λs3 dx hd I3=>⟨σ,_,I3,q3 dx hd⟩
 |_=>exact q2.elim
theorem zoQ_ {pl:Sem Bool}{e2:qF}(hj:excJ X.K C=true)(hk:binK X.K B=true)(hm:X.mg x=some (.ref B))(ha:PA X [e,e2] t)(hg:Gl X x:=by rfl)(aB:(x==("__debug__":Str))=false:=by decide)
  (aM:qg [e,e2] X.env=(false,eval e X.env)::qg [e2] X.env:=by rfl) (ax:(sh pos (qg [e2] X.env)).any (·.1)=false:=by rfl)
  (ht:eval (.Call (.Attribute (.Name x p) "__init__" apos) [e,e2] [] pos) X.env=(do
   let ov <- eval (.Name x p) X.env
   standAt apos.atName
   let(f,first) <- holding [ov] (getMethod ov "__init__" pl)
   callWith pos f first (sh pos (qg [e,e2] X.env)) (xn pos (vP [] X.env))):=by rfl)
  (hs:swapsWith (.Call (.Attribute (.Name x p) "__init__" apos) [e,e2] [] pos) none pos'.line X.env=pure false:=by rfl):
  PS X (.Expr (.Call (.Attribute (.Name x p) "__init__" apos) [e,e2] [] pos) pos') (mBInit C t):=by
 unfold binK at hk;simp only[qj,beq_iff_eq]at hk;obtain⟨h1,h2,h3⟩:=hk;split at h3
 case h_2=>cases h3
 case h_1 v0 h4=>
  obtain rfl:v0=_:=beq_iff_eq.mp h3;have hn:PE X (.Name x p) (tC (.ref B)):=zne_ hg hm rfl aB;intro pins s σ H D I h;refine wpAny_Expr_any (Q:=SP X pins D) ?_ I.quiet hs;refine W.methodCall_KW (pl:=pl) (thn (hn pins s σ H (λv H1=>v=.ref B/\mBInit C t D σ H1) I ⟨rfl,h⟩) λu s1 af=>?_) ht
  obtain⟨x,H1,I1,rx,ex,q⟩:=af;subst ex;obtain rfl:u=qq B:=rx;refine W.method_cls I1.kIn h1 (W.cls_value I1.kIn h2 h4 rfl ?_);refine uE (thn (ha pos pins _ σ H1 _ (I1.tok _) q) λus s2 af=>?_) aM ax
  obtain⟨vs,H2,I2,r,q2⟩:=af
  match vs,q2 with
  |[.ref a,w],⟨d,ea,q3⟩=>
   obtain⟨u1,u2,rfl,r1,r2⟩:=vals2 r;obtain rfl:u1=qq a:=r1;exact zq7_ I2 ea hj λs3 I3=>⟨σ,H2,I3,q3⟩
end
def GxI (P:m7)(w:nL)(K:Fgg)(mg:Str->Option aL)(base:Heap)(k:Nat)(x:Str)(C:nc)(ps:List Str)(sp:Sp):Prop:=
 ∃f fd,FnOk P w K mg base CX0 k f fd ps sp/\excJ K C=true/\qX K (.ref C) "__init__"=some (some (.ref f))/\wj K (.ref f)=true/\mg x=some (.ref C)/\Binds K fd ps []
def tRaiseI (C:nc)(sp:Sp)(E:XK)(t:TA):TS:=λ_ σ H=>t σ H λvs H1=>vs.length<=100/\∀x,H1 x=none->sp (.ref x::(vs++[])) (upd H1 x (XM x C none)) (λv H2=>v=.non/\∃d,H2 x=some (XM x C d)/\E (.ref C) d (rem H2 x)) E0
theorem fn_at {K:Fgg}{h:Heap}{f:nc}(kin:K.In h)(q:wj K (.ref f)=true):∃o,h.get? f=some o/\o.cls=.type "function":=by
 unfold wj xj at q;have q:Option.map (λx=>x.cls) (wX f K)=some (.type "function"):=beq_iff_eq.mp q
 cases e:wX f K with
 |none=>rw[e]at q;cases q
 |some o=>rw[e]at q;exact⟨o,kin _ _ e,qW q⟩
section
variable {X:Cx}{E:XK}{C:nc}{x:Str}{e:qF}{es:List qF}{t:TA}{np ao pos:Pos}{k:Nat}{ps:List Str}{sp:Sp}
theorem zlw_ (hT:Takes X E)(jZ:X.calm=true)(G:GxI X.prog X.w X.K X.mg X.base k x C ps sp)(hr:Room (k+1) X.A)(ha:PA X (e::es) t)(hg:Gl X x:=by rfl)(aB:(x==("__debug__":Str))=false:=by decide)
  (he:qg (e::es) X.env=(false,eval e X.env)::qg es X.env:=by rfl) (ax:(sh ao (qg es X.env)).any (·.1)=false:=by rfl) (hex:X.ex=[]:=by rfl):
  PS X (.Raise (some (.Call (.Name x np) (e::es) [] ao)) none pos) (tRaiseI C sp E t):=by
 obtain⟨f,fd,Fo,hj,hf,fB,hm,hb⟩:=G;intro pins s σ H D I h;obtain⟨nm,qn,N,bs,bm,sn,sub,ab,col,dd,k0,k1,k2,k3,k5,mN,hC,hN,gH,TL,jQ⟩:=zg1_ I.ok.mod.kin hj;rw[arm_exec_Raise];refine iV (wpAny_standAt (zlj_ (C:=C) (nm:=nm) (q:=qn) (N:=N) (bs:=bs) (bm:=bm) (hd:=true) (sn:=sn) (sub:=sub) (ab:=ab) (col:=col) (dd:=dd) (k0:=k0) (k1:=k1) (k2:=k2) (k3:=k3) (k5:=k5) (ni:="ValueError.__new__") (TL.hasType rfl) (I.ok.hd jZ) ?_));refine iV (thn (se (zcR_ I hg hm (vD (h₀:=X.base) I.ok.mod.kin jQ (thn (ha ao pins s σ H _ I h) λus s1 ⟨vs,H1,I1,r,q⟩=>⟨I1.kIn,?_⟩) he ax) aB)) λv s3 h3=>iV (wpAny_standAt (nh h3)))
 obtain⟨hl,q⟩:=q;obtain⟨fo,hfo,gR⟩:=fn_at I1.kIn fB;obtain⟨hp,gg,dr,tk,ost⟩:=s1;refine zpq_ (TL.keeps I1.bk) (I1.bk _ _ hC) (hN.keeps I1.bk) (gH f hf) hfo gR (λh' a jM hz=>?_) (by show us.length<=_;rw[<- r.length];exact qV hl (by rw[sizeLine_eq];decide))
 have I2:=I1.addX jM hz;have hq:=q a (I1.hok.none_at jM.new);have r2:Vals (V.ref a::(vs++[])) (qq a::(us++[])):=.cons rfl (r.append .nil);have dX:(qq a::us++[]).length=ps.length:=by
  have e:=r2.length;rw[Fo.len _ _ _ _ hq]at e;exact e.symm
 have yg:X.s₀.heap.get? a=none:=by
  cases e:X.s₀.heap.get? a with
  |none=>rfl
  |some o=>
   obtain⟨o',z⟩:=I1.base.there a o e (λz=>by rw[hex]at z;cases z)
   rw[jM.new]at z;cases z
 have o8:BindsTo ⟨h',gg,dr,tk,ost⟩ fd ⟨qq a::us,[]⟩ (ps.zip (qq a::(us++[]))):=by have z:=hb ⟨h',gg,dr,tk,ost⟩ (qq a::us) I2.kIn dX;rwa[tS]at z
 refine wpAny_call (codeAny_mono (Fo.run _ X.stack _ _ ⟨qq a::us,[]⟩ (qq a::(us++[])) _ _ E0 (hr.make C us []) (I2.env0.make C us []) o8 r2 hq) λr s' aY=>?_)
 cases r with
 |error e=>exact pass0 (X:=X) pins σ _ _ e s' I2 aY
 |ok fl=>
  cases fl with
  |ret u=>
   obtain⟨v,H',I3,rv,ev,d,hd,q3⟩:=I2.after aY;subst ev;obtain⟨⟨t,hx⟩,_⟩:=I3.hok a _ hd;exact⟨rv,a,_,_,rfl,I3.bk _ _ hC,hx,rfl,rfl,rfl,hT pins σ (rem H' a) s' a C _ _ _ (I3.drop hd yg) zkt_ yg hx rfl rfl rfl rfl rfl q3⟩
  |next=>exact qk aY
  |brk=>exact qk aY
  |cont=>exact qk aY
end
def CtI {γ:Type}(K:Fgg)(C:nc)(Q:Cs γ)(g:γ->Mo (List Nat))(ns:List Str):Sp:=λvs H R E=>∃F c x ws,vs=.ref x::ws/\Same F H/\H x=some (XM x C none)/\Q.R c ws F /\
 After K (g c) E F H λ_ _ H'=>∀dx,H' dx=none->R .non (upd (upd H' dx (XDO dx (ns.zip ws))) x (XM x C (some dx)))
section
variable {K:Fgg}{E:XK}{α β γ ρ S B:Type}{F0 H0 F h H:Hp}{L:List Sl}{O:Own ρ}{LS:S->List Sl}{LB:B->List Sl}{C:nc}
theorem xi_rd {te:TE}{T1:Ty α}{T2:Ty β}{g:α×β->Mo (List Nat)}{T3:Ty (List Nat)}{n1 n2:Str}{N:List Str}(hN:N.length=3)(aF:n1≠n2)(ev:∀c E,EvF K te E [.dead,.fz T1 c.1,.fz T2 c.2] (g c) T3):
  ∀vs H R E,CtI K C (csCons T1 (csLast T2)) g [n1,n2] vs H R E->tSeq (mBInit C (tCons (mVar 0) (tCons te tNil))) (tSeq (mXSet C (mVar 0) (mVar 1) n1) (mXSet C (mVar 0) (mVar 2) n2)) {nx:=λ_ H'=>R .non H',rt:=R} (start N vs) H:=by
 rintro vs H R E ⟨F,c,x,ws,rfl,hs,hx,⟨w1,us,rfl,h1,w2,rfl,h2⟩,q⟩;have aM:start N [V.ref x,w1,w2]=[some (.ref x),some w1,some w2]:=by unfold start;rw[hN];rfl
 rw[aM];refine ev c E _ F H _ (λi s e=>?_) hs (q.imp λtxt F1 H1 ex k v hv=>?_)
 ·match i with
  |0=>cases e;trivial
  |1=>cases e;exact⟨w1,rfl,h1⟩
  |2=>cases e;exact⟨w2,rfl,h2⟩
  |i+3=>cases e
 ·have da:H1 x=some (XM x C none):=ex.2.2.1 _ _ hx
  refine⟨none,da,?_⟩;refine .inr ⟨da,λdx hd=>?_⟩
  have ne:dx≠x:=λz=>by rw[z,da]at hd;cases hd
  refine .inl ⟨dx,[(n1,w1)],zq_,by rw[zI_ ne];exact zq_,(show(1:Nat)<1000 by decide),?_⟩
  have e1:putF n2 w2 [(n1,w1)]=[(n1,w1),(n2,w2)]:=by unfold putF;rw[if_neg aF];rfl
  rw[e1];have e2:upd (upd (upd H1 dx (XDO dx [(n1,w1)])) x (XM x C (some dx))) dx (XDO dx [(n1,w1),(n2,w2)])=upd (upd H1 dx (XDO dx [(n1,w1),(n2,w2)])) x (XM x C (some dx)):=by
   funext b;unfold upd;grind
  rw[e2];exact k dx hd
theorem zo8_ {cn:String}{Q:Cs γ}{n:Nat}{ns:List Str}{g:γ->Mo (List Nat)}{as:γ->List (Str×Av)}{ta:TA}{r:Mo γ}(hl:CsN Q n)(j6:∀c ws F,Q.R c ws F->AtR (as c) (ns.zip ws) F)(h:EvA K ta E L r Q)(hn:n<=100:=by decide):
  EvS K (tRaiseI (gA K cn) (CtI K (gA K cn) Q g ns) E ta) E L (r.bind λc=>(Mo.noex (g c)).bind λ_=>.ex (.at cn (as c))) LS LB O:=by
 intro F0 H0 σ F hh H D hL ok fin;refine h σ (un F hh) H _ (hL.froz ok.2.1) ok.thaw (zaw_ (G:=F) ok _ (.inl rfl) fin λa F' H' hr x vs hv=>?_)
 rw[hr]at fin;refine⟨by rw[hl hv];exact hn,λxx gC=>⟨F',a,xx,vs,by rw[qC],x.2.1.trans (zbY_ gC _),zq_,hv,?_⟩⟩
 cases e:g a with
 |no=>rw[show Mo.bind (Mo.ok a) (λc=>(Mo.noex (g c)).bind λ_=>.ex (.at cn (as c)))=(Mo.noex (g a)).bind λ_=>(.ex (.at cn (as a)):Mo (Out ρ B S))from rfl,e]at fin;exact fin
 |ex c=>rw[show Mo.bind (Mo.ok a) (λc=>(Mo.noex (g c)).bind λ_=>.ex (.at cn (as c)))=(Mo.noex (g a)).bind λ_=>(.ex (.at cn (as a)):Mo (Out ρ B S))from rfl,e]at fin;exact fin.elim
 |ok txt=>
  rw[show Mo.bind (Mo.ok a) (λc=>(Mo.noex (g c)).bind λ_=>.ex (.at cn (as c)))=(Mo.noex (g a)).bind λ_=>(.ex (.at cn (as a)):Mo (Out ρ B S))from rfl,e]at fin
  intro F2 H2 y dx hd;refine⟨rfl,some dx,zq_,?_⟩;have jA:H2 xx=some (XM xx (gA K cn) none):=y.2.2.1 _ _ zq_;have ne:dx≠xx:=λz=>by rw[z,jA]at hd;cases hd
  have fE:F' xx=none:=x.2.1.free gC;have pj:F2 xx=none:=by
   cases z:F2 xx with
   |none=>rfl
   |some o=>have:=y.2.2.2 xx fE (by rw[z];exact sN _);rw[zq_]at this;cases this
  have gY:F2 dx=none:=y.2.1.free hd;have up:∀p,H' p≠none->p≠xx:=λp z w=>z (by rw[w];exact gC)
  have eL:Same H' H2:=(zbY_ gC _).trans y.2.2.1;have mC:∀p o,p≠xx->H2 p=some o->rem (upd (upd H2 dx (XDO dx (ns.zip vs))) xx (XM xx (gA K cn) (some dx))) xx p=some o:=λp o n z=>by
   rw[zhf_ n,zI_ n,zI_ (λw=>by rw[w,hd]at z;cases z)];exact z
  have j9:rem (upd (upd H2 dx (XDO dx (ns.zip vs))) xx (XM xx (gA K cn) (some dx))) xx dx=some (XDO dx (ns.zip vs)):=by rw[zhf_ ne,zI_ ne];exact zq_
  have Y:Ext (un F hh) H (upd F2 dx (XDO dx (ns.zip vs))) (rem (upd (upd H2 dx (XDO dx (ns.zip vs))) xx (XM xx (gA K cn) (some dx))) xx):=by
   refine⟨(x.1.trans y.1).trans (zbY_ gY _),λp o z=>?_,λp o z=>mC p o (up p (by rw[x.2.2.1 _ _ z];exact sN _)) (eL _ _ (x.2.2.1 _ _ z)),λp a1 b1=>?_⟩
   ·by_cases w:p=dx
    ·rw[w,zq_]at z;cases z;rw[w];exact j9
    ·rw[zI_ w]at z
     exact mC p o (λv=>by rw[v,pj]at z;cases z) (y.2.1 _ _ z)
   ·by_cases w:p=dx
    ·rw[w];exact(x.2.2.1.trans eL).free hd
    ·rw[zI_ w]at b1
     cases z:F' p with
     |some o=>exact x.2.2.2 p a1 (by rw[z];exact sN _)
     |none=>
      have q:=y.2.2.2 p z b1;exact x.2.2.1.free ((zbY_ gC (XM xx (gA K cn) none)).free q)
  obtain⟨o1,o2,o3⟩:=ok.back Y;have oX:hh dx=none:=ok.2.2.1.free ((x.2.2.1.trans eL).free hd);refine fin _ hh _ o1 dx _ (ok.1.2.2.1.free ((x.2.2.1.trans eL).free hd)) ?_ ((j6 a vs F' hv).imm λp xs z=>o3 p xs ?_)
  ·rw[zbb_ oX];exact zq_
  ·rw[zI_ (λw=>by rw[w]at z;have:=y.1 _ _ z;rw[gY]at this;cases this)];exact y.1 _ _ z
end
def Xc.c:Xc->String
 |.pl c=>c
 |.at c _=>c
def XAtt (x:Xc)(d:Option nc)(H:Hp):Prop:=match x with
 |.pl _=>d=none
 |.at _ as=>∃dx fs,d=some dx/\H dx=some (XDO dx fs)/\AtR as fs H
theorem XAtt.mono {x:Xc}{d:Option nc}{H H':Hp}(g:Same H H')(h:XAtt x d H):XAtt x d H':=by
 cases x with
 |pl c=>exact h
 |«at» c as=>obtain⟨dx,fs,e,q,r⟩:=h;exact⟨dx,fs,e,g _ _ q,r.imm g.tups⟩
abbrev tyXc (K:Fgg):Ty Xc:=⟨λx v H=>∃p d,v=.ref p/\H p=some (XO p (gA K x.c) d)/\XAtt x d H,λg ⟨p,d,e,q,r⟩=>⟨p,d,e,g _ _ q,r.mono g⟩⟩
def Mo.tr {α β:Type}(r:Mo α)(k:α->Mo β)(hd:Xc->Mo β):Mo β:=match r with |.ok a=>k a |.ex x=>hd x |.no=>.no
def Mo.cat {β:Type}(t:List (String×Bool))(c:String)(k1 k2:Mo β):Mo β:=match t.lookup c with |some true=>k1 |some false=>k2 |none=>.no
def CatT (K:Fgg)(S:String)(t:List (String×Bool)):Prop:=∀p∈t,(if p.2 then catK K (gA K p.1) (gA K S)else catN K (gA K p.1) (gA K S))=true
def IsaT (K:Fgg)(v:aL)(t:List (String×Bool)):Prop:=∀p∈t,isaK K (gA K p.1) v=some p.2
theorem zdq_ {β:Type}{c:String}{b:β}:∀{t:List (String×β)},t.lookup c=some b->(c,b)∈t
 |[],h=>by cases h
 |(d,x)::t,h=>by
  rw[uH]at h;split at h
  ·rename_i e;cases h;rw[eq_of_beq e];exact nu
  ·exact qa _ (zdq_ h)
theorem zo0_ {K:Fgg}{S:String}:CatT K S []:=λ_ h=>nomatch h
theorem ztg_ {K:Fgg}{S c:String}{t:List (String×Bool)}(h:catK K (gA K c) (gA K S)=true)(r:CatT K S t):CatT K S ((c,true)::t):=λp hp=>by
 rcases qf.mp hp with rfl |hp
 ·exact h
 ·exact r p hp
theorem zrm_ {K:Fgg}{S c:String}{t:List (String×Bool)}(h:catN K (gA K c) (gA K S)=true)(r:CatT K S t):CatT K S ((c,false)::t):=λp hp=>by
 rcases qf.mp hp with rfl |hp
 ·exact h
 ·exact r p hp
theorem zbt_ {K:Fgg}{v:aL}:IsaT K v []:=λ_ h=>nomatch h
theorem zam_ {K:Fgg}{v:aL}{c:String}{b:Bool}{t:List (String×Bool)}(h:isaK K (gA K c) v=some b)(r:IsaT K v t):IsaT K v ((c,b)::t):=λp hp=>by
 rcases qf.mp hp with rfl |hp
 ·exact h
 ·exact r p hp
theorem zpn_ {K:Fgg}{C S:nc}(h:catN K C S=true):¬catK K C S=true:=λh2=>by
 unfold catN at h;unfold catK at h2;simp only[qj,beq_iff_eq]at h h2;have:=h.2.symm.trans h2.2;cases this
section
variable {K:Fgg}{E:XK}{α γ δ ρ S B:Type}{F0 H0 F h H:Hp}{L:List Sl}{O:Own ρ}{LS:S->List Sl}{LB:B->List Sl}{i:Nat}{x:Xc}{ts:TS}{rest th:TH}{e:TE}{r:Mo α}
def EvH (K:Fgg)(th:TH)(E:XK)(L:List Sl)(x:Xc)(r:Mo (Out ρ B S))(LS:S->List Sl)(LB:B->List Sl)(O:Own ρ):Prop:=
 ∀F0 H0 σ F h H d (D:Ends),Hold L σ F h->Okk F0 H0 F h H->XAtt x d F->Fin K r E LS LB O F0 H0 D->th (gA K x.c) d D σ H
theorem eh_0:EvH K tH0 E L x .no LS LB O:=λ_ _ _ _ _ _ _ _ _ _ _ fin=>fin
theorem zfM_:∀{L:List Sl}{σ:St}{F h:Hp}{i:Nat}{o:Option V},L[i]?=some .dead->Hold L σ F h->Hold L (σ.set i o) F h
 |[],_,_,_,_,_,e,_=>by simp at e
 |s::L,[],_,_,_,_,_,q=>q.elim
 |s::L,a::σ,F,h,0,o,e,⟨h1,h2,j,p,q⟩=>by
  cases(show s=.dead by simpa using e)
  exact⟨h1,h2,j,trivial,q⟩
 |s::L,a::σ,F,h,i+1,o,e,⟨h1,h2,j,p,q⟩=>⟨h1,h2,j,p,zfM_ (by simpa using e) q⟩
theorem zgD_ {L:List Sl}{σ:St}{F h:Hp}{i:Nat}{o:Option V}(e:L[i]?=some .dead\/L=[])(q:Hold L σ F h):Hold L (σ.set i o) F h:=by
 rcases e with e |rfl
 ·exact zfM_ e q
 ·cases σ with
  |nil=>exact q
  |cons a σ=>exact q.elim
theorem zpf_ {D:Ends}{r:Mo (Out ρ B S)}(hd:∀s,(LS s)[i]?=some .dead)(hb:∀b,(LB b)[i]?=some .dead\/LB b=[])(fin:Fin K r E LS LB O F0 H0 D):Fin K r E LS LB O F0 H0 (gone i D):=by
 cases r with
 |no=>exact fin
 |ex c=>exact fin
 |ok o=>
  cases o with
  |nx s=>exact λσ F h H q ok=>fin _ F h H (zfM_ (hd s) q) ok
  |bk s=>exact λσ F h H q ok=>fin _ F h H (zgD_ (hb s) q) ok
  |ct s=>exact λσ F h H q ok=>fin _ F h H (zgD_ (hb s) q) ok
  |rt a=>exact fin
theorem eh_as {c:String}{t:List (String×Bool)}{r1 r2:Mo (Out ρ B S)}(hT:CatT K c t)(hi:L[i]?=some .dead)(hd:∀s,(LS s)[i]?=some .dead)
  (h1:EvS K ts E (L.set i (.fz (tyXc K) x)) r1 LS LB O) (h2:EvH K rest E L x r2 LS LB O) (hb:∀b,(LB b)[i]?=some .dead\/LB b=[]:=by first |exact λ_=>.inl rfl |exact λ_=>.inr rfl):EvH K (tHAs K (gA K c) i ts rest) E L x (Mo.cat t x.c r1 r2) LS LB O:=by
 intro F0 H0 σ F h H d D hL ok hx fin;unfold Mo.cat at fin;split at fin
 case h_1 e=>
  have z:catK K (gA K x.c) (gA K c)=true:=hT _ (zdq_ e);unfold tHAs;rw[if_pos z];intro p hp;have y:=Ext.new (o:=XO p (gA K x.c) d) ok.1.2.1 hp;exact h1 F0 H0 _ (upd F p (XO p (gA K x.c) d)) h _ (gone i D) (zdj_ hi (hL.mono y.1) ⟨p,d,rfl,zq_,hx.mono y.1⟩) (ok.cold y) (zpf_ hd hb fin)
 case h_2 e=>
  have z:catN K (gA K x.c) (gA K c)=true:=hT _ (zdq_ e);unfold tHAs;rw[if_neg (zpn_ z)];exact⟨z,h2 F0 H0 σ F h H d D hL ok hx fin⟩
 case h_3=>exact fin.elim
theorem ztk_ {C:Cs γ}{fn:γ->Mo δ}{O0:Own δ}{ta:TA}{ra:Mo γ}{rn:Mo (Out ρ B S)}{hand:Xc->Mo (Out ρ B S)}(ha:EvA K ta E L ra C)(hn:EvS K tNext E L rn LS LB O)(hh:∀x,EvH K th E L x (hand x) LS LB O):
  EvS K (tTryH (tDropX (Ct K C fn O0) ta) th) E L (ra.bind λc=>Mo.tr (fn c) (λ_=>rn) hand) LS LB O:=by
 intro F0 H0 σ F h H D hL ok fin;refine ha σ (un F h) H _ (hL.froz ok.2.1) ok.thaw (zaw_ (G:=F) ok _ (.inl rfl) fin λc F1 H1 hr x1 vs hv=>?_)
 rw[hr]at fin;have fin:Fin K (Mo.tr (fn c) (λ_=>rn) hand) E LS LB O F0 H0 D:=fin
 refine⟨F1,c,x1.2.1,by rw[qC];exact hv,?_⟩
 cases e:fn c with
 |no=>rw[e]at fin;exact fin
 |ok a=>
  rw[e]at fin;intro F2 H2 x2 v k _ _ _ _;obtain⟨o,hs,ht⟩:=ok.back (x1.trans x2);exact hn F0 H0 σ _ h H2 D (hL.mono hs) o fin
 |ex x=>
  rw[e]at fin;have fin:Fin K (hand x) E LS LB O F0 H0 D:=fin;intro F2 H2 x2;obtain⟨o,hs,ht⟩:=ok.back (x1.trans x2);cases x with
  |pl c'=>exact⟨_,rfl,hh (.pl c') F0 H0 σ _ h H2 none D (hL.mono hs) o rfl fin⟩
  |«at» c' as=>
   intro dx fs e1 e2 e3;refine⟨_,rfl,hh (.at c' as) F0 H0 σ _ h H2 (some dx) D (hL.mono hs) o ⟨dx,fs,rfl,?_,e3.imm ht⟩ fin⟩;rw[zbb_ (ok.2.2.1.free (x1.2.2.1.free e1))];exact e2
def isaQ (t:List (String×Bool))(c:String):Option Bool:=t.lookup c
theorem zcX_ {t:List (String×Bool)}{v:V}{u:aL}{re:Mo Xc}(hT:IsaT K u t)(hv:clsV v=some u)(h:EvF K e E L re (tyXc K)):EvF K (tCB (mIsaX K) (tCons e (tCons (tC v) tNil))) E L (re.bind λx=>Mo.opt (isaQ t x.c)) tyBl:=by
 intro σ F H R hL hs q;refine h σ F H _ hL hs (q.bind.imp λx F1 H1 x1 k1 w af=>?_)
 obtain⟨p,d,e,hp,_⟩:=af;subst e;obtain⟨b,e,k2⟩:=k1.opt;have z:(x.c,b)∈t:=zdq_ (show t.lookup x.c=some b from e)
 have z2:isaK K (gA K x.c) u=some b:=hT (x.c,b) z;have z3:H1 p=some (XO p (gA K x.c) d):=x1.2.1 _ _ hp;have z4:R (.bl b) H1:=k2.ok x1.2.1 _ rfl
 generalize gA K x.c=D at z2 z3
 show∃D d v' b,H1 p=some (XO p D d)/\clsV v=some v'/\isaK K D v'=some b/\R (.bl b) H1
 exact⟨D,d,u,b,z3,hv,z2,z4⟩
theorem zsN_:Flt tyBl (λa b=>decide (a=b)):=⟨λh=>by cases h;rfl,λh h'=>by cases h;cases h';unfold eqV;exact rfl⟩
end
section
variable {P:m7}{w:nL}{K:Fgg}{mg:Str->Option aL}{base:Heap}{x q c:Str}{st:qL}{N ps:List Str}{k:Nat}{α β:Type}{sp:Sp}
theorem okXI {cn:String}{T1:Ty α}{T2:Ty β}{g:α×β->Mo (List Nat)}{T3:Ty (List Nat)}{n1 n2:Str}{te:TE}(tm:Tm P w K mg base k N q st (λ_=>tSeq (mBInit (gA K cn) (tCons (mVar 0) (tCons te tNil))) (tSeq (mXSet (gA K cn) (mVar 0) (mVar 1) n1) (mXSet (gA K cn) (mVar 0) (mVar 2) n2))))
  (ev:∀c E,EvF K te E [.dead,.fz T1 c.1,.fz T2 c.2] (g c) T3) (aF:n1≠n2:=by decide) (S:FnScope N ps (defScope st):=by exact⟨rfl,rfl,rfl,by decide +kernel,rfl,by decide +kernel,by decide +kernel⟩) (b:Bnd K x q st ps:=by exact λ_ _ F=>Fun.binds3 rfl F λ_ _ _ _ _ _ _ _ _=>rfl) (hN:N.length=3:=by rfl) (hp:ps.length=3:=by rfl):
  OkF P w K mg base CX0 (k+1) x q st ps (CtI K (gA K cn) (csCons T1 (csLast T2)) g [n1,n2]):=λf fd F=>
 ⟨F.ok S (λvs H Q E h=>by obtain⟨_,_,_,ws,rfl,_,_,⟨w1,us,rfl,_,w2,rfl,_⟩,_⟩:=h;exact hp.symm) λah A outer s H vs Q E hr h=>⟨_,tm ah A outer s H f E S.nd hr,xi_rd hN aF ev vs H Q E h⟩,b f fd F⟩
theorem gx_of (M:Mgo K mg)(F:Fm K c "__init__" q st)(hj:excJ K (gA K c)=true)(h:OkF P w K mg base CX0 k "__init__" q st ps sp):GxI P w K mg base k c (gA K c) ps sp:=by
 obtain⟨cw,f,e,e2,e3,i⟩:=F;obtain⟨fd,F⟩:=i.fun_;exact⟨f,fd,(h f fd F).1,hj,by rw[zlH_ e];exact e2,e3,M.gk ⟨_,e⟩,(h f fd F).2⟩
end
section
variable {K:Fgg}{E:XK}{α γ δ:Type}{F H:Hp}{L:List Sl}{e:TE}{r:Mo α}{σ:St}{C:nc}{ns:List Str}
theorem zny_ {P:Ps γ}{Q:Cs δ}{ta:TA}{ra:Mo δ}{g:Unit->δ->Mo (Unit×γ)}(ha:EvA K ta E L ra Q):
  EvO K (tMake C (CtM K (owI C [] psNil) (owI C ns P) Q g (owF tyNon)) [] E ta) E L (ra.bind λc=>(g () c).bind λq=>.ok q.2) (owI C ns P):=by
 intro σ F H R hL hs q;refine ha σ F H _ hL hs (q.bind.imp λc F1 H1 x1 k1 vs bt x dx hx qO cG=>?_)
 rw[qC];have new:∀b,two x dx (.ins C dx []) b≠none->H1 b=none:=λb z=>by
  unfold two at z;grind
 have di:∀b,two x dx (.ins C dx []) b=none->upd (upd H1 dx (.own x)) x (.ins C dx []) b=H1 b:=λb z=>by
  obtain⟨a1,a2⟩:=zrp_ z;rw[zI_ a1,zI_ a2]
 have at2:Same (two x dx (.ins C dx [])) (upd (upd H1 dx (.own x)) x (.ins C dx [])):=λb o z=>by
  unfold two at z;split at z
  ·rename_i e;rw[e,zq_];exact z
  ·rename_i e0
   split at z
   ·rename_i e;rw[zI_ e0,e,zq_];exact z
   ·cases z
 have dj:Dj F1 (two x dx (.ins C dx [])):=λb=>by
  by_cases z:two x dx (.ins C dx []) b=none
  ·exact .inr z
  ·exact .inl (x1.2.1.free (new b z))
 have sF:Same F1 (upd (upd H1 dx (.own x)) x (.ins C dx [])):=λb o z=>by
  have hb:=x1.2.1 _ _ z;grind
 have eH:∀b,less (upd (upd H1 dx (.own x)) x (.ins C dx [])) (two x dx (.ins C dx [])) b=H1 b:=λb=>by
  by_cases z:two x dx (.ins C dx []) b=none
  ·rw[zbb_ z,di b z]
  ·rw[ziA_ b z,new b z]
 refine⟨F1,two x dx (.ins C dx []),(),c,.ref x,vs,rfl,sF,dj,at2,⟨x,dx,[],λ_=>none,rfl,cG,λ_=>.inr ⟨rfl,rfl⟩,rfl,rfl,λ_=>rfl⟩,bt,?_⟩
 cases e:g () c with
 |no=>rw[e]at k1;exact k1
 |ex cc=>
  rw[e]at k1;intro F' h' H' cq;have xx:Ext F1 H1 F' H':=⟨cq.1.1,cq.1.2.1,λb o z=>cq.1.2.2.1 b o (by rw[eH];exact z),λb a1 a2=>by rw[<- eH b];exact cq.1.2.2.2 b a1 a2⟩
  have:=k1 F' H' xx;rw[<- show less (upd (upd H1 dx (.own x)) x (.ins C dx [])) (two x dx (.ins C dx []))=H1 from funext eH]at this
  exact this
 |ok q0=>
  rw[e]at k1;rintro F' h' H' cq v ⟨hr,bw,j,⟨_,hv⟩,hO2⟩;refine⟨hv,?_⟩;have xx:Ext F1 H1 F' H':=⟨cq.1.1,cq.1.2.1,λb o z=>cq.1.2.2.1 b o (by rw[eH];exact z),λb a1 a2=>by rw[<- eH b];exact cq.1.2.2.2 b a1 a2⟩
  refine k1 F' H' xx (.ref x) bw (λb z=>?_) (λb=>?_) (j.r.trans cq.2.2.1) hO2
  ·have:=cq.2.2.2.1 b λy=>z (j.r.free y)
   rw[eH]at this;exact x1.2.2.1.free this
  ·rcases cq.2.1 b with y |y
   ·exact .inl y
   ·exact .inr (j.r.free y)
end
theorem zi0_ {M:Model}{A:qu}{E:aL->kZ->Prop}{s:kZ}{c:Code}{f:Code×Pos->Bool}{Q:Bool->kZ->Prop}(h:∀b,Q b s):wpOwn M A c (do return (<- stack).tail.any f) Q E s:=λΓ p _ _=>by
 show Q (Γ.below.any f) s
 exact h _
theorem zlt_ {prog:m7}{w:nL}{A:qu}{E:aL->kZ->Prop}{s:kZ}{a:nc}{o:wb}{items:Array aL}{n:Nat}{ts:List Str}{Q:aL->kZ->Prop}
  (pb:s.TypeIs (.ref a) "tuple") (ha:s.heap.get? a=some o) (hd:o.data=.seq items n) (hT:ReprAll prog w items.toList ts) (hsz:(tupleText ts).length<=pX)
  (hQ:∀z u tk,z.length<=max 5 (tupleText ts).length->Q (.str z u) {s with toks:=tk}):nI (model prog w) A (call (.builtin "tuple.__repr__") [.ref a]) Q E s:=by
 refine wpAny_call (codeAny_call_builtin_own (Code.quiet_builtin _ (by decide +kernel)) F.entry_tuple_repr (wI.check _ _ _ _ _ _ _ _ pb (F.args_tuple_repr_1 _) ?_))
 show wpOwn _ _ _ (Builtin.tupleReprAt 0 ⟨[.ref a],[]⟩) _ _ _
 rw[tuple_repr_tree,tupleReprUnderWay_eq];refine wpOwn_bind (zi0_ λb=>?_)
 cases b with
 |true=>
  refine wpOwn_of_wpAny (iV (wpAny_rule (iV (wpAny_mkStr (nh ?_) (by size_fits)))))
  exact hQ _ _ _ (by show(5:Nat)<=_;lia)
 |false=>exact wpOwn_of_wpAny (wpAny_tupleReprRest ha hd hT (λu tk=>hQ _ _ _ (by lia)) (by lia))
def mFmtT:V->Hp->VK->Prop:=λx H Q=>∃p i j,x=.ref p/\H p=some (.tup [.int i,.int j])/\(i.natAbs.log2<1920/\j.natAbs.log2<1920/\(strI i).length+(strI j).length<=900)/\∀z:List Nat,z.length<=1000->Q (tx z) H
theorem zpD_ {X:Cx}{a:qF}{ta:TE}{pos:Pos}(hu:X.A.units+60<cLine)(ha:PE X a ta):PE X (.FormattedValue a (-1) none pos) (tUn mFmtT ta):=by
 intro pins s σ H Q I h;refine wpAny_FormattedValue_plain (thn (ha pins s σ H _ I h) λv s1 af=>?_)
 obtain⟨x,H1,I1,r1,q1⟩:=af;obtain⟨p,i,j,rfl,hp,⟨h1,h2,h3⟩,q⟩:=q1;obtain rfl:v=qq p:=r1;obtain⟨aa,r,⟨o,e,hc,n,hd⟩,_⟩:=I1.tuple (.of hp);obtain⟨u1,u2,rfl,r1,r2⟩:=vals2 r;obtain⟨t1,rfl⟩:=r1;obtain⟨t2,rfl⟩:=r2;have hT:ReprAll X.prog X.w ([uB i t1,uB j t2].toArray).toList [(toString i:Str),(toString j:Str)]:=.cons (.int t1 h1) (.cons (.int t2 h2) .nil);have hl:(tupleText [(toString i:Str),(toString j:Str)]).length<=904:=by
  unfold tupleText;rw[strLen_append,strLen_append];have:=join_length_add [(toString i:Str),(toString j:Str)] (by simp)
  have e1:((("(":String):Str)).length=1:=rfl;have e2:∀k:Int,((toString k:String):Str).length=(strI k).length:=λk=>by unfold strI;show _=((toString k:String):Str).cps.toList.length;rw[qZ];rfl
  simp only[piled,qv,uZ,List.sum_cons,List.sum_nil,e2]at this;have e3:(((if([(toString i:Str),(toString j:Str)]:List Str).length==1 then ",)" else ")":String):Str)).length=1:=rfl
  rw[e1,e3];lia
 refine wpAny_formatField_slot (λ_ _=>nofun) (by lia) ⟨o,e,hc⟩ F.slot_tuple_format F.slot_tuple_str wI ?_
 refine zlt_ ⟨o,e,hc⟩ e hd hT (by rw[sizeLine_eq];lia) λz u tk hz=>⟨z,u,rfl,tx z.cps.toList,H1,I1.tok _,⟨u,?_⟩,q _ ?_⟩
 ·rw[<- zb3_]
 ·rw[qZ]
  exact qV hz (by lia)
section
variable {K:Fgg}{E:XK}{α β:Type}{L:List Sl}{T:Ty α}{T':Ty β}{e:TE}
abbrev tyTxt:Ty Unit:=⟨λ_ v _=>∃l:List Nat,l.length<=1000/\v=tx l,λ_ h=>h⟩
abbrev tyAny:Ty (List Nat):=⟨λ_ _ _=>True,λ_ h=>h⟩
theorem zmu_ {r:Mo (Int×Int)}(h:EvF K e E L r (tyTup (csCons tyInt (csLast tyInt)))):EvF K (tUn mFmtT e) E L (r.bind λc=>.grd (c.1.natAbs.log2<1920/\c.2.natAbs.log2<1920/\(strI c.1).length+(strI c.2).length<=900) (.ok ())) tyTxt:=by
 intro σ F H Q hL hs q;refine h σ F H _ hL hs (q.bind.imp λc F1 H1 x1 k1 v hv=>?_)
 obtain⟨p,us,rfl,hp,v1,vs,rfl,h1,v2,rfl,h2⟩:=hv;cases h1;cases h2;obtain⟨hz,k1⟩:=k1.grd;exact⟨p,c.1,c.2,rfl,x1.2.1 _ _ hp,hz,λz hl=>k1.ok x1.2.1 _ ⟨z,hl,rfl⟩⟩
theorem zoq_ {r:Mo (List Nat)}(h:EvF K e E L r tyStr):EvF K e E L (r.bind λa=>.grd (a.length<=1000) (.ok ())) tyTxt:=by
 intro σ F H Q hL hs q;refine h σ F H _ hL hs (q.bind.imp λc F1 H1 x1 k1 v hv=>?_)
 cases hv;obtain⟨hz,k1⟩:=k1.grd;exact k1.ok x1.2.1 _ ⟨c,hz,rfl⟩
def EvJb (K:Fgg)(k:Nat)(tj:TJ)(E:XK)(L:List Sl)(r:Mo Unit):Prop:=
 ∀(n:Nat) (acc:List Nat) σ F H (R:Str->Hp->Prop),acc.length<=1000*n->n+k<=90->HoldF L σ F->Same F H->After K r E F H (λ_ _ H'=>∀l:List Nat,l.length<=1000*k->R ⟨(acc++l).toArray⟩ H')->tj ⟨acc.toArray⟩ σ H R
theorem zqe_:EvJb K 0 tJ0 E L (.ok ()):=λn acc σ F H R ha hn hL hs q=>by
 have:=q.ok hs [] (rB _);rwa[qC]at this
theorem zeL_ {ta:TE}{tr:TJ}{k:Nat}{r r':Mo Unit}(h:EvF K ta E L r tyTxt)(hr:EvJb K k tr E L r'):EvJb K (k+1) (tJ1 ta tr) E L (r.bind λ_=>r'):=by
 intro n acc σ F H R ha hn hL hs q;refine h σ F H _ hL hs (q.bind.imp λu F1 H1 x1 k1 v hv=>?_)
 obtain⟨a,hz,rfl⟩:=hv;have e:((⟨acc.toArray⟩:Str)++(⟨a.toArray⟩:Str))=⟨(acc++a).toArray⟩:=by
  show(⟨acc.toArray++a.toArray⟩:Str)=_
  simp
 show((⟨acc.toArray⟩:Str)++(⟨a.toArray⟩:Str)).length<=pX/\tr ((⟨acc.toArray⟩:Str)++(⟨a.toArray⟩:Str)) σ H1 R
 rw[e];refine⟨by show(acc++a).toArray.size<=pX;rw[ng,nA,sizeLine_eq];lia,hr (n+1) (acc++a) σ F1 H1 R (by rw[nA];lia) (by lia) (hL.mono x1.1) x1.2.1 (k1.imp λ_ F2 H2 x2 k2 l hl=>?_)⟩
 rw[rW];exact k2 (a++l) (by rw[nA];lia)
theorem zoJ_ {tj:TJ}{k:Nat}{r:Mo Unit}(h:EvJb K k tj E L r)(hk:k<=80:=by decide):EvF K (tJoin tj) E L (r.bind λ_=>.ok []) tyAny:=by
 intro σ F H Q hL hs q;refine h 0 [] σ F H _ (by simp) (by lia) hL hs (q.bind.imp λ_ F' H' x k1 l hl=>?_)
 rw[qA];exact⟨by show l.toArray.size<=pX;rw[ng,sizeLine_eq];lia,k1.ok x.2.1 _ trivial⟩
abbrev tyU (T:Ty α)(T':Ty β):Ty (α ⊕ β):=⟨λd v H=>match d with |.inl a=>T.R a v H |.inr b=>T'.R b v H,λ{d v H H'} g h=>by cases d with |inl a=>exact T.mono g h |inr b=>exact T'.mono g h⟩
theorem imm_u (i:Imm T)(i':Imm T'):Imm (tyU T T'):=λ{d v H H'} g h=>by cases d with |inl a=>exact i g h |inr b=>exact i' g h
theorem zpl_ {r:Mo α}(h:EvF K e E L r T):EvF K e E L (r.bind λa=>.ok (.inl a)) (tyU T T'):=by
 intro σ F H Q hL hs q;exact h σ F H _ hL hs (q.bind.imp λa F1 H1 x1 k1 v hv=>k1.ok x1.2.1 v hv)
theorem zhE_ {r:Mo β}(h:EvF K e E L r T'):EvF K e E L (r.bind λa=>.ok (.inr a)) (tyU T T'):=by
 intro σ F H Q hL hs q;exact h σ F H _ hL hs (q.bind.imp λa F1 H1 x1 k1 v hv=>k1.ok x1.2.1 v hv)
theorem zql_ {r:Mo (α ⊕ β)}(h:EvF K e E L r (tyU T T')):EvF K e E L (r.bind λd=>Mo.opt d.getLeft?) T:=by
 intro σ F H Q hL hs q;refine h σ F H _ hL hs (q.bind.imp λd F1 H1 x1 k1 v hv=>?_)
 cases d with
 |inl a=>exact k1.ok x1.2.1 v hv
 |inr b=>exact k1.elim
theorem znb_ {r:Mo (α ⊕ β)}(h:EvF K e E L r (tyU T T')):EvF K e E L (r.bind λd=>Mo.opt d.getRight?) T':=by
 intro σ F H Q hL hs q;refine h σ F H _ hL hs (q.bind.imp λd F1 H1 x1 k1 v hv=>?_)
 cases d with
 |inr a=>exact k1.ok x1.2.1 v hv
 |inl b=>exact k1.elim
theorem ztw_ {n1 n2:Str}:∀(c:(Int×Int)×(Int×Int)) (ws:List V) (F:Hp),(csCons (tyTup (csCons tyInt (csLast tyInt))) (csLast (tyTup (csCons tyInt (csLast tyInt))))).R c ws F->AtR [(n1,.p c.1.1 c.1.2),(n2,.p c.2.1 c.2.2)] ([n1,n2].zip ws) F:=by
 rintro c ws F ⟨w1,us,rfl,h1,w2,rfl,h2⟩;have:∀{d:Int×Int}{w:V},(tyTup (csCons tyInt (csLast tyInt))).R d w F->(Av.p d.1 d.2).R w F:=λ{d w} h=>by
  obtain⟨p,us,rfl,hp,v1,vs,rfl,h1,v2,rfl,h2⟩:=h;cases h1;cases h2;exact⟨p,rfl,hp⟩
 exact .cons ⟨rfl,this h1⟩ (.cons ⟨rfl,this h2⟩ .nil)
end
section
variable {X:Cx}{tb:TX}{th:TH}{te:TS}{k i:Nat}{x n:Str}{ps:List Str}{sp:Sp}{p pos pos' lU:Pos}{e:qF}{es:List qF}{ta:TA}{hs:List ExceptHandler}
def tAsgX (sp:Sp)(ta:TA)(i:Nat):TX:=λD W σ H=>ta σ H λvs H1=>sp (vs++[]) H1 (λv H2=>D.nx (σ.set i (some v)) H2) (W σ)
theorem zrA_ (hN:X.N.Nodup)(hi:X.N[i]?=some n)(hx:Loc X.env.scope n)(G:Gd X.prog X.w X.K X.mg X.base (CXx X.prog X.w) k x ps sp)(hr:Room k X.A)(ha:PA X.nox (e::es) ta)(hg:Gl X x:=by rfl)(aB:(x==("__debug__":Str))=false:=by decide)
  (he:qg (e::es) X.env=(false,eval e X.env)::qg es X.env:=by rfl) (ax:(sh pos (qg es X.env)).any (·.1)=false:=by rfl)
  (hs:swapsWith (.Call (.Name x p) (e::es) [] pos) (some (.Name n pos')) lU.line X.env=pure false:=by rfl) (hf:X.fn n=true\/X.env.scope.names.lookup n=some .local:=by first |exact .inl rfl |exact .inr rfl |assumption):
  PSx X (.Assign [.Name n pos'] (.Call (.Name x p) (e::es) [] pos) lU) (tAsgX sp ta i):=by
 intro pins s σ H D W I h;refine wpAny_Assign_Name (thn (zmy_ G hr ha I h hg aB he ax) λv s1 af=>?_) hs
 obtain⟨y,H1,I1,r1,q1⟩:=af;exact ze4_ I1 hN hi hx r1 (λs2 I2=>⟨_,H1,I2,q1⟩) hf
def tTryHE (tb:TX)(te:TS)(th:TH):TS:=λD σ H=>tb {D with nx:=λai H'=>te D ai H'} (λai c d H'=>∃C,c=.ref C/\th C d D ai H') σ H
end
section
variable {K:Fgg}{E:XK}{γ δ ρ S B:Type}{F0 H0 F h H:Hp}{L:List Sl}{O:Own ρ}{LS:S->List Sl}{LB:B->List Sl}{i:Nat}{x:Xc}{te:TS}{th:TH}{e:TE}
theorem zsg_ {C:Cs γ}{fn:γ->Mo δ}{O0:Own δ}{s:Sl}{ta:TA}{ra:Mo γ}{rn:δ->Mo (Out ρ B S)}{hand:Xc->Mo (Out ρ B S)}(hi:L[i]?=some s)(hO:ImmO O0)(ha:EvA K ta E L ra C)(hn:∀a,EvS K te E (L.set i (.ow O0 a)) (rn a) LS LB O)(hh:∀x,EvH K th E L x (hand x) LS LB O):
  EvS K (tTryHE (tAsgX (Ct K C fn O0) ta i) te th) E L (ra.bind λc=>Mo.tr (fn c) rn hand) LS LB O:=by
 intro F0 H0 σ F h H D hL ok fin;refine ha σ (un F h) H _ (hL.froz ok.2.1) ok.thaw (zaw_ (G:=F) ok _ (.inl rfl) fin λc F1 H1 hr x1 vs hv=>?_)
 rw[hr]at fin;have fin:Fin K (Mo.tr (fn c) rn hand) E LS LB O F0 H0 D:=fin;refine⟨F1,c,x1.2.1,by rw[qC];exact hv,?_⟩
 cases e:fn c with
 |no=>rw[e]at fin;exact fin
 |ok a=>
  rw[e]at fin;intro F2 H2 x2 v kk fresh dj cI oq;obtain⟨o,hs,ht⟩:=ok.back (x1.trans x2);have kS:Dj (less F2 h) kk:=λp=>by
   unfold less;cases z:h p with
   |none=>exact dj p
   |some w=>exact .inl rfl
  have fresh:∀p,kk p≠none->H p=none:=λp z=>x1.2.2.1.free (fresh p z)
  obtain⟨h',a1,a2⟩:=zfX_ o hi (hL.mono hs) (λp z=>ok.1.2.2.1.free (fresh p z)) kS (zoo_ ok.2.2.1 fresh) cI (hO ht oq)
  exact hn a F0 H0 _ _ h' H2 D a1 a2 fin
 |ex x=>
  rw[e]at fin;have fin:Fin K (hand x) E LS LB O F0 H0 D:=fin;intro F2 H2 x2;obtain⟨o,hs,ht⟩:=ok.back (x1.trans x2);cases x with
  |pl c'=>exact⟨_,rfl,hh (.pl c') F0 H0 σ _ h H2 none D (hL.mono hs) o rfl fin⟩
  |«at» c' as=>
   intro dx fs e1 e2 e3;refine⟨_,rfl,hh (.at c' as) F0 H0 σ _ h H2 (some dx) D (hL.mono hs) o ⟨dx,fs,rfl,?_,e3.imm ht⟩ fin⟩;rw[zbb_ (ok.2.2.1.free (x1.2.2.1.free e1))];exact e2
end
structure FunD (K:Fgg)(T:nc)(x qual:Str)(st:qL)(f:nc)(fd:rm):Prop where
 ex:∃(oc:aL) (od:Option nc) (kV doc pm:aL) (an:Option nc) (ah ct:aL) (aw:Array (Option aL)),
  fd=tX x qual (defArgs st) (defBody st) (defScope st) (.ref T) kV doc pm an ah ct/\K.lookup f=some ⟨oc,od,.func fd,aw⟩/\uO K ah qual=true
 kp:sH K (.ref f)=true
section
variable {P:m7}{w:nL}{K:Fgg}{mg:Str->Option aL}{base:Heap}
theorem FunD.okX {T:nc}{x qual:Str}{st:qL}{f:nc}{fd:rm}{N ps:List Str}{k:Nat}{sp:Sp}(F:FunD K T x qual st f fd)(S:FnScope N ps (defScope st))(len:∀vs H Q E,sp vs H Q E->vs.length=ps.length)
  (aG:∀(ah:aL) (A:qu) (outer:List Env) (s:kZ) (H:Hp) (vs:List V) (Q:VK) (E:XK),Room k (A.deeper (envOfC qual (defScope st) s.heap.objs.size f ah))->sp vs H Q E ->
   ∃t,PSs (cxOf (CXx P w) P w K mg base N qual (defScope st) f ah A outer s H E) (defBody st) t/\t {nx:=λ_ H'=>Q .non H',rt:=Q} (start N vs) H):FnOk P w K mg base (CXx P w) (k+1) f fd ps sp:=by
 obtain⟨oc,od,kV,doc,pm,an,ah,ct,aw,rfl,lk,bB⟩:=F.ex;exact zse_ lk bB S len λA outer s H vs Q E hr bI=>aG ah A outer s H vs Q E hr bI
end
def relB:V->aL->Bool
 |.non,.none=>true
 |.int i,.int j _=>i == j
 |.bl a,.bool b=>a == b
 |_,_=>false
def relsB:List V->List aL->Bool
 |[],[]=>true
 |x::xs,v::vs=>relB x v && relsB xs vs
 |_,_=>false
theorem zpS_ {x:V}{v:aL}(h:relB x v=true):RelV x v:=by
 unfold relB at h;split at h
 ·rfl
 ·exact⟨_,by rw[eq_of_beq h]⟩
 ·rw[eq_of_beq h];rfl
 ·cases h
theorem zju_:∀{xs:List V}{vs:List aL},relsB xs vs=true->Vals xs vs
 |[],[],_=>.nil
 |x::xs,v::vs,h=>by
  unfold relsB at h;obtain⟨a,b⟩:=uR.mp h;exact .cons (zpS_ a) (zju_ b)
 |[],_::_,h=>by cases h
 |_::_,[],h=>by cases h
def FmD (K:Fgg)(c m q:Str)(st:qL)(aH:List V):Prop:=∃cw f T fd arr n oc od aw,sd K qm c=some (some (.ref cw))/\qX K (.ref cw) m=some (some (.ref f))/\wj K (.ref f)=true/\FunD K T m q st f fd /\
 K.lookup T=some ⟨oc,od,.seq arr n,aw⟩/\Vals aH arr.toList
section
variable {P:m7}{w:nL}{K:Fgg}{mg:Str->Option aL}{base:Heap}{CX:CXT}{x q c m:Str}{st:qL}{f:nc}{fd:rm}{ps:List Str}{k:Nat}{sp:Sp}
theorem FmD.mk_ {cw T:nc}{oc lY:aL}{od lX:Option nc}{kV doc pm:aL}{an:Option nc}{ah ct:aL}{aw gi:Array (Option aL)}{arr:Array aL}{n:Nat}{aH:List V}(h:sd K qm c=some (some (.ref cw)))(h1:qX K (.ref cw) m=some (some (.ref f)))(h2:wj K (.ref f)=true)
  (l:K.lookup f=some ⟨oc,od,.func (tX m q (defArgs st) (defBody st) (defScope st) (.ref T) kV doc pm an ah ct),aw⟩) (c1:uO K ah q=true) (k1:sH K (.ref f)=true) (lT:K.lookup T=some ⟨lY,lX,.seq arr n,gi⟩) (hv:relsB aH arr.toList=true):FmD K c m q st aH:=
 ⟨cw,f,T,_,arr,n,lY,lX,gi,h,h1,h2,⟨⟨oc,od,kV,doc,pm,an,ah,ct,aw,rfl,l,c1⟩,k1⟩,lT,zju_ hv⟩
def GkD (P:m7)(w:nL)(K:Fgg)(mg:Str->Option aL)(base:Heap)(CX:CXT)(k:Nat)(x:Str)(C:nc)(ps:List Str)(aH:List V)(sp:Sp):Prop:=
 ∃f fd ds,FnOk P w K mg base CX k f fd ps sp/\Mk K C f/\mg x=some (.ref C)/\Vals aH ds/\Binds K fd ps ds
abbrev OkFD (P:m7)(w:nL)(K:Fgg)(mg:Str->Option aL)(base:Heap)(CX:CXT)(k:Nat)(x q:Str)(st:qL)(ps:List Str)(sp:Sp):Prop:=∀T f fd,FunD K T x q st f fd->FnOk P w K mg base CX k f fd ps sp
end
section
variable {X:Cx}{e:qF}{es:List qF}{x:Str}{p pos:Pos}{t:TA}{C:nc}{k:Nat}{ps:List Str}{sp:Sp}{E:XK}{CX:CXT}{aH:List V}
theorem zpc_ (G:GkD X.prog X.w X.K X.mg X.base CX k x C ps aH sp)(hr:Room (k+1) X.A)(hx:Passes CX X E)(ha:PA X (e::es) t)(hg:Gl X x:=by rfl)(aB:(x==("__debug__":Str))=false:=by decide)
  (he:qg (e::es) X.env=(false,eval e X.env)::qg es X.env:=by rfl) (ax:(sh pos (qg es X.env)).any (·.1)=false:=by rfl):
  PE X (.Call (.Name x p) (e::es) [] pos) (tMake C sp aH E t):=by
 obtain⟨f,fd,ds,F,M,hm,hd,hb⟩:=G;exact zq3_ M F hr hg hm hb hd hx ha aB he ax
end
section
variable {P:m7}{w:nL}{K:Fgg}{mg:Str->Option aL}{base:Heap}{x q c:Str}{st:qL}{N ps:List Str}{k:Nat}{α β γ:Type}
theorem okUXD {O:Own α}{O2:Own β}{C:Cs γ}{ss:γ->List Sl}{g:α->γ->Mo (Out (Unit×β) Unit β)}{t:XK->TS}{LS:V->β->List Sl}(n m:Nat)(hC:CsS C ss)(tm:TmX P w K mg base k N q st t)
  (ev:∀w x c E,EvS K (t E) E (.ow (owAt w O) x::(ss c++nE m .dead)) (g x c) (LS w) (λ_:Unit=>[]) (owRM w O2 (owF tyNon))) (hn:CsN C n:=by repeat first |exact zf_ |exact csn_nil |refine zc_ ?_) (S:FnScope N ps (defScope st):=by exact⟨rfl,rfl,rfl,by decide +kernel,rfl,by decide +kernel,by decide +kernel⟩) (hp:ps.length=n+1:=by rfl) (hm:N.length-(n+1)=m:=by rfl) (j8:∀w x,(LS w x)[0]?=some (.ow (owAt w O2) x):=by exact λ_ _=>rfl):OkFD P w K mg base (CXx P w) (k+1) x q st ps (CtM K O O2 C (λx c=>fnMU (g x c)) (owF tyNon)):=λT f fd F=>
 F.okX S (λvs H Q E h=>by obtain⟨F,h,x,c,w,ws,rfl,_,_,_,_,hc,_⟩:=h;rw[qh,hn hc,hp]) λah A outer s H vs Q E hr h=>⟨t E,tm ah A outer s H f E S.nd hr,zqa_ (N:=N) (t:=t) n m hn hm hC j8 ev vs H Q E h⟩
theorem ztt_ {CX:CXT}{sp:Sp}{aH:List V}(j:Nat)(M:Mgo K mg)(C:Fc K c)(F:FmD K c "__init__" q st aH)(hb:∀T f fd arr n oc od aw,FunD K T "__init__" q st f fd->K.lookup T=some ⟨oc,od,.seq arr n,aw⟩->arr.toList.length=aH.length->Binds K fd ps (arr.toList.drop j))
  (h:OkFD P w K mg base CX k "__init__" q st ps sp):GkD P w K mg base CX k c (gA K c) ps (aH.drop j) sp:=by
 obtain⟨cw,f,T,fd,arr,n,oc,od,aw,e,e2,e3,F,lT,hv⟩:=F;obtain⟨qR,e',_,_,_,_,h5,h6⟩:=C;cases e.symm.trans e';have hd:∀{xs:List V}{vs:List aL}(j:Nat),Vals xs vs->Vals (xs.drop j) (vs.drop j):=λ{xs vs} j r=>by
  induction j generalizing xs vs with
  |zero=>exact r
  |succ j ih=>cases r with |nil=>exact .nil |cons a t=>exact ih t
 exact⟨f,fd,arr.toList.drop j,h T f fd F,by rw[zlH_ e];exact⟨h5,e2,e3,h6⟩,M.gk ⟨_,e⟩,hd j hv,hb T f fd arr n oc od aw F lT hv.length.symm⟩
theorem arr5 {arr:Array aL}(h:arr.toList.length=5):∃d0 d1 d2 d3 d4,arr=#[d0,d1,d2,d3,d4]:=by
 obtain⟨l⟩:=arr
 match l,h with
 |[d0,d1,d2,d3,d4],_=>exact⟨d0,d1,d2,d3,d4,rfl⟩
end
def strsB:List (List Nat)->List aL->Bool
 |[],[]=>true
 |x::xs,.str z _::vs=>z == ⟨x.toArray⟩ && strsB xs vs
 |_,_=>false
theorem zkT_:∀{xs:List (List Nat)}{vs:List aL},strsB xs vs=true->Vals (xs.map tx) vs
 |[],[],_=>.nil
 |x::xs,v::vs,h=>by
  unfold strsB at h;split at h
  ·rename_i e1 _;cases e1
  ·rename_i e1 e2
   cases e1;cases e2;obtain⟨a,b⟩:=uR.mp h;exact .cons ⟨_,by rw[eq_of_beq a]⟩ (zkT_ b)
  ·cases h
 |[],_::_,h=>by cases h
 |_::_,[],h=>by cases h
def FtT (K:Fgg)(x:Str)(xs:List (List Nat)):Prop:=∀H:Hp,SqT K H (gA K x) (xs.map tx)
theorem FtT.mk_ {K:Fgg}{x:Str}{xs:List (List Nat)}{a:nc}{od:Option nc}{aa:Array aL}{n:Nat}{aw:Array (Option aL)}(h:sd K qm x=some (some (.ref a)))(l:K.lookup a=some ⟨.type "tuple",od,.seq aa n,aw⟩)(hv:strsB xs aa.toList=true)(hs:aa.toList.length<=1000):FtT K x xs:=λH=>by
 rw[zlH_ h];exact .inr ⟨_,aa,n,l,rfl,rfl,by rw[qZ]at hs;exact qV hs (by rw[sizeLine_eq];decide),zkT_ hv⟩
section
variable {K:Fgg}{E:XK}{α γ iS:Type}{L:List Sl}{T:Ty α}{C1:Cs γ}{C2:Cs iS}{e:TE}
theorem zrI_ {x:Str}{xs:List (List Nat)}{r:Mo (List Nat)}(F:FtT K x xs)(h:EvF K e E L r tyStr):EvF K (tOp (mIn K false) e (tC (.ref (gA K x)))) E L (r.bind λa=>.ok (xs.any λy=>decide (y=a))) tyBl:=by
 intro σ F' H Q hL hs q;refine h σ F' H _ hL hs (q.bind.imp λa F1 H1 x1 k1 v hv=>?_)
 cases hv;have key:∀ys:List (List Nat),(ys.map tx).all flatV=true/\inV (tx a) (ys.map tx)=ys.any λy=>decide (y=a):=λys=>by
  have pr:Prs tyStr F1 ys (ys.map tx):=by
   induction ys with
   |nil=>exact .nil
   |cons y ys ih=>exact .cons rfl ih
  exact zmD_ (T:=tyStr) zp3_ (a:=a) rfl pr
 refine⟨xs.map tx,.inr (F H1),rfl,(key xs).1,?_⟩;rw[(key xs).2];exact k1.ok x1.2.1 _ rfl
theorem zqU_ {i:Nat}{p1:γ->α}{p2:iS->α}{r:Mo (γ ⊕ iS)}(a1:CsAt C1 i T p1)(a2:CsAt C2 i T p2)(h:EvF K e E L r (tyU (tyTup C1) (tyTup C2))):EvF K (tOp (mIx K) e (tC (.int i))) E L (r.bind λd=>.ok (d.elim p1 p2)) T:=by
 intro σ F H Q hL hs q;refine h σ F H _ hL hs (q.bind.imp λd F1 H1 x1 k1 v1 hv=>?_)
 have fin:∀(us:List V) (w:V) (p:nc) (z:α),F1 p=some (.tup us)->us[i]?=some w->T.R z w F1->After K (.ok z) E F1 H1 (λc F' H'=>∀v,T.R c v F'->Q v H')->(mIx K) (.ref p) (.int i) H1 Q:=λus w p z hp e2 aS k=>by
  refine⟨us,.inr (.of (x1.2.1 _ _ hp)),?_⟩;have e3:atI us (i:Int)=some w:=by
   unfold atI;rw[zq2_ (by lia) (by have:=(qi.mp e2).1;lia)]
   simpa using e2
  rw[e3];exact k.ok x1.2.1 w aS
 cases d with
 |inl c=>
  obtain⟨p,us,rfl,hp,hc⟩:=hv;obtain⟨w,e2,aS⟩:=a1 hc;exact fin us w p _ hp e2 aS k1
 |inr c=>
  obtain⟨p,us,rfl,hp,hc⟩:=hv;obtain⟨w,e2,aS⟩:=a2 hc;exact fin us w p _ hp e2 aS k1
theorem zkn_ {n1 n2:Nat}(h1:CsN C1 n1)(h2:CsN C2 n2):Bl K (mLen K) E (csLast (tyU (tyTup C1) (tyTup C2))) (λd=>.ok (d.elim (λ_=>(n1:Int)) λ_=>(n2:Int))) tyInt:=by
 rintro d vs F H Q hs ⟨v,rfl,hv⟩ q;cases d with
 |inl c=>obtain⟨p,us,rfl,h,r⟩:=hv;exact⟨us,.inr (.of (hs _ _ h)),q.ok hs _ (by rw[h1 r];rfl)⟩
 |inr c=>obtain⟨p,us,rfl,h,r⟩:=hv;exact⟨us,.inr (.of (hs _ _ h)),q.ok hs _ (by rw[h2 r];rfl)⟩
theorem zsq_:Op2 K mIs E tyBl tyBl (λa b=>.ok (decide (a=b))) tyBl:=by
 rintro a b x y F H Q hs rfl rfl k;exact k.ok hs _ rfl
theorem zm9_:Op2 K mIsNot E tyBl tyBl (λa b=>.ok (!decide (a=b))) tyBl:=by
 rintro a b x y F H Q hs rfl rfl k;exact k.ok hs _ rfl
variable {β:Type}{T':Ty β}{C:Cs γ}
theorem zo3_ {f:γ->List α}(hf:CsL C T f):BlO K (mList K) E (csLast (tyTup C)) (λc=>.ok (f c)) (owL T):=by
 rintro c vs F H Q hs ⟨v,rfl,p,us,rfl,h,r⟩ q;exact .inl ⟨us,.inr (.of (hs _ _ h)),λl hl=>zbB_ hs hl (hf r) q⟩
theorem nn_u {a:α ⊕ β}{v:V}{F:Hp}(h1:∀a v F,T.R a v F->v≠.non)(h2:∀a v F,T'.R a v F->v≠.non)(h:(tyU T T').R a v F):v≠.non:=by
 cases a with
 |inl a=>exact h1 _ _ _ h
 |inr a=>exact h2 _ _ _ h
end
instance:Inhabited V:=⟨.non⟩
section
end
theorem zl2_ (l:List Nat):(qG l.length).filterMap (λk=>l[l.length-1-k]?)=l.reverse:=by
 have h:(qG l.length).map (λk=>l[l.length-1-k]?)=l.reverse.map some:=by
  refine List.ext_getElem (by simp) λi h1 h2=>?_
  rw[l6,qY]at h1;rw[vz,um,vz,List.getElem_reverse,nj (by lia)]
 have e:(qG l.length).filterMap (λk=>l[l.length-1-k]?)=((qG l.length).map (λk=>l[l.length-1-k]?)).filterMap id:=by
  rw[uj];rfl
 rw[e,h,uj];exact List.filterMap_some
theorem zj2_ (x:Str):(qM none none (-1) x.length).filterMap (x.cps[·]?)=x.cps.toList.reverse:=by
 have h2:x.cps.toList.length=x.length:=by simp[rV]
 unfold qM sliceRange;simp only;rw[if_neg (show¬(-1:Int) > 0 by decide),if_neg (show¬(-1:Int) > 0 by decide),if_neg (show¬(-1:Int) > 0 by decide),uj,<- zl2_,h2]
 have hc:(if(x.length:Int)-1 > -1 then((x.length:Int)-1 - -1 - -1-1) / - -1 else 0)=(x.length:Int):=by
  split
  ·rw[show(- -1:Int)=1 by decide,yi];lia
  ·lia
 rw[hc,vm];refine zdb_ λk hk=>?_
 have hk:=rd.mp hk;show x.cps[((x.length:Int)-1 + -1*(k:Int)).toNat]?=x.cps.toList[x.length-1-k]?
 rw[show((x.length:Int)-1 + -1*(k:Int)).toNat=x.length-1-k by lia]
 simp
def tRevS (te:TE)(ts:TO):TE:=λσ H Q=>te σ H λx H1=>ts σ H1 λo H2=>o=some (-1)/\match x with
 |.str z=>z.cps.toList.length<=pX/\Q (tx z.cps.toList.reverse) H2
 |_=>False
section
variable {X:Cx}{e st:qF}{te:TE}{ts:TO}{pos p2:Pos}
theorem zmY_ (he:PE X e te)(hs:PO X (some st) ts):PE X (.Subscript e (.Slice none none (some st) p2) pos) (tRevS te ts):=by
 intro pins s σ H Q I h;refine Subscript_ (thn (he pins s σ H _ I h) λv s1 af=>?_)
 obtain⟨x,H1,I1,r1,q1⟩:=af;have pn:∀(s:kZ) (Q':aL->kZ->Prop),Q' .none s->nI (model X.prog X.w) X.A (evalPart none X.env) Q' X.xe s:=λs Q' q=>by rw[evalPart_none];exact nh q
 refine wpAny_Slice (pn _ _ (pn _ _ ?_));refine thn (hs pins s1 σ H1 _ I1 q1) λql s3 af=>?_
 obtain⟨o,H3,I3,po,eo,q3⟩:=af;subst eo;cases x with
 |str z=>
  obtain⟨hz,q⟩:=q3;obtain⟨t,rfl⟩:=r1;obtain⟨l,rfl,hl⟩:=zc2_ po;have I4:Inv X pins σ H3 {s3 with heap:=s3.heap.push {cls:=.type "slice",data:=.fields #[.none,.none,partValue l]}}:=I3.kept (t':=s3.toks) λb ob q=>iX _ q
  show nI (model X.prog X.w) X.A (subscriptTail e (.Slice none none (some st) p2) (.str z t) (.ref s3.heap.objs.size)) (EP X pins σ Q) X.xe {s3 with heap:=s3.heap.push {cls:=.type "slice",data:=.fields #[.none,.none,partValue l]}}
  refine tail_any (ops:=[.str z t,.ref s3.heap.objs.size]) (typeIs_str _ _ _) wm.lookup ?_ (by with_unfolding_all rfl)
  refine wpAny_getItem_str_slice (l:=none) (u:=none) (st:=l) ⟨_,p7 _ rfl,rfl,rfl⟩ (by rw[hl];rfl) ?_
  unfold sliceMade;rw[if_neg (by rw[hl];simp)]
  have e2:slicePicked z none none l=qM none none (-1) z.length:=by unfold slicePicked;rw[hl];rfl
  rw[e2,zj2_];refine⟨?_,tx z.cps.toList.reverse,H3,I4.tok _,⟨_,rfl⟩,q⟩;show z.cps.toList.reverse.toArray.size<=pX
  rw[ng,vZ];exact hz
 |_=>exact q3.elim
end
section
variable {prog:m7}{w:nL}{A:qu}{E:aL->kZ->Prop}
theorem parts5 {s:kZ}{l:nc}{x y z u v:aL}{Q:List aL->kZ->Prop}(hA:A.handled=none)(hl:s.heap.IsList l #[x,y,z,u,v])
  (q:∀h',(∀b o,b≠s.heap.objs.size->s.heap.get? b=some o->h'.get? b=some o)->Q [x,y,z,u,v] {s with heap:=h'}):nI (model prog w) A (unpackItems (.ref l) 5 none) Q E s:=by
 have ne:l≠s.heap.objs.size:=by obtain⟨o,ho,_⟩:=hl;exact qo (pT ho)
 unfold unpackItems notIterableAtAll;refine iV (iV (wpAny_specialOf hl.typeIs slot_list_iter.lookup (nh ?_)));rw[if_neg (by decide)]
 refine iV (wpAny_holding (wpAny_pyIter_list hl ?_));have i0:Heap.IsListIter (s.heap.push {cls:=.type "list_iterator",data:=.fields #[.ref l,.int 0 0]}) s.heap.objs.size l 0:=⟨_,p7 _ rfl,rfl,rfl⟩;refine iV (wpAny_holding ?_);show nI _ _ (pyNext _>>=_) _ _ _;refine iV (wpAny_pyNext_list_item i0 (hl.push _) rfl λh1 i1 e1=>?_)
 have l1:h1.IsList l #[x,y,z,u,v]:=(hl.push _).extBut e1.extBut ne;refine iV (wpAny_holding ?_);show nI _ _ (pyNext _>>=_) _ _ _;refine iV (wpAny_pyNext_list_item (s:={s with heap:=h1}) i1 l1 rfl λh2 i2 e2=>?_)
 have l2:h2.IsList l #[x,y,z,u,v]:=l1.extBut e2.extBut ne;refine iV (wpAny_holding ?_);show nI _ _ (pyNext _>>=_) _ _ _;refine iV (wpAny_pyNext_list_item (s:={s with heap:=h2}) i2 l2 rfl λh3 i3 e3=>?_)
 have l3:h3.IsList l #[x,y,z,u,v]:=l2.extBut e3.extBut ne;refine iV (wpAny_holding ?_);show nI _ _ (pyNext _>>=_) _ _ _;refine iV (wpAny_pyNext_list_item (s:={s with heap:=h3}) i3 l3 rfl λh4 i4 e4=>?_)
 have l4:h4.IsList l #[x,y,z,u,v]:=l3.extBut e4.extBut ne;refine iV (wpAny_holding ?_);show nI _ _ (pyNext _>>=_) _ _ _;refine iV (wpAny_pyNext_list_item (s:={s with heap:=h4}) i4 l4 rfl λh5 i5 e5=>?_)
 have l5:h5.IsList l #[x,y,z,u,v]:=l4.extBut e5.extBut ne;refine iV (wpAny_holding (nh (nh (nh (nh (nh (nh ?_)))))));rw[if_neg (by simp)]
 refine iV (wpAny_holding (wpAny_pyNext_list_end (s:={s with heap:=h5}) hA i5 l5 rfl λh6 e6=>?_))
 exact nh (q h6 λb o hb e=>e6 b o hb (e5.extBut b o hb (e4.extBut b o hb (e3.extBut b o hb (e2.extBut b o hb (e1.extBut b o hb (iX _ e)))))))
end
section
variable {X:Cx}
def gLst5 (K:Fgg)(t:TGs):TG:=λv σ H Q=>match v with |.ref a=>∃x y z u w,SqL K H a [x,y,z,u,w]/\t [x,y,z,u,w] σ H Q |_=>False
theorem zq5_ {es:List qF}{k:Nat}{t:TGs}{pos:Pos}(hc:X.calm=true)(h:PGs X es t)
  (hn:(sE es X.env).length=5:=by rfl) (aM:(sE es X.env).findIdx? (·.1)=none:=by rfl):PG X (.Tuple es k pos) (gLst5 X.K t):=by
 intro pins s σ H v u Q I r hw;cases v with
 |ref a=>
  obtain⟨x,y,z,m,n,hq,hw⟩:=hw;cases r;obtain⟨aa,rv,hp,_⟩:=I.list hq;obtain⟨x',y',z',m',n',rfl⟩:∃x' y' z' m' n',aa=[x',y',z',m',n']:=by
   have:=rv.length
   match aa,this with
   |[x',y',z',m',n'],_=>exact⟨x',y',z',m',n',rfl⟩
  rw[xK];refine iV (wpAny_standAt ?_);unfold unpack;rw[hn,aM];refine iV (wpAny_holding (parts5 (I.ok.hd hc) hp.isList λh1 hx=>?_))
  have I1:Inv X pins σ H {s with heap:=h1}:=I.kept (t':=s.toks) λb o e=>hx b o (qo (pT e)) e
  exact h pins _ σ H _ _ Q I1 rv hw
 |_=>exact hw.elim
variable {K:Fgg}{E:XK}{α β γ ρ S B:Type}{L:List Sl}{T:Ty α}{T':Ty β}{C:Cs γ}{e e1 e2:TE}{O:Own ρ}{LS:S->List Sl}{LB:B->List Sl}{u:TS}{tl th:TO}{rl rh:Mo (Option Int)}
def Up (T:Ty α)(T':Ty β)(f:α->β):Prop:=∀{a v H},T.R a v H->T'.R (f a) v H
def Dn (T:Ty α)(T':Ty β)(g:α->Option β):Prop:=∀{a b v H},g a=some b->T.R a v H->T'.R b v H
theorem zbe_ {f:α->β}{r:Mo α}(hf:Up T T' f)(h:EvF K e E L r T):EvF K e E L (r.bind λa=>.ok (f a)) T':=by
 intro σ F H Q hL hs q;exact h σ F H _ hL hs (q.bind.imp λa F1 H1 x k v hv=>k.ok x.2.1 v (hf hv))
theorem zcE_ {g:α->Option β}{r:Mo α}(hg:Dn T T' g)(h:EvF K e E L r T):EvF K e E L (r.bind λa=>Mo.opt (g a)) T':=by
 intro σ F H Q hL hs q;refine h σ F H _ hL hs (q.bind.imp λa F1 H1 x k v hv=>?_)
 obtain⟨b,eb,k⟩:=k.opt;exact k.ok x.2.1 v (hg eb hv)
theorem zb6_ {f:α->Dy}(h:Into T f):Up T tyDy f:=λq=>h q
theorem zoZ_ {f:α->Dy}(h:Into T f)(hp:∀a,(f a).plain=true):Up T tyDp f:=λ{a v H} q=>⟨hp a,h q⟩
theorem zcH_ {g:Dy->Option α}(h:OutOf T g):Dn tyDy T g:=λe q=>h e q
theorem dn_dp {g:Dy->Option α}(h:OutOf T g):Dn tyDp T g:=λe q=>h e q.2
theorem zhQ_:∀{ds:List Dy}{vs:List V}{H:Hp},DyRs ds vs H->Prs tyDy H ds vs
 |[],_,_,q=>by unfold DyRs at q;subst q;exact .nil
 |d::ds,_,_,q=>by
  unfold DyRs at q;obtain⟨v,vs,rfl,a,r⟩:=q;exact .cons a (zhQ_ r)
theorem ziK_:∀{ds:List Dy}{vs:List V}{H:Hp},Prs tyDy H ds vs->DyRs ds vs H
 |_,_,_,.nil=>by unfold DyRs;rfl
 |_,_,_,.cons a r=>by unfold DyRs;exact⟨_,_,rfl,a,ziK_ r⟩
theorem zsw_ {ds:List Dy}{vs:List V}{H:Hp}(q:Prs tyDp H ds vs):DyRs ds vs H:=by
 induction q with
 |nil=>unfold DyRs;rfl
 |cons a r ih=>unfold DyRs;exact⟨_,_,rfl,a.2,ih⟩
theorem zr0_ {g:Dy->Option α}(h:OutOf T g):Dn (tyL tyDp) (tyL T) (allO g):=λe ⟨p,vs,e1,hp,q⟩=>⟨p,vs,e1,hp,ziz_ h e (zsw_ q)⟩
theorem dn_ly {g:Dy->Option α}(h:OutOf T g):Dn (tyL tyDy) (tyL T) (allO g):=λe ⟨p,vs,e1,hp,q⟩=>⟨p,vs,e1,hp,ziz_ h e (ziK_ q)⟩
theorem in_ly:Into (tyL tyDy) .lst:=λ⟨p,vs,e,hp,q⟩=>by unfold DyR;exact⟨p,vs,e,hp,ziK_ q⟩
theorem zsp_:OutOf (tyL tyDy) Dy.lst?:=λ{d a v H} e q=>by
 cases d with
 |lst ds=>cases e;unfold DyR at q;obtain⟨p,us,e1,hp,r⟩:=q;exact⟨p,us,e1,hp,zhQ_ r⟩
 |_=>cases e
theorem in_u {f:α->Dy}{g:β->Dy}(h1:Into T f)(h2:Into T' g):Into (tyU T T') (Sum.elim f g):=λ{a v H} q=>by
 cases a with
 |inl a=>exact h1 q
 |inr b=>exact h2 q
theorem zqX_ {g:Dy->Option α}(h:OutOf T g)(nn:∀a v H,T.R a v H->v≠.non):OutOf (tyOpt T) (λd=>if d.isNon then some none else(g d).map some):=λ{d a v H} e q=>by
 cases hd:d.isNon with
 |true=>
  simp only[hd]at e;cases e;cases d with
  |non=>unfold DyR at q;exact q
  |_=>cases hd
 |false=>
  simp only[hd]at e;obtain⟨b,e1,rfl⟩:=rX.mp e;exact⟨h e1 q,nn _ _ _ (h e1 q)⟩
theorem out_u {g:Dy->Option α}{g':Dy->Option β}(h1:OutOf T g)(h2:OutOf T' g'):OutOf (tyU T T') (λd=>match g d with |some a=>some (.inl a)|none=>(g' d).map .inr):=λ{d a v H} e q=>by
 cases hg:g d with
 |some x=>simp only[hg]at e;cases e;exact h1 hg q
 |none=>
  simp only[hg]at e;obtain⟨b,e1,rfl⟩:=rX.mp e;exact h2 e1 q
theorem zqq_ {i:Nat}{a:α}{g:α->Option β}{k:β->Mo (Out ρ B S)}(hi:L[i]?=some (.fz T a))(hg:Dn T T' g)(hk:∀b,EvS K u E (L.set i (.fz T' b)) (k b) LS LB O):EvS K u E L ((Mo.opt (g a)).bind k) LS LB O:=by
 intro F0 H0 σ F h H D hL ok fin;obtain⟨b,eb,fin⟩:=zkv_ fin;refine hk b F0 H0 σ F h H D ?_ ok fin;obtain⟨o,h1,h2,e1,j,⟨v,e2,r⟩,f⟩:=hL.at i hi;subst e2;have g:=f (.fz T' b) (some v) h1 h j ⟨v,rfl,hg eb r⟩;rw[zch_ e1]at g;exact g
theorem zcM_ {i:Nat}{xs:List α}{ei:TE}{r:Mo α}{ri:Mo Int}{k:List α->Mo (Out ρ B S)}(hi:L[i]?=some (.ow (owL T) xs))(he:EvF K e E (L.map Sl.cold) r T)(dZ:EvF K ei E (L.map Sl.cold) ri tyInt)(hk:∀a,EvS K u E (L.set i (.ow (owL T) a)) (k a) LS LB O):
  EvS K (tSeq (tAsg e (gSub (mVar i) ei mSet)) u) E L (r.bind λa=>ri.bind λj=>(Mo.opt ((ixN xs.length j).map λn=>xs.set n a)).bind k) LS LB O:=by
 intro F0 H0 σ F h H D hL ok fin;refine he σ F H _ hL.coldF ok.1.2.1 (zaw_ (G:=F) ok _ (.inr rfl) fin λa F' H' b_ x v hv=>?_)
 rw[b_]at fin;have o:=ok.cold x;have bh:=hL.mono x.1;obtain⟨p,vs,e1,hp,hr,_⟩:=zdv_ bh hi o;refine zdY_ e1 ?_;refine dZ σ F' H' _ bh.coldF o.1.2.1 (zaw_ (G:=F') o _ (.inr rfl) fin λj F2 H2 jJ x2 v2 ba=>?_)
 cases ba;rw[jJ]at fin;obtain⟨ys,ey,fin⟩:=zkv_ fin;obtain⟨p',bC,aI,hp',aP,mm⟩:=zdv_ (bh.mono x2.1) hi (o.cold x2);rw[e1]at aI;cases aI;cases ej:ixN xs.length j with
 |none=>rw[ej]at ey;cases ey
 |some n=>
  rw[ej]at ey;cases ey;obtain⟨h',a1,a2⟩:=mm (xs.set n a) (bC.set n v) (aP.set n (T.mono x2.1 hv));refine⟨bC,hp',?_⟩;rw[<- aP.len,ej];exact hk (xs.set n a) F0 H0 σ _ h' _ D a1 a2 fin
def Dy.ix (d:Dy)(i:Int):Option Dy:=match d with |.tup ds=>atI ds i |.lst ds=>atI ds i |_=>none
theorem zkd_ {xs:List α}{vs:List V}{H:Hp}{i:Int}{x:α}(q:Prs T H xs vs)(h:atI xs i=some x):∃v,atI vs i=some v/\T.R x v H:=by
 unfold atI at h ⊢;rw[<- q.len];cases e:ixN xs.length i with
 |none=>rw[e]at h;cases h
 |some n=>
  rw[e]at h;have h:xs[n]?=some x:=h;obtain⟨hn,_⟩:=qi.mp h;have cf:n<vs.length:=by rw[<- q.len];exact hn
  have hv:vs[n]?=some vs[n]:=nj cf;obtain⟨y,e1,e2⟩:=zhs_ q n _ hv;rw[h]at e1;cases e1;exact⟨_,hv,e2⟩
theorem za8_:Op2 K (mIx K) E tyDy tyInt (λd i=>.opt (d.ix i)) tyDy:=by
 rintro d i x y F H Q hs hx rfl k;obtain⟨b,eb,k2⟩:=k.opt;clear k;have hx:DyR d x F:=hx;cases d with
 |tup ds=>
  unfold DyR at hx;obtain⟨p,us,rfl,hp,r⟩:=hx;obtain⟨v,e1,e2⟩:=zkd_ (zhQ_ r) (show atI ds i=some b from eb)
  refine⟨us,.inr (.of (hs _ _ hp)),?_⟩;rw[e1];exact k2.ok hs v e2
 |lst ds=>
  unfold DyR at hx;obtain⟨p,us,rfl,hp,r⟩:=hx;obtain⟨v,e1,e2⟩:=zkd_ (zhQ_ r) (show atI ds i=some b from eb)
  refine⟨us,.inl (.of (hs _ _ hp)),?_⟩;rw[e1];exact k2.ok hs v e2
 |_=>cases eb
def prtB (n:Nat)(a b:Option Int):Bool:=!(decide (HT.sIx n 0 a=0) && decide (HT.sIx n n b=n))
theorem znk_ {r:Mo Dy}(h:EvF K e E L r tyDy)(hl:EvP K tl E L rl)(hh:EvP K th E L rh):EvF K (tSl (rSlT K) e tl th) E L (r.bind λd=>rl.bind λa=>rh.bind λb=>(Mo.opt d.tup?).bind λds=>.grd (prtB ds.length a b=true) (.ok (.tup (cutG ds a b)))) tyDy:=by
 intro σ F H Q hL hs q;refine h σ F H _ hL hs (q.bind.imp λd F1 H1 x1 k1 v hv=>?_)
 refine hl σ F1 H1 _ (hL.mono x1.1) x1.2.1 (k1.bind.imp λa F2 H2 x2 k2=>?_)
 refine hh σ F2 H2 _ (hL.mono (x1.1.trans x2.1)) x2.2.1 (k2.bind.imp λb F3 H3 x3 k3=>?_)
 obtain⟨ds,ed,k4⟩:=k3.bind.opt;obtain⟨z,k5⟩:=After.grd (k4.ok x3.2.1);clear k3 k4;have hv:DyR d v F1:=hv;cases d with
 |tup ds'=>
  cases ed;unfold DyR at hv;obtain⟨p,us,rfl,hp,hr⟩:=hv;have hr:=zhQ_ hr;have x:=x2.1.trans x3.1;refine⟨p,us,rfl,.of (x3.2.1 _ _ (x _ _ hp)),λy=>?_,λq hq=>?_⟩
  ·rw[<- hr.len]at y
   unfold prtB at z;rw[decide_eq_true y.1,decide_eq_true y.2]at z;cases z
  ·have w:=Ext.new (o:=.tup (cutV us a b)) x3.2.1 hq
   refine k5 _ _ w _ ?_;show DyR (.tup (cutG ds a b)) _ _
   unfold DyR;exact⟨q,_,rfl,zq_,ziK_ ((zk9_ (hr.mono x) a b).mono w.1)⟩
 |_=>cases ed
theorem zjV_:Op2 K (rCatT K) E tyDy tyDy (λc d=>(Mo.opt c.tup?).bind λds=>(Mo.opt d.tup?).bind λes=>.grd (ds≠[]/\ds.length+es.length<=1000) (.ok (.tup (ds++es)))) tyDy:=by
 intro c d x y F H Q hs hx hy k;obtain⟨ds,ec,k2⟩:=k.bind.opt;obtain⟨es,ed,k3⟩:=(k2.ok hs).bind.opt;obtain⟨⟨z1,z2⟩,k4⟩:=After.grd (k3.ok hs);clear k k2 k3;have hx:DyR c x F:=hx;have hy:DyR d y F:=hy;cases c with
 |tup ds'=>
  cases ec;cases d with
  |tup es'=>
   cases ed;unfold DyR at hx hy;obtain⟨p,us,rfl,hp,hr⟩:=hx;obtain⟨p2,ws,rfl,hp2,cv⟩:=hy;have hr:=zhQ_ hr;have cv:=zhQ_ cv;refine⟨p,p2,us,ws,rfl,rfl,.of (hs _ _ hp),.of (hs _ _ hp2),λe=>z1 ?_,?_,λe=>?_,λe q hq=>?_⟩
   ·subst e;cases hr;rfl
   ·rw[<- hr.len,<- cv.len];exact zdp_ (by lia)
   ·subst e
    cases cv;refine k4.ok hs _ ?_;show DyR (.tup (ds++[])) _ _
    unfold DyR;rw[qC];exact⟨p,us,rfl,hp,ziK_ hr⟩
   ·have w:=Ext.new (o:=.tup (us++ws)) hs hq
    refine k4 _ _ w _ ?_;show DyR (.tup (ds++es)) _ _
    unfold DyR;exact⟨q,_,rfl,zq_,ziK_ ((hr.append cv).mono w.1)⟩
  |_=>cases ed
 |_=>cases ec
theorem zpO_ {ts:TO}{r:Mo (List Nat)}(h:EvF K e E L r tyStr)(hl:EvP K ts E L (.ok (some (-1)))):EvF K (tRevS e ts) E L (r.bind λl=>.lim l.length (.ok l.reverse)) tyStr:=by
 intro σ F H Q hL hs q;refine h σ F H _ hL hs (q.bind.imp λl F1 H1 x1 k1 v hv=>?_)
 cases hv;refine hl σ F1 H1 _ (hL.mono x1.1) x1.2.1 (λF2 H2 x2=>?_)
 obtain⟨z,k1⟩:=k1.lim;exact⟨rfl,z,k1 F2 H2 x2 _ rfl⟩
def five (xs:List α):Option (α×α×α×α×α):=match xs with |[a,b,c,d,e]=>some (a,b,c,d,e)|_=>none
theorem zqv_ {xs:List α}{c:α×α×α×α×α}(h:five xs=some c):xs=[c.1,c.2.1,c.2.2.1,c.2.2.2.1,c.2.2.2.2]:=by
 unfold five at h;split at h
 ·cases h;rfl
 ·cases h
abbrev ty5 (T:Ty α):Ty (α×α×α×α×α):=⟨λc v H=>(tyL T).R [c.1,c.2.1,c.2.2.1,c.2.2.2.1,c.2.2.2.2] v H,λg q=>(tyL T).mono g q⟩
theorem zqu_ {r:Mo (List α)}(h:EvF K e E L r (tyL T)):EvF K e E L (r.bind λxs=>Mo.opt (five xs)) (ty5 T):=by
 intro σ F H Q hL hs q;refine h σ F H _ hL hs (q.bind.imp λxs F1 H1 x1 k1 v hv=>?_)
 obtain⟨c,ec,k2⟩:=After.opt k1;rw[zqv_ ec]at hv;exact k2.ok x1.2.1 v hv
theorem zr2_ (i j k l m:Nat):TgR K (gLst5 K (gConsM (gName i) (gConsM (gName j) (gConsM (gName k) (gConsM (gName l) (gConsM (gName m) gNilM)))))) (ty5 T) λc=>[(i,.fz T c.1),(j,.fz T c.2.1),(k,.fz T c.2.2.1),(l,.fz T c.2.2.2.1),(m,.fz T c.2.2.2.2)]:=by
 rintro c v σ F H Q hs ⟨p,vs,rfl,hp,pr⟩ q;cases pr with
 |cons h1 t1=>
  cases t1 with
  |cons h2 t2=>
   cases t2 with
   |cons h3 t3=>
    cases t3 with
    |cons h4 t4=>
     cases t4 with
     |cons h5 t5=>
      cases t5;exact⟨_,_,_,_,_,.of (hs _ _ hp),q [(i,some _),(j,some _),(k,some _),(l,some _),(m,some _)] (.cons h1 (.cons h2 (.cons h3 (.cons h4 (.cons h5 .nil)))))⟩
def iT (g:γ->List Dy)(c:γ):Dy:=.tup (g c)
def iC (f:α->Dy)(g:γ->List Dy)(c:α×γ):List Dy:=f c.1::g c.2
def i1 (f:α->Dy)(a:α):List Dy:=[f a]
def iL (f:α->Dy)(xs:List α):Dy:=.lst (xs.map f)
def iO (f:α->Dy):Option α->Dy |none=>.non |some a=>f a
theorem n_T {g:γ->List Dy}(h:IntoC C g):Into (tyTup C) (iT g):=ztc_ h
theorem n_C {f:α->Dy}{g:γ->List Dy}(h:Into T f)(hc:IntoC C g):IntoC (csCons T C) (iC f g):=znu_ h hc
theorem n_1 {f:α->Dy}(h:Into T f):IntoC (csLast T) (i1 f):=zn5_ h
theorem n_L {f:α->Dy}(h:Into T f):Into (tyL T) (iL f):=in_l h
theorem n_O {f:α->Dy}(h:Into T f):Into (tyOpt T) (iO f):=λ{a v H} q=>by
 cases a with
 |none=>show DyR .non v H;unfold DyR;exact q
 |some a=>exact h q.1
def o1 (g:Dy->Option α)(ds:List Dy):Option α:=match ds with |[d]=>g d |_=>none
def oC (g:Dy->Option α)(g':List Dy->Option γ)(ds:List Dy):Option (α×γ):=match ds with |d::ds=>(g d).bind λa=>(g' ds).map λc=>(a,c)|[]=>none
def oT (g:List Dy->Option γ)(d:Dy):Option γ:=d.tup?.bind g
def oL (g:Dy->Option α)(d:Dy):Option (List α):=d.lst?.bind (allO g)
def oO (g:Dy->Option α)(d:Dy):Option (Option α):=if d.isNon then some none else(g d).map some
def oU (g:Dy->Option α)(g':Dy->Option β)(d:Dy):Option (α ⊕ β):=match g d with |some a=>some (.inl a)|none=>(g' d).map .inr
theorem m_1 {g:Dy->Option α}(h:OutOf T g):OutC (csLast T) (o1 g):=λe q=>zmg_ h e q
theorem m_C {g:Dy->Option α}{g':List Dy->Option γ}(h:OutOf T g)(hc:OutC C g'):OutC (csCons T C) (oC g g'):=λe q=>zme_ h hc e q
theorem m_T {g:List Dy->Option γ}(h:OutC C g):OutOf (tyTup C) (oT g):=λe q=>zpQ_ h e q
theorem m_L {g:Dy->Option α}(h:OutOf T g):OutOf (tyL T) (oL g):=λe q=>out_l h e q
theorem m_O {g:Dy->Option α}(h:OutOf T g)(nn:∀a v H,T.R a v H->v≠.non):OutOf (tyOpt T) (oO g):=λe q=>zqX_ h nn e q
theorem m_U {g:Dy->Option α}{g':Dy->Option β}(h1:OutOf T g)(h2:OutOf T' g'):OutOf (tyU T T') (oU g g'):=λe q=>out_u h1 h2 e q
example:∀a:(Int×Int)×List Nat,(iT (iC (iT (iC Dy.int (i1 Dy.int))) (i1 Dy.str)) a).plain=true:=λ_=>rfl
end
section
variable {K:Fgg}{x q:Str}{st:qL}{f:nc}{fd:rm}
theorem zoC_ {ps:List Str}{T:nc}{oc:aL}{od:Option nc}{aw:Array (Option aL)}{arr:Array aL}{n:Nat}(hp:ps.length=10)(F:FunD K T x q st f fd)(lT:K.lookup T=some ⟨oc,od,.seq arr n,aw⟩)
  (h:∀(kV doc pm:aL) (an:Option nc) (ah ct:aL) (u0 u1 u2 u3 u4 u5 u6 u7 u8 u9:aL) (s:kZ),(∃o,s.heap.get? T=some o/\o.data=.seq arr n)->BindsTo s (tX x q (defArgs st) (defBody st) (defScope st) (.ref T) kV doc pm an ah ct) ⟨[u0,u1,u2,u3,u4,u5,u6,u7,u8,u9],[]⟩ (ps.zip [u0,u1,u2,u3,u4,u5,u6,u7,u8,u9])):
  Binds K fd ps []:=by
 obtain⟨oc,od,kV,doc,pm,an,ah,ct,aw,rfl,lk,bB⟩:=F.ex;intro s us hK hl;rw[hp,nA]at hl;have hl:us.length=10:=by simpa using hl
 obtain⟨u0,t1,rfl,h1⟩:=zac_ hl;obtain⟨u1,t2,rfl,h2⟩:=zac_ h1;obtain⟨u2,t3,rfl,h3⟩:=zac_ h2;obtain⟨u3,t4,rfl,h4⟩:=zac_ h3;obtain⟨u4,t5,rfl,h5⟩:=zac_ h4;obtain⟨u5,t6,rfl,h6⟩:=zac_ h5;obtain⟨u6,t7,rfl,h7⟩:=zac_ h6;obtain⟨u7,t8,rfl,h8⟩:=zac_ h7;obtain⟨u8,t9,rfl,h9⟩:=zac_ h8;obtain⟨u9,t10,rfl,h10⟩:=zac_ h9;cases rP.mp h10;exact h kV doc pm an ah ct u0 u1 u2 u3 u4 u5 u6 u7 u8 u9 s ⟨_,hK _ _ lT,rfl⟩
end
abbrev LF:=Fgg->XK->TS
abbrev WC (γ ρ:Type)(t:LF)(L:Fgg->γ->List Sl)(O:Fgg->Own ρ):={b:γ->Mo (Out ρ Unit Unit) // ∀K c E,EvS K (t K E) E (L K c) (b c) (λ_:Unit=>[]) (λ_:Unit=>[]) (O K)}
abbrev WN (γ:Type)(t:LF)(L:Fgg->γ->List Sl)(D:List Sl):={b:γ->Mo (Out Unit Unit Unit) // ∀K c E,EvS K (t K E) E (L K c) (b c) (λ_:Unit=>D) (λ_:Unit=>[]) (owF tyNon)}
abbrev WU (α β γ:Type)(t:LF)(L:Fgg->V->α->γ->List Sl)(D:List Sl)(O:Fgg->Own β):={b:α->γ->Mo (Out (Unit×β) Unit β) // ∀K w x c E,EvS K (t K E) E (L K w x c) (b x c) (λx'=>.ow (owAt w (O K)) x'::D) (λ_:Unit=>[]) (owRM w (O K) (owF tyNon))}
theorem zav_ {α:Type}{T:Ty α}:CsAt (csLast T) 0 T (λa=>a):=zpV_
section
variable {K:Fgg}{E:XK}{ρ S S2 B:Type}{L:List Sl}{O:Own ρ}{t u:TS}{LS:S->List Sl}{LB:B->List Sl}{iR:S2->List Sl}
theorem aN_1 {s0:Sl}{r:Mo (Out ρ B S)}(h:EvS K t E [s0] r LS LB O):EvS K t E [s0] r LS LB O:=h
theorem aN_2 {s0 s1:Sl}{r:Mo (Out ρ B S)}(h:EvS K t E [s0,s1] r LS LB O):EvS K t E [s0,s1] r LS LB O:=h
theorem aN_3 {s0 s1 s2:Sl}{r:Mo (Out ρ B S)}(h:EvS K t E [s0,s1,s2] r LS LB O):EvS K t E [s0,s1,s2] r LS LB O:=h
theorem aN_4 {s0 s1 s2 s3:Sl}{r:Mo (Out ρ B S)}(h:EvS K t E [s0,s1,s2,s3] r LS LB O):EvS K t E [s0,s1,s2,s3] r LS LB O:=h
theorem aN_5 {s0 s1 s2 s3 s4:Sl}{r:Mo (Out ρ B S)}(h:EvS K t E [s0,s1,s2,s3,s4] r LS LB O):EvS K t E [s0,s1,s2,s3,s4] r LS LB O:=h
theorem aN_6 {s0 s1 s2 s3 s4 s5:Sl}{r:Mo (Out ρ B S)}(h:EvS K t E [s0,s1,s2,s3,s4,s5] r LS LB O):EvS K t E [s0,s1,s2,s3,s4,s5] r LS LB O:=h
theorem aN_7 {s0 s1 s2 s3 s4 s5 s6:Sl}{r:Mo (Out ρ B S)}(h:EvS K t E [s0,s1,s2,s3,s4,s5,s6] r LS LB O):EvS K t E [s0,s1,s2,s3,s4,s5,s6] r LS LB O:=h
theorem aN_9 {s0 s1 s2 s3 s4 s5 s6 s7 s8:Sl}{r:Mo (Out ρ B S)}(h:EvS K t E [s0,s1,s2,s3,s4,s5,s6,s7,s8] r LS LB O):EvS K t E [s0,s1,s2,s3,s4,s5,s6,s7,s8] r LS LB O:=h
theorem zld_ {s0 s1 s2 s3 s4 s5 s6 s7 s8 s9:Sl}{r:Mo (Out ρ B S)}(h:EvS K t E [s0,s1,s2,s3,s4,s5,s6,s7,s8,s9] r LS LB O):EvS K t E [s0,s1,s2,s3,s4,s5,s6,s7,s8,s9] r LS LB O:=h
theorem zd2_ {s0 s1 s2 s3 s4 s5 s6 s7 s8 s9 lS lR eL lQ lP lO lN lM:Sl}{r:Mo (Out ρ B S)}(h:EvS K t E [s0,s1,s2,s3,s4,s5,s6,s7,s8,s9,lS,lR,eL,lQ,lP,lO,lN,lM] r LS LB O):EvS K t E [s0,s1,s2,s3,s4,s5,s6,s7,s8,s9,lS,lR,eL,lQ,lP,lO,lN,lM] r LS LB O:=h
theorem zhk_ {r:Mo (Out ρ B Unit)}{k:Unit->Mo (Out ρ B S2)}(h1:EvS K t E L r (λ_:Unit=>L) LB O)(h2:∀s:Unit,EvS K u E L (k s) iR LB O):EvS K (tSeq t u) E L (thenO r k) iR LB O:=zoz_ h1 h2
theorem zcZ_ {r:Mo (Out ρ B S)}{k:S->Mo (Out ρ B S2)}(d:S->List (Nat×Sl))(h1:EvS K t E L r (λs=>setL L (d s)) LB O)(h2:∀s,EvS K u E (setL L (d s)) (k s) iR LB O):EvS K (tSeq t u) E L (thenO r k) iR LB O:=zoz_ h1 h2
theorem opK {X:Cx}{o:aL->aL->Sem aL}{f:Fgg->R2}(h:OpR X o (f X.K))(hK:X.K=K:=by rfl):OpR X o (f K):=hK ▸ h
theorem rd_cv {X:Cx}{b:List qL}{t t':TS}(h:PSs X b t)(e:t=t'):PSs X b t':=e ▸ h
end
def tH2 (K:Fgg)(S1 S2:nc)(ts:TS):TH:=λC d D σ H=>wJ K (.ref C) [.ref S1,.ref S2]=some true/\∀x,H x=none->ts D σ (upd H x (XO x C d))
section
variable {X:Cx}{body orelse aR:List qL}{tb:TX}{te ts:TS}{S1 S2:nc}{n1 n2:Str}{bU:qL}{p1 p2 tp cb pos:Pos}
theorem zi6_ {h base:Heap}{e:nc}{cls a0:aL}{o:wb}(t:h.TracedW base e cls a0):(h.push o).TracedW base e cls a0:=by
 obtain⟨oe,vs,T,oT,ts,he,hc,hd,h1,hb,hT,hg,hdT,h3⟩:=t;exact⟨oe,vs,T,oT,ts,iX _ he,hc,hd,h1,hb,hT,iX _ hg,hdT,h3⟩
theorem zou_ {kk}(aM:X.stack=X.env::X.outer)(cj:X.env.frame=some X.env.locals)(hb:PSsx X body tb)(hl:PSs X orelse te)(oQ:X.mg n1=some (.ref S1))(oN:X.mg n2=some (.ref S2))(jF:∀x,PSs (X.inX x) (bU::aR) ts)
  (gP:Gl X n1:=by rfl) (gO:Gl X n2:=by rfl) (jY:(n1==("__debug__":Str))=false:=by decide) (hd2:(n2==("__debug__":Str))=false:=by decide):
  PS X (.Try body [.ExceptHandler (some (.Tuple [.Name n1 p1,.Name n2 p2] kk tp)) none (bU::aR) cb] orelse [] pos) (tTryHE tb te (tH2 X.K S1 S2 ts)):=by
 intro pins s σ H D I h;refine wpAny_Try_except (qH (hb pins s σ H _ _ I h) (λf s1 q=>?_) λe s1 q=>?_)
 ·cases f with
  |next=>obtain⟨ai,H',I',q⟩:=q;exact hl pins s1 ai H' D I' q
  |ret v=>exact q
  |brk=>exact q
  |cont=>exact q
 ·obtain⟨ai,Hb,sb,Ib,x,T,C,d,H',rfl,os,bare,un,ok,aX,C',hC',q⟩:=q
  cases hC';have I1:Inv X pins ai H' s1:=Ib.call' (ch:=[]) os un ok bare (λb z=>absurd z (by simp))
  obtain⟨oe,vs,a0,oT,ts',he,df,hd,h1,hTe,hT,hdT,h3⟩:=aX.obj;have land:∀h',zlb_ X s1 x T |>.StaysIn h'->h'.FunFrames (zlb_ X s1 x T) X.stack->h'.TracedW (zlb_ X s1 x T) x (.ref C) a0->s1.heap.UpToSlots h'->Dc x d h'->Inv X pins ai (upd H' x (XO x C d)) {s1 with heap:=h'}:=λh' a b c up dd=>landed Ib os bare un ok aX ⟨a,rS _ (p5 _ nu),b,c⟩ up dd
  have tr:s1.heap.TracedW (zlb_ X s1 x T) x (.ref C) a0:=⟨oe,vs,T,oT,ts',he,df,hd,h1,rS _ (p5 _ (qa _ nu)),hTe,hT,hdT,h3⟩;have fG:s1.heap.FunFrames (zlb_ X s1 x T) X.stack:=uF I1.stack zlK_;rw[aM]at fG;refine zkO_ (outer:=X.outer) (I1.ok.frames.trans (congrArg some aM)) fG cj tr (λb o q=>uY _ q) (rS _ (p5 _ nu)) aX.dc λh4 n4 d4=>?_
  refine fl_d n4.1 n4.2.1 n4.2.2.1 d4 λh5 a5 b5 c5 u5 d5=>?_
  have u4:s1.heap.UpToSlots h4:=n4.2.2.2;rw[<- aM]at b5;have I5:=land h5 a5 b5 c5 (u4.trans u5) d5;have pk:∀(o:wb) b u,h5.get? b=some u->(h5.push o).get? b=some u:=λo b u e=>iX _ e
  refine wpAny_handleBy_cons (codeAny_handlers_test (wpAny_Tuple_spliced ?_)) (by intro q;cases q)
  rw[show qg [.Name n1 p1,.Name n2 p2] X.env=[(false,eval (.Name n1 p1) X.env),(false,eval (.Name n2 p2) X.env)]from rfl]
  refine Calls.spliced_cons (zcR_ (X:=X.inX x) (I5.inX x) gP oQ ?_ jY);refine Calls.spliced_cons (zcR_ (X:=X.inX x) (I5.inX x) gO oN ?_ hd2);refine Calls.spliced_nil ⟨(by show 2<=pX;decide),?_⟩
  obtain⟨xa,_⟩:=I5.hok x _ zq_;have m_:XAt x C d (h5.push {cls:=.type "tuple",data:=.seq [qq S1,qq S2].toArray}):=by
   obtain⟨ox,gx,rx,rest⟩:=xa;exact⟨ox,gx,pk _ _ _ rx,rest⟩
  refine(W.exm_tup2 (K:=X.K) (h:=h5.push {cls:=.type "tuple",data:=.seq [qq S1,qq S2].toArray}) (λb o e=>pk _ _ _ (I5.kIn b o e)) (LX.ty_x m_) (p7 _ rfl) q.1).here ?_
  show codeAny _ _ _ _ _
  refine codeAny_handlers_suite (fl_d (λb o e=>pk _ _ _ (a5 b o e)) (b5.of_keeps λb o e _=>⟨o,pk _ _ _ e,rfl⟩) (zi6_ c5).at (by obtain⟨o,e,z⟩:=d5;exact⟨o,pk _ _ _ e,z⟩) λh6 a6 b6 c6 u6 d6=>?_)
  have I6:=land h6 a6 b6 c6 (((u4.trans u5).trans (wY (pk _))).trans u6) d6;exact qH (jF x pins _ _ _ _ (I6.inX x) (q.2 x aX.hx)) (λf s8 q=>q.outX I.ok) λ_ _ z=>z.elim
variable {K:Fgg}{E:XK}{ρ S B:Type}{F0 H0 F h H:Hp}{L:List Sl}{O:Own ρ}{LS:S->List Sl}{LB:B->List Sl}{x:Xc}
def CatT2 (K:Fgg)(c1 c2:String)(t:List String):Prop:=∀c∈t,wJ K (.ref (gA K c)) [.ref (gA K c1),.ref (gA K c2)]=some true
theorem zlL_ {c1 c2:String}:CatT2 K c1 c2 []:=λ_ h=>by cases h
theorem zmB_ {c c1 c2:String}{t:List String}(h:wJ K (.ref (gA K c)) [.ref (gA K c1),.ref (gA K c2)]=some true)(r:CatT2 K c1 c2 t):CatT2 K c1 c2 (c::t):=λx m=>by
 rcases qf.mp m with rfl |m
 ·exact h
 ·exact r x m
theorem eh_T2 {c1 c2:String}{t:List String}{r1:Mo (Out ρ B S)}(hT:CatT2 K c1 c2 t)(h1:EvS K ts E L r1 LS LB O):EvH K (tH2 K (gA K c1) (gA K c2) ts) E L x (Mo.grd (x.c∈t) r1) LS LB O:=by
 intro F0 H0 σ F h H d D hL ok hx fin;unfold Mo.grd at fin;split at fin
 case isTrue e=>
  refine⟨hT _ e,λp hp=>?_⟩
  have y:=Ext.new (o:=XO p (gA K x.c) d) ok.1.2.1 hp;exact h1 F0 H0 _ (upd F p (XO p (gA K x.c) d)) h _ D (hL.mono y.1) (ok.cold y) fin
 case isFalse=>exact fin.elim
end
end L2
namespace K41
open PySem PySem.Spec PyProof.Rows L2
open Mo renaming bind→Mb,ok→Mq
open Sl renaming fz→Zf,dead→Zd,ow→Zo
abbrev Jx:=List Nat
abbrev Jy:=List Jx
theorem S4 {a b c d:Sl}{L L':List Sl}(h:Sub L L'):Sub (a::b::c::d::L) (a::b::c::d::L'):=.same (.same (.same (.same h)))
abbrev Qm0:List Nat:=[97,98,99,100,101,102,103,104,105,106,107,108,109,110,111,112,113,114,115,116,117,118,119,120,121,122]
abbrev Qm1:List Nat:=[97,32,119,105,114,101,32,108,101,97,100,115,32,102,114,111,109,32,97,32,99,111,108,117,109,110,32,102,114,111,109,32,49,32,116,111,32,52,48,32,116,111,32,111,110,101,32,102,114,111,109,32,49,32,116,111,32,51,54]
abbrev Qm2:List Nat:=[97,32,119,111,114,107,32,112,117,110,99,104,101,115,32,105,110,116,111,32,97,32,102,105,101,108,100,32,116,104,97,116,32,105,116,32,109,117,115,116,32,98,101,32,97,112,97,114,116,32,102,114,111,109]
abbrev Qm3:List Nat:=[97,32,119,111,114,107,32,104,97,115,32,111,110,101,32,111,102,32,116,104,114,101,101,32,119,111,114,100,115]
abbrev Qm4:List Nat:=[116,104,101,32,119,105,114,101,115,32]
abbrev Qm5:List Nat:=[97,98,99,100,101,102,103,104]
abbrev Qi0:=(show Imm _ from(zgK_ (zaL_ zE_ (zdl_ zE_))))
abbrev Qi1:=(show Imm _ from(imm_u (zgK_ (zaL_ zW_ (zdl_ Qi0))) (zgK_ (zaL_ zW_ (zaL_ zW_ (zaL_ Qi0 (zdl_ Qi0)))))))
abbrev Qi2:=(show Into _ _ from(n_T (n_C zjh_ (n_1 zjh_))))
abbrev Qi3:=(show OutOf _ _ from(m_T (m_C zih_ (m_1 zih_))))
abbrev Qi4:=(show Imm _ from(zgK_ (zaL_ Qi0 (zaL_ Qi0 (zaL_ zW_ (zdl_ Qi0))))))
abbrev Qi5:=(show Into _ _ from(in_u (n_T (n_C zcU_ (n_1 Qi2))) (n_T (n_C zcU_ (n_C zcU_ (n_C Qi2 (n_1 Qi2)))))))
abbrev Qi6:=(show ImmO _ from(zH_ (zgK_ (zaL_ Qi0 (zdl_ zW_)))))
abbrev Qi7:=(show Into _ _ from(n_T (n_C Qi2 (n_C Qi2 (n_C zcU_ (n_1 Qi2))))))
abbrev Qn0:List Str:=["deck", "picks", "middle", "order", "works", "breaks", "sums", "figures", "board"]
abbrev Qn1:List Str:=["asking"]
noncomputable abbrev Qq0 (K:Fgg):=(tyI (gA K "Asking") Qn0 (csCons tyStr (csCons (tyL (tyTup (csCons (tyTup (csCons tyInt (csLast tyInt))) (csLast tyStr)))) (csCons (tyOpt (tyU (tyTup (csCons tyStr (csLast (tyTup (csCons tyInt (csLast tyInt)))))) (tyTup (csCons tyStr (csCons tyStr (csCons (tyTup (csCons tyInt (csLast tyInt))) (csLast (tyTup (csCons tyInt (csLast tyInt)))))))))) (csCons (tyL (tyTup (csCons tyInt (csLast tyInt)))) (csCons (tyL (tyTup (csCons (tyTup (csCons tyInt (csLast tyInt))) (csCons (tyTup (csCons tyInt (csLast tyInt))) (csCons tyStr (csLast (tyTup (csCons tyInt (csLast tyInt))))))))) (csCons tyInt (csCons (tyL (tyTup (csCons tyInt (csLast tyInt)))) (csCons tyInt (csCons (tyL (tyTup (csCons tyInt (csLast tyInt)))) csNil))))))))))
abbrev Qq1:=(tyTup (csCons tyInt (csLast tyInt)))
abbrev Qq2:=(Jx×((List ((Int×Int)×Jx))×((Option ((Jx×(Int×Int)) ⊕ (Jx×(Jx×((Int×Int)×(Int×Int))))))×((List (Int×Int))×((List ((Int×Int)×((Int×Int)×(Jx×(Int×Int)))))×(Int×((List (Int×Int))×(Int×((List (Int×Int))×Unit)))))))))
abbrev Qq3:=(tyU (tyTup (csCons tyStr (csLast Qq1))) (tyTup (csCons tyStr (csCons tyStr (csCons Qq1 (csLast Qq1))))))
abbrev Qq4:=(tyTup (csCons Qq1 (csCons Qq1 (csCons tyStr (csLast Qq1)))))
abbrev Qq5 (K:Fgg):=(owI (gA K "Asking") Qn0 (psO (owF tyStr) (psO (owL (tyTup (csCons Qq1 (csLast tyStr)))) (psO (owF (tyOpt Qq3)) (psO (owL Qq1) (psO (owL Qq4) (psO (owF tyInt) (psO (owL Qq1) (psO (owF tyInt) (psO (owL Qq1) psNil))))))))))
abbrev Qq6:=(List ((Int×Int)×((Int×Int)×(Jx×(Int×Int)))))
abbrev Qq7:=(tyTup (csCons Qq1 (csLast tyStr)))
abbrev Qq8:=(Option ((Jx×(Int×Int)) ⊕ (Jx×(Jx×((Int×Int)×(Int×Int))))))
abbrev iFF:=iT (iC Dy.int (i1 Dy.int))
abbrev oFF:=oT (oC Dy.int? (o1 Dy.int?))
def top (i:Nat):qL:=PySem.Challenge.pw_cardshop_k41_askings_refused.main.body.getD i (.Pass ⟨0,0,0,0⟩)
abbrev zdT_:qL:=top 59
abbrev zkf_:qL:=top 60
abbrev zgZ_:qL:=top 62
abbrev zfE_:qL:=top 61
abbrev zev_:qL:=top 63
abbrev zgs_:qL:=top 64
abbrev zjf_:qL:=top 65
abbrev zep_:qL:=top 66
abbrev ziW_:qL:=top 67
abbrev zcY_:qL:=top 70
abbrev zdd_:qL:=top 69
abbrev zb7_:qL:=top 73
abbrev zgl_:qL:=top 74
abbrev zcQ_:qL:=top 72
abbrev zdo_:qL:=top 71
abbrev zdX_:qL:=top 75
abbrev zcP_:qL:=top 40
abbrev zcT_:qL:=top 40
abbrev ziB_:qL:=top 47
abbrev zcK_:qL:=top 49
abbrev zg8_:qL:=top 41
abbrev za9_:qL:=top 50
abbrev zgC_:qL:=top 42
abbrev zmo_:qL:=top 45
abbrev zdU_:qL:=top 51
abbrev zfg_:qL:=top 43
abbrev zhK_:qL:=top 52
abbrev ziY_:qL:=top 15
abbrev zde_:qL:=top 27
abbrev zgL_:qL:=top 23
abbrev zes_:qL:=top 24
abbrev zgo_:qL:=top 44
abbrev zdV_:qL:=top 53
abbrev zaJ_:qL:=top 54
abbrev zfm_:qL:=inClass (top 6) 0
abbrev zg7_:qL:=top 17
abbrev zfz_:qL:=top 19
abbrev zhS_:qL:=top 20
abbrev zjJ_:qL:=top 46
abbrev zcw_:qL:=top 55
abbrev zgG_:qL:=top 57
abbrev zfq_:qL:=top 25
abbrev zd0_:qL:=top 56
abbrev zg0_:qL:=top 22
abbrev zdg_:qL:=top 48
abbrev zd9_:qL:=inClass (top 39) 0
abbrev zj8_:qL:=top 68
abbrev zi8_:qL:=top 76
abbrev zgq_:qL:=top 77
abbrev zr7_:qL:=top 78
structure Ek (K:Fgg):Prop where
 w0:Fc K "Asking"
 a0:Fa K "Asking" "picks"
 a1:Fa K "Asking" "order"
 a2:Fa K "Asking" "works"
 a3:Fa K "Asking" "sums"
 a4:Fa K "Asking" "middle"
 a5:Fa K "Asking" "deck"
 a6:Fa K "Asking" "breaks"
 a7:Fa K "Asking" "figures"
 a8:Fa K "Asking" "board"
 f0:Fg K "_law_cell_at" zdT_
 f1:Fg K "_law_name" zkf_
 f2:Fg K "_law_span" zgZ_
 f3:Fg K "_law_other" zfE_
 f4:Fg K "_law_middle" zev_
 f5:Fg K "_law_work" zgs_
 f6:Fg K "_law_drawn" zjf_
 f7:Fg K "_law_turned" zep_
 f8:Fg K "_law_parts" ziW_
 f9:Fg K "_law_bad_field" zcY_
 f10:Fg K "_law_bad_name" zdd_
 f11:Fg K "_law_bad_middle" zb7_
 f12:Fg K "_law_bad_work" zgl_
 f13:Fg K "_law_bad_board" zcQ_
 f14:Fg K "_law_bad_pick" zdo_
 f15:Fg K "_law_spoiled" zdX_
 f16:Fg K "own_list" zcP_
 f17:Fg K "own_list" zcT_
 f18:Fg K "ask_for" ziB_
 f19:Fg K "check_lengths" zcK_
 f20:Fg K "mates_by" zg8_
 f21:Fg K "check_middle_word" za9_
 f22:Fg K "names_of" zgC_
 f23:Fg K "is_name" zmo_
 f24:Fg K "check_names" zdU_
 f25:Fg K "middle_fields" zfg_
 f26:Fg K "fields_due" zhK_
 f27:Fg K "are_signs" ziY_
 f28:Fg K "picked_signs" zde_
 f29:Fg K "width_of" zgL_
 f30:Fg K "columns_of" zes_
 f31:Fg K "pick_passes" zgo_
 f32:Fg K "check_picks" zdV_
 f33:Fg K "check_middle_widths" zaJ_
 f34:Fm K "Meet" "__init__" "Meet.__init__" zfm_
 f35:Fg K "is_whole" zg7_
 f36:Fg K "is_column" zfz_
 f37:Fg K "make_board" zhS_
 f38:Fg K "is_board" zjJ_
 f39:Fg K "check_counting" zcw_
 f40:Fg K "fields_kept" zgG_
 f41:Fg K "are_apart" zfq_
 f42:Fg K "check_works" zd0_
 f43:Fg K "is_field" zg0_
 f44:Fg K "check_asking" zdg_
 f45:FmD K "Asking" "__init__" "Asking.__init__" zd9_ [.non,(.int 0),.non,(.int 6),.non]
 f46:Fg K "_law_made" zj8_
 f47:Fg K "_law_kinds" zi8_
 f48:Fg K "_law_refused" zgq_
 f49:Fg K "law" zr7_
 t0:FtT K "MATING_WORDS" [[109,97,116,101,115],[119,105,116,104,111,117,116]]
 t1:FtT K "WORK_WORDS" [[112,108,117,115],[108,101,115,115],[116,105,109,101,115]]
 c0:Fv K "MOST_PICKS" (.int 8)
 c1:Fv K "MOST_KEYS" (.int 6)
 c2:Fv K "MOST_WORKS" (.int 4)
 c3:Fv K "MOST_SUMS" (.int 4)
 c4:Fv K "LONGEST_NAME" (.int 8)
 c5:Fv K "SMALL_LETTERS" (tx Qm0)
 c6:Fv K "SIGNS" (tx SG)
 c7:Fv K "CARD_WIDTH" (.int 40)
 c8:Fv K "BODY_WIDTH" (.int 36)
 c9:Fv K "MOST_BREAKS" (.int 3)
 c10:Fv K "MOST_FIGURES" (.int 12)
 b0:Fb K "len"
 b1:Fb K "range"
 b2:Fb K "min"
 b3:Fb K "int"
 b4:Fb K "sorted"
 b5:Fb K "list"
 b6:Fb K "all"
 b7:Fb K "zip"
 b8:Fb K "isinstance"
 b9:Fb K "bool"
 b10:Fb K "enumerate"
 b11:Fb K "ValueError"
 k0:Fk K "NoAsking"
 k1:Fk K "MATING_WORDS"
 k2:Fk K "ShopError"
 k3:Fk K "NoBoard"
 k4:Fk K "Meet"
 k5:Fk K "WORK_WORDS"
 k6:Fk K "NoOrder"
 k7:Fk K "NoField"
 k8:Fk K "NoCard"
 k9:Fk K "NoRow"
 k10:Fk K "NoPlan"
 k11:Fk K "NoTray"
 u0:Fe1 K "NoAsking" λv0=>excK K v0=true
 u1:Fe1 K "NoAsking" λv0=>catK K v0 v0=true
 u2:Fe2 K "NoAsking" "NoBoard" λv0 v1=>isaK K v0 (.ref v1)=some false
 u3:Fe2 K "NoAsking" "NoOrder" λv0 v1=>isaK K v0 (.ref v1)=some false
 u4:Fe2 K "NoAsking" "NoField" λv0 v1=>isaK K v0 (.ref v1)=some false
 u5:Fe2 K "NoAsking" "NoCard" λv0 v1=>isaK K v0 (.ref v1)=some false
 u6:Fe2 K "NoAsking" "NoRow" λv0 v1=>isaK K v0 (.ref v1)=some false
 u7:Fe2 K "NoAsking" "NoPlan" λv0 v1=>isaK K v0 (.ref v1)=some false
 u8:Fe2 K "NoAsking" "NoTray" λv0 v1=>isaK K v0 (.ref v1)=some false
 u9:Fe2 K "NoAsking" "Meet" λv0 v1=>isaK K v0 (.ref v1)=some false
 u10:Fe2 K "NoAsking" "ShopError" λv0 v1=>isaK K v0 (.ref v1)=some true
 u11:Fe1 K "NoAsking" λv0=>isaK K v0 (.type "ValueError")=some true
 u12:Fe1 K "NoBoard" λv0=>excK K v0=true
 u13:Fe2 K "NoBoard" "NoAsking" λv0 v1=>catN K v0 v1=true
 u14:Fe1 K "NoBoard" λv0=>isaK K v0 (.ref v0)=some true
 u15:Fe2 K "NoBoard" "NoOrder" λv0 v1=>isaK K v0 (.ref v1)=some false
 u16:Fe2 K "NoBoard" "NoField" λv0 v1=>isaK K v0 (.ref v1)=some false
 u17:Fe2 K "NoBoard" "NoCard" λv0 v1=>isaK K v0 (.ref v1)=some false
 u18:Fe2 K "NoBoard" "NoRow" λv0 v1=>isaK K v0 (.ref v1)=some false
 u19:Fe2 K "NoBoard" "NoPlan" λv0 v1=>isaK K v0 (.ref v1)=some false
 u20:Fe2 K "NoBoard" "NoTray" λv0 v1=>isaK K v0 (.ref v1)=some false
 u21:Fe2 K "NoBoard" "Meet" λv0 v1=>isaK K v0 (.ref v1)=some false
 u22:Fe2 K "NoBoard" "ShopError" λv0 v1=>isaK K v0 (.ref v1)=some true
 u23:Fe1 K "NoBoard" λv0=>isaK K v0 (.type "ValueError")=some true
 u24:Fe2 K "NoBoard" "Meet" λv0 v1=>wJ K (.ref v0) [.ref v0,.ref v1]=some true
 u25:Fe1 K "Meet" λv0=>excJ K v0=true
 u26:Fe1 K "Meet" λv0=>exA K v0 "one"=true
 u27:Fe1 K "Meet" λv0=>exA K v0 "other"=true
 u28:Fe2 K "Meet" "NoAsking" λv0 v1=>catN K v0 v1=true
 u29:Fe2 K "Meet" "NoBoard" λv0 v1=>isaK K v0 (.ref v1)=some false
 u30:Fe2 K "Meet" "NoOrder" λv0 v1=>isaK K v0 (.ref v1)=some false
 u31:Fe2 K "Meet" "NoField" λv0 v1=>isaK K v0 (.ref v1)=some false
 u32:Fe2 K "Meet" "NoCard" λv0 v1=>isaK K v0 (.ref v1)=some false
 u33:Fe2 K "Meet" "NoRow" λv0 v1=>isaK K v0 (.ref v1)=some false
 u34:Fe2 K "Meet" "NoPlan" λv0 v1=>isaK K v0 (.ref v1)=some false
 u35:Fe2 K "Meet" "NoTray" λv0 v1=>isaK K v0 (.ref v1)=some false
 u36:Fe1 K "Meet" λv0=>isaK K v0 (.ref v0)=some true
 u37:Fe2 K "Meet" "ShopError" λv0 v1=>isaK K v0 (.ref v1)=some true
 u38:Fe1 K "Meet" λv0=>isaK K v0 (.type "ValueError")=some true
 u39:Fe2 K "Meet" "NoBoard" λv0 v1=>wJ K (.ref v0) [.ref v1,.ref v0]=some true
 u40:Fe1 K "ShopError" λv0=>binK K v0=true
structure En (K:Fgg)(mg:Str->Option aL):Prop extends Ek K where
 m:Mgo K mg
section
end
set_option hygiene false
local macro_rules | `(tactic|exists $t) => `(tactic|with_reducible show $t)
local macro_rules | `(tactic|fail "B") => `(tactic|first |exact e.m.gb e.b0 |exact e.m.gb e.b1 |exact e.m.gb e.b2 |exact e.m.gb e.b3 |exact e.m.gb e.b4 |exact e.m.gb e.b5 |exact e.m.gb e.b6 |exact e.m.gb e.b7 |exact e.m.gb e.b8 |exact e.m.gb e.b9 |exact e.m.gb e.b10 |exact e.m.gb e.b11)
local macro_rules | `(tactic|fail "W") => `(tactic|exact e.w0.cls)
local macro_rules | `(tactic|fail "A") => `(tactic|first |exact e.a0.no |exact e.a1.no |exact e.a2.no |exact e.a3.no |exact e.a4.no |exact e.a5.no |exact e.a6.no |exact e.a7.no |exact e.a8.no)
local macro_rules | `(tactic|fail "po") => `(tactic|first |exact PassesOwn.never |exact PassesOwn.leaving)
local macro_rules | `(tactic|fail "e") => `(tactic|first |(exists PE _ (.Name _ _) _;fail "v")|(exists PE _ (.Constant (.int _) _ _) _;exact z2_)|(exists PE _ (.Constant .none _ _) _;exact zsv_)|(exists PE _ (.Constant (.bool _) _ _) _;exact zqg_)|(exists PE _ (.Constant _ _ _) _;exact zqQ_)|(exists PE _ (.BinOp _ _ _ _) _;refine' zib_ ?_ ?_ ?_)|(exists PE _ (.Compare _ [_] _ _) _;refine' zmU_ ?_ ?_ ?_)|(exists PE _ (.Compare _ [_, _] _ _) _;refine' zlx_ ?_ ?_ ?_ ?_ ?_)|(exists PE _ (.Compare _ _ _ _) _;refine' zkG_ ?_ ?_ ?_ ?_ ?_ ?_ ?_)|(exists PE _ (.Subscript _ (.Slice none none (some _) _) _) _;refine' zmY_ ?_ ?_)|(exists PE _ (.Subscript _ (.Slice _ _ _ _) _) _;refine' zhL_ (r := mSl K) sl_M ?_ ?_ ?_)|(exists PE _ (.Subscript _ _ _) _;refine' zgp_ (r := mIx K) ix_M ?_ ?_ λ_ _ => rfl)|(exists PE _ (.Attribute _ _ _) _;refine' zqO_ (by fail "W") (by fail "A") ?_)|(exists PE _ (.Tuple _ _ _) _;refine' zdI_ ?_)|(exists PE _ (.List _ _) _;refine' zjQ_ ?_)|(exists PE _ (.Call (.Name "len" _) _ _ _) _;refine' zna_ (r := mLen K) zfK_ (by fail "B") ?_)|(exists PE _ (.Call (.Name "isinstance" _) _ _ _) _;refine' zna_ (r := mIsa K) znN_ (by fail "B") ?_)|(exists PE _ (.Call (.Name "min" _) _ _ _) _;refine' zna_ (zl6_ rfl) (by fail "B") ?_)|(exists PE _ (.Call (.Name "sorted" _) _ _ _) _;refine' zna_ (r := mSortD 64 K) (zhI_ runB64 rfl) (by fail "B") ?_)|(exists PE _ (.Call (.Name "all" _) _ _ _) _;refine' zna_ (r := mAll K) (zmm_ rfl) (by fail "B") ?_)|(exists PE _ (.Call (.Name "list" _) _ _ _) _;refine' zsH_ _ (r := mList K) (zkr_ rfl) (by fail "B") ?_)|(exists PE _ (.Call (.Name "range" _) _ _ _) _;refine' zsH_ _ ziL_ (by fail "B") ?_)|(exists PE _ (.Call (.Name "int" _) _ _ _) _;refine' zsH_ _ zli_ (by fail "B") ?_)|(exists PE _ (.Call (.Attribute _ "find" _) _ _ _) _;refine' pe_sm ziX_ zjg_ zrW_ ?_ ?_)|(exists PE _ (.Call (.Attribute _ "join" _) _ _ _) _;refine' pe_sm ziU_ ziP_ zqD_ ?_ ?_)|(exists PE _ (.Call (.Attribute _ "append" _) (_ :: _) _ _) _;refine' ztx_ zmP_ zf7_ zgh_ zix_ ?_ ?_)|(exists PE _ (.Call (.Attribute _ "extend" _) (_ :: _) _ _) _;refine' ztx_ zmP_ zgc_ zgf_ zlF_ ?_ ?_)|(exists PE _ (.Call (.Attribute _ "setdefault" _) _ _ _) _;refine' zoD_ hr.u60 ?_ ?_ ?_)|(exists PE _ (.BoolOp _ [_] _) _;refine' zty_ ?_)|(exists PE _ (.BoolOp .And _ _) _;refine' zp9_ ?_ ?_)|(exists PE _ (.BoolOp _ _ _) _;refine' zsX_ ?_ ?_)|(exists PE _ (.UnaryOp .Not _ _) _;refine' zrN_ ?_)|(exists PE _ (.UnaryOp .USub _ _) _;refine' zrl_ ?_)|(exists PE _ (.IfExp _ _ _ _) _;refine' zs6_ ?_ ?_ ?_)|(exists PE _ (.Dict [] _ _) _;exact zo2_)|(exists PE _ (.Call _ _ _ _) _;fail "c"))
local macro_rules | `(tactic|fail "c") => `(tactic|first |refine' zku_ (by assumption) (hm hr) ?_ |refine' zor_ (by assumption) (hm hr) ziv_ ?_ |refine' zpc_ (by assumption) (hm hr) ziv_ ?_)
local macro_rules | `(tactic|fail "a") => `(tactic|first |(exists PA _ [] _;exact zaG_)|refine' zm_ ?_ ?_)
local macro_rules | `(tactic|fail "p") => `(tactic|first |(exists PO _ none _;exact zm4_)|refine' po_M ?_)
local macro_rules | `(tactic|fail "o") => `(tactic|first |(exists OpR _ (binaryOp .Add) _;exact zhe_)|(exists OpR _ (binaryOp .Sub) _;exact zqn_)|(exists OpR _ (binaryOp .Mod) _;exact zfy_)|(exists OpR _ (binaryOp .FloorDiv) _;exact zij_)|(exists OpR _ (binaryOp .Mult) _;exact zmA_)|(exists OpR _ (binaryOp .Pow) _;exact zpR_)|(exists OpR _ (compareOp .Lt) _;exact zsc_)|(exists OpR _ (compareOp .LtE) _;exact ztm_)|(exists OpR _ (compareOp .Gt) _;exact zqW_)|(exists OpR _ (compareOp .GtE) _;exact ztj_)|(exists OpR _ (compareOp .Is) _;exact zp5_)|(exists OpR _ (compareOp .IsNot) _;exact zmr_)|(exists OpR _ (compareOp .In) _;exact opK (f := λK => mIn K _) zto_)|(exists OpR _ (compareOp .NotIn) _;exact opK (f := λK => mIn K _) zlW_)|(exists OpR _ (compareOp .Eq) _;exact opK (f := mEqK) (znM_ hr.u60))|(exists OpR _ (compareOp .NotEq) _;exact opK (f := mNeK) (ztz_ hr.u60)))
local macro_rules | `(tactic|fail "s") => `(tactic|first |((with_reducible show PS _ (.Raise (some (.Call (.Name "NoBoard" _) _ _ _)) _ _) _);refine' zkL_ zhO_ rfl e.u12.g (e.m.gk e.k3) ?_)|((with_reducible show PS _ (.Raise (some (.Call (.Name "NoAsking" _) _ _ _)) _ _) _);refine' zkL_ zhO_ rfl e.u0.g (e.m.gk e.k0) ?_)|(exists PS _ (.Return (some _) _) _;refine' zjp_ ?_)|(exists PS _ (.Return _ _) _;exact zqd_)|(exists PS _ (.If _ _ _ _) _;refine' zmp_ ?_ ?_ ?_)|(exists PS _ (.Expr _ _) _;refine' zrh_ ?_)|(exists PS _ (.For _ _ _ _ _) _;refine' zsb_ (by fail "po") rfl ?_ ?_ ?_)|(exists PS _ (.Assign [.Name _ _] _ _) _;refine' zrf_ ?_ ?_)|(exists PS _ (.Assign [.Attribute _ _ _] _ _) _;refine' zqo_ (by fail "W") (by fail "A") ?_ ?_)|(exists PS _ (.Assign [_] _ _) _;refine' zrf_ ?_ ?_)|(exists PS _ (.Raise _ _ _) _;refine' zlw_ zhO_ rfl (by assumption) (hm hr) ?_)|(exists PS _ (.Continue _) _;exact ziQ_))
local macro_rules | `(tactic|fail "b") => `(tactic|first |(exists PSs _ [] _;exact zgN_)|(exists PSs _ [_] _;refine' zb0_ ?_)|refine' z3_ ?_ ?_)
local macro_rules | `(tactic|fail "t") => `(tactic|first |(exists PT _ (.Compare _ [_] _ _) _;refine' zjH_ ?_ ?_ ?_)|(exists PT _ (.BoolOp _ _ _) _;refine' PW.pt ?_)|(exists PT _ (.UnaryOp .Not _ _) _;refine' zpB_ ?_)|(exists PT _ (.Name _ _) _;refine' zpb_ ?_)|refine' zpC_ ?_)
local macro_rules | `(tactic|fail "w") => `(tactic|first |(exists PW _ (.BoolOp .And [_] _) _;refine' zmN_ ?_)|(exists PW _ (.BoolOp .Or [_] _) _;refine' zsZ_ ?_)|(exists PW _ (.BoolOp .And _ _) _;refine' znc_ ?_ ?_)|refine' zs7_ ?_ ?_)
local macro_rules | `(tactic|fail "g") => `(tactic|first |(exists PG _ (.Name _ _) _;fail "gn")|(exists PG _ (.Subscript _ _ _) _;refine' zsT_ ?_ ?_ set_M)|(exists PG _ (.Tuple [_, _] _ _) _;refine' zk5_ (n := 2) rfl ?_)|(exists PG _ (.Tuple [_, _, _] _ _) _;refine' zk5_ (n := 3) rfl ?_)|(exists PG _ (.Tuple [_, _, _, _] _ _) _;refine' zk5_ (n := 4) rfl ?_))
local macro_rules | `(tactic|fail "h") => `(tactic|first |(exists PGs _ [] _;exact znA_)|refine' zlu_ ?_ ?_)
local macro_rules | `(tactic|fail "i") => `(tactic|first |(exists PI _ _ (.Call (.Name "range" _) [_] _ _) _;refine' zkS_ (by fail "B") ?_)|(exists PI _ _ (.Call (.Name "range" _) [_, _] _ _) _;refine' zpx_ (by fail "B") ?_)|(exists PI _ _ (.Call (.Name "enumerate" _) _ _ _) _;refine' zpm_ (by rfl) (by fail "B") ?_)|(exists PI _ _ (.Call (.Name "zip" _) _ _ _) _;refine' zqB_ (by fail "B") ?_)|refine' zsm_ ?_)
local macro_rules | `(tactic|fail "f") => `(tactic|(exists PIf _ [] _;exact zmO_))
local macro_rules | `(tactic|fail "v") => `(tactic|first |(exists PE _ (.Name "MOST_PICKS" _) _;exact ze6_ (e.m.gv e.c0))|(exists PE _ (.Name "MOST_KEYS" _) _;exact ze6_ (e.m.gv e.c1))|(exists PE _ (.Name "MOST_WORKS" _) _;exact ze6_ (e.m.gv e.c2))|(exists PE _ (.Name "MOST_SUMS" _) _;exact ze6_ (e.m.gv e.c3))|(exists PE _ (.Name "LONGEST_NAME" _) _;exact ze6_ (e.m.gv e.c4))|(exists PE _ (.Name "SMALL_LETTERS" _) _;exact ze6_ (e.m.gv e.c5))|(exists PE _ (.Name "SIGNS" _) _;exact ze6_ (e.m.gv e.c6))|(exists PE _ (.Name "CARD_WIDTH" _) _;exact ze6_ (e.m.gv e.c7))|(exists PE _ (.Name "BODY_WIDTH" _) _;exact ze6_ (e.m.gv e.c8))|(exists PE _ (.Name "MOST_BREAKS" _) _;exact ze6_ (e.m.gv e.c9))|(exists PE _ (.Name "MOST_FIGURES" _) _;exact ze6_ (e.m.gv e.c10))|(exists PE _ (.Name "MATING_WORDS" _) _;exact ze6_ (e.m.gkc e.k1))|(exists PE _ (.Name "ShopError" _) _;exact ze6_ (e.m.gkc e.k2))|(exists PE _ (.Name "NoBoard" _) _;exact ze6_ (e.m.gkc e.k3))|(exists PE _ (.Name "Meet" _) _;exact ze6_ (e.m.gkc e.k4))|(exists PE _ (.Name "WORK_WORDS" _) _;exact ze6_ (e.m.gkc e.k5))|(exists PE _ (.Name "NoOrder" _) _;exact ze6_ (e.m.gkc e.k6))|(exists PE _ (.Name "NoField" _) _;exact ze6_ (e.m.gkc e.k7))|(exists PE _ (.Name "NoCard" _) _;exact ze6_ (e.m.gkc e.k8))|(exists PE _ (.Name "NoRow" _) _;exact ze6_ (e.m.gkc e.k9))|(exists PE _ (.Name "NoPlan" _) _;exact ze6_ (e.m.gkc e.k10))|(exists PE _ (.Name "NoTray" _) _;exact ze6_ (e.m.gkc e.k11))|(exists PE _ (.Name "ValueError" _) _;exact zr5_ _ (by fail "B"))|(exists PE _ (.Name "bool" _) _;exact zr5_ _ (by fail "B"))|(exists PE _ (.Name "int" _) _;exact zr5_ _ (by fail "B"))|(exists PE _ (.Name "list" _) _;exact zr5_ _ (by fail "B"))|exact zl_ 0 |exact zl_ 1 |exact zl_ 2 |exact zl_ 3 |exact zl_ 4 |exact zl_ 5 |exact zl_ 6 |exact zl_ 7 |exact zl_ 8 |exact zl_ 9 |exact zl_ 10 |exact zl_ 11 |exact zl_ 12 |exact zl_ 13 |exact zl_ 14 |exact zl_ 15 |exact zl_ 16 |exact zl_ 17)
local macro_rules | `(tactic|fail "gn") => `(tactic|first |exact pgc 0 |exact pgc 1 |exact pgc 2 |exact pgn 0 |exact pgn 1 |exact pgn 2 |exact pgn 3 |exact pgn 4 |exact pgn 5 |exact pgn 6 |exact pgn 7 |exact pgn 8 |exact pgn 9 |exact pgn 10 |exact pgn 11 |exact pgn 12 |exact pgn 13 |exact pgn 14 |exact pgn 15 |exact pgn 16 |exact pgn 17)
local macro_rules | `(tactic|fail "fr") => `(tactic|first |exact fr0 |refine' frc (by fail "fr"))
local macro_rules | `(tactic|fail "Ke") => `(tactic|first |(exists PE _ (.ListComp _ _ _ _) _;refine' zmw_ rfl (csm rfl (by fail "fr")) ?_ (λ_ _ _ _ => ?_) (λ_ _ _ _ => ?_) λ_ _ _ _ => ?_)|(exists PE _ _ (tRevS _ _);refine' zmY_ ?_ ?_)|(exists PE _ _ (mDGet _ _);refine' zoG_ hr.u60 ?_ ?_)|(exists PE _ _ (tCB (mIsaX _) _);refine' zna_ zll_ (by fail "B") ?_)|(exists PE _ _ (tSl (rSlT _) _ _ _);refine' zhL_ zs1_ ?_ ?_ ?_)|fail "e")
local macro_rules | `(tactic|fail "Ks") => `(tactic|first |(exists PS _ (.Assign [.Name _ _] (.ListComp _ _ _ _) _) _;refine' zjC_ rfl (csm rfl (by fail "fr")) ?_ (λ_ _ _ _ => ?_) (λ_ _ _ _ => ?_) (λ_ _ _ _ => ?_) ?_)|(exists PS _ _ (mDPut _ _ _);refine' znD_ hr.u60 ?_ ?_ ?_)|fail "s")
local macro_rules | `(tactic|fail "Ko") => `(tactic|first |(exists OpR _ _ (rCatT _);exact zrs_)|(exists OpR _ (compareOp .Is) mIs;exact zp5_)|fail "o")
local macro_rules | `(tactic|fail "Kt") => `(tactic|first |(exists PT _ _ (mTest (mDIn false _ _));refine' zp6_ hr.u60 ?_ ?_)|fail "t")
local macro_rules | `(tactic|fail "Kg") => `(tactic|first |(exists PG _ _ (gLst5 _ _);refine' zq5_ rfl ?_)|fail "g")
local macro_rules | `(tactic|fail "1") => `(tactic|first |(exists PE _ _ _;fail "e")|(exists PA _ _ _;fail "a")|(exists PO _ _ _;fail "p")|(exists OpR _ _ _;fail "o")|(exists PS _ _ _;fail "s")|(exists PSs _ _ _;fail "b")|(exists PT _ _ _;fail "t")|(exists PW _ _ _;fail "w")|(exists PG _ _ _;fail "g")|(exists PGs _ _ _;fail "h")|(exists PI _ _ _ _;fail "i")|(exists PIf _ _ _;fail "f"))
local macro_rules | `(tactic|fail "0") => `(tactic|(refine'⟨_, λP w K mg base e => ?_⟩;rotate_left;intros;intro _ _ _ _ _ _ E nd hr;apply rd_cv;((first |refine' zb0_ ?_ |refine' z3_ ?_ ?_) <;> repeat' (fail "1"));((try dsimp only[cxOf, Cx.wish]);exact rfl)))
local macro_rules | `(tactic|fail "2") => `(tactic|first |(exists PE _ _ _;fail "Ke")|(exists PA _ _ _;fail "a")|(exists PO _ _ _;fail "p")|(exists OpR _ _ _;fail "Ko")|(exists PS _ _ _;fail "Ks")|(exists PSs _ _ _;fail "b")|(exists PT _ _ _;fail "Kt")|(exists PW _ _ _;fail "w")|(exists PG _ _ _;fail "Kg")|(exists PGs _ _ _;fail "h")|(exists PI _ _ _ _;fail "i")|(exists PIf _ _ _;fail "f"))
local macro_rules | `(tactic|fail "9") => `(tactic|((first |refine' zb0_ ?_ |refine' z3_ ?_ ?_) <;> repeat' (fail "2")))
set_option hygiene true
def zcu_:{t:Fgg->XK->TS // ∀(P:m7) (w:nL) (K:Fgg) (mg:Str->Option aL) (base:Heap),En K mg->Tm P w K mg base 0 ["_law_script", "_law_k"] "_law_cell_at" zdT_ (t K)}:=by fail "0"
noncomputable def zca_:WC ((List Int)×Int) Int zcu_.1 (λK c=>[(Zf (tySc K) c.1),(Zf tyInt c.2)]) (λK=>(owF tyInt)):=⟨λc=>_,λK c E=>
 by dsimp only[zcu_];exact(zoz_ (LS:=(λ_:Unit=>[(Zf (tySc K) c.1),(Zf tyInt c.2)])) (s_if (zF_ (zh_ zo7_ (za_ 1 rfl) (zd5_ zoN_ (zb_ (za_ 0 rfl))))) (za4_ (zag_ zE_) (EvF.ow (zh_ zrT_ (za_ 0 rfl) (za_ 1 rfl)))) (zi_ (s:=()) (.same (.same .nil)))) λ_=>(aN_2 (za4_ (zag_ zE_) (EvF.ow (ze_ 0)))))⟩
def zci_ (av:(List Int))(jf:Int):Mo Int:=fnO (zca_.1 (av,jf))
def zan_ (K:Fgg):Sp:=Ct K (csCons (tySc K) (csLast tyInt)) (λc=>zci_ c.1 c.2) (owF tyInt)
abbrev zaD_ (P:m7)(w:nL)(K:Fgg)(mg:Str->Option aL)(base:Heap):Prop:=Gd P w K mg base CX0 1 "_law_cell_at" ["_law_script", "_law_k"] (zan_ K)
noncomputable def zk0_ (K:Fgg):TS:=(tSeq (tAsg (tC (tx Qm0)) (gName 1)) (tRet (tBM K "str" (mJoin K) (tC (tx [])) (tCons (tComp ["_law_k"] [("_law_letters",1),("_law_cell",0)] (mRng1 (tCons (tOp mAdd (tC (.int 1)) (tOp mMod (mVar 0) (tC (.int 8)))) tNil)) (gName 0) tTrue (tOp (mIx K) (mVar 1) (tOp mMod (tOp mAdd (tOp mDivG (mVar 2) (tOp mAdd (mVar 0) (tC (.int 1)))) (tOp mMulX (mVar 0) (mVar 0))) (tC (.int 26))))) tNil))))
noncomputable def zem_:WC Int Jx (λK _=>zk0_ K) (λK c=>[(Zf tyInt c),Zd]) (λK=>(owF tyStr)):=⟨λc=>_,λK c E=>
 (zaQ_ (i:=1) rfl zW_ (zs_ Qm0) λnu=>(aN_2 (za4_ (zag_ zW_) (EvF.ow (ztC_ znm_ (zs_ []) (zb_ (EvO.fr (O:=(owL tyStr)) (zaI_ (zm7_ (zb_ (zh_ zu_ (ze_ 1) (zh_ zp_ (za_ 0 rfl) (ze_ 8))))) (zK_ 0) (λ_=>dead1) (λnc=>zaK_) (λnc=>(zh_ zmb_ (za_ 1 rfl) (zh_ zp_ (zh_ zu_ (zh_ zt_ (za_ 2 rfl) (zh_ zu_ (za_ 0 rfl) (ze_ 1))) (zh_ zc7_ (za_ 0 rfl) (za_ 0 rfl))) (ze_ 26))))))))))))⟩
def zei_ (ak:Int):Mo Jx:=fnO (zem_.1 ak)
def zfD_ (K:Fgg):Sp:=Ct K (csLast tyInt) (λc=>zei_ c) (owF tyStr)
abbrev zgJ_ (P:m7)(w:nL)(K:Fgg)(mg:Str->Option aL)(base:Heap):Prop:=Gd P w K mg base CX0 1 "_law_name" ["_law_cell"] (zfD_ K)
def zeN_:{t:Fgg->XK->TS // ∀(P:m7) (w:nL) (K:Fgg) (mg:Str->Option aL) (base:Heap),En K mg->Tm P w K mg base 0 ["_law_number", "_law_high", "_law_wide", "_law_first"] "_law_span" zgZ_ (t K)}:=by fail "0"
noncomputable def zeF_:WC (Int×(Int×Int)) (Int×Int) zeN_.1 (λK c=>[(Zf tyInt c.1),(Zf tyInt c.2.1),(Zf tyInt c.2.2),Zd]) (λK=>(owF Qq1)):=⟨λc=>_,λK c E=>
 by dsimp only[zeN_];exact(zaQ_ (i:=3) rfl zE_ (zh_ zu_ (ze_ 1) (zh_ zp_ (za_ 0 rfl) (za_ 1 rfl))) λlA=>(aN_4 (za4_ (zag_ Qi0) (EvF.ow (zw_ (zc_ zf_) (zd_ (za_ 3 rfl) (zb_ (zd5_ zp8_ (zd_ (za_ 1 rfl) (zb_ (zh_ zu_ (za_ 3 rfl) (zh_ zp_ (zh_ zt_ (za_ 0 rfl) (ze_ 24)) (za_ 2 rfl)))))))))))))⟩
def zew_ (aU:Int)(eS:Int)(eM:Int):Mo (Int×Int):=fnO (zeF_.1 (aU,eS,eM))
def zcB_ (K:Fgg):Sp:=Ct K (csCons tyInt (csCons tyInt (csLast tyInt))) (λc=>zew_ c.1 c.2.1 c.2.2) (owF Qq1)
abbrev zah_ (P:m7)(w:nL)(K:Fgg)(mg:Str->Option aL)(base:Heap):Prop:=Gd P w K mg base CX0 1 "_law_span" ["_law_number", "_law_high", "_law_wide"] (zcB_ K)
def zdK_:{t:Fgg->XK->TS // ∀(P:m7) (w:nL) (K:Fgg) (mg:Str->Option aL) (base:Heap),En K mg->Tm P w K mg base 0 ["_law_name_here", "_law_cell", "_law_letters", "_law_at", "_law_letter"] "_law_other" zfE_ (t K)}:=by fail "0"
noncomputable def zdJ_:WC (Jx×Int) Jx zdK_.1 (λK c=>[(Zf tyStr c.1),(Zf tyInt c.2),Zd,Zd,Zd]) (λK=>(owF tyStr)):=⟨λc=>_,λK c E=>
 by dsimp only[zdK_];exact(zaQ_ (i:=2) rfl zW_ (zs_ Qm0) λnu=>(aN_5 (zaQ_ (i:=3) rfl zE_ (zh_ zp_ (za_ 1 rfl) (zd5_ zkg_ (zb_ (za_ 0 rfl)))) λqo=>(aN_5 (zaQ_ (i:=4) rfl zW_ (zh_ zmb_ (za_ 2 rfl) (zh_ zp_ (zh_ zu_ (zh_ zu_ (ztC_ zqI_ (za_ 2 rfl) (zb_ (zh_ zmb_ (za_ 0 rfl) (za_ 3 rfl)))) (ze_ 1)) (zh_ zp_ (zh_ zt_ (za_ 1 rfl) (ze_ 8)) (ze_ 25))) (ze_ 26))) λl6=>(aN_5 (za4_ (zag_ zW_) (EvF.ow (zh_ zct_ (zh_ zct_ (zhU_ (za_ 0 rfl) zgV_ (zfH_ (za_ 3 rfl))) (za_ 4 rfl)) (zhU_ (za_ 0 rfl) (zfH_ (zh_ zu_ (za_ 3 rfl) (ze_ 1))) zgV_))))))))))⟩
def zdO_ (aq:Jx)(ak:Int):Mo Jx:=fnO (zdJ_.1 (aq,ak))
def zhu_ (K:Fgg):Sp:=Ct K (csCons tyStr (csLast tyInt)) (λc=>zdO_ c.1 c.2) (owF tyStr)
abbrev zbv_ (P:m7)(w:nL)(K:Fgg)(mg:Str->Option aL)(base:Heap):Prop:=Gd P w K mg base CX0 1 "_law_other" ["_law_name_here", "_law_cell"] (zhu_ K)
def zc4_:{t:Fgg->XK->TS // ∀(P:m7) (w:nL) (K:Fgg) (mg:Str->Option aL) (base:Heap),En K mg->zah_ P w K mg base->zbv_ P w K mg base->Tm P w K mg base 1 ["_law_name_here", "_law_cell", "_law_field", "_law_wide", "_law_first"] "_law_middle" zev_ (t K)}:=by fail "0"
noncomputable def zc3_:WC (Jx×Int) Qq8 zc4_.1 (λK c=>[(Zf tyStr c.1),(Zf tyInt c.2),Zd,Zd,Zd]) (λK=>(owF (tyOpt Qq3))):=⟨λc=>_,λK c E=>
 by dsimp only[zc4_];exact(zaQ_ (i:=2) rfl Qi0 (zg_ (zd_ (zh_ zt_ (za_ 1 rfl) (ze_ 4)) (zd_ (ze_ 24) (zb_ (ze_ 6))))) λnE=>(aN_5 (zaQ_ (i:=3) rfl zE_ (zh_ zaU_ (zB_ (i:=1) (at_s zav_) (za_ 2 rfl)) (zB_ (i:=0) at_0 (za_ 2 rfl))) λz9=>(aN_5 (zaQ_ (i:=4) rfl zE_ (zh_ zu_ (ze_ 1) (zh_ zp_ (zh_ zt_ (za_ 1 rfl) (ze_ 9)) (zh_ zaU_ (ze_ 36) (za_ 3 rfl)))) λqq=>(aN_5 (zhk_ (s_if (zF_ (zh_ zao_ (zh_ zp_ (za_ 1 rfl) (ze_ 4)) (ze_ 1))) (za4_ (zag_ (zeM_ Qi1)) (EvF.ow (zjD_ (λ_ _ _=>nn_u (λ_ _ _=>zha_) (λ_ _ _=>zha_)) (zpl_ (T':=(tyTup (csCons tyStr (csCons tyStr (csCons Qq1 (csLast Qq1)))))) (zw_ (zc_ zf_) (zd_ (zs_ [102,105,114,115,116]) (zb_ (za_ 2 rfl)))))))) (zi_ (s:=()) (S4 (.same .nil)))) λ_=>(aN_5 (zhk_ (s_if (zF_ (zh_ zlS_ (zh_ zp_ (za_ 1 rfl) (ze_ 4)) (ze_ 1))) (za4_ (zag_ (zeM_ Qi1)) (EvF.ow (zjD_ (λ_ _ _=>nn_u (λ_ _ _=>zha_) (λ_ _ _=>zha_)) (zhE_ (T:=(tyTup (csCons tyStr (csLast Qq1)))) (zw_ (zc_ (zc_ (zc_ zf_))) (zd_ (zh_ zV_ (EvO.fr (zQ_ (zc_ zf_) (zj_ zn_) (zd_ (zs_ [109,97,116,101,115]) (zb_ (zs_ [119,105,116,104,111,117,116]))))) (zh_ zp_ (za_ 1 rfl) (ze_ 2))) (zd_ (zg_ (zd_ (za_ 0 rfl) (zb_ (zh_ zt_ (za_ 1 rfl) (ze_ 4))))) (zd_ (za_ 2 rfl) (zb_ (zw_ (zc_ zf_) (zd_ (za_ 4 rfl) (zb_ (zh_ zu_ (za_ 4 rfl) (za_ 3 rfl)))))))))))))) (zi_ (s:=()) (S4 (.same .nil)))) λ_=>(aN_5 (za4_ (zag_ (zeM_ Qi1)) (EvF.ow zmH_))))))))))))⟩
def zc8_ (aq:Jx)(ak:Int):Mo Qq8:=fnO (zc3_.1 (aq,ak))
def zdQ_ (K:Fgg):Sp:=Ct K (csCons tyStr (csLast tyInt)) (λc=>zc8_ c.1 c.2) (owF (tyOpt Qq3))
abbrev ze1_ (P:m7)(w:nL)(K:Fgg)(mg:Str->Option aL)(base:Heap):Prop:=Gd P w K mg base CX0 2 "_law_middle" ["_law_name_here", "_law_cell"] (zdQ_ K)
def zeu_:{t:Fgg->XK->TS // ∀(P:m7) (w:nL) (K:Fgg) (mg:Str->Option aL) (base:Heap),En K mg->zah_ P w K mg base->Tm P w K mg base 1 ["_law_number", "_law_k", "_law_to", "_law_one", "_law_other_here", "_law_at"] "_law_work" zgs_ (t K)}:=by fail "0"
noncomputable def zey_:WC (Int×Int) ((Int×Int)×((Int×Int)×(Jx×(Int×Int)))) zeu_.1 (λK c=>[(Zf tyInt c.1),(Zf tyInt c.2),Zd,Zd,Zd,Zd]) (λK=>(owF Qq4)):=⟨λc=>_,λK c E=>
 by dsimp only[zeu_];exact(zaQ_ (i:=2) rfl Qi0 (zw_ (zc_ zf_) (zd_ (zh_ zu_ (ze_ 25) (zh_ zc7_ (ze_ 3) (za_ 1 rfl))) (zb_ (zh_ zu_ (zh_ zu_ (ze_ 25) (zh_ zc7_ (ze_ 3) (za_ 1 rfl))) (zh_ zp_ (za_ 0 rfl) (ze_ 3)))))) λnI=>(aN_6 (zaQ_ (i:=3) rfl Qi0 (zg_ (zd_ (zh_ zt_ (za_ 0 rfl) (ze_ 3)) (zd_ (ze_ 24) (zb_ (ze_ 6))))) λnV=>(aN_6 (zaQ_ (i:=4) rfl Qi0 (zg_ (zd_ (zh_ zt_ (za_ 0 rfl) (ze_ 5)) (zd_ (ze_ 24) (zb_ (ze_ 3))))) λqH=>(aN_6 (zcZ_ (λlK:(Int×Int)=>[(3,(Zf Qq1 lK))]) (s_if (znZ_ (zF_ (zh_ zlS_ (za_ 1 rfl) (ze_ 0))) (zF_ (zh_ zao_ (zh_ zp_ (zh_ zt_ (za_ 0 rfl) (ze_ 2)) (ze_ 3)) (ze_ 1)))) (zaQ_ (i:=5) rfl zE_ (zh_ zu_ (ze_ 25) (zh_ zc7_ (ze_ 3) (zh_ zp_ (zh_ zt_ (za_ 0 rfl) (ze_ 7)) (za_ 1 rfl)))) λqW=>(aN_6 (zbo_ (zaQ_ (i:=3) rfl Qi0 (zw_ (zc_ zf_) (zd_ (za_ 5 rfl) (zb_ (zh_ zu_ (za_ 5 rfl) (zh_ zp_ (zh_ zt_ (za_ 0 rfl) (ze_ 11)) (ze_ 3)))))) λnS=>(aN_6 (zi_ (s:=nS) (S4 (.same (.dead .nil))))))))) (zi_ (s:=nV) (S4 (.same (.same .nil))))) λlK=>(aN_6 (za4_ (zag_ Qi4) (EvF.ow (zw_ (zc_ (zc_ (zc_ zf_))) (zd_ (za_ 2 rfl) (zd_ (za_ 3 rfl) (zd_ (zh_ zV_ (EvO.fr (zQ_ (zc_ (zc_ zf_)) (zj_ (zj_ zn_)) (zd_ (zs_ [112,108,117,115]) (zd_ (zs_ [108,101,115,115]) (zb_ (zs_ [116,105,109,101,115])))))) (zh_ zp_ (zh_ zt_ (za_ 0 rfl) (ze_ 4)) (ze_ 3))) (zb_ (za_ 4 rfl))))))))))))))))⟩
def zet_ (aU:Int)(jf:Int):Mo ((Int×Int)×((Int×Int)×(Jx×(Int×Int)))):=fnO (zey_.1 (aU,jf))
def zfr_ (K:Fgg):Sp:=Ct K (csCons tyInt (csLast tyInt)) (λc=>zet_ c.1 c.2) (owF Qq4)
abbrev zgA_ (P:m7)(w:nL)(K:Fgg)(mg:Str->Option aL)(base:Heap):Prop:=Gd P w K mg base CX0 2 "_law_work" ["_law_number", "_law_k"] (zfr_ K)
noncomputable def zi1_ (K:Fgg):TS:=(tSeq (tAsg (tC (tx SG)) (gName 1)) (tSeq (tAsg (tCall (zan_ K) [] E0 (tCons (mVar 0) (tCons (tC (.int 3)) tNil))) (gName 2)) (tSeq (tAsg (tLst (tCons (tLst tNil) (tCons (tLst tNil) (tCons (tLst tNil) (tCons (tLst tNil) (tCons (tLst tNil) tNil)))))) (gName 3)) (tSeq (tFor (iAny K (tSl (mSl K) (mVar 0) (mPart (tC (.int 4))) (mPart (tC (.int 67))))) (gName 4) (tSeq (tAsg (tOp mMod (mVar 4) (tC (.int 5))) (gName 5)) (tSeq (tAsg (tOp mDivG (mVar 4) (tC (.int 5))) (gName 6)) (tSeq (mIfS (mTest (tOp mGe (tCB (mLen K) (tCons (tOp (mIx K) (mVar 3) (mVar 5)) tNil)) (tOp (mIx K) (tLst (tCons (tC (.int 8)) (tCons (tC (.int 6)) (tCons (tC (.int 4)) (tCons (tC (.int 4)) (tCons (tC (.int 36)) tNil)))))) (mVar 5)))) tCont tNext) (tSeq (mIfS (mTest (tOp (mEqK K) (mVar 5) (tC (.int 0)))) (tSeq (tAsg (tCall (zcB_ K) [] E0 (tCons (mVar 6) (tCons (tC (.int 24)) (tCons (tC (.int 5)) tNil)))) (gName 7)) (tSeq (tAsg (tBM K "str" (mJoin K) (tC (tx [])) (tCons (tComp ["_law_at"] [("_law_signs",1),("_law_seed",2)] (mRng2 (tCons (tOp (mIx K) (mVar 7) (tC (.int 0))) (tCons (tOp mAdd (tOp (mIx K) (mVar 7) (tC (.int 1))) (tC (.int 1))) tNil))) (gName 0) tTrue (tOp (mIx K) (mVar 1) (tOp mMod (tOp mAdd (mVar 2) (tOp mMulX (tOp mMulX (mVar 0) (mVar 0)) (tOp mAdd (tC (.int 1)) (tOp mMod (mVar 2) (tC (.int 7)))))) (tC (.int 37))))) tNil)) (gName 8)) (tDrop (tBM K "list" rAppend (tOp (mIx K) (mVar 3) (tC (.int 0))) (tCons (tTup (tCons (mVar 7) (tCons (mVar 8) tNil))) tNil))))) tNext) (tSeq (mIfS (mTest (tOp (mEqK K) (mVar 5) (tC (.int 1)))) (tDrop (tBM K "list" rAppend (tOp (mIx K) (mVar 3) (tC (.int 1))) (tCons (tCall (zcB_ K) [] E0 (tCons (mVar 6) (tCons (tC (.int 24)) (tCons (tC (.int 4)) tNil)))) tNil))) tNext) (tSeq (mIfS (mTest (tOp (mEqK K) (mVar 5) (tC (.int 2)))) (tDrop (tBM K "list" rAppend (tOp (mIx K) (mVar 3) (tC (.int 2))) (tCons (tCall (zfr_ K) [] E0 (tCons (mVar 6) (tCons (tCB (mLen K) (tCons (tOp (mIx K) (mVar 3) (tC (.int 2))) tNil)) tNil))) tNil))) tNext) (tSeq (mIfS (mTest (tOp (mEqK K) (mVar 5) (tC (.int 3)))) (tDrop (tBM K "list" rAppend (tOp (mIx K) (mVar 3) (tC (.int 3))) (tCons (tCall (zcB_ K) [] E0 (tCons (mVar 6) (tCons (tC (.int 36)) (tCons (tC (.int 8)) tNil)))) tNil))) tNext) (mIfS (mAnd (mTest (tOp (mEqK K) (mVar 5) (tC (.int 4)))) (mTest (tOp (mIn K true) (tOp mAdd (tC (.int 1)) (tOp mMod (tOp mDivG (mVar 6) (tC (.int 40))) (tC (.int 36)))) (tComp ["_law_wire"] [] (iAny K (tOp (mIx K) (mVar 3) (tC (.int 4)))) (gName 0) tTrue (tOp (mIx K) (mVar 0) (tC (.int 1))))))) (tDrop (tBM K "list" rAppend (tOp (mIx K) (mVar 3) (tC (.int 4))) (tCons (tTup (tCons (tOp mAdd (tC (.int 1)) (tOp mMod (mVar 6) (tC (.int 40)))) (tCons (tOp mAdd (tC (.int 1)) (tOp mMod (tOp mDivG (mVar 6) (tC (.int 40))) (tC (.int 36)))) tNil))) tNil))) tNext))))))))) (tRet (mVar 3))))))
noncomputable def zdB_:WC (List Int) (List (List Dy)) (λK _=>zi1_ K) (λK c=>[(Zf (tySc K) c),Zd,Zd,Zd,Zd,Zd,Zd,Zd,Zd]) (λK=>(owLL tyDp)):=⟨λc=>_,λK c E=>
 (zaQ_ (i:=1) rfl zW_ (zs_ SG) λeh=>(aN_9 (zaQ_ (i:=2) rfl zE_ (zg_ (zd_ (za_ 0 rfl) (zb_ (ze_ 3)))) λnz=>(aN_9 (zaN_ (i:=3) rfl (zpI_ zgS_) (zon_ (zeY_ (zcN_ tyDp) (zeY_ (zcN_ tyDp) (zeY_ (zcN_ tyDp) (zeY_ (zcN_ tyDp) (zeY_ (zcN_ tyDp) zrB_)))))) λnF=>(aN_9 (zcZ_ (λdO:(List (List Dy))=>[(3,(Zo (owLL tyDp) dO))]) ( (ziN_ (LS:=(λdO:(List (List Dy))=>[(Zf (tySc K) c),(Zf tyStr eh),(Zf tyInt nz),(Zo (owLL tyDp) dO),Zd,Zd,Zd,Zd,Zd])) (s0:=nF) (ei_l (EvO.fr (zrr_ (za_ 0 rfl) (zfH_ (ze_ 4)) (zfH_ (ze_ 67))))) (zK_ 4) λdO qc=>aN_9 (zaQ_ (i:=5) rfl zE_ (zh_ zp_ (za_ 4 rfl) (ze_ 5)) λqL=>(aN_9 (zaQ_ (i:=6) rfl zE_ (zh_ zt_ (za_ 4 rfl) (ze_ 5)) λqJ=>(aN_9 (zhk_ (s_if (zF_ (zh_ zsh_ (zd5_ zb4_ (zb_ (zh_ zV_ (zkB_ 3 rfl) (za_ 5 rfl)))) (zh_ zV_ (EvO.fr (zQ_ (zc_ (zc_ (zc_ (zc_ zf_)))) (zj_ (zj_ (zj_ (zj_ zn_)))) (zd_ (ze_ 8) (zd_ (ze_ 6) (zd_ (ze_ 4) (zd_ (ze_ 4) (zb_ (ze_ 36)))))))) (za_ 5 rfl)))) (zrd_ (b:=dO) (S4 (.dead (.dead (.dead (.same (.same .nil))))))) (zi_ (s:=()) (S4 (S4 (.same .nil))))) λ_=>(aN_9 (zcZ_ (λij:(List (List Dy))=>[(3,(Zo (owLL tyDp) ij))]) (s_if (zF_ (zh_ zao_ (za_ 5 rfl) (ze_ 0))) (zaQ_ (i:=7) rfl Qi0 (zg_ (zd_ (za_ 6 rfl) (zd_ (ze_ 24) (zb_ (ze_ 5))))) λqQ=>(aN_9 (zaQ_ (i:=8) rfl zW_ (ztC_ znm_ (zs_ []) (zb_ (EvO.fr (O:=(owL tyStr)) (zaI_ (zqi_ (zd_ (zB_ (i:=0) at_0 (za_ 7 rfl)) (zb_ (zh_ zu_ (zB_ (i:=1) (at_s zav_) (za_ 7 rfl)) (ze_ 1))))) (zK_ 0) (λ_=>dead1) (λng=>zaK_) (λng=>(zh_ zmb_ (za_ 1 rfl) (zh_ zp_ (zh_ zu_ (za_ 2 rfl) (zh_ zc7_ (zh_ zc7_ (za_ 0 rfl) (za_ 0 rfl)) (zh_ zu_ (ze_ 1) (zh_ zp_ (za_ 2 rfl) (ze_ 7))))) (ze_ 37)))))))) λqw=>(aN_9 (zbo_ (zdf_ (i:=3) rfl zgS_ (ze_ 0) (zbe_ (zoZ_ (n_T (n_C Qi2 (n_1 zcU_))) (λ_=>rfl)) (zw_ (zc_ zf_) (zd_ (za_ 7 rfl) (zb_ (za_ 8 rfl))))) λnY pU=>(aN_9 (zi_ (s:=(appN dO nY pU)) (S4 (.same (.same (.same (.dead (.dead .nil)))))))))))))) (zi_ (s:=dO) (S4 (S4 (.same .nil))))) λij=>(aN_9 (zcZ_ (λdv:(List (List Dy))=>[(3,(Zo (owLL tyDp) dv))]) (s_if (zF_ (zh_ zao_ (za_ 5 rfl) (ze_ 1))) (zbo_ (zdf_ (i:=3) rfl zgS_ (ze_ 1) (zbe_ (zoZ_ Qi2 (λ_=>rfl)) (zg_ (zd_ (za_ 6 rfl) (zd_ (ze_ 24) (zb_ (ze_ 4)))))) λjt ll=>(aN_9 (zi_ (s:=(appN ij jt ll)) (S4 (S4 (.same .nil))))))) (zi_ (s:=ij) (S4 (S4 (.same .nil))))) λdv=>(aN_9 (zcZ_ (λdu:(List (List Dy))=>[(3,(Zo (owLL tyDp) du))]) (s_if (zF_ (zh_ zao_ (za_ 5 rfl) (ze_ 2))) (zbo_ (zdf_ (i:=3) rfl zgS_ (ze_ 2) (zbe_ (zoZ_ Qi7 (λ_=>rfl)) (zg_ (zd_ (za_ 6 rfl) (zb_ (zd5_ zb4_ (zb_ (zh_ zV_ (zkB_ 3 rfl) (ze_ 2)))))))) λjs lj=>(aN_9 (zi_ (s:=(appN dv js lj)) (S4 (S4 (.same .nil))))))) (zi_ (s:=dv) (S4 (S4 (.same .nil))))) λdu=>(aN_9 (zcZ_ (λdq:(List (List Dy))=>[(3,(Zo (owLL tyDp) dq))]) (s_if (zF_ (zh_ zao_ (za_ 5 rfl) (ze_ 3))) (zbo_ (zdf_ (i:=3) rfl zgS_ (ze_ 3) (zbe_ (zoZ_ Qi2 (λ_=>rfl)) (zg_ (zd_ (za_ 6 rfl) (zd_ (ze_ 36) (zb_ (ze_ 8)))))) λjr lh=>(aN_9 (zi_ (s:=(appN du jr lh)) (S4 (S4 (.same .nil))))))) (zi_ (s:=du) (S4 (S4 (.same .nil))))) λdq=>(aN_9 (zbo_ (zcZ_ (λeG:(List (List Dy))=>[(3,(Zo (owLL tyDp) eG))]) (s_if (znZ_ (zF_ (zh_ zao_ (za_ 5 rfl) (ze_ 4))) (zF_ (zh_ (znd_ zq1_) (zh_ zu_ (ze_ 1) (zh_ zp_ (zh_ zt_ (za_ 6 rfl) (ze_ 40)) (ze_ 36))) (EvO.fr (O:=(owL tyInt)) (zaI_ (ei_l (zh_ zV_ (zkB_ 3 rfl) (ze_ 4))) (zK_ 0) (λ_=>dead1) (λd_=>zaK_) (λd_=>(zB_ (i:=1) (at_s zav_) (zcE_ (dn_dp Qi3) (za_ 0 rfl))))))))) (zbo_ (zdf_ (i:=3) rfl zgS_ (ze_ 4) (zbe_ (zoZ_ Qi2 (λ_=>rfl)) (zw_ (zc_ zf_) (zd_ (zh_ zu_ (ze_ 1) (zh_ zp_ (za_ 6 rfl) (ze_ 40))) (zb_ (zh_ zu_ (ze_ 1) (zh_ zp_ (zh_ zt_ (za_ 6 rfl) (ze_ 40)) (ze_ 36))))))) λjq k_=>(aN_9 (zi_ (s:=(appN dq jq k_)) (S4 (S4 (.same .nil))))))) (zi_ (s:=dq) (S4 (S4 (.same .nil))))) λeG=>(aN_9 (zi_ (s:=eG) (S4 (.dead (.dead (.dead (.same (.same .nil)))))))))))))))))))))))))) λdO=>(aN_9 (zjw_ (i:=3) rfl)))))))))⟩
def zdt_ (av:(List Int)):Mo (List (List Dy)):=fnO (zdB_.1 av)
def zeR_ (K:Fgg):Sp:=Ct K (csLast (tySc K)) (λc=>zdt_ c) (owLL tyDp)
abbrev zfI_ (P:m7)(w:nL)(K:Fgg)(mg:Str->Option aL)(base:Heap):Prop:=Gd P w K mg base CX0 3 "_law_drawn" ["_law_script"] (zeR_ K)
def zc1_:{t:Fgg->XK->TS // ∀(P:m7) (w:nL) (K:Fgg) (mg:Str->Option aL) (base:Heap),En K mg->Tm P w K mg base 0 ["_law_field"] "_law_turned" zep_ (t K)}:=by fail "0"
def zeD_:WC (Int×Int) (Int×Int) zc1_.1 (λK c=>[(Zf Qq1 c)]) (λK=>(owF Qq1)):=⟨λc=>_,λK c E=>
 by dsimp only[zc1_];exact(za4_ (zag_ Qi0) (EvF.ow (zw_ (zc_ zf_) (zd_ (zh_ zaU_ (ze_ 37) (zB_ (i:=1) (at_s zav_) (za_ 0 rfl))) (zb_ (zh_ zaU_ (ze_ 37) (zB_ (i:=0) at_0 (za_ 0 rfl))))))))⟩
def zaS_ (ay:(Int×Int)):Mo (Int×Int):=fnO (zeD_.1 ay)
def zR_ (K:Fgg):Sp:=Ct K (csLast Qq1) (λc=>zaS_ c) (owF Qq1)
abbrev zeo_ (P:m7)(w:nL)(K:Fgg)(mg:Str->Option aL)(base:Heap):Prop:=Gd P w K mg base CX0 1 "_law_turned" ["_law_field"] (zR_ K)
noncomputable def ziT_ (K:Fgg):TS:=(tSeq (tAsg (tCall (zan_ K) [] E0 (tCons (mVar 0) (tCons (tC (.int 0)) tNil))) (gName 1)) (tSeq (tAsg (tCall (zfD_ K) [] E0 (tCons (tOp mDivG (mVar 1) (tC (.int 2))) tNil)) (gName 2)) (tSeq (tAsg (tCall (zdQ_ K) [] E0 (tCons (mVar 2) (tCons (tCall (zan_ K) [] E0 (tCons (mVar 0) (tCons (tC (.int 1)) tNil))) tNil))) (gName 3)) (tSeq (tAsg (tCall (zan_ K) [] E0 (tCons (mVar 0) (tCons (tC (.int 2)) tNil))) (gName 4)) (tSeq (tAsg (tCall (zeR_ K) [] E0 (tCons (mVar 0) tNil)) (gLst5 K (gConsM (gName 5) (gConsM (gName 6) (gConsM (gName 7) (gConsM (gName 8) (gConsM (gName 9) gNilM))))))) (tSeq (mIfS (mTest (tOp (mEqK K) (tOp mMod (mVar 1) (tC (.int 2))) (tC (.int 1)))) (tSeq (tAsg (tComp ["_law_field", "_law_text"] [] (iAny K (mVar 5)) (gTupM K 2 (gConsM (gName 0) (gConsM (gName 1) gNilM))) tTrue (tTup (tCons (tCall (zR_ K) [] E0 (tCons (mVar 0) tNil)) (tCons (tRevS (mVar 1) (mPart (mNeg (tC (.int 1))))) tNil)))) (gName 5)) (tSeq (tAsg (tComp ["_law_field"] [] (iAny K (mVar 6)) (gName 0) tTrue (tCall (zR_ K) [] E0 (tCons (mVar 0) tNil))) (gName 6)) (tSeq (tAsg (tComp ["_law_field"] [] (iAny K (mVar 8)) (gName 0) tTrue (tCall (zR_ K) [] E0 (tCons (mVar 0) tNil))) (gName 8)) (tSeq (tAsg (tLst tNil) (gName 10)) (tSeq (tFor (iAny K (mVar 7)) (gTupM K 4 (gConsM (gName 11) (gConsM (gName 12) (gConsM (gName 13) (gConsM (gName 14) gNilM))))) (tDrop (tBM K "list" rAppend (mVar 10) (tCons (tTup (tCons (tCall (zR_ K) [] E0 (tCons (mVar 11) tNil)) (tCons (tCall (zR_ K) [] E0 (tCons (mVar 12) tNil)) (tCons (mVar 13) (tCons (tCall (zR_ K) [] E0 (tCons (mVar 14) tNil)) tNil))))) tNil)))) (tSeq (tAsg (mVar 10) (gName 7)) (mIfS (mTest (tOp mIsNot (mVar 3) (tC .non))) (tSeq (tAsg (tOp mSub (tOp mSub (tCB (mLen K) (tCons (mVar 3) tNil)) (tC (.int 1))) (tCB (mIntC) (tCons (tOp (mEqK K) (tCB (mLen K) (tCons (mVar 3) tNil)) (tC (.int 4))) tNil))) (gName 15)) (tAsg (tOp (rCatT K) (tOp (rCatT K) (tSl (rSlT K) (mVar 3) tNoPart (mPart (mVar 15))) (tTup (tCons (tCall (zR_ K) [] E0 (tCons (tOp (mIx K) (mVar 3) (mVar 15)) tNil)) tNil))) (tSl (rSlT K) (mVar 3) (mPart (tOp mAdd (mVar 15) (tC (.int 1)))) tNoPart)) (gName 3))) tNext))))))) tNext) (tSeq (tAsg (tComp ["_law_there", "_law_here"] [] (iAny K (tCB (mSortD 64 K) (tCons (tComp ["_law_wire"] [] (iAny K (mVar 9)) (gName 0) tTrue (tTup (tCons (tOp (mIx K) (mVar 0) (tC (.int 1))) (tCons (tOp (mIx K) (mVar 0) (tC (.int 0))) tNil)))) tNil))) (gTupM K 2 (gConsM (gName 0) (gConsM (gName 1) gNilM))) tTrue (tTup (tCons (mVar 1) (tCons (mVar 0) tNil)))) (gName 16)) (tSeq (tAsg (tOp mMod (mVar 4) (tOp mAdd (tCB (mTwo min) (tCons (tC (.int 3)) (tCons (tCB (mLen K) (tCons (mVar 6) tNil)) tNil))) (tC (.int 1)))) (gName 17)) (tRet (tLst (tCons (mVar 2) (tCons (mVar 5) (tCons (mVar 3) (tCons (mVar 6) (tCons (mVar 7) (tCons (mVar 17) (tCons (mVar 8) (tCons (tOp mAdd (tC (.int 1)) (tOp mMod (tOp mDivG (mVar 4) (tC (.int 4))) (tC (.int 12)))) (tCons (mVar 16) tNil)))))))))))))))))))
noncomputable def zdz_:WC (List Int) (List Dy) (λK _=>ziT_ K) (λK c=>[(Zf (tySc K) c),Zd,Zd,Zd,Zd,Zd,Zd,Zd,Zd,Zd,Zd,Zd,Zd,Zd,Zd,Zd,Zd,Zd]) (λK=>(owL tyDy)):=⟨λc=>_,λK c E=>
 (zaQ_ (i:=1) rfl zE_ (zg_ (zd_ (za_ 0 rfl) (zb_ (ze_ 0)))) λlA=>(zd2_ (zaQ_ (i:=2) rfl zW_ (zg_ (zb_ (zh_ zt_ (za_ 1 rfl) (ze_ 2)))) λn5=>(zd2_ (zaQ_ (i:=3) rfl (zeM_ Qi1) (zg_ (zd_ (za_ 2 rfl) (zb_ (zg_ (zd_ (za_ 0 rfl) (zb_ (ze_ 1))))))) λju=>(zd2_ (zaQ_ (i:=4) rfl zE_ (zg_ (zd_ (za_ 0 rfl) (zb_ (ze_ 2)))) λm9=>(zd2_ (zqM_ (zqu_ (EvO.fr (z1_ (zb_ (za_ 0 rfl))))) (zr2_ 5 6 7 8 9) λkZ=>zd2_ (zqq_ (i:=5) rfl (zr0_ (m_T (m_C Qi3 (m_1 zax_)))) λnQ=>zd2_ (zqq_ (i:=6) rfl (zr0_ Qi3) λnU=>zd2_ (zqq_ (i:=7) rfl (zr0_ (m_T (m_C Qi3 (m_C Qi3 (m_C zax_ (m_1 Qi3)))))) λlE=>zd2_ (zqq_ (i:=8) rfl (zr0_ Qi3) λnD=>zd2_ (zqq_ (i:=9) rfl (zr0_ Qi3) λny=>zd2_ (zd2_ (zcZ_ (λfR:((List ((Int×Int)×Jx))×((List (Int×Int))×((List (Int×Int))×(Qq6×Qq8))))=>[(3,(Zf (tyOpt Qq3) fR.2.2.2.2)),(5,(Zf (tyL Qq7) fR.1)),(6,(Zf (tyL Qq1) fR.2.1)),(7,(Zf (tyL Qq4) fR.2.2.2.1)),(8,(Zf (tyL Qq1) fR.2.2.1))]) (s_if (zF_ (zh_ zao_ (zh_ zp_ (za_ 1 rfl) (ze_ 2)) (ze_ 1))) (zaN_ (i:=5) rfl Qi6 (zaI_ (ei_l (za_ 5 rfl)) (zi9_ (zc_ zf_) (zd1_ 0 (zfp_ (zK_ 1)))) (λ_=>dead2) (λfY=>zaK_) (λfY=>(zw_ (zc_ zf_) (zd_ (zg_ (zb_ (za_ 0 rfl))) (zb_ (zpO_ (za_ 1 rfl) (zfH_ (zfd_ (ze_ 1))))))))) λlV=>zee_ (i:=5) rfl (zd2_ (zaN_ (i:=6) rfl (zH_ Qi0) (zaI_ (ei_l (za_ 6 rfl)) (zK_ 0) (λ_=>dead1) (λfX=>zaK_) (λfX=>(zg_ (zb_ (za_ 0 rfl))))) λl0=>zee_ (i:=6) rfl (zd2_ (zaN_ (i:=8) rfl (zH_ Qi0) (zaI_ (ei_l (za_ 8 rfl)) (zK_ 0) (λ_=>dead1) (λnh=>zaK_) (λnh=>(zg_ (zb_ (za_ 0 rfl))))) λlJ=>zee_ (i:=8) rfl (zd2_ (zaN_ (i:=10) rfl (zH_ Qi4) (zcN_ Qq4) λnJ=>(zd2_ (zcZ_ (λfQ:Qq6=>[(10,(Zo (owL Qq4) fQ))]) ( (ziN_ (LS:=(λfQ:Qq6=>[(Zf (tySc K) c),(Zf tyInt lA),(Zf tyStr n5),(Zf (tyOpt Qq3) ju),(Zf tyInt m9),(Zf (tyL Qq7) lV),(Zf (tyL Qq1) l0),(Zf (tyL Qq4) lE),(Zf (tyL Qq1) lJ),(Zf (tyL Qq1) ny),(Zo (owL Qq4) fQ),Zd,Zd,Zd,Zd,Zd,Zd,Zd])) (s0:=nJ) (ei_l (za_ 7 rfl)) (zi9_ (zc_ (zc_ (zc_ zf_))) (zd1_ 11 (zd1_ 12 (zd1_ 13 (zfp_ (zK_ 14)))))) λfQ qb=>zd2_ (zbo_ (zkp_ (i:=10) rfl Qi4 (zw_ (zc_ (zc_ (zc_ zf_))) (zd_ (zg_ (zb_ (za_ 11 rfl))) (zd_ (zg_ (zb_ (za_ 12 rfl))) (zd_ (za_ 13 rfl) (zb_ (zg_ (zb_ (za_ 14 rfl)))))))) λpW=>(zd2_ (zi_ (s:=(fQ++[pW])) (S4 (S4 (.same (.same (.same (.dead (.dead (.dead (.dead (.same (.same (.same .nil)))))))))))))))))) λfQ=>(zd2_ (zee_ (i:=10) rfl (zd2_ (zsU_ (i:=7) rfl (za_ 10 rfl) λnv=>(zd2_ (zbo_ (zcZ_ (λi_:Qq8=>[(3,(Zf (tyOpt Qq3) i_))]) (s_if (zF_ (zh_ zhC_ (za_ 3 rfl) zgP_)) (zaQ_ (i:=15) rfl zE_ (zh_ zaU_ (zh_ zaU_ (zd5_ (zkn_ (zc_ zf_) (zc_ (zc_ (zc_ zf_)))) (zb_ (zaz_ (za_ 3 rfl)))) (ze_ 1)) (zd5_ zqp_ (zb_ (zh_ zao_ (zd5_ (zkn_ (zc_ zf_) (zc_ (zc_ (zc_ zf_)))) (zb_ (zaz_ (za_ 3 rfl)))) (ze_ 4))))) λqm=>(zd2_ (zbo_ (zaQ_ (i:=3) rfl (zeM_ Qi1) (zcE_ (zcH_ (m_O (m_U (m_T (m_C zax_ (m_1 Qi3))) (m_T (m_C zax_ (m_C zax_ (m_C Qi3 (m_1 Qi3)))))) (λ_ _ _=>nn_u (λ_ _ _=>zha_) (λ_ _ _=>zha_)))) (zh_ zjV_ (zh_ zjV_ (znk_ (zbe_ (zb6_ Qi5) (zaz_ (za_ 3 rfl))) zgV_ (zfH_ (za_ 15 rfl))) (zbe_ (zb6_ (n_T (n_1 Qi2))) (zw_ zf_ (zb_ (zg_ (zb_ (zcE_ (zcH_ Qi3) (zh_ za8_ (zbe_ (zb6_ Qi5) (zaz_ (za_ 3 rfl))) (za_ 15 rfl))))))))) (znk_ (zbe_ (zb6_ Qi5) (zaz_ (za_ 3 rfl))) (zfH_ (zh_ zu_ (za_ 15 rfl) (ze_ 1))) zgV_))) λnZ=>(zd2_ (zi_ (s:=nZ) (S4 (S4 (S4 (.same (.same (.same (.dead (.same (.same .nil))))))))))))))) (zi_ (s:=ju) (S4 (S4 (S4 (S4 (.same (.same .nil)))))))) λi_=>(zd2_ (zi_ (s:=(lV,l0,lJ,nv,i_)) (S4 (S4 (.same (.same (.dead (S4 (.same (.same (.same .nil))))))))))))))))))))))))))) (zi_ (s:=(nQ,nU,nD,lE,ju)) (S4 (S4 (S4 (S4 (.same (.same .nil)))))))) λfR=>(zd2_ (zaN_ (i:=16) rfl (zH_ Qi0) (zaI_ (ei_l (EvO.fr (O:=(owL Qq1)) (zfl_ (zqA_ (zk3_ (zr1_ znC_ (zpZ_ znC_ zd8_)) (zh8_ zd8_ zd8_))) (zb_ (EvO.fr (O:=(owL Qq1)) (zaI_ (ei_l (za_ 9 rfl)) (zK_ 0) (λ_=>dead1) (λaZ=>zaK_) (λaZ=>(zw_ (zc_ zf_) (zd_ (zB_ (i:=1) (at_s zav_) (za_ 0 rfl)) (zb_ (zB_ (i:=0) at_0 (za_ 0 rfl)))))))))))) (zi9_ (zc_ zf_) (zd1_ 0 (zfp_ (zK_ 1)))) (λ_=>dead2) (λiX=>zaK_) (λiX=>(zw_ (zc_ zf_) (zd_ (za_ 1 rfl) (zb_ (za_ 0 rfl)))))) λpT=>zee_ (i:=16) rfl (zd2_ (zaQ_ (i:=17) rfl zE_ (zh_ zp_ (za_ 4 rfl) (zh_ zu_ (zd5_ zp8_ (zd_ (ze_ 3) (zb_ (zd5_ zb4_ (zb_ (za_ 6 rfl)))))) (ze_ 1))) λpS=>(zd2_ (zpw_ (zQ_ (zc_ (zc_ (zc_ (zc_ (zc_ (zc_ (zc_ (zc_ zf_)))))))) (zj_ (zj_ (zj_ (zj_ (zj_ (zj_ (zj_ (zj_ zn_)))))))) (zd_ (zbe_ (zb6_ zcU_) (za_ 2 rfl)) (zd_ (zbe_ (zb6_ (n_L (n_T (n_C Qi2 (n_1 zcU_))))) (za_ 5 rfl)) (zd_ (zbe_ (zb6_ (n_O Qi5)) (za_ 3 rfl)) (zd_ (zbe_ (zb6_ (n_L Qi2)) (za_ 6 rfl)) (zd_ (zbe_ (zb6_ (n_L Qi7)) (za_ 7 rfl)) (zd_ (zbe_ (zb6_ zjh_) (za_ 17 rfl)) (zd_ (zbe_ (zb6_ (n_L Qi2)) (za_ 8 rfl)) (zd_ (zbe_ (zb6_ zjh_) (zh_ zu_ (ze_ 1) (zh_ zp_ (zh_ zt_ (za_ 4 rfl) (ze_ 4)) (ze_ 12)))) (zb_ (zbe_ (zb6_ (n_L Qi2)) (za_ 16 rfl))))))))))))))))))))))))))))))))))⟩
def zdD_ (av:(List Int)):Mo (List Dy):=fnO (zdz_.1 av)
def zhA_ (K:Fgg):Sp:=Ct K (csLast (tySc K)) (λc=>zdD_ c) (owL tyDy)
abbrev zdx_ (P:m7)(w:nL)(K:Fgg)(mg:Str->Option aL)(base:Heap):Prop:=Gd P w K mg base CX0 4 "_law_parts" ["_law_script"] (zhA_ K)
def zbh_:{t:Fgg->XK->TS // ∀(P:m7) (w:nL) (K:Fgg) (mg:Str->Option aL) (base:Heap),En K mg->Tm P w K mg base 0 ["_law_field", "_law_cell", "_law_far", "_law_some"] "_law_bad_field" zcY_ (t K)}:=by fail "0"
noncomputable def zbu_:WC ((Int×Int)×Int) (Int×Int) zbh_.1 (λK c=>[(Zf Qq1 c.1),(Zf tyInt c.2),Zd,Zd]) (λK=>(owF Qq1)):=⟨λc=>_,λK c E=>
 by dsimp only[zbh_];exact(zaQ_ (i:=2) rfl zE_ (zh_ zp_ (zh_ zt_ (za_ 1 rfl) (ze_ 7)) (zh_ zjW_ (ze_ 10) (ze_ 18))) λnG=>(aN_4 (zaN_ (i:=3) rfl (zH_ Qi0) (zQ_ (zc_ (zc_ (zc_ (zc_ zf_)))) (zj_ (zj_ (zj_ (zj_ zn_)))) (zd_ (zw_ (zc_ zf_) (zd_ (ze_ 0) (zb_ (zB_ (i:=1) (at_s zav_) (za_ 0 rfl))))) (zd_ (zw_ (zc_ zf_) (zd_ (zB_ (i:=0) at_0 (za_ 0 rfl)) (zb_ (ze_ 37)))) (zd_ (zw_ (zc_ zf_) (zd_ (zh_ zu_ (zB_ (i:=1) (at_s zav_) (za_ 0 rfl)) (ze_ 1)) (zb_ (zB_ (i:=1) (at_s zav_) (za_ 0 rfl))))) (zd_ (zw_ (zc_ zf_) (zd_ (zh_ zaU_ (zfd_ (ze_ 1)) (za_ 2 rfl)) (zb_ (zB_ (i:=1) (at_s zav_) (za_ 0 rfl))))) (zb_ (zw_ (zc_ zf_) (zd_ (zB_ (i:=0) at_0 (za_ 0 rfl)) (zb_ (zh_ zu_ (ze_ 37) (za_ 2 rfl))))))))))) λqr=>zee_ (i:=3) rfl (aN_4 (za4_ (zag_ Qi0) (EvF.ow (zh_ zV_ (EvO.fr (za5_ zas_ (za_ 3 rfl) (EvO.fr (zQ_ (zc_ zf_) (zj_ zn_) (zd_ (zw_ (zc_ zf_) (zd_ (ze_ 37) (zb_ (ze_ 37)))) (zb_ (zw_ (zc_ zf_) (zd_ (ze_ 0) (zb_ (ze_ 0)))))))))) (zh_ zp_ (za_ 1 rfl) (ze_ 7)))))))))⟩
def zbr_ (ay:(Int×Int))(ak:Int):Mo (Int×Int):=fnO (zbu_.1 (ay,ak))
def zcy_ (K:Fgg):Sp:=Ct K (csCons Qq1 (csLast tyInt)) (λc=>zbr_ c.1 c.2) (owF Qq1)
abbrev zZ_ (P:m7)(w:nL)(K:Fgg)(mg:Str->Option aL)(base:Heap):Prop:=Gd P w K mg base CX0 1 "_law_bad_field" ["_law_field", "_law_cell"] (zcy_ K)
def zbE_:{t:Fgg->XK->TS // ∀(P:m7) (w:nL) (K:Fgg) (mg:Str->Option aL) (base:Heap),En K mg->Tm P w K mg base 0 ["_law_name_here", "_law_cell", "_law_some"] "_law_bad_name" zdd_ (t K)}:=by fail "0"
noncomputable def zbV_:WC (Jx×Int) Jx zbE_.1 (λK c=>[(Zf tyStr c.1),(Zf tyInt c.2),Zd]) (λK=>(owF tyStr)):=⟨λc=>_,λK c E=>
 by dsimp only[zbE_];exact(zaN_ (i:=2) rfl (zH_ zW_) (zQ_ (zc_ (zc_ (zc_ (zc_ (zc_ (zc_ zf_)))))) (zj_ (zj_ (zj_ (zj_ (zj_ (zj_ zn_)))))) (zd_ (zs_ []) (zd_ (zh_ zct_ (zhU_ (zh_ zct_ (za_ 0 rfl) (zs_ Qm5)) zgV_ (zfH_ (ze_ 8))) (zs_ [120])) (zd_ (zh_ zct_ (zhU_ (za_ 0 rfl) zgV_ (zfH_ (ze_ 7))) (zs_ [55])) (zd_ (zh_ zct_ (zhU_ (za_ 0 rfl) zgV_ (zfH_ (zfd_ (ze_ 1)))) (zs_ [65])) (zd_ (zh_ zct_ (zhU_ (za_ 0 rfl) zgV_ (zfH_ (ze_ 7))) (zs_ [32])) (zd_ (zs_ [45]) (zb_ (zh_ zct_ (zhU_ (za_ 0 rfl) zgV_ (zfH_ (ze_ 3))) (zs_ [95])))))))))) λdm=>zee_ (i:=2) rfl (aN_3 (za4_ (zag_ zW_) (EvF.ow (zh_ zV_ (za_ 2 rfl) (zh_ zp_ (za_ 1 rfl) (ze_ 7)))))))⟩
def zbU_ (aq:Jx)(ak:Int):Mo Jx:=fnO (zbV_.1 (aq,ak))
def ze7_ (K:Fgg):Sp:=Ct K (csCons tyStr (csLast tyInt)) (λc=>zbU_ c.1 c.2) (owF tyStr)
abbrev zaq_ (P:m7)(w:nL)(K:Fgg)(mg:Str->Option aL)(base:Heap):Prop:=Gd P w K mg base CX0 1 "_law_bad_name" ["_law_name_here", "_law_cell"] (ze7_ K)
noncomputable def zaX_:{t:Fgg->XK->TS // ∀(P:m7) (w:nL) (K:Fgg) (mg:Str->Option aL) (base:Heap),En K mg->zah_ P w K mg base->zaq_ P w K mg base->zbv_ P w K mg base->zZ_ P w K mg base->Tm P w K mg base 1 ["_law_parts_here", "_law_cell", "_law_name_here", "_law_field", "_law_other_here", "_law_word", "_law_some"] "_law_bad_middle" zb7_ (t K)}:=by fail "0"
noncomputable def zaR_:WC ((List Dy)×Int) ((Jx×(Int×Int)) ⊕ (Jx×(Jx×((Int×Int)×(Int×Int))))) zaX_.1 (λK c=>[(Zf (tyL tyDy) c.1),(Zf tyInt c.2),Zd,Zd,Zd,Zd,Zd]) (λK=>(owF Qq3)):=⟨λc=>_,λK c E=>
 by dsimp only[zaX_];exact(zaQ_ (i:=2) rfl zW_ (zcE_ (zcH_ zax_) (zh_ zV_ (za_ 0 rfl) (ze_ 0))) λqG=>(aN_7 (zaQ_ (i:=3) rfl Qi0 (zg_ (zd_ (zh_ zt_ (za_ 1 rfl) (ze_ 8)) (zd_ (ze_ 24) (zb_ (ze_ 6))))) λqu=>(aN_7 (zaQ_ (i:=4) rfl Qi0 (zw_ (zc_ zf_) (zd_ (zB_ (i:=0) at_0 (za_ 3 rfl)) (zb_ (zh_ zu_ (zB_ (i:=1) (at_s zav_) (za_ 3 rfl)) (ze_ 1))))) λqI=>(aN_7 (zaQ_ (i:=5) rfl zW_ (zh_ zV_ (EvO.fr (zQ_ (zc_ zf_) (zj_ zn_) (zd_ (zs_ [109,97,116,101,115]) (zb_ (zs_ [119,105,116,104,111,117,116]))))) (zh_ zp_ (zh_ zt_ (za_ 1 rfl) (ze_ 3)) (ze_ 2))) λqi=>(aN_7 (zaN_ (i:=6) rfl (zH_ Qi1) (zQ_ (zc_ zf_) (zj_ zn_) (zd_ (zhE_ (T:=(tyTup (csCons tyStr (csLast Qq1)))) (zw_ (zc_ (zc_ (zc_ zf_))) (zd_ (za_ 5 rfl) (zd_ (za_ 2 rfl) (zd_ (za_ 3 rfl) (zb_ (za_ 3 rfl))))))) (zb_ (zhE_ (T:=(tyTup (csCons tyStr (csLast Qq1)))) (zw_ (zc_ (zc_ (zc_ zf_))) (zd_ (za_ 5 rfl) (zd_ (zg_ (zd_ (za_ 2 rfl) (zb_ (zh_ zt_ (za_ 1 rfl) (ze_ 8))))) (zd_ (za_ 3 rfl) (zb_ (za_ 3 rfl)))))))))) λqE=>zee_ (i:=6) rfl (aN_7 (zaN_ (i:=6) rfl (zH_ Qi1) (za5_ zas_ (za_ 6 rfl) (EvO.fr (O:=(owL Qq3)) (zQ_ (zc_ zf_) (zj_ zn_) (zd_ (zhE_ (T:=(tyTup (csCons tyStr (csLast Qq1)))) (zw_ (zc_ (zc_ (zc_ zf_))) (zd_ (za_ 5 rfl) (zd_ (zh_ zct_ (za_ 2 rfl) (zs_ [98])) (zd_ (za_ 3 rfl) (zb_ (za_ 4 rfl))))))) (zb_ (zhE_ (T:=(tyTup (csCons tyStr (csLast Qq1)))) (zw_ (zc_ (zc_ (zc_ zf_))) (zd_ (zs_ [109,97,116,101]) (zd_ (zg_ (zd_ (za_ 2 rfl) (zb_ (ze_ 0)))) (zd_ (za_ 3 rfl) (zb_ (za_ 3 rfl)))))))))))) λqB=>zee_ (i:=6) rfl (aN_7 (zaN_ (i:=6) rfl (zH_ Qi1) (za5_ zas_ (za_ 6 rfl) (EvO.fr (O:=(owL Qq3)) (zQ_ zf_ zn_ (zb_ (zhE_ (T:=(tyTup (csCons tyStr (csLast Qq1)))) (zw_ (zc_ (zc_ (zc_ zf_))) (zd_ (za_ 5 rfl) (zd_ (zg_ (zd_ (za_ 2 rfl) (zb_ (ze_ 0)))) (zd_ (zg_ (zd_ (za_ 3 rfl) (zb_ (zh_ zt_ (za_ 1 rfl) (ze_ 8))))) (zb_ (za_ 3 rfl))))))))))) λqA=>zee_ (i:=6) rfl (aN_7 (zaN_ (i:=6) rfl (zH_ Qi1) (za5_ zas_ (za_ 6 rfl) (EvO.fr (O:=(owL Qq3)) (zQ_ zf_ zn_ (zb_ (zhE_ (T:=(tyTup (csCons tyStr (csLast Qq1)))) (zw_ (zc_ (zc_ (zc_ zf_))) (zd_ (za_ 5 rfl) (zd_ (zg_ (zd_ (za_ 2 rfl) (zb_ (ze_ 0)))) (zd_ (za_ 3 rfl) (zb_ (zg_ (zd_ (za_ 3 rfl) (zb_ (zh_ zt_ (za_ 1 rfl) (ze_ 8))))))))))))))) λqz=>zee_ (i:=6) rfl (aN_7 (za4_ (zag_ Qi1) (EvF.ow (zh_ zV_ (EvO.fr (za5_ zas_ (za_ 6 rfl) (EvO.fr (O:=(owL Qq3)) (zQ_ (zc_ zf_) (zj_ zn_) (zd_ (zpl_ (T':=(tyTup (csCons tyStr (csCons tyStr (csCons Qq1 (csLast Qq1)))))) (zw_ (zc_ zf_) (zd_ (zs_ [102,105,114,115,116]) (zb_ (zg_ (zd_ (za_ 3 rfl) (zb_ (zh_ zt_ (za_ 1 rfl) (ze_ 8))))))))) (zb_ (zpl_ (T':=(tyTup (csCons tyStr (csCons tyStr (csCons Qq1 (csLast Qq1)))))) (zw_ (zc_ zf_) (zd_ (zs_ [102,105,114,115,116,115]) (zb_ (za_ 3 rfl))))))))))) (zh_ zp_ (za_ 1 rfl) (ze_ 8)))))))))))))))))))))⟩
def zaT_ (aj:(List Dy))(ak:Int):Mo ((Jx×(Int×Int)) ⊕ (Jx×(Jx×((Int×Int)×(Int×Int))))):=fnO (zaR_.1 (aj,ak))
def zd4_ (K:Fgg):Sp:=Ct K (csCons (tyL tyDy) (csLast tyInt)) (λc=>zaT_ c.1 c.2) (owF Qq3)
abbrev za2_ (P:m7)(w:nL)(K:Fgg)(mg:Str->Option aL)(base:Heap):Prop:=Gd P w K mg base CX0 2 "_law_bad_middle" ["_law_parts_here", "_law_cell"] (zd4_ K)
noncomputable def zgk_ (K:Fgg):TS:=(tSeq (tAsg (tTup (tCons (tTup (tCons (tC (.int 36)) (tCons (tC (.int 36)) tNil))) (tCons (tTup (tCons (tC (.int 1)) (tCons (tC (.int 1)) tNil))) (tCons (tC (tx [112,108,117,115])) (tCons (tTup (tCons (tC (.int 2)) (tCons (tC (.int 2)) tNil))) tNil))))) (gName 2)) (tSeq (mIfS (mTest (tOp mGt (tCB (mLen K) (tCons (mVar 0) tNil)) (tC (.int 0)))) (tAsg (tOp (mIx K) (mVar 0) (tOp mMod (tOp mDivG (mVar 1) (tC (.int 5))) (tCB (mLen K) (tCons (mVar 0) tNil)))) (gName 2)) tNext) (tSeq (tAsg (tCall (zcy_ K) [] E0 (tCons (tOp (mIx K) (mVar 2) (tOp mMulX (tOp mMod (mVar 1) (tC (.int 2))) (tC (.int 3)))) (tCons (tOp mDivG (mVar 1) (tC (.int 5))) tNil))) (gName 3)) (tSeq (tAsg (tLst (tCons (tTup (tCons (mVar 3) (tCons (tOp (mIx K) (mVar 2) (tC (.int 1))) (tCons (tOp (mIx K) (mVar 2) (tC (.int 2))) (tCons (tOp (mIx K) (mVar 2) (tC (.int 3))) tNil))))) (tCons (tTup (tCons (tOp (mIx K) (mVar 2) (tC (.int 0))) (tCons (mVar 3) (tCons (tOp (mIx K) (mVar 2) (tC (.int 2))) (tCons (tOp (mIx K) (mVar 2) (tC (.int 3))) tNil))))) (tCons (tTup (tCons (tOp (mIx K) (mVar 2) (tC (.int 0))) (tCons (tOp (mIx K) (mVar 2) (tC (.int 1))) (tCons (tOp (mIx K) (mVar 2) (tC (.int 2))) (tCons (mVar 3) tNil))))) tNil)))) (gName 4)) (tSeq (tAsg (tOp (mIx K) (tLst (tCons (tC (tx [])) (tCons (tC (tx [80,108,117,115])) (tCons (tC (tx [111,118,101,114])) (tCons (tC (tx [116,105,109,101,115,32])) (tCons (tC (tx [97,100,100])) tNil)))))) (tOp mMod (tOp mDivG (mVar 1) (tC (.int 5))) (tC (.int 5)))) (gName 5)) (tSeq (tAsg (tOp mAdd (mVar 4) (tLst (tCons (tTup (tCons (tOp (mIx K) (mVar 2) (tC (.int 0))) (tCons (tOp (mIx K) (mVar 2) (tC (.int 1))) (tCons (mVar 5) (tCons (tOp (mIx K) (mVar 2) (tC (.int 3))) tNil))))) tNil))) (gName 4)) (tSeq (mIfS (mTest (tOp (mEqK K) (tOp mMod (mVar 1) (tC (.int 5))) (tC (.int 4)))) (tRet (tComp ["_law_k"] [] (mRng1 (tCons (tC (.int 5)) tNil)) (gName 0) tTrue (tTup (tCons (tTup (tCons (tOp mAdd (tC (.int 20)) (mVar 0)) (tCons (tOp mAdd (tC (.int 20)) (mVar 0)) tNil))) (tCons (tTup (tCons (tC (.int 1)) (tCons (tC (.int 2)) tNil))) (tCons (tC (tx [112,108,117,115])) (tCons (tTup (tCons (tC (.int 3)) (tCons (tC (.int 3)) tNil))) tNil))))))) tNext) (tRet (tOp mAdd (tSl (mSl K) (mVar 0) tNoPart (mPart (mNeg (tC (.int 1))))) (tLst (tCons (tOp (mIx K) (mVar 4) (tOp mMod (mVar 1) (tC (.int 5)))) tNil)))))))))))
noncomputable def zbD_:WC (Qq6×Int) Qq6 (λK _=>zgk_ K) (λK c=>[(Zf (tyL Qq4) c.1),(Zf tyInt c.2),Zd,Zd,Zd,Zd]) (λK=>(owL Qq4)):=⟨λc=>_,λK c E=>
 (zaQ_ (i:=2) rfl zgS_ (zbe_ (zoZ_ Qi7 (λ_=>rfl)) (zw_ (zc_ (zc_ (zc_ zf_))) (zd_ (zw_ (zc_ zf_) (zd_ (ze_ 36) (zb_ (ze_ 36)))) (zd_ (zw_ (zc_ zf_) (zd_ (ze_ 1) (zb_ (ze_ 1)))) (zd_ (zs_ [112,108,117,115]) (zb_ (zw_ (zc_ zf_) (zd_ (ze_ 2) (zb_ (ze_ 2)))))))))) λiU=>(aN_6 (zcZ_ (λlL:Dy=>[(2,(Zf tyDp lL))]) (s_if (zF_ (zh_ zlS_ (zd5_ zb4_ (zb_ (za_ 0 rfl))) (ze_ 0))) (zbo_ (zaQ_ (i:=2) rfl zgS_ (zbe_ (zoZ_ Qi7 (λ_=>rfl)) (zh_ zV_ (za_ 0 rfl) (zh_ zp_ (zh_ zt_ (za_ 1 rfl) (ze_ 5)) (zd5_ zb4_ (zb_ (za_ 0 rfl)))))) λv20=>(aN_6 (zi_ (s:=v20) (S4 (.same (.same .nil))))))) (zi_ (s:=iU) (S4 (.same (.same .nil))))) λlL=>(aN_6 (zaQ_ (i:=3) rfl Qi0 (zg_ (zd_ (zcE_ (zcH_ Qi3) (zh_ za8_ (zbe_ (zb6_ zjb_) (za_ 2 rfl)) (zh_ zc7_ (zh_ zp_ (za_ 1 rfl) (ze_ 2)) (ze_ 3)))) (zb_ (zh_ zt_ (za_ 1 rfl) (ze_ 5))))) λqV=>(aN_6 (zaN_ (i:=4) rfl (zH_ Qi4) (zQ_ (zc_ (zc_ zf_)) (zj_ (zj_ zn_)) (zd_ (zw_ (zc_ (zc_ (zc_ zf_))) (zd_ (za_ 3 rfl) (zd_ (zcE_ (zcH_ Qi3) (zh_ za8_ (zbe_ (zb6_ zjb_) (za_ 2 rfl)) (ze_ 1))) (zd_ (zcE_ (zcH_ zax_) (zh_ za8_ (zbe_ (zb6_ zjb_) (za_ 2 rfl)) (ze_ 2))) (zb_ (zcE_ (zcH_ Qi3) (zh_ za8_ (zbe_ (zb6_ zjb_) (za_ 2 rfl)) (ze_ 3)))))))) (zd_ (zw_ (zc_ (zc_ (zc_ zf_))) (zd_ (zcE_ (zcH_ Qi3) (zh_ za8_ (zbe_ (zb6_ zjb_) (za_ 2 rfl)) (ze_ 0))) (zd_ (za_ 3 rfl) (zd_ (zcE_ (zcH_ zax_) (zh_ za8_ (zbe_ (zb6_ zjb_) (za_ 2 rfl)) (ze_ 2))) (zb_ (zcE_ (zcH_ Qi3) (zh_ za8_ (zbe_ (zb6_ zjb_) (za_ 2 rfl)) (ze_ 3)))))))) (zb_ (zw_ (zc_ (zc_ (zc_ zf_))) (zd_ (zcE_ (zcH_ Qi3) (zh_ za8_ (zbe_ (zb6_ zjb_) (za_ 2 rfl)) (ze_ 0))) (zd_ (zcE_ (zcH_ Qi3) (zh_ za8_ (zbe_ (zb6_ zjb_) (za_ 2 rfl)) (ze_ 1))) (zd_ (zcE_ (zcH_ zax_) (zh_ za8_ (zbe_ (zb6_ zjb_) (za_ 2 rfl)) (ze_ 2))) (zb_ (za_ 3 rfl)))))))))) λqC=>zee_ (i:=4) rfl (aN_6 (zaQ_ (i:=5) rfl zW_ (zh_ zV_ (EvO.fr (zQ_ (zc_ (zc_ (zc_ (zc_ zf_)))) (zj_ (zj_ (zj_ (zj_ zn_)))) (zd_ (zs_ []) (zd_ (zs_ [80,108,117,115]) (zd_ (zs_ [111,118,101,114]) (zd_ (zs_ [116,105,109,101,115,32]) (zb_ (zs_ [97,100,100])))))))) (zh_ zp_ (zh_ zt_ (za_ 1 rfl) (ze_ 5)) (ze_ 5))) λnA=>(aN_6 (zaN_ (i:=4) rfl (zH_ Qi4) (za5_ zas_ (za_ 4 rfl) (EvO.fr (zQ_ zf_ zn_ (zb_ (zw_ (zc_ (zc_ (zc_ zf_))) (zd_ (zcE_ (zcH_ Qi3) (zh_ za8_ (zbe_ (zb6_ zjb_) (za_ 2 rfl)) (ze_ 0))) (zd_ (zcE_ (zcH_ Qi3) (zh_ za8_ (zbe_ (zb6_ zjb_) (za_ 2 rfl)) (ze_ 1))) (zd_ (za_ 5 rfl) (zb_ (zcE_ (zcH_ Qi3) (zh_ za8_ (zbe_ (zb6_ zjb_) (za_ 2 rfl)) (ze_ 3)))))))))))) λnL=>zee_ (i:=4) rfl (aN_6 (zhk_ (s_if (zF_ (zh_ zao_ (zh_ zp_ (za_ 1 rfl) (ze_ 5)) (ze_ 4))) (za4_ (zH_ Qi4) (zaI_ (zm7_ (zb_ (ze_ 5))) (zK_ 0) (λ_=>dead1) (λiV=>zaK_) (λiV=>(zw_ (zc_ (zc_ (zc_ zf_))) (zd_ (zw_ (zc_ zf_) (zd_ (zh_ zu_ (ze_ 20) (za_ 0 rfl)) (zb_ (zh_ zu_ (ze_ 20) (za_ 0 rfl))))) (zd_ (zw_ (zc_ zf_) (zd_ (ze_ 1) (zb_ (ze_ 2)))) (zd_ (zs_ [112,108,117,115]) (zb_ (zw_ (zc_ zf_) (zd_ (ze_ 3) (zb_ (ze_ 3)))))))))))) (zi_ (s:=()) (S4 (.same (.same .nil))))) λ_=>(aN_6 (za4_ (zH_ Qi4) (za5_ zas_ (EvO.fr (zgQ_ (za_ 0 rfl) zgV_ (zfH_ (zfd_ (ze_ 1))))) (EvO.fr (zQ_ zf_ zn_ (zb_ (zh_ zV_ (za_ 4 rfl) (zh_ zp_ (za_ 1 rfl) (ze_ 5))))))))))))))))))))))⟩
def zbF_ (bj:Qq6)(ak:Int):Mo Qq6:=fnO (zbD_.1 (bj,ak))
def zfo_ (K:Fgg):Sp:=Ct K (csCons (tyL Qq4) (csLast tyInt)) (λc=>zbF_ c.1 c.2) (owL Qq4)
abbrev zbG_ (P:m7)(w:nL)(K:Fgg)(mg:Str->Option aL)(base:Heap):Prop:=Gd P w K mg base CX0 2 "_law_bad_work" ["_law_works", "_law_cell"] (zfo_ K)
def zbg_:{t:Fgg->XK->TS // ∀(P:m7) (w:nL) (K:Fgg) (mg:Str->Option aL) (base:Heap),En K mg->Tm P w K mg base 0 ["_law_board", "_law_cell", "_law_far"] "_law_bad_board" zcQ_ (t K)}:=by fail "0"
noncomputable def zbp_:WC ((List (Int×Int))×Int) (List (Int×Int)) zbg_.1 (λK c=>[(Zf (tyL Qq1) c.1),(Zf tyInt c.2),Zd]) (λK=>(owL Qq1)):=⟨λc=>_,λK c E=>
 by dsimp only[zbg_];exact(zaQ_ (i:=2) rfl zE_ (zh_ zp_ (zh_ zt_ (za_ 1 rfl) (ze_ 5)) (zh_ zjW_ (ze_ 10) (ze_ 18))) λnG=>(aN_3 (zhk_ (s_if (zF_ (zh_ zao_ (zh_ zp_ (za_ 1 rfl) (ze_ 5)) (ze_ 0))) (za4_ (zH_ Qi0) (za5_ zas_ (EvO.fr (zQ_ zf_ zn_ (zb_ (zw_ (zc_ zf_) (zd_ (zh_ zu_ (ze_ 41) (za_ 2 rfl)) (zb_ (ze_ 1))))))) (EvO.fr (zgQ_ (za_ 0 rfl) (zfH_ (ze_ 1)) zgV_)))) (zi_ (s:=()) (.same (.same (.same .nil))))) λ_=>(aN_3 (zhk_ (s_if (zF_ (zh_ zao_ (zh_ zp_ (za_ 1 rfl) (ze_ 5)) (ze_ 1))) (za4_ (zH_ Qi0) (za5_ zas_ (EvO.fr (zgQ_ (za_ 0 rfl) zgV_ (zfH_ (zfd_ (ze_ 1))))) (EvO.fr (zQ_ zf_ zn_ (zb_ (zw_ (zc_ zf_) (zd_ (ze_ 1) (zb_ (zh_ zu_ (ze_ 37) (za_ 2 rfl)))))))))) (zi_ (s:=()) (.same (.same (.same .nil))))) λ_=>(aN_3 (zhk_ (s_if (zF_ (zh_ zao_ (zh_ zp_ (za_ 1 rfl) (ze_ 5)) (ze_ 2))) (za4_ (zH_ Qi0) (zQ_ zf_ zn_ (zb_ (zw_ (zc_ zf_) (zd_ (zh_ zaU_ (ze_ 0) (za_ 2 rfl)) (zb_ (ze_ 1))))))) (zi_ (s:=()) (.same (.same (.same .nil))))) λ_=>(aN_3 (zhk_ (s_if (zF_ (zh_ zao_ (zh_ zp_ (za_ 1 rfl) (ze_ 5)) (ze_ 3))) (za4_ (zH_ Qi0) (zQ_ (zc_ zf_) (zj_ zn_) (zd_ (zw_ (zc_ zf_) (zd_ (zh_ zu_ (ze_ 1) (zh_ zp_ (za_ 2 rfl) (ze_ 40))) (zb_ (ze_ 5)))) (zb_ (zw_ (zc_ zf_) (zd_ (zh_ zu_ (ze_ 1) (zh_ zp_ (zh_ zt_ (za_ 2 rfl) (ze_ 40)) (ze_ 40))) (zb_ (ze_ 4)))))))) (zi_ (s:=()) (.same (.same (.same .nil))))) λ_=>(aN_3 (za4_ (zH_ Qi0) (za5_ zas_ (za_ 0 rfl) (EvO.fr (zQ_ (zc_ zf_) (zj_ zn_) (zd_ (zw_ (zc_ zf_) (zd_ (ze_ 1) (zb_ (zh_ zu_ (ze_ 1) (zh_ zp_ (za_ 2 rfl) (ze_ 36)))))) (zb_ (zw_ (zc_ zf_) (zd_ (ze_ 40) (zb_ (zh_ zu_ (ze_ 1) (zh_ zp_ (za_ 2 rfl) (ze_ 36))))))))))))))))))))))⟩
def zbi_ (bq:(List (Int×Int)))(ak:Int):Mo (List (Int×Int)):=fnO (zbp_.1 (bq,ak))
def zeq_ (K:Fgg):Sp:=Ct K (csCons (tyL Qq1) (csLast tyInt)) (λc=>zbi_ c.1 c.2) (owL Qq1)
abbrev zbk_ (P:m7)(w:nL)(K:Fgg)(mg:Str->Option aL)(base:Heap):Prop:=Gd P w K mg base CX0 1 "_law_bad_board" ["_law_board", "_law_cell"] (zeq_ K)
def zbQ_:{t:Fgg->XK->TS // ∀(P:m7) (w:nL) (K:Fgg) (mg:Str->Option aL) (base:Heap),En K mg->zah_ P w K mg base->Tm P w K mg base 1 ["_law_cell", "_law_field", "_law_wide", "_law_some"] "_law_bad_pick" zdo_ (t K)}:=by fail "0"
noncomputable def zbK_:WC Int (List ((Int×Int)×Jx)) zbQ_.1 (λK c=>[(Zf tyInt c),Zd,Zd,Zd]) (λK=>(owL Qq7)):=⟨λc=>_,λK c E=>
 by dsimp only[zbQ_];exact(zaQ_ (i:=1) rfl Qi0 (zg_ (zd_ (zh_ zt_ (za_ 0 rfl) (ze_ 3)) (zd_ (ze_ 36) (zb_ (ze_ 5))))) λnE=>(aN_4 (zaQ_ (i:=2) rfl zE_ (zh_ zu_ (zh_ zaU_ (zB_ (i:=1) (at_s zav_) (za_ 1 rfl)) (zB_ (i:=0) at_0 (za_ 1 rfl))) (ze_ 1)) λz9=>(aN_4 (zaN_ (i:=3) rfl (zH_ zW_) (zQ_ (zc_ (zc_ (zc_ (zc_ (zc_ zf_))))) (zj_ (zj_ (zj_ (zj_ (zj_ zn_))))) (zd_ (zh_ zdE_ (zs_ [65]) (zh_ zaU_ (za_ 2 rfl) (ze_ 1))) (zd_ (zh_ zdE_ (zs_ [65]) (zh_ zu_ (za_ 2 rfl) (ze_ 1))) (zd_ (zh_ zct_ (zs_ [97]) (zh_ zdE_ (zs_ [65]) (zh_ zaU_ (za_ 2 rfl) (ze_ 1)))) (zd_ (zh_ zct_ (zh_ zdE_ (zs_ [65]) (zh_ zaU_ (za_ 2 rfl) (ze_ 1))) (zs_ [95])) (zd_ (zh_ zdE_ (zs_ [45]) (za_ 2 rfl)) (zb_ (zs_ [])))))))) λqj=>zee_ (i:=3) rfl (aN_4 (zhk_ (s_if (zF_ (zh_ zao_ (zh_ zp_ (za_ 0 rfl) (ze_ 7)) (ze_ 6))) (za4_ Qi6 (zQ_ (zc_ zf_) (zj_ zn_) (zd_ (zw_ (zc_ zf_) (zd_ (za_ 1 rfl) (zb_ (zh_ zdE_ (zs_ [65]) (za_ 2 rfl))))) (zb_ (zw_ (zc_ zf_) (zd_ (zw_ (zc_ zf_) (zd_ (zB_ (i:=1) (at_s zav_) (za_ 1 rfl)) (zb_ (zB_ (i:=1) (at_s zav_) (za_ 1 rfl))))) (zb_ (zs_ [66])))))))) (zi_ (s:=()) (S4 .nil))) λ_=>(aN_4 (za4_ Qi6 (zQ_ zf_ zn_ (zb_ (zw_ (zc_ zf_) (zd_ (za_ 1 rfl) (zb_ (zh_ zV_ (za_ 3 rfl) (zh_ zp_ (za_ 0 rfl) (ze_ 7)))))))))))))))))⟩
def zbR_ (ak:Int):Mo (List ((Int×Int)×Jx)):=fnO (zbK_.1 ak)
def ze8_ (K:Fgg):Sp:=Ct K (csLast tyInt) (λc=>zbR_ c) (owL Qq7)
abbrev zbN_ (P:m7)(w:nL)(K:Fgg)(mg:Str->Option aL)(base:Heap):Prop:=Gd P w K mg base CX0 2 "_law_bad_pick" ["_law_cell"] (ze8_ K)
noncomputable def zcd_:{t:Fgg->XK->TS // ∀(P:m7) (w:nL) (K:Fgg) (mg:Str->Option aL) (base:Heap),En K mg->zZ_ P w K mg base->zaq_ P w K mg base->zbN_ P w K mg base->za2_ P w K mg base->zbG_ P w K mg base->zbk_ P w K mg base->Tm P w K mg base 2 ["_law_parts_here", "_law_cell", "_law_found", "_law_number", "_law_far", "_law_kind", "_law_field"] "_law_spoiled" zdX_ (t K)}:=by fail "0"
noncomputable def zC_:WC ((List Dy)×Int) (List Dy) zcd_.1 (λK c=>[(Zf (tyL tyDy) c.1),(Zf tyInt c.2),Zd,Zd,Zd,Zd,Zd]) (λK=>(owL tyDy)):=⟨λc=>_,λK c E=>
 by dsimp only[zcd_];exact(zhh_ (i:=2) rfl (zfl_ zft_ (zb_ (za_ 0 rfl))) λm6=>(aN_7 (zaQ_ (i:=3) rfl zE_ (zh_ zt_ (za_ 1 rfl) (ze_ 9)) λy4=>(aN_7 (zaQ_ (i:=4) rfl zE_ (zh_ zp_ (zh_ zt_ (za_ 3 rfl) (ze_ 4)) (zh_ zjW_ (ze_ 10) (ze_ 18))) λqt=>(aN_7 (zaQ_ (i:=5) rfl zE_ (zh_ zp_ (za_ 1 rfl) (ze_ 9)) λqM=>(aN_7 (zaQ_ (i:=6) rfl Qi0 (zg_ (zd_ (zw_ (zc_ zf_) (zd_ (ze_ 3) (zb_ (ze_ 5)))) (zb_ (za_ 3 rfl)))) λqp=>(aN_7 (zcZ_ (λjd:(List Dy)=>[(2,(Zo (owL tyDy) jd))]) (s_if (zF_ (zh_ zao_ (za_ 5 rfl) (ze_ 0))) (zbo_ (zcM_ (i:=2) rfl (zbe_ (zb6_ zcU_) (zg_ (zd_ (zcE_ (zcH_ zax_) (zh_ zV_ (za_ 0 rfl) (ze_ 0))) (zb_ (za_ 3 rfl))))) (ze_ 0) λnC=>(aN_7 (zi_ (s:=nC) (S4 (.same (.same (.same .nil)))))))) (zi_ (s:=m6) (S4 (.same (.same (.same .nil)))))) λjd=>(aN_7 (zcZ_ (λjb:(List Dy)=>[(2,(Zo (owL tyDy) jb))]) (s_if (zF_ (zh_ zao_ (za_ 5 rfl) (ze_ 1))) (zcM_ (i:=2) rfl (zbe_ (zb6_ (n_L (n_T (n_C Qi2 (n_1 zcU_))))) (EvO.fr (za5_ zas_ (EvO.fr (zgQ_ (zcE_ (zcH_ (m_L (m_T (m_C Qi3 (m_1 zax_))))) (zh_ zV_ (za_ 0 rfl) (ze_ 1))) zgV_ (zfH_ (ze_ 3)))) (EvO.fr (z1_ (zb_ (za_ 3 rfl))))))) (ze_ 1) λpF=>(aN_7 (zbo_ (zcZ_ (λja:(List Dy)=>[(2,(Zo (owL tyDy) ja))]) (s_if (zF_ (zh_ zao_ (zh_ zp_ (za_ 3 rfl) (ze_ 9)) (ze_ 7))) (zbo_ (zcM_ (i:=2) rfl (zbe_ (zb6_ (n_L (n_T (n_C Qi2 (n_1 zcU_))))) (EvO.fr (za5_ zhG_ (EvO.fr (zQ_ zf_ zn_ (zb_ (zw_ (zc_ zf_) (zd_ (zw_ (zc_ zf_) (zd_ (ze_ 7) (zb_ (ze_ 7)))) (zb_ (zs_ [65]))))))) (ze_ 9)))) (ze_ 1) λpE=>(aN_7 (zi_ (s:=pE) (S4 (.same (.same (.same .nil)))))))) (zi_ (s:=pF) (S4 (.same (.same (.same .nil)))))) λja=>(aN_7 (zi_ (s:=ja) (S4 (.same (.same (.same .nil)))))))))) (zi_ (s:=jd) (S4 (.same (.same (.same .nil)))))) λjb=>(aN_7 (zcZ_ (λi9:(List Dy)=>[(2,(Zo (owL tyDy) i9))]) (s_if (zF_ (zh_ zao_ (za_ 5 rfl) (ze_ 2))) (zbo_ (zcM_ (i:=2) rfl (zbe_ (zb6_ Qi5) (zg_ (zd_ (za_ 0 rfl) (zb_ (za_ 3 rfl))))) (ze_ 2) λpD=>(aN_7 (zi_ (s:=pD) (S4 (.same (.same (.same .nil)))))))) (zi_ (s:=jb) (S4 (.same (.same (.same .nil)))))) λi9=>(aN_7 (zcZ_ (λi8:(List Dy)=>[(2,(Zo (owL tyDy) i8))]) (s_if (zF_ (zh_ zao_ (za_ 5 rfl) (ze_ 3))) (zbo_ (zcM_ (i:=2) rfl (zbe_ (zb6_ (n_L Qi2)) (zh_ zV_ (EvO.fr (zQ_ (zc_ zf_) (zj_ zn_) (zd_ (EvO.fr (za5_ zas_ (EvO.fr (zgQ_ (zcE_ (zcH_ (m_L Qi3)) (zh_ zV_ (za_ 0 rfl) (ze_ 3))) zgV_ (zfH_ (ze_ 5)))) (EvO.fr (zQ_ zf_ zn_ (zb_ (za_ 6 rfl)))))) (zb_ (EvO.fr (za5_ zhG_ (EvO.fr (zQ_ zf_ zn_ (zb_ (zw_ (zc_ zf_) (zd_ (zh_ zu_ (ze_ 1) (zh_ zp_ (za_ 3 rfl) (ze_ 24))) (zb_ (ze_ 24))))))) (ze_ 7))))))) (zh_ zp_ (zh_ zt_ (za_ 3 rfl) (ze_ 7)) (ze_ 2)))) (ze_ 3) λkR=>(aN_7 (zi_ (s:=kR) (S4 (.same (.same (.same .nil)))))))) (zi_ (s:=i9) (S4 (.same (.same (.same .nil)))))) λi8=>(aN_7 (zcZ_ (λeJ:(List Dy)=>[(2,(Zo (owL tyDy) eJ))]) (s_if (zF_ (zh_ zao_ (za_ 5 rfl) (ze_ 4))) (zbo_ (zcM_ (i:=2) rfl (zbe_ (zb6_ (n_L Qi7)) (EvO.fr (z1_ (zd_ (zcE_ (zcH_ (m_L (m_T (m_C Qi3 (m_C Qi3 (m_C zax_ (m_1 Qi3))))))) (zh_ zV_ (za_ 0 rfl) (ze_ 4))) (zb_ (za_ 3 rfl)))))) (ze_ 4) λkQ=>(aN_7 (zi_ (s:=kQ) (S4 (.same (.same (.same .nil)))))))) (zi_ (s:=i8) (S4 (.same (.same (.same .nil)))))) λeJ=>(aN_7 (zcZ_ (λeI:(List Dy)=>[(2,(Zo (owL tyDy) eI))]) (s_if (zF_ (zh_ zao_ (za_ 5 rfl) (ze_ 5))) (zbo_ (zcM_ (i:=2) rfl (zbe_ (zb6_ zjh_) (zh_ zV_ (EvO.fr (zQ_ (zc_ (zc_ (zc_ zf_))) (zj_ (zj_ (zj_ zn_))) (zd_ (zfd_ (ze_ 1)) (zd_ (zh_ zu_ (ze_ 4) (za_ 4 rfl)) (zd_ (zh_ zu_ (zd5_ zb4_ (zb_ (zcE_ (zcH_ (m_L Qi3)) (zh_ zV_ (za_ 0 rfl) (ze_ 3))))) (ze_ 1)) (zb_ (zh_ zaU_ (zfd_ (ze_ 1)) (za_ 4 rfl)))))))) (zh_ zp_ (za_ 3 rfl) (ze_ 4)))) (ze_ 5) λkP=>(aN_7 (zi_ (s:=kP) (S4 (.same (.same (.same .nil)))))))) (zi_ (s:=eJ) (S4 (.same (.same (.same .nil)))))) λeI=>(aN_7 (zcZ_ (λeF:(List Dy)=>[(2,(Zo (owL tyDy) eF))]) (s_if (zF_ (zh_ zao_ (za_ 5 rfl) (ze_ 6))) (zbo_ (zcM_ (i:=2) rfl (zbe_ (zb6_ (n_L Qi2)) (zh_ zV_ (EvO.fr (zQ_ (zc_ zf_) (zj_ zn_) (zd_ (EvO.fr (za5_ zas_ (EvO.fr (zgQ_ (zcE_ (zcH_ (m_L Qi3)) (zh_ zV_ (za_ 0 rfl) (ze_ 6))) zgV_ (zfH_ (ze_ 3)))) (EvO.fr (zQ_ zf_ zn_ (zb_ (za_ 6 rfl)))))) (zb_ (EvO.fr (za5_ zhG_ (EvO.fr (zQ_ zf_ zn_ (zb_ (zw_ (zc_ zf_) (zd_ (ze_ 1) (zb_ (zh_ zu_ (ze_ 1) (zh_ zp_ (za_ 3 rfl) (ze_ 36))))))))) (ze_ 5))))))) (zh_ zp_ (zh_ zt_ (za_ 3 rfl) (ze_ 7)) (ze_ 2)))) (ze_ 6) λkO=>(aN_7 (zi_ (s:=kO) (S4 (.same (.same (.same .nil)))))))) (zi_ (s:=eI) (S4 (.same (.same (.same .nil)))))) λeF=>(aN_7 (zcZ_ (λeE:(List Dy)=>[(2,(Zo (owL tyDy) eE))]) (s_if (zF_ (zh_ zao_ (za_ 5 rfl) (ze_ 7))) (zbo_ (zcM_ (i:=2) rfl (zbe_ (zb6_ zjh_) (zh_ zV_ (EvO.fr (zQ_ (zc_ (zc_ (zc_ zf_))) (zj_ (zj_ (zj_ zn_))) (zd_ (ze_ 0) (zd_ (ze_ 13) (zd_ (zh_ zaU_ (zfd_ (ze_ 1)) (za_ 4 rfl)) (zb_ (zh_ zu_ (ze_ 13) (za_ 4 rfl)))))))) (zh_ zp_ (za_ 3 rfl) (ze_ 4)))) (ze_ 7) λkN=>(aN_7 (zi_ (s:=kN) (S4 (.same (.same (.same .nil)))))))) (zi_ (s:=eF) (S4 (.same (.same (.same .nil)))))) λeE=>(aN_7 (zcZ_ (λgd:(List Dy)=>[(2,(Zo (owL tyDy) gd))]) (s_if (zF_ (zh_ zao_ (za_ 5 rfl) (ze_ 8))) (zbo_ (zcM_ (i:=2) rfl (zbe_ (zb6_ (n_L Qi2)) (EvO.fr (z1_ (zd_ (zcE_ (zcH_ (m_L Qi3)) (zh_ zV_ (za_ 0 rfl) (ze_ 8))) (zb_ (za_ 3 rfl)))))) (ze_ 8) λkM=>(aN_7 (zi_ (s:=kM) (S4 (.same (.same (.same .nil)))))))) (zi_ (s:=eE) (S4 (.same (.same (.same .nil)))))) λgd=>(aN_7 (zjw_ (i:=2) rfl)))))))))))))))))))))))))))))⟩
def zz_ (aj:(List Dy))(ak:Int):Mo (List Dy):=fnO (zC_.1 (aj,ak))
def zfS_ (K:Fgg):Sp:=Ct K (csCons (tyL tyDy) (csLast tyInt)) (λc=>zz_ c.1 c.2) (owL tyDy)
abbrev zce_ (P:m7)(w:nL)(K:Fgg)(mg:Str->Option aL)(base:Heap):Prop:=Gd P w K mg base CX0 3 "_law_spoiled" ["_law_parts_here", "_law_cell"] (zfS_ K)
def zbl_:{t:Fgg->XK->TS // ∀(P:m7) (w:nL) (K:Fgg) (mg:Str->Option aL) (base:Heap),En K mg->Tm P w K mg base 0 ["values"] "own_list" zcP_ (t K)}:=by fail "0"
def zcW_:WC (Option Qq6) Qq6 zbl_.1 (λK c=>[(Zf (tyOpt (tyL Qq4)) c)]) (λK=>(owL Qq4)):=⟨λc=>_,λK c E=>
 by dsimp only[zbl_];exact(za4_ (zH_ Qi4) (zmi_ (zF_ (zh_ zic_ (za_ 0 rfl) zgP_)) (zcN_ Qq4) (zfl_ zft_ (zb_ (zaz_ (za_ 0 rfl))))))⟩
def zfj_ (aT:(Option Qq6)):Mo Qq6:=fnO (zcW_.1 aT)
def zcj_ (K:Fgg):Sp:=Ct K (csLast (tyOpt (tyL Qq4))) (λc=>zfj_ c) (owL Qq4)
abbrev zcV_ (P:m7)(w:nL)(K:Fgg)(mg:Str->Option aL)(base:Heap):Prop:=Gd P w K mg base CX0 1 "own_list" ["values"] (zcj_ K)
def zbn_:{t:Fgg->XK->TS // ∀(P:m7) (w:nL) (K:Fgg) (mg:Str->Option aL) (base:Heap),En K mg->Tm P w K mg base 0 ["values"] "own_list" zcT_ (t K)}:=by fail "0"
def zcL_:WC (Option (List (Int×Int))) (List (Int×Int)) zbn_.1 (λK c=>[(Zf (tyOpt (tyL Qq1)) c)]) (λK=>(owL Qq1)):=⟨λc=>_,λK c E=>
 by dsimp only[zbn_];exact(za4_ (zH_ Qi0) (zmi_ (zF_ (zh_ zic_ (za_ 0 rfl) zgP_)) (zcN_ Qq1) (zfl_ zft_ (zb_ (zaz_ (za_ 0 rfl))))))⟩
def zfb_ (aT:(Option (List (Int×Int)))):Mo (List (Int×Int)):=fnO (zcL_.1 aT)
def zaY_ (K:Fgg):Sp:=Ct K (csLast (tyOpt (tyL Qq1))) (λc=>zfb_ c) (owL Qq1)
abbrev zcI_ (P:m7)(w:nL)(K:Fgg)(mg:Str->Option aL)(base:Heap):Prop:=Gd P w K mg base CX0 1 "own_list" ["values"] (zaY_ K)
def zgg_:{t:Fgg->XK->TS // ∀(P:m7) (w:nL) (K:Fgg) (mg:Str->Option aL) (base:Heap),En K mg->TmX P w K mg base 0 ["holds", "words"] "ask_for" ziB_ (t K)}:=by fail "0"
def zid_:WN (Bool×Jx) zgg_.1 (λK c=>[(Zf tyBl c.1),(Zf tyStr c.2)]) [Zd,Zd]:=⟨λc=>_,λK c E=>
 by dsimp only[zgg_];exact(s_if (zmc_ (znx_ (za_ 0 rfl))) (zm0_ zf_ (zb_ (za_ 1 rfl))) (zi_ (s:=()) (.dead (.dead .nil))))⟩
def zba_ (dB:Bool)(dw:Jx):Mo Unit:=fnU (zid_.1 (dB,dw))
def zkE_ (K:Fgg):Sp:=Ct K (csCons tyBl (csLast tyStr)) (λc=>zba_ c.1 c.2) (owF tyNon)
abbrev zN_ (P:m7)(w:nL)(K:Fgg)(mg:Str->Option aL)(base:Heap):Prop:=Gd P w K mg base (CXx P w) 1 "ask_for" ["holds", "words"] (zkE_ K)
def zbj_:{t:Fgg->XK->TS // ∀(P:m7) (w:nL) (K:Fgg) (mg:Str->Option aL) (base:Heap),En K mg->zN_ P w K mg base->TmX P w K mg base 1 Qn1 "check_lengths" zcK_ (t K)}:=by fail "0"
noncomputable def zaA_:WN Qq2 zbj_.1 (λK c=>[(Zf (Qq0 K) c)]) [Zd]:=⟨λc=>_,λK c E=>
 by dsimp only[zbj_];exact(zay_ (zA_ (zd_ (zh_ zck_ (zd5_ zb4_ (zb_ (zai_ (ns:=Qn0) (by decide +kernel) (n:=1) rfl (at_s at_0) (za_ 0 rfl)))) (ze_ 8)) (zb_ (zs_ [97,110,32,97,115,107,105,110,103,32,104,97,115,32,56,32,112,105,99,107,115,32,97,116,32,109,111,115,116])))) λv8=>(aN_1 (zay_ (zA_ (zd_ (zh_ zck_ (zd5_ zb4_ (zb_ (zai_ (ns:=Qn0) (by decide +kernel) (n:=3) rfl (at_s (at_s (at_s at_0))) (za_ 0 rfl)))) (ze_ 6)) (zb_ (zs_ [97,110,32,97,115,107,105,110,103,32,104,97,115,32,54,32,107,101,121,115,32,97,116,32,109,111,115,116])))) λiQ=>(aN_1 (zay_ (zA_ (zd_ (zh_ zck_ (zd5_ zb4_ (zb_ (zai_ (ns:=Qn0) (by decide +kernel) (n:=4) rfl (at_s (at_s (at_s (at_s at_0)))) (za_ 0 rfl)))) (ze_ 4)) (zb_ (zs_ [97,110,32,97,115,107,105,110,103,32,104,97,115,32,52,32,119,111,114,107,115,32,97,116,32,109,111,115,116])))) λp5=>(aN_1 (zbo_ (zay_ (zA_ (zd_ (zh_ zck_ (zd5_ zb4_ (zb_ (zai_ (ns:=Qn0) (by decide +kernel) (n:=6) rfl (at_s (at_s (at_s (at_s (at_s (at_s at_0)))))) (za_ 0 rfl)))) (ze_ 4)) (zb_ (zs_ [97,110,32,97,115,107,105,110,103,32,104,97,115,32,52,32,115,117,109,115,32,97,116,32,109,111,115,116])))) λpX=>(aN_1 (zi_ (s:=()) (.dead .nil)))))))))))⟩
def zr_ (ae:Qq2):Mo Unit:=fnU (zaA_.1 ae)
def zeX_ (K:Fgg):Sp:=Ct K (csLast (Qq0 K)) (λc=>zr_ c) (owF tyNon)
abbrev zbs_ (P:m7)(w:nL)(K:Fgg)(mg:Str->Option aL)(base:Heap):Prop:=Gd P w K mg base (CXx P w) 2 "check_lengths" Qn1 (zeX_ K)
def zkq_:{t:Fgg->XK->TS // ∀(P:m7) (w:nL) (K:Fgg) (mg:Str->Option aL) (base:Heap),En K mg->Tm P w K mg base 0 Qn1 "mates_by" zg8_ (t K)}:=by fail "0"
noncomputable def zkR_ (ae:Qq2):Mo (Out Bool Unit Unit):=
 (Mb (Mb (Mb (Mb (Mq ae) λkY=>Mq kY.2.2.1) λcV=>Mb (Mq ()) λqU=>Mq cV.isSome) λw8=>if w8 then(Mb (Mb (Mb (Mb (Mq ae) λw4=>Mq w4.2.2.1) λw5=>Mo.opt w5) λw6=>Mq (w6.elim (λc=>c.1) (λc=>c.1))) λv7=>Mq (([[109,97,116,101,115],[119,105,116,104,111,117,116]]:Jy).any λy=>decide (y=v7)))else Mq false) λr9=>Mq (.rt r9))
def zj5_ (ae:Qq2):Mo Bool:=fnO (zkR_ ae)
def zfA_ (K:Fgg):Sp:=Ct K (csLast (Qq0 K)) (λc=>zj5_ c) (owF tyBl)
abbrev zby_ (P:m7)(w:nL)(K:Fgg)(mg:Str->Option aL)(base:Heap):Prop:=Gd P w K mg base CX0 1 "mates_by" Qn1 (zfA_ K)
def zau_:{t:Fgg->XK->TS // ∀(P:m7) (w:nL) (K:Fgg) (mg:Str->Option aL) (base:Heap),En K mg->zN_ P w K mg base->zby_ P w K mg base->TmX P w K mg base 1 ["asking", "many"] "check_middle_word" za9_ (t K)}:=by fail "0"
noncomputable def zbf_:WN Qq2 zau_.1 (λK c=>[(Zf (Qq0 K) c),Zd]) [Zd,Zd]:=⟨λc=>_,λK c E=>
 by dsimp only[zau_];exact(zoz_ (LS:=(λ_:Unit=>[(Zf (Qq0 K) c),Zd])) (s_if (zF_ (zh_ zic_ (zai_ (ns:=Qn0) (by decide +kernel) (n:=2) rfl (at_s (at_s at_0)) (za_ 0 rfl)) zgP_)) zsM_ (zi_ (s:=()) (.same (.same .nil)))) λ_=>(aN_2 (zaQ_ (i:=1) rfl zE_ (zd5_ (zkn_ (zc_ zf_) (zc_ (zc_ (zc_ zf_)))) (zb_ (zaz_ (zai_ (ns:=Qn0) (by decide +kernel) (n:=2) rfl (at_s (at_s at_0)) (za_ 0 rfl))))) λm7=>(aN_2 (zay_ (zA_ (zd_ (zer_ (zh_ zlS_ (za_ 1 rfl) (ze_ 0)) (ztl_ (zg_ (zb_ (za_ 0 rfl))) (zh_ zrE_ (zqU_ (i:=0) at_0 at_0 (zaz_ (zai_ (ns:=Qn0) (by decide +kernel) (n:=2) rfl (at_s (at_s at_0)) (za_ 0 rfl)))) (zs_ [102,105,114,115,116])))) (zb_ (zs_ [97,32,109,105,100,100,108,101,32,104,97,115,32,111,110,101,32,111,102,32,116,104,114,101,101,32,119,111,114,100,115])))) λp5=>(aN_2 (zbo_ (zay_ (zA_ (zd_ (zh_ zao_ (za_ 1 rfl) (ev_if (zF_ (zg_ (zb_ (za_ 0 rfl)))) (ze_ 4) (ze_ 2))) (zb_ (zs_ [97,32,109,105,100,100,108,101,32,104,97,115,32,119,104,97,116,32,105,116,115,32,119,111,114,100,32,119,97,110,116,115])))) λpX=>(aN_2 (zi_ (s:=()) (.dead (.dead .nil))))))))))))⟩
def zx_ (ae:Qq2):Mo Unit:=fnU (zbf_.1 ae)
def zc9_ (K:Fgg):Sp:=Ct K (csLast (Qq0 K)) (λc=>zx_ c) (owF tyNon)
abbrev zar_ (P:m7)(w:nL)(K:Fgg)(mg:Str->Option aL)(base:Heap):Prop:=Gd P w K mg base (CXx P w) 2 "check_middle_word" Qn1 (zc9_ K)
def zel_:{t:Fgg->XK->TS // ∀(P:m7) (w:nL) (K:Fgg) (mg:Str->Option aL) (base:Heap),En K mg->zby_ P w K mg base->Tm P w K mg base 1 Qn1 "names_of" zgC_ (t K)}:=by fail "0"
noncomputable def zgB_:WC Qq2 Jy zel_.1 (λK c=>[(Zf (Qq0 K) c)]) (λK=>(owL tyStr)):=⟨λc=>_,λK c E=>
 by dsimp only[zel_];exact(za4_ (zH_ zW_) (zmi_ (zF_ (zg_ (zb_ (za_ 0 rfl)))) (zQ_ (zc_ zf_) (zj_ zn_) (zd_ (zai_ (ns:=Qn0) (by decide +kernel) (n:=0) rfl at_0 (za_ 0 rfl)) (zb_ (zB_ (i:=1) (at_s at_0) (znb_ (zaz_ (zai_ (ns:=Qn0) (by decide +kernel) (n:=2) rfl (at_s (at_s at_0)) (za_ 0 rfl)))))))) (zQ_ zf_ zn_ (zb_ (zai_ (ns:=Qn0) (by decide +kernel) (n:=0) rfl at_0 (za_ 0 rfl))))))⟩
def z6_ (ae:Qq2):Mo Jy:=fnO (zgB_.1 ae)
def zjr_ (K:Fgg):Sp:=Ct K (csLast (Qq0 K)) (λc=>z6_ c) (owL tyStr)
abbrev zeV_ (P:m7)(w:nL)(K:Fgg)(mg:Str->Option aL)(base:Heap):Prop:=Gd P w K mg base CX0 2 "names_of" Qn1 (zjr_ K)
def zlI_ (K:Fgg):TS:=(tRet (mAndV (mChain mLe mLe (tC (.int 1)) (tCB (mLen K) (tCons (mVar 0) tNil)) (tC (.int 8))) (tCB (mAll K) (tCons (tComp ["letter"] [] (iAny K (mVar 0)) (gName 0) tTrue (tOp (mIn K false) (mVar 0) (tC (tx Qm0)))) tNil))))
noncomputable def zed_:WC Jx Bool (λK _=>zlI_ K) (λK c=>[(Zf tyStr c)]) (λK=>(owF tyBl)):=⟨λc=>_,λK c E=>
 (za4_ (zag_ zbX_) (EvF.ow (zer_ (zf3_ zck_ zck_ (ze_ 1) (zd5_ zkg_ (zb_ (za_ 0 rfl))) (ze_ 8)) (zd5_ zqS_ (zb_ (EvO.fr (O:=(owL tyBl)) (zaI_ (zqc_ (za_ 0 rfl)) (zK_ 0) (λ_=>dead1) (λfN=>zaK_) (λfN=>(zh_ zrD_ (za_ 0 rfl) (zs_ Qm0))))))))))⟩
def z9_ (bO:Jx):Mo Bool:=fnO (zed_.1 bO)
def zjB_ (K:Fgg):Sp:=Ct K (csLast tyStr) (λc=>z9_ c) (owF tyBl)
abbrev zf1_ (P:m7)(w:nL)(K:Fgg)(mg:Str->Option aL)(base:Heap):Prop:=Gd P w K mg base CX0 1 "is_name" ["text"] (zjB_ K)
def zcc_:{t:Fgg->XK->TS // ∀(P:m7) (w:nL) (K:Fgg) (mg:Str->Option aL) (base:Heap),En K mg->zeV_ P w K mg base->zN_ P w K mg base->zf1_ P w K mg base->TmX P w K mg base 2 ["asking", "names", "name"] "check_names" zdU_ (t K)}:=by fail "0"
noncomputable def z5_:WN Qq2 zcc_.1 (λK c=>[(Zf (Qq0 K) c),Zd,Zd]) [Zd,Zd,Zd]:=⟨λc=>_,λK c E=>
 by dsimp only[zcc_];exact(zaN_ (i:=1) rfl (zH_ zW_) (z1_ (zb_ (za_ 0 rfl))) λnP=>zee_ (i:=1) rfl (aN_3 (zhk_ ( (ziN_ (LS:=(λ_:Unit=>[(Zf (Qq0 K) c),(Zf (tyL tyStr) nP),Zd])) (s0:=()) (ei_l (za_ 1 rfl)) (zK_ 2) λ_ bX=>aN_3 (zbo_ (zay_ (zA_ (zd_ (zg_ (zb_ (za_ 2 rfl))) (zb_ (zs_ [97,32,110,97,109,101,32,104,97,115,32,111,110,101,32,116,111,32,101,105,103,104,116,32,115,109,97,108,108,32,108,101,116,116,101,114,115])))) λw9=>(aN_3 (zi_ (s:=()) (.same (.same (.dead .nil))))))))) λ_=>(aN_3 (zbo_ (zay_ (zA_ (zd_ (ztl_ (zh_ zqP_ (zh_ zV_ (za_ 1 rfl) (ze_ 0)) (zh_ zV_ (za_ 1 rfl) (zfd_ (ze_ 1)))) (zh_ zao_ (zd5_ zb4_ (zb_ (za_ 1 rfl))) (ze_ 1))) (zb_ (zs_ [116,104,101,32,116,119,111,32,110,97,109,101,115,32,97,114,101,32,117,110,108,105,107,101])))) λfW=>(aN_3 (zi_ (s:=()) (.dead (.dead (.same .nil)))))))))))⟩
def zo_ (ae:Qq2):Mo Unit:=fnU (z5_.1 ae)
def zgb_ (K:Fgg):Sp:=Ct K (csLast (Qq0 K)) (λc=>zo_ c) (owF tyNon)
abbrev zcv_ (P:m7)(w:nL)(K:Fgg)(mg:Str->Option aL)(base:Heap):Prop:=Gd P w K mg base (CXx P w) 3 "check_names" Qn1 (zgb_ K)
noncomputable def zfe_ (K:Fgg):TS:=(tSeq (mIfS (mTest (tOp mIs (mFld (gA K "Asking") (mVar 0) "middle") (tC .non))) (tRet (tLst tNil)) tNext) (tRet (mIf (mTest (tCall (zfA_ K) [] E0 (tCons (mVar 0) tNil))) (tCB (mList K) (tCons (tSl (rSlT K) (mFld (gA K "Asking") (mVar 0) "middle") (mPart (tC (.int 2))) tNoPart) tNil)) (tLst (tCons (tOp (mIx K) (mFld (gA K "Asking") (mVar 0) "middle") (tC (.int 1))) tNil)))))
noncomputable def zcJ_:WC Qq2 (List (Int×Int)) (λK _=>zfe_ K) (λK c=>[(Zf (Qq0 K) c)]) (λK=>(owL Qq1)):=⟨λc=>_,λK c E=>
 (zoz_ (LS:=(λ_:Unit=>[(Zf (Qq0 K) c)])) (s_if (zF_ (zh_ zic_ (zai_ (ns:=Qn0) (by decide +kernel) (n:=2) rfl (at_s (at_s at_0)) (za_ 0 rfl)) zgP_)) (za4_ (zH_ Qi0) (zcN_ Qq1)) (zi_ (s:=()) (.same .nil))) λ_=>(aN_1 (za4_ (zH_ Qi0) (zmi_ (zF_ (zg_ (zb_ (za_ 0 rfl)))) (zfl_ (zo3_ (zj_ zn_)) (zb_ (zpU_ (dp_s dp_1) (znb_ (zaz_ (zai_ (ns:=Qn0) (by decide +kernel) (n:=2) rfl (at_s (at_s at_0)) (za_ 0 rfl))))))) (zQ_ zf_ zn_ (zb_ (zB_ (i:=1) (at_s zav_) (zql_ (zaz_ (zai_ (ns:=Qn0) (by decide +kernel) (n:=2) rfl (at_s (at_s at_0)) (za_ 0 rfl)))))))))))⟩
def z0_ (ae:Qq2):Mo (List (Int×Int)):=fnO (zcJ_.1 ae)
def zaZ_ (K:Fgg):Sp:=Ct K (csLast (Qq0 K)) (λc=>z0_ c) (owL Qq1)
abbrev zaf_ (P:m7)(w:nL)(K:Fgg)(mg:Str->Option aL)(base:Heap):Prop:=Gd P w K mg base CX0 2 "middle_fields" Qn1 (zaZ_ K)
noncomputable def zhP_ (K:Fgg):TS:=(tSeq (tAsg (tOp mAdd (tOp mAdd (tOp mAdd (tComp ["pick"] [] (iAny K (mFld (gA K "Asking") (mVar 0) "picks")) (gName 0) tTrue (tOp (mIx K) (mVar 0) (tC (.int 0)))) (tCall (zaZ_ K) [] E0 (tCons (mVar 0) tNil))) (mFld (gA K "Asking") (mVar 0) "order")) (mFld (gA K "Asking") (mVar 0) "sums")) (gName 1)) (tSeq (tFor (iAny K (mFld (gA K "Asking") (mVar 0) "works")) (gName 2) (tDrop (tBM K "list" rExtend (mVar 1) (tCons (tLst (tCons (tOp (mIx K) (mVar 2) (tC (.int 0))) (tCons (tOp (mIx K) (mVar 2) (tC (.int 1))) (tCons (tOp (mIx K) (mVar 2) (tC (.int 3))) tNil)))) tNil)))) (tRet (mVar 1))))
noncomputable def zbI_:WC Qq2 (List (Int×Int)) (λK _=>zhP_ K) (λK c=>[(Zf (Qq0 K) c),Zd,Zd]) (λK=>(owL Qq1)):=⟨λc=>_,λK c E=>
 (zaN_ (i:=1) rfl (zH_ Qi0) (za5_ zas_ (EvO.fr (O:=(owL Qq1)) (za5_ zas_ (EvO.fr (O:=(owL Qq1)) (za5_ zas_ (EvO.fr (O:=(owL Qq1)) (zaI_ (ei_l (zai_ (ns:=Qn0) (by decide +kernel) (n:=1) rfl (at_s at_0) (za_ 0 rfl))) (zK_ 0) (λ_=>dead1) (λbK=>zaK_) (λbK=>(zB_ (i:=0) at_0 (za_ 0 rfl))))) (EvO.fr (z1_ (zb_ (za_ 0 rfl)))))) (zai_ (ns:=Qn0) (by decide +kernel) (n:=3) rfl (at_s (at_s (at_s at_0))) (za_ 0 rfl)))) (zai_ (ns:=Qn0) (by decide +kernel) (n:=6) rfl (at_s (at_s (at_s (at_s (at_s (at_s at_0)))))) (za_ 0 rfl))) λh_=>(aN_3 (zcZ_ (λfP:(List (Int×Int))=>[(1,(Zo (owL Qq1) fP))]) ( (ziN_ (LS:=(λfP:(List (Int×Int))=>[(Zf (Qq0 K) c),(Zo (owL Qq1) fP),Zd])) (s0:=h_) (ei_l (zai_ (ns:=Qn0) (by decide +kernel) (n:=4) rfl (at_s (at_s (at_s (at_s at_0)))) (za_ 0 rfl))) (zK_ 2) λfP qe=>aN_3 (zbo_ (zh3_ (i:=1) rfl Qi0 (EvO.fr (zQ_ (zc_ (zc_ zf_)) (zj_ (zj_ zn_)) (zd_ (zB_ (i:=0) at_0 (za_ 2 rfl)) (zd_ (zB_ (i:=1) (at_s at_0) (za_ 2 rfl)) (zb_ (zB_ (i:=3) (at_s (at_s (at_s zav_))) (za_ 2 rfl))))))) λp4=>(aN_3 (zi_ (s:=(fP++p4)) (.same (.same (.dead .nil))))))))) λfP=>(aN_3 (zjw_ (i:=1) rfl)))))⟩
def zaj_ (ae:Qq2):Mo (List (Int×Int)):=fnO (zbI_.1 ae)
def zgM_ (K:Fgg):Sp:=Ct K (csLast (Qq0 K)) (λc=>zaj_ c) (owL Qq1)
abbrev zc5_ (P:m7)(w:nL)(K:Fgg)(mg:Str->Option aL)(base:Heap):Prop:=Gd P w K mg base CX0 3 "fields_due" Qn1 (zgM_ K)
def zjk_ (K:Fgg):TS:=(tRet (tCB (mAll K) (tCons (tComp ["sign"] [] (iAny K (mVar 0)) (gName 0) tTrue (tOp (mIn K false) (mVar 0) (tC (tx SG)))) tNil)))
def zcC_:WC Jx Bool (λK _=>zjk_ K) (λK c=>[(Zf tyStr c)]) (λK=>(owF tyBl)):=⟨λc=>_,λK c E=>
 (za4_ (zag_ zbX_) (EvF.ow (zd5_ zqS_ (zb_ (EvO.fr (O:=(owL tyBl)) (zaI_ (zqc_ (za_ 0 rfl)) (zK_ 0) (λ_=>dead1) (λcY=>zaK_) (λcY=>(zh_ zrD_ (za_ 0 rfl) (zs_ SG)))))))))⟩
def zbz_ (bO:Jx):Mo Bool:=fnO (zcC_.1 bO)
def zhz_ (K:Fgg):Sp:=Ct K (csLast tyStr) (λc=>zbz_ c) (owF tyBl)
abbrev zdH_ (P:m7)(w:nL)(K:Fgg)(mg:Str->Option aL)(base:Heap):Prop:=Gd P w K mg base CX0 1 "are_signs" ["text"] (zhz_ K)
def zbW_:{t:Fgg->XK->TS // ∀(P:m7) (w:nL) (K:Fgg) (mg:Str->Option aL) (base:Heap),En K mg->Tm P w K mg base 0 ["row", "signs", "step"] "picked_signs" zde_ (t K)}:=by fail "0"
noncomputable def zaM_:WC (List Pas) (Option (List (Int×Jx))) zbW_.1 (λK c=>[(Zf (tyL tyPass) c),Zd,Zd]) (λK=>(owF (tyOpt (tyD kInt tyStr)))):=⟨λc=>_,λK c E=>
 by dsimp only[zbW_];exact(zaN_ (i:=1) rfl (zp7_ zW_) (znn_ kInt tyStr) λeh=>(aN_3 (zcZ_ (λbz:(List (Int×Jx))=>[(1,(Zo (owD kInt tyStr) bz))]) ( (ziN_ (LS:=(λbz:(List (Int×Jx))=>[(Zf (tyL tyPass) c),(Zo (owD kInt tyStr) bz),Zd])) (s0:=eh) (ei_l (za_ 0 rfl)) (zK_ 2) λbz bK=>aN_3 (zbo_ (zcZ_ (λx8:(List (Int×Jx))=>[(1,(Zo (owD kInt tyStr) x8))]) (s_if (zF_ (zh_ zrE_ (zps_ (za_ 2 rfl)) (zs_ [112,105,99,107]))) (zs4_ (i:=1) rfl zW_ zE_ (zpj_ (za_ 2 rfl)) (zjU_ (za_ 2 rfl)) zqP_ (λip=>atF [(Zf (tyL tyPass) c),(Zo (owD kInt tyStr) ip.2),(Zf tyPass bK)] (zjU_ (za_ 2 rfl))) (λip=>aN_3 (zpw_ (EvF.ow zmH_))) (λip=>aN_3 (zi_ (s:=ip.2) (.same (.same (.same .nil)))))) (zi_ (s:=bz) (.same (.same (.same .nil))))) λx8=>(aN_3 (zi_ (s:=x8) (.same (.same (.dead .nil))))))))) λbz=>(aN_3 (zee_ (i:=1) rfl (aN_3 (zpw_ (EvF.ow (zjD_ (λ_ _ _=>zpX_) (za_ 1 rfl))))))))))⟩
def zU_ (gf:(List Pas)):Mo (Option (List (Int×Jx))):=fnO (zaM_.1 gf)
def zfc_ (K:Fgg):Sp:=Ct K (csLast (tyL tyPass)) (λc=>zU_ c) (owF (tyOpt (tyD kInt tyStr)))
abbrev zbT_ (P:m7)(w:nL)(K:Fgg)(mg:Str->Option aL)(base:Heap):Prop:=Gd P w K mg base CX0 1 "picked_signs" ["row"] (zfc_ K)
def zeH_:{t:Fgg->XK->TS // ∀(P:m7) (w:nL) (K:Fgg) (mg:Str->Option aL) (base:Heap),En K mg->Tm P w K mg base 0 ["field"] "width_of" zgL_ (t K)}:=by fail "0"
def zhb_:WC (Int×Int) Int zeH_.1 (λK c=>[(Zf Qq1 c)]) (λK=>(owF tyInt)):=⟨λc=>_,λK c E=>
 by dsimp only[zeH_];exact(za4_ (zag_ zE_) (EvF.ow (zh_ zu_ (zh_ zaU_ (zB_ (i:=1) (at_s zav_) (za_ 0 rfl)) (zB_ (i:=0) at_0 (za_ 0 rfl))) (ze_ 1))))⟩
def zgw_ (ay:(Int×Int)):Mo Int:=fnO (zhb_.1 ay)
def zjd_ (K:Fgg):Sp:=Ct K (csLast Qq1) (λc=>zgw_ c) (owF tyInt)
abbrev zcr_ (P:m7)(w:nL)(K:Fgg)(mg:Str->Option aL)(base:Heap):Prop:=Gd P w K mg base CX0 1 "width_of" ["field"] (zjd_ K)
def zda_:{t:Fgg->XK->TS // ∀(P:m7) (w:nL) (K:Fgg) (mg:Str->Option aL) (base:Heap),En K mg->Tm P w K mg base 0 ["field"] "columns_of" zes_ (t K)}:=by fail "0"
def zbJ_:WC (Int×Int) (List Int) zda_.1 (λK c=>[(Zf Qq1 c)]) (λK=>(owL tyInt)):=⟨λc=>_,λK c E=>
 by dsimp only[zda_];exact(za4_ (zH_ zE_) (zfl_ zjO_ (zb_ (zd5_ zl1_ (zd_ (zB_ (i:=0) at_0 (za_ 0 rfl)) (zb_ (zh_ zu_ (zB_ (i:=1) (at_s zav_) (za_ 0 rfl)) (ze_ 1))))))))⟩
def za0_ (ay:(Int×Int)):Mo (List Int):=fnO (zbJ_.1 ay)
def zdS_ (K:Fgg):Sp:=Ct K (csLast Qq1) (λc=>za0_ c) (owL tyInt)
abbrev zeG_ (P:m7)(w:nL)(K:Fgg)(mg:Str->Option aL)(base:Heap):Prop:=Gd P w K mg base CX0 1 "columns_of" ["field"] (zdS_ K)
noncomputable def zhd_ (K:Fgg):TS:=(tSeq (tAsg (tLst tNil) (gName 1)) (tSeq (tFor (iAny K (mFld (gA K "Asking") (mVar 0) "picks")) (gName 2) (tDrop (tBM K "list" rExtend (mVar 1) (tCons (tComp ["column", "sign"] [] (iZipX K (tCons (tCall (zdS_ K) [] E0 (tCons (tOp (mIx K) (mVar 2) (tC (.int 0))) tNil)) (tCons (tOp (mIx K) (mVar 2) (tC (.int 1))) tNil))) (gTupM K 2 (gConsM (gName 0) (gConsM (gName 1) gNilM))) tTrue (tTup (tCons (tC (tx [112,105,99,107])) (tCons (mVar 0) (tCons (mVar 1) tNil))))) tNil)))) (tRet (mVar 1))))
noncomputable def zbd_:WC Qq2 (List Pas) (λK _=>zhd_ K) (λK c=>[(Zf (Qq0 K) c),Zd,Zd]) (λK=>(owL tyPass)):=⟨λc=>_,λK c E=>
 (zaN_ (i:=1) rfl (zH_ zjY_) (zcN_ tyPass) λi6=>(aN_3 (zcZ_ (λbz:(List Pas)=>[(1,(Zo (owL tyPass) bz))]) ( (ziN_ (LS:=(λbz:(List Pas)=>[(Zf (Qq0 K) c),(Zo (owL tyPass) bz),Zd])) (s0:=i6) (ei_l (zai_ (ns:=Qn0) (by decide +kernel) (n:=1) rfl (at_s at_0) (za_ 0 rfl))) (zK_ 2) λbz bX=>aN_3 (zbo_ (zh3_ (i:=1) rfl zjY_ (EvO.fr (O:=(owL tyPass)) (zaI_ (znJ_ (zd_ (EvO.fr (z1_ (zb_ (zB_ (i:=0) at_0 (za_ 2 rfl))))) (zb_ (zB_ (i:=1) (at_s zav_) (za_ 2 rfl))))) (zi9_ (zc_ zf_) (zd1_ 0 (zfp_ (zK_ 1)))) (λ_=>dead2) (λdk=>zaK_) (λdk=>(zrn_ (za_ 0 rfl) (za_ 1 rfl))))) λlg=>(aN_3 (zi_ (s:=(bz++lg)) (.same (.same (.dead .nil))))))))) λbz=>(aN_3 (zjw_ (i:=1) rfl)))))⟩
def zak_ (ae:Qq2):Mo (List Pas):=fnO (zbd_.1 ae)
def zf8_ (K:Fgg):Sp:=Ct K (csLast (Qq0 K)) (λc=>zak_ c) (owL tyPass)
abbrev zcz_ (P:m7)(w:nL)(K:Fgg)(mg:Str->Option aL)(base:Heap):Prop:=Gd P w K mg base CX0 2 "pick_passes" Qn1 (zf8_ K)
def zb9_:{t:Fgg->XK->TS // ∀(P:m7) (w:nL) (K:Fgg) (mg:Str->Option aL) (base:Heap),En K mg->zN_ P w K mg base->zcr_ P w K mg base->zdH_ P w K mg base->zbT_ P w K mg base->zcz_ P w K mg base->TmX P w K mg base 2 ["asking", "pick"] "check_picks" zdV_ (t K)}:=by fail "0"
noncomputable def zaE_:WN Qq2 zb9_.1 (λK c=>[(Zf (Qq0 K) c),Zd]) [Zd,Zd]:=⟨λc=>_,λK c E=>
 by dsimp only[zb9_];exact(zoz_ (LS:=(λ_:Unit=>[(Zf (Qq0 K) c),Zd])) (zqb_ (L':=[(Zf (Qq0 K) c),Zd]) (.same (.same .nil)) (ziN_ (LS:=(λ_:Unit=>[(Zf (Qq0 K) c),Zd])) (s0:=()) (ei_l (zai_ (ns:=Qn0) (by decide +kernel) (n:=1) rfl (at_s at_0) (za_ 0 rfl))) (zK_ 1) λ_ bK=>aN_2 (zay_ (zA_ (zd_ (zh_ zao_ (zd5_ zkg_ (zb_ (zB_ (i:=1) (at_s zav_) (za_ 1 rfl)))) (zg_ (zb_ (zB_ (i:=0) at_0 (za_ 1 rfl))))) (zb_ (zs_ [97,32,112,105,99,107,39,115,32,116,101,120,116,32,105,115,32,97,115,32,119,105,100,101,32,97,115,32,105,116,115,32,102,105,101,108,100])))) λp7=>(aN_2 (zbo_ (zay_ (zA_ (zd_ (zg_ (zb_ (zB_ (i:=1) (at_s zav_) (za_ 1 rfl)))) (zb_ (zs_ [97,32,112,105,99,107,39,115,32,116,101,120,116,32,105,115,32,111,102,32,115,105,103,110,115])))) λqZ=>(aN_2 (zi_ (s:=()) (.same (.dead .nil)))))))))) λ_=>(aN_2 (zbo_ (zay_ (zA_ (zd_ (zh_ zhC_ (zg_ (zb_ (EvO.fr (z1_ (zb_ (za_ 0 rfl)))))) zgP_) (zb_ (zs_ [116,119,111,32,112,105,99,107,115,32,119,97,110,116,32,117,110,108,105,107,101,32,115,105,103,110,115,32,111,102,32,111,110,101,32,99,111,108,117,109,110])))) λmW=>(aN_2 (zi_ (s:=()) (.dead (.same .nil))))))))⟩
def zS_ (ae:Qq2):Mo Unit:=fnU (zaE_.1 ae)
def zf2_ (K:Fgg):Sp:=Ct K (csLast (Qq0 K)) (λc=>zS_ c) (owF tyNon)
abbrev zcg_ (P:m7)(w:nL)(K:Fgg)(mg:Str->Option aL)(base:Heap):Prop:=Gd P w K mg base (CXx P w) 3 "check_picks" Qn1 (zf2_ K)
def zab_:{t:Fgg->XK->TS // ∀(P:m7) (w:nL) (K:Fgg) (mg:Str->Option aL) (base:Heap),En K mg->zaf_ P w K mg base->zN_ P w K mg base->zcr_ P w K mg base->TmX P w K mg base 2 ["asking", "fields"] "check_middle_widths" zaJ_ (t K)}:=by fail "0"
noncomputable def zP_:WN Qq2 zab_.1 (λK c=>[(Zf (Qq0 K) c),Zd]) [Zd,Zd]:=⟨λc=>_,λK c E=>
 by dsimp only[zab_];exact(zaN_ (i:=1) rfl (zH_ Qi0) (z1_ (zb_ (za_ 0 rfl))) λh_=>zee_ (i:=1) rfl (aN_2 (s_if (zsz_ (za_ 1 rfl)) (zbo_ (zay_ (zA_ (zd_ (zh_ zao_ (zg_ (zb_ (zh_ zV_ (za_ 1 rfl) (ze_ 0)))) (zg_ (zb_ (zh_ zV_ (za_ 1 rfl) (zfd_ (ze_ 1)))))) (zb_ (zs_ [116,104,101,32,109,105,100,100,108,101,39,115,32,102,105,101,108,100,115,32,97,114,101,32,111,102,32,111,110,101,32,119,105,100,116,104])))) λiN=>(aN_2 (zi_ (s:=()) (.dead (.dead .nil)))))) (zi_ (s:=()) (.dead (.dead .nil))))))⟩
def zy_ (ae:Qq2):Mo Unit:=fnU (zP_.1 ae)
def zcm_ (K:Fgg):Sp:=Ct K (csLast (Qq0 K)) (λc=>zy_ c) (owF tyNon)
abbrev zad_ (P:m7)(w:nL)(K:Fgg)(mg:Str->Option aL)(base:Heap):Prop:=Gd P w K mg base (CXx P w) 3 "check_middle_widths" Qn1 (zcm_ K)
noncomputable def zlc_ (K:Fgg):TS:=(tSeq (mBInit (gA K "Meet") (tCons (mVar 0) (tCons (tJoin (tJ1 (tC (tx Qm4)) (tJ1 (tUn mFmtT (mVar 1)) (tJ1 (tC (tx [32,97,110,100,32])) (tJ1 (tUn mFmtT (mVar 2)) (tJ1 (tC (tx [32,109,101,101,116])) tJ0)))))) tNil))) (tSeq (mXSet (gA K "Meet") (mVar 0) (mVar 1) "one") (mXSet (gA K "Meet") (mVar 0) (mVar 2) "other")))
noncomputable def zbq_ (cD:(Int×Int))(bp:(Int×Int)):Mo Jx:=
 (Mb (Mb (Mb (Mq (Qm4:Jx)) λw5=>Mo.grd (w5.length<=1000) (Mq ())) λ_=>(Mb (Mb (Mq cD) λw4=>Mo.grd (w4.1.natAbs.log2<1920/\w4.2.natAbs.log2<1920/\(strI w4.1).length+(strI w4.2).length<=900) (Mq ())) λ_=>(Mb (Mb (Mq ([32,97,110,100,32]:Jx)) λkX=>Mo.grd (kX.length<=1000) (Mq ())) λ_=>(Mb (Mb (Mq bp) λcV=>Mo.grd (cV.1.natAbs.log2<1920/\cV.2.natAbs.log2<1920/\(strI cV.1).length+(strI cV.2).length<=900) (Mq ())) λ_=>(Mb (Mb (Mq ([32,109,101,101,116]:Jx)) λkY=>Mo.grd (kY.length<=1000) (Mq ())) λ_=>(Mq ())))))) λ_=>Mq ([]:Jx))
def zcb_ (K:Fgg):Sp:=CtI K (gA K "Meet") (csCons Qq1 (csLast Qq1)) (λc=>zbq_ c.1 c.2) ["one", "other"]
abbrev zcS_ (P:m7)(w:nL)(K:Fgg)(mg:Str->Option aL)(base:Heap):Prop:=GxI P w K mg base 1 "Meet" (gA K "Meet") ["self", "one", "other"] (zcb_ K)
def zeJ_:{t:Fgg->XK->TS // ∀(P:m7) (w:nL) (K:Fgg) (mg:Str->Option aL) (base:Heap),En K mg->Tm P w K mg base 0 ["value"] "is_whole" zg7_ (t K)}:=by fail "0"
def zcf_:WC Int Bool zeJ_.1 (λK c=>[(Zf tyInt c)]) (λK=>(owF tyBl)):=⟨λc=>_,λK c E=>
 by dsimp only[zeJ_];exact(za4_ (zag_ zbX_) (EvF.ow (zer_ (zpM_ (bb:=true) zok_ (za_ 0 rfl)) (zso_ (zpM_ (bb:=false) zok_ (za_ 0 rfl))))))⟩
def zae_ (bo:Int):Mo Bool:=fnO (zcf_.1 bo)
def zi5_ (K:Fgg):Sp:=Ct K (csLast tyInt) (λc=>zae_ c) (owF tyBl)
abbrev zaP_ (P:m7)(w:nL)(K:Fgg)(mg:Str->Option aL)(base:Heap):Prop:=Gd P w K mg base CX0 1 "is_whole" ["value"] (zi5_ K)
def zdA_:{t:Fgg->XK->TS // ∀(P:m7) (w:nL) (K:Fgg) (mg:Str->Option aL) (base:Heap),En K mg->zaP_ P w K mg base->Tm P w K mg base 1 ["value", "most"] "is_column" zfz_ (t K)}:=by fail "0"
def zcF_:WC (Int×Int) Bool zdA_.1 (λK c=>[(Zf tyInt c.1),(Zf tyInt c.2)]) (λK=>(owF tyBl)):=⟨λc=>_,λK c E=>
 by dsimp only[zdA_];exact(za4_ (zag_ zbX_) (EvF.ow (zer_ (zg_ (zb_ (za_ 0 rfl))) (zf3_ zck_ zck_ (ze_ 1) (za_ 0 rfl) (za_ 1 rfl)))))⟩
def zbC_ (bo:Int)(eQ:Int):Mo Bool:=fnO (zcF_.1 (bo,eQ))
def zc6_ (K:Fgg):Sp:=Ct K (csCons tyInt (csLast tyInt)) (λc=>zbC_ c.1 c.2) (owF tyBl)
abbrev zfF_ (P:m7)(w:nL)(K:Fgg)(mg:Str->Option aL)(base:Heap):Prop:=Gd P w K mg base CX0 2 "is_column" ["value", "most"] (zc6_ K)
noncomputable def zhB_ (K:Fgg)(E:XK):TS:=(tSeq (tFor (iAny K (mVar 0)) (gName 1) (mIfS (mOr (tNot (mTest (tCall (zc6_ K) [] E0 (tCons (tOp (mIx K) (mVar 1) (tC (.int 0))) (tCons (tC (.int 40)) tNil))))) (tNot (mTest (tCall (zc6_ K) [] E0 (tCons (tOp (mIx K) (mVar 1) (tC (.int 1))) (tCons (tC (.int 36)) tNil)))))) (tRaise (gA K "NoBoard") E (tCons (tC (tx Qm1)) tNil)) tNext)) (tSeq (tAsg tDNewK (gName 2)) (tSeq (tFor (iAny K (mVar 0)) (gName 1) (tSeq (mIfS (mTest (mDIn false (tOp (mIx K) (mVar 1) (tC (.int 1))) (mVar 2))) (tRaiseI (gA K "Meet") (zcb_ K) E (tCons (mDGet (mVar 2) (tOp (mIx K) (mVar 1) (tC (.int 1)))) (tCons (mVar 1) tNil))) tNext) (mDPut (mVar 2) (tOp (mIx K) (mVar 1) (tC (.int 1))) (mVar 1)))) (tRet (tComp ["column"] [("leading",2)] (iAny K (tCB (mSortD 64 K) (tCons (mVar 2) tNil))) (gName 0) tTrue (mDGet (mVar 1) (mVar 0)))))))
noncomputable def za1_:WC (List (Int×Int)) (List (Int×Int)) (λK E=>zhB_ K E) (λK c=>[(Zf (tyL Qq1) c),Zd,Zd]) (λK=>(owL Qq1)):=⟨λc=>_,λK c E=>
 (zoz_ (LS:=(λ_:Unit=>[(Zf (tyL Qq1) c),Zd,Zd])) (zqb_ (L':=[(Zf (tyL Qq1) c),Zd,Zd]) (.same (.same (.same .nil))) (ziN_ (LS:=(λ_:Unit=>[(Zf (tyL Qq1) c),Zd,Zd])) (s0:=()) (ei_l (za_ 0 rfl)) (zK_ 1) λ_ cY=>aN_3 (s_if (et_or (zmc_ (zF_ (zg_ (zd_ (zB_ (i:=0) at_0 (za_ 1 rfl)) (zb_ (ze_ 40)))))) (zmc_ (zF_ (zg_ (zd_ (zB_ (i:=1) (at_s zav_) (za_ 1 rfl)) (zb_ (ze_ 36))))))) (zm0_ zf_ (zb_ (zs_ Qm1))) (zi_ (s:=()) (.same (.dead (.same .nil))))))) λ_=>(aN_3 (zaN_ (i:=2) rfl (zp7_ Qi0) (znn_ kInt Qq1) λn_=>(aN_3 (zcZ_ (λfO:(List (Int×(Int×Int)))=>[(2,(Zo (owD kInt Qq1) fO))]) ( (ziN_ (LS:=(λfO:(List (Int×(Int×Int)))=>[(Zf (tyL Qq1) c),Zd,(Zo (owD kInt Qq1) fO)])) (s0:=n_) (ei_l (za_ 0 rfl)) (zK_ 1) λfO lB=>aN_3 (zhk_ (s_if (zF_ (ztf_ false (zB_ (i:=1) (at_s zav_) (za_ 1 rfl)) (zie_ 2 rfl))) (zo8_ (as:=λc:((Int×Int)×(Int×Int))=>[("one",Av.p c.1.1 c.1.2),("other",Av.p c.2.1 c.2.2)]) (zc_ zf_) ztw_ (zd_ (zmx_ (zie_ 2 rfl) (zB_ (i:=1) (at_s zav_) (za_ 1 rfl))) (zb_ (za_ 1 rfl)))) (zi_ (s:=()) (.same (.same (.same .nil))))) λ_=>(aN_3 (zbo_ (zth_ (i:=2) rfl Qi0 zE_ (za_ 1 rfl) (zB_ (i:=1) (at_s zav_) (za_ 1 rfl)) λpY m8=>(aN_3 (zi_ (s:=(putA fO m8 pY)) (.same (.dead (.same .nil))))))))))) λfO=>(aN_3 (za4_ (zH_ Qi0) (zaI_ (ei_l (EvO.fr (zfl_ (zkU_ znC_ zd8_ zs3_) (zb_ (zie_ 2 rfl))))) (zK_ 0) (λ_=>dead1) (λnj=>zaK_) (λnj=>(zmx_ (zie_ 1 rfl) (za_ 0 rfl)))))))))))⟩
def zO_ (aC:(List (Int×Int))):Mo (List (Int×Int)):=fnO (za1_.1 aC)
def zdR_ (K:Fgg):Sp:=Ct K (csLast (tyL Qq1)) (λc=>zO_ c) (owL Qq1)
abbrev ze2_ (P:m7)(w:nL)(K:Fgg)(mg:Str->Option aL)(base:Heap):Prop:=Gd P w K mg base (CXx P w) 3 "make_board" ["wires"] (zdR_ K)
def zq9_ (K:Fgg):TS:=(tSeq (tTryHE (tAsgX (zdR_ K) (tCons (mVar 0) tNil) 1) tNext (tH2 K (gA K "NoBoard") (gA K "Meet") (tRet (tC (.bl false))))) (tRet (tOp (mEqK K) (mVar 1) (mVar 0))))
noncomputable def zds_ (aC:(List (Int×Int))):Mo (Out Bool Unit Unit):=
 (thenO (S:=(List (Int×Int))) (Mb (Mq aC) λpK=>Mo.tr (zO_ pK) (λiY=>(Mq (.nx iY))) λcY=>(Mo.grd (cY.c∈["NoBoard", "Meet"]) (Mb (Mq false) λnM=>Mq (.rt nM)))) λig=>(Mb (Mb (Mq ig) λw6=>Mb (Mq aC) λpQ=>Mq (((eqL (λa b=>(λa b=>decide (a=b)) a.1 b.1 && (λa b=>decide (a=b)) a.2 b.2)) w6 pQ))) λy8=>Mq (.rt y8)))
def zX_ (aC:(List (Int×Int))):Mo Bool:=fnO (zds_ aC)
def zjs_ (K:Fgg):Sp:=Ct K (csLast (tyL Qq1)) (λc=>zX_ c) (owF tyBl)
abbrev zeZ_ (P:m7)(w:nL)(K:Fgg)(mg:Str->Option aL)(base:Heap):Prop:=Gd P w K mg base CX0 4 "is_board" ["wires"] (zjs_ K)
def zaV_:{t:Fgg->XK->TS // ∀(P:m7) (w:nL) (K:Fgg) (mg:Str->Option aL) (base:Heap),En K mg->zN_ P w K mg base->zaP_ P w K mg base->zeZ_ P w K mg base->TmX P w K mg base 4 Qn1 "check_counting" zcw_ (t K)}:=by fail "0"
noncomputable def zat_:WN Qq2 zaV_.1 (λK c=>[(Zf (Qq0 K) c)]) [Zd]:=⟨λc=>_,λK c E=>
 by dsimp only[zaV_];exact(zay_ (zA_ (zd_ (zer_ (zg_ (zb_ (zai_ (ns:=Qn0) (by decide +kernel) (n:=5) rfl (at_s (at_s (at_s (at_s (at_s at_0))))) (za_ 0 rfl)))) (zf3_ zck_ zck_ (ze_ 0) (zai_ (ns:=Qn0) (by decide +kernel) (n:=5) rfl (at_s (at_s (at_s (at_s (at_s at_0))))) (za_ 0 rfl)) (ze_ 3))) (zb_ (zs_ [116,104,101,114,101,32,97,114,101,32,48,32,116,111,32,51,32,98,114,101,97,107,115])))) λp7=>(aN_1 (zay_ (zA_ (zd_ (zh_ zck_ (zai_ (ns:=Qn0) (by decide +kernel) (n:=5) rfl (at_s (at_s (at_s (at_s (at_s at_0))))) (za_ 0 rfl)) (zd5_ zb4_ (zb_ (zai_ (ns:=Qn0) (by decide +kernel) (n:=3) rfl (at_s (at_s (at_s at_0))) (za_ 0 rfl))))) (zb_ (zs_ [116,104,101,114,101,32,97,114,101,32,110,111,32,109,111,114,101,32,98,114,101,97,107,115,32,116,104,97,110,32,107,101,121,115])))) λmY=>(aN_1 (zay_ (zA_ (zd_ (zer_ (zg_ (zb_ (zai_ (ns:=Qn0) (by decide +kernel) (n:=7) rfl (at_s (at_s (at_s (at_s (at_s (at_s (at_s at_0))))))) (za_ 0 rfl)))) (zf3_ zck_ zck_ (ze_ 1) (zai_ (ns:=Qn0) (by decide +kernel) (n:=7) rfl (at_s (at_s (at_s (at_s (at_s (at_s (at_s at_0))))))) (za_ 0 rfl)) (ze_ 12))) (zb_ (zs_ [119,104,101,101,108,115,32,104,97,118,101,32,49,32,116,111,32,49,50,32,102,105,103,117,114,101,115])))) λmV=>(aN_1 (zbo_ (zay_ (zA_ (zd_ (zg_ (zb_ (zai_ (ns:=Qn0) (by decide +kernel) (n:=8) rfl (at_s (at_s (at_s (at_s (at_s (at_s (at_s (at_s at_0)))))))) (za_ 0 rfl)))) (zb_ (zs_ [116,104,101,32,98,111,97,114,100,32,105,115,32,110,111,110,101,44,32,111,114,32,110,111,116,32,115,111,114,116,101,100])))) λqX=>(aN_1 (zi_ (s:=()) (.dead .nil)))))))))))⟩
def zG_ (ae:Qq2):Mo Unit:=fnU (zat_.1 ae)
def zd6_ (K:Fgg):Sp:=Ct K (csLast (Qq0 K)) (λc=>zG_ c) (owF tyNon)
abbrev zaW_ (P:m7)(w:nL)(K:Fgg)(mg:Str->Option aL)(base:Heap):Prop:=Gd P w K mg base (CXx P w) 5 "check_counting" Qn1 (zd6_ K)
noncomputable def zgH_ (K:Fgg):TS:=(tSeq (tAsg (tOp mAdd (tOp mAdd (tComp ["pick"] [] (iAny K (mFld (gA K "Asking") (mVar 0) "picks")) (gName 0) tTrue (tOp (mIx K) (mVar 0) (tC (.int 0)))) (tSl (mSl K) (tCall (zaZ_ K) [] E0 (tCons (mVar 0) tNil)) tNoPart (mPart (tC (.int 1))))) (mFld (gA K "Asking") (mVar 0) "order")) (gName 2)) (tSeq (tFor (iEnumL K (tCons (mFld (gA K "Asking") (mVar 0) "works") tNil)) (gTupM K 2 (gConsM (gName 3) (gConsM (gName 4) gNilM))) (tSeq (mIfS (mTest (tOp (mNeK K) (mVar 3) (mVar 1))) (tDrop (tBM K "list" rAppend (mVar 2) (tCons (tOp (mIx K) (mVar 4) (tC (.int 0))) tNil))) tNext) (mIfS (mTest (tOp mLe (mVar 3) (mVar 1))) (tDrop (tBM K "list" rExtend (mVar 2) (tCons (tLst (tCons (tOp (mIx K) (mVar 4) (tC (.int 1))) (tCons (tOp (mIx K) (mVar 4) (tC (.int 3))) tNil))) tNil))) tNext))) (tRet (mVar 2))))
noncomputable def zbc_:WC (Qq2×Int) (List (Int×Int)) (λK _=>zgH_ K) (λK c=>[(Zf (Qq0 K) c.1),(Zf tyInt c.2),Zd,Zd,Zd]) (λK=>(owL Qq1)):=⟨λc=>_,λK c E=>
 (zaN_ (i:=2) rfl (zH_ Qi0) (za5_ zas_ (EvO.fr (O:=(owL Qq1)) (za5_ zas_ (EvO.fr (O:=(owL Qq1)) (zaI_ (ei_l (zai_ (ns:=Qn0) (by decide +kernel) (n:=1) rfl (at_s at_0) (za_ 0 rfl))) (zK_ 0) (λ_=>dead1) (λbK=>zaK_) (λbK=>(zB_ (i:=0) at_0 (za_ 0 rfl))))) (EvO.fr (zgQ_ (EvO.fr (z1_ (zb_ (za_ 0 rfl)))) zgV_ (zfH_ (ze_ 1)))))) (zai_ (ns:=Qn0) (by decide +kernel) (n:=3) rfl (at_s (at_s (at_s at_0))) (za_ 0 rfl))) λh_=>(aN_5 (zcZ_ (λee:(List (Int×Int))=>[(2,(Zo (owL Qq1) ee))]) ( (ziN_ (LS:=(λee:(List (Int×Int))=>[(Zf (Qq0 K) c.1),(Zf tyInt c.2),(Zo (owL Qq1) ee),Zd,Zd])) (s0:=h_) (zkN_ (zb_ (zai_ (ns:=Qn0) (by decide +kernel) (n:=4) rfl (at_s (at_s (at_s (at_s at_0)))) (za_ 0 rfl)))) (zi9_ (zc_ zf_) (zd1_ 3 (zfp_ (zK_ 4)))) λee qd=>aN_5 (zcZ_ (λik:(List (Int×Int))=>[(2,(Zo (owL Qq1) ik))]) (s_if (zF_ (zh_ zsf_ (za_ 3 rfl) (za_ 1 rfl))) (zbo_ (zkp_ (i:=2) rfl Qi0 (zB_ (i:=0) at_0 (za_ 4 rfl)) λfW=>(aN_5 (zi_ (s:=(ee++[fW])) (S4 (.same .nil)))))) (zi_ (s:=ee) (S4 (.same .nil)))) λik=>(aN_5 (zbo_ (zcZ_ (λjc:(List (Int×Int))=>[(2,(Zo (owL Qq1) jc))]) (s_if (zF_ (zh_ zck_ (za_ 3 rfl) (za_ 1 rfl))) (zbo_ (zh3_ (i:=2) rfl Qi0 (EvO.fr (zQ_ (zc_ zf_) (zj_ zn_) (zd_ (zB_ (i:=1) (at_s at_0) (za_ 4 rfl)) (zb_ (zB_ (i:=3) (at_s (at_s (at_s zav_))) (za_ 4 rfl)))))) λmV=>(aN_5 (zi_ (s:=(ik++mV)) (S4 (.same .nil)))))) (zi_ (s:=ik) (S4 (.same .nil)))) λjc=>(aN_5 (zi_ (s:=jc) (.same (.same (.same (.dead (.dead .nil))))))))))))) λee=>(aN_5 (zjw_ (i:=2) rfl)))))⟩
def zal_ (ae:Qq2)(dy:Int):Mo (List (Int×Int)):=fnO (zbc_.1 (ae,dy))
def zfW_ (K:Fgg):Sp:=Ct K (csCons (Qq0 K) (csLast tyInt)) (λc=>zal_ c.1 c.2) (owL Qq1)
abbrev zcA_ (P:m7)(w:nL)(K:Fgg)(mg:Str->Option aL)(base:Heap):Prop:=Gd P w K mg base CX0 3 "fields_kept" ["asking", "place"] (zfW_ K)
def zdw_:{t:Fgg->XK->TS // ∀(P:m7) (w:nL) (K:Fgg) (mg:Str->Option aL) (base:Heap),En K mg->Tm P w K mg base 0 ["one", "other"] "are_apart" zfq_ (t K)}:=by fail "0"
noncomputable def zdC_:WC ((Int×Int)×(Int×Int)) Bool zdw_.1 (λK c=>[(Zf Qq1 c.1),(Zf Qq1 c.2)]) (λK=>(owF tyBl)):=⟨λc=>_,λK c E=>
 by dsimp only[zdw_];exact(za4_ (zag_ zbX_) (EvF.ow (ztl_ (zh_ zo7_ (zB_ (i:=1) (at_s zav_) (za_ 0 rfl)) (zB_ (i:=0) at_0 (za_ 1 rfl))) (zh_ zo7_ (zB_ (i:=1) (at_s zav_) (za_ 1 rfl)) (zB_ (i:=0) at_0 (za_ 0 rfl))))))⟩
def zcD_ (cD:(Int×Int))(bp:(Int×Int)):Mo Bool:=fnO (zdC_.1 (cD,bp))
def zhJ_ (K:Fgg):Sp:=Ct K (csCons Qq1 (csLast Qq1)) (λc=>zcD_ c.1 c.2) (owF tyBl)
abbrev zdG_ (P:m7)(w:nL)(K:Fgg)(mg:Str->Option aL)(base:Heap):Prop:=Gd P w K mg base CX0 1 "are_apart" ["one", "other"] (zhJ_ K)
def zgx_:{t:Fgg->XK->TS // ∀(P:m7) (w:nL) (K:Fgg) (mg:Str->Option aL) (base:Heap),En K mg->zN_ P w K mg base->zcA_ P w K mg base->zdG_ P w K mg base->TmX P w K mg base 3 ["asking", "place", "work", "field"] "check_works" zd0_ (t K)}:=by fail "0"
noncomputable def zcx_ (ae:Qq2):Mo (Out Unit Unit Unit):=
 (thenO (S:=Unit) (Mb (Mb (Mb (Mq ae) λcV=>Mq cV.2.2.2.2.1) λkT=>Mq (enumL kT)) λnq=>forO (λ(_:Unit) bX=>(Mb (Mb (Mb (Mb (Mb (Mq bX.2) λw5=>Mq w5.2.2.1) λw6=>Mq (([[112,108,117,115],[108,101,115,115],[116,105,109,101,115]]:Jy).any λy=>decide (y=w6))) λv7=>Mb (Mq (Qm3:Jx)) λw8=>Mq (v7,w8)) λy9=>zba_ y9.1 y9.2) λlp=>(thenO (S:=Unit) (Mb (Mb (Mb (Mq ae) λp8=>Mb (Mq bX.1) λpP=>Mq (p8,pP)) λmT=>Mo.noex (zal_ mT.1 mT.2)) λnr=>forO (λ(_:Unit) lC=>(Mb (Mb (Mb (Mb (Mb (Mb (Mq bX.2) λiQ=>Mq iQ.1) λiN=>Mb (Mq lC) λpO=>Mq (iN,pO)) λiI=>Mo.noex (zcD_ iI.1 iI.2)) λiK=>Mb (Mq (Qm2:Jx)) λkU=>Mq (iK,kU)) λmS=>zba_ mS.1 mS.2) λkZ=>(Mq (.nx ())))) nr ()) λ_=>(Mq (.nx ()))))) nq ()) λ_=>(Mq (.nx ())))
def z7_ (ae:Qq2):Mo Unit:=fnU (zcx_ ae)
def zf6_ (K:Fgg):Sp:=Ct K (csLast (Qq0 K)) (λc=>z7_ c) (owF tyNon)
abbrev zco_ (P:m7)(w:nL)(K:Fgg)(mg:Str->Option aL)(base:Heap):Prop:=Gd P w K mg base (CXx P w) 4 "check_works" Qn1 (zf6_ K)
def zej_:{t:Fgg->XK->TS // ∀(P:m7) (w:nL) (K:Fgg) (mg:Str->Option aL) (base:Heap),En K mg->zaP_ P w K mg base->Tm P w K mg base 1 ["first", "last"] "is_field" zg0_ (t K)}:=by fail "0"
def zdr_:WC (Int×Int) Bool zej_.1 (λK c=>[(Zf tyInt c.1),(Zf tyInt c.2)]) (λK=>(owF tyBl)):=⟨λc=>_,λK c E=>
 by dsimp only[zej_];exact(za4_ (zag_ zbX_) (EvF.ow (zer_ (zg_ (zb_ (za_ 0 rfl))) (zer_ (zg_ (zb_ (za_ 1 rfl))) (zle_ zck_ zck_ zck_ (ze_ 1) (za_ 0 rfl) (za_ 1 rfl) (ze_ 36))))))⟩
def zcl_ (dC:Int)(eR:Int):Mo Bool:=fnO (zdr_.1 (dC,eR))
def ziS_ (K:Fgg):Sp:=Ct K (csCons tyInt (csLast tyInt)) (λc=>zcl_ c.1 c.2) (owF tyBl)
abbrev zeP_ (P:m7)(w:nL)(K:Fgg)(mg:Str->Option aL)(base:Heap):Prop:=Gd P w K mg base CX0 2 "is_field" ["first", "last"] (ziS_ K)
noncomputable def zbP_:{t:Fgg->XK->TS // ∀(P:m7) (w:nL) (K:Fgg) (mg:Str->Option aL) (base:Heap),En K mg->zbs_ P w K mg base->zar_ P w K mg base->zcv_ P w K mg base->zc5_ P w K mg base->zN_ P w K mg base->zeP_ P w K mg base->zcg_ P w K mg base->zad_ P w K mg base->zaW_ P w K mg base->zco_ P w K mg base->TmX P w K mg base 5 ["asking", "field"] "check_asking" zdg_ (t K)}:=by fail "0"
noncomputable def zL_:WN Qq2 zbP_.1 (λK c=>[(Zf (Qq0 K) c),Zd]) [Zd,Zd]:=⟨λc=>_,λK c E=>
 by dsimp only[zbP_];exact(zay_ (zA_ (zb_ (za_ 0 rfl))) λcV=>(aN_2 (zay_ (zA_ (zb_ (za_ 0 rfl))) λw4=>(aN_2 (zay_ (zA_ (zb_ (za_ 0 rfl))) λw6=>(aN_2 (zhk_ ( (ziN_ (LS:=(λ_:Unit=>[(Zf (Qq0 K) c),Zd])) (s0:=()) (ei_l (EvO.fr (z1_ (zb_ (za_ 0 rfl))))) (zK_ 1) λ_ x9=>aN_2 (zbo_ (zay_ (zA_ (zd_ (zg_ (zd_ (zB_ (i:=0) at_0 (za_ 1 rfl)) (zb_ (zB_ (i:=1) (at_s zav_) (za_ 1 rfl))))) (zb_ (zs_ [97,32,102,105,101,108,100,32,103,111,101,115,32,102,114,111,109,32,97,32,102,105,114,115,116,32,116,111,32,97,32,108,97,115,116,32,99,111,108,117,109,110,44,32,102,114,111,109,32,49,32,116,111,32,51,54])))) λmZ=>(aN_2 (zi_ (s:=()) (.same (.dead .nil)))))))) λ_=>(aN_2 (zay_ (zA_ (zb_ (za_ 0 rfl))) λqY=>(aN_2 (zay_ (zA_ (zb_ (za_ 0 rfl))) λkZ=>(aN_2 (zay_ (zA_ (zb_ (za_ 0 rfl))) λfW=>(aN_2 (zbo_ (zay_ (zA_ (zb_ (za_ 0 rfl))) λmX=>(aN_2 (zi_ (s:=()) (.dead (.same .nil))))))))))))))))))))⟩
def zv_ (ae:Qq2):Mo Unit:=fnU (zL_.1 ae)
def zcO_ (K:Fgg):Sp:=Ct K (csLast (Qq0 K)) (λc=>zv_ c) (owF tyNon)
abbrev zdi_ (P:m7)(w:nL)(K:Fgg)(mg:Str->Option aL)(base:Heap):Prop:=Gd P w K mg base (CXx P w) 6 "check_asking" Qn1 (zcO_ K)
noncomputable def zb5_ (K:Fgg)(E:XK):TS:=(tSeq (mSFld (gA K "Asking") (mVar 0) (mVar 1) "deck") (tSeq (mSFld (gA K "Asking") (mVar 0) (tCB (mList K) (tCons (mVar 2) tNil)) "picks") (tSeq (mSFld (gA K "Asking") (mVar 0) (mVar 3) "middle") (tSeq (mSFld (gA K "Asking") (mVar 0) (tCB (mList K) (tCons (mVar 4) tNil)) "order") (tSeq (mSFld (gA K "Asking") (mVar 0) (tCall (zcj_ K) [] E0 (tCons (mVar 5) tNil)) "works") (tSeq (mSFld (gA K "Asking") (mVar 0) (mVar 6) "breaks") (tSeq (mSFld (gA K "Asking") (mVar 0) (tCall (zaY_ K) [] E0 (tCons (mVar 7) tNil)) "sums") (tSeq (mSFld (gA K "Asking") (mVar 0) (mVar 8) "figures") (tSeq (mSFld (gA K "Asking") (mVar 0) (tCall (zaY_ K) [] E0 (tCons (mVar 9) tNil)) "board") (tDrop (tCall (zcO_ K) [] E (tCons (mVar 0) tNil))))))))))))
noncomputable def zaF_:WU Unit Qq2 (Jx×((List ((Int×Int)×Jx))×(Qq8×((List (Int×Int))×((Option Qq6)×(Int×((Option (List (Int×Int)))×(Int×(Option (List (Int×Int))))))))))) (λK E=>zb5_ K E) (λK w_ x c=>[(Zo (owAt w_ (owI (gA K "Asking") [] psNil)) x),(Zf tyStr c.1),(Zf (tyL Qq7) c.2.1),(Zf (tyOpt Qq3) c.2.2.1),(Zf (tyL Qq1) c.2.2.2.1),(Zf (tyOpt (tyL Qq4)) c.2.2.2.2.1),(Zf tyInt c.2.2.2.2.2.1),(Zf (tyOpt (tyL Qq1)) c.2.2.2.2.2.2.1),(Zf tyInt c.2.2.2.2.2.2.2.1),(Zf (tyOpt (tyL Qq1)) c.2.2.2.2.2.2.2.2)]) [Zd,Zd,Zd,Zd,Zd,Zd,Zd,Zd,Zd] (λK=>(Qq5 K)):=⟨λx c=>_,λK w_ x c E=>
 (zh9_ (P:=psNil) (P':=(psO (owF tyStr) psNil)) (ad:=λc z=>(z,())) (ns:=[]) (i:=0) rfl (by decide +kernel) (by decide) zfY_ zW_ (za_ 1 rfl) λcY=>(zld_ (zg9_ (P:=(psO (owF tyStr) psNil)) (P':=(psO (owF tyStr) (psO (owL Qq7) psNil))) (ad:=λc z=>(c.1,(z,()))) (ns:=["deck"]) (O1:=(owL Qq7)) (i:=0) rfl (by decide +kernel) (by decide) (z4_ zfY_) Qi6 (zfl_ zft_ (zb_ (za_ 2 rfl))) λbX=>(zld_ (zh9_ (P:=(psO (owF tyStr) (psO (owL Qq7) psNil))) (P':=(psO (owF tyStr) (psO (owL Qq7) (psO (owF (tyOpt Qq3)) psNil)))) (ad:=λc z=>(c.1,(c.2.1,(z,())))) (ns:=["deck", "picks"]) (i:=0) rfl (by decide +kernel) (by decide) (z4_ (z4_ zfY_)) (zeM_ Qi1) (za_ 3 rfl) λqa=>(zld_ (zg9_ (P:=(psO (owF tyStr) (psO (owL Qq7) (psO (owF (tyOpt Qq3)) psNil)))) (P':=(psO (owF tyStr) (psO (owL Qq7) (psO (owF (tyOpt Qq3)) (psO (owL Qq1) psNil))))) (ad:=λc z=>(c.1,(c.2.1,(c.2.2.1,(z,()))))) (ns:=["deck", "picks", "middle"]) (O1:=(owL Qq1)) (i:=0) rfl (by decide +kernel) (by decide) (z4_ (z4_ (z4_ zfY_))) (zH_ Qi0) (zfl_ zft_ (zb_ (za_ 4 rfl))) λfN=>(zld_ (zg9_ (P:=(psO (owF tyStr) (psO (owL Qq7) (psO (owF (tyOpt Qq3)) (psO (owL Qq1) psNil))))) (P':=(psO (owF tyStr) (psO (owL Qq7) (psO (owF (tyOpt Qq3)) (psO (owL Qq1) (psO (owL Qq4) psNil)))))) (ad:=λc z=>(c.1,(c.2.1,(c.2.2.1,(c.2.2.2.1,(z,())))))) (ns:=["deck", "picks", "middle", "order"]) (O1:=(owL Qq4)) (i:=0) rfl (by decide +kernel) (by decide) (z4_ (z4_ (z4_ (z4_ zfY_)))) (zH_ Qi4) (z1_ (zb_ (za_ 5 rfl))) λqh=>(zld_ (zh9_ (P:=(psO (owF tyStr) (psO (owL Qq7) (psO (owF (tyOpt Qq3)) (psO (owL Qq1) (psO (owL Qq4) psNil)))))) (P':=(psO (owF tyStr) (psO (owL Qq7) (psO (owF (tyOpt Qq3)) (psO (owL Qq1) (psO (owL Qq4) (psO (owF tyInt) psNil))))))) (ad:=λc z=>(c.1,(c.2.1,(c.2.2.1,(c.2.2.2.1,(c.2.2.2.2.1,(z,()))))))) (ns:=["deck", "picks", "middle", "order", "works"]) (i:=0) rfl (by decide +kernel) (by decide) (z4_ (z4_ (z4_ (z4_ (z4_ zfY_))))) zE_ (za_ 6 rfl) λqg=>(zld_ (zg9_ (P:=(psO (owF tyStr) (psO (owL Qq7) (psO (owF (tyOpt Qq3)) (psO (owL Qq1) (psO (owL Qq4) (psO (owF tyInt) psNil))))))) (P':=(psO (owF tyStr) (psO (owL Qq7) (psO (owF (tyOpt Qq3)) (psO (owL Qq1) (psO (owL Qq4) (psO (owF tyInt) (psO (owL Qq1) psNil)))))))) (ad:=λc z=>(c.1,(c.2.1,(c.2.2.1,(c.2.2.2.1,(c.2.2.2.2.1,(c.2.2.2.2.2.1,(z,())))))))) (ns:=["deck", "picks", "middle", "order", "works", "breaks"]) (O1:=(owL Qq1)) (i:=0) rfl (by decide +kernel) (by decide) (z4_ (z4_ (z4_ (z4_ (z4_ (z4_ zfY_)))))) (zH_ Qi0) (z1_ (zb_ (za_ 7 rfl))) λqk=>(zld_ (zh9_ (P:=(psO (owF tyStr) (psO (owL Qq7) (psO (owF (tyOpt Qq3)) (psO (owL Qq1) (psO (owL Qq4) (psO (owF tyInt) (psO (owL Qq1) psNil)))))))) (P':=(psO (owF tyStr) (psO (owL Qq7) (psO (owF (tyOpt Qq3)) (psO (owL Qq1) (psO (owL Qq4) (psO (owF tyInt) (psO (owL Qq1) (psO (owF tyInt) psNil))))))))) (ad:=λc z=>(c.1,(c.2.1,(c.2.2.1,(c.2.2.2.1,(c.2.2.2.2.1,(c.2.2.2.2.2.1,(c.2.2.2.2.2.2.1,(z,()))))))))) (ns:=["deck", "picks", "middle", "order", "works", "breaks", "sums"]) (i:=0) rfl (by decide +kernel) (by decide) (z4_ (z4_ (z4_ (z4_ (z4_ (z4_ (z4_ zfY_))))))) zE_ (za_ 8 rfl) λqf=>(zld_ (zg9_ (P:=(psO (owF tyStr) (psO (owL Qq7) (psO (owF (tyOpt Qq3)) (psO (owL Qq1) (psO (owL Qq4) (psO (owF tyInt) (psO (owL Qq1) (psO (owF tyInt) psNil))))))))) (P':=(psO (owF tyStr) (psO (owL Qq7) (psO (owF (tyOpt Qq3)) (psO (owL Qq1) (psO (owL Qq4) (psO (owF tyInt) (psO (owL Qq1) (psO (owF tyInt) (psO (owL Qq1) psNil)))))))))) (ad:=λc z=>(c.1,(c.2.1,(c.2.2.1,(c.2.2.2.1,(c.2.2.2.2.1,(c.2.2.2.2.2.1,(c.2.2.2.2.2.2.1,(c.2.2.2.2.2.2.2.1,(z,())))))))))) (ns:=["deck", "picks", "middle", "order", "works", "breaks", "sums", "figures"]) (O1:=(owL Qq1)) (i:=0) rfl (by decide +kernel) (by decide) (z4_ (z4_ (z4_ (z4_ (z4_ (z4_ (z4_ (z4_ zfY_)))))))) (zH_ Qi0) (z1_ (zb_ (za_ 9 rfl))) λlB=>(zld_ (zbo_ (zay_ (zA_ (zb_ (zoP_ (P:=(psO (owF tyStr) (psO (owL Qq7) (psO (owF (tyOpt Qq3)) (psO (owL Qq1) (psO (owL Qq4) (psO (owF tyInt) (psO (owL Qq1) (psO (owF tyInt) (psO (owL Qq1) psNil)))))))))) 0 rfl))) λiK=>(zld_ (zi_ (s:=lB) (.same (.dead (.dead (.dead (.dead (.dead (.dead (.dead (.dead (.dead .nil))))))))))))))))))))))))))))))))⟩
def zJ_ (eO:Unit)(eT:Jx)(dz:(List ((Int×Int)×Jx)))(cE:Qq8)(dA:(List (Int×Int)))(bj:(Option Qq6))(cF:Int)(eN:(Option (List (Int×Int))))(bZ:Int)(bq:(Option (List (Int×Int)))):Mo (Unit×Qq2):=fnMU (zaF_.1 eO (eT,dz,cE,dA,bj,cF,eN,bZ,bq))
noncomputable def zbw_ (K:Fgg):Sp:=CtM K (owI (gA K "Asking") [] psNil) (Qq5 K) (csCons tyStr (csCons (tyL Qq7) (csCons (tyOpt Qq3) (csCons (tyL Qq1) (csCons (tyOpt (tyL Qq4)) (csCons tyInt (csCons (tyOpt (tyL Qq1)) (csCons tyInt (csLast (tyOpt (tyL Qq1))))))))))) (λx c=>zJ_ x c.1 c.2.1 c.2.2.1 c.2.2.2.1 c.2.2.2.2.1 c.2.2.2.2.2.1 c.2.2.2.2.2.2.1 c.2.2.2.2.2.2.2.1 c.2.2.2.2.2.2.2.2) (owF tyNon)
abbrev zb2_ (P:m7)(w:nL)(K:Fgg)(mg:Str->Option aL)(base:Heap):Prop:=GkD P w K mg base (CXx P w) 7 "Asking" (gA K "Asking") ["self", "deck", "picks", "middle", "order", "works", "breaks", "sums", "figures", "board"] [] (zbw_ K)
noncomputable def zjL_ (K:Fgg)(E:XK):TS:=(tSeq (tAsg (tComp ["_law_part"] [] (iAny K (mVar 0)) (gName 0) tTrue (mIf (mTest (tCB (mIsa K) (tCons (mVar 0) (tCons (tC (.ty "list")) tNil)))) (tCB (mList K) (tCons (mVar 0) tNil)) (mVar 0))) (gName 1)) (tSeq (tAsg (tSl (mSl K) (mVar 1) (mPart (tC (.int 4))) tNoPart) (gName 2)) (tRet (tMake (gA K "Asking") (zbw_ K) [] E (tCons (tOp (mIx K) (mVar 1) (tC (.int 0))) (tCons (tOp (mIx K) (mVar 1) (tC (.int 1))) (tCons (tOp (mIx K) (mVar 1) (tC (.int 2))) (tCons (tOp (mIx K) (mVar 1) (tC (.int 3))) (tCons (tOp (mIx K) (mVar 2) (tC (.int 0))) (tCons (tOp (mIx K) (mVar 2) (tC (.int 1))) (tCons (tOp (mIx K) (mVar 2) (tC (.int 2))) (tCons (tOp (mIx K) (mVar 2) (tC (.int 3))) (tCons (tOp (mIx K) (mVar 2) (tC (.int 4))) tNil)))))))))))))
noncomputable def zeK_:WC (List Dy) Qq2 (λK E=>zjL_ K E) (λK c=>[(Zf (tyL tyDy) c),Zd,Zd]) (λK=>(Qq5 K)):=⟨λc=>_,λK c E=>
 (zhh_ (i:=1) rfl (zaI_ (ei_l (za_ 0 rfl)) (zK_ 0) (λ_=>dead1) (λdk=>zaK_) (λdk=>(ev_if (zF_ (znG_ (za_ 0 rfl))) (zbe_ (zb6_ in_ly) (EvO.fr (zfl_ zft_ (zb_ (zcE_ (zcH_ zsp_) (za_ 0 rfl)))))) (za_ 0 rfl)))) λdm=>zee_ (i:=1) rfl (aN_3 (zhh_ (i:=2) rfl (zgQ_ (za_ 1 rfl) (zfH_ (ze_ 4)) zgV_) λqK=>zee_ (i:=2) rfl (aN_3 (za4_ (zsu_ (zfR_ (zag_ zW_) (zfR_ Qi6 (zfR_ (zag_ (zeM_ Qi1)) (zfR_ (zH_ Qi0) (zfR_ (zH_ Qi4) (zfR_ (zag_ zE_) (zfR_ (zH_ Qi0) (zfR_ (zag_ zE_) (zfR_ (zH_ Qi0) zpa_)))))))))) (zny_ (zd_ (zcE_ (zcH_ zax_) (zh_ zV_ (za_ 1 rfl) (ze_ 0))) (zd_ (zcE_ (zcH_ (m_L (m_T (m_C Qi3 (m_1 zax_))))) (zh_ zV_ (za_ 1 rfl) (ze_ 1))) (zd_ (zcE_ (zcH_ (m_O (m_U (m_T (m_C zax_ (m_1 Qi3))) (m_T (m_C zax_ (m_C zax_ (m_C Qi3 (m_1 Qi3)))))) (λ_ _ _=>nn_u (λ_ _ _=>zha_) (λ_ _ _=>zha_)))) (zh_ zV_ (za_ 1 rfl) (ze_ 2))) (zd_ (zcE_ (zcH_ (m_L Qi3)) (zh_ zV_ (za_ 1 rfl) (ze_ 3))) (zd_ (zcE_ (zcH_ (m_O (m_L (m_T (m_C Qi3 (m_C Qi3 (m_C zax_ (m_1 Qi3)))))) (λ_ _ _=>nn_l))) (zh_ zV_ (za_ 2 rfl) (ze_ 0))) (zd_ (zcE_ (zcH_ zih_) (zh_ zV_ (za_ 2 rfl) (ze_ 1))) (zd_ (zcE_ (zcH_ (m_O (m_L Qi3) (λ_ _ _=>nn_l))) (zh_ zV_ (za_ 2 rfl) (ze_ 2))) (zd_ (zcE_ (zcH_ zih_) (zh_ zV_ (za_ 2 rfl) (ze_ 3))) (zb_ (zcE_ (zcH_ (m_O (m_L Qi3) (λ_ _ _=>nn_l))) (zh_ zV_ (za_ 2 rfl) (ze_ 4))))))))))))))))))⟩
def zaC_ (aj:(List Dy)):Mo Qq2:=fnO (zeK_.1 aj)
def zfs_ (K:Fgg):Sp:=Ct K (csLast (tyL tyDy)) (λc=>zaC_ c) (Qq5 K)
abbrev zg2_ (P:m7)(w:nL)(K:Fgg)(mg:Str->Option aL)(base:Heap):Prop:=Gd P w K mg base (CXx P w) 9 "_law_made" ["_law_parts_here"] (zfs_ K)
noncomputable def zje_ (K:Fgg):TS:=(tSeq (tAsg (tLst (tCons (tCB (mIsaX K) (tCons (mVar 0) (tCons (tC (.ref (gA K "NoCard"))) tNil))) (tCons (tCB (mIsaX K) (tCons (mVar 0) (tCons (tC (.ref (gA K "NoField"))) tNil))) (tCons (tCB (mIsaX K) (tCons (mVar 0) (tCons (tC (.ref (gA K "NoOrder"))) tNil))) (tCons (tCB (mIsaX K) (tCons (mVar 0) (tCons (tC (.ref (gA K "NoBoard"))) tNil))) tNil))))) (gName 1)) (tSeq (tAsg (tOp mAdd (mVar 1) (tLst (tCons (tCB (mIsaX K) (tCons (mVar 0) (tCons (tC (.ref (gA K "Meet"))) tNil))) (tCons (tCB (mIsaX K) (tCons (mVar 0) (tCons (tC (.ref (gA K "NoTray"))) tNil))) (tCons (tCB (mIsaX K) (tCons (mVar 0) (tCons (tC (.ref (gA K "NoPlan"))) tNil))) (tCons (tCB (mIsaX K) (tCons (mVar 0) (tCons (tC (.ref (gA K "NoRow"))) tNil))) tNil)))))) (gName 1)) (tRet (mAndV (tCB (mIsaX K) (tCons (mVar 0) (tCons (tC (.ref (gA K "ShopError"))) tNil))) (mAndV (tCB (mIsaX K) (tCons (mVar 0) (tCons (tC (.ty "ValueError")) tNil))) (tOp (mIn K true) (tC (.bl true)) (mVar 1)))))))
noncomputable def zfC_ (cp:Xc):Mo (Out Bool Unit Unit):=
 (Mb (Mb (Mb (Mb (Mq cp) λcV=>Mo.opt (isaQ [("NoAsking",false),("NoBoard",false),("Meet",false)] cV.c)) λlp=>Mb (Mb (Mb (Mq cp) λkX=>Mo.opt (isaQ [("NoAsking",false),("NoBoard",false),("Meet",false)] kX.c)) λv8=>Mb (Mb (Mb (Mq cp) λw4=>Mo.opt (isaQ [("NoAsking",false),("NoBoard",false),("Meet",false)] w4.c)) λw6=>Mb (Mb (Mq cp) λw5=>Mo.opt (isaQ [("NoAsking",false),("NoBoard",true),("Meet",false)] w5.c)) λpJ=>Mq (w6,pJ)) λy9=>Mq (v8,y9)) λkW=>Mq (lp,kW)) λiJ=>Mq [iJ.1,iJ.2.1,iJ.2.2.1,iJ.2.2.2]) λdm=>(Mb (Mb (Mq dm) λfW=>Mb (Mb (Mb (Mb (Mq cp) λp6=>Mo.opt (isaQ [("NoAsking",false),("NoBoard",false),("Meet",true)] p6.c)) λmY=>Mb (Mb (Mb (Mq cp) λlg=>Mo.opt (isaQ [("NoAsking",false),("NoBoard",false),("Meet",false)] lg.c)) λiK=>Mb (Mb (Mb (Mq cp) λiQ=>Mo.opt (isaQ [("NoAsking",false),("NoBoard",false),("Meet",false)] iQ.c)) λmZ=>Mb (Mb (Mq cp) λiN=>Mo.opt (isaQ [("NoAsking",false),("NoBoard",false),("Meet",false)] iN.c)) λiI=>Mq (mZ,iI)) λkU=>Mq (iK,kU)) λpN=>Mq (mY,pN)) λiH=>Mq [iH.1,iH.2.1,iH.2.2.1,iH.2.2.2]) λmU=>Mo.lim (fW.length+mU.length) (Mq (fW++mU))) λlF=>(Mb (Mb (Mb (Mq cp) λmX=>Mo.opt (isaQ [("NoAsking",true),("NoBoard",true),("Meet",true)] mX.c)) λpL=>if pL then(Mb (Mb (Mq cp) λmW=>Mo.opt (isaQ [("NoAsking",true),("NoBoard",true),("Meet",true)] mW.c)) λpM=>if pM then(Mb (Mq true) λpZ=>Mb (Mq lF) λpR=>Mq (!(pR.any λy=>decide (y=pZ))))else Mq false)else Mq false) λnN=>Mq (.rt nN))))
def zcG_ (cp:Xc):Mo Bool:=fnO (zfC_ cp)
def zeC_ (K:Fgg):Sp:=Ct K (csLast (tyXc K)) (λc=>zcG_ c) (owF tyBl)
abbrev zfw_ (P:m7)(w:nL)(K:Fgg)(mg:Str->Option aL)(base:Heap):Prop:=GdN P w K mg base 1 "_law_kinds" ["_law_e"] (zeC_ K)
noncomputable def znj_ (K:Fgg):TS:=(tSeq (tAsg (tC (.bl false)) (gName 1)) (tSeq (tAsg (tC (.bl false)) (gName 2)) (tSeq (tTryH (tDropX (zfs_ K) (tCons (mVar 0) tNil)) (tHAs K (gA K "NoAsking") 3 (tSeq (tAsg (tC (.bl true)) (gName 1)) (tAsg (tCall (zeC_ K) [] E0 (tCons (mVar 3) tNil)) (gName 2))) tH0)) (tSeq (mIfS (mAnd (mTrL K (mVar 1)) (tNot (mTrL K (mVar 2)))) tNever tNext) (tRet (mVar 1))))))
noncomputable def zb8_ (aj:(List Dy)):Mo (Out Bool Unit Unit):=
 (Mb (Mq false) λi7=>(Mb (Mq false) λiZ=>(thenO (S:=(Bool×Bool)) (Mb (Mq aj) λkT=>Mo.tr (zaC_ kT) (λ_=>(Mq (.nx (i7,iZ)))) λbX=>(Mo.cat [("NoAsking",true),("NoBoard",false),("Meet",false)] bX.c (Mb (Mq true) λy6=>(Mb (Mb (Mq bX) λw8=>Mo.noex (zcG_ w8)) λy7=>(Mq (.nx (y6,y7))))) Mo.no)) λeD=>(thenO (S:=Unit) (Mb (Mb (Mq eD.1) λv10=>if v10 then(Mb (Mq eD.2) λw9=>Mq (!w9))else Mq false) λkW=>if kW then Mo.no else(Mq (.nx ()))) λ_=>(Mb (Mq eD.1) λnO=>Mq (.rt nO))))))
def zaB_ (aj:(List Dy)):Mo Bool:=fnO (zb8_ aj)
def zfV_ (K:Fgg):Sp:=Ct K (csLast (tyL tyDy)) (λc=>zaB_ c) (owF tyBl)
abbrev zcq_ (P:m7)(w:nL)(K:Fgg)(mg:Str->Option aL)(base:Heap):Prop:=Gd P w K mg base CX0 10 "_law_refused" ["_law_parts_here"] (zfV_ K)
def zr6_:{t:Fgg->XK->TS // ∀(P:m7) (w:nL) (K:Fgg) (mg:Str->Option aL) (base:Heap),En K mg->zdx_ P w K mg base->zce_ P w K mg base->zaD_ P w K mg base->zcq_ P w K mg base->Tm P w K mg base 10 ["_law_script", "_law_parts_here", "_law_spoiled_here"] "law" zr7_ (t K)}:=by fail "0"
noncomputable def zr4_:WC (List Int) Bool zr6_.1 (λK c=>[(Zf (tySc K) c),Zd,Zd]) (λK=>(owF tyBl)):=⟨λc=>_,λK c E=>
 by dsimp only[zr6_];exact(zhh_ (i:=1) rfl (z1_ (zb_ (za_ 0 rfl))) λqF=>zee_ (i:=1) rfl (aN_3 (zhh_ (i:=2) rfl (z1_ (zd_ (za_ 1 rfl) (zb_ (zg_ (zd_ (za_ 0 rfl) (zb_ (ze_ 2))))))) λqv=>zee_ (i:=2) rfl (aN_3 (zhk_ (s_if (et_or (zF_ (zh_ zm9_ (zg_ (zb_ (za_ 1 rfl))) (zlh_ false))) (zF_ (zh_ zm9_ (zg_ (zb_ (za_ 2 rfl))) (zlh_ true)))) (za4_ (zag_ zbX_) (EvF.ow (zlh_ false))) (zi_ (s:=()) (.same (.same (.same .nil))))) λ_=>(aN_3 (za4_ (zag_ zbX_) (EvF.ow (zh_ zsq_ (zg_ (zb_ (za_ 1 rfl))) (zlh_ false))))))))))⟩
def zsV_ (av:(List Int)):Mo Bool:=fnO (zr4_.1 av)
set_option hygiene false
set_option hygiene true
section
variable {P:m7}{w:nL}{K:Fgg}{mg:Str->Option aL}{base:Heap}
theorem zf5_ (e:En K mg):zaD_ P w K mg base:=
 za3_ e.m e.f0 (okC 2 0 (zD_ zk_) (zcu_.2 P w K mg base e) (zca_.2 K))
theorem ziJ_ (e:En K mg):zgJ_ P w K mg base:=
 za3_ e.m e.f1 (okC (N:=["_law_cell", "_law_letters"]) 1 1 zk_ (λ_ _ _ _ _ _ E nd hr=>by fail "9") (zem_.2 K))
theorem zjc_ (e:En K mg):zah_ P w K mg base:=
 za3_ e.m e.f2 (okC 3 1 (zD_ (zD_ zk_)) (zeN_.2 P w K mg base e) (zeF_.2 K))
theorem zhx_ (e:En K mg):zbv_ P w K mg base:=
 za3_ e.m e.f3 (okC 2 3 (zD_ zk_) (zdK_.2 P w K mg base e) (zdJ_.2 K))
theorem zhi_ (e:En K mg)(g2:zah_ P w K mg base)(g3:zbv_ P w K mg base):ze1_ P w K mg base:=
 za3_ e.m e.f4 (okC 2 3 (zD_ zk_) (zc4_.2 P w K mg base e g2 g3) (zc3_.2 K))
theorem zjm_ (e:En K mg)(g2:zah_ P w K mg base):zgA_ P w K mg base:=
 za3_ e.m e.f5 (okC 2 4 (zD_ zk_) (zeu_.2 P w K mg base e g2) (zey_.2 K))
theorem zh2_ (e:En K mg)(g0:zaD_ P w K mg base)(g2:zah_ P w K mg base)(g5:zgA_ P w K mg base):zfI_ P w K mg base:=
 za3_ e.m e.f6 (okC (N:=["_law_script", "_law_signs", "_law_seed", "_law_some", "_law_cell", "_law_kind", "_law_number", "_law_field", "_law_text"]) 1 8 zk_ (λ_ _ _ _ _ _ E nd hr=>by fail "9") (zdB_.2 K))
theorem zg4_ (e:En K mg):zeo_ P w K mg base:=
 za3_ e.m e.f7 (okC 1 0 zk_ (zc1_.2 P w K mg base e) (zeD_.2 K))
theorem zhH_ (e:En K mg)(g0:zaD_ P w K mg base)(g1:zgJ_ P w K mg base)(g4:ze1_ P w K mg base)(g6:zfI_ P w K mg base)(g7:zeo_ P w K mg base):zdx_ P w K mg base:=
 za3_ e.m e.f8 (okC (N:=["_law_script", "_law_first", "_law_name_here", "_law_middle_here", "_law_second", "_law_picks", "_law_order", "_law_works", "_law_sums", "_law_wires", "_law_turned_here", "_law_to", "_law_one", "_law_word", "_law_other_here", "_law_at", "_law_board", "_law_breaks"]) 1 17 zk_ (λ_ _ _ _ _ _ E nd hr=>by fail "9") (zdz_.2 K))
theorem zeU_ (e:En K mg):zZ_ P w K mg base:=
 za3_ e.m e.f9 (okC 2 2 (zD_ zk_) (zbh_.2 P w K mg base e) (zbu_.2 K))
theorem zff_ (e:En K mg):zaq_ P w K mg base:=
 za3_ e.m e.f10 (okC 2 1 (zD_ zk_) (zbE_.2 P w K mg base e) (zbV_.2 K))
theorem zd3_ (e:En K mg)(g2:zah_ P w K mg base)(fV:zaq_ P w K mg base)(g3:zbv_ P w K mg base)(g9:zZ_ P w K mg base):za2_ P w K mg base:=
 za3_ e.m e.f11 (okC 2 5 (zD_ zk_) (zaX_.2 P w K mg base e g2 fV g3 g9) (zaR_.2 K))
theorem zfk_ (e:En K mg)(g9:zZ_ P w K mg base):zbG_ P w K mg base:=
 za3_ e.m e.f12 (okC (N:=["_law_works", "_law_cell", "_law_work_here", "_law_bad", "_law_some", "_law_word"]) 2 4 (zD_ zk_) (λ_ _ _ _ _ _ E nd hr=>(z3_ (pst 2 (zdI_ (zm_ (zdI_ (zm_ z2_ (zm_ z2_ zaG_))) (zm_ (zdI_ (zm_ z2_ (zm_ z2_ zaG_))) (zm_ (zfi_ (l:=[112,108,117,115])) (zm_ (zdI_ (zm_ z2_ (zm_ z2_ zaG_))) zaG_)))))) (z3_ (zmp_ (zjH_ zqW_ (zna_ zfK_ (e.m.gb e.b0) (zm_ (zl_ 0) zaG_)) z2_) (zb0_ (pst 2 (zgp_ ix_M (zl_ 0) (zib_ zfy_ (zib_ zij_ (zl_ 1) z2_) (zna_ zfK_ (e.m.gb e.b0) (zm_ (zl_ 0) zaG_))) (λ_ _=>rfl)))) zgN_) (z3_ (pst 3 (zku_ g9 (hm hr) (zm_ (zgp_ ix_M (zl_ 2) (zib_ zmA_ (zib_ zfy_ (zl_ 1) z2_) z2_) (λ_ _=>rfl)) (zm_ (zib_ zij_ (zl_ 1) z2_) zaG_)))) (z3_ (pst 4 (zjQ_ (zm_ (zdI_ (zm_ (zl_ 3) (zm_ (zgp_ ix_M (zl_ 2) z2_ (λ_ _=>rfl)) (zm_ (zgp_ ix_M (zl_ 2) z2_ (λ_ _=>rfl)) (zm_ (zgp_ ix_M (zl_ 2) z2_ (λ_ _=>rfl)) zaG_))))) (zm_ (zdI_ (zm_ (zgp_ ix_M (zl_ 2) z2_ (λ_ _=>rfl)) (zm_ (zl_ 3) (zm_ (zgp_ ix_M (zl_ 2) z2_ (λ_ _=>rfl)) (zm_ (zgp_ ix_M (zl_ 2) z2_ (λ_ _=>rfl)) zaG_))))) (zm_ (zdI_ (zm_ (zgp_ ix_M (zl_ 2) z2_ (λ_ _=>rfl)) (zm_ (zgp_ ix_M (zl_ 2) z2_ (λ_ _=>rfl)) (zm_ (zgp_ ix_M (zl_ 2) z2_ (λ_ _=>rfl)) (zm_ (zl_ 3) zaG_))))) zaG_))))) (z3_ (pst 5 (zgp_ ix_M (zjQ_ (zm_ (zfi_ (l:=[])) (zm_ (zfi_ (l:=[80,108,117,115])) (zm_ (zfi_ (l:=[111,118,101,114])) (zm_ (zfi_ (l:=[116,105,109,101,115,32])) (zm_ (zfi_ (l:=[97,100,100])) zaG_)))))) (zib_ zfy_ (zib_ zij_ (zl_ 1) z2_) z2_) (λ_ _=>rfl))) (z3_ (pst 4 (zib_ zhe_ (zl_ 4) (zjQ_ (zm_ (zdI_ (zm_ (zgp_ ix_M (zl_ 2) z2_ (λ_ _=>rfl)) (zm_ (zgp_ ix_M (zl_ 2) z2_ (λ_ _=>rfl)) (zm_ (zl_ 5) (zm_ (zgp_ ix_M (zl_ 2) z2_ (λ_ _=>rfl)) zaG_))))) zaG_)))) (z3_ (zmp_ (zjH_ (znM_ hr.u60) (zib_ zfy_ (zl_ 1) z2_) z2_) (zb0_ (zjp_ (zmw_ (cl:=[]) (lv:=["_law_k"]) (fr:=[]) rfl (csm rfl fr0) (zkS_ (e.m.gb e.b1) (zm_ z2_ zaG_)) (λ_ _ _ _=>(pgc 0)) (λ_ _ _ _=>zmO_) (λ_ _ _ _=>(zdI_ (zm_ (zdI_ (zm_ (zib_ zhe_ z2_ (zl_ 0)) (zm_ (zib_ zhe_ z2_ (zl_ 0)) zaG_))) (zm_ (zdI_ (zm_ z2_ (zm_ z2_ zaG_))) (zm_ (zfi_ (l:=[112,108,117,115])) (zm_ (zdI_ (zm_ z2_ (zm_ z2_ zaG_))) zaG_))))))))) zgN_) (zb0_ (zjp_ (zib_ zhe_ (zhL_ sl_M (zl_ 0) zm4_ (po_M (zrl_ z2_))) (zjQ_ (zm_ (zgp_ ix_M (zl_ 4) (zib_ zfy_ (zl_ 1) z2_) (λ_ _=>rfl)) zaG_))))))))))))) (zbD_.2 K))
theorem zeE_ (e:En K mg):zbk_ P w K mg base:=
 za3_ e.m e.f13 (okC 2 1 (zD_ zk_) (zbg_.2 P w K mg base e) (zbp_.2 K))
theorem zfa_ (e:En K mg)(g2:zah_ P w K mg base):zbN_ P w K mg base:=
 za3_ e.m e.f14 (okC 1 3 zk_ (zbQ_.2 P w K mg base e g2) (zbK_.2 K))
theorem zgd_ (e:En K mg)(g9:zZ_ P w K mg base)(fV:zaq_ P w K mg base)(kG:zbN_ P w K mg base)(kK:za2_ P w K mg base)(kJ:zbG_ P w K mg base)(kI:zbk_ P w K mg base):zce_ P w K mg base:=
 za3_ e.m e.f15 (okC 2 5 (zD_ zk_) (zcd_.2 P w K mg base e g9 fV kG kK kJ kI) (zC_.2 K))
theorem zeI_ (e:En K mg):zcV_ P w K mg base:=
 za3_ e.m e.f16 (okC 1 0 zk_ (zbl_.2 P w K mg base e) (zcW_.2 K))
theorem zeW_ (e:En K mg):zcI_ P w K mg base:=
 za3_ e.m e.f17 (okC 1 0 zk_ (zbn_.2 P w K mg base e) (zcL_.2 K))
theorem zkc_ (e:En K mg):zN_ P w K mg base:=
 za3_ e.m e.f18 (okXU (LS:=λ_:Unit=>[Zd,Zd]) 2 0 (zD_ zk_) (zgg_.2 P w K mg base e) (zid_.2 K))
theorem zeO_ (e:En K mg)(aQ:zN_ P w K mg base):zbs_ P w K mg base:=
 za3_ e.m e.f19 (okXU (LS:=λ_:Unit=>[Zd]) 1 0 zk_ (zbj_.2 P w K mg base e aQ) (zaA_.2 K))
theorem zji_ (e:En K mg):zby_ P w K mg base:=
 za3_ e.m e.f20 (okC 1 0 zk_ (zkq_.2 P w K mg base e) λc E=>aN_1
 (za4_ (zag_ zbX_) (EvF.ow (zer_ (zh_ zhC_ (zai_ (ns:=Qn0) (by decide +kernel) (n:=2) rfl (at_s (at_s at_0)) (za_ 0 rfl)) zgP_) (zrI_ e.t0 (zqU_ (i:=0) at_0 at_0 (zaz_ (zai_ (ns:=Qn0) (by decide +kernel) (n:=2) rfl (at_s (at_s at_0)) (za_ 0 rfl)))))))))
theorem zc0_ (e:En K mg)(aQ:zN_ P w K mg base)(d8:zby_ P w K mg base):zar_ P w K mg base:=
 za3_ e.m e.f21 (okXU (LS:=λ_:Unit=>[Zd,Zd]) 1 1 zk_ (zau_.2 P w K mg base e aQ d8) (zbf_.2 K))
theorem zi4_ (e:En K mg)(d8:zby_ P w K mg base):zeV_ P w K mg base:=
 za3_ e.m e.f22 (okC 1 0 zk_ (zel_.2 P w K mg base e d8) (zgB_.2 K))
theorem zjT_ (e:En K mg):zf1_ P w K mg base:=
 za3_ e.m e.f23 (okC (N:=["text"]) 1 0 zk_ (λ_ _ _ _ _ _ E nd hr=>by fail "9") (zed_.2 K))
theorem zge_ (e:En K mg)(kC:zeV_ P w K mg base)(aQ:zN_ P w K mg base)(kB:zf1_ P w K mg base):zcv_ P w K mg base:=
 za3_ e.m e.f24 (okXU (LS:=λ_:Unit=>[Zd,Zd,Zd]) 1 2 zk_ (zcc_.2 P w K mg base e kC aQ kB) (z5_.2 K))
theorem ze0_ (e:En K mg)(d8:zby_ P w K mg base):zaf_ P w K mg base:=
 za3_ e.m e.f25 (okC (N:=Qn1) 1 0 zk_ (λ_ _ _ _ _ _ E nd hr=>by fail "9") (zcJ_.2 K))
theorem zhj_ (e:En K mg)(fF:zaf_ P w K mg base):zc5_ P w K mg base:=
 za3_ e.m e.f26 (okC (N:=["asking", "fields", "work"]) 1 2 zk_ (λ_ _ _ _ _ _ E nd hr=>by fail "9") (zbI_.2 K))
theorem zhy_ (e:En K mg):zdH_ P w K mg base:=
 za3_ e.m e.f27 (okC (N:=["text"]) 1 0 zk_ (λ_ _ _ _ _ _ E nd hr=>by fail "9") (zcC_.2 K))
theorem zfh_ (e:En K mg):zbT_ P w K mg base:=
 za3_ e.m e.f28 (okC 1 2 zk_ (zbW_.2 P w K mg base e) (zaM_.2 K))
theorem zjl_ (e:En K mg):zcr_ P w K mg base:=
 za3_ e.m e.f29 (okC 1 0 zk_ (zeH_.2 P w K mg base e) (zhb_.2 K))
theorem zhc_ (e:En K mg):zeG_ P w K mg base:=
 za3_ e.m e.f30 (okC 1 0 zk_ (zda_.2 P w K mg base e) (zbJ_.2 K))
theorem zf0_ (e:En K mg)(mM:zeG_ P w K mg base):zcz_ P w K mg base:=
 za3_ e.m e.f31 (okC (N:=["asking", "row", "pick"]) 1 2 zk_ (λ_ _ _ _ _ _ E nd hr=>by fail "9") (zbd_.2 K))
theorem zgm_ (e:En K mg)(aQ:zN_ P w K mg base)(fU:zcr_ P w K mg base)(ky:zdH_ P w K mg base)(kx:zbT_ P w K mg base)(ku:zcz_ P w K mg base):zcg_ P w K mg base:=
 za3_ e.m e.f32 (okXU (LS:=λ_:Unit=>[Zd,Zd]) 1 1 zk_ (zb9_.2 P w K mg base e aQ fU ky kx ku) (zaE_.2 K))
theorem zcn_ (e:En K mg)(fF:zaf_ P w K mg base)(aQ:zN_ P w K mg base)(fU:zcr_ P w K mg base):zad_ P w K mg base:=
 za3_ e.m e.f33 (okXU (LS:=λ_:Unit=>[Zd,Zd]) 1 1 zk_ (zab_.2 P w K mg base e fF aQ fU) (zP_.2 K))
theorem zen_ (e:En K mg):zcS_ P w K mg base:=
 gx_of e.m e.f34 e.u25.g (okXI (N:=["self", "one", "other"]) (λ_ _ _ _ _ _ E nd hr=>(z3_ (zoQ_ e.u25.g e.u40.g (e.m.gk e.k2) (zm_ (zl_ 0) (zm_ (zlr_ (zgr_ (zfi_ (l:=Qm4)) (zgr_ (zpD_ hr.u60 (zl_ 1)) (zgr_ (zfi_ (l:=[32,97,110,100,32])) (zgr_ (zpD_ hr.u60 (zl_ 2)) (zgr_ (zfi_ (l:=[32,109,101,101,116])) zts_)))))) zaG_))) (z3_ (zm2_ e.u25.g e.u26.g (zl_ 0) (zl_ 1)) (zb0_ (zm2_ e.u25.g e.u27.g (zl_ 0) (zl_ 2)))))) λc E=>atF [Zd,(Zf Qq1 c.1),(Zf Qq1 c.2)]
 (zoJ_ (zeL_ (zoq_ (zs_ Qm4)) (zeL_ (zmu_ (za_ 1 rfl)) (zeL_ (zoq_ (zs_ [32,97,110,100,32])) (zeL_ (zmu_ (za_ 2 rfl)) (zeL_ (zoq_ (zs_ [32,109,101,101,116])) zqe_)))))))
theorem zjj_ (e:En K mg):zaP_ P w K mg base:=
 za3_ e.m e.f35 (okC 1 0 zk_ (zeJ_.2 P w K mg base e) (zcf_.2 K))
theorem zhN_ (e:En K mg)(dM:zaP_ P w K mg base):zfF_ P w K mg base:=
 za3_ e.m e.f36 (okC 2 0 (zD_ zk_) (zdA_.2 P w K mg base e dM) (zcF_.2 K))
theorem zgn_ (e:En K mg)(mK:zfF_ P w K mg base)(mL:zcS_ P w K mg base):ze2_ P w K mg base:=
 za3_ e.m e.f37 (okX (N:=["wires", "wire", "leading"]) 1 2 zk_ (λ_ _ _ _ _ _ E nd hr=>by fail "9") (za1_.2 K))
theorem ziZ_ (e:En K mg)(kn:ze2_ P w K mg base):zeZ_ P w K mg base:=
 za3_ e.m e.f38 (okC (N:=["wires", "board"]) 1 1 zk_ (λ_ _ _ _ _ _ E nd hr=>(z3_ (zou_ rfl rfl (zkk_ (zrA_ (i:=1) nd rfl (.inl rfl) kn (hm hr) (zm_ (zl_ 0) zaG_))) zgN_ (e.m.gk e.k3) (e.m.gk e.k4) (λxx=>(zb0_ (zjp_ zqg_)))) (zb0_ (zjp_ (zmU_ (znM_ hr.u60) (zl_ 1) (zl_ 0)))))) λc E=>aN_2
 (zcZ_ (λig:(List (Int×Int))=>[(1,(Zf (tyL Qq1) ig))]) (zsg_ (i:=1) rfl (zH_ Qi0) (zb_ (za_ 0 rfl)) (λiY=>zee_ (i:=1) rfl (aN_2 (zi_ (s:=iY) (.same (.same .nil))))) λcY=>(eh_T2 (zmB_ e.u24.g (zmB_ e.u39.g zlL_)) (za4_ (zag_ zbX_) (EvF.ow (zlh_ false))))) λig=>(aN_2 (za4_ (zag_ zbX_) (EvF.ow (zh_ (zs5_ (eqt_l (zru_ (zoX_ zni_ (zoV_ zni_))))) (za_ 1 rfl) (za_ 0 rfl)))))))
theorem zd7_ (e:En K mg)(aQ:zN_ P w K mg base)(dM:zaP_ P w K mg base)(km:zeZ_ P w K mg base):zaW_ P w K mg base:=
 za3_ e.m e.f39 (okXU (LS:=λ_:Unit=>[Zd]) 1 0 zk_ (zaV_.2 P w K mg base e aQ dM km) (zat_.2 K))
theorem zfZ_ (e:En K mg)(fF:zaf_ P w K mg base):zcA_ P w K mg base:=
 za3_ e.m e.f40 (okC (N:=["asking", "place", "fields", "other_place", "work"]) 2 3 (zD_ zk_) (λ_ _ _ _ _ _ E nd hr=>by fail "9") (zbc_.2 K))
theorem zhv_ (e:En K mg):zdG_ P w K mg base:=
 za3_ e.m e.f41 (okC 2 0 (zD_ zk_) (zdw_.2 P w K mg base e) (zdC_.2 K))
theorem zgj_ (e:En K mg)(aQ:zN_ P w K mg base)(kj:zcA_ P w K mg base)(ki:zdG_ P w K mg base):zco_ P w K mg base:=
 za3_ e.m e.f42 (okXU (LS:=λ_:Unit=>[Zd,Zd,Zd,Zd]) 1 3 zk_ (zgx_.2 P w K mg base e aQ kj ki) λc E=>aN_4
 (zbo_ (zhk_ ( (ziN_ (LS:=(λ_:Unit=>[(Zf (Qq0 K) c),Zd,Zd,Zd])) (s0:=()) (zkN_ (zb_ (zai_ (ns:=Qn0) (by decide +kernel) (n:=4) rfl (at_s (at_s (at_s (at_s at_0)))) (za_ 0 rfl)))) (zi9_ (zc_ zf_) (zd1_ 1 (zfp_ (zK_ 2)))) λ_ bX=>aN_4 (zay_ (zA_ (zd_ (zrI_ e.t1 (zB_ (i:=2) (at_s (at_s at_0)) (za_ 2 rfl))) (zb_ (zs_ Qm3)))) λlp=>(aN_4 (zbo_ (zhk_ ( (ziN_ (LS:=(λ_:Unit=>[(Zf (Qq0 K) c),(Zf tyInt bX.1),(Zf Qq4 bX.2),Zd])) (s0:=()) (ei_l (EvO.fr (z1_ (zd_ (za_ 0 rfl) (zb_ (za_ 1 rfl)))))) (zK_ 3) λ_ lC=>aN_4 (zbo_ (zay_ (zA_ (zd_ (zg_ (zd_ (zB_ (i:=0) at_0 (za_ 2 rfl)) (zb_ (za_ 3 rfl)))) (zb_ (zs_ Qm2)))) λkZ=>(aN_4 (zi_ (s:=()) (.same (.same (.same (.dead .nil)))))))))) λ_=>(aN_4 (zi_ (s:=()) (.same (.dead (.dead (.same .nil)))))))))))) λ_=>(aN_4 (zi_ (s:=()) (.dead (.same (.same (.same .nil)))))))))
theorem ziV_ (e:En K mg)(dM:zaP_ P w K mg base):zeP_ P w K mg base:=
 za3_ e.m e.f43 (okC 2 0 (zD_ zk_) (zej_.2 P w K mg base e dM) (zdr_.2 K))
theorem zfn_ (e:En K mg)(kE:zbs_ P w K mg base)(kD:zar_ P w K mg base)(kA:zcv_ P w K mg base)(kz:zc5_ P w K mg base)(aQ:zN_ P w K mg base)(kf:zeP_ P w K mg base)(kr:zcg_ P w K mg base)(ko:zad_ P w K mg base)(kl:zaW_ P w K mg base)(kg:zco_ P w K mg base):zdi_ P w K mg base:=
 za3_ e.m e.f44 (okXU (LS:=λ_:Unit=>[Zd,Zd]) 1 1 zk_ (zbP_.2 P w K mg base e kE kD kA kz aQ kf kr ko kl kg) (zL_.2 K))
theorem zdN_ (e:En K mg)(mP:zcV_ P w K mg base)(mO:zcI_ P w K mg base)(mJ:zdi_ P w K mg base):zb2_ P w K mg base:=
 ztt_ 5 e.m e.w0 e.f45 (λT f fd arr n oc od aw F lT hl=>by obtain⟨d0,d1,d2,d3,d4,rfl⟩:=arr5 hl;exact zoC_ rfl F lT λkV doc pm an ah ct u0 u1 u2 u3 u4 u5 u6 u7 u8 u9 s ⟨o,ho,hd⟩=>BindsTo.of_defaults rfl ho hd rfl rfl) (okUXD (N:=["self", "deck", "picks", "middle", "order", "works", "breaks", "sums", "figures", "board"]) (O:=(owI (gA K "Asking") [] psNil)) (O2:=(Qq5 K)) (C:=(csCons tyStr (csCons (tyL Qq7) (csCons (tyOpt Qq3) (csCons (tyL Qq1) (csCons (tyOpt (tyL Qq4)) (csCons tyInt (csCons (tyOpt (tyL Qq1)) (csCons tyInt (csLast (tyOpt (tyL Qq1)))))))))))) (t:=λE=>zb5_ K E) (g:=zaF_.1) (LS:=λw_=>(λx':Qq2=>[(Zo (owAt w_ (Qq5 K)) x'),Zd,Zd,Zd,Zd,Zd,Zd,Zd,Zd,Zd])) 9 0 (zD_ (zD_ (zD_ (zD_ (zD_ (zD_ (zD_ (zD_ zk_)))))))) (λ_ _ _ _ _ _ E nd hr=>by fail "9") (zaF_.2 K))
theorem zi2_ (e:En K mg)(mH:zb2_ P w K mg base):zg2_ P w K mg base:=
 za3_ e.m e.f46 (okX (N:=["_law_parts_here", "_law_some", "_law_more"]) 1 2 zk_ (λ_ _ _ _ _ _ E nd hr=>by fail "9") (zeK_.2 K))
theorem zhM_ (e:En K mg):zfw_ P w K mg base:=
 gn_of e.m e.f47 (okN (N:=["_law_e", "_law_some"]) (C:=(csLast (tyXc K))) (O:=(owF tyBl)) (t:=λE=>zje_ K) (g:=λc=>zfC_ c) 1 1 zk_ (λ_ _ _ _ _ _ E nd hr=>by fail "9") λc E=>aN_2
 (zaN_ (i:=1) rfl (zH_ zbX_) (zQ_ (zc_ (zc_ (zc_ zf_))) (zj_ (zj_ (zj_ zn_))) (zd_ (zcX_ (zam_ e.u5.g (zam_ e.u17.g (zam_ e.u32.g zbt_))) rfl (za_ 0 rfl)) (zd_ (zcX_ (zam_ e.u4.g (zam_ e.u16.g (zam_ e.u31.g zbt_))) rfl (za_ 0 rfl)) (zd_ (zcX_ (zam_ e.u3.g (zam_ e.u15.g (zam_ e.u30.g zbt_))) rfl (za_ 0 rfl)) (zb_ (zcX_ (zam_ e.u2.g (zam_ e.u14.g (zam_ e.u29.g zbt_))) rfl (za_ 0 rfl))))))) λdm=>zee_ (i:=1) rfl (aN_2 (zaN_ (i:=1) rfl (zH_ zbX_) (za5_ zas_ (za_ 1 rfl) (EvO.fr (zQ_ (zc_ (zc_ (zc_ zf_))) (zj_ (zj_ (zj_ zn_))) (zd_ (zcX_ (zam_ e.u9.g (zam_ e.u21.g (zam_ e.u36.g zbt_))) rfl (za_ 0 rfl)) (zd_ (zcX_ (zam_ e.u8.g (zam_ e.u20.g (zam_ e.u35.g zbt_))) rfl (za_ 0 rfl)) (zd_ (zcX_ (zam_ e.u7.g (zam_ e.u19.g (zam_ e.u34.g zbt_))) rfl (za_ 0 rfl)) (zb_ (zcX_ (zam_ e.u6.g (zam_ e.u18.g (zam_ e.u33.g zbt_))) rfl (za_ 0 rfl))))))))) λlF=>zee_ (i:=1) rfl (aN_2 (za4_ (zag_ zbX_) (EvF.ow (zer_ (zcX_ (zam_ e.u10.g (zam_ e.u22.g (zam_ e.u37.g zbt_))) rfl (za_ 0 rfl)) (zer_ (zcX_ (zam_ e.u11.g (zam_ e.u23.g (zam_ e.u38.g zbt_))) rfl (za_ 0 rfl)) (zh_ (znd_ zsN_) (zlh_ true) (za_ 1 rfl)))))))))))
theorem zf9_ (e:En K mg)(ke:zg2_ P w K mg base)(kd:zfw_ P w K mg base):zcq_ P w K mg base:=
 za3_ e.m e.f48 (okC (N:=["_law_parts_here", "_law_refused_here", "_law_alone", "_law_e"]) 1 3 zk_ (λ_ _ _ _ _ _ E nd hr=>(z3_ (pst 1 zqg_) (z3_ (pst 2 zqg_) (z3_ (zqm_ rfl rfl (zkk_ (znF_ ke (hm hr) (zm_ (zl_ 0) zaG_))) (ph_as (i:=3) (e.m.gk e.k0) nd rfl rfl (λxx=>(z3_ (pst 1 zqg_) (zb0_ (pst 2 (zn9_ kd (hmN (hr.nX xx)) (zm_ (zl_ 3) zaG_)))))) zsF_)) (z3_ (zmp_ (PW.pt (znc_ (zpb_ (zl_ 1)) (zmN_ (zpB_ (zpb_ (zl_ 2)))))) (zb0_ znQ_) zgN_) (zb0_ (zjp_ (zl_ 1)))))))) λc E=>aN_4
 (zaQ_ (i:=1) rfl zbX_ (zlh_ false) λi7=>(aN_4 (zaQ_ (i:=2) rfl zbX_ (zlh_ false) λiZ=>(aN_4 (zcZ_ (λeD:(Bool×Bool)=>[(1,(Zf tyBl eD.1)),(2,(Zf tyBl eD.2))]) (ztk_ (zb_ (za_ 0 rfl)) (zi_ (s:=(i7,iZ)) (S4 .nil)) λbX=>(eh_as (i:=3) (ztg_ e.u1.g (zrm_ e.u13.g (zrm_ e.u28.g zo0_))) rfl (λ_=>rfl) (aN_4 (zaQ_ (i:=1) rfl zbX_ (zlh_ true) λy6=>(aN_4 (zbo_ (zaQ_ (i:=2) rfl zbX_ (zg_ (zb_ (za_ 3 rfl))) λy7=>(aN_4 (zi_ (s:=(y6,y7)) (.same (.same (.same (.dead .nil))))))))))) eh_0)) λeD=>(aN_4 (zhk_ (s_if (znZ_ (znx_ (za_ 1 rfl)) (zmc_ (znx_ (za_ 2 rfl)))) zpP_ (zi_ (s:=()) (S4 .nil))) λ_=>(aN_4 (za4_ (zag_ zbX_) (EvF.ow (za_ 1 rfl))))))))))))
end
local macro_rules | `(tactic|walk_at "mo") => `(tactic|simp only[Mo.okB, Mo.exB, Mo.noB, Mo.noexO, Mo.optS, zbm_, zpy_, zop_, znO_, znR_, zos_, zmE_, zqE_, zgi_, grd_T, Bool.not_true, Bool.not_false, if_true, if_false, Bool.false_eq_true, Option.map_some, Option.map_none, ite_true, ite_false, Int.reduceLT, Int.reduceLE, Int.reduceNeg, Int.reduceSub, Int.reduceAdd, Int.reduceMul, Nat.reduceAdd, Nat.reduceLT, decide_true, decide_false, Option.isSome_none, Option.isSome_some, Option.isNone_none, Option.isNone_some, Bool.and_true, Bool.and_false])
theorem zgF_ (ns:List Int)(k:Int)(h:0<=k):∃c,zci_ ns k=.ok c:=by
 unfold zci_ zca_
 walk_at "mo"
 by_cases hk:k<(ns.length:Int)
 ·obtain⟨x,e,_⟩:=zdM_ h hk
  rw[decide_eq_true hk,if_pos rfl,e];exact⟨x,rfl⟩
 ·rw[decide_eq_false hk,if_neg (by decide)]
  exact⟨0,rfl⟩
abbrev Fl:=Int×Int
abbrev Pk:=Fl×List Nat
abbrev Md:=Option ((List Nat×Fl) ⊕ (List Nat×List Nat×Fl×Fl))
abbrev Wk:=Fl×Fl×List Nat×Fl
abbrev Ak:=List Nat×List Pk×Md×List Fl×List Wk×Int×List Fl×Int×List Fl×Unit
def OkF (f:Fl):Prop:=1<=f.1/\f.1<=f.2/\f.2<=36
def OkN (n:Jx):Prop:=1<=n.length/\n.length<=8/\∀c∈n,97<=c/\c<=122
def OkK (sg:Int->Nat)(p:Pk):Prop:=OkF p.1/\p.2=(rngI p.1.1 (p.1.2+1-p.1.1).toNat).map sg
def WFi:List Nat:=[102,105,114,115,116]
def WMa:List Nat:=[109,97,116,101,115]
def WWi:List Nat:=[119,105,116,104,111,117,116]
inductive OkM (d:Jx):Md->Prop
 |no:OkM d none
 |fi {f:Fl}:OkF f->OkM d (some (.inl (WFi,f)))
 |ma {w n:List Nat}{f g:Fl}:w=WMa\/w=WWi->OkN n->n≠d->OkF f->OkF g->f.2-f.1=g.2-g.1->OkM d (some (.inr (w,n,f,g)))
def WWo:Jy:=[[112,108,117,115],[108,101,115,115],[116,105,109,101,115]]
def OkW (w:Wk):Prop:=OkF w.1/\OkF w.2.1/\OkF w.2.2.2/\w.2.2.1∈WWo
def share (a b:Fl):Bool:=decide (a.1<=b.2) && decide (b.1<=a.2)
def midF (m:Md):List Fl:=match m with |none=>[]|some (.inl c)=>[c.2]|some (.inr c)=>[c.2.2.1,c.2.2.2]
def gk (k:Int)(q:Int×Wk):List Fl:=(if !decide (q.1=k)then[q.2.1]else[])++(if decide (q.1<=k)then[q.2.2.1,q.2.2.2.2]else[])
def kp (A:Ak)(k:Int):List Fl:=A.2.1.map (·.1)++(midF A.2.2.1).take 1++A.2.2.2.1++(enumL A.2.2.2.2.1).flatMap (gk k)
structure OkA (A:Ak):Prop where
 nm:OkN A.1
 pl:A.2.1.length<=8
 pk:∃sg:Int->Nat,(∀c,sg c∈SG)/\∀p∈A.2.1,OkK sg p
 md:OkM A.1 A.2.2.1
 ol:A.2.2.2.1.length<=6
 od:∀f∈A.2.2.2.1,OkF f
 wl:A.2.2.2.2.1.length<=4
 wk:∀w∈A.2.2.2.2.1,OkW w
 br:0<=A.2.2.2.2.2.1/\A.2.2.2.2.2.1<=3/\A.2.2.2.2.2.1<=A.2.2.2.1.length
 sl:A.2.2.2.2.2.2.1.length<=4
 su:∀f∈A.2.2.2.2.2.2.1,OkF f
 fg:1<=A.2.2.2.2.2.2.2.1/\A.2.2.2.2.2.2.2.1<=12
 bd:zX_ A.2.2.2.2.2.2.2.2.1=.ok true
 ft:∀q∈enumL A.2.2.2.2.1,∀f∈kp A q.1,share q.2.1 f=false
theorem zfP_ {ρ B S S':Type}{m:Mo (Out ρ B S)}{k:S->Mo (Out ρ B S')}{Q:S'->Prop}(P:S->Prop)(h:∃s',m=.ok (.nx s')/\P s')(hk:∀s',P s'->∃z,k s'=.ok (.nx z)/\Q z):∃z,thenO m k=.ok (.nx z)/\Q z:=by
 obtain⟨s',e,p⟩:=h;rw[e,zbm_];exact hk s' p
theorem zsa_ (w:Jx):zba_ true w=.ok ():=rfl
theorem zow_ {α:Type}{xs:List α}{q:Int×α}(h:q∈enumL xs):q.2∈xs:=by
 obtain⟨i,_,e,e2⟩:=zil_ h;exact sW e2
theorem zkQ_ (a b:Fl):zcD_ a b=.ok (!share a b):=by
 unfold zcD_ zdC_ share
 walk_at "mo"
 by_cases c1:a.2<b.1
 ·rw[decide_eq_true c1,decide_eq_false (show¬b.1<=a.2 by lia),ve];rfl
 ·rw[decide_eq_false c1,decide_eq_true (show b.1<=a.2 by lia),ya]
  by_cases c2:b.2<a.1
  ·rw[decide_eq_true c2,decide_eq_false (show¬a.1<=b.2 by lia)];rfl
  ·rw[decide_eq_false c2,decide_eq_true (show a.1<=b.2 by lia)];rfl
theorem fieldb {f:Fl}(h:OkF f):zcl_ f.1 f.2=.ok true:=by
 obtain⟨h1,h2,h3⟩:=h;unfold zcl_ zdr_ zae_ zcf_
 walk_at "mo"
 rw[decide_eq_true h1,decide_eq_true h2,decide_eq_true h3];rfl
theorem zhX_ (f:Fl):zgw_ f=.ok (f.2-f.1+1):=rfl
theorem zkD_ {d:List Nat}{m:Md}(h:OkM d m):∀f∈midF m,OkF f:=by
 cases h with
 |no=>intro f hf;cases hf
 |fi h=>intro f hf;rw[pS.mp hf];exact h
 |ma _ _ _ h1 h2 _=>
  intro f hf;rcases qf.mp hf with rfl |hf
  ·exact h1
  ·rw[pS.mp hf];exact h2
theorem zdy_ {m:Md}:(midF m).length<=2:=by
 unfold midF;split<;>simp
theorem zb1_ {n:List Nat}(h:OkN n):z9_ n=.ok true:=by
 obtain⟨h1,h2,h3⟩:=h;unfold z9_ zed_
 walk_at "mo"
 rw[Mo.lim_ok (by lia)]
 walk_at "mo"
 rw[decide_eq_true (show(1:Int)<=n.length by lia),decide_eq_true (show(n.length:Int)<=8 by lia)]
 walk_at "mo"
 rw[zM_ (f:=λfN:List Nat=>cond1 (Mq true) (Mq (inS fN Qm0))) (g:=λx=>inS x Qm0) (λx hx=>rfl) (by simp;lia)]
 have e:(([]:List Bool)++(n.map λc=>[c]).map λx=>inS x Qm0).all id=true:=by
  rw[qA,rq];intro b hb;obtain⟨x,hx,rfl⟩:=qp.mp hb;obtain⟨c,hc,rfl⟩:=qp.mp hx;have hc:=h3 c hc;have:∀c:Nat,c<123->97<=c->inS [c] Qm0=true:=by decide
  exact this c (by lia) hc.1
 rw[Mo.okB,e];rfl
section
variable {A:Ak}
theorem zfT_ {d:List Nat}(h:OkM d A.2.2.1):z0_ A=.ok (midF A.2.2.1):=by
 obtain⟨a,b,m,r⟩:=A;cases h with
 |no=>rfl
 |fi _=>rfl
 |ma w _ _ _ _ _=>rcases w with rfl |rfl<;>rfl
theorem zef_ {d:List Nat}(h:OkM d A.2.2.1):zx_ A=.ok ():=by
 obtain⟨a,b,m,r⟩:=A;cases h with
 |no=>rfl
 |fi _=>rfl
 |ma w _ _ _ _ _=>rcases w with rfl |rfl<;>rfl
theorem zrR_ (h:OkA A):zr_ A=.ok ():=by
 have h1:=h.pl;have h2:=h.ol;have h3:=h.wl;have h4:=h.sl;unfold zr_ zaA_
 walk_at "mo"
 rw[decide_eq_true (show(A.2.1.length:Int)<=8 by lia),decide_eq_true (show(A.2.2.2.1.length:Int)<=6 by lia),decide_eq_true (show(A.2.2.2.2.1.length:Int)<=4 by lia),decide_eq_true (show(A.2.2.2.2.2.2.1.length:Int)<=4 by lia),zsa_]
 rfl
theorem zo4_ (h:OkA A):zo_ A=.ok ():=by
 have key:∀ns:Jy,z6_ A=.ok ns->(ns=[A.1]\/∃n,OkN n/\n≠A.1/\ns=[A.1,n])->zo_ A=.ok ():=λns e dW=>by
  unfold zo_ z5_
  walk_at "mo"
  rw[e]
  walk_at "mo"
  rw[zaH_ (λx hx=>by
   have:z9_ x=.ok true:=by
    rcases dW with rfl |⟨n,hn,_,rfl⟩
    ·rw[pS.mp hx];exact zb1_ h.nm
    ·rcases qf.mp hx with rfl |hx
     ·exact zb1_ h.nm
     ·rw[pS.mp hx];exact zb1_ hn
   rw[this];rfl)]
  rcases dW with rfl |⟨n,hn,aF,rfl⟩
  ·walk_at "mo"
   rw[show atI [A.1] 0=some A.1 from rfl,show atI [A.1] (-1)=some A.1 from rfl]
   walk_at "mo"
   rfl
  ·walk_at "mo"
   rw[show atI [A.1,n] 0=some A.1 from rfl,show atI [A.1,n] (-1)=some n from rfl]
   walk_at "mo"
   rw[decide_eq_false (tH aF)];rfl
 have hm:=h.md;clear h;obtain⟨a,b,m,r⟩:=A;cases hm with
 |no=>exact key _ rfl (.inl rfl)
 |fi _=>exact key _ rfl (.inl rfl)
 |ma w hn aF _ _ _=>rcases w with rfl |rfl<;>exact key _ rfl (.inr ⟨_,hn,aF,rfl⟩)
theorem zeb_ (hp:A.2.1.length<=8):compM (λbK:Pk=>cond1 (Mq true) (Mq bK.1)) A.2.1 []=.ok (A.2.1.map (·.1)):=by
 rw[zM_ (f:=λbK:Pk=>cond1 (Mq true) (Mq bK.1)) (g:=λx:Pk=>x.1) (λx hx=>rfl) (by simp;lia)];rfl
theorem ztB_ (h:OkA A):∃fs,zaj_ A=.ok fs/\∀f∈fs,OkF f:=by
 have l1:=h.pl;have l2:=h.ol;have l4:=h.sl;have l5:=h.wl;have l3:=zdy_ (m:=A.2.2.1);obtain⟨sg,_,aK⟩:=h.pk;unfold zaj_ zbI_
 walk_at "mo"
 rw[zeb_ h.pl,zfT_ h.md]
 walk_at "mo"
 rw[Mo.lim_ok (by simp;lia),Mo.okB,Mo.lim_ok (by simp;lia),Mo.okB,Mo.lim_ok (by simp;lia),Mo.okB]
 refine zaO_ (G:=λmm=>∃fs,fnO (thenO mm _)=.ok fs/\∀f∈fs,OkF f) (λd (s:List Fl)=>s.length<=20+3*d.length/\∀f∈s,OkF f) ?h0 (λd x s hx hs=>?_) (λs hs=>⟨_,rfl,hs.2⟩)
 case h0=>
  refine⟨by simp;lia,λf hf=>?_⟩
  simp only[qI,qp]at hf;rcases hf with((⟨p,hp,rfl⟩|hf)|hf)|hf
  ·exact(aK p hp).1
  ·exact zkD_ h.md f hf
  ·exact h.od f hf
  ·exact h.su f hf
 ·obtain⟨r,hr⟩:=hx
  have hd:d.length<4:=by have:=congrArg rZ hr;simp at this;lia
  obtain⟨a1,a2,a3,_⟩:=h.wk x (by rw[hr];simp)
  rw[Mo.lim_ok (by have:=hs.1;simp;lia)]
  grind
theorem zk4_ {l:List Nat}(hl:l.length<=100)(h:∀c∈l,c∈SG):zbz_ l=.ok true:=by
 unfold zbz_ zcC_
 walk_at "mo"
 rw[zM_ (f:=λcY=>cond1 (Mq true) (Mq (inS cY SG))) (g:=λx=>inS x SG) (λx hx=>rfl) (by simp;lia)]
 have e:(([]:List Bool)++(l.map λc=>[c]).map λx=>inS x SG).all id=true:=by
  rw[qA,rq];intro b hb;obtain⟨x,hx,rfl⟩:=qp.mp hb;obtain⟨c,hc,rfl⟩:=qp.mp hx;have:∀c∈SG,inS [c] SG=true:=by decide
  exact this c (h c hc)
 rw[Mo.okB,e];rfl
theorem ziw_ {sg:Int->Nat}(hl:A.2.1.length<=8)(aK:∀p∈A.2.1,OkK sg p):∃row:List Pas,zak_ A=.ok row/\row.length<=288/\∀q∈row,q.2=some [sg q.1]:=by
 unfold zak_ zbd_
 walk_at "mo"
 refine zaO_ (G:=λmm=>∃row:List Pas,fnO (thenO mm _)=.ok row/\row.length<=288/\∀q∈row,q.2=some [sg q.1]) (λd (s:List Pas)=>s.length<=36*d.length/\∀q∈s,q.2=some [sg q.1]) ⟨rB _,λq hq=>by cases hq⟩ (λd x s hx hs=>?_) (λs hs=>⟨_,rfl,by have:=hs.1;lia,hs.2⟩)
 obtain⟨r,hr⟩:=hx;have hd:d.length<8:=by have:=congrArg rZ hr;simp at this;lia
 obtain⟨⟨a1,a2,a3⟩,ht⟩:=aK x (by rw[hr];simp)
 have ec:za0_ x.1=.ok (rngI x.1.1 (x.1.2+1-x.1.1).toNat):=by
  unfold za0_ zbJ_
  walk_at "mo"
  rw[Mo.grd_ok ⟨by lia,by lia,by lia,by lia⟩]
  rfl
 rw[ec]
 walk_at "mo"
 have hz:((rngI x.1.1 (x.1.2+1-x.1.1).toNat).zip (x.2.map λc=>[c])).length<=36:=by
  rw[sS,zT_];lia
 rw[zM_ (f:=λdk:Int×List Nat=>cond1 (Mq true) (Mq (dk.1,some dk.2))) (g:=λx:Int×List Nat=>((x.1,some x.2):Pas)) (λx hx=>rfl) (by simp only[rF];lia)]
 rw[Mo.okB,Mo.lim_ok (by have:=hs.1;rw[qA,l6];lia)]
 refine⟨_,rfl,by have:=hs.1;simp only[qA,nA,l6,qE];lia,λq hq=>?_⟩
 rcases qI.mp hq with hq |hq
 ·exact hs.2 q hq
 ·rw[qA]at hq
  obtain⟨z,hz,rfl⟩:=qp.mp hq;rw[ht,rN,show((λc=>[c])∘sg)=λc=>[sg c]from rfl,show(rngI x.1.1 (x.1.2+1-x.1.1).toNat).zip ((rngI x.1.1 (x.1.2+1-x.1.1).toNat).map λc=>[sg c])=(rngI x.1.1 (x.1.2+1-x.1.1).toNat).map λc=>(c,[sg c]) by
   conv=>lhs;lhs;rw[<- vT (rngI x.1.1 (x.1.2+1-x.1.1).toNat)]
   rw[List.zip_map'];rfl]at hz
  obtain⟨c,_,rfl⟩:=qp.mp hz;rfl
theorem zfL_ {m:List (Int×List Nat)}{k:Int}{d:List Nat}:(putA m k d).length<=m.length+1:=by
 unfold putA;split
 ·rw[l6];lia
 ·simp
theorem zqC_ {sg:Int->Nat}{m:List (Int×List Nat)}{k:Int}(h:∀q∈m,q.2=[sg q.1]):∀q∈putA m k [sg k],q.2=[sg q.1]:=by
 unfold putA;grind
theorem ziD_ {sg:Int->Nat}(row:List Pas)(hl:row.length<=288)(h:∀q∈row,q.2=some [sg q.1]):∃m,zU_ row=.ok (some m):=by
 unfold zU_ zaM_
 walk_at "mo"
 refine zaO_ (G:=λmm=>∃m,fnO (thenO mm _)=.ok (some m)) (λd (s:List (Int×List Nat))=>s.length<=d.length/\∀q∈s,q.2=[sg q.1]) ⟨rB _,λq hq=>by cases hq⟩ (λd x s hx hs=>?_) (λs hs=>⟨_,rfl⟩)
 obtain⟨r,hr⟩:=hx;have hd:d.length<288:=by have:=congrArg rZ hr;simp at this;lia
 obtain⟨c,t⟩:=x;have ht:t=some [sg c]:=h (c,t) (by rw[hr];simp)
 subst ht;rw[show decide (pTag (c,some [sg c])=[112,105,99,107])=true from rfl]
 walk_at "mo"
 rw[Mo.lim_ok (by have:=hs.1;lia)]
 unfold sdA;cases e:getA s c with
 |some a=>
  have ha:a=[sg c]:=by
   unfold getA at e;obtain⟨q,hq,e⟩:=rX.mp e;grind
  subst ha
  walk_at "mo"
  exact⟨_,rfl,by have:=hs.1;simp;lia,hs.2⟩
 |none=>
  walk_at "mo"
  exact⟨_,rfl,by have:=hs.1;have:=zfL_ (m:=s) (k:=c) (d:=[sg c]);simp;lia,zqC_ hs.2⟩
theorem zlD_ (h:OkA A):zS_ A=.ok ():=by
 obtain⟨sg,bL,aK⟩:=h.pk;unfold zS_ zaE_
 walk_at "mo"
 rw[zaH_ (λx hx=>by
  obtain⟨⟨a1,a2,a3⟩,ht⟩:=aK x hx;have hl:x.2.length=(x.1.2+1-x.1.1).toNat:=by rw[ht,l6,zT_]
  rw[Mo.lim_ok (by lia),Mo.okB,zhX_]
  walk_at "mo"
  rw[decide_eq_true (show(x.2.length:Int)=x.1.2-x.1.1+1 by lia),zsa_,zk4_ (by lia) (λc hc=>by rw[ht]at hc;obtain⟨i,_,rfl⟩:=qp.mp hc;exact bL i)]
  rfl)]
 obtain⟨row,e,l,hr⟩:=ziw_ h.pl aK;obtain⟨m,em⟩:=ziD_ row l hr;rw[zbm_,e]
 walk_at "mo"
 rw[em];rfl
theorem ziE_ {d:List Nat}(h:OkM d A.2.2.1):zy_ A=.ok ():=by
 unfold zy_ zP_
 walk_at "mo"
 rw[zfT_ h]
 walk_at "mo"
 obtain⟨a,b,m,r⟩:=A;cases h with
 |no=>rfl
 | @fi f hf=>
  show fnU (((Mb (Mq (decide (f.2-f.1+1=f.2-f.1+1),_)) λc=>zba_ c.1 c.2)).bind λ_=>Mq (.nx ()))=_
  rw[decide_eq_true rfl];rfl
 | @ma w n f g _ _ _ _ _ e=>
  show fnU (((Mb (Mq (decide (f.2-f.1+1=g.2-g.1+1),_)) λc=>zba_ c.1 c.2)).bind λ_=>Mq (.nx ()))=_
  rw[decide_eq_true (by lia)]
  rfl
theorem zo6_ (h:OkA A):zG_ A=.ok ():=by
 obtain⟨b1,b2,b3⟩:=h.br;obtain⟨f1,f2⟩:=h.fg;unfold zG_ zat_
 walk_at "mo"
 rw[show∀n,zae_ n=.ok true from λ_=>rfl]
 walk_at "mo"
 rw[show∀n,zae_ n=.ok true from λ_=>rfl,h.bd,decide_eq_true b1,decide_eq_true b2,decide_eq_true b3,decide_eq_true f1,decide_eq_true f2]
 rfl
theorem zpY_ (h:OkA A)(k:Int):zal_ A k=.ok (kp A k):=by
 have l1:=h.pl;have l2:=h.ol;have hl:=h.wl;have l3:((midF A.2.2.1).take 1).length<=1:=by rw[rp];lia
 unfold zal_ zbc_
 walk_at "mo"
 rw[zeb_ h.pl,zfT_ h.md]
 walk_at "mo"
 rw[zgY_ (by decide),show(1:Int).toNat=1 from rfl,Mo.lim_ok (by simp only[nA,l6];lia),Mo.okB,Mo.lim_ok (by simp only[nA,l6];lia),Mo.okB]
 generalize hb:A.2.1.map (λx:Pk=>x.1)++(midF A.2.2.1).take 1++A.2.2.2.1=base
 have lb:base.length<=15:=by rw[<- hb];simp only[nA,l6];lia
 refine zaO_ (G:=λmm=>fnO (thenO mm _)=.ok (kp A k)) (λd (s:List Fl)=>s=base++d.flatMap (gk k)/\s.length<=15+3*d.length) ⟨by simp,by simp;lia⟩ (λd x s hx hs=>?_) (λs hs=>?_)
 ·obtain⟨r,hr⟩:=hx
  have hd:d.length<4:=by have:=congrArg rZ hr;rw[zbL_]at this;simp at this;lia
  have bQ:=hs.2;refine zfP_ (λs'=>s'=s++(if !decide (x.1=k)then[x.2.1]else[])/\s'.length<=s.length+1) ?a1 (λs' bw=>?_)
  case a1=>
   cases decide (x.1=k)with
   |true=>exact⟨_,rfl,by simp,by lia⟩
   |false=>
    show∃s',Mo.lim _ _=_/\_
    rw[Mo.lim_ok (by lia)]
    exact⟨_,rfl,rfl,by simp⟩
  refine zfP_ (λcC=>cC=s'++(if decide (x.1<=k)then[x.2.2.1,x.2.2.2.2]else[])/\cC.length<=s'.length+2) ?a2 (λcC fe=>⟨_,rfl,?_,?_⟩)
  case a2=>
   cases decide (x.1<=k)with
   |false=>exact⟨_,rfl,by simp,by lia⟩
   |true=>
    show∃s',Mo.lim _ _=_/\_
    rw[Mo.lim_ok (by have:=bw.2;simp;lia)]
    exact⟨_,rfl,rfl,by simp⟩
  ·rw[fe.1,bw.1,hs.1,tB,sj,tT,qC]
   unfold gk;simp only[rW]
  ·grind
 ·rw[hs.1]
  unfold kp;rw[hb];rfl
theorem zoy_ (h:OkA A):z7_ A=.ok ():=by
 unfold z7_ zcx_
 walk_at "mo"
 rw[zaH_ (λq hq=>by
  obtain⟨_,_,_,hw⟩:=h.wk q.2 (zow_ hq);have e:(([[112,108,117,115],[108,101,115,115],[116,105,109,101,115]]:Jy).any λy=>decide (y=q.2.2.2.1))=true:=by
   rw[wU];exact⟨_,hw,decide_eq_true rfl⟩
  rw[e,zsa_,zpY_ h]
  walk_at "mo"
  rw[zaH_ (λf hf=>by
   rw[zkQ_,h.ft q hq f hf];rfl)]
  rfl)]
 rfl
theorem zoT_ (h:OkA A):zv_ A=.ok ():=by
 obtain⟨fs,e,hf⟩:=ztB_ h;unfold zv_ zL_
 walk_at "mo"
 rw[zrR_ h,zef_ h.md,zo4_ h,e]
 walk_at "mo"
 rw[zaH_ (λx hx=>by rw[fieldb (hf x hx)];rfl),zbm_,zlD_ h,ziE_ h.md,zo6_ h,zoy_ h]
 rfl
theorem zqJ_ (h:OkA A):zJ_ () A.1 A.2.1 A.2.2.1 A.2.2.2.1 (some A.2.2.2.2.1) A.2.2.2.2.2.1 (some A.2.2.2.2.2.2.1) A.2.2.2.2.2.2.2.1 (some A.2.2.2.2.2.2.2.2.1)=.ok ((),A):=by
 unfold zJ_
 first |show fnMU (Mb (Mo.noex (zv_ A)) λ_=>Mq (.nx A))=_ |show fnMU (Mb (zv_ A) λ_=>Mq (.nx A))=_
 rw[zoT_ h];rfl
end
theorem zjP_ {α S B ρ:Type}{step:S->α->Mo (Out ρ S S)}{xs:List α}{s:S}{G:Mo (Out ρ B S)->Prop}(P:List α->S->Prop)(h0:P [] s)(hs:∀d x s,(∃r,xs=d++x::r)->P d s->∃s',(step s x=.ok (.nx s')\/step s x=.ok (.ct s'))/\P (d++[x]) s')(hk:∀s',P xs s'->G (.ok (.nx s'))):G (forO step xs s):=by
 have key:∀(ys done:List α) (s:S),xs=done++ys->P done s->∃s',forO (B:=B) step ys s=.ok (.nx s')/\P xs s':=by
  intro ys;induction ys with
  |nil=>intro done s e p;rw[qC]at e;subst e;exact⟨s,rfl,p⟩
  |cons y ys ih=>
   intro done s e p;obtain⟨s',e1,p1⟩:=hs done y s ⟨ys,e⟩ p;obtain⟨z,e2,p2⟩:=ih (done++[y]) s' (by rw[e,rW];rfl) p1
   refine⟨z,?_,p2⟩;rw[za7_];rcases e1 with e1 |e1<;>rw[e1]<;>exact e2
 obtain⟨s',e,p⟩:=key xs [] s rfl h0;rw[e];exact hk s' p
abbrev iF:Fl->Dy:=iFF
abbrev iP:Pk->Dy:=iT (iC iFF (i1 Dy.str))
abbrev iW:Wk->Dy:=iT (iC iFF (iC iFF (iC Dy.str (i1 iFF))))
theorem zdW_ (n:Int){h w:Int}(h1:1<=h)(w1:1<=w):∃f:Fl,zew_ n h w=.ok f/\1<=f.1/\f.1<=f.2/\f.2<=h/\f.2-f.1<w:=by
 have a0:0<=n % h:=qz _ (by lia)
 have a1:n % h<h:=qt _ (by lia)
 have b0:0<=n / 24 % w:=qz _ (by lia)
 have b1:n / 24 % w<w:=qt _ (by lia)
 unfold zew_ zeF_
 walk_at "mo"
 rw[Mo.grd_ok (by lia),Mo.okB,Mo.grd_ok (by lia)]
 walk_at "mo"
 refine⟨_,rfl,?_,?_,?_,?_⟩<;>simp only<;>lia
def AB:List Nat:=Qm0
theorem ab_at (k:Int):∃c,atI AB (k % 26)=some c/\97<=c/\c<=122/\(c:Int)=97+k % 26:=by
 have h0:0<=k % 26:=qz _ (by decide)
 have h1:k % 26<26:=qt _ (by decide)
 have key:∀n:Nat,n<26->atI AB (n:Int)=some (97+n):=by decide
 obtain⟨n,hn⟩:∃n:Nat,k % 26=n:=⟨(k % 26).toNat,by lia⟩
 rw[hn];exact⟨97+n,key n (by lia),by lia,by lia,by lia⟩
theorem zgz_ (l:Jx):joinS [] (strsL (l.map λc=>[c]))=l:=by
 have:=L2.zlE_ l;unfold strsL;rw[rN];exact this
theorem zfJ_ {l:List Nat}(h:l.length<=1000):JoinOk ⟨#[]⟩ (strsL (l.map λc=>[c]))=true:=by
 refine zhY_ ?_ ?_
 ·unfold strsL;simp[rV];lia
 ·intro z hz
  unfold strsL at hz;rw[rN]at hz;obtain⟨b,_,rfl⟩:=qp.mp hz;exact nG 1
theorem znS_ {α β:Type}{f:α->Mo (Option β)}{xs:List α}{G:Mo (List β)->Prop}(g:α->β)(h:∀x∈xs,f x=.ok (some (g x)))(hl:xs.length<=1000)(hk:G (.ok (xs.map g))):G (compM f xs []):=by
 rw[zM_ h (by simp;lia),qA]
 exact hk
theorem znP_ (c:Int):∃n,zei_ c=.ok n/\OkN n:=by
 have a0:0<=c % 8:=qz _ (by lia)
 have a1:c % 8<8:=qt _ (by lia)
 have hg:∀k:Int,∃z,atI AB ((c / (k+1)+k*k) % 26)=some z/\97<=z/\z<=122:=λk=>by
  obtain⟨z,e,z1,z2,_⟩:=ab_at (c / (k+1)+k*k);exact⟨z,e,z1,z2⟩
 unfold zei_ zem_
 walk_at "mo"
 rw[Mo.grd_ok (by lia)]
 walk_at "mo"
 refine znS_ (G:=λm=>∃n,fnO ((m.bind _).bind _)=.ok n/\OkN n) (λk=>[(atI AB ((c / (k+1)+k*k) % 26)).getD 0]) (λk hk=>?_) (by rw[zT_];lia) ?_
 ·obtain⟨k0,k1⟩:=zhn_.mp hk
  obtain⟨z,e,_⟩:=hg k;rw[zmE_ (by lia) (by lia),zgi_ (by lia) (by lia)]
  walk_at "mo"
  rw[show atI Qm0 ((c / (k+1)+k*k) % 26)=_ from e,e]
  rfl
 ·have em:(rngI 0 (1+c % 8).toNat).map (λk=>[(atI AB ((c / (k+1)+k*k) % 26)).getD 0])=((rngI 0 (1+c % 8).toNat).map λk=>(atI AB ((c / (k+1)+k*k) % 26)).getD 0).map λc=>[c]:=by rw[rN];rfl
  rw[em]
  walk_at "mo"
  rw[Mo.grd_ok (zfJ_ (by rw[l6,zT_];lia)),zgz_]
  refine⟨_,rfl,by rw[l6,zT_];lia,by rw[l6,zT_];lia,λz hz=>?_⟩
  obtain⟨k,_,rfl⟩:=qp.mp hz;obtain⟨z,e,h⟩:=hg k;rw[e];exact h
theorem zis_ {n:List Nat}(h:OkN n)(c:Int):∃m,zdO_ n c=.ok m/\OkN m/\m≠n:=by
 obtain⟨h1,h2,h3⟩:=h;have a0:0<=c % n.length:=qz _ (by lia)
 have a1:c % n.length<n.length:=qt _ (by lia)
 obtain⟨p,hp⟩:∃p:Nat,c % n.length=p:=⟨(c % n.length).toNat,by lia⟩
 have ax:p<n.length:=by lia
 have hx:=h3 n[p] (tR _);have gQ:∀x:Nat,x<123->97<=x->findS AB [x]=(x:Int)-97:=λx=>by rw[zoW_];revert x;decide
 unfold zdO_ zdJ_
 walk_at "mo"
 rw[Mo.lim_ok (by lia)]
 walk_at "mo"
 rw[Mo.grd_ok (by lia)]
 walk_at "mo"
 rw[hp,zqw_ (by lia),vm,nj ax,Mo.lim_ok (by lia)]
 walk_at "mo"
 obtain⟨z,ez,z1,z2,z3⟩:=ab_at ((n[p]:Int)-97+1+c / 8 % 25);have b0:0<=c / 8 % 25:=qz _ (by decide)
 have b1:c / 8 % 25<25:=qt _ (by decide)
 rw[show findS Qm0 [n[p]]=(n[p]:Int)-97 from gQ n[p] (by lia) hx.1]
 rw[show atI Qm0 (((n[p]:Int)-97+1+c / 8 % 25) % 26)=_ from ez]
 rw[Mo.lim_ok (by decide)]
 walk_at "mo"
 have t1:(n.take p).length=p:=by rw[rp];lia
 have t2:(n.drop (p+1)).length=n.length-(p+1):=rO ..;rw[Mo.lim_ok (by lia),Mo.okB,zgY_ (by lia),vm,Mo.lim_ok (by rw[t1,qE];lia),Mo.okB]
 rw[Mo.lim_ok (by lia),Mo.okB,zl4_ (by lia),show((p:Int)+1).toNat=p+1 by lia,Mo.lim_ok (by rw[nA,t1,t2,qE];lia)]
 refine⟨_,rfl,⟨?_,?_,λq hq=>?_⟩,λe=>?_⟩
 ·rw[nA,nA,t1,t2,qE];lia
 ·rw[nA,nA,t1,t2,qE];lia
 ·grind
 ·grind
def rg (s:Bool)(f:Fl):Prop:=f.1<=f.2/\(if s then 13<=f.1/\f.2<=36 else 1<=f.1/\f.2<=24)
def bk (s:Bool)(k:Int)(f:Fl):Prop:=f.1<=f.2/\(if s then 10-3*k<=f.1/\f.2<=12-3*k else 25+3*k<=f.1/\f.2<=27+3*k)
theorem zsL_ {s:Bool}{f:Fl}(h:rg s f):OkF f:=by
 unfold rg at h;unfold OkF;cases s<;>simp at h<;>lia
theorem bk_ok {s:Bool}{k:Int}{f:Fl}(h:bk s k f)(k0:0<=k)(k1:k<=3):OkF f:=by
 unfold bk at h;unfold OkF;cases s<;>simp at h<;>lia
theorem zqk_ {s:Bool}{k:Int}{a f:Fl}(h:bk s k a)(k0:0<=k)(k1:k<=3)(hf:rg s f):share a f=false:=by
 unfold bk at h;unfold rg at hf;unfold share;grind
theorem sh_bk {s:Bool}{k j:Int}{a f:Fl}(h:bk s k a)(hf:bk s j f)(aF:j≠k):share a f=false:=by
 unfold bk at h hf;unfold share;grind
def OkD (s:Bool)(q:Int×Wk):Prop:=bk s q.1 q.2.1/\(rg s q.2.2.1\/∃j:Int,j<q.1/\0<=j/\bk s j q.2.2.1)/\rg s q.2.2.2.2/\q.2.2.2.1∈WWo
structure Dr (s:Bool)(sg:Int->Nat)(A:Ak):Prop where
 nm:OkN A.1
 pl:A.2.1.length<=8
 pk:∀p∈A.2.1,rg s p.1/\OkK sg p
 md:∃d,OkM d A.2.2.1
 mf:∀f∈(midF A.2.2.1).take 1,rg s f
 ol:A.2.2.2.1.length<=6
 od:∀f∈A.2.2.2.1,rg s f
 wl:A.2.2.2.2.1.length<=4
 wk:∀q∈enumL A.2.2.2.2.1,OkD s q
 br:0<=A.2.2.2.2.2.1/\A.2.2.2.2.2.1<=3/\A.2.2.2.2.2.1<=A.2.2.2.1.length
 sl:A.2.2.2.2.2.2.1.length<=4
 su:∀f∈A.2.2.2.2.2.2.1,OkF f
 fg:1<=A.2.2.2.2.2.2.2.1/\A.2.2.2.2.2.2.2.1<=12
 bd:zX_ A.2.2.2.2.2.2.2.2.1=.ok true
theorem zkh_ {α:Type}{xs:List α}{q:Int×α}(h:q∈enumL xs):0<=q.1/\q.1<xs.length:=by
 obtain⟨i,hi,e,_⟩:=zil_ h;lia
theorem zke_ {α:Type}{xs:List α}{x:α}(h:x∈xs):∃q∈enumL xs,q.2=x:=by
 obtain⟨i,hi,e⟩:=uQ.mp h;refine⟨((i:Int),x),?_,rfl⟩;refine sW (i:=i) ?_;rw[zbM_,nj hi,e];rfl
theorem okd_w {s:Bool}{q:Int×Wk}(h:OkD s q)(k0:0<=q.1)(k1:q.1<=3):OkW q.2:=by
 obtain⟨h1,h2,h3,h4⟩:=h;refine⟨bk_ok h1 k0 k1,?_,zsL_ h3,h4⟩;rcases h2 with h2 |⟨j,j1,j0,h2⟩
 ·exact zsL_ h2
 ·exact bk_ok h2 j0 (by lia)
theorem Dr.ok {s:Bool}{sg:Int->Nat}{A:Ak}(h:Dr s sg A)(bL:∀c,sg c∈SG)(hn:∀w n f g,A.2.2.1=some (.inr (w,n,f,g))->n≠A.1):OkA A:=by
 have hl:=h.wl;refine⟨h.nm,h.pl,⟨sg,bL,λp hp=>(h.pk p hp).2⟩,?_,h.ol,λf hf=>zsL_ (h.od f hf),h.wl,λw hw=>?_,h.br,h.sl,h.su,h.fg,h.bd,λq hq f hf=>?_⟩
 ·obtain⟨d,hd⟩:=h.md
  have key:∀m:Md,OkM d m->(∀w n f g,m=some (.inr (w,n,f,g))->n≠A.1)->OkM A.1 m:=λm hm hn=>by
   cases hm with
   |no=>exact .no
   |fi h=>exact .fi h
   |ma h1 h2 _ h4 h5 h6=>exact .ma h1 h2 (hn _ _ _ _ rfl) h4 h5 h6
  exact key _ hd hn
 ·obtain⟨q,hq,rfl⟩:=zke_ hw
  obtain⟨k0,k1⟩:=zkh_ hq;exact okd_w (h.wk q hq) k0 (by lia)
 ·obtain⟨k0,k1⟩:=zkh_ hq
  obtain⟨h1,h2,h3,h4⟩:=h.wk q hq;unfold kp at hf;simp only[qI,qp,sD]at hf;rcases hf with((⟨p,hp,rfl⟩|hf)|hf)|⟨r,hr,hf⟩
  ·exact zqk_ h1 k0 (by lia) (h.pk p hp).1
  ·exact zqk_ h1 k0 (by lia) (h.mf f hf)
  ·exact zqk_ h1 k0 (by lia) (h.od f hf)
  ·obtain⟨r1,r2,r3,_⟩:=h.wk r hr
   unfold gk at hf;rcases qI.mp hf with hf |hf
   ·split at hf
    ·rename_i e
     rw[pS.mp hf];exact sh_bk h1 r1 (by simpa using e)
    ·cases hf
   ·split at hf
    ·rename_i e
     have e:r.1<=q.1:=by simpa using e
     rcases qf.mp hf with rfl |hf
     ·rcases r2 with r2 |⟨j,j1,j0,r2⟩
      ·exact zqk_ h1 k0 (by lia) r2
      ·exact sh_bk h1 r2 (by lia)
     ·rw[pS.mp hf]
      exact zqk_ h1 k0 (by lia) r3
    ·cases hf
theorem znK_ (n:Int){k:Int}(k0:0<=k)(k1:k<=3):∃w,zet_ n k=.ok w/\OkD false (k,w):=by
 obtain⟨f1,e1,a1,a2,a3,_⟩:=zdW_ (n / 3) (h:=24) (w:=6) (by decide) (by decide)
 obtain⟨f2,e2,b1,b2,b3,_⟩:=zdW_ (n / 5) (h:=24) (w:=3) (by decide) (by decide)
 obtain⟨wd,ew,hw⟩:=zdM_ (xs:=([[112,108,117,115],[108,101,115,115],[116,105,109,101,115]]:Jy)) (k:=n / 4 % 3) (qz _ (by decide)) (qt _ (by decide))
 have c0:0<=n % 3:=qz _ (by decide)
 have c1:n % 3<3:=qt _ (by decide)
 unfold zet_ zey_
 walk_at "mo"
 rw[e1,e2]
 walk_at "mo"
 have fin:∀one:Fl,(rg false one\/∃j:Int,j<k/\0<=j/\bk false j one)->OkD false (k,((25+3*k,25+3*k+n % 3),one,wd,f2)):=λone h=>⟨⟨by simp;lia,by simp;lia⟩,h,⟨b2,by simp;lia⟩,hw⟩
 by_cases hk:0<k
 ·rw[decide_eq_true hk]
  walk_at "mo"
  by_cases hc:n / 2 % 3=1
  ·have j0:0<=n / 7 % k:=qz _ (by lia)
   have j1:n / 7 % k<k:=qt _ hk;have d0:0<=n / 11 % 3:=qz _ (by decide)
   have d1:n / 11 % 3<3:=qt _ (by decide)
   rw[decide_eq_true hc]
   walk_at "mo"
   rw[Mo.grd_ok hk]
   walk_at "mo"
   rw[ew];exact⟨_,rfl,fin _ (.inr ⟨n / 7 % k,j1,j0,by simp;lia,by simp;lia⟩)⟩
  ·rw[decide_eq_false hc]
   walk_at "mo"
   rw[ew];exact⟨_,rfl,fin _ (.inl ⟨a2,by simp;lia⟩)⟩
 ·rw[decide_eq_false hk]
  walk_at "mo"
  rw[ew];exact⟨_,rfl,fin _ (.inl ⟨a2,by simp;lia⟩)⟩
theorem zjG_ {n:List Nat}(hn:OkN n)(c:Int):∃m,zc8_ n c=.ok m/\OkM n m/\∀f∈(midF m).take 1,rg false f:=by
 obtain⟨f,ef,a1,a2,a3,a4⟩:=zdW_ (c / 4) (h:=24) (w:=6) (by decide) (by decide)
 obtain⟨o,eo,ho,aF⟩:=zis_ hn (c / 4);have g0:0<=c / 9 % (36-(f.2-f.1)):=qz _ (by lia)
 have g1:c / 9 % (36-(f.2-f.1))<36-(f.2-f.1):=qt _ (by lia)
 have hF:OkF f:=⟨a1,a2,by lia⟩
 have hr:rg false f:=⟨a2,by simp;lia⟩
 unfold zc8_ zc3_
 walk_at "mo"
 rw[ef]
 walk_at "mo"
 rw[Mo.grd_ok (by lia)]
 walk_at "mo"
 by_cases c1:c % 4=1
 ·rw[decide_eq_true c1]
  refine⟨_,rfl,.fi hF,λg hg=>?_⟩
  rw[show g=f from pS.mp hg];exact hr
 ·rw[decide_eq_false c1]
  walk_at "mo"
  by_cases c2:1<c % 4
  ·obtain⟨wd,ew,hw⟩:=zdM_ (xs:=[WMa,WWi]) (k:=c % 2) (qz _ (by decide)) (qt _ (by decide))
   rw[decide_eq_true c2]
   walk_at "mo"
   rw[show atI [[109,97,116,101,115],[119,105,116,104,111,117,116]] (c % 2)=some wd from ew,eo]
   refine⟨_,rfl,.ma (by simpa using hw) ho aF hF ⟨by show 1<=1+_;lia,by show 1+_<=1+_+(f.2-f.1);lia,by show 1+_+(f.2-f.1)<=36;lia⟩ (by show f.2-f.1=1+_+(f.2-f.1)-(1+_);lia),λg hg=>?_⟩
   rw[show g=f from pS.mp hg];exact hr
  ·rw[decide_eq_false c2]
   exact⟨_,rfl,.no,λg hg=>by cases hg⟩
abbrev Wr:=Int×Int
def okW (w:Wr):Prop:=1<=w.1/\w.1<=40/\1<=w.2/\w.2<=36
theorem zii_ {α:Type}[DecidableEq α]:∀{xs ys:List α},xs.Nodup->(∀x∈xs,x∈ys)->xs.length<=ys.length
 |[],ys,_,_=>rB _
 |x::xs,ys,hn,hs=>by
  obtain⟨h1,h2⟩:=sk.mp hn;have hx:=hs x (nu ..);have:=zii_ (ys:=ys.erase x) h2 λy hy=>(List.mem_erase_of_ne (λe=>h1 (by rw[<- e];exact hy))).mpr (hs y (qa _ hy))
  grind
theorem nodup36 {xs:List Int}(hn:xs.Nodup)(h:∀x∈xs,1<=x/\x<=36):xs.length<=36:=by
 have:=zii_ (ys:=rngI 1 36) hn λx hx=>zhn_.mpr (by have:=h x hx;lia)
 rwa[zT_]at this
def WF (W:List Wr):Prop:=(W.map (·.2)).Nodup/\∀w∈W,okW w
theorem WF.len {W:List Wr}(h:WF W):W.length<=36:=by
 have:=nodup36 h.1 λx hx=>by obtain⟨w,hw,rfl⟩:=qp.mp hx;exact⟨(h.2 w hw).2.2.1,(h.2 w hw).2.2.2⟩
 rwa[l6]at this
def swp (w:Wr):Wr:=(w.2,w.1)
def brd (W:List Wr):List Wr:=(srtL (lxP ltI ltI) (W.map swp)).map swp
theorem zog_ (W:List Wr):(brd W).Perm W:=by
 have:=(zbO_ (lxP ltI ltI) (W.map swp)).map swp;rwa[rN,show swp∘swp=id from rfl,vT]at this
theorem zs2_ {W:List Wr}(h:WF W):WF (brd W):=by
 have p:=zog_ W;exact⟨(p.map (·.2)).nodup_iff.mpr h.1,λw hw=>h.2 w (p.mem_iff.mp hw)⟩
theorem zpg_ (B:List Wr):eqL (λa b=>decide (a.fst=b.fst) && decide (a.snd=b.snd)) B B=true:=zkz_ (λa=>by simp) B
def byC (W:List Wr):List (Int×Wr):=W.map λw=>(w.2,w)
theorem zjM_ {W:List Wr}(h:(W.map (·.2)).Nodup){w:Wr}(hw:w∈W):getA (byC W) w.2=some w:=by
 induction W with
 |nil=>cases hw
 |cons v W ih=>
  rw[qv]at h;obtain⟨h1,h2⟩:=sk.mp h;unfold getA byC;rw[qv,rE];rcases qf.mp hw with e |hw
  ·subst e;simp
  ·have:v.2≠w.2:=λe=>h1 (by rw[e];exact vY hw)
   rw[decide_eq_false this];exact ih h2 hw
theorem zsj_ {W:List Wr}{c:Int}(h:c∉W.map (·.2)):getA (byC W) c=none:=by
 unfold getA byC;grind
theorem zmK_ {W:List Wr}{w:Wr}(h:w.2∉W.map (·.2)):putA (byC W) w.2 w=byC (W++[w]):=by
 unfold putA;have:(byC W).any (λq=>decide (q.1=w.2))=false:=by
  rw[vh];intro q hq;unfold byC at hq;grind
 rw[this,if_neg (by decide)]
 unfold byC;rw[rG];rfl
theorem zk8_ {W:List Wr}(h:(W.map (·.2)).Nodup):(srtL ltI (W.map (·.2))).map (λc=>(getA (byC W) c).getD (0,0))=brd W:=by
 have e:(srtL ltI (W.map (·.2))).map (λc=>(c,((getA (byC W) c).getD (0,0)).1))=srtL (lxP ltI ltI) (W.map swp):=by
  refine zfN_ (zh8_ zd8_ zd8_) ?_ ?_
  ·have:=(zbO_ ltI (W.map (·.2))).map (λc=>(c,((getA (byC W) c).getD (0,0)).1))
   rw[rN]at this;refine this.trans (List.Perm.of_eq (tY λw hw=>?_))
   show(w.2,((getA (byC W) w.2).getD (0,0)).1)=swp w
   rw[zjM_ h hw];rfl
  ·refine wF.mpr ((zdu_ zd8_ (W.map (·.2))).imp λ{a b} q=>?_)
   unfold lxP;show(if b=a then _ else _)=false
   split
   ·rename_i z;subst z;exact zd8_.irr _
   ·exact q
 unfold brd;rw[<- e,rN];refine tY λc hc=>?_
 obtain⟨w,hw,rfl⟩:=qp.mp ((zbO_ ltI (W.map (·.2))).mem_iff.mp hc);show _=swp (w.2,((getA (byC W) w.2).getD (0,0)).1)
 rw[zjM_ h hw];rfl
theorem zlM_ {v m:Int}(h1:1<=v)(h2:v<=m):zbC_ v m=.ok true:=by
 unfold zbC_ zcF_ zae_ zcf_
 walk_at "mo"
 simp[h1,h2]
theorem zno_ {W:List Wr}(h:WF W):zO_ W=.ok (brd W):=by
 have hl:=h.len;unfold zO_ za1_
 walk_at "mo"
 rw[zaH_ (λx hx=>by
  obtain⟨a1,a2,a3,a4⟩:=h.2 x hx;rw[zlM_ a1 a2,zlM_ a3 a4];rfl)]
 walk_at "mo"
 refine zaO_ (G:=λm=>fnO (thenO m _)=_) (λd (s:List (Int×Wr))=>s=byC d) rfl (λd x s hx hs=>?_) (λs hs=>?_)
 ·obtain⟨r,hr⟩:=hx
  subst hs;have nd:=h.1;rw[hr,rG,qv]at nd;have hn:x.2∉d.map (·.2):=λz=>by
   have:=(ux.mp nd).2.2 _ z _ (nu ..);exact this rfl
  have hd:d.length<=36:=by have:=congrArg rZ hr;simp at this;lia
  rw[zsj_ hn,zmK_ hn]
  walk_at "mo"
  rw[Mo.lim_ok (by unfold byC;rw[l6];lia)]
  exact⟨_,rfl,rfl⟩
 ·subst hs
  have e:(byC W).map (λx=>x.fst)=W.map (·.2):=by unfold byC;rw[rN];rfl
  rw[zbm_,e,Mo.grd_ok (by unfold byC;rw[l6];lia),Mo.okB]
  rw[zM_ (f:=λnk=>cond1 (Mq true) (Mo.opt (getA (byC W) nk))) (g:=λc=>(getA (byC W) c).getD (0,0)) (λc hc=>by
   obtain⟨w,hw,rfl⟩:=qp.mp ((zbO_ ltI (W.map (·.2))).mem_iff.mp hc);rw[zjM_ h.1 hw];rfl) (by rw[(zbO_ _ _).length_eq,l6];simp;lia)]
  rw[qA,zk8_ h.1];rfl
abbrev SB (B:List Wr):Prop:=WF B/\(B.map swp).Pairwise λa b=>lxP ltI ltI b a=false
theorem zmR_ (B:List Wr):(B.map swp).map swp=B:=by
 rw[rN];exact(tY λw _=>rfl).trans (vT _)
theorem SB.brq {B:List Wr}(h:SB B):brd B=B:=by
 unfold brd;rw[<- zfN_ (zh8_ zd8_ zd8_) (xv _) h.2,zmR_]
theorem SB.ok {B:List Wr}(h:SB B):zX_ B=.ok true:=by
 unfold zX_ zds_
 walk_at "mo"
 rw[zno_ h.1,h.brq]
 first |simp only[Mo.tr,zbm_,Mo.okB,znR_]|walk_at "mo"
 rw[zpg_]
theorem zns_ {W:List Wr}(h:WF W):SB (brd W):=by
 refine⟨zs2_ h,?_⟩;unfold brd;rw[zmR_];exact zdu_ (zh8_ zd8_ zd8_) _
abbrev Dn43 (P:List Pk)(O:List Fl)(W:List Wk)(S:List Fl)(B:List Wr):List (List Dy):=[P.map iP,O.map iF,W.map iW,S.map iF,B.map iF]
structure DQ (sg:Int->Nat)(P:List Pk)(O:List Fl)(W:List Wk)(S:List Fl)(B:List Wr):Prop where
 pl:P.length<=8
 pk:∀p∈P,rg false p.1/\OkK sg p
 ol:O.length<=6
 od:∀f∈O,rg false f
 wl:W.length<=4
 wk:∀q∈enumL W,OkD false q
 sl:S.length<=4
 su:∀f∈S,OkF f
 bd:WF B
theorem zez_ {α:Type}{P:α->Prop}{l:List α}{a:α}(h:∀x∈l,P x)(ha:P a):∀x∈l++[a],P x:=λx hx=>by
 grind
theorem zlV_ {α:Type}(xs:List α)(a:α):enumL (xs++[a])=enumL xs++[((xs.length:Int),a)]:=by
 refine sX λi=>?_
 rw[zbM_];by_cases h:i<xs.length
 ·rw[tV h,tV (by rw[zbL_];exact h),zbM_]
 ·rw[rD (by lia),rD (by rw[zbL_];lia),zbL_]
  grind
theorem zrJ_ (k:Int):(atI SG (k % 37)).getD 0∈SG:=by
 obtain⟨y,e,h⟩:∃y,atI SG (k % 37)=some y/\y∈SG:=zdM_ (xs:=SG) (qz _ (by decide)) (qt _ (by decide))
 rw[e];exact h
theorem zga_ (xs:List Fl):allO oFF (xs.map iF)=some xs:=by
 induction xs with
 |nil=>rfl
 |cons x xs ih=>rw[qv];show((some x).bind λa=>(allO _ (xs.map iF)).map λas=>a::as)=_;rw[ih];rfl
section
variable {sg:Int->Nat}{P:List Pk}{O:List Fl}{W:List Wk}{S:List Fl}{B:List Wr}
theorem DQ.addP (D:DQ sg P O W S B){p:Pk}(hl:P.length<8)(h:rg false p.1/\OkK sg p):DQ sg (P++[p]) O W S B:=⟨by rw[nA,qE];lia,zez_ D.pk h,D.ol,D.od,D.wl,D.wk,D.sl,D.su,D.bd⟩
theorem DQ.addO (D:DQ sg P O W S B){f:Fl}(hl:O.length<6)(h:rg false f):DQ sg P (O++[f]) W S B:=⟨D.pl,D.pk,by rw[nA,qE];lia,zez_ D.od h,D.wl,D.wk,D.sl,D.su,D.bd⟩
theorem DQ.addW (D:DQ sg P O W S B){w:Wk}(hl:W.length<4)(h:OkD false (W.length,w)):DQ sg P O (W++[w]) S B:=⟨D.pl,D.pk,D.ol,D.od,by rw[nA,qE];lia,by rw[zlV_];exact zez_ D.wk h,D.sl,D.su,D.bd⟩
theorem DQ.addS (D:DQ sg P O W S B){f:Fl}(hl:S.length<4)(h:OkF f):DQ sg P O W (S++[f]) B:=⟨D.pl,D.pk,D.ol,D.od,D.wl,D.wk,by rw[nA,qE];lia,zez_ D.su h,D.bd⟩
theorem DQ.addB (D:DQ sg P O W S B){w:Wr}(hn:w.2∉B.map (·.2))(h:okW w):DQ sg P O W S (B++[w]):=⟨D.pl,D.pk,D.ol,D.od,D.wl,D.wk,D.sl,D.su,by
 refine⟨?_,zez_ D.bd.2 h⟩;rw[rG,ux];refine⟨D.bd.1,by simp,λa ha b hb e=>hn ?_⟩
 have hb:b=w.2:=pS.mp hb;rw[<- hb,<- e];exact ha⟩
end
abbrev DQx (sg:Int->Nat)(s:List (List Dy)):Prop:=∃P O W S B,s=Dn43 P O W S B/\DQ sg P O W S B
theorem zn4_ (ns:List Int)(hl:ns.length<=63):∃sg:Int->Nat,(∀c,sg c∈SG)/\∃s,zdt_ ns=.ok s/\DQx sg s:=by
 obtain⟨bD,es⟩:=zgF_ ns 3 (by decide)
 refine⟨λc=>(atI SG ((bD+c*c*(1+bD % 7)) % 37)).getD 0,λc=>zrJ_ _,?_⟩
 generalize bL:(λc:Int=>(atI SG ((bD+c*c*(1+bD % 7)) % 37)).getD 0)=sg
 have qy:0<=bD % 7:=qz _ (by decide)
 have qx:bD % 7<7:=qt _ (by decide)
 unfold zdt_ zdB_
 walk_at "mo"
 rw[es]
 walk_at "mo"
 rw[Mo.lim_ok (by decide)]
 walk_at "mo"
 refine zjP_ (G:=λm=>∃s,fnO (thenO m _)=.ok s/\DQx sg s) (λ_ (s:List (List Dy))=>DQx sg s) ⟨[],[],[],[],[],rfl,by decide,λp h=>(by cases h),by decide,λp h=>(by cases h),by decide,λp h=>(by cases h),by decide,λp h=>(by cases h),by simp[WF]⟩ (λd x s _ hs=>?_) (λs hs=>⟨s,rfl,hs⟩)
 obtain⟨P,O,W,S,B,rfl,D⟩:=hs;have l1:=D.pl;have l2:=D.ol;have l3:=D.wl;have l4:=D.sl;have k0:0<=x % 5:=qz _ (by decide)
 have k1:x % 5<5:=qt _ (by decide)
 have hk:x % 5=0\/x % 5=1\/x % 5=2\/x % 5=3\/x % 5=4:=by lia
 rcases hk with hk |hk |hk |hk |hk<;>rw[hk]
 ·rw[show atI (Dn43 P O W S B) 0=some (P.map iP)from rfl,show atI [(8:Int),6,4,4,36] 0=some 8 from rfl]
  walk_at "mo"
  by_cases hc:(8:Int)<=((P.map iP).length:Int)
  ·rw[decide_eq_true hc]
   exact⟨_,.inr rfl,P,O,W,S,B,rfl,D⟩
  ·rw[decide_eq_false hc]
   rw[l6]at hc;simp only[show decide ((0:Int)=0)=true from rfl,show decide ((0:Int)=1)=false from rfl,show decide ((0:Int)=2)=false from rfl,show decide ((0:Int)=3)=false from rfl,show decide ((0:Int)=4)=false from rfl]
   walk_at "mo"
   obtain⟨f,ef,f1,f2,f3,f4⟩:=zdW_ (x / 5) (h:=24) (w:=5) (by decide) (by decide)
   rw[ef]
   walk_at "mo"
   rw[Mo.grd_ok ⟨by lia,by lia,by lia,by lia⟩]
   walk_at "mo"
   refine znS_ (G:=λm=>∃s',(thenO (((Mb (Mb m _)) _)) _=.ok (.nx s')\/thenO (((Mb (Mb m _)) _)) _=.ok (.ct s'))/\DQx sg s') (λc=>[sg c]) (λc hc=>?_) (by rw[zT_];lia) ?_
   ·obtain⟨c0,c1⟩:=zhn_.mp hc
    have j4:0<=c*c/\c*c<=36*36:=⟨Int.mul_nonneg (by lia) (by lia),Int.mul_le_mul (by lia) (by lia) (by lia) (by lia)⟩
    obtain⟨y,e,_⟩:∃y,atI SG ((bD+c*c*(1+bD % 7)) % 37)=some y/\y∈SG:=zdM_ (xs:=SG) (qz _ (by decide)) (qt _ (by decide))
    rw[zgi_ (by lia) (by lia)]
    walk_at "mo"
    rw[zgi_ (by lia) (by lia)]
    walk_at "mo"
    rw[e,<- bL];simp only[e];rfl
   ·have em:(rngI f.1 (f.2+1-f.1).toNat).map (λc=>[sg c])=((rngI f.1 (f.2+1-f.1).toNat).map sg).map λc=>[c]:=by rw[rN];rfl
    rw[em]
    walk_at "mo"
    rw[Mo.grd_ok (zfJ_ (by rw[l6,zT_];lia)),zgz_]
    walk_at "mo"
    rw[show ixN (Dn43 P O W S B).length 0=some 0 from rfl]
    walk_at "mo"
    rw[Mo.lim_ok (by show(P.map iP).length+1<=_;rw[l6];lia)]
    refine⟨_,.inl rfl,P++[(f,(rngI f.1 (f.2+1-f.1).toNat).map sg)],O,W,S,B,?_,D.addP (by lia) ⟨⟨f2,by simp;lia⟩,⟨f1,f2,by show f.2<=36;lia⟩,rfl⟩⟩
    show _=[(P++[_]).map iP,_,_,_,_]
    rw[rG];rfl
 ·rw[show atI (Dn43 P O W S B) 1=some (O.map iF)from rfl,show atI [(8:Int),6,4,4,36] 1=some 6 from rfl]
  walk_at "mo"
  by_cases hc:(6:Int)<=((O.map iF).length:Int)
  ·rw[decide_eq_true hc]
   exact⟨_,.inr rfl,P,O,W,S,B,rfl,D⟩
  ·rw[decide_eq_false hc]
   rw[l6]at hc;simp only[show decide ((1:Int)=0)=false from rfl,show decide ((1:Int)=1)=true from rfl,show decide ((1:Int)=2)=false from rfl,show decide ((1:Int)=3)=false from rfl,show decide ((1:Int)=4)=false from rfl]
   walk_at "mo"
   obtain⟨f,ef,f1,f2,f3,f4⟩:=zdW_ (x / 5) (h:=24) (w:=4) (by decide) (by decide)
   rw[show ixN (Dn43 P O W S B).length 1=some 1 from rfl,ef]
   walk_at "mo"
   rw[Mo.lim_ok (by show(O.map iF).length+1<=_;rw[l6];lia)]
   refine⟨_,.inl rfl,P,O++[f],W,S,B,?_,D.addO (by lia) ⟨f2,by simp;lia⟩⟩
   show _=[_,(O++[_]).map iF,_,_,_]
   rw[rG];rfl
 ·rw[show atI (Dn43 P O W S B) 2=some (W.map iW)from rfl,show atI [(8:Int),6,4,4,36] 2=some 4 from rfl]
  walk_at "mo"
  by_cases hc:(4:Int)<=((W.map iW).length:Int)
  ·rw[decide_eq_true hc]
   exact⟨_,.inr rfl,P,O,W,S,B,rfl,D⟩
  ·rw[decide_eq_false hc]
   rw[l6]at hc;simp only[show decide ((2:Int)=0)=false from rfl,show decide ((2:Int)=1)=false from rfl,show decide ((2:Int)=2)=true from rfl,show decide ((2:Int)=3)=false from rfl,show decide ((2:Int)=4)=false from rfl]
   walk_at "mo"
   obtain⟨w,ew,hw⟩:=znK_ (x / 5) (k:=(W.length:Int)) (by lia) (by lia)
   rw[show ixN (Dn43 P O W S B).length 2=some 2 from rfl,show atI (Dn43 P O W S B) 2=some (W.map iW)from rfl]
   walk_at "mo"
   rw[l6,ew]
   walk_at "mo"
   rw[Mo.lim_ok (by show(W.map iW).length+1<=_;rw[l6];lia)]
   refine⟨_,.inl rfl,P,O,W++[w],S,B,?_,D.addW (by lia) hw⟩
   show _=[_,_,(W++[_]).map iW,_,_]
   rw[rG];rfl
 ·rw[show atI (Dn43 P O W S B) 3=some (S.map iF)from rfl,show atI [(8:Int),6,4,4,36] 3=some 4 from rfl]
  walk_at "mo"
  by_cases hc:(4:Int)<=((S.map iF).length:Int)
  ·rw[decide_eq_true hc]
   exact⟨_,.inr rfl,P,O,W,S,B,rfl,D⟩
  ·rw[decide_eq_false hc]
   rw[l6]at hc;simp only[show decide ((3:Int)=0)=false from rfl,show decide ((3:Int)=1)=false from rfl,show decide ((3:Int)=2)=false from rfl,show decide ((3:Int)=3)=true from rfl,show decide ((3:Int)=4)=false from rfl]
   walk_at "mo"
   obtain⟨f,ef,f1,f2,f3,f4⟩:=zdW_ (x / 5) (h:=36) (w:=8) (by decide) (by decide)
   rw[show ixN (Dn43 P O W S B).length 3=some 3 from rfl,ef]
   walk_at "mo"
   rw[Mo.lim_ok (by show(S.map iF).length+1<=_;rw[l6];lia)]
   refine⟨_,.inl rfl,P,O,W,S++[f],B,?_,D.addS (by lia) ⟨f1,f2,f3⟩⟩
   show _=[_,_,_,(S++[_]).map iF,_]
   rw[rG];rfl
 ·rw [show atI (Dn43 P O W S B) 4=some (B.map iF)from rfl,show atI [(8:Int),6,4,4,36] 4=some 36 from rfl]
  walk_at "mo"
  by_cases hc:(36:Int)<=((B.map iF).length:Int)
  ·rw[decide_eq_true hc]
   exact⟨_,.inr rfl,P,O,W,S,B,rfl,D⟩
  ·rw[decide_eq_false hc]
   rw[l6]at hc;simp only[show decide ((4:Int)=0)=false from rfl,show decide ((4:Int)=1)=false from rfl,show decide ((4:Int)=2)=false from rfl,show decide ((4:Int)=3)=false from rfl,show decide ((4:Int)=4)=true from rfl]
   walk_at "mo"
   have hB:=D.bd.len;rw[show ixN (Dn43 P O W S B).length 4=some 4 from rfl,show atI (Dn43 P O W S B) 4=some (B.map iF)from rfl]
   walk_at "mo"
   have a0:0<=x / 5 / 40 % 36:=qz _ (by decide)
   have a1:x / 5 / 40 % 36<36:=qt _ (by decide)
   have b0:0<=x / 5 % 40:=qz _ (by decide)
   have b1:x / 5 % 40<40:=qt _ (by decide)
   rw[zM_ (f:=λd_:Dy=>cond1 (Mq true) ((Mo.opt (oFF d_)).bind λpV=>Mq pV.snd)) (g:=λd=>((oFF d).getD (0,0)).2) (λd hd=>by
    obtain⟨w,hw,rfl⟩:=qp.mp hd;rfl) (by rw[l6];simp;lia),qA,rN,show((λd=>((oFF d).getD (0,0)).2)∘iF)=λw:Wr=>w.2 from rfl]
   walk_at "mo"
   cases hn:(B.map λw:Wr=>w.2).any λy=>decide (y=1+x / 5 / 40 % 36)with
   |true=>
    exact⟨_,.inl rfl,P,O,W,S,B,rfl,D⟩
   |false=>
    walk_at "mo"
    rw[Mo.lim_ok (by show(B.map iF).length+1<=_;rw[l6];lia)]
    refine⟨_,.inl rfl,P,O,W,S,B++[(1+x / 5 % 40,1+x / 5 / 40 % 36)],?_,D.addB (λh=>?_) ⟨by show 1<=1+x / 5 % 40;lia,by show 1+x / 5 % 40<=40;lia,by show 1<=1+x / 5 / 40 % 36;lia,by show 1+x / 5 / 40 % 36<=36;lia⟩⟩
    ·show _=[_,_,_,_,(B++[_]).map iF]
     rw[rG];rfl
    ·rw[vh]at hn
     exact hn _ h (by simp)
abbrev iM:((List Nat×Fl) ⊕ (List Nat×List Nat×Fl×Fl))->Dy:=Sum.elim (iT (iC Dy.str (i1 iFF))) (iT (iC Dy.str (iC Dy.str (iC iFF (i1 iFF)))))
def partsL (A:Ak):List Dy:=[Dy.str A.1,iL iP A.2.1,iO iM A.2.2.1,iL iF A.2.2.2.1,iL iW A.2.2.2.2.1,.int A.2.2.2.2.2.1,iL iF A.2.2.2.2.2.2.1,.int A.2.2.2.2.2.2.2.1,iL iF A.2.2.2.2.2.2.2.2.1]
abbrev oF:=oFF
abbrev oP:=oT (oC oFF (o1 Dy.str?))
abbrev oW:=oT (oC oFF (oC oFF (oC Dy.str? (o1 oFF))))
theorem znV_ (xs:List Pk):allO oP (xs.map iP)=some xs:=by
 induction xs with
 |nil=>rfl
 |cons x xs ih=>rw[qv];show((some x).bind λa=>(allO _ (xs.map iP)).map λas=>a::as)=_;rw[ih];rfl
theorem zn0_ (xs:List Wk):allO oW (xs.map iW)=some xs:=by
 induction xs with
 |nil=>rfl
 |cons x xs ih=>rw[qv];show((some x).bind λa=>(allO _ (xs.map iW)).map λas=>a::as)=_;rw[ih];rfl
def tn (f:Fl):Fl:=(37-f.2,37-f.1)
def tnP (p:Pk):Pk:=(tn p.1,p.2.reverse)
def tnW (w:Wk):Wk:=(tn w.1,tn w.2.1,w.2.2.1,tn w.2.2.2)
def tnM:Md->Md |none=>none |some (.inl c)=>some (.inl (c.1,tn c.2))|some (.inr c)=>some (.inr (c.1,c.2.1,tn c.2.2.1,c.2.2.2))
theorem zea_ (f:Fl):zaS_ f=.ok (tn f):=rfl
theorem zpA_ {f:Fl}(h:rg false f):rg true (tn f):=by
 unfold rg at h ⊢;unfold tn;simp at h ⊢;lia
theorem tn_bk {k:Int}{f:Fl}(h:bk false k f):bk true k (tn f):=by
 unfold bk at h ⊢;unfold tn;simp at h ⊢;lia
theorem zr9_ {f:Fl}(h:OkF f):OkF (tn f):=by
 unfold OkF tn at *;simp only at *;lia
theorem zpW_ (a:Int)(n:Nat)(g:Int->Nat):((rngI a n).map g).reverse=(rngI (37-(a+n-1)) n).map λc=>g (37-c):=by
 apply sX;intro i;by_cases h:i<n
 ·rw[List.getElem?_reverse (by rw[l6,zT_];exact h),l6,zT_]
  unfold rngI;grind
 ·rw[tN (by rw[vZ,l6,zT_];lia),tN (by rw[l6,zT_];lia)]
theorem tn_K {sg:Int->Nat}{p:Pk}(h:OkK sg p):OkK (λc=>sg (37-c)) (tnP p):=by
 obtain⟨h1,h2⟩:=h;refine⟨zr9_ h1,?_⟩;obtain⟨a1,a2,a3⟩:=h1;show p.2.reverse=(rngI (37-p.1.2) (37-p.1.1+1-(37-p.1.2)).toNat).map _
 rw[h2,zpW_,show(37-p.1.1+1-(37-p.1.2)).toNat=(p.1.2+1-p.1.1).toNat by lia]
 congr 2;lia
theorem zoR_ {α β:Type}(g:α->β)(xs:List α):enumL (xs.map g)=(enumL xs).map λq=>(q.1,g q.2):=by
 refine sX λi=>?_
 rw[zbM_,qU,qU,zbM_];cases xs[i]?<;>rfl
theorem tn_D {q:Int×Wk}(h:OkD false q):OkD true (q.1,tnW q.2):=by
 obtain⟨h1,h2,h3,h4⟩:=h;refine⟨tn_bk h1,?_,zpA_ h3,h4⟩;rcases h2 with h2 |⟨j,j1,j0,h2⟩
 ·exact .inl (zpA_ h2)
 ·exact .inr ⟨j,j1,j0,tn_bk h2⟩
theorem tn_M {d:List Nat}{m:Md}(h:OkM d m):OkM d (tnM m):=by
 cases h with
 |no=>exact .no
 |fi h=>exact .fi (zr9_ h)
 | @ma w n f g h1 h2 h3 h4 h5 h6=>exact .ma h1 h2 h3 (zr9_ h4) h5 (by unfold tn;show 37-f.1-(37-f.2)=g.2-g.1;lia)
theorem tn_mf {m:Md}(h:∀f∈(midF m).take 1,rg false f):∀f∈(midF (tnM m)).take 1,rg true f:=by
 match m,h with
 |none,_=>intro f hf;cases hf
 |some (.inl c),h=>intro f hf;rw[show f=tn c.2 from pS.mp hf];exact zpA_ (h c.2 (pS.mpr rfl))
 |some (.inr c),h=>intro f hf;rw[show f=tn c.2.2.1 from pS.mp hf];exact zpA_ (h c.2.2.1 (pS.mpr rfl))
abbrev PQ (A:Ak):Prop:=∃s sg,(∀c,sg c∈SG)/\Dr s sg A/\OkM A.1 A.2.2.1/\SB A.2.2.2.2.2.2.2.2.1
theorem zjz_ (B:List Wr)(hB:B.length<=36):compM (λaZ:Wr=>cond1 (Mq true) (Mq (aZ.2,aZ.1))) B []=.ok (B.map swp):=by
 rw[zM_ (f:=λaZ:Wr=>cond1 (Mq true) (Mq (aZ.2,aZ.1))) (g:=swp) (λx _=>rfl) (by simp;lia)];rfl
theorem ziH_ {ρ S:Type}{m:Mo (Out ρ Unit S)}{k:S->Mo (Out ρ Unit Unit)}{Q:Mo ρ->Prop}(F:S->Prop)(h:∃s,m=.ok (.nx s)/\F s)(hk:∀s,F s->Q (fnO (k s))):Q (fnO (thenO m k)):=by
 obtain⟨s,e,p⟩:=h;rw[e,zbm_];exact hk s p
abbrev FS (nm:Jx)(st:List Pk×List Fl×List Fl×List Wk×Md):Prop:=∃s sg,(∀c,sg c∈SG)/\st.1.length<=8/\(∀p∈st.1,rg s p.1/\OkK sg p)/\st.2.1.length<=6/\(∀f∈st.2.1,rg s f)/\st.2.2.1.length<=4/\(∀f∈st.2.2.1,OkF f)/\st.2.2.2.1.length<=4/\(∀q∈enumL st.2.2.2.1,OkD s q)/\OkM nm st.2.2.2.2/\∀f∈(midF st.2.2.2.2).take 1,rg s f
theorem zn7_ (ns:List Int)(hl:ns.length<=63):∃A,zdD_ ns=.ok (partsL A)/\PQ A:=by
 obtain⟨c0,e0⟩:=zgF_ ns 0 (by decide)
 obtain⟨c1,e1⟩:=zgF_ ns 1 (by decide)
 obtain⟨c2,e2⟩:=zgF_ ns 2 (by decide)
 obtain⟨nm,en,hn⟩:=znP_ (c0 / 2);obtain⟨m,em,hm,hmf⟩:=zjG_ hn c1;obtain⟨sg,bL,_,ed,P,O,W,S,B,rfl,D⟩:=zn4_ ns hl;have l1:=D.pl;have l2:=D.ol;have l3:=D.wl;have l4:=D.sl;have l5:=D.bd.len;unfold zdD_ zdz_
 walk_at "mo"
 rw[e0,e1,e2]
 walk_at "mo"
 rw[en]
 walk_at "mo"
 rw[em,ed]
 walk_at "mo"
 rw[show five (Dn43 P O W S B)=some (P.map iP,O.map iF,W.map iW,S.map iF,B.map iF)from rfl]
 walk_at "mo"
 rw[znV_,zga_,zn0_]
 walk_at "mo"
 rw[zga_,zga_]
 walk_at "mo"
 refine ziH_ (Q:=λr=>∃A,r=.ok (partsL A)/\PQ A) (F:=FS nm) ?_ (λst aM=>?_)
 ·by_cases hc:c0 % 2=1
  ·rw[decide_eq_true hc,if_pos rfl]
   refine⟨(P.map tnP,O.map tn,S.map tn,W.map tnW,tnM m),?_,true,λc=>sg (37-c),λc=>bL _,by rw[l6];exact l1,λp hp=>?_,by rw[l6];exact l2,λf hf=>?_,by rw[l6];exact l4,λf hf=>?_,by rw[l6];exact l3,λq hq=>?_,tn_M hm,tn_mf hmf⟩
   ·rw[zM_ (f:=λfY:Pk=>cond1 (Mq true) ((zaS_ fY.1).noex.bind λa=>(Mo.lim fY.2.length (Mq fY.2.reverse)).bind λc=>Mq (a,c))) (g:=tnP) (λp hp=>by
     have hk:=(D.pk p hp).2;obtain⟨⟨a1,a2,a3⟩,ht⟩:=hk;have:p.2.length<=36:=by rw[ht,l6,zT_];lia
     rw[zea_,Mo.lim_ok (by lia)]
     rfl) (by simp;lia),zM_ (f:=λfX:Fl=>cond1 (Mq true) (zaS_ fX).noex) (g:=tn) (λf hf=>rfl) (by simp;lia),zM_ (f:=λfX:Fl=>cond1 (Mq true) (zaS_ fX).noex) (g:=tn) (λf hf=>rfl) (by simp;lia)]
    walk_at "mo"
    refine zaO_ (G:=λz=>thenO z _=_) (λd (s:List Wk)=>s=d.map tnW) rfl (λd x s hx hs=>?_) (λs hs=>?_)
    ·obtain⟨r,hr⟩:=hx
     have hd:d.length<4:=by have:=congrArg rZ hr;simp at this;lia
     subst hs;rw[zea_,zea_,zea_]
     walk_at "mo"
     rw[Mo.lim_ok (by rw[l6];lia)]
     exact⟨_,rfl,by rw[rG];rfl⟩
    ·subst hs
     rw[zbm_]
     match m with
     |none=>rfl
     |some (.inl c)=>rfl
     |some (.inr c)=>rfl
   ·obtain⟨p,hp2,rfl⟩:=qp.mp hp
    exact⟨zpA_ (D.pk p hp2).1,tn_K (D.pk p hp2).2⟩
   ·obtain⟨f,hf2,rfl⟩:=qp.mp hf
    exact zpA_ (D.od f hf2)
   ·obtain⟨f,hf2,rfl⟩:=qp.mp hf
    exact zr9_ (D.su f hf2)
   ·rw[show(P.map tnP,O.map tn,S.map tn,W.map tnW,tnM m).2.2.2.1=W.map tnW from rfl,zoR_]at hq
    obtain⟨r,hr,rfl⟩:=qp.mp hq;exact tn_D (D.wk r hr)
  ·rw[decide_eq_false hc,if_neg (by decide)]
   exact⟨_,rfl,false,sg,bL,l1,D.pk,l2,D.od,l4,D.su,l3,D.wk,hm,hmf⟩
 ·obtain⟨s,eC,hsg',q1,q2,q3,q4,q5,q6,q7,q8,q9,q10⟩:=aM
  rw[zjz_ B l5]
  walk_at "mo"
  rw[Mo.grd_ok (by rw[l6];lia)]
  walk_at "mo"
  have qN:(srtL (lxP ltI ltI) (B.map swp)).length<=36:=by rw[(zbO_ _ _).length_eq,l6];exact l5
  rw[zM_ (f:=λaZ:Wr=>cond1 (Mq true) (Mq (aZ.2,aZ.1))) (g:=swp) (λx _=>rfl) (by simp;lia),qA,show(srtL (lxP ltI ltI) (B.map swp)).map swp=brd B from rfl]
  walk_at "mo"
  rw[Mo.grd_ok (by lia)]
  have b0:0<=c2 % (min 3 (st.2.1.length:Int)+1):=qz _ (by lia)
  have b1:c2 % (min 3 (st.2.1.length:Int)+1)<min 3 (st.2.1.length:Int)+1:=qt _ (by lia)
  have f0:0<=c2 / 4 % 12:=qz _ (by decide)
  have f1:c2 / 4 % 12<12:=qt _ (by decide)
  refine⟨(nm,st.1,st.2.2.2.2,st.2.1,st.2.2.2.1,c2 % (min 3 (st.2.1.length:Int)+1),st.2.2.1,1+c2 / 4 % 12,brd B,()),rfl,s,eC,hsg',⟨hn,q1,q2,⟨_,q9⟩,q10,q3,q4,q7,q8,⟨b0,by show c2 % _<=3;lia,by show c2 % _<=(st.2.1.length:Int);lia⟩,q5,q6,⟨by show 1<=1+c2 / 4 % 12;lia,by show 1+c2 / 4 % 12<=12;lia⟩,(zns_ D.bd).ok⟩,q9,zns_ D.bd⟩
abbrev NA:Xc:=.pl "NoAsking"
theorem zml_ (b:Bool)(w:Jx):zba_ b w=if b then .ok ()else .ex NA:=by cases b<;>rfl
abbrev OR (m:Mo Unit):Prop:=m=.ok ()\/m=.ex NA
theorem zcp_ {m:Mo Unit}{k:Unit->Mo (Out Unit Unit Unit)}(h:OR m)(hk:fnU (k ())=.ex NA):fnU (m.bind k)=.ex NA:=by
 rcases h with rfl |rfl
 ·exact hk
 ·rfl
theorem zdm_ {m:Mo Unit}{k:Unit->Mo (Out Unit Unit Unit)}(h:m=.ex NA):fnU (m.bind k)=.ex NA:=by rw[h];rfl
def fldB (f:Fl):Bool:=decide (1<=f.1) && decide (f.1<=f.2) && decide (f.2<=36)
theorem ziC_ {f:Fl}:fldB f=true↔OkF f:=by
 unfold fldB OkF;grind
theorem zk2_ (f:Fl):zcl_ f.1 f.2=.ok (fldB f):=by
 unfold zcl_ zdr_ fldB
 walk_at "mo"
 rw[show∀n,zae_ n=.ok true from λ_=>rfl]
 walk_at "mo"
 rw[show∀n,zae_ n=.ok true from λ_=>rfl]
 cases decide (1<=f.1)<;>cases decide (f.1<=f.2)<;>cases decide (f.2<=36)<;>rfl
theorem zex_ {ρ B α:Type}{step:Unit->α->Mo (Out ρ Unit Unit)}{p:α->Bool}{x:Xc}:∀{xs:List α},(∀a∈xs,step () a=if p a then .ok (.nx ())else .ex x)->forO (B:=B) step xs ()=if xs.all p then .ok (.nx ())else .ex x
 |[],_=>rfl
 |a::xs,h=>by
  rw[za7_,h a (nu ..),rL];cases p a with
  |true=>rw[if_pos rfl,Mo.okB,yb];exact zex_ λb hb=>h b (qa _ hb)
  |false=>rfl
section
variable {A:Ak}
abbrev Chk (A:Ak):Prop:=zv_ A=.ex NA
theorem ref1 (h:zr_ A=.ex NA):Chk A:=by
 unfold Chk zv_ zL_
 walk_at "mo"
 exact zdm_ h
theorem ref2 (h1:OR (zr_ A))(h:zx_ A=.ex NA):Chk A:=by
 unfold Chk zv_ zL_
 walk_at "mo"
 exact zcp_ h1 (zdm_ h)
theorem ref3 (h1:OR (zr_ A))(h2:OR (zx_ A))(h:zo_ A=.ex NA):Chk A:=by
 unfold Chk zv_ zL_
 walk_at "mo"
 exact zcp_ h1 (zcp_ h2 (zdm_ h))
theorem ref4 {fs:List Fl}(h1:OR (zr_ A))(h2:OR (zx_ A))(h3:OR (zo_ A))(e:zaj_ A=.ok fs)(h:fs.all fldB=false):Chk A:=by
 unfold Chk zv_ zL_
 walk_at "mo"
 refine zcp_ h1 (zcp_ h2 (zcp_ h3 ?_));rw[e]
 walk_at "mo"
 rw[zex_ (p:=fldB) (x:=NA) (λf hf=>by rw[zk2_];walk_at "mo";rw[zml_];cases fldB f<;>rfl),h]
 rfl
theorem ref5 {fs:List Fl}(h1:OR (zr_ A))(h2:OR (zx_ A))(h3:OR (zo_ A))(e:zaj_ A=.ok fs)(h4:fs.all fldB=true)
  (h:fnU ((zS_ A).bind λ_=>(zy_ A).bind λ_=>(zG_ A).bind λ_=>(z7_ A).bind λ_=>Mq (Out.nx ()))=.ex NA):Chk A:=by
 unfold Chk zv_ zL_
 walk_at "mo"
 refine zcp_ h1 (zcp_ h2 (zcp_ h3 ?_));rw[e]
 walk_at "mo"
 rw[zex_ (p:=fldB) (x:=NA) (λf hf=>by rw[zk2_];walk_at "mo";rw[zml_];cases fldB f<;>rfl),h4]
 exact h
theorem zrq_ (h:Chk A):zJ_ () A.1 A.2.1 A.2.2.1 A.2.2.2.1 (some A.2.2.2.2.1) A.2.2.2.2.2.1 (some A.2.2.2.2.2.2.1) A.2.2.2.2.2.2.2.1 (some A.2.2.2.2.2.2.2.2.1)=.ex NA:=by
 unfold zJ_;show fnMU (Mb (zv_ A) λ_=>Mq (.nx A))=_
 rw[h];rfl
end
theorem zot_:zcG_ NA=.ok true:=rfl
theorem zlv_ {P:List Dy}(h:zaC_ P=.ex NA):zaB_ P=.ok true:=by
 unfold zaB_ zb8_
 walk_at "mo"
 rw[h];show fnO (thenO ((zcG_ NA).noex.bind λy7=>Mq (Out.nx (true,y7))) _)=_
 rw[zot_];rfl
theorem zls_ {P:List Dy}{A:Ak}(h:zaC_ P=.ok A):zaB_ P=.ok false:=by
 unfold zaB_ zb8_
 walk_at "mo"
 rw[h];rfl
theorem zmG_ {A:Ak}{r:Mo Ak}(h:∀R,zJ_ () A.1 A.2.1 A.2.2.1 A.2.2.2.1 (some A.2.2.2.2.1) A.2.2.2.2.2.1 (some A.2.2.2.2.2.2.1) A.2.2.2.2.2.2.2.1 (some A.2.2.2.2.2.2.2.2.1)=R->R=.ok ((),A)/\r=.ok A\/R=.ex NA/\r=.ex NA):zaC_ (partsL A)=r:=by
 unfold zaC_ zeK_
 walk_at "mo"
 refine znS_ (G:=λm=>fnO (m.bind _)=r) (λd=>d) (λd _=>by cases d<;>rfl) (by show 9<=1000;decide) ?_
 rw[List.map_id']
 walk_at "mo"
 rw[show cutG (partsL A) (some 4) none=(partsL A).drop 4 from rfl]
 rw[show atI (partsL A) 0=some (Dy.str A.1)from rfl,show atI (partsL A) 1=some (iL iP A.2.1)from rfl,show atI (partsL A) 2=some (iO iM A.2.2.1)from rfl,show atI (partsL A) 3=some (iL iF A.2.2.2.1)from rfl]
 walk_at "mo"
 have q1:oL oP (iL iP A.2.1)=some A.2.1:=znV_ _;have o2:oO (oU (oT (oC Dy.str? (o1 oF))) (oT (oC Dy.str? (oC Dy.str? (oC oF (o1 oF)))))) (iO iM A.2.2.1)=some A.2.2.1:=by
  match A.2.2.1 with
  |none=>rfl
  |some (.inl c)=>rfl
  |some (.inr c)=>rfl
 have o3:∀xs:List Fl,oL oF (iL iF xs)=some xs:=λxs=>zga_ xs
 have o4:oO (oL oW) (iL iW A.2.2.2.2.1)=some (some A.2.2.2.2.1):=by show(allO oW (A.2.2.2.2.1.map iW)).map some=_;rw[zn0_];rfl
 have o5:∀xs:List Fl,oO (oL oF) (iL iF xs)=some (some xs):=λxs=>by show(allO oF (xs.map iF)).map some=_;rw[zga_];rfl
 rw[q1,o2,o3]
 walk_at "mo"
 rw[show atI ((partsL A).drop 4) 0=some (iL iW A.2.2.2.2.1)from rfl,show atI ((partsL A).drop 4) 1=some (.int A.2.2.2.2.2.1)from rfl,show atI ((partsL A).drop 4) 2=some (iL iF A.2.2.2.2.2.2.1)from rfl,show atI ((partsL A).drop 4) 3=some (.int A.2.2.2.2.2.2.2.1)from rfl,show atI ((partsL A).drop 4) 4=some (iL iF A.2.2.2.2.2.2.2.2.1)from rfl]
 walk_at "mo"
 rw[o4,o5,o5]
 walk_at "mo"
 rw[show Dy.str? (Dy.str A.1)=some A.1 from rfl]
 walk_at "mo"
 rw[show Dy.int? (Dy.int A.2.2.2.2.2.1)=some A.2.2.2.2.2.1 from rfl,show Dy.int? (Dy.int A.2.2.2.2.2.2.2.1)=some A.2.2.2.2.2.2.2.1 from rfl]
 walk_at "mo"
 rcases h _ rfl with⟨e,rfl⟩|⟨e,rfl⟩<;>(rw[e];rfl)
theorem zrC_ {A:Ak}(h:OkA A):zaC_ (partsL A)=.ok A:=zmG_ λR e=>.inl ⟨e ▸ zqJ_ h,rfl⟩
theorem zp4_ {A:Ak}(h:Chk A):zaC_ (partsL A)=.ex NA:=zmG_ λR e=>.inr ⟨e ▸ zrq_ h,rfl⟩
theorem ziR_ (ns:List Int)(hl:ns.length<=63)(bI:∀{s:Bool}{sg:Int->Nat}{A:Ak},Dr s sg A->(∀c,sg c∈SG)->OkA A->SB A.2.2.2.2.2.2.2.2.1->∀c:Int,∃A',zz_ (partsL A) c=.ok (partsL A')/\Chk A'):zsV_ ns=.ok true:=by
 obtain⟨c2,e2⟩:=zgF_ ns 2 (by decide)
 obtain⟨A,eA,s,sg,bL,D,hM,hB⟩:=zn7_ ns hl;have lW:OkA A:=D.ok bL λw n f g e=>by
  rw[e]at hM;cases hM with
  |ma _ _ h _ _ _=>exact h
 obtain⟨A',eA',hc⟩:=bI D bL lW hB c2;unfold zsV_ zr4_
 walk_at "mo"
 rw[eA,e2]
 walk_at "mo"
 rw[eA']
 walk_at "mo"
 rw[zls_ (zrC_ lW),zlv_ (zp4_ hc)];rfl
theorem pow18:Mo.grd (CPow 10 18) (Mq ((10:Int) ^ Int.toNat 18))=.ok 1000000000000000000:=by
 rw[Mo.grd_ok (by decide)]
 rfl
theorem zap_ {f:Fl}(h:OkF f)(c:Int):∃g,zbr_ f c=.ok g/\fldB g=false:=by
 obtain⟨h1,h2,h3⟩:=h;unfold zbr_ zbu_
 walk_at "mo"
 rw[pow18]
 walk_at "mo"
 rw[Mo.lim_ok (by show 5+2<=100000;decide)]
 walk_at "mo"
 generalize hF:c / 7 % 1000000000000000000=F
 have pw:0<=F:=by lia
 have key:∀g∈[(0,f.2),(f.1,37),(f.2+1,f.2),(-1-F,f.2),(f.1,37+F)]++[((37:Int),(37:Int)),(0,0)],fldB g=false:=by
  intro g hg;simp only[tS,qA,qf,qQ,or_false]at hg;cases e:fldB g with
  |false=>rfl
  |true=>
   obtain⟨a,b,d⟩:=ziC_.mp e;rcases hg with rfl |rfl |rfl |rfl |rfl |rfl |rfl<;>(simp only at a b d;lia)
 obtain⟨g,e,hg⟩:=zbZ_ (xs:=[(0,f.2),(f.1,37),(f.2+1,f.2),(-1-F,f.2),(f.1,37+F)]++[((37:Int),(37:Int)),(0,0)]) (k:=c % 7) (by show -(7:Int)<=_;lia) (by show c % 7<7;lia)
 rw[e];exact⟨g,rfl,key g hg⟩
theorem zgW_ {m:List Nat}(hl:m.length<=20)(h:m.length=0\/8<m.length\/∃c∈m,c<97):z9_ m=.ok false:=by
 unfold z9_ zed_
 walk_at "mo"
 rw[Mo.lim_ok (by lia)]
 walk_at "mo"
 by_cases h1:m.length=0
 ·rw[decide_eq_false (show¬(1:Int)<=m.length by lia)]
  rfl
 rw[decide_eq_true (show(1:Int)<=m.length by lia)]
 by_cases h2:8<m.length
 ·rw[decide_eq_false (show¬(m.length:Int)<=8 by lia)]
  rfl
 rw[decide_eq_true (show(m.length:Int)<=8 by lia)]
 walk_at "mo"
 rw[zM_ (f:=λfN:List Nat=>cond1 (Mq true) (Mq (inS fN Qm0))) (g:=λx=>inS x Qm0) (λx hx=>rfl) (by simp;lia)]
 obtain⟨c,hc,c1⟩:∃c∈m,c<97:=by rcases h with h |h |h;exact absurd h h1;exact absurd h h2;exact h
 have e:(([]:List Bool)++(m.map λc=>[c]).map λx=>inS x Qm0).all id=false:=by
  rw[qA,tO];refine⟨inS [c] _,qp.mpr ⟨[c],qp.mpr ⟨c,hc,rfl⟩,rfl⟩,?_⟩;have:∀c:Nat,c<97->¬id (inS [c] Qm0)=true:=by decide
  exact this c c1
 rw[Mo.okB,e];rfl
theorem zkI_ {n:List Nat}(h:OkN n)(c:Int):∃m,zbU_ n c=.ok m/\z9_ m=.ok false/\m.length<=20:=by
 obtain⟨h1,h2,h3⟩:=h;unfold zbU_ zbV_
 walk_at "mo"
 have cl:∀(xs:Jx) (b:Int),(cutG xs none (some b)).length<=xs.length:=λxs b=>by unfold cutG;grind
 have c1:=cl n 7;have c2:=cl n (-1);have c3:=cl n 3;have c4:=cl (n++Qm5) 8;have c5:(cutG (n++Qm5) none (some 8)).length=8:=by rw[zgY_ (by decide),rp,nA];simp
 rw[nA]at c4;simp only[qh,rF]at c4
 repeat(rw[Mo.lim_ok (by first |lia |(simp only[nA,qh,rF];lia))];walk_at "mo")
 generalize cutG n none (some 7)=a7 at *
 generalize cutG n none (some (-1))=a1 at *
 generalize cutG n none (some 3)=a3 at *
 generalize cutG (n++Qm5) none (some 8)=a8 at *
 obtain⟨m,e,hm⟩:=zbZ_ (xs:=[[],a8++[120],a7++[55],a1++[65],a7++[32],[45],a3++[95]]) (k:=c % 7) (by show -(7:Int)<=_;lia) (by show c % 7<7;lia)
 rw[e];refine⟨m,rfl,?_⟩;simp only[qf,qQ,or_false]at hm;have key:∀(a:Jx) (c:Nat),a.length<=8->c<97->z9_ (a++[c])=.ok false/\(a++[c]).length<=20:=λa c h hc=>by
  have l:(a++[c]).length<=20:=by simp;lia
  exact⟨zgW_ l (.inr (.inr ⟨c,by simp,hc⟩)),l⟩
 rcases hm with rfl |rfl |rfl |rfl |rfl |rfl |rfl
 ·exact⟨zgW_ (by decide) (.inl rfl),by decide⟩
 ·exact⟨zgW_ (by simp;lia) (.inr (.inl (by simp;lia))),by simp;lia⟩
 ·exact key _ _ (by lia) (by decide)
 ·exact key _ _ (by lia) (by decide)
 ·exact key _ _ (by lia) (by decide)
 ·exact key [] 45 (by decide) (by decide)
 ·exact key _ _ (by lia) (by decide)
section
variable {A:Ak}
theorem zq8_ (A:Ak):zr_ A=if decide ((A.2.1.length:Int)<=8) && decide ((A.2.2.2.1.length:Int)<=6) && decide ((A.2.2.2.2.1.length:Int)<=4) && decide ((A.2.2.2.2.2.2.1.length:Int)<=4)then .ok ()else .ex NA:=by
 unfold zr_ zaA_
 walk_at "mo"
 simp only[zml_];cases decide ((A.2.1.length:Int)<=8)<;>cases decide ((A.2.2.2.1.length:Int)<=6)<;>cases decide ((A.2.2.2.2.1.length:Int)<=4)<;>cases decide ((A.2.2.2.2.2.2.1.length:Int)<=4)<;>rfl
theorem ze5_ (A:Ak):OR (zr_ A):=by
 rw[zq8_];split
 ·exact .inl rfl
 ·exact .inr rfl
theorem zfu_ (h:¬(A.2.1.length<=8/\A.2.2.2.1.length<=6/\A.2.2.2.2.1.length<=4/\A.2.2.2.2.2.2.1.length<=4)):zr_ A=.ex NA:=by
 rw[zq8_,if_neg];intro z;simp only[qj,decide_eq_true_eq]at z;lia
def nmB (n:Jx):Bool:=match z9_ n with |.ok b=>b |_=>false
theorem zh1_ {ns:Jy}(e:z6_ A=.ok ns)(hb:∀x∈ns,∃b,z9_ x=.ok b)(h:ns.all nmB=false):zo_ A=.ex NA:=by
 unfold zo_ z5_
 walk_at "mo"
 rw[e]
 walk_at "mo"
 rw[zex_ (p:=nmB) (x:=NA) (λn hn=>by
  obtain⟨b,eb⟩:=hb n hn;rw[show nmB n=b by unfold nmB;rw[eb],eb]
  walk_at "mo"
  rw[zml_];cases b<;>rfl),h]
 rfl
theorem zf4_ {d n:List Nat}(e:z6_ A=.ok [d,n])(h1:OkN d)(h2:OkN n):zo_ A=if decide (d=n)then .ex NA else .ok ():=by
 unfold zo_ z5_
 walk_at "mo"
 rw[e]
 walk_at "mo"
 rw[zaH_ (λx hx=>by
  have:z9_ x=.ok true:=by
   rcases qf.mp hx with rfl |hx
   ·exact zb1_ h1
   ·rw[pS.mp hx];exact zb1_ h2
  rw[this];rfl)]
 walk_at "mo"
 rw[show atI [d,n] 0=some d from rfl,show atI [d,n] (-1)=some n from rfl]
 walk_at "mo"
 by_cases z:d=n
 ·rw[decide_eq_true z];rfl
 ·rw[decide_eq_false z];rfl
theorem zmW_ {mf:List Fl}(h1:A.2.1.length<=8)(h2:A.2.2.2.1.length<=6)(h3:A.2.2.2.2.1.length<=4)(h4:A.2.2.2.2.2.2.1.length<=4)(em:z0_ A=.ok mf)(hm:mf.length<=2):
  zaj_ A=.ok (A.2.1.map (·.1)++mf++A.2.2.2.1++A.2.2.2.2.2.2.1++A.2.2.2.2.1.flatMap λw=>[w.1,w.2.1,w.2.2.2]):=by
 unfold zaj_ zbI_
 walk_at "mo"
 rw[zeb_ h1,em]
 walk_at "mo"
 rw[Mo.lim_ok (by simp;lia),Mo.okB,Mo.lim_ok (by simp;lia),Mo.okB,Mo.lim_ok (by simp;lia),Mo.okB]
 generalize hb:A.2.1.map (λx:Pk=>x.1)++mf++A.2.2.2.1++A.2.2.2.2.2.2.1=base
 have lb:base.length<=20:=by rw[<- hb];simp only[nA,l6];lia
 refine zaO_ (G:=λmm=>fnO (thenO mm _)=_) (λd (s:List Fl)=>s=base++d.flatMap (λw:Wk=>[w.1,w.2.1,w.2.2.2])/\s.length<=20+3*d.length) ⟨by simp,by simp;lia⟩ (λd x s hx hs=>?_) (λs hs=>by rw[hs.1];rfl)
 obtain⟨r,hr⟩:=hx;have hd:d.length<4:=by have:=congrArg rZ hr;simp at this;lia
 rw[Mo.lim_ok (by have:=hs.2;simp;lia)]
 grind
theorem zj9_ {fs:List Fl}{f:Fl}(hf:f∈fs)(h:fldB f=false):fs.all fldB=false:=by
 rw[tO];exact⟨f,hf,by rw[h];decide⟩
end
def okB (w:Wr):Bool:=decide (1<=w.1) && decide (w.1<=40) && (decide (1<=w.2) && decide (w.2<=36))
theorem zrP_ {w:Wr}:okB w=true↔okW w:=by unfold okB okW;simp[and_assoc]
def meets:List Wr->List Wr->Option (Wr×Wr)
 |_,[]=>none
 |d,x::xs=>match d.find? (λy=>decide (y.2=x.2))with |some y=>some (y,x)|none=>meets (d++[x]) xs
def mtX (q:Wr×Wr):Xc:=Xc.at "Meet" [("one",Av.p q.1.1 q.1.2),("other",Av.p q.2.1 q.2.2)]
theorem zj7_ {d:List Wr}{x:Wr}(h:d.find? (λy=>decide (y.2=x.2))=none):x.2∉d.map (·.2):=λz=>by
 grind
theorem zmF_ {d:List Wr}{x:Wr}(h:WF d)(hx:okW x)(hn:x.2∉d.map (·.2)):WF (d++[x]):=by
 refine⟨?_,λw hw=>?_⟩
 ·rw[rG,wx]
  refine ux.mpr ⟨h.1,sk.mpr ⟨qQ,.nil⟩,λa ha b hb e=>?_⟩
  obtain rfl:=pS.mp hb;exact hn (e ▸ ha)
 ·rcases qI.mp hw with hw |hw
  ·exact h.2 w hw
  ·obtain rfl:=pS.mp hw;exact hx
theorem zeh_:∀{xs d:List Wr},WF d->(∀x∈xs,okW x)->meets d xs=none->WF (d++xs)
 |[],d,h,_,_=>by rw[qC];exact h
 |x::xs,d,h,hx,e=>by
  unfold meets at e;split at e
  ·cases e
  ·rename_i z
   have:=zeh_ (zmF_ h (hx x nu) (zj7_ z)) (λy hy=>hx y (qa _ hy)) e
   rwa[rW]at this
theorem zkX_ {α ρ B:Type}{step:Unit->α->Mo (Out ρ Unit Unit)}{p:α->Bool}{e:Xc}:∀{xs:List α},(∀x∈xs,step () x=if p x then .ok (.nx ())else .ex e)->forO (B:=B) step xs ()=if xs.all p then .ok (.nx ())else .ex e
 |[],_=>rfl
 |x::xs,h=>by
  have h1:=h x nu;rw[rL];cases hp:p x with
  |true=>rw[hp,if_pos rfl]at h1;rw[zig_ h1,zkX_ λy hy=>h y (qa _ hy),yb]
  |false=>rw[hp,if_neg (by decide)]at h1;rw[za7_,h1,xh];rfl
theorem ziI_ {ρ B:Type}{step:List (Int×Wr)->Wr->Mo (Out ρ (List (Int×Wr)) (List (Int×Wr)))}
  (h:∀d x,WF d->okW x->step (byC d) x=match d.find? (λy=>decide (y.2=x.2))with |some y=>.ex (mtX (y,x))|none=>.ok (.nx (byC (d++[x])))):
  ∀{xs d:List Wr},WF d->(∀x∈xs,okW x)->forO (B:=B) step xs (byC d)=match meets d xs with |some q=>.ex (mtX q)|none=>.ok (.nx (byC (d++xs)))
 |[],d,_,_=>by rw[qC];rfl
 |x::xs,d,hd,hx=>by
  have h1:=h d x hd (hx x nu);unfold meets;cases z:d.find? (λy=>decide (y.2=x.2))with
  |some y=>rw[z]at h1;rw[za7_,h1];rfl
  |none=>
   rw[z]at h1;rw[zig_ h1,ziI_ h (zmF_ hd (hx x nu) (zj7_ z)) (λy hy=>hx y (qa _ hy)),rW];rfl
theorem str40 {i:Int}(h1:1<=i)(h2:i<=40):(strI i).length<=2:=by
 have:∀n:Fin 41,(strI (n.val:Int)).length<=2:=by decide +kernel
 have:=this ⟨i.toNat,by lia⟩
 rwa[show((⟨i.toNat,by lia⟩:Fin 41).val:Int)=i from by show(i.toNat:Int)=i;lia]at this
theorem log40 {i:Int}(h1:1<=i)(h2:i<=40):i.natAbs.log2<1920:=by
 have:=Nat.log2_le_self i.natAbs;lia
theorem zlT_ {y x:Wr}(hy:okW y)(hx:okW x):zbq_ y x=.ok []:=by
 obtain⟨a1,a2,a3,a4⟩:=hy;obtain⟨b1,b2,b3,b4⟩:=hx;unfold zbq_;have s1:=str40 a1 a2;have s2:=str40 a3 (by lia);have s3:=str40 b1 b2;have s4:=str40 b3 (by lia)
 walk_at "mo"
 rw[Mo.grd_ok (by decide),Mo.okB,Mo.grd_ok ⟨log40 a1 a2,log40 a3 (by lia),by lia⟩,Mo.okB,Mo.grd_ok (by decide),Mo.okB,Mo.grd_ok ⟨log40 b1 b2,log40 b3 (by lia),by lia⟩,Mo.okB,Mo.grd_ok (by decide)]
 rfl
theorem colB (v m:Int):zbC_ v m=.ok (decide (1<=v) && decide (v<=m)):=by
 unfold zbC_ zcF_ zae_ zcf_
 walk_at "mo"
 by_cases h:1<=v<;>simp[h]
theorem znB_ (d:List Wr)(c:Int):getA (byC d) c=d.find? (λy=>decide (y.2=c)):=by
 unfold getA byC;rw[List.find?_map];cases z:d.find? ((λq=>decide (q.fst=c))∘λw=>(w.2,w))with
 |none=>exact z.symm
 |some y=>exact z.symm
theorem zqT_ {W:List Wr}(h:W.all okB=false):zO_ W=.ex (Xc.pl "NoBoard"):=by
 unfold zO_ za1_
 walk_at "mo"
 rw[zkX_ (p:=okB) (e:=Xc.pl "NoBoard") (λx hx=>by
  rw[colB,colB];unfold okB;cases decide (1<=x.1) && decide (x.1<=40)<;>cases decide (1<=x.2) && decide (x.2<=36)<;>rfl),h]
 rfl
theorem zrH_ {W:List Wr}(h:∀w∈W,okW w):(∃q,meets [] W=some q/\zO_ W=.ex (mtX q))\/(meets [] W=none/\zO_ W=.ok (brd W)):=by
 have h0:WF []:=⟨.nil,λw hw=>by cases hw⟩
 cases z:meets [] W with
 |none=>exact .inr ⟨rfl,zno_ (zeh_ h0 h z)⟩
 |some q=>
  refine .inl ⟨q,rfl,?_⟩;unfold zO_ za1_
  walk_at "mo"
  rw[zaH_ (λx hx=>by
   obtain⟨a1,a2,a3,a4⟩:=h x hx;rw[zlM_ a1 a2,zlM_ a3 a4];rfl)]
  walk_at "mo"
  rw[show([]:List (Int×Wr))=byC []from rfl]
  rw[ziI_ (λd x hd hx=>by
    rw[znB_];cases z:d.find? (λy=>decide (y.2=x.2))with
    |some y=>
     walk_at "mo"
     rw[zlT_ (hd.2 y (List.mem_of_find?_eq_some z)) hx];rfl
    |none=>
     have:=hd.len
     walk_at "mo"
     rw[zmK_ (zj7_ z),Mo.lim_ok (by unfold byC;rw[l6];lia)]) h0 h,z]
  rfl
theorem zrG_ {V:List Wr}{x:Xc}(h:zO_ V=.ex x)(hx:x.c∈["NoBoard", "Meet"]):zX_ V=.ok false:=by
 unfold zX_ zds_
 walk_at "mo"
 rw[h];show fnO (thenO (Mo.grd (x.c∈["NoBoard", "Meet"]) _) _)=_
 rw[Mo.grd_ok hx];rfl
theorem zpu_ {V:List Wr}{w:Wr}(hw:w∈V)(h:¬okW w):zX_ V=.ok false:=by
 refine zrG_ (zqT_ ?_) (by decide)
 rw[tO];exact⟨w,hw,λz=>h (zrP_.mp z)⟩
theorem zp0_ {V:List Wr}(h:∀w∈V,okW w)(hn:¬SB V):zX_ V=.ok false:=by
 rcases zrH_ h with⟨q,_,e⟩|⟨z,e⟩
 ·exact zrG_ e (by show "Meet" ∈ _;decide)
 ·have wf:WF V:=by
   have:=zeh_ (d:=[]) ⟨.nil,λw hw=>by cases hw⟩ h z
   simpa using this
  unfold zX_ zds_
  walk_at "mo"
  rw[e];simp only[Mo.tr,zbm_,Mo.okB,znR_];rw[zmX_ (λa b=>by rw[sR];simp[Prod.ext_iff])]
  rw[decide_eq_false λ(z:brd V=V)=>hn (by rw[<- z];exact zns_ wf)]
theorem zly_ {B:List Wr}(hB:SB B)(c:Int):∃V,zbi_ B c=.ok V/\zX_ V=.ok false:=by
 have hl:=hB.1.len;unfold zbi_ zbp_
 walk_at "mo"
 rw[pow18]
 walk_at "mo"
 generalize hF:c / 5 % 1000000000000000000=F
 have pw:0<=F:=by lia
 have qT:(cutG B (some 1) none).length<=B.length:=by unfold cutG;grind
 have qS:(cutG B none (some (-1))).length<=B.length:=by unfold cutG;grind
 have h5:c % 5=0\/c % 5=1\/c % 5=2\/c % 5=3\/c % 5=4:=by lia
 rcases h5 with h |h |h |h |h
 ·simp only[h,show decide ((0:Int)=0)=true from rfl]
  walk_at "mo"
  rw[Mo.lim_ok (by simp only[qh,rF];lia)]
  exact⟨_,rfl,zpu_ (w:=(41+F,1)) (by simp) (λz=>by obtain⟨_,a,_⟩:=z;simp only at a;lia)⟩
 ·simp only[h,show decide ((1:Int)=0)=false from rfl,show decide ((1:Int)=1)=true from rfl]
  walk_at "mo"
  rw[Mo.lim_ok (by simp only[qh,rF];lia)]
  exact⟨_,rfl,zpu_ (w:=(1,37+F)) (by simp) (λz=>by obtain⟨_,_,_,a⟩:=z;simp only at a;lia)⟩
 ·simp only[h,show decide ((2:Int)=0)=false from rfl,show decide ((2:Int)=1)=false from rfl,show decide ((2:Int)=2)=true from rfl]
  walk_at "mo"
  exact⟨_,rfl,zpu_ (w:=(0-F,1)) (by simp) (λz=>by obtain⟨a,_⟩:=z;simp only at a;lia)⟩
 ·simp only[h,show decide ((3:Int)=0)=false from rfl,show decide ((3:Int)=1)=false from rfl,show decide ((3:Int)=2)=false from rfl,show decide ((3:Int)=3)=true from rfl]
  walk_at "mo"
  refine⟨_,rfl,zp0_ (λw hw=>?_) (λz=>?_)⟩
  ·simp only[qf,qQ,or_false]at hw
   rcases hw with rfl |rfl<;>(unfold okW;simp only;lia)
  ·have:=z.2
   simp[swp,lxP,ltI]at this
 ·simp only[h,show decide ((4:Int)=0)=false from rfl,show decide ((4:Int)=1)=false from rfl,show decide ((4:Int)=2)=false from rfl,show decide ((4:Int)=3)=false from rfl]
  walk_at "mo"
  rw[Mo.lim_ok (by simp only[qh,rF];lia)]
  refine⟨_,rfl,zp0_ (λw hw=>?_) (λz=>?_)⟩
  ·rcases qI.mp hw with hw |hw
   ·exact hB.1.2 w hw
   ·simp only[qf,qQ,or_false]at hw
    rcases hw with rfl |rfl<;>(unfold okW;simp only;lia)
  ·have:=z.1.1
   rw[rG]at this;have:=(ux.mp this).2.1;simp at this
section
variable {A:Ak}
theorem ze3_ (iz:OkN A.1)(hm:OkM A.1 A.2.2.1):zo_ A=.ok ():=by
 have key:∀ns:Jy,z6_ A=.ok ns->(ns=[A.1]\/∃n,OkN n/\n≠A.1/\ns=[A.1,n])->zo_ A=.ok ():=λns e dW=>by
  unfold zo_ z5_
  walk_at "mo"
  rw[e]
  walk_at "mo"
  rw[zaH_ (λx hx=>by
   have:z9_ x=.ok true:=by
    rcases dW with rfl |⟨n,hn,_,rfl⟩
    ·rw[pS.mp hx];exact zb1_ iz
    ·rcases qf.mp hx with rfl |hx
     ·exact zb1_ iz
     ·rw[pS.mp hx];exact zb1_ hn
   rw[this];rfl)]
  rcases dW with rfl |⟨n,hn,aF,rfl⟩
  ·walk_at "mo"
   rw[show atI [A.1] 0=some A.1 from rfl,show atI [A.1] (-1)=some A.1 from rfl]
   walk_at "mo"
   rfl
  ·walk_at "mo"
   rw[show atI [A.1,n] 0=some A.1 from rfl,show atI [A.1,n] (-1)=some n from rfl]
   walk_at "mo"
   rw[decide_eq_false (tH aF)];rfl
 clear iz;obtain⟨a,b,m,r⟩:=A;cases hm with
 |no=>exact key _ rfl (.inl rfl)
 |fi _=>exact key _ rfl (.inl rfl)
 |ma w hn aF _ _ _=>rcases w with rfl |rfl<;>exact key _ rfl (.inr ⟨_,hn,aF,rfl⟩)
theorem zir_ {sg:Int->Nat}(bL:∀c,sg c∈SG)(hl:A.2.1.length<=8)(aK:∀p∈A.2.1,OkK sg p):zS_ A=.ok ():=by
 unfold zS_ zaE_
 walk_at "mo"
 rw[zaH_ (λx hx=>by
  obtain⟨⟨a1,a2,a3⟩,ht⟩:=aK x hx;have bA:x.2.length=(x.1.2+1-x.1.1).toNat:=by rw[ht,l6,zT_]
  rw[Mo.lim_ok (by lia),Mo.okB,zhX_]
  walk_at "mo"
  rw[decide_eq_true (show(x.2.length:Int)=x.1.2-x.1.1+1 by lia),zsa_,zk4_ (by lia) (λc hc=>by rw[ht]at hc;obtain⟨i,_,rfl⟩:=qp.mp hc;exact bL i)]
  rfl)]
 obtain⟨row,e,l,hr⟩:=ziw_ hl aK;obtain⟨m,em⟩:=ziD_ row l hr;rw[zbm_,e]
 walk_at "mo"
 rw[em];rfl
theorem zrj_ {d0:List Nat}(l1:A.2.1.length<=8)(l2:A.2.2.2.1.length<=6)(hl:A.2.2.2.2.1.length<=4)(hm:OkM d0 A.2.2.1)(k:Int):zal_ A k=.ok (kp A k):=by
 have l3:((midF A.2.2.1).take 1).length<=1:=by rw[rp];lia
 unfold zal_ zbc_
 walk_at "mo"
 rw[zeb_ l1,zfT_ hm]
 walk_at "mo"
 rw[zgY_ (by decide),show(1:Int).toNat=1 from rfl,Mo.lim_ok (by simp only[nA,l6];lia),Mo.okB,Mo.lim_ok (by simp only[nA,l6];lia),Mo.okB]
 generalize hb:A.2.1.map (λx:Pk=>x.1)++(midF A.2.2.1).take 1++A.2.2.2.1=base
 have lb:base.length<=15:=by rw[<- hb];simp only[nA,l6];lia
 refine zaO_ (G:=λmm=>fnO (thenO mm _)=.ok (kp A k)) (λd (s:List Fl)=>s=base++d.flatMap (gk k)/\s.length<=15+3*d.length) ⟨by simp,by simp;lia⟩ (λd x s hx hs=>?_) (λs hs=>?_)
 ·obtain⟨r,hr⟩:=hx
  have hd:d.length<4:=by have:=congrArg rZ hr;rw[zbL_]at this;simp at this;lia
  have bQ:=hs.2;refine zfP_ (λs'=>s'=s++(if !decide (x.1=k)then[x.2.1]else[])/\s'.length<=s.length+1) ?a1 (λs' bw=>?_)
  case a1=>
   cases decide (x.1=k)with
   |true=>exact⟨_,rfl,by simp,by lia⟩
   |false=>
    show∃s',Mo.lim _ _=_/\_
    rw[Mo.lim_ok (by lia)]
    exact⟨_,rfl,rfl,by simp⟩
  refine zfP_ (λcC=>cC=s'++(if decide (x.1<=k)then[x.2.2.1,x.2.2.2.2]else[])/\cC.length<=s'.length+2) ?a2 (λcC fe=>⟨_,rfl,?_,?_⟩)
  case a2=>
   cases decide (x.1<=k)with
   |false=>exact⟨_,rfl,by simp,by lia⟩
   |true=>
    show∃s',Mo.lim _ _=_/\_
    rw[Mo.lim_ok (by have:=bw.2;simp;lia)]
    exact⟨_,rfl,rfl,by simp⟩
  ·rw[fe.1,bw.1,hs.1,tB,sj,tT,qC]
   unfold gk;simp only[rW]
  ·grind
 ·rw[hs.1]
  unfold kp;rw[hb];rfl
theorem zik_ (A:Ak)(B:Bool)(hb:zX_ A.2.2.2.2.2.2.2.2.1=.ok B):zG_ A=if(decide (0<=A.2.2.2.2.2.1) && decide (A.2.2.2.2.2.1<=3)) && decide (A.2.2.2.2.2.1<=(A.2.2.2.1.length:Int)) && (decide (1<=A.2.2.2.2.2.2.2.1) && decide (A.2.2.2.2.2.2.2.1<=12)) && B then .ok ()else .ex NA:=by
 unfold zG_ zat_
 walk_at "mo"
 rw[show∀n,zae_ n=.ok true from λ_=>rfl,hb]
 walk_at "mo"
 rw[show∀n,zae_ n=.ok true from λ_=>rfl]
 walk_at "mo"
 simp only[zml_];cases decide (0<=A.2.2.2.2.2.1)<;>cases decide (A.2.2.2.2.2.1<=3)<;>cases decide (A.2.2.2.2.2.1<=(A.2.2.2.1.length:Int))<;>cases decide (1<=A.2.2.2.2.2.2.2.1)<;>cases decide (A.2.2.2.2.2.2.2.1<=12)<;>cases B<;>rfl
theorem ref7 {d:List Nat}{sg:Int->Nat}(bL:∀c,sg c∈SG)(h1:A.2.1.length<=8)(h2:A.2.2.2.1.length<=6)(h3:A.2.2.2.2.1.length<=4)(h4:A.2.2.2.2.2.2.1.length<=4)(hn:OkN A.1)(hm:OkM A.1 A.2.2.1)(aK:∀p∈A.2.1,OkK sg p)(ho:∀f∈A.2.2.2.1,OkF f)(hs:∀f∈A.2.2.2.2.2.2.1,OkF f)(hw:∀w∈A.2.2.2.2.1,OkF w.1/\OkF w.2.1/\OkF w.2.2.2)
  (h:fnU ((zG_ A).bind λ_=>(z7_ A).bind λ_=>Mq (Out.nx ()))=.ex NA):Chk A:=by
 refine ref5 (ze5_ _) (.inl (zef_ hm)) (.inl (ze3_ hn hm)) (zmW_ h1 h2 h3 h4 (zfT_ hm) zdy_) ?_ ?_
 ·rw[rq]
  intro f hf;rw[ziC_];simp only[qI,qp,sD,qf,qQ,or_false]at hf;rcases hf with(((⟨p,hp,rfl⟩|hf)|hf)|hf)|⟨w,hw',rfl |rfl |rfl⟩
  ·exact(aK p hp).1
  ·exact zkD_ hm f hf
  ·exact ho f hf
  ·exact hs f hf
  ·exact(hw w hw').1
  ·exact(hw w hw').2.1
  ·exact(hw w hw').2.2
 ·rw[zir_ bL h1 aK,ziE_ hm]
  exact h
theorem zmd_ {A:Ak}(ok:OkA A):∀w∈A.2.2.2.2.1,OkF w.1/\OkF w.2.1/\OkF w.2.2.2:=λw hw=>⟨(ok.wk w hw).1,(ok.wk w hw).2.1,(ok.wk w hw).2.2.1⟩
end
theorem zmC_ {α:Type}{xs:List α}{b:Option Int}{x:α}(h:x∈cutG xs none b):x∈xs:=by
 unfold cutG at h;exact List.mem_of_mem_drop (List.mem_of_mem_take h)
theorem zsn_ {α:Type}(xs:List α):(cutG xs none (some (-1))).length=xs.length-1:=by
 unfold cutG HT.sIx;cases xs with
 |nil=>rfl
 |cons x xs=>simp;lia
def BadW (V:List Wk):Prop:=4<V.length\/V.length<=4/\∃w∈V,fldB w.1=false\/fldB w.2.1=false\/fldB w.2.2.2=false\/w.2.2.1∉WWo/\∀w∈V,OkF w.1/\OkF w.2.1/\OkF w.2.2.2
theorem zoh_ {W:List Wk}(hl:W.length<=4)(hw:∀w∈W,OkW w)(c:Int):∃V,zbF_ W c=.ok V/\BadW V:=by
 unfold zbF_ zbD_
 walk_at "mo"
 refine ziH_ (Q:=λr=>∃V,r=.ok V/\BadW V) (F:=λst=>∃w,st=iW w/\OkW w) ?_ (λst aM=>?_)
 ·by_cases h0:0<(W.length:Int)
  ·rw[decide_eq_true h0]
   walk_at "mo"
   rw[Mo.grd_ok h0]
   walk_at "mo"
   have a1:=qz (c / 5) (b:=(W.length:Int)) (by lia)
   have a2:=qt (c / 5) h0;obtain⟨w,e,hm⟩:=zbZ_ (xs:=W) (k:=c / 5 % (W.length:Int)) (by lia) a2
   rw[e];exact⟨_,rfl,w,rfl,hw w hm⟩
  ·rw[decide_eq_false h0]
   exact⟨_,rfl,((36,36),(1,1),[112,108,117,115],2,2),rfl,by unfold OkW OkF WWo;decide⟩
 obtain⟨w,rfl,hw1,hw2,hw3,hw4⟩:=aM;have o0:∀f:Fl,oT (oC (Dy.int?) (o1 Dy.int?)) (iF f)=some f:=λf=>rfl
 obtain⟨f,ef,hf⟩:∃f,((Mo.opt (Dy.ix (iW w) (c % 2*3))).bind λa=>Mo.opt (oFF a))=.ok f/\OkF f:=by
  have h2:c % 2=0\/c % 2=1:=by lia
  rcases h2 with h |h
  ·rw[h];exact⟨w.1,rfl,hw1⟩
  ·rw[h];exact⟨w.2.2.2,rfl,hw3⟩
 obtain⟨x,ex,hx⟩:=zap_ hf (c / 5);rw[zoH_ (by decide) (by decide)]
 walk_at "mo"
 rw[ef]
 walk_at "mo"
 rw[ex,show Dy.ix (iW w) 0=some (iF w.1)from rfl,show Dy.ix (iW w) 1=some (iF w.2.1)from rfl,show Dy.ix (iW w) 2=some (.str w.2.2.1)from rfl,show Dy.ix (iW w) 3=some (iF w.2.2.2)from rfl]
 walk_at "mo"
 rw[o0,o0,o0,show Dy.str? (.str w.2.2.1)=some w.2.2.1 from rfl]
 walk_at "mo"
 obtain⟨z,ez,hz⟩:=zbZ_ (xs:=([[],[80,108,117,115],[111,118,101,114],[116,105,109,101,115,32],[97,100,100]]:Jy)) (k:=c / 5 % 5) (by show -(5:Int)<=_;lia) (by show c / 5 % 5<5;lia)
 rw[ez]
 walk_at "mo"
 rw[Mo.lim_ok (by show 3+1<=100000;decide)]
 walk_at "mo"
 have fS:z∉WWo:=by
  have:∀z∈([[],[80,108,117,115],[111,118,101,114],[116,105,109,101,115,32],[97,100,100]]:Jy),z∉WWo:=by unfold WWo;decide
  exact this z hz
 by_cases h4:c % 5=4
 ·rw[decide_eq_true h4]
  walk_at "mo"
  rw[Mo.grd_ok (by decide),Mo.okB]
  rw[zM_ (f:=λx:Int=>cond1 (Mq true) (Mq ((20+x,20+x),((1:Int),(2:Int)),([112,108,117,115]:Jx),((3:Int),(3:Int))))) (g:=λx:Int=>(((20+x,20+x),(1,2),[112,108,117,115],(3,3)):Wk)) (λx hx=>rfl) (by decide)]
  exact⟨_,rfl,.inl (by rw[qA,l6,zT_];decide)⟩
 ·rw[decide_eq_false h4]
  walk_at "mo"
  have cl:=zsn_ W;have hs:=λy (hy:y∈cutG W none (some (-1)))=>hw y (zmC_ hy)
  generalize cutG W none (some (-1))=Z at *
  have key:∀y:Wk,(fldB y.1=false\/fldB y.2.1=false\/fldB y.2.2.2=false\/y.2.2.1∉WWo/\OkF y.1/\OkF y.2.1/\OkF y.2.2.2)->BadW (Z++[y]):=λy hy=>by
   refine .inr ⟨by simp;lia,y,by simp,?_⟩
   rcases hy with a |a |a |⟨a,b⟩
   ·exact .inl a
   ·exact .inr (.inl a)
   ·exact .inr (.inr (.inl a))
   ·refine .inr (.inr (.inr ⟨a,λv hv=>?_⟩))
    rcases qI.mp hv with hv |hv
    ·exact⟨(hs v hv).1,(hs v hv).2.1,(hs v hv).2.2.1⟩
    ·rw[pS.mp hv];exact b
  obtain⟨y,ey,hy⟩:=zbZ_ (xs:=[(x,w.2.1,w.2.2.1,w.2.2.2),(w.1,x,w.2.2.1,w.2.2.2),(w.1,w.2.1,w.2.2.1,x)]++[(w.1,w.2.1,z,w.2.2.2)]) (k:=c % 5) (by show -(4:Int)<=_;lia) (by show c % 5<4;lia)
  rw[ey]
  walk_at "mo"
  rw[Mo.lim_ok (by simp;lia)]
  refine⟨_,rfl,key y ?_⟩;grind
theorem znI_ {A:Ak}{d:List Nat}(h1:A.2.1.length<=8)(h2:A.2.2.2.1.length<=6)(h3:A.2.2.2.2.1.length<=4)(hm:OkM d A.2.2.1){w:Wk}(hw:w∈A.2.2.2.2.1)(h:w.2.2.1∉WWo):z7_ A=.ex NA:=by
 unfold z7_ zcx_
 walk_at "mo"
 have e1:∀q∈enumL A.2.2.2.2.1,(((((([[112,108,117,115],[108,101,115,115],[116,105,109,101,115]]:Jy).any λy=>decide (y=q.2.2.2.1))))))=decide (q.2.2.2.1∈WWo):=λq _=>by
  rw[sR,wU,decide_eq_true_iff];unfold WWo;grind
 rw[zex_ (p:=λq:Int×Wk=>decide (q.2.2.2.1∈WWo) && (kp A q.1).all λf=>!share q.2.1 f) (x:=NA) (λq hq=>by
  rw[e1 q hq,zml_];cases decide (q.2.2.2.1∈WWo)with
  |false=>rfl
  |true=>
   walk_at "mo"
   rw[zrj_ h1 h2 h3 hm]
   walk_at "mo"
   rw[zex_ (p:=λf:Fl=>!share q.2.1 f) (x:=NA) (λf hf=>by
    rw[zkQ_]
    walk_at "mo"
    rw[zml_];cases share q.2.1 f<;>rfl)]
   cases(kp A q.1).all λf=>!share q.2.1 f<;>rfl)]
 rw[show((enumL A.2.2.2.2.1).all λq:Int×Wk=>decide (q.2.2.2.1∈WWo) && (kp A q.1).all λf=>!share q.2.1 f)=false by
  rw[tO];obtain⟨q,hq,rfl⟩:=zke_ hw;exact⟨q,hq,by rw[decide_eq_false h];simp⟩]
 rfl
abbrev Mu:=(List Nat×Fl) ⊕ (List Nat×List Nat×Fl×Fl)
inductive BadM (n:Jx):Mu->Prop
 |same {w:List Nat}{f:Fl}:w=WMa\/w=WWi->BadM n (.inr (w,n,f,f))
 |name {w x:List Nat}{f:Fl}:w=WMa\/w=WWi->z9_ x=.ok false->BadM n (.inr (w,x,f,f))
 |wide {w:List Nat}{f:Fl}:w=WMa\/w=WWi->1<=f.1->f.1<=f.2->f.2<=24->BadM n (.inr (w,n++[98],f,(f.1,f.2+1)))
 |mate {x:List Nat}{f:Fl}:BadM n (.inr ([109,97,116,101],x,f,f))
 |fl {w x:List Nat}{f g:Fl}:w=WMa\/w=WWi->OkN x->x≠n->fldB f=false\/fldB g=false->BadM n (.inr (w,x,f,g))
 |fi {f:Fl}:fldB f=false->BadM n (.inl (WFi,f))
 |firs {f:Fl}:BadM n (.inl ([102,105,114,115,116,115],f))
theorem zrF_ {A:Ak}(h:OkN A.1)(c:Int):∃V,zaT_ (partsL A) c=.ok V/\BadM A.1 V:=by
 obtain⟨f,ef,f1,f2,f3,_⟩:=zdW_ (c / 8) (h:=24) (w:=6) (by decide) (by decide)
 have fo:OkF f:=⟨f1,f2,by lia⟩
 obtain⟨x,ex,hx,_⟩:=zkI_ h (c / 8);obtain⟨o,eo,ho,aF⟩:=zis_ h 0;obtain⟨g,eg,hg⟩:=zap_ fo (c / 8);obtain⟨w,ew,hw⟩:=zbZ_ (xs:=([[109,97,116,101,115],[119,105,116,104,111,117,116]]:Jy)) (k:=c / 3 % 2) (by show -(2:Int)<=_;lia) (by show c / 3 % 2<2;lia)
 have hw:w=WMa\/w=WWi:=by simpa [WMa,WWi]using hw
 have hl:=h.2.1;unfold zaT_ zaR_
 walk_at "mo"
 rw[show atI (partsL A) 0=some (Dy.str A.1)from rfl]
 walk_at "mo"
 rw[show Dy.str? (Dy.str A.1)=some A.1 from rfl]
 walk_at "mo"
 rw[ef,ew,ex,eo]
 walk_at "mo"
 rw[eg]
 walk_at "mo"
 rw[Mo.lim_ok (by simp only[qh,rF];lia)]
 walk_at "mo"
 rw[Mo.lim_ok (by show 2+2<=100000;decide)]
 walk_at "mo"
 rw[Mo.lim_ok (by show 4+1<=100000;decide)]
 walk_at "mo"
 rw[Mo.lim_ok (by show 5+1<=100000;decide)]
 walk_at "mo"
 rw[Mo.lim_ok (by show 6+2<=100000;decide)]
 walk_at "mo"
 obtain⟨V,eV,hV⟩:=zbZ_ (xs:=((([uI (w,A.1,f,f),uI (w,x,f,f)]++[uI (w,A.1++[98],f,f.1,f.2+1),uI ([109,97,116,101],o,f,f)])++[uI (w,o,g,f)])++[uI (w,o,f,g)])++([vA ([102,105,114,115,116],g),vA ([102,105,114,115,116,115],f)]:List Mu)) (k:=c % 8) (by show -(8:Int)<=_;lia) (by show c % 8<8;lia)
 rw[eV];refine⟨V,rfl,?_⟩;simp only[tS,qA,qf,qQ,or_false]at hV;rcases hV with rfl |rfl |rfl |rfl |rfl |rfl |rfl |rfl
 ·exact .same hw
 ·exact .name hw hx
 ·exact .wide hw f1 f2 f3
 ·exact .mate
 ·exact .fl hw ho aF (.inl hg)
 ·exact .fl hw ho aF (.inr hg)
 ·exact .fi hg
 ·exact .firs
theorem zmj_ {A:Ak}{d:List Nat}(e:z6_ A=.ok [d])(h1:OkN d):zo_ A=.ok ():=by
 unfold zo_ z5_
 walk_at "mo"
 rw[e]
 walk_at "mo"
 rw[zaH_ (λx hx=>by rw[pS.mp hx,zb1_ h1];rfl)]
 walk_at "mo"
 rw[show atI [d] 0=some d from rfl,show atI [d] (-1)=some d from rfl]
 walk_at "mo"
 rfl
theorem zlQ_ {A:Ak}{f q:Fl}(e:z0_ A=.ok [f,q])(h:f.2-f.1≠q.2-q.1):zy_ A=.ex NA:=by
 unfold zy_ zP_
 walk_at "mo"
 rw[e]
 walk_at "mo"
 show fnU (((Mb (Mq (decide (f.2-f.1+1=q.2-q.1+1),_)) λc=>zba_ c.1 c.2)).bind λ_=>Mq (.nx ()))=_
 rw[decide_eq_false (by lia)]
 rfl
theorem zqY_ {n:List Nat}{P:List Pk}{V:Mu}{O:List Fl}{W:List Wk}{b g:Int}{S B:List Fl}{u:Unit}{m:Md}(hV:BadM n V)(ok:OkA (n,P,m,O,W,b,S,g,B,u)):Chk (n,P,some V,O,W,b,S,g,B,u):=by
 have l1:=ze5_ (n,P,some V,O,W,b,S,g,B,u);cases hV with
 | @same w f hw=>
  have e:z6_ (n,P,some (.inr (w,n,f,f)),O,W,b,S,g,B,u)=.ok [n,n]:=by rcases hw with rfl |rfl<;>rfl
  refine ref3 l1 (.inl (by rcases hw with rfl |rfl<;>rfl)) ?_
  rw[zf4_ e ok.nm ok.nm,decide_eq_true rfl];rfl
 | @name w x f hw hx=>
  have e:z6_ (n,P,some (.inr (w,x,f,f)),O,W,b,S,g,B,u)=.ok [n,x]:=by rcases hw with rfl |rfl<;>rfl
  refine ref3 l1 (.inl (by rcases hw with rfl |rfl<;>rfl)) (zh1_ e (λy hy=>?_) ?_)
  ·rcases qf.mp hy with rfl |hy
   ·exact⟨_,zb1_ ok.nm⟩
   ·rw[pS.mp hy];exact⟨_,hx⟩
  ·rw[rL,rL,show nmB x=false by unfold nmB;rw[hx]]
   simp
 |mate=>exact ref2 l1 rfl
 |firs=>exact ref2 l1 rfl
 | @fi f hf=>
  refine ref4 l1 (.inl rfl) (.inl ?_) (zmW_ (mf:=[f]) ok.pl ok.ol ok.wl ok.sl rfl (by simp)) (zj9_ (f:=f) (by simp) hf)
  exact zmj_ rfl ok.nm
 | @fl w x f q hw hn aF hf=>
  have e:z6_ (n,P,some (.inr (w,x,f,q)),O,W,b,S,g,B,u)=.ok [n,x]:=by rcases hw with rfl |rfl<;>rfl
  have e2:z0_ (n,P,some (.inr (w,x,f,q)),O,W,b,S,g,B,u)=.ok [f,q]:=by rcases hw with rfl |rfl<;>rfl
  have e3:zo_ (n,P,some (.inr (w,x,f,q)),O,W,b,S,g,B,u)=.ok ():=by rw[zf4_ e ok.nm hn,decide_eq_false (tH aF)];rfl
  have k:=λy (hy:y∈[f,q]) (h:fldB y=false)=>ref4 l1 (.inl (by rcases hw with rfl |rfl<;>rfl)) (.inl e3) (zmW_ (mf:=[f,q]) ok.pl ok.ol ok.wl ok.sl e2 (by simp)) (zj9_ (f:=y) (sf _ (sf _ (sf _ (p5 _ hy)))) h)
  rcases hf with hf |hf
  ·exact k f (by simp) hf
  ·exact k q (by simp) hf
 | @wide w f hw f1 f2 f3=>
  have e:z6_ (n,P,some (.inr (w,n++[98],f,(f.1,f.2+1))),O,W,b,S,g,B,u)=.ok [n,n++[98]]:=by rcases hw with rfl |rfl<;>rfl
  have e1:OR (zx_ (n,P,some (.inr (w,n++[98],f,(f.1,f.2+1))),O,W,b,S,g,B,u)):=.inl (by rcases hw with rfl |rfl<;>rfl)
  have e2:z0_ (n,P,some (.inr (w,n++[98],f,(f.1,f.2+1))),O,W,b,S,g,B,u)=.ok [f,(f.1,f.2+1)]:=by rcases hw with rfl |rfl<;>rfl
  have oK:=ok.nm;have hn:OkN n:=oK;by_cases hl:n.length=8
  ·refine ref3 l1 e1 (zh1_ e (λy hy=>?_) ?_)
   ·rcases qf.mp hy with rfl |hy
    ·exact⟨_,zb1_ hn⟩
    ·rw[pS.mp hy];exact⟨_,zgW_ (by simp;lia) (.inr (.inl (by simp;lia)))⟩
   ·rw[rL,rL,show nmB (n++[98])=false by unfold nmB;rw[zgW_ (by simp;lia) (.inr (.inl (by simp;lia)))]]
    simp
  ·have hb:OkN (n++[98]):=by
    obtain⟨a,b,d⟩:=hn;refine⟨by simp,by simp;lia,λc hc=>?_⟩
    grind
   have e3:zo_ (n,P,some (.inr (w,n++[98],f,(f.1,f.2+1))),O,W,b,S,g,B,u)=.ok ():=by
    rw[zf4_ e hn hb,decide_eq_false (by intro z;have:=congrArg rZ z;simp at this)];rfl
   obtain⟨eC,hsg',aK⟩:=ok.pk;refine ref5 l1 e1 (.inl e3) (zmW_ (mf:=[f,(f.1,f.2+1)]) ok.pl ok.ol ok.wl ok.sl e2 (by simp)) ?_ ?_
   ·rw[rq]
    intro y hy;rw[ziC_];simp only[qI,qp,sD,qf,qQ,or_false]at hy;rcases hy with(((⟨p,hp,rfl⟩|rfl |rfl)|hy)|hy)|⟨v,hv,rfl |rfl |rfl⟩
    ·exact(aK p hp).1
    ·exact⟨f1,f2,by lia⟩
    ·exact⟨f1,by show f.1<=f.2+1;lia,by show f.2+1<=36;lia⟩
    ·exact ok.od y hy
    ·exact ok.su y hy
    ·exact(zmd_ ok v hv).1
    ·exact(zmd_ ok v hv).2.1
    ·exact(zmd_ ok v hv).2.2
   ·exact zcp_ (.inl (zir_ (A:=(n,P,some (.inr (w,n++[98],f,(f.1,f.2+1))),O,W,b,S,g,B,u)) hsg' ok.pl aK)) (zdm_ (zlQ_ e2 (by show f.2-f.1≠f.2+1-f.1;lia)))
abbrev Dn:=List (Int×List Nat)
noncomputable def stepP:Dn->Pas->Mo (Out (Option Dn) Dn Dn):=λbz bK=>thenO (if decide (pTag bK=[112,105,99,107])=true then(Mo.opt bK.snd).bind λd=>Mo.lim (bz.length+1) ((Mo.opt bK.snd).bind λc=>if(!decide ((sdA bz bK.fst d).fst=c))=true then Mq (Out.rt none)else Mq (Out.nx (sdA bz bK.fst d).snd))else Mq (Out.nx bz)) λx8=>Mq (Out.nx x8)
theorem zhm_ {s:Dn}{k:Int}{a:Nat}(hl:s.length+1<=1000):stepP s (k,some [a])=match getA s k with |some v=>if v=[a]then .ok (.nx s)else .ok (.rt none)|none=>.ok (.nx (putA s k [a])):=by
 unfold stepP;rw[show decide (pTag (k,some [a])=[112,105,99,107])=true from rfl]
 walk_at "mo"
 rw[Mo.lim_ok (by lia)]
 unfold sdA;cases getA s k with
 |none=>simp only[decide_true,wa,uk,if_false];rfl
 |some v=>
  by_cases h:v=[a]
  ·rw[h];simp only[decide_true,wa,uk,if_false,if_true];rfl
  ·simp only[if_neg h,decide_eq_false h,Bool.not_false,if_true];rfl
theorem pn {B:Type}{k:Int}:∀(xs:List Pas) (s:Dn),(∀q∈xs,∃a,q.2=some [a])->s.length+xs.length<=900->getA s k=some [65]->forO (B:=B) stepP (xs++[(k,some [66])]) s=.ok (.rt none)
 |[],s,_,hl,hk=>by
  rw[qA,za7_,zhm_ (by simp at hl;lia),hk]
  rfl
 |q::xs,s,hq,hl,hk=>by
  obtain⟨c,t⟩:=q;obtain⟨a,rfl⟩:∃a,t=some [a]:=hq (c,t) nu;simp only[qh]at hl;have aY:=λy hy=>hq y (qa _ hy)
  rw[tS,za7_,zhm_ (by lia)]
  cases e:getA s c with
  |some v=>
   by_cases h:v=[a]
   ·simp only[if_pos h];exact pn xs s aY (by lia) hk
   ·simp only[if_neg h];rfl
  |none=>
   refine pn xs _ aY (by have:=zfL_ (m:=s) (k:=c) (d:=[a]);lia) ?_
   rw[zjS_,if_neg (λz=>by rw[z,hk]at e;cases e)]
   exact hk
theorem pn0 {B:Type}{k:Int}:∀(xs:List Pas) (s:Dn),(∀q∈xs,∃a,q.2=some [a])->s.length+xs.length<=900->(k,some [65])∈xs->forO (B:=B) stepP (xs++[(k,some [66])]) s=.ok (.rt none)
 |[],s,_,hl,hk=>by cases hk
 |q::xs,s,hq,hl,hk=>by
  obtain⟨c,t⟩:=q;obtain⟨a,rfl⟩:∃a,t=some [a]:=hq (c,t) nu;simp only[qh]at hl;have aY:=λy hy=>hq y (qa _ hy)
  have hp:=zfL_ (m:=s) (k:=c) (d:=[a]);rw[tS,za7_,zhm_ (by lia)]
  rcases qf.mp hk with z |hk
  ·cases z
   cases e:getA s k with
   |some v=>
    by_cases h:v=[65]
    ·simp only[if_pos h];exact pn xs s aY (by lia) (h ▸ e)
    ·simp only[if_neg h];rfl
   |none=>exact pn xs _ aY (by lia) (by rw[zjS_,if_pos rfl])
  ·cases e:getA s c with
   |some v=>
    by_cases h:v=[a]
    ·simp only[if_pos h];exact pn0 xs s aY (by lia) hk
    ·simp only[if_neg h];rfl
   |none=>exact pn0 xs _ aY (by lia) hk
theorem zmh_ {xs:List Pas}{k:Int}(hq:∀q∈xs,∃a,q.2=some [a])(hl:xs.length<=900)(hk:(k,some [65])∈xs):zU_ (xs++[(k,some [66])])=.ok none:=by
 unfold zU_ zaM_
 walk_at "mo"
 show fnO (thenO (forO stepP (xs++[(k,some [66])]) []) _)=_
 rw[pn0 xs [] hq (by simpa using hl) hk]
 rfl
def prw (p:Pk):List Pas:=((rngI p.1.1 (p.1.2+1-p.1.1).toNat).zip (p.2.map λc=>[c])).map λx=>(x.1,some x.2)
theorem zmQ_ {p:Pk}(h:OkF p.1):(prw p).length<=36:=by
 obtain⟨a,b,d⟩:=h;unfold prw;rw[l6,sS,zT_];lia
theorem zoL_ {A:Ak}(hl:A.2.1.length<=8)(aK:∀p∈A.2.1,OkF p.1):zak_ A=.ok (A.2.1.flatMap prw):=by
 unfold zak_ zbd_
 walk_at "mo"
 refine zaO_ (G:=λmm=>fnO (thenO mm _)=.ok (A.2.1.flatMap prw)) (λd (s:List Pas)=>s=d.flatMap prw/\s.length<=36*d.length) ⟨rfl,rB _⟩ (λd x s hx hs=>?_) (λs hs=>by rw[hs.1];rfl)
 obtain⟨r,hr⟩:=hx;have hd:d.length<8:=by have:=congrArg rZ hr;simp at this;lia
 have ho:=aK x (by rw[hr];simp)
 have hz:=zmQ_ ho;obtain⟨a1,a2,a3⟩:=ho;have ec:za0_ x.1=.ok (rngI x.1.1 (x.1.2+1-x.1.1).toNat):=by
  unfold za0_ zbJ_
  walk_at "mo"
  rw[Mo.grd_ok ⟨by lia,by lia,by lia,by lia⟩]
  rfl
 rw[ec]
 walk_at "mo"
 unfold prw at hz;rw[l6]at hz;rw[zM_ (f:=λdk:Int×List Nat=>cond1 (Mq true) (Mq (dk.1,some dk.2))) (g:=λx:Int×List Nat=>((x.1,some x.2):Pas)) (λx hx=>rfl) (by simp only[rF];lia)]
 rw[Mo.okB,Mo.lim_ok (by have:=hs.2;rw[qA,l6];lia)]
 refine⟨_,rfl,?_,by have:=hs.2;simp only[qA,nA,l6,qE];lia⟩
 rw[hs.1,tB,sj,tT,qC,qA];rfl
def sgB (l:Jx):Bool:=(([]:List Bool)++(l.map λc=>[c]).map λx=>inS x SG).all id
theorem zrL_ {l:List Nat}(hl:l.length<=100):zbz_ l=.ok (sgB l):=by
 unfold zbz_ zcC_
 walk_at "mo"
 rw[zM_ (f:=λcY=>cond1 (Mq true) (Mq (inS cY SG))) (g:=λx=>inS x SG) (λx hx=>rfl) (by simp;lia)]
 rfl
theorem zsE_ {l:List Nat}{c:Nat}(hc:c∈l)(h:inS [c] SG=false):sgB l=false:=by
 unfold sgB;rw[qA,tO];exact⟨inS [c] SG,qp.mpr ⟨[c],qp.mpr ⟨c,hc,rfl⟩,rfl⟩,by rw[h];decide⟩
def pkB (p:Pk):Bool:=decide ((p.2.length:Int)=p.1.2-p.1.1+1) && sgB p.2
theorem cpk_b {A:Ak}(hl:∀p∈A.2.1,p.2.length<=100)(h:A.2.1.all pkB=false\/∃row,zak_ A=.ok row/\zU_ row=.ok none):zS_ A=.ex NA:=by
 unfold zS_ zaE_
 walk_at "mo"
 rw[zex_ (p:=pkB) (x:=NA) (λp hp=>by
  have:=hl p hp;rw[Mo.lim_ok (by lia),Mo.okB,zhX_]
  walk_at "mo"
  rw[zrL_ (hl p hp),zml_];unfold pkB;cases decide ((p.2.length:Int)=p.1.2-p.1.1+1)with
  |false=>rfl
  |true=>
   walk_at "mo"
   rw[zml_];cases sgB p.2<;>rfl)]
 rcases h with h |⟨row,e1,e2⟩
 ·rw[h]
  rfl
 ·cases A.2.1.all pkB with
  |false=>rfl
  |true=>
   walk_at "mo"
   rw[e1]
   walk_at "mo"
   rw[e2];rfl
theorem znT_ (a:Nat)(n:Int):repL [a] n=nE n.toNat a:=by
 unfold repL;simp
inductive BadP:List Pk->Prop
 |one {f:Fl}{t:List Nat}:OkF f->t.length<=10->pkB (f,t)=false->BadP [(f,t)]
 |two {f:Fl}:OkF f->f.2-f.1<5->BadP [(f,nE (f.2-f.1+1).toNat 65),((f.2,f.2),[66])]
theorem znE_ (c:Int):∃V,zbR_ c=.ok V/\BadP V:=by
 obtain⟨f,ef,f1,f2,f3,f4⟩:=zdW_ (c / 3) (h:=36) (w:=5) (by decide) (by decide)
 have fo:OkF f:=⟨f1,f2,f3⟩;unfold zbR_ zbK_
 walk_at "mo"
 rw[ef]
 walk_at "mo"
 have G:∀(a:Nat) (k:Int),0<=k->k<=10->CRep [a].length k:=λa k h0 h1=>⟨h0,by lia,by simp,by simp;lia⟩
 rw[Mo.grd_ok (G 65 _ (by lia) (by lia)),Mo.grd_ok (G 65 _ (by lia) (by lia)),Mo.grd_ok (G 45 _ (by lia) (by lia)),Mo.grd_ok (G 65 _ (by lia) (by lia))]
 simp only[znT_]
 walk_at "mo"
 rw[Mo.lim_ok (by simp;lia)]
 walk_at "mo"
 rw[Mo.lim_ok (by simp;lia)]
 walk_at "mo"
 by_cases h6:c % 7=6
 ·rw[decide_eq_true h6]
  walk_at "mo"
  exact⟨_,rfl,.two fo f4⟩
 ·rw[decide_eq_false h6]
  walk_at "mo"
  obtain⟨t,et,ht⟩:=zbZ_ (xs:=[nE (f.2-f.1+1-1).toNat 65,nE (f.2-f.1+1+1).toNat 65,[97]++nE (f.2-f.1+1-1).toNat 65,nE (f.2-f.1+1-1).toNat 65++[95],nE (f.2-f.1+1).toNat 45,[]]) (k:=c % 7) (by show -(6:Int)<=_;lia) (by show c % 7<6;lia)
  rw[et];refine⟨_,rfl,?_⟩;simp only[qf,qQ,or_false]at ht;have L:∀t:List Nat,(t.length:Int)≠f.2-f.1+1->pkB (f,t)=false:=λt h=>by unfold pkB;rw[decide_eq_false h];rfl
  have Sg:∀(t:Jx) (c:Nat),c∈t->inS [c] SG=false->pkB (f,t)=false:=λt c h1 h2=>by unfold pkB;rw[zsE_ h1 h2,ve]
  rcases ht with rfl |rfl |rfl |rfl |rfl |rfl
  ·exact .one fo (by simp;lia) (L _ (by simp;lia))
  ·exact .one fo (by simp;lia) (L _ (by simp;lia))
  ·exact .one fo (by simp;lia) (Sg _ 97 (by simp) (by decide))
  ·exact .one fo (by simp;lia) (Sg _ 95 (by simp) (by decide))
  ·exact .one fo (by simp;lia) (Sg _ 45 (by simp;lia) (by decide))
  ·exact .one fo (by simp) (L _ (by simp;lia))
theorem zo9_ {p:Pk}:∀q∈prw p,∃a,q.2=some [a]:=λq hq=>by
 unfold prw at hq;obtain⟨x,hx,rfl⟩:=qp.mp hq;obtain⟨c,_,e⟩:=qp.mp (uh hx).2;exact⟨c,by rw[<- e]⟩
theorem zkF_:∀{Z:List Pk},(∀p∈Z,OkF p.1)->(Z.flatMap prw).length<=36*Z.length
 |[],_=>by simp
 |p::Z,h=>by
  have h1:=zmQ_ (h p nu);have h2:=zkF_ λy hy=>h y (qa _ hy)
  rw[sj,nA,qh];lia
theorem znU_ {f:Fl}(h:OkF f):(f.2,some [65])∈prw (f,nE (f.2-f.1+1).toNat 65):=by
 obtain⟨a,b,d⟩:=h;unfold prw;simp only[];refine qp.mpr ⟨(f.2,[65]),?_,rfl⟩;rw[List.map_replicate];have e:(f.2+1-f.1).toNat=(f.2-f.1).toNat+1:=by lia
 refine uQ.mpr ⟨(f.2-f.1).toNat,by rw[sS,zT_,vM];lia,?_⟩
 rw[List.getElem_zip,List.getElem_replicate];unfold rngI;rw[vz,um];congr 1;lia
theorem zn1_ {n:List Nat}{P Z V:List Pk}{m:Md}{O:List Fl}{W:List Wk}{b g:Int}{S B:List Fl}{u:Unit}(hV:BadP V)(hZ:Z.length<=3)(hs:∀p∈Z,p∈P)(ok:OkA (n,P,m,O,W,b,S,g,B,u)):Chk (n,Z++V,m,O,W,b,S,g,B,u):=by
 obtain⟨eC,hsg',aK⟩:=ok.pk;have o_:∀p∈Z,OkF p.1/\p.2.length<=100:=λp hp=>by
  obtain⟨⟨a,b,d⟩,e⟩:=aK p (hs p hp);exact⟨⟨a,b,d⟩,by rw[e,l6,zT_];lia⟩
 have mw:V.length<=2/\∀p∈V,OkF p.1/\p.2.length<=100:=by
  cases hV with
  |one ho hl _=>exact⟨by simp,λp hp=>by rw[pS.mp hp];exact⟨ho,by simp only;lia⟩⟩
  | @two f ho hw=>
   refine⟨by simp,λp hp=>?_⟩
   obtain⟨a,b,d⟩:=ho;rcases qf.mp hp with rfl |hp
   ·exact⟨⟨a,b,d⟩,by simp;lia⟩
   ·rw[pS.mp hp];exact⟨⟨by simp only;lia,by simp,d⟩,by simp⟩
 have hA:∀p∈Z++V,OkF p.1/\p.2.length<=100:=λp hp=>by
  rcases qI.mp hp with hp |hp
  ·exact o_ p hp
  ·exact mw.2 p hp
 have hl:(Z++V).length<=8:=by have:=mw.1;rw[nA];lia
 refine ref5 (ze5_ _) (.inl (zef_ ok.md)) (.inl (ze3_ ok.nm ok.md)) (zmW_ hl ok.ol ok.wl ok.sl (zfT_ ok.md) zdy_) ?_ (zdm_ (cpk_b (A:=(n,Z++V,m,O,W,b,S,g,B,u)) (λp hp=>(hA p hp).2) ?_))
 ·rw[rq]
  intro f hf;rw[ziC_];simp only[qI,qp,sD,qf,qQ,or_false]at hf;rcases hf with(((⟨p,hp,rfl⟩|hf)|hf)|hf)|⟨w,hw',rfl |rfl |rfl⟩
  ·exact(hA p (qI.mpr hp)).1
  ·exact zkD_ ok.md f hf
  ·exact ok.od f hf
  ·exact ok.su f hf
  ·exact(zmd_ ok w hw').1
  ·exact(zmd_ ok w hw').2.1
  ·exact(zmd_ ok w hw').2.2
 ·cases hV with
  | @one f t ho _ hb=>
   grind
  | @two f ho hw=>
   refine .inr ⟨_,zoL_ hl λp hp=>(hA p hp).1,?_⟩
   show zU_ ((Z++[(f,nE (f.2-f.1+1).toNat 65),((f.2,f.2),[66])]).flatMap prw)=_
   have e:(Z++[(f,nE (f.2-f.1+1).toNat 65),((f.2,f.2),[66])]).flatMap prw=(Z++[(f,nE (f.2-f.1+1).toNat 65)]).flatMap prw++[(f.2,some [66])]:=by
    rw[tB,tB,sj,sj,tT,qC,sj,tT,qC,rW];congr 2;unfold prw;rw[show(f.2+1-f.2).toNat=1 by lia]
    show[((f.2+(0:Nat):Int),some [66])]=_
    simp
   rw[e];refine zmh_ (λq hq=>?_) ?_ ?_
   ·obtain⟨p,_,hq⟩:=sD.mp hq
    exact zo9_ q hq
   ·refine qV (zkF_ λp hp=>(hA p ?_).1) ?_
    ·grind
    ·rw[nA,qE];lia
   ·exact sD.mpr ⟨_,p5 _ (pS.mpr rfl),znU_ ho⟩
abbrev Spo (A:Ak)(c:Int):Prop:=∃A',zz_ (partsL A) c=.ok (partsL A')/\Chk A'
theorem zlq_ {A:Ak}{d:List Nat}(h:OkM d A.2.2.1):z6_ A=.ok (A.1::match A.2.2.1 with |some (.inr q)=>[q.2.1]|_=>[]):=by
 obtain⟨a,b,m,r⟩:=A;cases h with
 |no=>rfl
 |fi _=>rfl
 |ma w _ _ _ _ _=>rcases w with rfl |rfl<;>rfl
theorem sp0 {A:Ak}(ok:OkA A)(hB:SB A.2.2.2.2.2.2.2.2.1)(c:Int)(hc:c % 9=0):Spo A c:=by
 obtain⟨n,P,m,O,W,b,S,g,B,u⟩:=A;obtain⟨f0,e0,hf0⟩:=zap_ (f:=(3,5)) ⟨by decide,by decide,by decide⟩ (c / 9)
 unfold Spo zz_ zC_
 walk_at "mo"
 rw[pow18]
 walk_at "mo"
 rw[e0];simp only[hc,show decide ((0:Int)=0)=true from rfl,show decide ((0:Int)=1)=false from rfl,show decide ((0:Int)=2)=false from rfl,show decide ((0:Int)=3)=false from rfl,show decide ((0:Int)=4)=false from rfl,show decide ((0:Int)=5)=false from rfl,show decide ((0:Int)=6)=false from rfl,show decide ((0:Int)=7)=false from rfl,show decide ((0:Int)=8)=false from rfl]
 walk_at "mo"
 obtain⟨m',em,hm,_⟩:=zkI_ ok.nm (c / 9);simp only[]at em;rw[show atI (partsL (n,P,m,O,W,b,S,g,B,u)) 0=some (Dy.str n)from rfl]
 walk_at "mo"
 rw[show Dy.str? (Dy.str n)=some n from rfl]
 walk_at "mo"
 rw[em];refine⟨(m',P,m,O,W,b,S,g,B,u),rfl,ref3 (ze5_ _) (.inl (zef_ ok.md)) (zh1_ (zlq_ ok.md) ?_ ?_)⟩
 ·intro x hx
  rcases qf.mp hx with rfl |hx
  ·exact⟨_,hm⟩
  ·have hq:=ok.md
   simp only[]at hx hq;cases hq with
   |no=>cases hx
   |fi _=>cases hx
   |ma _ hn _ _ _ _=>rw[pS.mp hx];exact⟨_,zb1_ hn⟩
 ·rw[rL,show nmB m'=false by unfold nmB;rw[hm]]
  rfl
theorem sp7 {A:Ak}(ok:OkA A)(hB:SB A.2.2.2.2.2.2.2.2.1)(c:Int)(hc:c % 9=7):Spo A c:=by
 obtain⟨n,P,m,O,W,b,S,g,B,u⟩:=A;obtain⟨f0,e0,hf0⟩:=zap_ (f:=(3,5)) ⟨by decide,by decide,by decide⟩ (c / 9)
 unfold Spo zz_ zC_
 walk_at "mo"
 rw[pow18]
 walk_at "mo"
 rw[e0];simp only[hc,show decide ((7:Int)=0)=false from rfl,show decide ((7:Int)=1)=false from rfl,show decide ((7:Int)=2)=false from rfl,show decide ((7:Int)=3)=false from rfl,show decide ((7:Int)=4)=false from rfl,show decide ((7:Int)=5)=false from rfl,show decide ((7:Int)=6)=false from rfl,show decide ((7:Int)=7)=true from rfl,show decide ((7:Int)=8)=false from rfl]
 walk_at "mo"
 obtain⟨v,e,hv⟩:=zbZ_ (xs:=[0,13,-1-c / 9 / 4 % 1000000000000000000,13+c / 9 / 4 % 1000000000000000000]) (k:=c / 9 % 4) (by show -(4:Int)<=_;lia) (by show c / 9 % 4<4;lia)
 rw[e];obtain⟨eC,hsg',aK⟩:=ok.pk;refine⟨(n,P,m,O,W,b,S,v,B,u),rfl,ref7 (d:=n) hsg' ok.pl ok.ol ok.wl ok.sl ok.nm ok.md aK ok.od ok.su (λw hw=>zmd_ ok w hw) (zdm_ ?_)⟩
 rw[zik_ (n,P,m,O,W,b,S,v,B,u) true ok.bd,if_neg];simp only[qj,decide_eq_true_eq];simp only[qf,qQ,or_false]at hv;lia
theorem sp5 {A:Ak}(ok:OkA A)(hB:SB A.2.2.2.2.2.2.2.2.1)(c:Int)(hc:c % 9=5):Spo A c:=by
 obtain⟨n,P,m,O,W,b,S,g,B,u⟩:=A;obtain⟨f0,e0,hf0⟩:=zap_ (f:=(3,5)) ⟨by decide,by decide,by decide⟩ (c / 9)
 unfold Spo zz_ zC_
 walk_at "mo"
 rw[pow18]
 walk_at "mo"
 rw[e0];simp only[hc,show decide ((5:Int)=0)=false from rfl,show decide ((5:Int)=1)=false from rfl,show decide ((5:Int)=2)=false from rfl,show decide ((5:Int)=3)=false from rfl,show decide ((5:Int)=4)=false from rfl,show decide ((5:Int)=5)=true from rfl,show decide ((5:Int)=6)=false from rfl,show decide ((5:Int)=7)=false from rfl,show decide ((5:Int)=8)=false from rfl]
 walk_at "mo"
 have o3:∀xs:List Fl,oL oF (iL iF xs)=some xs:=λxs=>zga_ xs
 rw[show atI (partsL (n,P,m,O,W,b,S,g,B,u)) 3=some (iL iF O)from rfl]
 walk_at "mo"
 rw[o3]
 walk_at "mo"
 obtain⟨v,e,hv⟩:=zbZ_ (xs:=[-1,4+c / 9 / 4 % 1000000000000000000,(O.length:Int)+1,-1-c / 9 / 4 % 1000000000000000000]) (k:=c / 9 % 4) (by show -(4:Int)<=_;lia) (by show c / 9 % 4<4;lia)
 rw[e];obtain⟨eC,hsg',aK⟩:=ok.pk;refine⟨(n,P,m,O,W,v,S,g,B,u),rfl,ref7 (d:=n) hsg' ok.pl ok.ol ok.wl ok.sl ok.nm ok.md aK ok.od ok.su (λw hw=>zmd_ ok w hw) (zdm_ ?_)⟩
 rw[zik_ (n,P,m,O,W,v,S,g,B,u) true ok.bd,if_neg];simp only[qj,decide_eq_true_eq];simp only[qf,qQ,or_false]at hv;lia
theorem sp3 {A:Ak}(ok:OkA A)(hB:SB A.2.2.2.2.2.2.2.2.1)(c:Int)(hc:c % 9=3):Spo A c:=by
 obtain⟨n,P,m,O,W,b,S,g,B,u⟩:=A;obtain⟨f0,e0,hf0⟩:=zap_ (f:=(3,5)) ⟨by decide,by decide,by decide⟩ (c / 9)
 unfold Spo zz_ zC_
 walk_at "mo"
 rw[pow18]
 walk_at "mo"
 rw[e0];simp only[hc,show decide ((3:Int)=0)=false from rfl,show decide ((3:Int)=1)=false from rfl,show decide ((3:Int)=2)=false from rfl,show decide ((3:Int)=3)=true from rfl,show decide ((3:Int)=4)=false from rfl,show decide ((3:Int)=5)=false from rfl,show decide ((3:Int)=6)=false from rfl,show decide ((3:Int)=7)=false from rfl,show decide ((3:Int)=8)=false from rfl]
 walk_at "mo"
 have o3:∀xs:List Fl,oL oF (iL iF xs)=some xs:=λxs=>zga_ xs
 rw[show atI (partsL (n,P,m,O,W,b,S,g,B,u)) 3=some (iL iF O)from rfl]
 walk_at "mo"
 rw[o3]
 walk_at "mo"
 have cl:(cutG O none (some 5)).length<=O.length:=by unfold cutG;grind
 have hX:=ok.ol;simp only[]at hX;rw[Mo.lim_ok (by simp only[qh,rF];lia)]
 walk_at "mo"
 rw[Mo.grd_ok (by show CRep 1 _;decide)]
 walk_at "mo"
 generalize hZ:cutG O none (some 5)=Z at *
 obtain⟨v,e,hv⟩:=zbZ_ (xs:=[Z++[f0],repL [(1+c / 9 % 24,24)] 7]) (k:=c / 9 / 7 % 2) (by show -(2:Int)<=_;lia) (by show c / 9 / 7 % 2<2;lia)
 rw[e];refine⟨(n,P,m,v,W,b,S,g,B,u),rfl,?_⟩;simp only[qf,qQ,or_false]at hv;rcases hv with rfl |rfl
 ·by_cases hl:Z.length+1<=6
  ·refine ref4 (ze5_ _) (.inl (zef_ ok.md)) (.inl (ze3_ ok.nm ok.md)) (zmW_ ok.pl (by simp;lia) ok.wl ok.sl (zfT_ ok.md) zdy_) (zj9_ (f:=f0) ?_ hf0)
   simp
  ·exact ref1 (zfu_ (by simp;lia))
 ·exact ref1 (zfu_ (by
   intro z;have z:=z.2.1
   revert z
   show¬(repL _ _).length<=_
   unfold repL;simp))
theorem sp6 {A:Ak}(ok:OkA A)(hB:SB A.2.2.2.2.2.2.2.2.1)(c:Int)(hc:c % 9=6):Spo A c:=by
 obtain⟨n,P,m,O,W,b,S,g,B,u⟩:=A;obtain⟨f0,e0,hf0⟩:=zap_ (f:=(3,5)) ⟨by decide,by decide,by decide⟩ (c / 9)
 unfold Spo zz_ zC_
 walk_at "mo"
 rw[pow18]
 walk_at "mo"
 rw[e0];simp only[hc,show decide ((6:Int)=0)=false from rfl,show decide ((6:Int)=1)=false from rfl,show decide ((6:Int)=2)=false from rfl,show decide ((6:Int)=3)=false from rfl,show decide ((6:Int)=4)=false from rfl,show decide ((6:Int)=5)=false from rfl,show decide ((6:Int)=6)=true from rfl,show decide ((6:Int)=7)=false from rfl,show decide ((6:Int)=8)=false from rfl]
 walk_at "mo"
 have o3:∀xs:List Fl,oL oF (iL iF xs)=some xs:=λxs=>zga_ xs
 rw[show atI (partsL (n,P,m,O,W,b,S,g,B,u)) 6=some (iL iF S)from rfl]
 walk_at "mo"
 rw[o3]
 walk_at "mo"
 have cl:(cutG S none (some 3)).length<=S.length:=by unfold cutG;grind
 have hX:=ok.sl;simp only[]at hX;rw[Mo.lim_ok (by simp only[qh,rF];lia)]
 walk_at "mo"
 rw[Mo.grd_ok (by show CRep 1 _;decide)]
 walk_at "mo"
 generalize hZ:cutG S none (some 3)=Z at *
 obtain⟨v,e,hv⟩:=zbZ_ (xs:=[Z++[f0],repL [(1,1+c / 9 % 36)] 5]) (k:=c / 9 / 7 % 2) (by show -(2:Int)<=_;lia) (by show c / 9 / 7 % 2<2;lia)
 rw[e];refine⟨(n,P,m,O,W,b,v,g,B,u),rfl,?_⟩;simp only[qf,qQ,or_false]at hv;rcases hv with rfl |rfl
 ·by_cases hl:Z.length+1<=4
  ·refine ref4 (ze5_ _) (.inl (zef_ ok.md)) (.inl (ze3_ ok.nm ok.md)) (zmW_ ok.pl ok.ol ok.wl (by simp;lia) (zfT_ ok.md) zdy_) (zj9_ (f:=f0) ?_ hf0)
   simp
  ·exact ref1 (zfu_ (by simp;lia))
 ·exact ref1 (zfu_ (by
   intro z;have z:=z.2.2.2
   revert z
   show¬(repL _ _).length<=_
   unfold repL;simp))
theorem sp8 {A:Ak}(ok:OkA A)(hB:SB A.2.2.2.2.2.2.2.2.1)(c:Int)(hc:c % 9=8):Spo A c:=by
 obtain⟨n,P,m,O,W,b,S,g,B,u⟩:=A;obtain⟨f0,e0,hf0⟩:=zap_ (f:=(3,5)) ⟨by decide,by decide,by decide⟩ (c / 9)
 unfold Spo zz_ zC_
 walk_at "mo"
 rw[pow18]
 walk_at "mo"
 rw[e0];simp only[hc,show decide ((8:Int)=0)=false from rfl,show decide ((8:Int)=1)=false from rfl,show decide ((8:Int)=2)=false from rfl,show decide ((8:Int)=3)=false from rfl,show decide ((8:Int)=4)=false from rfl,show decide ((8:Int)=5)=false from rfl,show decide ((8:Int)=6)=false from rfl,show decide ((8:Int)=7)=false from rfl,show decide ((8:Int)=8)=true from rfl]
 walk_at "mo"
 have o3:∀xs:List Fl,oL oF (iL iF xs)=some xs:=λxs=>zga_ xs
 rw[show atI (partsL (n,P,m,O,W,b,S,g,B,u)) 8=some (iL iF B)from rfl]
 walk_at "mo"
 rw[o3]
 walk_at "mo"
 obtain⟨V,eV,hV⟩:=zly_ hB (c / 9);simp only[]at eV;rw[eV];obtain⟨eC,hsg',aK⟩:=ok.pk;refine⟨(n,P,m,O,W,b,S,g,V,u),rfl,ref7 (d:=n) hsg' ok.pl ok.ol ok.wl ok.sl ok.nm ok.md aK ok.od ok.su (λw hw=>zmd_ ok w hw) (zdm_ ?_)⟩
 rw[zik_ (n,P,m,O,W,b,S,g,V,u) false hV,if_neg];simp
theorem sp4 {A:Ak}(ok:OkA A)(hB:SB A.2.2.2.2.2.2.2.2.1)(c:Int)(hc:c % 9=4):Spo A c:=by
 obtain⟨n,P,m,O,W,b,S,g,B,u⟩:=A;obtain⟨f0,e0,hf0⟩:=zap_ (f:=(3,5)) ⟨by decide,by decide,by decide⟩ (c / 9)
 unfold Spo zz_ zC_
 walk_at "mo"
 rw[pow18]
 walk_at "mo"
 rw[e0];simp only[hc,show decide ((4:Int)=0)=false from rfl,show decide ((4:Int)=1)=false from rfl,show decide ((4:Int)=2)=false from rfl,show decide ((4:Int)=3)=false from rfl,show decide ((4:Int)=4)=true from rfl,show decide ((4:Int)=5)=false from rfl,show decide ((4:Int)=6)=false from rfl,show decide ((4:Int)=7)=false from rfl,show decide ((4:Int)=8)=false from rfl]
 walk_at "mo"
 have o4:oL oW (iL iW W)=some W:=zn0_ W;rw[show atI (partsL (n,P,m,O,W,b,S,g,B,u)) 4=some (iL iW W)from rfl]
 walk_at "mo"
 rw[o4]
 walk_at "mo"
 obtain⟨V,eV,hV⟩:=zoh_ ok.wl ok.wk (c / 9);simp only[]at eV;rw[eV];refine⟨(n,P,m,O,V,b,S,g,B,u),rfl,?_⟩;rcases hV with hV |⟨hl,w,hw,hx⟩
 ·exact ref1 (zfu_ (by simp;lia))
 have fld:∀f,f=w.1\/f=w.2.1\/f=w.2.2.2->fldB f=false->Chk (n,P,m,O,V,b,S,g,B,u):=λf hf hb=>by
  refine ref4 (ze5_ _) (.inl (zef_ ok.md)) (.inl (ze3_ ok.nm ok.md)) (zmW_ ok.pl ok.ol hl ok.sl (zfT_ ok.md) zdy_) (zj9_ (f:=f) ?_ hb);exact p5 _ (sD.mpr ⟨w,hw,by simpa using hf⟩)
 rcases hx with hx |hx |hx |⟨hx,az⟩
 ·exact fld _ (.inl rfl) hx
 ·exact fld _ (.inr (.inl rfl)) hx
 ·exact fld _ (.inr (.inr rfl)) hx
 ·obtain⟨eC,hsg',aK⟩:=ok.pk
  refine ref7 (d:=n) hsg' ok.pl ok.ol hl ok.sl ok.nm ok.md aK ok.od ok.su az (zcp_ ?_ (zdm_ (znI_ (A:=(n,P,m,O,V,b,S,g,B,u)) ok.pl ok.ol hl ok.md hw hx)));rw[zik_ (n,P,m,O,V,b,S,g,B,u) true ok.bd];split
  ·exact .inl rfl
  ·exact .inr rfl
theorem sp2 {A:Ak}(ok:OkA A)(hB:SB A.2.2.2.2.2.2.2.2.1)(c:Int)(hc:c % 9=2):Spo A c:=by
 obtain⟨n,P,m,O,W,b,S,g,B,u⟩:=A;obtain⟨f0,e0,hf0⟩:=zap_ (f:=(3,5)) ⟨by decide,by decide,by decide⟩ (c / 9)
 unfold Spo zz_ zC_
 walk_at "mo"
 rw[pow18]
 walk_at "mo"
 rw[e0];simp only[hc,show decide ((2:Int)=0)=false from rfl,show decide ((2:Int)=1)=false from rfl,show decide ((2:Int)=2)=true from rfl,show decide ((2:Int)=3)=false from rfl,show decide ((2:Int)=4)=false from rfl,show decide ((2:Int)=5)=false from rfl,show decide ((2:Int)=6)=false from rfl,show decide ((2:Int)=7)=false from rfl,show decide ((2:Int)=8)=false from rfl]
 walk_at "mo"
 obtain⟨V,eV,hV⟩:=zrF_ (A:=(n,P,m,O,W,b,S,g,B,u)) ok.nm (c / 9);rw[eV];exact⟨(n,P,some V,O,W,b,S,g,B,u),rfl,zqY_ hV ok⟩
theorem sp1 {A:Ak}(ok:OkA A)(hB:SB A.2.2.2.2.2.2.2.2.1)(c:Int)(hc:c % 9=1):Spo A c:=by
 obtain⟨n,P,m,O,W,b,S,g,B,u⟩:=A;obtain⟨f0,e0,hf0⟩:=zap_ (f:=(3,5)) ⟨by decide,by decide,by decide⟩ (c / 9)
 unfold Spo zz_ zC_
 walk_at "mo"
 rw[pow18]
 walk_at "mo"
 rw[e0];simp only[hc,show decide ((1:Int)=0)=false from rfl,show decide ((1:Int)=1)=true from rfl,show decide ((1:Int)=2)=false from rfl,show decide ((1:Int)=3)=false from rfl,show decide ((1:Int)=4)=false from rfl,show decide ((1:Int)=5)=false from rfl,show decide ((1:Int)=6)=false from rfl,show decide ((1:Int)=7)=false from rfl,show decide ((1:Int)=8)=false from rfl]
 walk_at "mo"
 have q1:oL oP (iL iP P)=some P:=znV_ _;rw[show atI (partsL (n,P,m,O,W,b,S,g,B,u)) 1=some (iL iP P)from rfl]
 walk_at "mo"
 rw[q1]
 walk_at "mo"
 obtain⟨V,eV,hV⟩:=znE_ (c / 9);rw[eV]
 walk_at "mo"
 have cl:(cutG P none (some 3)).length<=3:=by rw[zgY_ (by decide),rp];show min 3 _<=3;lia
 have hs:∀p∈cutG P none (some 3),p∈P:=λp hp=>zmC_ hp
 generalize cutG P none (some 3)=Z at *
 have hl:V.length<=2:=by cases hV<;>simp
 rw[Mo.lim_ok (by lia)]
 walk_at "mo"
 rw[show ixN (partsL (n,P,m,O,W,b,S,g,B,u)).length 1=some 1 from rfl]
 walk_at "mo"
 by_cases h7:c / 9 % 9=7
 ·rw[decide_eq_true h7]
  walk_at "mo"
  rw[Mo.grd_ok (by decide)]
  refine⟨(n,repL [((7,7),[65])] 9,m,O,W,b,S,g,B,u),rfl,ref1 (zfu_ (by intro z;exact absurd (show 9<=8 from z.1) (by decide)))⟩
 ·rw[decide_eq_false h7]
  exact⟨(n,Z++V,m,O,W,b,S,g,B,u),rfl,zn1_ hV cl hs ok⟩
theorem znw_ (ns:List Int)(hl:ns.length<=63):zsV_ ns=.ok true:=ziR_ ns hl λD bL ok hB c=>by
 have h9:c % 9=0\/c % 9=1\/c % 9=2\/c % 9=3\/c % 9=4\/c % 9=5\/c % 9=6\/c % 9=7\/c % 9=8:=by lia
 rcases h9 with h |h |h |h |h |h |h |h |h
 ·exact sp0 ok hB c h
 ·exact sp1 ok hB c h
 ·exact sp2 ok hB c h
 ·exact sp3 ok hB c h
 ·exact sp4 ok hB c h
 ·exact sp5 ok hB c h
 ·exact sp6 ok hB c h
 ·exact sp7 ok hB c h
 ·exact sp8 ok hB c h
theorem zsY_ {l:wN}{w:nL}{K:Fgg}{mg:Str->Option aL}{base:Heap}{f:nc}{fd:rm}(e:En K mg)(g8:zdx_ l.prog w K mg base)(kF:zce_ l.prog w K mg base)(g0:zaD_ l.prog w K mg base)(kc:zcq_ l.prog w K mg base)(F:Fun K "law" "law" zr7_ f fd):FnOk l.prog w K mg base CX0 11 f fd ["_law_script"] (spL K):=
 okL (l:=l) (w:=w) (K:=K) (mg:=mg) (base:=base) (k:=10) (st:=zr7_) (x:="_law_script") (N:=["_law_script", "_law_parts_here", "_law_spoiled_here"]) (t:=zr6_.1 K) (g:=zr4_.1) 2 (zr6_.2 l.prog w K mg base e g8 kF g0 kc) (λns hl hb=>znw_ ns hl) (zr4_.2 K) f fd F
theorem all_mk {l:wN}{w:nL}{K:Fgg}{h:Heap}{mg:Str->Option aL}{fa:nc}(X:K.In h)(G:h.Ns qm mg)(jW:mg "law"=some (.ref fa))(k:Ek K):
  ∃fd:rm,(∀(s:kZ) (v:aL),BindsTo s fd ⟨[v],[]⟩ [("_law_script",v)])/\∀base:Heap,K.In base->base.Ns qm mg->FnOk l.prog w K mg base CX0 11 fa fd ["_law_script"] (spL K):=by
 have e:En K mg:=⟨k,_,X,G⟩;refine okLaw e.m e.f49 jW (λ_ _ _ _ _ _ _ _=>rfl) λbase f fd F=>?_
 have g0:=zf5_ (P:=l.prog) (w:=w) (base:=base) e;have g1:=ziJ_ (P:=l.prog) (w:=w) (base:=base) e;have g2:=zjc_ (P:=l.prog) (w:=w) (base:=base) e;have g3:=zhx_ (P:=l.prog) (w:=w) (base:=base) e;have g4:=zhi_ (P:=l.prog) (w:=w) (base:=base) e g2 g3;have g5:=zjm_ (P:=l.prog) (w:=w) (base:=base) e g2;have g6:=zh2_ (P:=l.prog) (w:=w) (base:=base) e g0 g2 g5;have g7:=zg4_ (P:=l.prog) (w:=w) (base:=base) e;have g8:=zhH_ (P:=l.prog) (w:=w) (base:=base) e g0 g1 g4 g6 g7;have g9:=zeU_ (P:=l.prog) (w:=w) (base:=base) e;have fV:=zff_ (P:=l.prog) (w:=w) (base:=base) e;have kK:=zd3_ (P:=l.prog) (w:=w) (base:=base) e g2 fV g3 g9;have kJ:=zfk_ (P:=l.prog) (w:=w) (base:=base) e g9;have kI:=zeE_ (P:=l.prog) (w:=w) (base:=base) e;have kG:=zfa_ (P:=l.prog) (w:=w) (base:=base) e g2;have kF:=zgd_ (P:=l.prog) (w:=w) (base:=base) e g9 fV kG kK kJ kI;have mP:=zeI_ (P:=l.prog) (w:=w) (base:=base) e;have mO:=zeW_ (P:=l.prog) (w:=w) (base:=base) e;have aQ:=zkc_ (P:=l.prog) (w:=w) (base:=base) e;have kE:=zeO_ (P:=l.prog) (w:=w) (base:=base) e aQ;have d8:=zji_ (P:=l.prog) (w:=w) (base:=base) e;have kD:=zc0_ (P:=l.prog) (w:=w) (base:=base) e aQ d8;have kC:=zi4_ (P:=l.prog) (w:=w) (base:=base) e d8;have kB:=zjT_ (P:=l.prog) (w:=w) (base:=base) e;have kA:=zge_ (P:=l.prog) (w:=w) (base:=base) e kC aQ kB;have fF:=ze0_ (P:=l.prog) (w:=w) (base:=base) e d8;have kz:=zhj_ (P:=l.prog) (w:=w) (base:=base) e fF;have ky:=zhy_ (P:=l.prog) (w:=w) (base:=base) e;have kx:=zfh_ (P:=l.prog) (w:=w) (base:=base) e;have fU:=zjl_ (P:=l.prog) (w:=w) (base:=base) e;have mM:=zhc_ (P:=l.prog) (w:=w) (base:=base) e;have ku:=zf0_ (P:=l.prog) (w:=w) (base:=base) e mM;have kr:=zgm_ (P:=l.prog) (w:=w) (base:=base) e aQ fU ky kx ku;have ko:=zcn_ (P:=l.prog) (w:=w) (base:=base) e fF aQ fU;have mL:=zen_ (P:=l.prog) (w:=w) (base:=base) e;have dM:=zjj_ (P:=l.prog) (w:=w) (base:=base) e;have mK:=zhN_ (P:=l.prog) (w:=w) (base:=base) e dM;have kn:=zgn_ (P:=l.prog) (w:=w) (base:=base) e mK mL;have km:=ziZ_ (P:=l.prog) (w:=w) (base:=base) e kn;have kl:=zd7_ (P:=l.prog) (w:=w) (base:=base) e aQ dM km;have kj:=zfZ_ (P:=l.prog) (w:=w) (base:=base) e fF;have ki:=zhv_ (P:=l.prog) (w:=w) (base:=base) e;have kg:=zgj_ (P:=l.prog) (w:=w) (base:=base) e aQ kj ki;have kf:=ziV_ (P:=l.prog) (w:=w) (base:=base) e dM;have mJ:=zfn_ (P:=l.prog) (w:=w) (base:=base) e kE kD kA kz aQ kf kr ko kl kg;have mH:=zdN_ (P:=l.prog) (w:=w) (base:=base) e mP mO mJ;have ke:=zi2_ (P:=l.prog) (w:=w) (base:=base) e mH;have kd:=zhM_ (P:=l.prog) (w:=w) (base:=base) e;have kc:=zf9_ (P:=l.prog) (w:=w) (base:=base) e ke kd;exact zsY_ (l:=l) (w:=w) (base:=base) e g8 kF g0 kc F
theorem walk {l:wN}{q:m7}{loose:List Str}{XP:(Str->Option aL)->Heap->Prop}{YP:nL->Heap->Prop}{d:DefRec}{K:Params->Fgg}(hn:l.most=some 63)(gU:d.params.defaults=[])
  (hY:∀(w:nL) (h:Heap),YP w h->(K w.params).In h)
  (F:∀(w:nL) (mg:Str->Option aL) (fa:nc) (h:Heap),(K w.params).In h->h.Ns qm mg->mg d.name=some (.ref fa) ->
   ∃fd:rm,(∀(s:kZ) (u:aL),BindsTo s fd ⟨[u],[]⟩ [("_law_script",u)])/\∀base:Heap,(K w.params).In base->base.Ns qm mg->FnOk l.prog w (K w.params) mg base CX0 11 fa fd ["_law_script"] (spL (K w.params))):
  W.WalkO q loose XP YP l.row.toRowW d [] (λf vs=>xu f vs):=
 L2.zoY_ (n:=63) (k:=11) (x:="_law_script") (CX:=λ_=>CX0) (sp:=λw=>spL (K w.params)) hn (by decide) gU ⟨rfl,by decide,by decide⟩ hY F (λ_ _ a ns hl hb _ hS=>⟨a,ns,rfl,hS,hl,hb,λ_=>rfl⟩) λ_ _ _ _ _ z=>z
end K41
open PySem PySem.W PyProof.Rows
set_option maxRecDepth 100000 in
set_option maxHeartbeats 0 in
theorem PySem.Challenge.cw_cardshop_k41_askings_refused_holds : PySem.Challenge.rw_cardshop_k41_askings_refused.Holds := by
 w_on;o_law;k_head;(case hw=>w_witness2)
 k_fill
 refine K41.walk (l:=PySem.Challenge.rw_cardshop_k41_askings_refused) rfl rfl (λw h Y=>W.kIn_of Y) ?F
 case F=>
  intro w mg fa h KX G gI;refine K41.all_mk KX G gI ?_;constructor
  all_goals first |(refine' L2.FmD.mk_ ?x0 ?x1 ?x2 ?x3 ?x4 ?x5 ?x6 ?x7;(case x0=>k_is);(case x1=>k_is);(case x2=>k_is);(case x3=>k_is);(case x4=>k_is);(case x5=>k_is);(case x6=>k_is);(case x7=>(show _=_;kernel_rfl!)))|(refine' L2.FtT.mk_ ?x0 ?x1 ?x2 ?x3;(case x0=>k_is);(case x1=>k_is);(case x2=>(show _=_;kernel_rfl!));(case x3=>decide))|(refine' L2.Fg.mk_ ?x0 ?x1 ?x2 ?x3;(case x0=>k_is);(case x1=>k_is);(case x2=>k_is);(case x3=>k_is))|(refine' L2.Fm.mk_ ?x0 ?x1 ?x2 ?x3 ?x4 ?x5;(case x0=>k_is);(case x1=>k_is);(case x2=>k_is);(case x3=>k_is);(case x4=>k_is);(case x5=>k_is))|(refine' L2.Fs.mk_ ?x0 ?x1 ?x2 ?x3 ?x4 ?x5 ?x6;(case x0=>k_is);(case x1=>k_is);(case x2=>k_is);(case x3=>k_is);(case x4=>k_is);(case x5=>k_is);(case x6=>k_is))|(refine' L2.Fc.mk_ ?x0 ?x1 ?x2 ?x3 ?x4 ?x5 ?x6;(case x0=>k_is);(case x1=>k_is);(case x2=>k_is);(case x3=>k_is);(case x4=>k_is);(case x5=>k_is);(case x6=>k_is))|(refine' L2.Fa.mk_ ?x0 ?x1;(case x0=>k_is);(case x1=>k_is))|(delta L2.Fb;k_is)|(refine' L2.Fv.mk_ ?x0 ?x1;(case x0=>k_is);(case x1=>exact⟨_,rfl⟩))|(refine' L2.Fk.mk_ ?x0;(case x0=>k_is))|(refine' L2.Fe1.mk_ ?x0 ?x1;(case x0=>k_is);(case x1=>(show _=_;kernel_rfl!)))|(refine' L2.Fe2.mk_ ?x0 ?x1 ?x2;(case x0=>k_is);(case x1=>k_is);(case x2=>(show _=_;kernel_rfl!)))
#print axioms PySem.Challenge.cw_cardshop_k41_askings_refused_holds
