import PyProof.Rows.All
import Wide.All
import OpenK.AllK
import Wide.FinOn
import Lean
import PyProof.EqAt
import PyProof.EqKinds
import PyProof.TupleCall
import PyProof.StrLawsRepr
import PyProof.NeKinds
import KE.KTryMore
import PyProof.Rows.TupIter
import PyProof.InstStoreFacts
import PyProof.ExcInit
import KE.KEqDict
import KE.KDictOf
import KE.KPairComp
import PySem.Challenge.RW_cardshop_k65_kinds_of_plans
set_option Elab.async false
set_option compiler.extract_closed false
set_option linter.all false
set_option maxRecDepth 100000
set_option maxHeartbeats 4000000
structure PySem.W.Fast:Prop where(tw1818667270088550516 tw12195950597023163574 tw5680507630071138064 tw241923582434040624 tw7785620678115638528 tw16742232528267264610 tw4347083613753530325 tw5736721677124381338 tw17810111605910629375 tw1722949933363065274 tw9002404077384648588 tw8307651844726449167 tw17482801224775394162 tw16431864520852226816 tw13489659248490402827 tw1048872894540445559 tw713414669597195137 tw2908606239142050078 tw3818556789411746820 tw4094048130056240122 tw11554969752835281912 tw132499219640862566 tw9880700828533021381 tw10845075908619832059 tw12623812144550001506 tw6375792566126586100 tw15257448488386797901 tw9256622187918367189 tw15261561914531162842 tw10334911627122864722 tw1904261036952643488 tw2744096987852211429 tw10080500752508869212 tw9125014692766476721 tw1613417025107048183 tw6848600851739313639 tw15444761589284359503 tw4163688658274163482 tw8999380398038259748 tw1362785901510175508 tw13047267229207309714 tw4658818307436913351 tw6857780394491654976 tw7427167746762353795 tw331866348894001160 tw247772035264665811 tw10262906257932760438 tw1820358389951245450 tw4617921663265725851 tw15146450158327953549 tw14220297289644630045 tw12305631454465506855 tw7013473114925840202 tw6032915132117889491 tw1879132139581120014 tw3235705538447668597 tw10480310225739559682 tw8318214850776281126 tw4666396023611731185 tw6209509863074801053
 tw13185535657925351963 tw12487221410281334147 tw6707204603387541732 tw14003585193709443315 tw6726875862388297823 tw17867866803602914137 tw14342166438071490423 tw2296351405308132688 tw14229094869798610484 tw17836821648492105410 tw5285781029007356964 tw13259140000222147228 tw8422464926196949777 tw12585182635030020010 tw5653242330135452743 tw7133304424430421414 tw6285787834101262297 tw1040329832061725344 tw6427744225717675031 tw9638137184072060391 tw16027304634301857310 tw1236840464454062765 tw2398688580119348965 tw18052437509031643971 tw10477837274629067049 tw11425540348311926010 tw10685799912900791860 tw725865962927279173 tw14975254755339414736 tw3894076051525658729 tw8873430137802413894 tw12612758265873161541 tw14155701855132273265 tw3027292687580962224 tw1341315921227080795 tw13624739871237361377 tw9086399771574040493 tw9686689233246365469 tw2120008792488346866 tw2008487068712950169 tw13756214243924756748 tw16165949888596405677 tw16981790315447587614 tw812129849461249681 tw4719662156316522292 tw16667507598002029533 tw7975393409093858705 tw13951852569521076735 tw13675835093049724855 tw11394693835634584948 tw17678849126090157282 tw10828786567049815221 tw17233257463386703079 tw13166334876584025072 tw5132277402085649254 tw6689681721217694171 tw3029928560024469221 tw2684651130985169669 tw10496510356947559497 tw9583037787855908077
 tw14440083720071374176 tw16270031871521663255 tw5031291615888288795 tw12995654362308650832 tw1234462993314427885 tw966735743422475368 tw781727501339540234 tw14326642865912413619 tw9519371945228514997 tw8274215658008900401 tw7282328254199101664 tw3693814773671458846 tw14103453274364689711 tw1013256939554233792 tw7134927878282050913 tw3050306161208809267 tw2669660744909519270 tw4390551645007855260 tw10204287804923790001 tw14082377448149887924 tw18076863634252632741 tw8940452107581245481 tw3149645141327321891 tw3139908390997083331 tw10435745945418862982 tw4476177850146585942 tw17986224243070540224 tw5087512839739803320 tw2412627063069003249 tw950589786185742271 tw10812670112040907252 tw13896973126930642309 tw15536280238807779043 tw8035784932500102150 tw9825595662839819879 tw17160005279160152549 tw3060362060609729561 tw14205098092780779755 tw12285317420782942374 tw12296400143360275034 tw6115388300527882244 tw12545772147253422346 tw9078694478171839522 tw16597547840892116706 tw10690319891146617619 tw11795446599215282993 tw9801095303258472242 tw4943570313629123516 tw4830086251166286855 tw11770974447677448198 tw16309555853893419973 tw3507451002619341315 tw12883054727518319054 tw10754898153723662081 tw6473550652363275343 tw8177988136738271574 tw16967980208086842965 tw221696016340058428 tw1219588433635342368 tw14265328446948892404
 tw11048970620056543178 tw727843330245536485 tw10682355186889929318 tw16621345332561022624 tw12143680753791386642 tw4994795754162436528 tw13523477756832815943 tw806533781409766711 tw6819283227179687144 tw11517632683884832942 tw11760087318232234821 tw10135271315107150449 tw16022611915807507013 tw14425977974026989231 tw10261143293887984608 tw6352363267841161494 tw7721304723285034640 tw4711611070165996941 tw8857190060651001911 tw8286993105903267437 tw2452691493888878676 tw2089616745585405331 tw3849527385748980415 tw13551475781613871511 tw4302452584389399057 tw8538206826519966382 tw4488920572367718144 tw11322759493878410182 tw5427986698503433691 tw4933675885468782565 tw3555197922460887388 tw15340832632028531004 tw783094610606448844 tw5083827581266721226 tw4005293393374073732 tw9989980403728416969 tw13367229138380016511 tw16275375072470025322 tw15902000812395775717 tw6169064291139301740 tw8148749523609351762 tw2971635584235875362 tw11237213703618185913 tw12717042235465706287 tw13916020143832913836 tw4807937292051107212 tw9108645192891767630 tw17994145526627482512:True)
set_option genSizeOf false
set_option genSizeOfSpec false
set_option bootstrap.genMatcherCode false
noncomputable section
open Bool renaming and_eq_true→aW,and_eq_true_iff→pj,false_ne_true→pO,or_eq_true→ql,and_false→rF,decide_and→sH,false_and→sU,and_true→tJ,not_eq_true→tT,false_or→vB,true_and→vD,true→xj,false→xk
open PySem renaming Value→nI,wpAny_bind→nJ,Shared→nO,Addr→nR,wpAny_pure→nX,sizeLine→oh,Expr→oq,wpAny→oB,Program→oH,mainGlobals→oI,starEach→oN,compareOp→oQ,World→oV,wpAny_truthy_bool→pd,Around→ph,strIterType→pq,FuncData→pL,Stmt→pM,wpAny_mono→pN,wpAny_field→p5,assignEach→p7,mem_of_lookup→qj,wpAny_Call_Name_kw→qp,binaryOp→qy,bootBuiltins→qA,NameKind→qG,wpAny_setField_rec→qI,backTo→qJ,IsPair→qM,wpAny_passesOwn→rR,keywordEach→tw,Within→tV,Builtin→uA,backToKw→uL,Obj→vi,call→vq
open List renaming length_append→nK,length_map→nN,map_cons→nS,getElem?_eq_getElem→nU,mem_cons_self→nV,size_toArray→nW,mem_cons_of_mem→nY,length_cons→n6,mem_cons→og,mem_append_right→oj,getElem?_map→om,replicate→ou,getElem?_eq_some_iff→oA,mem_singleton→oE,map_append→oG,length_take→oJ,isEmpty_iff→oM,mem_append→oP,range→oU,length_range→oW,getElem?_append_right→oX,getElem?_set→oY,zip_cons_cons→oZ,length_eq_zero_iff→pb,length_nil→pf,length_drop→pz,append_assoc→pD,map_map→pF,getElem?_append_left→pG,length_set→pH,getElem?_set_ne→pI,mem_map→pJ,all_cons→pK,mem_range→pP,all_eq_true→pQ,replicate_succ→pR,length→pS,getD_eq_getElem?_getD→pT,mem_of_mem_take→pV,append_nil→pW,getElem?_set_self→pY,not_mem_nil→pZ,exists_cons_of_length_eq_add_one→p4,mem_of_getElem?→p8,getElem?_cons_succ→p9,cons_append→qa,map_nil→qg,length_zip→qk,set_cons_zero→qq,set_cons_succ→qr,mem_of_mem_drop→qv,find?_cons→qx,map_congr_left→qz,length_eq_one_iff→qC,of_mem_zip→qO,nil_append→qP,mem_append_left→qQ,lookup→qR,flatten_cons→qU,take_of_length_le→rg,find?_cons_of_neg→rn,any_cons→rq,lookup_cons→rH,getElem?_zip_eq_some→rL,filterMap_cons→rM,nodup_cons→rS,drop_zero→rW,lookup_cons_self→se,getElem?_mapIdx→sy,getElem_of_mem→sJ,flatMap_append→sL,drop_succ_cons→sM,map_id'→sS,mem_filterMap→sV,pairwise_cons→tj,drop_eq_getElem_cons→tm,flatMap_cons→tE,drop_length→tO,any_eq_true→tQ,flatMap_nil→tS,foldl→uf,foldl_cons→uj,forIn_cons→uk,length_singleton→um,getElem?_eq_none→uo,getElem?_toArray→uq,filter_eq_self→uB,take_nil→uC,getElem_range→uH,any_eq_false→uJ,nodup_append→uN,pairwise_map→uO,getElem_mem→uU,zipIdx_cons→uV,filter_cons→uX,mem_flatMap→uY,mem_filter→vb,zipIdx_nil→vf,idxOf_cons→vg,forIn_nil→vv,drop_nil→vC,all_map→wg,map_id→wU
open PySem.Heap renaming get?_push_of_some→nQ,lt_size→ot,get?_push_size→ox,get?_update_other→qf,size_push→qF,ExtBut→qV,SameBut→rG,get?_update_self→rY,get?_push_cases→uv,NotedW→uw,LeftW→uG
open Nat renaming le_refl→nZ,lt_of_lt_of_le→oO,ne_of_lt→oR,le_trans→pX,zero_le→qS,ne_of_gt→rf,min_self→rm,le_succ→rE,lt_irrefl→rP,le_of_ble_eq_true→r9,lt_succ_self→si,le_of_lt→sQ,lt_succ_of_lt→tB,sub_self→uh,le_of_not_lt→uT,min_eq_left→ve,le_of_eq→vP,mul_comm→vS,zero_add→wj,lt_or_ge→wo,mul_add→wV
open Option renaming map_eq_some_iff→oF,bind_eq_some_iff→pA,isSome_iff_exists→qt,isNone_iff_eq_none→qL,isSome_map→tD,getD_none→uS,map_some→vh,none→wM,some→xg,none→xh
open PySem.W renaming Frag→oK,Frag→pE,hideAll_none→qc,findIn→qo,nsIn→qu,keepIn→qT,kia_one→qZ,emptyDict→rb,instObj→sf,funFrames_hide→sj,hasDictIn→sr,codeIn→sv,of_hideAll→sO,specialIn→tq,hideAll_get→tF,looks_mroIn→tH,hideAll→tL,plainGet→tW,plainOver→uu,mroIn→uz,kitOne→uK,makesIn→uP,cellsFrom_some→uQ,methodObj→va,handedIn→vk,looks_typeIn→vo,callWith_K0→vA,takerIn→vG,OpenLaw→vI,readsIn→vN,findCls→vO,callWith_K→vQ,isFn→vR,clsIn→vT,Looks→vU,mg_of→vV,lookIn→wK,typeIn→wL
open False renaming elim→oS
open PySem.Value renaming ref→pB,none→qE,bool→rD,str→rT,builtin→sq,int→tK,type→uF,float→uZ,isStrOf→vz,isInt→wI,bytes→wJ
open Option.some renaming inj→pC
open Int renaming emod_lt_of_pos→pU,emod_nonneg→qm,eq_ofNat_of_zero_le→q9
open PySem.Builtin.SmallTypes renaming ownedTupleIsFree→p6,nextOf→qN,ownedTupleHandOut→rO
open PySem.Builtin.Str renaming strSliceIndices→qb,occurrences→rV,tooLong→wX
open True renaming intro→qd
open Nat.succ renaming inj→qh
open Array renaming length_toList→qi,getElem?_eq_some_iff→qH,getD_eq_getD_getElem?→rB,getElem?_setIfInBounds_ne→rX,getElem?_toList→ur,toList→uI
open PySem.Str renaming length→qw,ofString→tY,empty→vH
open PyProof.Rows renaming callWith_type1→qB,slot_tuple_getitem→qY,callWith_builtin1→uR,assign_Tuple→vy
open PySem.Builtin.Slice renaming slicePlaces→qK,sliceAdjust→rK,sliceApplied→sW,slicePartIndex→vc,sliceFields→vx
open PySem.Builtin.Tuple renaming tupleExact→qW,tupleItemsOf→vm
open PySem.Builtin.List renaming listTooLong→qX,listExtendWith→vj
open PySem.SeqAt renaming RcAt→rj,RcNeAt→rJ,ne_of_list_tuple→ug,EqAt→vn
open Ne renaming symm→rA
open PySem.Builtin.Int renaming intBits→rN
open PySem.Obj renaming mapFields→rQ,isFreed_of_fields→rZ,data_mapFields→sY,mapSeq→tZ
open PySem.Builtin renaming divisionGoesByPylong→sC
open PySem.F renaming slot_zip_next→sD,slot_dict_setdefault→sG,excBase_ValueError→sZ,args_tuple_add_2→tG,entry_tuple_add→tN,plain_list_iadd→tP,slot_tuple_add→tX,excAttr_ValueError→ux,args_zip_next_1→uM,entry_zip_next→uW,slot_int_rmul→vd
open List.cons renaming inj→tI
open PySem.Builtin.Range renaming rangeSize→tM
open PySem.Env renaming kindOf→tR
open Sum renaming inl→tU,inr→uy
open PySem.SeqAt.EqAt renaming same→ui,int_str→uD,str_int→uE
open PySem.SeqAt.RcNeAt renaming lists_lengths→vp,tuple_none→vJ,tuple_bool→vK,none_tuple→vL,bool_tuple→vM,none_none→vW,none_bool→vX,bool_none→vY,bool_bool→vZ,list_none→v3,list_bool→v7,none_list→v8,bool_list→wa,tuple_int→wb,tuple_str→wc,int_tuple→wd,str_tuple→we,none_int→wq,none_str→wu,bool_int→wx,bool_str→wy,int_none→wz,int_bool→wA,str_none→wB,str_bool→wC,list_int→wD,list_str→wF,int_list→wG,str_list→wH,int_int→wN,int_str→wO,str_int→wQ,str_str→wR,tuples→wW,lists→wZ
open List.Mem renaming head→vE,tail→vF
open Prod renaming ext_iff→wm
open PySem.Heap.IsSliceOf renaming new→wY
open PySem.Within renaming cons→xb
open List.Pairwise renaming nil→xc
open PySem.Heap.DictOf renaming new→xf
namespace L2
open PySem PySem.Spec PyProof.Rows
theorem sN.{u}{α:Type u}(a:α):xg a≠xh:=Option.some_ne_none a
noncomputable abbrev Fgg:=oK
noncomputable abbrev Pnn:=List (nR×vi)
noncomputable abbrev Key:=Sum Int Str
def keyIs:Key->nI->Bool
 |.inl k,v=>wI k v|.inr x,v=>vz x v
def keyH (w:oV):Key->Int
 |.inl k=>hashInt k|.inr x=>hashStr w x
theorem zo_:∀{k:Key}{v:nI},keyIs k v=xj->(∃i t,k=tU i/\v=tK i t)\/(∃x t,k=uy x/\v=rT x t)
 |.inl i,v,h=>by
  obtain⟨t,e⟩:=Value.isInt_shape (k:=i) (v:=v) h;exact .inl ⟨i,t,rfl,e⟩
 |.inr x,v,h=>by
  obtain⟨t,e⟩:=Value.isStrOf_shape (x:=x) (v:=v) h;exact .inr ⟨x,t,rfl,e⟩
theorem zg2_ (i:Int)(t:Tok):keyIs (.inl i) (.int i t)=xj:=by simp[keyIs,wI]
theorem zgf_ (x:Str)(t:Tok):keyIs (.inr x) (.str x t)=xj:=by simp[keyIs,vz]
theorem znB_ (a b:Int):decide ((tU a:Key)=tU b)=(a == b):=by
 by_cases e:a=b
 ·subst e;simp
 ·have h:¬(tU a:Key)=tU b:=λq=>e (Sum.inl.inj q)
  rw[decide_eq_false h];exact(beq_eq_false_iff_ne.mpr e).symm
theorem zoI_ (a b:Str):decide ((uy a:Key)=uy b)=decide (a=b):=by
 by_cases e:a=b
 ·subst e;simp
 ·have h:¬(uy a:Key)=uy b:=λq=>e (Sum.inr.inj q)
  rw[decide_eq_false h,decide_eq_false e]
theorem zom_ (a:Int)(b:Str):decide ((tU a:Key)=uy b)=xk:=decide_eq_false (λq=>nomatch q)
theorem zn5_ (a:Str)(b:Int):decide ((uy a:Key)=tU b)=xk:=decide_eq_false (λq=>nomatch q)
def mixKind (prog:oH)(w:oV):PySem.KeyKind prog w Key where
 is:=keyIs
 hash:=keyH w
 inj:=λv a b ha hb=>by
  rcases zo_ ha with⟨i,t,rfl,rfl⟩|⟨x,t,rfl,rfl⟩
  ·rcases zo_ hb with⟨j,u,rfl,e⟩|⟨y,u,rfl,e⟩
   ·injection e with e1 _;rw[e1]
   ·exact nomatch e
  ·rcases zo_ hb with⟨j,u,rfl,e⟩|⟨y,u,rfl,e⟩
   ·exact nomatch e
   ·injection e with e1 _;rw[e1]
 byValue:=λk v h=>by
  rcases zo_ h with⟨i,t,rfl,rfl⟩|⟨x,t,rfl,rfl⟩<;>rfl
 pyHash:=λhv h=>by
  rcases zo_ hv with⟨i,t,rfl,rfl⟩|⟨x,t,rfl,rfl⟩
  ·exact wpAny_pyHash_int h
  ·exact wpAny_pyHash_str h
 eqBool:=λhu hv h=>by
  rcases zo_ hu with⟨i,t,rfl,rfl⟩|⟨x,t,rfl,rfl⟩
  ·rcases zo_ hv with⟨j,u,rfl,rfl⟩|⟨y,u,rfl,rfl⟩
   ·rw[znB_]at h;exact wpAny_eqBool_int h
   ·rw[zom_]at h;exact uD i t y u _ _ _ _ h
  ·rcases zo_ hv with⟨j,u,rfl,rfl⟩|⟨y,u,rfl,rfl⟩
   ·rw[zn5_]at h;exact uE x t j u _ _ _ _ h
   ·rw[zoI_]at h;exact wpAny_eqBool_str h
 «strs»:=λk x t v h=>by
  rcases zo_ h with⟨i,u,rfl,e⟩|⟨y,u,rfl,e⟩
  ·exact nomatch e
  ·injection e with e1 _
   subst e1;cases v<;>rfl
theorem zga_ (prog:oH)(w:oV)(k:Key)(v:nI):(mixKind prog w).is k v=keyIs k v:=rfl
theorem zet_ (prog:oH)(w:oV)(i:Int)(t:Tok):(mixKind prog w).is (.inl i) (.int i t)=xj:=zg2_ i t
theorem zeq_ (prog:oH)(w:oV)(x:Str)(t:Tok):(mixKind prog w).is (.inr x) (.str x t)=xj:=zgf_ x t
inductive V where
 |non |bl (b:Bool)|int (i:Int)|str (x:Str)|byt (b:Array UInt8)|flt (b:UInt64)|ref (a:nR)|ty (n:String)
 deriving DecidableEq
noncomputable def RelV:V->nI->Prop
 |.non,u=>u=qE|.bl b,u=>u=rD b|.int i,u=>∃t,u=tK i t|.str x,u=>∃t,u=rT x t|.byt b,u=>∃t,u=wJ b t|.flt b,u=>∃t,u=uZ b t|.ref a,u=>u=pB a|.ty n,u=>u=uF n
abbrev Vals:List V->List nI->Prop:=Paired RelV
theorem Vals.length {xs:List V}{us:List nI}(r:Vals xs us):xs.length=us.length:=Paired.length r
theorem Vals.get:∀{xs:List V}{us:List nI}{i:Nat}{x:V},Vals xs us->xs[i]?=xg x->∃u,us[i]?=xg u/\RelV x u
 |_,_,_,_,.nil,e=>by simp at e
 |_,_,0,_,.cons r _,e=>by simp at e;subst e;exact⟨_,rfl,r⟩
 |_,_,i+1,x,.cons _ t,e=>by
  obtain⟨u,h1,h2⟩:=Vals.get (i:=i) (x:=x) t (by simpa using e)
  exact⟨u,by simpa using h1,h2⟩
theorem Vals.set {x:V}{u:nI}(r:RelV x u):∀{xs:List V}{us:List nI}(i:Nat),Vals xs us->Vals (xs.set i x) (us.set i u)
 |_,_,_,.nil=>.nil|_,_,0,.cons _ t=>.cons r t|_,_,i+1,.cons q t=>.cons q (Vals.set r i t)
theorem Vals.append:∀{xs ys:List V}{us ws:List nI},Vals xs us->Vals ys ws->Vals (xs++ys) (us++ws)
 |_,_,_,_,.nil,s=>s|_,_,_,_,.cons r t,s=>.cons r (Vals.append t s)
theorem Vals.take:∀{xs:List V}{us:List nI}(n:Nat),Vals xs us->Vals (xs.take n) (us.take n)
 |_,_,0,_=>.nil|_,_,_+1,.nil=>.nil|_,_,n+1,.cons r t=>.cons r (Vals.take n t)
theorem Vals.drop:∀{xs:List V}{us:List nI}(n:Nat),Vals xs us->Vals (xs.drop n) (us.drop n)
 |_,_,0,r=>r|_,_,_+1,.nil=>.nil|_,_,n+1,.cons _ t=>Vals.drop n t
def RelO:Option V->Option nI->Prop
 |some v,xg u=>RelV v u|none,xh=>True|_,_=>False
def KV {κ:Type}:List (κ×V)->List (κ×nI)->Prop:=Paired λ(p:κ×V) (q:κ×nI)=>p.1=q.1/\RelV p.2 q.2
def kV:Key->V
 |.inl i=>.int i|.inr x=>.str x
inductive HO where
 |lst (xs:List V)
 |tup (xs:List V)
 |dK (kvs:List (Key×V))|dT (kvs:List (List Key×V))
 |set (S:Int->Bool) (n:Nat)
 |ins (C dx:nR) (fs:List (Str×V))
 |own (x:nR)
 |xd (fs:List (Str×V))
 |met (f x:nR)
 |rng (lo hi:Int)
 |frz (o:vi) (u:HO)
 |tbl (pos:Pos) (qual:Str)
 |ext (φ:Heap->Prop)
noncomputable abbrev Hp:=nR->Option HO
def upd (H:Hp)(a:nR)(o:HO):Hp:=λb=>if b=a then xg o else H b
theorem ze_ {H:Hp}{a:nR}{o:HO}:upd H a o a=xg o:=by unfold upd;rw[if_pos rfl]
theorem zm_ {H:Hp}{a b:nR}{o:HO}(h:b≠a):upd H a o b=H b:=by unfold upd;rw[if_neg h]
theorem ne_of {H:Hp}{a b:nR}{o u:HO}(h:H a=xg o)(h':H b=xg u)(d:o≠u):a≠b:=by
 intro e;subst e;rw[h]at h';exact d (pC h')
theorem zS_ {H:Hp}{a b:nR}{o:HO}(h:H a=xg o)(h':H b=xh):a≠b:=by
 intro e;subst e;rw[h]at h';cases h'
section
variable (P:oH)(w:oV)
def ObjOk (H:Hp)(h:Heap)(a:nR):HO->Prop
 |.lst xs=>xs.length<=oh/\∃(aa:List nI) (n:Nat),Vals xs aa/\h.get? a=xg {cls:=.type "list",data:=.seq aa.toArray n}|.tup xs=>xs.length<=oh/\∃aa:List nI,Vals xs aa/\IsTup h a aa.toArray|.dK kvs=>kvs.length<=oh/\(a == sysModules)=xk/\∃vs,KV kvs vs/\h.DictOf (mixKind P w) a vs| .dT kvs=>kvs.length<=oh/\(a == sysModules)=xk/\∃xs:List (List Key×nR×nI),
   Paired (λ(p:List Key×V) (q:List Key×nR×nI)=>p.1=q.1/\H q.2.1=xg (.tup (p.1.map kV))/\RelV p.2 q.2.2) kvs xs /\
   ∃o es ep,h.get? a=xg o/\o.ExactDict/\o.data=.dict es ep/\es.toList=xs.map (entryOfKey (tupleKind (mixKind P w)))/\(xs.map (·.1)).Nodup
 |.set S n=>h.SetOf (intKind P w) a S n| .ins C dx fs=>H dx=xg (.own a)/\fs.length<=1000/\dx≠a/\h.get? a=xg (sf C dx) /\
   ∃mA,h.Ns1 dx mA/\(∀f,RelO (fs.lookup f) (mA f))/\tV mA (fs.map (·.1))
 |.own _=>∃o,h.get? a=xg o|.xd fs=>∃mA,h.Ns1 a mA/\∀f,RelO (fs.lookup f) (mA f)|.rng lo hi=>∃t u v,h.get? a=xg {cls:=.type "range",data:=.fields #[.int lo t,.int hi u,.int 1 v]}|.frz o u=>h.get? a=xg o/\ObjOk H h a u|.tbl pos qual=>∃ps:Array nI,h.get? a=xg {cls:=.none,data:=.fields ps}/\TriplesOk ps.toList/\∀cv,codeAmong pos ps.toList=xg cv->∃c o vs t,cv=.ref c/\H c=xg (.frz o (.own a))/\o.data=.fields vs/\vs[1]?=xg (.str qual t)|.met f x=>h.get? a=xg (va (.ref f) (.ref x))|.ext φ=>φ h/\(∃o,h.get? a=xg o)/\∀h1 h2:Heap,φ h1->(∀o,h1.get? a=xg o->h2.get? a=xg o)->φ h2
def HOk (H:Hp)(h:Heap):Prop:=∀a o,H a=xg o->ObjOk P w H h a o
end
section
variable {P:oH}{w:oV}{H H':Hp}{h h':Heap}{a:nR}{o:HO}
theorem ObjOk.lt (x:ObjOk P w H h a o):a<h.objs.size:=by
 cases o with
 |lst xs=>obtain⟨_,_,_,_,e⟩:=x;exact ot e|tup xs=>obtain⟨_,_,_,p⟩:=x;exact p.lt|dK kvs=>obtain⟨_,_,_,_,o,_,_,e,_⟩:=x;exact ot e|dT kvs=>obtain⟨_,_,_,_,o,_,_,e,_⟩:=x;exact ot e|set S n=>obtain⟨o,_,_,_,e,_⟩:=x;exact ot e|ins C dx fs=>obtain⟨_,_,_,e,_⟩:=x;exact ot e|own y=>obtain⟨_,e⟩:=x;exact ot e|xd fs=>obtain⟨_,⟨_,_,_,e,_⟩,_⟩:=x;exact ot e|rng lo hi=>obtain⟨_,_,_,e⟩:=x;exact ot e|frz ob u=>obtain⟨e,_⟩:=x;exact ot e|tbl pos qual=>obtain⟨_,e,_⟩:=x;exact ot e|met f y=>exact ot (show h.get? a=xg _ from x)|ext φ=>obtain⟨_,⟨_,e⟩,_⟩:=x;exact ot e
theorem Paired.mapP {α β:Type}{F G:α->β->Prop}:∀{eU:List α}{eT:List β},Paired F eU eT->(∀a b,F a b->G a b)->Paired G eU eT
 |_,_,.nil,_=>.nil|_,_,.cons r t,f=>.cons (f _ _ r) (Paired.mapP t f)
theorem ObjOk.stay (x:ObjOk P w H h a o)(k:∀b u,(b=a\/H b=xg (.own a))->h.get? b=xg u->h'.get? b=xg u)
  (ho:∀b,H b=xg (.own a)->H' b=xg (.own a)) (ht:∀b xs,H b=xg (.tup xs)->H' b=xg (.tup xs)) (hf:∀b ob,H b=xg (.frz ob (.own a))->H' b=xg (.frz ob (.own a)):=by exact λ_ _ q=>q):ObjOk P w H' h' a o:=by
 induction o with
 |lst xs=>obtain⟨z,aa,n,r,e⟩:=x;exact⟨z,aa,n,r,k _ _ (.inl rfl) e⟩|tup xs=>obtain⟨z,aa,r,ob,e,c⟩:=x;exact⟨z,aa,r,ob,k _ _ (.inl rfl) e,c⟩|dK kvs=>obtain⟨z,y,vs,r,ob,es,ep,e,c⟩:=x;exact⟨z,y,vs,r,ob,es,ep,k _ _ (.inl rfl) e,c⟩|dT kvs=>
  obtain⟨z,y,xs,r,ob,es,ep,e,c⟩:=x;exact⟨z,y,xs,Paired.mapP r λp q z=>⟨z.1,ht _ _ z.2.1,z.2.2⟩,ob,es,ep,k _ _ (.inl rfl) e,c⟩
 |set S n=>obtain⟨ob,es,ep,t,e,c⟩:=x;exact⟨ob,es,ep,t,k _ _ (.inl rfl) e,c⟩|ins C dx fs=>
  obtain⟨d,z,ne,e,mA,⟨od,es,ep,e2,c⟩,r⟩:=x;exact⟨ho _ d,z,ne,k _ _ (.inl rfl) e,mA,⟨od,es,ep,k _ _ (.inr d) e2,c⟩,r⟩
 |own y=>obtain⟨ob,e⟩:=x;exact⟨ob,k _ _ (.inl rfl) e⟩|xd fs=>obtain⟨mA,⟨od,es,ep,e,c⟩,r⟩:=x;exact⟨mA,⟨od,es,ep,k _ _ (.inl rfl) e,c⟩,r⟩|rng lo hi=>obtain⟨t,u,v,e⟩:=x;exact⟨t,u,v,k _ _ (.inl rfl) e⟩|frz ob u ih=>obtain⟨e,q⟩:=x;exact⟨k _ _ (.inl rfl) e,ih q⟩|tbl pos qual=>
  obtain⟨ps,e,t,f⟩:=x;exact⟨ps,k a _ (.inl rfl) e,t,λcv q=>let⟨c,ob,vs,t,q1,q2,q3⟩:=f cv q;⟨c,ob,vs,t,q1,hf _ _ q2,q3⟩⟩
 |met f y=>
  have e:h.get? a=xg (va (.ref f) (.ref y)):=x;show h'.get? a=xg (va (.ref f) (.ref y))
  exact k a _ (.inl rfl) e
 |ext φ=>obtain⟨p,⟨o,e⟩,st⟩:=x;exact⟨st _ _ p λo q=>k _ _ (.inl rfl) q,⟨o,k _ _ (.inl rfl) e⟩,st⟩
theorem HOk.lt (x:HOk P w H h)(e:H a=xg o):a<h.objs.size:=(x a o e).lt
theorem HOk.fresh (x:HOk P w H h)(e:h.objs.size<=a):H a=xh:=by
 cases q:H a with
 |none=>rfl|some u=>exact absurd (oO (x.lt q) e) (rP _)
theorem HOk.kept (x:HOk P w H h)(k:∀b u,h.get? b=xg u->h'.get? b=xg u):HOk P w H h':=λa o e=>
 (x a o e).stay (λb u _ q=>k b u q) (λ_ q=>q) λ_ _ q=>q
theorem HOk.laid (x:HOk P w H h)(k:∀b u,h.get? b=xg u->h'.get? b=xg u)(hp:h.objs.size<=a)(new:ObjOk P w (upd H a o) h' a o):HOk P w (upd H a o) h':=λb u e=>by
 have hn:=x.fresh hp;by_cases hb:b=a
 ·subst hb;rw[ze_]at e;cases e;exact new
 ·rw[zm_ hb]at e
  exact(x b u e).stay (λc v _ q=>k c v q) (λc q=>by rw[zm_ (zS_ q hn)];exact q) (λc xs q=>by rw[zm_ (zS_ q hn)];exact q) λc ob q=>by rw[zm_ (zS_ q hn)];exact q
end
def Rd (H:Hp)(a:nR)(u:HO):Prop:=H a=xg u\/∃o,H a=xg (.frz o u)
theorem Rd.ok {P:oH}{w:oV}{H:Hp}{h:Heap}{a:nR}{u:HO}(r:Rd H a u)(x:HOk P w H h):ObjOk P w H h a u:=by
 rcases r with r |⟨o,r⟩
 ·exact x a u r
 ·obtain⟨_,q⟩:=x a _ r
  exact q
noncomputable def Mut:Option HO->Prop
 |some (.lst _)=>True
 |some (.dK _)=>True
 |some (.dT _)=>True
 |some (.set _ _)=>True
 |some (.ins _ _ _)=>True
 |some (.ext _)=>True
 |_=>False
section
variable {P:oH}{w:oV}{H:Hp}{h h':Heap}{x e:nR}{o':HO}
theorem HOk.write (ok:HOk P w H h)(mu:Mut (H x))(he:e=x\/H e=xg (.own x))(k:∀b u,b≠e->h.get? b=xg u->h'.get? b=xg u)(ck:∃u,h'.get? e=xg u)
  (new:ObjOk P w (upd H x o') h' x o'):HOk P w (upd H x o') h':=λb u q=>by
 have eL:∀c y,H c=xg (.own y)->c≠x:=λc y r z=>by subst z;rw[r]at mu;exact mu
 have gG:∀c xs,H c=xg (.tup xs)->c≠x:=λc xs r z=>by subst z;rw[r]at mu;exact mu
 by_cases hb:b=x
 ·subst hb;rw[ze_]at q;cases q;exact new
 ·rw[zm_ hb]at q
  by_cases hbe:b=e
  ·have q':H b=xg (.own x):=by
    rcases he with z |z
    ·exact absurd (hbe.trans z) hb
    ·rw[hbe];exact z
   rw[q]at q';cases q';obtain⟨v,hv⟩:=ck;exact⟨v,by rw[hbe];exact hv⟩
  ·refine(ok b u q).stay (λc v hc r=>k c v ?_ r) (λc r=>by rw[zm_ (eL c b r)];exact r) (λc xs r=>by rw[zm_ (gG c xs r)];exact r) λc ob r=>by rw[zm_ (λz=>by subst z;rw[r]at mu;exact mu)];exact r
   rcases hc with rfl |hc
   ·exact hbe
   ·rintro rfl
    rcases he with z |z
    ·exact eL c b hc z
    ·rw[hc]at z;cases z;exact hb rfl
end
structure Un (fs ex:List nR)(H H':Hp)(h h':Heap):Prop where
 keep:∀b o,h.get? b=xg o->H b=xh->b∉fs->b∉ex->h'.get? b=xg o
 slot:∀b o,h.get? b=xg o->H b=xh->b∈fs->b∉ex->∃sl,h'.get? b=xg {o with slots:=sl}
 free:∀b o,h.get? b=xg o->H b=xh->b∉ex->H' b=xh
 there:∀b o,h.get? b=xg o->b∉ex->∃o',h'.get? b=xg o'
 tups:∀b xs,H b=xg (.tup xs)->H' b=xg (.tup xs)
 frzs:∀b o u,H b=xg (.frz o u)->H' b=xg (.frz o u)
 tbls:∀b p q,H b=xg (.tbl p q)->H' b=xg (.tbl p q)
section
variable {fs ex:List nR}{H H1:Hp}{h h1 h':Heap}{a x e:nR}{o:HO}
theorem Un.any (u:Un fs ex H H1 h h1){b:nR}{ob:vi}(q:h.get? b=xg ob)(n:H b=xh)(hx:b∉ex):∃sl,h1.get? b=xg {ob with slots:=sl}:=by
 by_cases hb:b∈fs
 ·exact u.slot b ob q n hb hx
 ·exact⟨ob.slots,u.keep b ob q n hb hx⟩
theorem Un.kept (k:∀b u,h.get? b=xg u->h'.get? b=xg u):Un fs ex H H h h':=
 ⟨λb ob q _ _ _=>k b ob q,λb ob q _ _ _=>⟨ob.slots,k b ob q⟩,λ_ _ _ n _=>n,λb ob q _=>⟨ob,k b ob q⟩,λ_ _ q=>q,λ_ _ _ q=>q,λ_ _ _ q=>q⟩
theorem Un.refl:Un fs ex H H h h:=Un.kept λ_ _ q=>q
theorem Un.laid (k:∀b u,h.get? b=xg u->h'.get? b=xg u)(hp:h.objs.size<=a)(hn:H a=xh):Un fs ex H (upd H a o) h h' where
 keep:=λb u q _ _ _=>k b u q
 slot:=λb u q _ _ _=>⟨u.slots,k b u q⟩
 free:=λb u q n _=>by rw[zm_ (oR (oO (ot q) hp))];exact n
 there:=λb u q _=>⟨u,k b u q⟩
 tups:=λb xs q=>by rw[zm_ (zS_ q hn)];exact q
 frzs:=λb u xs q=>by rw[zm_ (zS_ q hn)];exact q
 tbls:=λb p' q' q=>by rw[zm_ (zS_ q hn)];exact q
theorem Un.write (mu:Mut (H x))(he:e=x\/H e=xg (.own x))(k:∀b u,b≠e->h.get? b=xg u->h'.get? b=xg u)(ck:∃u,h'.get? e=xg u):Un fs ex H (upd H x o) h h':=by
 have hx:∀b,H b=xh->b≠x:=λb n z=>by subst z;rw[n]at mu;exact mu
 have hb:∀b,H b=xh->b≠e:=λb n z=>by
  subst z;rcases he with r |r
  ·exact hx b n r
  ·rw[n]at r;cases r
 have hm:∀b u,H b=xg u->¬Mut (xg u)->b≠x:=λb u q nm z=>by subst z;rw[q]at mu;exact nm mu
 refine⟨λb u q n _ _=>k b u (hb b n) q,λb u q n _ _=>⟨u.slots,k b u (hb b n) q⟩,λb u q n _=>by rw[zm_ (hx b n)];exact n,λb u q _=>?_,
  λb xs q=>by rw[zm_ (hm b _ q λz=>z)];exact q,λb u xs q=>by rw[zm_ (hm b _ q λz=>z)];exact q,λb p' q' q=>by rw[zm_ (hm b _ q λz=>z)];exact q⟩
 by_cases hbe:b=e
 ·subst hbe;exact ck
 ·exact⟨u,k b u hbe q⟩
end
def trk (h:Heap)(H:Hp):List nR:=(oU h.objs.size).filter λa=>(H a).isSome
def hidT (h:Heap)(H:Hp):Heap:=tL h (trk h H)
theorem zgL_ (h:Heap)(H:Hp):(hidT h H).objs.size=h.objs.size:=W.hideAll_size _ _
theorem zi5_ {h:Heap}{H:Hp}{b:nR}{o:vi}(e:h.get? b=xg o)(n:H b=xh):(hidT h H).get? b=xg o:=
 tF _ e λhm=>by
  have q:(H b).isSome=xj:=(vb.mp hm).2;rw[n]at q;simp at q
theorem zki_ {h:Heap}{H:Hp}{b:nR}{o:vi}(e:(hidT h H).get? b=xg o):h.get? b=xg o/\H b=xh:=by
 have e':h.get? b=xg o:=sO (trk h H) e;refine⟨e',?_⟩;cases q:H b with
 |none=>rfl|some x=>
  have hm:b∈trk h H:=vb.mpr ⟨pP.mpr (ot e'),by simp[q]⟩
  have z:(hidT h H).get? b=xh:=qc (trk h H) hm;rw[z]at e;cases e
def lamF (K:Fgg):Option pL:=match qu K oI "put_in_order" with
 |some (xg (.ref f))=>(match K.lookup f with
  |some ⟨_,_,.func fd,_⟩=>xg fd|_=>xh)
 |_=>xh
noncomputable def lamP (b:FuncBody):Option Pos:=match b with
 |.stmts [.Return (xg (.Call _ _ [⟨_,.Lambda _ _ _ pos,_⟩] _)) _]=>xg pos|_=>xh
def lamK (K:Fgg):Option (nR×Pos×Str):=(W.tabIn K "put_in_order").bind λt=>(lamF K).bind λfd=>(lamP fd.body).map λpos=>(t.2,pos,fd.qualname ++ ".<locals>." ++ "<lambda>")
def Tb (K:Fgg)(H:Hp):Prop:=∀P pos q,lamK K=xg (P,pos,q)->H P=xg (.tbl pos q)
structure Mod (K:Fgg)(mg:Str->Option nI)(base:Heap):Prop where
 kin:K.In base
 glob:base.Ns oI mg
 blt:∃mb,base.Ns builtinsNs mb/\∀x:Str,x ≠ "__name__" -> mb x=qA x
 nolimit:base.NoLimit
 bm:∃bm ob,mg "__builtins__"=xg (.ref bm)/\bm≠builtinsNs/\base.get? bm=xg ob/\ob.cls=.type "module" /\ ob.dict=xg builtinsNs/\ob.data=.plain
structure Cx where
 prog:oH
 w:oV
 K:Fgg
 mg:Str->Option nI
 base:Heap
 A:ph
 N:List Str
 s₀:nO
 H₀:Hp
 env:Env
 outer:List Env
 stack:List Env
 ex:List nR
 fn:Str->Bool
 calm:Bool
 pn:Pnn
 xe:nI->nO->Prop
noncomputable def frs (l:List Env):List nR:=l.filterMap (·.frame)
abbrev Cx.fs (X:Cx):List nR:=frs X.outer
def Vis (sc:Scope)(x:Str):Prop:=sc.names.lookup x=xg .local\/sc.names.lookup x=xg .cell\/sc.names.lookup x=xg .free
def Loc (sc:Scope)(x:Str):Prop:=sc.names.lookup x=xg .local\/sc.names.lookup x=xg .cell
def Look (env:Env)(h:Heap)(m:Str->Option nI)(x:Str)(u:nI):Prop:=
 (env.kindOf x=xg .local/\m x=xg u)\/((env.kindOf x=xg .cell\/env.kindOf x=xg .free)/\∃c,env.cells.lookup x=xg c/\h.IsCell c (xg u))
structure Cx.Ok (X:Cx):Prop where
 mod:Mod X.K X.mg X.base
 kind:X.env.scope.kind=.function
 glob:X.env.globals=oI
 blt:X.env.builtins=builtinsNs
 above:X.s₀.heap.objs.size<=X.env.locals
 inj:∀x y c,X.env.cells.lookup x=xg c->X.env.cells.lookup y=xg c->x=y
 has:∀x,(X.env.kindOf x=xg .cell\/X.env.kindOf x=xg .free)->∃c,X.env.cells.lookup x=xg c
 cab:∀x c,X.fn x=xj->X.env.cells.lookup x=xg c->X.s₀.heap.objs.size<=c
 hd:X.calm=xj->X.A.handled=xh
 frames:X.A.frames=xg X.stack
 stk:X.stack=X.outer\/(X.stack=X.env::X.outer/\X.env.frame=xg X.env.locals)
 exf:∀b∈X.ex,b≠X.env.locals/\∀x c,X.env.cells.lookup x=xg c->c≠b
 bs:∀b o,X.base.get? b=xg o->X.s₀.heap.get? b=xg o/\X.H₀ b=xh
 bsz:X.base.objs.size<=X.s₀.heap.objs.size
 noex:∀b o,X.base.get? b=xg o->b∉X.ex
 exfs:∀b∈X.ex,b∉X.fs
 funs:X.s₀.heap.FunFrames X.base X.outer
 frf:∀b∈X.fs,X.H₀ b=xh
 tb:Tb X.K X.H₀
structure Inv (X:Cx)(pins:Pnn)(σ:List (Option V))(H:Hp)(s:nO):Prop where
 ok:X.Ok
 os:s.os=X.s₀.os
 bare:AllBare s.gens
 base:Un X.fs X.ex X.H₀ H X.s₀.heap s.heap
 loc:∃m,s.heap.Ns X.env.locals m/\∀(i:Nat) (x:Str) (v:V),X.N[i]?=xg x->σ[i]?=xg (xg v)->Vis X.env.scope x->∃u,RelV v u/\Look X.env s.heap m x u
 cell:∀x c,X.env.cells.lookup x=xg c->∃v,s.heap.IsCell c v
 free:H X.env.locals=xh
 freeC:∀x c,X.env.cells.lookup x=xg c->H c=xh
 pin:∀p∈X.pn++pins,s.heap.get? p.1=xg p.2/\H p.1=xh/\p.1≠X.env.locals/\p.1∉X.fs/\∀v,p.2.data≠.cell v
 hok:HOk X.prog X.w H s.heap
 len:σ.length=X.N.length
section
variable {X:Cx}{pins:Pnn}{σ:List (Option V)}{H H':Hp}{s:nO}{h':Heap}
theorem Cx.Ok.nofr (ok:X.Ok){b:nR}{o:vi}(e:X.base.get? b=xg o):b∉X.fs:=λhb=>by
 have:=(ok.funs.mem hb).1;rw[e]at this;cases this
theorem Inv.bs (I:Inv X pins σ H s):∀b o,X.base.get? b=xg o->s.heap.get? b=xg o/\H b=xh:=λb o e=>
 ⟨I.base.keep b o (I.ok.bs b o e).1 (I.ok.bs b o e).2 (I.ok.nofr e) (I.ok.noex b o e),I.base.free b o (I.ok.bs b o e).1 (I.ok.bs b o e).2 (I.ok.noex b o e)⟩
theorem Inv.tb (I:Inv X pins σ H s):Tb X.K H:=λP p q e=>I.base.tbls _ _ _ (I.ok.tb P p q e)
theorem Inv.bk (I:Inv X pins σ H s):∀b o,X.base.get? b=xg o->s.heap.get? b=xg o:=λb o e=>(I.bs b o e).1
theorem Inv.mod (I:Inv X pins σ H s):Mod X.K X.mg X.base:=I.ok.mod
theorem Inv.kIn (I:Inv X pins σ H s):X.K.In s.heap:=I.ok.mod.kin.keeps I.bk
theorem Inv.lt (I:Inv X pins σ H s):X.env.locals<s.heap.objs.size:=let⟨_,hn,_⟩:=I.loc;hn.lt
theorem Inv.sz (I:Inv X pins σ H s):X.s₀.heap.objs.size<=s.heap.objs.size:=pX I.ok.above (sQ I.lt)
theorem Inv.nofs (I:Inv X pins σ H s){a:nR}(h:s.heap.objs.size<=a):a∉X.fs:=λhb=>by
 obtain⟨_,o,ho,_⟩:=I.ok.funs.mem hb;exact absurd (oO (ot ho) (pX I.sz h)) (rP _)
theorem Inv.cne (I:Inv X pins σ H s):∀x c,X.env.cells.lookup x=xg c->c≠X.env.locals:=λx c e z=>by
 obtain⟨v,o,ho,hd⟩:=I.cell x c e;obtain⟨m,⟨o',es,ep,aL,hd',_⟩,_⟩:=I.loc;rw[z,aL]at ho;cases ho;rw[hd']at hd;cases hd
theorem Inv.funs (I:Inv X pins σ H s):s.heap.FunFrames X.base X.outer:=by
 have all:∀(l:List Env),(∀b∈frs l,b∈X.fs)->X.s₀.heap.FunFrames X.base l->s.heap.FunFrames X.base l:=by
  intro l;induction l with
  |nil=>intro _ _;trivial
  |cons env r ih=>
   intro hs hl;obtain⟨hk,⟨L,o,hf,hn,ho,hd⟩,hr⟩:=hl;have hL:L∈X.fs:=hs L (by unfold frs;rw[rM,hf];exact nV)
   obtain⟨sl,e⟩:=I.base.slot L o ho (I.ok.frf L hL) hL λz=>I.ok.exfs L z hL
   exact⟨hk,⟨L,_,hf,hn,e,hd⟩,ih (λb hb=>hs b (by unfold frs;rw[rM,hf];exact nY _ hb)) hr⟩
 exact all X.outer (λ_ hb=>hb) I.ok.funs
theorem Inv.stack (I:Inv X pins σ H s):s.heap.FunFrames X.base X.stack:=by
 rcases I.ok.stk with e |⟨e,hf⟩
 ·rw[e];exact I.funs
 ·rw[e]
  obtain⟨m,hn,_⟩:=I.loc;refine .cons (by rw[I.ok.kind];decide) hf hn ?_ I.funs
  exact Heap.get?_none_of_le (pX I.ok.bsz I.ok.above)
theorem Inv.stkSub (I:Inv X pins σ H s):∀b∈frs X.stack,b∈X.env.locals::X.fs:=λb hb=>by
 rcases I.ok.stk with e |⟨e,hf⟩
 ·rw[e]at hb;exact nY _ hb
 ·rw[e]at hb
  unfold frs at hb;rw[rM,hf]at hb;exact hb
theorem Inv.stkFree (I:Inv X pins σ H s):∀b∈frs X.stack,H b=xh:=λb hb=>by
 rcases og.mp (I.stkSub b hb)with e |hb
 ·rw[e];exact I.free
 ·obtain⟨_,o,ho,_⟩:=I.ok.funs.mem hb
  exact I.base.free b o ho (I.ok.frf b hb) λz=>I.ok.exfs b z hb
theorem Inv.step {g':Array GenState}{t':Nat}{d':Drawn}{ch:List nR}(I:Inv X pins σ H s)
  (cm:∀b∈ch,(b∈X.ex\/X.s₀.heap.objs.size<=b)/\b≠X.env.locals/\(∀x c,X.env.cells.lookup x=xg c->c≠b)/\∀p∈X.pn++pins,p.1≠b)
  (keep:∀b o,b≠X.env.locals->b∉X.fs->b∉ch->s.heap.get? b=xg o->H b=xh->h'.get? b=xg o)
  (slot:∀b o,b≠X.env.locals->b∈X.fs->b∉ch->s.heap.get? b=xg o->H b=xh->∃sl,h'.get? b=xg {o with slots:=sl}) (free:∀b o,b∉ch->s.heap.get? b=xg o->H b=xh->H' b=xh)
  (there:∀b o,b∉ch->s.heap.get? b=xg o->∃o',h'.get? b=xg o')
  (tups:∀b xs,H b=xg (.tup xs)->H' b=xg (.tup xs)) (frzs:∀b o u,H b=xg (.frz o u)->H' b=xg (.frz o u)) (tbls:∀b p q,H b=xg (.tbl p q)->H' b=xg (.tbl p q))
  (ns:∀m,s.heap.Ns X.env.locals m->h'.Ns X.env.locals m) (hok:HOk X.prog X.w H' h') (hg:AllBare g'):
  Inv X pins σ H' {s with heap:=h',gens:=g',drawn:=d',toks:=t'}:=by
 have i6:∀b o,X.s₀.heap.get? b=xg o->b≠X.env.locals:=λb o e=>oR (oO (ot e) I.ok.above)
 have f9:∀b o,X.s₀.heap.get? b=xg o->b∉X.ex->b∉ch:=λb o e hx hb=>by
  rcases(cm b hb).1 with z |z
  ·exact hx z
  ·exact absurd (oO (ot e) z) (rP _)
 have cellK:∀x c,X.env.cells.lookup x=xg c->∀v,s.heap.IsCell c v->h'.IsCell c v:=λx c e v ⟨o,ho,hd⟩=>by
  have eS:c∉ch:=λz=>(cm c z).2.2.1 x c e rfl
  by_cases hc:c∈X.fs
  ·obtain⟨sl,q⟩:=slot c o (I.cne x c e) hc eS ho (I.freeC x c e)
   exact⟨_,q,hd⟩
  ·exact⟨o,keep c o (I.cne x c e) hc eS ho (I.freeC x c e),hd⟩
 refine⟨I.ok,I.os,hg,⟨λb o e n hb hx=>?_,λb o e n hb hx=>?_,λb o e n hx=>?_,λb o e hx=>?_,λb xs e=>tups b xs (I.base.tups b xs e),λb o xs e=>frzs b o xs (I.base.frzs b o xs e),λb p q e=>tbls b p q (I.base.tbls b p q e)⟩,?_,λx c e=>?_,?_,λx c e=>?_,λp hp=>?_,hok,I.len⟩
 ·exact keep b o (i6 b o e) hb (f9 b o e hx) (I.base.keep b o e n hb hx) (I.base.free b o e n hx)
 ·obtain⟨sl,e1⟩:=I.base.slot b o e n hb hx
  obtain⟨cu,e2⟩:=slot b _ (i6 b o e) hb (f9 b o e hx) e1 (I.base.free b o e n hx);exact⟨cu,e2⟩
 ·obtain⟨o',e1⟩:=I.base.there b o e hx
  exact free b o' (f9 b o e hx) e1 (I.base.free b o e n hx)
 ·obtain⟨o',e1⟩:=I.base.there b o e hx
  exact there b o' (f9 b o e hx) e1
 ·obtain⟨m,hn,hl⟩:=I.loc
  refine⟨m,ns m hn,λi x v e1 e2 e3=>?_⟩
  obtain⟨u,r,l⟩:=hl i x v e1 e2 e3;refine⟨u,r,?_⟩;rcases l with l |⟨k,c,e,z⟩
  ·exact .inl l
  ·exact .inr ⟨k,c,e,cellK x c e _ z⟩
 ·obtain⟨v,z⟩:=I.cell x c e
  exact⟨v,cellK x c e v z⟩
 ·obtain⟨m,⟨o,_,_,ho,_⟩,_⟩:=I.loc
  exact free _ o (λz=>(cm _ z).2.1 rfl) ho I.free
 ·obtain⟨v,o,ho,hd⟩:=I.cell x c e
  exact free c o (λz=>(cm c z).2.2.1 x c e rfl) ho (I.freeC x c e)
 ·obtain⟨e,n,ne,nf,d⟩:=I.pin p hp
  have eS:p.1∉ch:=λz=>(cm p.1 z).2.2.2 p hp rfl
  exact⟨keep p.1 p.2 ne nf eS e n,free p.1 p.2 eS e n,ne,nf,d⟩
theorem Inv.un {t':Nat}(I:Inv X pins σ H s)(u:Un X.fs [] H H' s.heap h')(hok:HOk X.prog X.w H' h'):Inv X pins σ H' {s with heap:=h',toks:=t'}:=by
 obtain⟨m,⟨o,es,ep,ho,r⟩,_⟩:=id I.loc;obtain⟨sl,hL⟩:=u.any ho I.free (by simp)
 exact I.step (g':=s.gens) (d':=s.drawn) (ch:=[]) (λ_ z=>nomatch z) (λb o _ hb _ e n=>u.keep b o e n hb (by simp)) (λb o _ hb _ e n=>u.slot b o e n hb (by simp)) (λb o _ e n=>u.free b o e n (by simp)) (λb o _ e=>u.there b o e (by simp)) u.tups u.frzs u.tbls (λm' hm=>by
  obtain⟨o',es',ep',aL,r'⟩:=hm;rw[ho]at aL;cases aL;exact⟨_,es',ep',hL,r'⟩) hok I.bare
theorem Inv.call {g':Array GenState}{t':Nat}{d':Drawn}{ch:List nR}(I:Inv X pins σ H s)(u:Un (frs X.stack) ch H H' s.heap h')(hok:HOk X.prog X.w H' h')(hg:AllBare g')
  (cm:∀b∈ch,(b∈X.ex\/X.s₀.heap.objs.size<=b)/\b≠X.env.locals/\(∀x c,X.env.cells.lookup x=xg c->c≠b)/\∀p∈X.pn++pins,p.1≠b):
  Inv X pins σ H' {s with heap:=h',gens:=g',drawn:=d',toks:=t'}:=by
 obtain⟨m,⟨o,es,ep,ho,r⟩,_⟩:=id I.loc;obtain⟨sl,hL⟩:=u.any ho I.free λz=>(cm _ z).2.1 rfl
 exact I.step (ch:=ch) cm (λb o hL hb hc e n=>u.keep b o e n (λz=>(og.mp (I.stkSub b z)).elim hL hb) hc) (λb o _ _ hc e n=>u.any e n hc) (λb o hc e n=>u.free b o e n hc) (λb o hc e=>u.there b o e hc) u.tups u.frzs u.tbls (λm' hm=>by
  obtain⟨o',es',ep',aL,r'⟩:=hm;rw[ho]at aL;cases aL;exact⟨_,es',ep',hL,r'⟩) hok hg
theorem Inv.turned {t':Nat}{it:nR}(I:Inv X pins σ H s)(k:∀b o,b≠it->s.heap.get? b=xg o->h'.get? b=xg o)(hn:H it=xh)(hL:it≠X.env.locals)
  (h1:it∈X.ex\/X.s₀.heap.objs.size<=it) (h2:∀x c,X.env.cells.lookup x=xg c->c≠it) (h3:∀p∈X.pn++pins,p.1≠it):Inv X pins σ H {s with heap:=h',toks:=t'}:=by
 have eO:∀b u,H b=xg u->b≠it:=λb u e z=>by rw[z,hn]at e;cases e
 refine I.step (g':=s.gens) (d':=s.drawn) (ch:=[it]) (λb hb=>?_) (λb o _ _ hc e _=>k b o (λz=>hc (by simp[z])) e) (λb o _ _ hc e _=>⟨o.slots,k b o (λz=>hc (by simp[z])) e⟩) (λ_ _ _ _ n=>n)
  (λb o hc e=>⟨o,k b o (λz=>hc (by simp[z])) e⟩) (λ_ _ e=>e) (λ_ _ _ e=>e) (λ_ _ _ e=>e) (λm hm=>?_) (λb u e=>?_) I.bare
 ·have e:b=it:=by simpa using hb
  subst e;exact⟨h1,hL,h2,h3⟩
 ·obtain⟨o,es,ep,ho,r⟩:=hm
  exact⟨o,es,ep,k _ o (rA hL) ho,r⟩
 ·refine(I.hok b u e).stay (λc v hc q=>k c v ?_ q) (λ_ q=>q) λ_ _ q=>q
  rcases hc with z |z
  ·rw[z];exact eO b u e
  ·exact eO c _ z
theorem Inv.tok (I:Inv X pins σ H s)(t:Nat):Inv X pins σ H {s with toks:=t}:=I.un (h':=s.heap) (t':=t) Un.refl I.hok
theorem Inv.kept {t':Nat}(I:Inv X pins σ H s)(k:∀b u,s.heap.get? b=xg u->h'.get? b=xg u):Inv X pins σ H {s with heap:=h',toks:=t'}:=I.un (Un.kept k) (I.hok.kept k)
theorem Inv.laid {a:nR}{o:HO}{t':Nat}(I:Inv X pins σ H s)(k:∀b u,s.heap.get? b=xg u->h'.get? b=xg u)(hp:s.heap.objs.size<=a)(new:ObjOk X.prog X.w (upd H a o) h' a o):
  Inv X pins σ (upd H a o) {s with heap:=h',toks:=t'}:=I.un (Un.laid k hp (I.hok.fresh hp)) (I.hok.laid k hp new)
theorem Inv.write {x e:nR}{o:HO}{t':Nat}(I:Inv X pins σ H s)(mu:Mut (H x))(he:e=x\/H e=xg (.own x))(k:∀b u,b≠e->s.heap.get? b=xg u->h'.get? b=xg u)(ck:∃u,h'.get? e=xg u)
  (new:ObjOk X.prog X.w (upd H x o) h' x o):Inv X pins σ (upd H x o) {s with heap:=h',toks:=t'}:=I.un (Un.write mu he k ck) (I.hok.write mu he k ck new)
theorem Inv.pins_of {cK:Pnn}(I:Inv X pins σ H s)(h:∀p∈cK,s.heap.get? p.1=xg p.2/\H p.1=xh/\p.1≠X.env.locals/\p.1∉X.fs/\∀v,p.2.data≠.cell v):Inv X cK σ H s:=
 ⟨I.ok,I.os,I.bare,I.base,I.loc,I.cell,I.free,I.freeC,λp hp=>(oP.mp hp).elim (λz=>I.pin p (qQ _ z)) (h p),I.hok,I.len⟩
theorem zdi_ {N:List Str}(hN:N.Nodup){i j:Nat}{x:Str}(a:N[i]?=xg x)(b:N[j]?=xg x):i=j:=by
 obtain⟨h1,e1⟩:=oA.mp a;obtain⟨h2,e2⟩:=oA.mp b;exact(List.getElem_inj hN).mp (e1.trans e2.symm)
theorem zgN_ {M:Model}{A:ph}{E:nI->nO->Prop}{i:Nat}{x:Str}{v:V}{u:nI}{Q:Unit->nO->Prop}(I:Inv X pins σ H s)(hN:X.N.Nodup)(hi:X.N[i]?=xg x)(hx:Loc X.env.scope x)(r:RelV v u)
  (h:∀s',Inv X pins (σ.set i (xg v)) H s'->(∃a,rG a s.heap s'.heap/\(a=X.env.locals\/X.env.cells.lookup x=xg a))->Q () s') (hf:X.fn x=xj\/X.env.scope.names.lookup x=xg .local:=by first |exact .inl rfl |exact .inr rfl |assumption):oB M A (storeName X.env x u) Q E s:=by
 obtain⟨m,hn,hl⟩:=id I.loc;have dF:(X.env.scope.kind == .class ||(X.env.scope.kind == .module && X.env.locals != X.env.globals))=xk:=by rw[I.ok.kind];rfl
 have bW:i<σ.length:=by rw[I.len];exact(oA.mp hi).1
 have cne:=I.cne;have tracked:∀{a:nR}{h':Heap},(∃o,s.heap.get? a=xg o/\H a=xh)->rG a s.heap h'->HOk X.prog X.w H h':=λ{a h'} ha hs b ob e=>by
  obtain⟨_,_,hfree⟩:=ha;refine(I.hok b ob e).stay (λc w' hc q=>(hs.2 c ?_).trans q) (λ_ q=>q) λ_ _ q=>q
  rintro rfl;rcases hc with rfl |hc
  ·rw[hfree]at e;cases e
  ·rw[hfree]at hc;cases hc
 rcases hx with hk |hk
 ·refine wpAny_storeName_local hk hn (λh' hG hs=>?_) dF
  obtain⟨oL,_,_,d_,_⟩:=id hn;refine h _ ⟨I.ok,I.os,I.bare,⟨λb o e n hb hx=>?_,λb o e n hb hx=>?_,I.base.free,λb o e hx=>?_,I.base.tups,I.base.frzs,I.base.tbls⟩,⟨_,hG,λj y v' e1 e2 e3=>?_⟩,λy c e=>?_,I.free,I.freeC,λp hp=>?_,tracked ⟨oL,d_,I.free⟩ hs,by simpa using I.len⟩ ⟨_,hs,.inl rfl⟩
  ·exact(hs.2 b (oR (oO (ot e) I.ok.above))).trans (I.base.keep b o e n hb hx)
  ·obtain⟨sl,e1⟩:=I.base.slot b o e n hb hx
   exact⟨sl,(hs.2 b (oR (oO (ot e) I.ok.above))).trans e1⟩
  ·obtain⟨o',e1⟩:=I.base.there b o e hx
   exact⟨o',(hs.2 b (oR (oO (ot e) I.ok.above))).trans e1⟩
  ·by_cases hj:j=i
   ·subst hj
    rw[hi]at e1;cases e1;rw[pY bW]at e2;cases e2;exact⟨u,r,.inl ⟨hk,by simp⟩⟩
   ·rw[pI (rA hj)]at e2
    obtain⟨u',r',q⟩:=hl j y v' e1 e2 e3;refine⟨u',r',?_⟩;rcases q with⟨k,e⟩|⟨k,c,e,z⟩
    ·refine .inl ⟨k,?_⟩
     have:y≠x:=λe=>hj (zdi_ hN e1 (e ▸ hi))
     simp[this,e]
    ·exact .inr ⟨k,c,e,z.sameBut hs (cne y c e)⟩
  ·obtain⟨w',z⟩:=I.cell y c e
   exact⟨w',z.sameBut hs (cne y c e)⟩
  ·obtain⟨e,n,ne,nf,d⟩:=I.pin p hp
   exact⟨(hs.2 p.1 ne).trans e,n,ne,nf,d⟩
 ·have fA:X.fn x=xj:=by
   rcases hf with z |z
   ·exact z
   ·rw[z]at hk;cases hk
  obtain⟨c,hc⟩:=I.ok.has x (.inl hk);obtain⟨w',z⟩:=I.cell x c hc;refine wpAny_storeName_cell I.ok.kind hk hc z (λh' dG hs=>?_)
  obtain⟨oc,hoc,hocd⟩:=id z;refine h {s with heap:=h'} ⟨I.ok,I.os,I.bare,⟨λb o e n hb hx=>?_,λb o e n hb hx=>?_,I.base.free,λb o e hx=>?_,I.base.tups,I.base.frzs,I.base.tbls⟩,⟨m,hn.sameBut hs (rA (cne x c hc)),λj y v' e1 e2 e3=>?_⟩,λy c' e=>?_,I.free,I.freeC,λp hp=>?_,tracked ⟨oc,hoc,I.freeC x c hc⟩ hs,by simpa using I.len⟩ ⟨c,hs,.inr hc⟩
  ·exact(hs.2 b (oR (oO (ot e) (I.ok.cab x c fA hc)))).trans (I.base.keep b o e n hb hx)
  ·obtain⟨sl,e1⟩:=I.base.slot b o e n hb hx
   exact⟨sl,(hs.2 b (oR (oO (ot e) (I.ok.cab x c fA hc)))).trans e1⟩
  ·obtain⟨o',e1⟩:=I.base.there b o e hx
   exact⟨o',(hs.2 b (oR (oO (ot e) (I.ok.cab x c fA hc)))).trans e1⟩
  ·by_cases hj:j=i
   ·subst hj
    rw[hi]at e1;cases e1;rw[pY bW]at e2;cases e2;exact⟨u,r,.inr ⟨.inl hk,c,hc,dG⟩⟩
   ·rw[pI (rA hj)]at e2
    obtain⟨u',r',q⟩:=hl j y v' e1 e2 e3;refine⟨u',r',?_⟩;rcases q with q |⟨k,c',e,z'⟩
    ·exact .inl q
    ·refine .inr ⟨k,c',e,z'.sameBut hs ?_⟩
     rintro rfl;exact hj (zdi_ hN e1 (I.ok.inj _ _ _ e hc ▸ hi))
  ·by_cases hcc:c'=c
   ·subst hcc;exact⟨_,dG⟩
   ·obtain⟨w2,z2⟩:=I.cell y c' e
    exact⟨w2,z2.sameBut hs hcc⟩
  ·obtain⟨e,n,ne,nf,d⟩:=I.pin p hp
   refine⟨(hs.2 p.1 ?_).trans e,n,ne,nf,d⟩;intro q;rw[q,hoc]at e;have q':oc=p.2:=pC e;exact d w' (by rw[<- q'];exact hocd)
theorem zcr_ {M:Model}{A:ph}{E:nI->nO->Prop}{i:Nat}{x:Str}{v:V}{u:nI}{Q:Unit->nO->Prop}(I:Inv X pins σ H s)(hN:X.N.Nodup)(hi:X.N[i]?=xg x)(hx:Loc X.env.scope x)(r:RelV v u)
  (h:∀s',Inv X pins (σ.set i (xg v)) H s'->Q () s') (hf:X.fn x=xj\/X.env.scope.names.lookup x=xg .local:=by first |exact .inl rfl |exact .inr rfl |assumption):oB M A (storeName X.env x u) Q E s:=
 zgN_ I hN hi hx r (λs' I' _=>h s' I') hf
theorem Inv.call' {s':nO}{ch:List nR}(I:Inv X pins σ H s)(ho:s'.os=s.os)(u:Un (frs X.stack) ch H H' s.heap s'.heap)(hok:HOk X.prog X.w H' s'.heap)(hg:AllBare s'.gens)
  (cm:∀b∈ch,(b∈X.ex\/X.s₀.heap.objs.size<=b)/\b≠X.env.locals/\(∀x c,X.env.cells.lookup x=xg c->c≠b)/\∀p∈X.pn++pins,p.1≠b):Inv X pins σ H' s':=by
 obtain⟨h',g',d',t',o'⟩:=s';have e:o'=s.os:=ho;subst e;exact I.call (g':=g') (t':=t') (d':=d') u hok hg cm
end
abbrev XK:=nI->Option nR->Hp->Prop
noncomputable abbrev St:=List (Option V)
abbrev VK:=V->Hp->Prop
abbrev TE:=St->Hp->VK->Prop
abbrev TT:=St->Hp->(Bool->Hp->Prop)->Prop
abbrev TA:=St->Hp->(List V->Hp->Prop)->Prop
structure Ends where
 nx:St->Hp->Prop
 rt:VK
 bk:St->Hp->Prop:=λ_ _=>False
 ct:St->Hp->Prop:=λ_ _=>False
abbrev TS:=Ends->St->Hp->Prop
def EP (X:Cx)(pins:Pnn)(σ:St)(Q:VK)(u:nI)(s':nO):Prop:=∃v H',Inv X pins σ H' s'/\RelV v u/\Q v H'
def TP (X:Cx)(pins:Pnn)(σ:St)(Q:Bool->Hp->Prop)(b:Bool)(s':nO):Prop:=∃H',Inv X pins σ H' s'/\Q b H'
def AP (X:Cx)(pins:Pnn)(σ:St)(Q:List V->Hp->Prop)(us:List nI)(s':nO):Prop:=∃vs H',Inv X pins σ H' s'/\Vals vs us/\Q vs H'
def SP (X:Cx)(pins:Pnn)(D:Ends)(f:Flow)(s':nO):Prop:=
 match f with
 |.next=>∃ah H',Inv X pins ah H' s'/\D.nx ah H'|.brk=>∃ah H',Inv X pins ah H' s'/\D.bk ah H'|.cont=>∃ah H',Inv X pins ah H' s'/\D.ct ah H'|.ret u=>∃v ah H',Inv X pins ah H' s'/\RelV v u/\D.rt v H'
def PE (X:Cx)(e:oq)(t:TE):Prop:=
 ∀(pins:Pnn) (s:nO) (σ:St) (H:Hp) (Q:VK),Inv X pins σ H s->t σ H Q->oB (model X.prog X.w) X.A (eval e X.env) (EP X pins σ Q) X.xe s
def PT (X:Cx)(e:oq)(t:TT):Prop:=
 ∀(pins:Pnn) (s:nO) (σ:St) (H:Hp) (Q:Bool->Hp->Prop),Inv X pins σ H s->t σ H Q->oB (model X.prog X.w) X.A (isTrue e X.env (eval e X.env)) (TP X pins σ Q) X.xe s
def PW (X:Cx)(e:oq)(t:TT):Prop:=
 ∀(whole:Sem nI) (pins:Pnn) (s:nO) (σ:St) (H:Hp) (Q:Bool->Hp->Prop),Inv X pins σ H s->t σ H Q->oB (model X.prog X.w) X.A (isTrue e X.env whole) (TP X pins σ Q) X.xe s
theorem PW.pt {X:Cx}{e:oq}{t:TT}(h:PW X e t):PT X e t:=h _
def PA (X:Cx)(es:List oq)(t:TA):Prop:=
 ∀(pos:Pos) (pins:Pnn) (s:nO) (σ:St) (H:Hp) (Q:List V->Hp->Prop),Inv X pins σ H s->t σ H Q->oB (model X.prog X.w) X.A (spliced (qJ pos (oN es X.env))) (AP X pins σ Q) X.xe s
def PS (X:Cx)(st:pM)(t:TS):Prop:=
 ∀(pins:Pnn) (s:nO) (σ:St) (H:Hp) (D:Ends),Inv X pins σ H s->t D σ H->oB (model X.prog X.w) X.A (exec st X.env) (SP X pins D) X.xe s
def PSs (X:Cx)(st:List pM)(t:TS):Prop:=
 ∀(pins:Pnn) (s:nO) (σ:St) (H:Hp) (D:Ends),Inv X pins σ H s->t D σ H->oB (model X.prog X.w) X.A (execs st X.env) (SP X pins D) X.xe s
theorem thn {α:Type}{t:Sem α}{Q Q':α->nO->Prop}{M:Model}{A:ph}{E:nI->nO->Prop}{s:nO}(h:oB M A t Q E s)(hQ:∀a s,Q a s->Q' a s):oB M A t Q' E s:=pN h hQ λ_ _ x=>x
section
variable {X:Cx}
def tVar (i:Nat):TE:=λσ H Q=>∃v,σ[i]?=xg (xg v)/\Q v H
def tC (v:V):TE:=λ_ H Q=>Q v H
theorem znW_ {i:Nat}{x:Str}{pos:Pos}(hN:X.N[i]?=xg x)(hv:Vis X.env.scope x)(hd:(x==("__debug__":Str))=xk:=by decide)(bw:(x==("__classdict__":Str))=xk:=by decide):PE X (.Name x pos) (tVar i):=by
 intro pins s σ H Q I h;obtain⟨v,e,h⟩:=h;obtain⟨m,hn,hl⟩:=I.loc;obtain⟨u,r,l⟩:=hl i x v hN e hv;have fin:EP X pins σ Q u s:=⟨v,H,I,r,h⟩;rcases l with⟨hk,hm⟩|⟨hk,c,hc,bu⟩
 ·exact wpAny_Name (wpAny_loadName_local I.ok.kind hk hn hm fin) hd
 ·rcases hk with hk |hk
  ·exact wpAny_Name (wpAny_loadName_cell I.ok.kind hk hc bu fin) hd
  ·exact wpAny_Name (wpAny_loadName_free I.ok.kind hk hc bu fin bw) hd
theorem znG_ {i j pos}:PE X (.Constant (.int i) j pos) (tC (.int i)):=λ_ _ _ H _ I h=>wpAny_Constant_int ⟨.int i,H,I.tok _,⟨_,rfl⟩,h⟩
theorem pe_bl {b j pos}:PE X (.Constant (.bool b) j pos) (tC (.bl b)):=λ_ _ _ H _ I h=>Constant_bool ⟨.bl b,H,I,rfl,h⟩
theorem zpt_ {j pos}:PE X (.Constant .none j pos) (tC .non):=λ_ _ _ H _ I h=>Constant_none ⟨.non,H,I,rfl,h⟩
theorem znJ_ {x j pos}:PE X (.Constant (.str x) j pos) (tC (.str x)):=λ_ _ _ H _ I h=>Calls.Constant_str ⟨.str x,H,I.tok _,⟨_,rfl⟩,h⟩
def Gl (X:Cx)(x:Str):Prop:=X.env.kindOf x=xg .globalImplicit
theorem zbi_ {E:nI->nO->Prop}{pins:Pnn}{s:nO}{σ:St}{H:Hp}{x:Str}{u:nI}{pos:Pos}{Q:nI->nO->Prop}(I:Inv X pins σ H s)(hg:Gl X x)(hm:X.mg x=xg u)(h:Q u s)
  (hd:(x==("__debug__":Str))=xk:=by decide):oB (model X.prog X.w) X.A (eval (.Name x pos) X.env) Q E s:=
 Calls.Name_function_global I.ok.kind hg (Calls.loadGlobal_global (by rw[I.ok.glob];exact I.mod.glob.keeps I.bk) hm h) hd
theorem zes_ {E:nI->nO->Prop}{pins:Pnn}{s:nO}{σ:St}{H:Hp}{x:Str}{u:nI}{pos:Pos}{Q:nI->nO->Prop}(I:Inv X pins σ H s)(hg:Gl X x)(hm:X.mg x=xh)(hv:qA x=xg u)(h:Q u s)
  (hn:x ≠ "__name__":=by decide) (hd:(x==("__debug__":Str))=xk:=by decide):oB (model X.prog X.w) X.A (eval (.Name x pos) X.env) Q E s:=by
 obtain⟨mb,h1,h2⟩:=I.mod.blt;exact Calls.Name_function_global I.ok.kind hg (Calls.loadGlobal_builtin (by rw[I.ok.glob];exact I.mod.glob.keeps I.bk) hm (by rw[I.ok.blt];exact h1.keeps I.bk) ((h2 x hn).trans hv) h) hd
theorem zmo_ {x:Str}{v:V}{u:nI}{pos:Pos}(hg:Gl X x)(hm:X.mg x=xg u)(r:RelV v u)(hd:(x==("__debug__":Str))=xk:=by decide):PE X (.Name x pos) (tC v):=
 λ_ _ _ H _ I h=>zbi_ I hg hm ⟨v,H,I,r,h⟩ hd
theorem zlr_ {x:Str}{v:V}{u:nI}{pos:Pos}(hg:Gl X x)(hm:X.mg x=xh)(hv:qA x=xg u)(r:RelV v u)(hn:x ≠ "__name__":=by decide)(hd:(x==("__debug__":Str))=xk:=by decide):PE X (.Name x pos) (tC v):=
 λ_ _ _ H _ I h=>zes_ I hg hm hv ⟨v,H,I,r,h⟩ hn hd
variable {a:oq}{pos:Pos}
variable {tA:TT}
def tNot (t:TT):TT:=λσ H Q=>t σ H λc H1=>Q (!c) H1
theorem zkK_ (ha:PT X a tA):PW X (.BoolOp .And [a] pos) tA:=by
 intro wh pins s σ H Q I h;refine isTrue_and (thn (ha pins s σ H Q I h) λc s1 e=>?_)
 cases c with
 |true=>exact isTrue_and_nil e|false=>exact e
theorem zn8_ (ha:PT X a tA):PW X (.BoolOp .Or [a] pos) tA:=by
 intro wh pins s σ H Q I h;refine isTrue_or (thn (ha pins s σ H Q I h) λc s1 e=>?_)
 cases c with
 |false=>exact isTrue_or_nil e|true=>exact e
theorem zoN_ (ha:PT X a tA):PT X (.UnaryOp .Not a pos) (tNot tA):=by
 intro pins s σ H Q I h;exact isTrue_not (ha pins s σ H (λc H1=>Q (!c) H1) I h)
theorem zml_ {op}{t:TE}(h:PE X a t):PE X (.BoolOp op [a] pos) t:=λpins s σ H Q I hw=>BoolOp_one (h pins s σ H Q I hw)
end
def SqL (K:Fgg)(H:Hp)(a:nR)(xs:List V):Prop:=
 Rd H a (.lst xs) \/
  ∃(o:vi) (aa:Array nI) (n:Nat),K.lookup a=xg o/\o.cls=.type "list" /\ o.dict=xh/\o.data=.seq aa n/\aa.size<=oh/\Vals xs aa.toList
def SqT (K:Fgg)(H:Hp)(a:nR)(xs:List V):Prop:=
 Rd H a (.tup xs) \/
  ∃(o:vi) (aa:Array nI) (n:Nat),K.lookup a=xg o/\o.cls=.type "tuple" /\ o.data=.seq aa n/\aa.size<=oh/\Vals xs aa.toList
noncomputable def absV:nI->Option V
 |.none=>xg .non|.bool b=>xg (.bl b)|.int i _=>xg (.int i)|.str x _=>xg (.str x)|.bytes b _=>xg (.byt b)|.float b _=>xg (.flt b)|.ref a=>xg (.ref a)|.type n=>xg (.ty n)|_=>xh
theorem RelV.abs {x:V}{u:nI}(r:RelV x u):absV u=xg x:=by
 cases x with
 |non=>cases r;rfl|bl _=>cases r;rfl|int _=>obtain⟨t,rfl⟩:=r;rfl|str _=>obtain⟨t,rfl⟩:=r;rfl|byt _=>obtain⟨t,rfl⟩:=r;rfl|flt _=>obtain⟨t,rfl⟩:=r;rfl|ref _=>cases r;rfl|ty _=>cases r;rfl
theorem RelV.inj {x y:V}{u:nI}(r:RelV x u)(q:RelV y u):x=y:=pC (r.abs.symm.trans q.abs)
theorem Vals.inj:∀{xs ys:List V}{us:List nI},Vals xs us->Vals ys us->xs=ys
 |_,_,_,.nil,.nil=>rfl|_,_,_,.cons r t,.cons r' t'=>by rw[r.inj r',Vals.inj t t']
section
variable {X:Cx}{pins:Pnn}{σ:St}{H:Hp}{s:nO}{a:nR}{xs ys:List V}
theorem SqL.of {K:Fgg}(h:H a=xg (.lst xs)):SqL K H a xs:=.inl (.inl h)
theorem SqT.of {K:Fgg}(h:H a=xg (.tup xs)):SqT K H a xs:=.inl (.inl h)
theorem Inv.list (I:Inv X pins σ H s)(h:SqL X.K H a xs):∃aa:List nI,Vals xs aa/\PlainL s.heap a aa.toArray/\xs.length<=oh:=by
 rcases h with h |⟨o,aa,n,hk,hc,hd,hs,hz,r⟩
 ·obtain⟨z,aa,n,r,e⟩:=h.ok I.hok
  exact⟨aa,r,⟨_,n,e,rfl,rfl,rfl⟩,z⟩
 ·refine⟨aa.toList,r,⟨o,n,I.kIn a o hk,hc,hd,by simpa using hs⟩,?_⟩
  have e:=r.length;simp only[qi]at e;lia
theorem Inv.tuple (I:Inv X pins σ H s)(h:SqT X.K H a xs):∃aa:List nI,Vals xs aa/\IsTup s.heap a aa.toArray/\xs.length<=oh:=by
 rcases h with h |⟨o,aa,n,hk,hc,hs,hz,r⟩
 ·obtain⟨z,aa,r,p⟩:=h.ok I.hok
  exact⟨aa,r,p,z⟩
 ·refine⟨aa.toList,r,⟨o,I.kIn a o hk,hc,n,by simpa using hs⟩,?_⟩
  have e:=r.length;simp only[qi]at e;lia
theorem Inv.list_inj (I:Inv X pins σ H s)(h:SqL X.K H a xs)(h':SqL X.K H a ys):xs=ys:=by
 obtain⟨aa,r,⟨o,n,e,_,_,d⟩,_⟩:=I.list h;obtain⟨its',r',⟨o',n',e',_,_,d'⟩,_⟩:=I.list h';rw[e]at e';cases e';rw[d]at d';injection d' with d1 _;have:aa=its':=by simpa using congrArg uI d1
 subst this;exact r.inj r'
theorem Inv.tuple_inj (I:Inv X pins σ H s)(h:SqT X.K H a xs)(h':SqT X.K H a ys):xs=ys:=by
 obtain⟨aa,r,⟨o,e,_,n,d⟩,_⟩:=I.tuple h;obtain⟨its',r',⟨o',e',_,n',d'⟩,_⟩:=I.tuple h';rw[e]at e';cases e';rw[d]at d';injection d' with d1 _;have:aa=its':=by simpa using congrArg uI d1
 subst this;exact r.inj r'
end
noncomputable abbrev Cx.wish (X:Cx)(E:nI->nO->Prop):Cx:={X with xe:=E}
abbrev Cx.nox (X:Cx):Cx:=X.wish λ_ _=>False
theorem Cx.Ok.wish {X:Cx}(ok:X.Ok)(E:nI->nO->Prop):(X.wish E).Ok:=
 ⟨ok.mod,ok.kind,ok.glob,ok.blt,ok.above,ok.inj,ok.has,ok.cab,ok.hd,ok.frames,ok.stk,ok.exf,ok.bs,ok.bsz,ok.noex,ok.exfs,ok.funs,ok.frf,ok.tb⟩
theorem Cx.Ok.unwish {X:Cx}{E:nI->nO->Prop}(ok:(X.wish E).Ok):X.Ok:=
 ⟨ok.mod,ok.kind,ok.glob,ok.blt,ok.above,ok.inj,ok.has,ok.cab,ok.hd,ok.frames,ok.stk,ok.exf,ok.bs,ok.bsz,ok.noex,ok.exfs,ok.funs,ok.frf,ok.tb⟩
section
variable {X:Cx}{pins:Pnn}{σ:St}{H:Hp}{s:nO}{E:nI->nO->Prop}
theorem Inv.wish (I:Inv X pins σ H s)(E:nI->nO->Prop):Inv (X.wish E) pins σ H s:=⟨I.ok.wish E,I.os,I.bare,I.base,I.loc,I.cell,I.free,I.freeC,I.pin,I.hok,I.len⟩
theorem Inv.unwish (I:Inv (X.wish E) pins σ H s):Inv X pins σ H s:=⟨I.ok.unwish,I.os,I.bare,I.base,I.loc,I.cell,I.free,I.freeC,I.pin,I.hok,I.len⟩
theorem SP.unwish {D:Ends}{f:Flow}{s':nO}(h:SP (X.wish E) pins D f s'):SP X pins D f s':=by
 cases f with
 |next=>obtain⟨ah,H',I,q⟩:=h;exact⟨ah,H',I.unwish,q⟩|brk=>obtain⟨ah,H',I,q⟩:=h;exact⟨ah,H',I.unwish,q⟩|cont=>obtain⟨ah,H',I,q⟩:=h;exact⟨ah,H',I.unwish,q⟩|ret u=>obtain⟨v,ah,H',I,r,q⟩:=h;exact⟨v,ah,H',I.unwish,r,q⟩
end
section
variable {X:Cx}{st:pM}{rest:List pM}{t u:TS}{e:oq}{te:TE}{pos:Pos}
def tNext:TS:=λD σ H=>D.nx σ H
def tSeq (t u:TS):TS:=λD σ H=>t {D with nx:=u D} σ H
theorem zh0_:PSs X [] tNext:=λ_ _ σ H _ I h=>wpAny_execs_nil ⟨σ,H,I,h⟩
theorem zeO_ (h1:PS X st t)(h2:PSs X rest u):PSs X (st::rest) (tSeq t u):=by
 intro pins s σ H D I h;refine wpAny_execs_cons (thn (h1 pins s σ H {D with nx:=u D} I h) λf s1 q=>?_)
 cases f with
 |next=>
  obtain⟨ah,H',I',q⟩:=q;exact h2 pins s1 ah H' D I' q
 |ret v=>exact q|brk=>exact q|cont=>exact q
theorem zlC_:PS X (.Pass pos) tNext:=λ_ _ σ H _ I h=>wpAny_Pass ⟨σ,H,I,h⟩
theorem Inv.quiet {pins:Pnn}{σ:St}{H:Hp}{s:nO}(I:Inv X pins σ H s):interactive X.env=xk:=by simp[interactive,I.ok.kind]
theorem zp6_ {x j pos pos'}:PS X (.Expr (.Constant (.str x) j pos) pos') tNext:=λ_ s σ H _ I h=>wpAny_Expr (Calls.Constant_str (show SP X _ _ .next {s with toks:=s.toks+1}from⟨σ,H,I.tok _,h⟩)) I.quiet
def tDrop (te:TE):TS:=λD σ H=>te σ H λ_ H1=>D.nx σ H1
theorem zmi_ (he:PE X e te)(hs:swapsWith e xh pos.line X.env=pure xk:=by rfl):PS X (.Expr e pos) (tDrop te):=by
 intro pins s σ H D I h;exact wpAny_Expr_any (thn (he pins s σ H _ I h) λv s1 ⟨x,H1,I1,r1,q1⟩=>⟨σ,H1,I1,q1⟩) I.quiet hs
def tRet (te:TE):TS:=λD σ H=>te σ H D.rt
theorem zop_ (he:PE X e te):PS X (.Return (xg e) pos) (tRet te):=by
 intro pins s σ H D I h;exact wpAny_Return_some (thn (he pins s σ H _ I h) λv s1 ⟨x,H1,I1,r1,q1⟩=>⟨x,σ,H1,I1,r1,q1⟩)
def tRetN:TS:=λD _ H=>D.rt .non H
theorem zkP_:PS X (.Return xh pos) tRetN:=λ_ _ σ H _ I h=>wpAny_Return_none ⟨.non,σ,H,I,rfl,h⟩
def tNever:TS:=λ_ _ _=>False
theorem ziX_:PS X st tNever:=λ_ _ _ _ _ _ h=>h.elim
end
abbrev TG:=V->St->Hp->(St->Hp->Prop)->Prop
abbrev TGs:=List V->St->Hp->(St->Hp->Prop)->Prop
def PG (X:Cx)(target:oq)(t:TG):Prop:=
 ∀(pins:Pnn) (s:nO) (σ:St) (H:Hp) (v:V) (u:nI) (Q:St->Hp->Prop),Inv X pins σ H s->RelV v u->t v σ H Q ->
  oB (model X.prog X.w) X.A (assign target X.env u) (λ_ s'=>∃ah H',Inv X pins ah H' s'/\Q ah H') X.xe s
def PGs (X:Cx)(ts:List oq)(t:TGs):Prop:=
 ∀(pins:Pnn) (s:nO) (σ:St) (H:Hp) (vs:List V) (us:List nI) (Q:St->Hp->Prop),Inv X pins σ H s->Vals vs us->t vs σ H Q ->
  oB (model X.prog X.w) X.A (assignInOrder ((p7 ts X.env).map (·.2)) us) (λ_ s'=>∃ah H',Inv X pins ah H' s'/\Q ah H') X.xe s
abbrev TSet:=V->V->V->Hp->(Hp->Prop)->Prop
def PSet (X:Cx)(t:TSet):Prop:=
 ∀(pins:Pnn) (s:nO) (σ:St) (H:Hp) (o i v:V) (ov iv u:nI) (Q:Hp->Prop),Inv X pins σ H s->RelV o ov->RelV i iv->RelV v u->t o i v H Q ->
  oB (model X.prog X.w) X.A (setItem ov iv u) (λ_ s'=>∃H',Inv X pins σ H' s'/\Q H') X.xe s
section
variable {X:Cx}{pos:Pos}
def gName (i:Nat):TG:=λv σ H Q=>Q (σ.set i (xg v)) H
theorem zkT_ {i:Nat}{x:Str}(hN:X.N.Nodup)(hi:X.N[i]?=xg x)(hx:Loc X.env.scope x)(hf:X.fn x=xj\/X.env.scope.names.lookup x=xg .local:=by first |exact .inl rfl |exact .inr rfl |assumption):PG X (.Name x pos) (gName i):=by
 intro pins s σ H v u Q I r h;exact wpAny_assign_Name (zcr_ I hN hi hx r (λs' I'=>⟨_,H,I',h⟩) hf)
def gNil:TGs:=λvs σ H Q=>vs=[]/\Q σ H
def gCons (t:TG)(u:TGs):TGs:=λvs σ H Q=>∃v r,vs=v::r/\t v σ H λah H'=>u r ah H' Q
theorem zmU_:PGs X [] gNil:=by
 intro pins s σ H vs us Q I r h;obtain⟨e,h⟩:=h;subst e;cases r;exact assignInOrder_nil ⟨σ,H,I,h⟩
theorem zjJ_ {e:oq}{es:List oq}{t:TG}{u:TGs}(h1:PG X e t)(h2:PGs X es u)
  (hs:(p7 (e::es) X.env).map (·.2)=assign e X.env::(p7 es X.env).map (·.2):=by rfl):PGs X (e::es) (gCons t u):=by
 intro pins s σ H vs us Q I r h;obtain⟨v,vr,e1,h⟩:=h;subst e1;cases r with
 |cons r rr=>
  rw[hs];refine assignInOrder_cons (thn (h1 pins s σ H _ _ _ I r h) λ_ s1 af=>?_)
  obtain⟨jY,H1,I1,q1⟩:=af;exact h2 pins s1 jY H1 _ _ Q I1 rr q1
def gTup (K:Fgg)(n:Nat)(t:TGs):TG:=λv σ H Q=>∃a xs,v=.ref a/\SqT K H a xs/\xs.length=n/\t xs σ H Q
theorem zoT_ {es:List oq}{k:Nat}{t:TGs}{n:Nat}(hc:X.calm=xj)(h:PGs X es t)
  (hn:(p7 es X.env).length=n:=by rfl) (aS:(p7 es X.env).findIdx? (·.1)=xh:=by rfl):PG X (.Tuple es k pos) (gTup X.K n t):=by
 intro pins s σ H v u Q I r hw;obtain⟨a,xs,e1,hq,hl,hw⟩:=hw;subst e1;cases r;obtain⟨aa,rv,ht,hz⟩:=I.tuple hq;refine assign_Tuple_tuple (I.ok.hd hc) ht (by simp[hn,<- hl,rv.length]) aS λh' hx=>?_
 have I1:Inv X pins σ H {s with heap:=h'}:=I.kept (t':=s.toks) λb o e=>hx b o (oR (ot e)) e
 exact h pins _ σ H xs _ Q I1 (by simpa using rv) hw
def gSub (to ti:TE)(t:TSet):TG:=λv σ H Q=>to σ H λo H1=>ti σ H1 λi H2=>t o i v H2 λH3=>Q σ H3
theorem zpz_ {o i:oq}{to ti:TE}{t:TSet}(ho:PE X o to)(hi:PE X i ti)(hs:PSet X t)
  (ha:∀v,assign (.Subscript o i pos) X.env v=(do
   let ov <- holding [v] (eval o X.env)
   let iv <- holding [v,ov] (eval i X.env)
   standAt pos
   holding [v,ov,iv] (setItem ov iv v)
   release [v,ov,iv] []):=by intro _;rfl):PG X (.Subscript o i pos) (gSub to ti t):=by
 intro pins s σ H v u Q I r h;rw[ha];refine nJ (wpAny_holding (thn (ho pins s σ H _ I h) λov s1 af=>?_))
 obtain⟨x,H1,I1,r1,q1⟩:=af;refine nJ (wpAny_holding (thn (hi pins s1 σ H1 _ I1 q1) λiv s2 af=>?_))
 obtain⟨y,H2,I2,r2,q2⟩:=af;refine nJ (wpAny_standAt (nJ (wpAny_holding (thn (hs pins s2 σ H2 x y v ov iv u _ I2 r1 r2 r q2) λ_ s3 af=>?_))))
 obtain⟨H3,I3,q3⟩:=af;exact wpAny_release ⟨σ,H3,I3,q3⟩
def tAsg (te:TE)(g:TG):TS:=λD σ H=>te σ H λx H1=>g x σ H1 D.nx
theorem zjr_ {tg e:oq}{te:TE}{g:TG}(he:PE X e te)(hg:PG X tg g)(hs:swapsWithSole [tg] e pos.line X.env=pure xk:=by rfl)(hw:swappedStores [tg] e X.env=pure xh:=by rfl)
  (h1:(p7 [tg] X.env).map (·.2)=[assign tg X.env]:=by rfl):PS X (.Assign [tg] e pos) (tAsg te g):=by
 intro pins s σ H D I h;refine wpAny_Assign_stores (thn (he pins s σ H _ I h) λv s1 af=>?_) hs hw
 obtain⟨x,H1,I1,r1,q1⟩:=af;rw[h1];exact thn (hg pins s1 σ H1 x v _ I1 r1 q1) λ_ s2 q=>q
theorem zjX_ {i:Nat}{x:Str}{e:oq}{te:TE}{pos':Pos}(hN:X.N.Nodup)(hi:X.N[i]?=xg x)(hx:Loc X.env.scope x)(he:PE X e te)(hs:swapsWith e (xg (.Name x pos')) pos.line X.env=pure xk:=by rfl)(hf:X.fn x=xj\/X.env.scope.names.lookup x=xg .local:=by first |exact .inl rfl |exact .inr rfl |assumption):
  PS X (.Assign [.Name x pos'] e pos) (tAsg te (gName i)):=by
 intro pins s σ H D I h;refine wpAny_Assign_Name (thn (he pins s σ H _ I h) λv s1 af=>?_) hs
 obtain⟨y,H1,I1,r1,q1⟩:=af;exact zcr_ I1 hN hi hx r1 (λs2 I2=>⟨_,H1,I2,q1⟩) hf
end
structure It where
 go:Nat->Hp->Prop
 yld:Nat->Hp->V->Hp->Prop
 stop:Nat->Hp->Prop
def FpOk (X:Cx)(pins:Pnn)(H:Hp)(b:nR):Prop:=
 H b=xh/\b≠X.env.locals/\b∉X.fs/\(b∈X.ex\/X.s₀.heap.objs.size<=b)/\(∀x c,X.env.cells.lookup x=xg c->c≠b)/\∀p∈X.pn++pins,p.1≠b
theorem Inv.fpOk {X:Cx}{pins:Pnn}{σ:St}{H H':Hp}{s:nO}{b:nR}(I:Inv X pins σ H s)(hb:s.heap.objs.size<=b)(hn:H' b=xh):FpOk X pins H' b:=by
 refine⟨hn,rf (oO I.lt hb),I.nofs hb,.inr (pX I.sz hb),λx c e z=>?_,λp hp z=>?_⟩
 ·obtain⟨v,q⟩:=I.cell x c e
  exact absurd (oO q.lt (by rw[z];exact hb)) (rP _)
 ·exact absurd (oO (ot (I.pin p hp).1) (by rw[z];exact hb)) (rP _)
structure Turn (P:oH)(w:oV)(K:Fgg)(tg:oq)(J:It)(fp:List nR)(it:nR)(tn:Nat->Heap->Prop):Prop where
 mem:it∈fp
 obj:∀i h,tn i h->∀b∈fp,∃o,h.get? b=xg o/\∀v,o.data≠.cell v
 keep:∀i h h',tn i h->(∀b∈fp,∀o,h.get? b=xg o->h'.get? b=xg o)->tn i h'
 item:∀(X:Cx),X.prog=P->X.w=w->X.K=K->X.calm=xj->∀(i:Nat) (pins:Pnn) (s:nO) (σ:St) (H:Hp) (E:nI->nO->Prop),Inv X pins σ H s->(∀b∈fp,FpOk X pins H b)->tn i s.heap->J.go i H ->
  oB (model P w) X.A (pyNext (.ref it)) (λr s1=>∃u,r=xg u /\
   oB (model P w) X.A (letOwnedTupleGo tg (.ref it) u) (λ_ s2=>∃x H',Inv X pins σ H' s2/\RelV x u/\J.yld i H x H'/\tn (i+1) s2.heap/\∀b∈fp,H' b=xh) E s1) E s
 done:∀(X:Cx),X.prog=P->X.w=w->X.K=K->X.calm=xj->∀(i:Nat) (pins:Pnn) (s:nO) (σ:St) (H:Hp) (E:nI->nO->Prop),Inv X pins σ H s->(∀b∈fp,FpOk X pins H b)->tn i s.heap->J.stop i H ->
  oB (model P w) X.A (pyNext (.ref it)) (λr s1=>r=xh/\Inv X pins σ H s1) E s
 self:∀(A:ph) (i:Nat) (s:nO) (Q:nI->nO->Prop) (E:nI->nO->Prop),tn i s.heap->Q (.ref it) s->oB (model P w) A (pyIter (.ref it)) Q E s
abbrev TI:=St->Hp->(It->Hp->Prop)->Prop
def PIE (X:Cx)(pins:Pnn)(σ:St)(tg:oq)(R:It->Hp->Prop)(gh:nI)(s2:nO):Prop:=
 ∃(it:nR) (fp:List nR) (tn:Nat->Heap->Prop) (J:It) (H':Hp),gh=.ref it/\Inv X pins σ H' s2/\Turn X.prog X.w X.K tg J fp it tn/\tn 0 s2.heap/\(∀b∈fp,FpOk X pins H' b)/\R J H'
def PI (X:Cx)(tg iter:oq)(wi:TI):Prop:=
 ∀(pins:Pnn) (s:nO) (σ:St) (H:Hp) (R:It->Hp->Prop),Inv X pins σ H s->wi σ H R ->
  oB (model X.prog X.w) X.A (eval iter X.env) (λv s1=>oB (model X.prog X.w) X.A (pyIter v) (PIE X pins σ tg R) X.xe s1) X.xe s
theorem zns_ {M:Model}{A:ph}{E:nI->nO->Prop}{s:nO}{tg:oq}{it:nR}{u:nI}{o:vi}{n:String}{vs:Array nI}{Q:Unit->nO->Prop}(ho:s.heap.get? it=xg o)(hc:o.cls=.type n)(hd:o.data=.fields vs)
  (hn:["enumerate", "zip", "dict_itemiterator", "dict_reverseitemiterator", "odict_iterator", "itertools.zip_longest", "itertools.pairwise"].contains n=xk) (hQ:Q () s):oB M A (letOwnedTupleGo tg (.ref it) u) Q E s:=by
 unfold letOwnedTupleGo
 cases tg<;>first
  |exact nX hQ
  | (cases u<;>first
    |exact nX hQ
    | (refine nJ (wpAny_load ho ?_)
       rw[hc,hd];show oB M A (if(["enumerate", "zip", "dict_itemiterator", "dict_reverseitemiterator", "odict_iterator", "itertools.zip_longest", "itertools.pairwise"].contains n && vs[0]?==xg (rawInt _))=xj then _ else _) Q E s
       rw[if_neg (by intro h;rw[hn,sU]at h;cases h)]
       exact nX hQ))
def Itl (K:Fgg)(a:nR):It:=
 ⟨λi H=>∃xs x,SqL K H a xs/\xs[i]?=xg x,λi H x H'=>H'=H/\∀xs,SqL K H a xs->xs[i]?=xg x,λi H=>∃xs,SqL K H a xs/\xs.length<=i⟩
def Itt (K:Fgg)(a:nR):It:=
 ⟨λi H=>∃xs x,SqT K H a xs/\xs[i]?=xg x,λi H x H'=>H'=H/\∀xs,SqT K H a xs->xs[i]?=xg x,λi H=>∃xs,SqT K H a xs/\xs.length<=i⟩
noncomputable def Itr (lo:Int)(n:Nat):It:=⟨λi _=>i<n,λi H x H'=>H'=H/\x=.int (lo+i),λi _=>n<=i⟩
theorem zgC_ {P:oH}{w:oV}{K:Fgg}{tg:oq}(a it:nR):Turn P w K tg (Itl K a) [it] it (λi h=>h.IsListIter it a i) where
 mem:=by simp
 obj:=λi h st b hb=>by
  have e:b=it:=by simpa using hb
  subst e;obtain⟨o,e,c,d⟩:=st;exact⟨o,e,λv z=>by rw[d]at z;cases z⟩
 keep:=λi h h' st k=>st.at λo e=>k it (by simp) o e
 item:=by
  intro X hP hw hK hc i pins s σ H E I hf st hg;subst hP hw hK;obtain⟨xs,x,hq,hx⟩:=hg;obtain⟨aa,rv,p,hz⟩:=I.list hq;obtain⟨u,hu,ru⟩:=rv.get hx;obtain⟨f0,f1,f2,f3,f4,f5⟩:=hf it (by simp)
  refine wpAny_pyNext_list_item st p.isList (x:=u) (by simpa using hu) λh' aX sb=>?_
  have I1:Inv X pins σ H {s with heap:=h'}:=I.turned (t':=s.toks) (λb o hb e=>(sb.2 b hb).trans e) f0 f1 f3 f4 f5
  obtain⟨o,e,c,d⟩:=id aX;exact⟨u,rfl,zns_ (s:={s with heap:=h'}) e c d (by decide) ⟨x,H,I1,ru,⟨rfl,λys hy=>by rw[I.list_inj hy hq];exact hx⟩,aX,λb hb=>(hf b hb).1⟩⟩
 done:=by
  intro X hP hw hK hc i pins s σ H E I hf st hg;subst hP hw hK;obtain⟨xs,hq,hx⟩:=hg;obtain⟨aa,rv,p,hz⟩:=I.list hq;obtain⟨f0,f1,f2,f3,f4,f5⟩:=hf it (by simp)
  have hl:=rv.length;exact wpAny_pyNext_list_end (I.ok.hd hc) st p.isList (by simp;lia) λh' eb=>⟨rfl,I.turned (t':=s.toks) (λb o hb e=>eb b o hb e) f0 f1 f3 f4 f5⟩
 self:=λ_ _ _ _ _ st h=>wpAny_pyIter_listiter st h
theorem zeS_ {P:oH}{w:oV}{K:Fgg}{tg:oq}(a it:nR):Turn P w K tg (Itt K a) [it] it (λi h=>h.IsTupleIter it a i) where
 mem:=by simp
 obj:=λi h st b hb=>by
  have e:b=it:=by simpa using hb
  subst e;obtain⟨o,e,c,d⟩:=st;exact⟨o,e,λv z=>by rw[d]at z;cases z⟩
 keep:=λi h h' st k=>st.at λo e=>k it (by simp) o e
 item:=by
  intro X hP hw hK hc i pins s σ H E I hf st hg;subst hP hw hK;obtain⟨xs,x,hq,hx⟩:=hg;obtain⟨aa,rv,p,hz⟩:=I.tuple hq;obtain⟨u,hu,ru⟩:=rv.get hx;obtain⟨f0,f1,f2,f3,f4,f5⟩:=hf it (by simp)
  refine wpAny_pyNext_tuple_item st (show s.heap.IsTuple a aa.toArray from p) (x:=u) (by simpa using hu) λh' aX sb=>?_
  have I1:Inv X pins σ H {s with heap:=h'}:=I.turned (t':=s.toks) (λb o hb e=>(sb.2 b hb).trans e) f0 f1 f3 f4 f5
  obtain⟨o,e,c,d⟩:=id aX;exact⟨u,rfl,zns_ (s:={s with heap:=h'}) e c d (by decide) ⟨x,H,I1,ru,⟨rfl,λys hy=>by rw[I.tuple_inj hy hq];exact hx⟩,aX,λb hb=>(hf b hb).1⟩⟩
 done:=by
  intro X hP hw hK hc i pins s σ H E I hf st hg;subst hP hw hK;obtain⟨xs,hq,hx⟩:=hg;obtain⟨aa,rv,p,hz⟩:=I.tuple hq;obtain⟨f0,f1,f2,f3,f4,f5⟩:=hf it (by simp)
  have hl:=rv.length;exact wpAny_pyNext_tuple_end (I.ok.hd hc) st (show s.heap.IsTuple a aa.toArray from p) (by simp;lia) λh' eb=>⟨rfl,I.turned (t':=s.toks) (λb o hb e=>eb b o hb e) f0 f1 f3 f4 f5⟩
 self:=λ_ _ _ _ _ st h=>wpAny_pyIter_tupleiter st h
theorem zfg_ {P:oH}{w:oV}{K:Fgg}{tg:oq}(it:nR)(lo:Int)(n:Nat):Turn P w K tg (Itr lo n) [it] it (λi h=>IsRangeIter h it (lo+(i:Nat)*1) ((n:Int)-(i:Nat)) 1) where
 mem:=by simp
 obj:=λi h st b hb=>by
  have e:b=it:=by simpa using hb
  subst e;exact⟨_,st,λv z=>by
   have z':Data.fields _=Data.cell v:=z;cases z'⟩
 keep:=λi h h' st k=>k it (by simp) _ st
 item:=by
  intro X hP hw hK hc i pins s σ H E I hf st hg;subst hP hw hK;obtain⟨f0,f1,f2,f3,f4,f5⟩:=hf it (by simp)
  have W:=Walks.range (prog:=X.prog) (w:=X.w) (I.ok.hd hc) it lo 1 n;refine W.item i s _ _ hg st λv h' tk hv aX kk=>?_
  obtain⟨t,rfl⟩:=hv;have I1:Inv X pins σ H {s with heap:=h',toks:=tk}:=I.turned (λb o hb e=>kk b o (by simpa using hb) e) f0 f1 f3 f4 f5
  refine⟨_,rfl,zns_ (s:={s with heap:=h',toks:=tk}) (n:="range_iterator") aX rfl rfl (by decide) ⟨.int (lo+i),H,I1,⟨t,?_⟩,⟨rfl,rfl⟩,aX,λb hb=>(hf b hb).1⟩⟩
  rw[Int.mul_one]
 done:=by
  intro X hP hw hK hc i pins s σ H E I hf st hg;subst hP hw hK;obtain⟨f0,f1,f2,f3,f4,f5⟩:=hf it (by simp)
  exact wpAny_pyNext_range_end (I.ok.hd hc) st (by have:n<=i:=hg;lia) λh' eb=>⟨rfl,I.turned (t':=s.toks) (λb o hb e=>eb b o hb e) f0 f1 f3 f4 f5⟩
 self:=λ_ _ _ _ _ st h=>wpAny_pyIter_rangeiter st h
section
variable {X:Cx}{tg:oq}
theorem zjf_ {pins:Pnn}{σ:St}{H:Hp}{s:nO}{R:It->Hp->Prop}{E:nI->nO->Prop}{lo hi:Int}{t u v:Tok}{tk:Nat}(I:Inv X pins σ H s)(h1 : -(2 ^ 62)<=lo)(h2:lo<2 ^ 62)(h3 : -(2 ^ 62)<=hi)(h4:hi<2 ^ 62)
  (q:R (Itr lo (hi-lo).toNat) H):oB (model X.prog X.w) X.A (pyIter (.ref s.heap.objs.size)) (PIE X pins σ tg R) E {s with heap:=s.heap.push {cls:=.type "range",data:=.fields #[.int lo t,.int hi u,.int 1 v]},toks:=tk}:=by
 refine wpAny_pyIter_range (IsRange.new ..) (small_one h1 h2 h3 h4) ?_;have I1:Inv X pins σ H {s with heap:=s.heap.push {cls:=.type "range",data:=.fields #[.int lo t,.int hi u,.int 1 v]},toks:=tk}:=I.kept λb o e=>nQ _ e
 refine⟨(s.heap.push {cls:=.type "range",data:=.fields #[.int lo t,.int hi u,.int 1 v]}).objs.size,[(s.heap.push {cls:=.type "range",data:=.fields #[.int lo t,.int hi u,.int 1 v]}).objs.size],_,_,H,rfl,
  I1.kept (t':=tk) λb o e=>nQ _ e,zfg_ _ lo (hi-lo).toNat,?_,λb hb=>?_,q⟩
 ·have e1:lo+((0:Nat):Int)*1=lo:=by simp
  have e2:(((hi-lo).toNat:Nat):Int)-((0:Nat):Int)=tM lo hi 1:=by rw[rangeSize_one];split<;>omega
  show IsRangeIter _ _ (lo+((0:Nat):Int)*1) ((((hi-lo).toNat:Nat):Int)-((0:Nat):Int)) 1
  rw[e1,e2];exact ox _ rfl
 ·have e:b=(s.heap.push {cls:=.type "range",data:=.fields #[.int lo t,.int hi u,.int 1 v]}).objs.size:=by simpa using hb
  subst e;exact I1.fpOk (nZ _) (I1.hok.fresh (nZ _))
def tFor (wi:TI)(g:TG)(tb:TS):TS:=λD σ H=>wi σ H λJ H1=>∃W:Nat->Nat->St->Hp->Prop,(∃m,W 0 m σ H1)/\∀i m σ H,W i m σ H ->
 (J.stop i H/\D.nx σ H)\/(J.go i H/\∃N:St->Hp->Prop,(∀ah H',N ah H'->∃m',m'<m/\W (i+1) m' ah H')/\∀x H',J.yld i H x H'->g x σ H' λb8 H2=>tb {D with nx:=N,ct:=N,bk:=D.nx} b8 H2)
def pinsAt (fp:List nR)(h:Heap):Pnn:=fp.filterMap λb=>(h.get? b).map λo=>(b,o)
theorem zaU_ {fp:List nR}{h:Heap}{b:nR}{o:vi}(hb:b∈fp)(e:h.get? b=xg o):(b,o)∈pinsAt fp h:=sV.mpr ⟨b,hb,by rw[e];rfl⟩
theorem zgk_ {fp:List nR}{h:Heap}{p:nR×vi}(hp:p∈pinsAt fp h):p.1∈fp/\h.get? p.1=xg p.2:=by
 obtain⟨b,hb,e⟩:=sV.mp hp;cases q:h.get? b with
 |none=>rw[q]at e;cases e|some o=>
  rw[q]at e;have e':(b,o)=p:=pC e;subst e';exact⟨hb,q⟩
theorem Inv.pinned {pins:Pnn}{σ:St}{H:Hp}{s:nO}{fp:List nR}(I:Inv X pins σ H s)(hf:∀b∈fp,FpOk X pins H b)(ho:∀b∈fp,∃o,s.heap.get? b=xg o/\∀v,o.data≠.cell v):Inv X (pins++pinsAt fp s.heap) σ H s:=
 I.pins_of λp hp=>(oP.mp hp).elim (λz=>I.pin p (oj _ z)) λz=>by
  obtain⟨hb,e⟩:=zgk_ z;obtain⟨f0,f1,f2,_⟩:=hf p.1 hb;obtain⟨o,e',d⟩:=ho p.1 hb;rw[e]at e';cases e';exact⟨e,f0,f1,f2,d⟩
theorem Inv.unpinned {pins pl:Pnn}{σ:St}{H:Hp}{s:nO}(I:Inv X (pins++pl) σ H s):Inv X pins σ H s:=I.pins_of λp hp=>I.pin p (oj _ (qQ _ hp))
theorem zoH_ {iter:oq}{body:List pM}{wi:TI}{g:TG}{tb:TS}{pos:Pos}(hp:PassesOwn (model X.prog X.w) X.A X.env X.xe)(hc:X.calm=xj)(hi:PI X tg iter wi)(hg:PG X tg g)(hb:PSs X body tb)
  (hs:∀x,foldedSetIterable iter X.env x=pure x:=by intro _;rfl):PS X (.For tg iter body [] pos) (tFor wi g tb):=by
 intro pins s σ H D I h;refine wpAny_For (thn (hi pins s σ H _ I h) λv s1 h1=>thn h1 λgh s2 h2=>?_) hs
 obtain⟨it,fp,tn,J,H2,e,I2,T,bz,f2,W,⟨m0,w0⟩,turn⟩:=h2;subst e;have ba:∀{H':Hp},(∀b∈fp,H' b=xh)->∀b∈fp,FpOk X pins H' b:=λhn b hb=>⟨hn b hb,(f2 b hb).2⟩
 refine codeAny_forLoop_any (λn s'=>∃i ah H',Inv X pins ah H' s'/\tn i s'.heap/\(∀b∈fp,H' b=xh)/\W i n ah H') ?_ m0 ⟨0,σ,H2,I2,bz,λb hb=>(f2 b hb).1,w0⟩
 rintro n s3 ⟨i,bE,H3,I3,st3,fr3,w3⟩;rcases turn i n bE H3 w3 with⟨stop,qn⟩|⟨go,N,hN,step⟩
 ·refine rR hp (thn (T.done X rfl rfl rfl hc i pins s3 bE H3 X.xe I3 (ba fr3) st3 stop) λr s4 af=>?_)
  obtain⟨hr,I4⟩:=af;subst hr;exact wpAny_execs_nil ⟨bE,H3,I4,qn⟩
 ·refine rR hp (thn (T.item X rfl rfl rfl hc i pins s3 bE H3 X.xe I3 (ba fr3) st3 go) λr s4 af=>?_)
  obtain⟨u,hr,h4⟩:=af;subst hr;refine rR hp (thn h4 λ_ s5 af=>?_)
  obtain⟨x,H5,I5,r5,y5,st5,fr5⟩:=af;have iJ:=I5.pinned (ba fr5) (T.obj _ _ st5);refine rR hp (thn (hg _ s5 bE H5 x u _ iJ r5 (step x H5 y5)) λ_ s6 af=>?_)
  obtain⟨bZ,H6,I6,q6⟩:=af;refine rR hp (thn (hb _ s6 bZ H6 _ I6 q6) λf s7 q7=>?_)
  have again:∀{bL:St}{H7:Hp},Inv X (pins++pinsAt fp s5.heap) bL H7 s7->N bL H7->∃m,m<n/\∃i ah H',Inv X pins ah H' s7/\tn i s7.heap/\(∀b∈fp,H' b=xh)/\W i m ah H':=λ{bL H7} I7 n7=>by
   obtain⟨m',hm,w7⟩:=hN bL H7 n7;refine⟨m',hm,i+1,bL,H7,I7.unpinned,T.keep _ _ _ st5 λb hb o e=>(I7.pin (b,o) (oj _ (oj _ (zaU_ hb e)))).1,λb hb=>?_,w7⟩
   obtain⟨o,e,d⟩:=T.obj _ _ st5 b hb;exact(I7.pin (b,o) (oj _ (oj _ (zaU_ hb e)))).2.1
  cases f with
  |next=>obtain⟨bL,H7,I7,n7⟩:=q7;exact again I7 n7|cont=>obtain⟨bL,H7,I7,n7⟩:=q7;exact again I7 n7|brk=>obtain⟨bL,H7,I7,q7⟩:=q7;exact⟨bL,H7,I7.unpinned,q7⟩|ret v=>obtain⟨x7,bL,H7,I7,r7,q7⟩:=q7;exact⟨x7,bL,H7,I7.unpinned,r7,q7⟩
end
abbrev R2:=V->V->Hp->VK->Prop
def OpR (X:Cx)(f:nI->nI->Sem nI)(r:R2):Prop:=
 ∀(pins:Pnn) (s:nO) (σ:St) (H:Hp) (x y:V) (v u:nI) (Q:VK),Inv X pins σ H s->RelV x v->RelV y u->r x y H Q ->
  oB (model X.prog X.w) X.A (f v u) (EP X pins σ Q) X.xe s
def UnR (X:Cx)(f:nI->Sem nI)(r:V->Hp->VK->Prop):Prop:=
 ∀(pins:Pnn) (s:nO) (σ:St) (H:Hp) (x:V) (v:nI) (Q:VK),Inv X pins σ H s->RelV x v->r x H Q ->
  oB (model X.prog X.w) X.A (f v) (EP X pins σ Q) X.xe s
def CallR (X:Cx)(f:nI)(r:List V->Hp->VK->Prop):Prop:=
 ∀(pins:Pnn) (s:nO) (σ:St) (H:Hp) (xs:List V) (us:List nI) (Q:VK),Inv X pins σ H s->Vals xs us->r xs H Q ->
  oB (model X.prog X.w) X.A (call f us) (EP X pins σ Q) X.xe s
def tOp (r:R2)(ta tb:TE):TE:=λσ H Q=>ta σ H λx H1=>tb σ H1 λy H2=>r x y H2 Q
def rI (C:Int->Int->Prop)(g:Int->Int->V):R2:=λx y H Q=>∃i j,x=.int i/\y=.int j/\C i j/\Q (g i j) H
def rI0 (g:Int->Int->V):R2:=λx y H Q=>∃i j,x=.int i/\y=.int j/\Q (g i j) H
def rU (g:Int->V):V->Hp->VK->Prop:=λx H Q=>∃i,x=.int i/\Q (g i) H
section
variable {X:Cx}{a b:oq}{ta tb:TE}{pos:Pos}
theorem binT (ha:PE X a ta)(hb:PE X b tb){pins:Pnn}{s:nO}{σ:St}{H:Hp}{R:V->V->Hp->Prop}(I:Inv X pins σ H s)
  (h:ta σ H λx H1=>tb σ H1 λy H2=>R x y H2) {Q:nI->nO->Prop}{f:nI->nI->Sem nI}
  (hf:∀v u s2 x y H2,Inv X pins σ H2 s2->RelV x v->RelV y u->R x y H2->oB (model X.prog X.w) X.A (f v u) Q X.xe s2):
  oB (model X.prog X.w) X.A (eval a X.env) (λv ae=>oB (model X.prog X.w) X.A (eval b X.env) (λu aA=>oB (model X.prog X.w) X.A (f v u) Q X.xe aA) X.xe ae) X.xe s:=by
 refine thn (ha pins s σ H _ I h) λv s1 af=>?_
 obtain⟨x,H1,I1,r1,q1⟩:=af;refine thn (hb pins s1 σ H1 _ I1 q1) λu s2 af=>?_
 obtain⟨y,H2,I2,r2,q2⟩:=af;exact hf v u s2 x y H2 I2 r1 r2 q2
theorem zot_ {op:Operator}{r:R2}(ho:OpR X (qy op) r)(ha:PE X a ta)(hb:PE X b tb):PE X (.BinOp a op b pos) (tOp r ta tb):=by
 intro pins s σ H Q I h;exact wpAny_BinOp (binT ha hb I h λv u s2 x y H2 I2 rx ry q=>ho pins s2 σ H2 x y v u Q I2 rx ry q)
theorem opI {f:nI->nI->Sem nI}{C:Int->Int->Prop}{g:Int->Int->Int}
  (rule:∀(i j:Int) (t u:Tok) (s:nO) (Q:nI->nO->Prop) (E:nI->nO->Prop),C i j->Q (.int (g i j) s.toks) {s with toks:=s.toks+1}->oB (model X.prog X.w) X.A (f (.int i t) (.int j u)) Q E s):
  OpR X f (rI C λi j=>.int (g i j)):=by
 intro pins s σ H x y v u Q I rx ry h;obtain⟨i,j,rfl,rfl,hc,q⟩:=h;obtain⟨t,rfl⟩:=rx;obtain⟨t',rfl⟩:=ry;exact rule i j t t' s _ _ hc ⟨.int (g i j),H,I.tok _,⟨_,rfl⟩,q⟩
theorem opI0 {f:nI->nI->Sem nI}{g:Int->Int->Int}
  (rule:∀(i j:Int) (t u:Tok) (s:nO) (Q:nI->nO->Prop) (E:nI->nO->Prop),Q (.int (g i j) s.toks) {s with toks:=s.toks+1}->oB (model X.prog X.w) X.A (f (.int i t) (.int j u)) Q E s):
  OpR X f (rI0 λi j=>.int (g i j)):=by
 intro pins s σ H x y v u Q I rx ry h;obtain⟨i,j,rfl,rfl,q⟩:=h;obtain⟨t,rfl⟩:=rx;obtain⟨t',rfl⟩:=ry;exact rule i j t t' s _ _ ⟨.int (g i j),H,I.tok _,⟨_,rfl⟩,q⟩
theorem opB0 {f:nI->nI->Sem nI}{g:Int->Int->Bool}
  (rule:∀(i j:Int) (t u:Tok) (s:nO) (Q:nI->nO->Prop) (E:nI->nO->Prop),Q (.bool (g i j)) s->oB (model X.prog X.w) X.A (f (.int i t) (.int j u)) Q E s):
  OpR X f (rI0 λi j=>.bl (g i j)):=by
 intro pins s σ H x y v u Q I rx ry h;obtain⟨i,j,rfl,rfl,q⟩:=h;obtain⟨t,rfl⟩:=rx;obtain⟨t',rfl⟩:=ry;exact rule i j t t' s _ _ ⟨.bl (g i j),H,I,rfl,q⟩
def CDiv (i j:Int):Prop:=0<j/\j<1073741824
def CPow (i j:Int):Prop:=0<=j/\j<=1000000/\i.natAbs<2 ^ 64
def CMul (i j:Int):Prop:=(-(2 ^ 64)<i/\i<2 ^ 64)\/(-(2 ^ 64)<j/\j<2 ^ 64)
theorem CMul.ok {i j:Int}(h:CMul i j):IntMulOk i j:=by
 rcases h with⟨h1,h2⟩|⟨h1,h2⟩
 ·exact .of_left (intBits_le_64 h1 h2)
 ·exact .of_right (intBits_le_64 h1 h2)
theorem zoQ_:OpR X (qy .Add) (rI0 λi j=>.int (i+j)):=opI0 λ_ _ _ _ _ _ _ q=>add_int q
theorem zpR_:OpR X (qy .Sub) (rI0 λi j=>.int (i-j)):=opI0 λ_ _ _ _ _ _ _ q=>sub_int q
theorem zn9_:OpR X (qy .Mod) (rI (λ_ j=>0<j) λi j=>.int (i % j)):=opI λi j _ _ _ _ _ hc q=>by
 have h1:(0:Int)<j:=hc;exact mod_int' (by lia) (by rw[Int.fmod_eq_emod_of_nonneg i (by lia)];exact q)
theorem unI {f:nI->Sem nI}{g:Int->Int}
  (rule:∀(i:Int) (t:Tok) (s:nO) (Q:nI->nO->Prop) (E:nI->nO->Prop),Q (.int (g i) s.toks) {s with toks:=s.toks+1}->oB (model X.prog X.w) X.A (f (.int i t)) Q E s):
  UnR X f (rU λi=>.int (g i)):=by
 intro pins s σ H x v Q I rx h;obtain⟨i,rfl,q⟩:=h;obtain⟨t,rfl⟩:=rx;exact rule i t s _ _ ⟨.int (g i),H,I.tok _,⟨_,rfl⟩,q⟩
theorem zn3_:UnR X (unaryOp .USub) (rU λi=>.int (-i)):=unI λ_ _ _ _ _ q=>neg_int q
theorem zix_ {pins:Pnn}{σ:St}{H:Hp}{s:nO}{Q:VK}{k k':Bool}(I:Inv X pins σ H s)(q:Q (.bl k) H)(e:k=k'):EP X pins σ Q (.bool k') s:=by
 subst e;exact⟨.bl k,H,I,rfl,q⟩
theorem op_lt:OpR X (oQ .Lt) (rI0 λi j=>.bl (decide (i<j))):=opB0 λ_ _ _ _ _ _ _ q=>lt_int q
theorem op_le:OpR X (oQ .LtE) (rI0 λi j=>.bl (decide (i<=j))):=opB0 λ_ _ _ _ _ _ _ q=>le_int q
theorem op_gt:OpR X (oQ .Gt) (rI0 λi j=>.bl (decide (j<i))):=opB0 λ_ _ _ _ _ _ _ q=>gt_int q
theorem zg9_:OpR X (oQ .In) (λx y H Q=>∃i j,x=.str i/\y=.str j/\Q (.bl (!(rV j i 0 j.length 1).isEmpty)) H):=by
 intro pins s σ H x y v u Q I rx ry h;obtain⟨i,j,rfl,rfl,q⟩:=h;obtain⟨t,rfl⟩:=rx;obtain⟨t',rfl⟩:=ry;exact in_str (zix_ I q rfl)
theorem znA_:OpR X (oQ .Is) (λx y H Q=>y=.non/\Q (.bl (decide (x=.non))) H):=by
 intro pins s σ H x y v u Q I rx ry h;obtain⟨rfl,q⟩:=h;cases ry;refine is_none_gen (zix_ I q ?_)
 cases x<;>first
  |(cases rx;rfl)
  |(obtain⟨t,rfl⟩:=rx;rfl)
theorem zmf_:OpR X (oQ .IsNot) (λx y H Q=>y=.non/\Q (.bl (!decide (x=.non))) H):=by
 intro pins s σ H x y v u Q I rx ry h;obtain⟨rfl,q⟩:=h;cases ry;refine isnot_none_gen (zix_ I q ?_)
 cases x<;>first
  |(cases rx;rfl)
  |(obtain⟨t,rfl⟩:=rx;rfl)
theorem zmM_ {op:CmpOp}{r:R2}(ho:OpR X (oQ op) r)(ha:PE X a ta)(hb:PE X b tb)(hm:behindInMarks op b=xk):PE X (.Compare a [op] [b] pos) (tOp r ta tb):=by
 intro pins s σ H Q I h;exact wpAny_Compare1 (binT ha hb I h λv u s2 x y H2 I2 rx ry q=>ho pins s2 σ H2 x y v u Q I2 rx ry q) hm
theorem line63:(oh:Nat)<2 ^ 63:=by rw[sizeLine_eq];decide
theorem zeW_:OpR X (qy .Add) (λx y H Q=>∃i j,x=.str i/\y=.str j/\i.length+j.length<=oh/\Q (.str (i++j)) H):=by
 intro pins s σ H x y v u Q I rx ry h;obtain⟨i,j,rfl,rfl,hz,q⟩:=h;obtain⟨t,rfl⟩:=rx;obtain⟨t',rfl⟩:=ry;exact add_str (λt' tk=>⟨.str (i++j),H,I.tok _,⟨_,rfl⟩,q⟩) hz
theorem vals1 {x:V}{us:List nI}(r:Vals [x] us):∃u,us=[u]/\RelV x u:=by
 cases r with
 |cons r1 r2=>cases r2;exact⟨_,rfl,r1⟩
theorem vals2 {x y:V}{us:List nI}(r:Vals [x,y] us):∃u w',us=[u,w']/\RelV x u/\RelV y w':=by
 cases r with
 |cons r1 r2=>
  cases r2 with
  |cons r3 r4=>cases r4;exact⟨_,_,rfl,r1,r3⟩
theorem zgj_ (hc:X.calm=xj):CallR X (.builtin "min") (λxs H Q=>∃i j,xs=[.int i,.int j]/\Q (.int (if j<i then j else i)) H):=by
 intro pins s σ H xs us Q I r h;obtain⟨i,j,rfl,q⟩:=h;obtain⟨u,w',rfl,⟨t,rfl⟩,⟨t',rfl⟩⟩:=vals2 r;refine min_two_ints (I.ok.hd hc) λh' tk k=>⟨_,H,I.kept k,?_,q⟩
 by_cases hj:j<i
 ·rw[if_pos hj,if_pos hj];exact⟨_,rfl⟩
 ·rw[if_neg hj,if_neg hj];exact⟨_,rfl⟩
end
structure ObjM (h:Heap)(x dx C:nR)(mA:Str->Option nI):Prop where
 obj:h.get? x=xg (sf C dx)
 ns:h.Ns1 dx mA
 ne:dx≠x
theorem zgZ_ {h:Heap}{dx:nR}{mA:Str->Option nI}(n:h.Ns1 dx mA):∃od,h.get? dx=xg od/\∀name,wK name od=xg (mA name):=by
 obtain⟨o,es,ep,ho,hd,hk,_,hm⟩:=n;refine⟨o,ho,λname=>?_⟩
 have e:=hm name;unfold nsFind findBy at e;rw[<- Array.find?_toList]at e;unfold wK;rw[hd];dsimp only;split
 ·rename_i y q
  rw[q]at e;exact congrArg xg e
 ·rename_i q
  rw[q]at e;have a:es.toList.any (·.refKey)=xk:=by
   rw[uJ];intro y hy;obtain⟨z,t,hkey⟩:=hk y (Array.mem_toList_iff.mp hy);simp[DictEntry.refKey,hkey]
  have a':¬es.toList.any (·.refKey)=xj:=by rw[a];exact pO
  rw[if_neg a'];exact congrArg xg e
theorem ObjM.look {h:Heap}{x dx C:nR}{mA:Str->Option nI}(I:ObjM h x dx C mA):∃od,W.InstAt h x (sf C dx) C (xg od)/\∀name,wK name od=xg (mA name):=
 let⟨od,ho,hl⟩:=zgZ_ I.ns
 ⟨od,⟨I.obj,rfl,rfl,ho⟩,hl⟩
section
variable {prog:oH}{w:oV}{A:ph}{E:nI->nO->Prop}{s:nO}{K:Fgg}{x dx C f:nR}{mA:Str->Option nI}{name:Str}{v:nI}
theorem zk8_ {expr:Bool}{Q:nI->nO->Prop}(X:K.In s.heap)(I:ObjM s.heap x dx C mA)(hg:tW K C name=xj)(hh:sr K C=xj)
  (ha:qo K (.ref C) name=xg xh) (hv:mA name=xg v) (gU:vk v=xj) (h:Q v {s with toks:=s.toks+1}):
  oB (model prog w) A (getAttr (.ref x) name expr) Q E s:=by
 obtain⟨od,J,hl⟩:=I.look;exact W.get_value X J (W.plainGet_of hg).1 (W.findObj_own hh ha rfl (by rw[hl,hv])) gU h
theorem zlM_ {ns:List Str}{Q:Unit->nO->Prop}(X:K.In s.heap)(I:ObjM s.heap x dx C mA)
  (hs:qo K (.ref C) "__setattr__"=xg (xg (.builtin "object.__setattr__"))) (hp:uu K C=xj) (ht:vG K C name=xg xh) (hh:sr K C=xj)
  (hw:tV mA ns) (hsz:ns.length<=oh)
  (h:∀h',ObjM h' x dx C (λy=>if y=name then xg v else mA y)->rG dx s.heap h'->Q () {s with heap:=h',toks:=s.toks+2}):
  oB (model prog w) A (setAttr (.ref x) name v) Q E s:=by
 obtain⟨od,J,hl⟩:=I.look;refine W.set_plain X J hs (W.osa_open (s:={s with toks:=s.toks+1}) (r:=xh) X J hp ht λb=>?_)
 obtain⟨cd,hc,hd'⟩:=W.any_some hh;have hx:s.heap.get? x=xg ⟨.ref C,xg dx,.plain,#[]⟩:=I.obj;refine nJ (nX (nJ (nJ (wpAny_loadPart hx (nJ (W.Looks.here (s:={s with toks:=s.toks+1}) (W.looks_clsIn X hc) ?_))))));rw[hd'];refine nX (a:=xg dx) (nJ (nX (nJ ?_)));refine wpAny_nsSet1 (s:={s with toks:=s.toks+1}) I.ns λh' cR aY=>?_
 obtain⟨oD,esD,epD,hoD,hdD,hcD⟩:=cR.count (xb name v hw);refine nJ (wpAny_lookBehind hoD (by rw[hdD];exact pastItsLine_dict (pX hcD (by rw[n6];lia))) ?_)
 exact nX (h _ ⟨(aY.2 _ (rA I.ne)).trans I.obj,cR,I.ne⟩ aY)
theorem zjR_ {R:Result->nO->Prop}{vs:List nI}{kw:List (Str×nI)}(X:K.In s.heap)(hm:uP K C=xj)
  (hi:qo K (.ref C) "__init__"=xg (xg (.ref f))) (hf:wL K (.ref f)=xg (.type "function"))
  (h:codeAny (model prog w) (A.under (.builtin "type.__call__" ⟨.ref C::vs,kw⟩)) (.call (.ref f) ⟨.ref (s.heap.objs.size+1)::vs,kw⟩) (W.InitBack (s.heap.objs.size+1) R)
   {s with heap:=(s.heap.push rb).push (sf C s.heap.objs.size)}):
  codeAny (model prog w) A (.call (.ref C) ⟨vs,kw⟩) R s:=by
 obtain⟨hh,g,d,t,os⟩:=s;exact W.make_core (W.makes_of X hm) (W.looks_findIn X hi) (λself=>W.bind_fn X self hf) (.inl rfl) h
end
noncomputable def putF (f:Str)(v:V):List (Str×V)->List (Str×V)
 |[]=>[(f,v)]|(g,x)::r=>if g=f then(g,v)::r else(g,x)::putF f v r
theorem zch_ (f g:Str)(v:V):∀fs:List (Str×V),(putF f v fs).lookup g=if g=f then xg v else fs.lookup g
 |[]=>by
  show qR g [(f,v)]=_
  by_cases h:g=f
  ·have hb:(g == f)=xj:=beq_iff_eq.mpr h
   simp only[qR,hb,if_pos h]
  ·have hb:(g == f)=xk:=beq_eq_false_iff_ne.mpr h
   simp only[qR,hb,if_neg h]
 |(k,x)::r=>by
  have ih:=zch_ f g v r;rw[show putF f v ((k,x)::r)=(if k=f then(k,v)::r else(k,x)::putF f v r)from rfl]
  by_cases hk:k=f
  ·rw[if_pos hk]
   by_cases h:g=k
   ·have hb:(g == k)=xj:=beq_iff_eq.mpr h
    simp only[qR,hb,if_pos (h.trans hk)]
   ·have hb:(g == k)=xk:=beq_eq_false_iff_ne.mpr h
    simp only[qR,hb,if_neg (λe:g=f=>h (e.trans hk.symm))]
  ·rw[if_neg hk]
   by_cases h:g=k
   ·have hb:(g == k)=xj:=beq_iff_eq.mpr h
    simp only[qR,hb,if_neg (λe:g=f=>hk (h.symm.trans e))]
   ·have hb:(g == k)=xk:=beq_eq_false_iff_ne.mpr h
    simp only[qR,hb];exact ih
theorem zcp_ (f:Str)(v:V):∀fs:List (Str×V),f∈(putF f v fs).map (·.1)/\∀g,g∈fs.map (·.1)->g∈(putF f v fs).map (·.1)
 |[]=>⟨by simp[putF],λg h=>by simp at h⟩|(k,x)::r=>by
  obtain⟨i1,i2⟩:=zcp_ f v r;rw[show putF f v ((k,x)::r)=(if k=f then(k,v)::r else(k,x)::putF f v r)from rfl]
  by_cases hk:k=f
  ·rw[if_pos hk]
   subst hk;exact⟨by simp,λg h=>by simpa using h⟩
  ·rw[if_neg hk]
   refine⟨?_,λg h=>?_⟩
   ·rw[nS]
    exact nY _ i1
   ·rw[nS]at h ⊢
    rcases og.mp h with e |e
    ·exact og.mpr (.inl e)
    ·exact nY _ (i2 g e)
theorem zb9_ (f:Str)(v:V):∀fs:List (Str×V),(putF f v fs).length<=fs.length+1
 |[]=>by simp[putF]
 |(k,x)::r=>by
  have ih:=zb9_ f v r;rw[show putF f v ((k,x)::r)=(if k=f then(k,v)::r else(k,x)::putF f v r)from rfl]
  by_cases hk:k=f
  ·rw[if_pos hk,n6,n6];lia
  ·rw[if_neg hk,n6,n6];lia
theorem RelO.some_of {v:V}{o:Option nI}(r:RelO (xg v) o):∃u,o=xg u/\RelV v u:=by
 cases o with
 |none=>exact(show False from r).elim|some u=>exact⟨u,rfl,r⟩
theorem zhr_ {v:V}{u:nI}(r:RelV v u):vk u=xj:=by
 cases v with
 |non=>cases(show u=qE from r);rfl|bl b=>cases(show u=rD b from r);rfl|int i=>obtain⟨t,e⟩:=(show∃t,u=tK i t from r);cases e;rfl|str x=>obtain⟨t,e⟩:=(show∃t,u=rT x t from r);cases e;rfl|byt b=>obtain⟨t,e⟩:=(show∃t,u=wJ b t from r);cases e;rfl|flt b=>obtain⟨t,e⟩:=(show∃t,u=uZ b t from r);cases e;rfl|ref a=>cases(show u=pB a from r);rfl|ty n=>cases(show u=uF n from r);rfl
section
variable {P:oH}{w:oV}{H:Hp}{h:Heap}{a C dx:nR}{fs:List (Str×V)}
theorem zfL_ (hok:HOk P w H h)(e:H a=xg (.ins C dx fs)):∃mA,ObjM h a dx C mA/\(∀f,RelO (fs.lookup f) (mA f))/\tV mA (fs.map (·.1))/\fs.length<=1000/\H dx=xg (.own a):=by
 obtain⟨d,z,ne,ob,mA,n,r,q⟩:=(show ObjOk P w H h a (.ins C dx fs)from hok a _ e)
 exact⟨mA,⟨ob,n,ne⟩,r,q,z,d⟩
end
structure Cls (K:Fgg)(C:nR):Prop where
 pg:tW K C vH=xj
 hd:sr K C=xj
 po:uu K C=xj
 sa:qo K (.ref C) "__setattr__"=xg (xg (.builtin "object.__setattr__"))
theorem Cls.get {K:Fgg}{C:nR}(c:Cls K C)(f:Str):tW K C f=xj:=c.pg
def NoAttr (K:Fgg)(C:nR)(f:Str):Prop:=qo K (.ref C) f=xg xh
theorem NoAttr.taker {K:Fgg}{C:nR}{f:Str}(n:NoAttr K C f):vG K C f=xg xh:=by
 unfold vG;rw[show qo K (.ref C) f=xg xh from n]
 rfl
section
variable {X:Cx}{pins:Pnn}{σ:St}{H:Hp}{s:nO}{a C dx:nR}{fs:List (Str×V)}{f:Str}{v:V}{A:ph}{E:nI->nO->Prop}
theorem zeD_ {b:Bool}{Q:nI->nO->Prop}(I:Inv X pins σ H s)(e:H a=xg (.ins C dx fs))(c:Cls X.K C)(n:NoAttr X.K C f)(l:fs.lookup f=xg v)
  (h:∀u s',Inv X pins σ H s'->RelV v u->Q u s'):oB (model X.prog X.w) A (getAttr (.ref a) f b) Q E s:=by
 obtain⟨mA,O,r,_,_,_⟩:=zfL_ I.hok e;obtain⟨u,hu,ru⟩:=RelO.some_of (v:=v) (o:=mA f) (by rw[<- l];exact r f)
 exact zk8_ I.kIn O (c.get f) c.hd n hu (zhr_ ru) (h u _ (I.tok _) ru)
theorem zf9_ {y:V}{u:nI}{Q:Unit->nO->Prop}(I:Inv X pins σ H s)(e:H a=xg (.ins C dx fs))(c:Cls X.K C)(n:NoAttr X.K C f)(hl:fs.length<1000)(ry:RelV y u)
  (h:∀s',Inv X pins σ (upd H a (.ins C dx (putF f y fs))) s'->Q () s'):oB (model X.prog X.w) A (setAttr (.ref a) f u) Q E s:=by
 obtain⟨mA,O,r,wi,_,ho⟩:=zfL_ I.hok e;have hz:(fs.map (·.1)).length<=oh:=by rw[nN,sizeLine_eq];lia
 refine zlM_ I.kIn O c.sa c.po n.taker c.hd wi hz λh' O' sb=>h _ ?_
 have hd:∃o,h'.get? dx=xg o:=let⟨o,_,_,e',_⟩:=O'.ns;⟨o,e'⟩
 refine I.write (x:=a) (e:=dx) (by rw[e];exact qd) (.inr ho) (λb q hb z=>(sb.2 b hb).trans z) hd ?_
 refine⟨by rw[zm_ O.ne];exact ho,?_,O.ne,O'.obj,_,O'.ns,λg=>?_,λg hg=>?_⟩
 ·have:=zb9_ f y fs;lia
 ·show RelO ((putF f y fs).lookup g) (if g=f then xg u else mA g)
  rw[zch_];by_cases q:g=f
  ·rw[if_pos q,if_pos q];exact ry
  ·rw[if_neg q,if_neg q];exact r g
 ·by_cases q:g=f
  ·rw[q];exact(zcp_ f y fs).1
  ·refine(zcp_ f y fs).2 g (wi g λz=>hg ?_)
   show(if g=f then xg u else mA g)=xh
   rw[if_neg q];exact z
theorem Inv.made (I:Inv X pins σ H s):Inv X pins σ (upd (upd H s.heap.objs.size (.own (s.heap.objs.size+1))) (s.heap.objs.size+1) (.ins C s.heap.objs.size []))
  {s with heap:=(s.heap.push rb).push (sf C s.heap.objs.size)}:=by
 have e1:(s.heap.push rb).get? s.heap.objs.size=xg rb:=ox s.heap rfl;have e2:((s.heap.push rb).push (sf C s.heap.objs.size)).get? (s.heap.objs.size+1)=xg (sf C s.heap.objs.size):=by
  have:=ox (s.heap.push rb) (o:=sf C s.heap.objs.size) rfl;rwa[qF]at this
 have e3:(s.heap.push rb).Ns s.heap.objs.size (λ_=>xh):=⟨rb,#[],_,e1,rfl,(λe he=>absurd he (by simp)),λ_=>rfl⟩
 have I1:=I.laid (a:=s.heap.objs.size) (o:=.own (s.heap.objs.size+1)) (h':=s.heap.push rb) (t':=s.toks) (λb u q=>nQ _ q) (nZ _) ⟨_,e1⟩
 refine I1.laid (a:=s.heap.objs.size+1) (o:=.ins C s.heap.objs.size []) (t':=s.toks) (λb u q=>nQ _ q) (vP (qF _ _)) ?_
 have ne:s.heap.objs.size≠s.heap.objs.size+1:=oR (si _);refine⟨by rw[zm_ ne,ze_],qS _,ne,e2,λ_=>xh,(Heap.Ns1.of_empty e3).at λo q=>nQ _ q,λ_=>qd,λy hy=>absurd rfl hy⟩
theorem zkg_ {prog:oH}{w:oV}{env:Env}{e:oq}{f:Str}{pos:Pos}{s:nO}{Q:nI->nO->Prop}(hb:attributeBase e f env (eval e env)=eval e env)
  (h:oB (model prog w) A (eval e env) (λo ae=>oB (model prog w) A (getAttr o f xj) Q E ae) E s):oB (model prog w) A (eval (.Attribute e f pos) env) Q E s:=
 Attribute_any_ h (by rw[arm_eval_Attribute,hb])
end
section
variable {X:Cx}{pins:Pnn}{σ:St}{H:Hp}{s:nO}{A:ph}{E Q:nI->nO->Prop}{c:nI}{b:Bool}
inductive TyOf (K:Fgg) (H:Hp):V->nI->Prop where
 |non:TyOf K H .non (.type "NoneType")
 |bl (x:Bool):TyOf K H (.bl x) (.type "bool")
 |int (i:Int):TyOf K H (.int i) (.type "int")
 |str (x:Str):TyOf K H (.str x) (.type "str")
 |flt (x:UInt64):TyOf K H (.flt x) (.type "float")
 |lst {a:nR}{xs:List V}(e:H a=xg (.lst xs)):TyOf K H (.ref a) (.type "list")
 |frz {a:nR}{o:vi}{xs:List V}(e:H a=xg (.frz o (.lst xs))):TyOf K H (.ref a) (.type "list")
 |tup {a:nR}{xs:List V}(e:H a=xg (.tup xs)):TyOf K H (.ref a) (.type "tuple")
 |dK {a:nR}{kvs:List (Key×V)}(e:H a=xg (.dK kvs)):TyOf K H (.ref a) (.type "dict")
 |dT {a:nR}{kvs:List (List Key×V)}(e:H a=xg (.dT kvs)):TyOf K H (.ref a) (.type "dict")
 | ins {a C dx:nR}{fs:List (Str×V)}(e:H a=xg (.ins C dx fs)) (cl:Cls K C) (ha:qo K (.ref C) "__class__"=xg (xg (.builtin "object.__class__")))
   (hn:tq K (.builtin "object.__class__") "__get__"=xg (xg (.builtin "getset_descriptor.__get__"))) (d8:W.takesIn K (.builtin "object.__class__")=xg xj)
   (hm:uz K C (.type "object")=xg xj):TyOf K H (.ref a) (.ref C)
theorem zgx_ {x:V}{u t:nI}(I:Inv X pins σ H s)(rx:RelV x u)(ty:TyOf X.K H x t)(e:uK X.K t c=xg b)(h:∀tk,Q (.bool b) {s with toks:=tk}):
  oB (model X.prog X.w) A (call (.builtin "isinstance") [u,c]) Q E s:=by
 cases ty with
 |non=>cases(show u=qE from rx);exact qZ W.kitx_none I.kIn qd e (λz=>nomatch z) h|bl y=>cases(show u=rD y from rx);exact qZ W.kitx_bool I.kIn qd e (λz=>nomatch z) h|int i=>obtain⟨t,q⟩:=(show∃t,u=tK i t from rx);cases q;exact qZ W.kitx_int I.kIn qd e (λz=>nomatch z) h|str y=>obtain⟨t,q⟩:=(show∃t,u=rT y t from rx);cases q;exact qZ W.kitx_str I.kIn qd e (λz=>nomatch z) h|flt y=>obtain⟨t,q⟩:=(show∃t,u=uZ y t from rx);cases q;exact qZ W.kitx_float I.kIn qd e (λz=>nomatch z) h| @lst a xs ea=>
  cases(show u=pB a from rx)
  obtain⟨_,_,n,_,h1⟩:=(show ObjOk X.prog X.w H s.heap a (.lst xs)from I.hok a _ ea)
  exact qZ W.kitx_list I.kIn ⟨_,h1,rfl⟩ e (λz=>nomatch z) h
 | @frz a ob xs ea=>
  cases(show u=pB a from rx)
  obtain⟨_,_,_,n,_,h1⟩:=(show ObjOk X.prog X.w H s.heap a (.frz ob (.lst xs))from I.hok a _ ea)
  exact qZ W.kitx_list I.kIn ⟨_,h1,rfl⟩ e (λz=>nomatch z) h
 | @tup a xs ea=>
  cases(show u=pB a from rx)
  obtain⟨_,_,_,p⟩:=(show ObjOk X.prog X.w H s.heap a (.tup xs)from I.hok a _ ea)
  obtain⟨o,h1,h2,_⟩:=p;exact qZ W.kitx_tuple I.kIn ⟨o,h1,h2⟩ e (λz=>nomatch z) h
 | @dK a kvs ea=>
  cases(show u=pB a from rx)
  obtain⟨_,_,vs,_,p⟩:=(show ObjOk X.prog X.w H s.heap a (.dK kvs)from I.hok a _ ea)
  obtain⟨o,es,ep,h1,h2,_⟩:=p;exact qZ W.kitx_dict I.kIn ⟨o,h1,h2.1⟩ e (λz=>nomatch z) h
 | @dT a kvs ea=>
  cases(show u=pB a from rx)
  obtain⟨_,_,xs,_,o,es,ep,h1,h2,_⟩:=(show ObjOk X.prog X.w H s.heap a (.dT kvs)from I.hok a _ ea)
  exact qZ W.kitx_dict I.kIn ⟨o,h1,h2.1⟩ e (λz=>nomatch z) h
 | @ins a C dx fs ea cl ha hn d8 hm=>
  cases(show u=pB a from rx)
  obtain⟨mA,O,_⟩:=zfL_ I.hok ea;obtain⟨od,J,_⟩:=O.look;exact qZ (W.kitx_own (cl.get _) cl.hd ha hn d8 hm) I.kIn J e (λz=>nomatch z) h
end
structure Room (k:Nat)(A:ph):Prop where
 hd:A.handled=xh
 dp:A.depth+3*k+5<recursionLimit
 un:A.units+16*k+200<cLine
theorem Room.mono {j k:Nat}{A:ph}(r:Room k A)(h:j<=k):Room j A:=⟨r.hd,by have:=r.dp;lia,by have:=r.un;lia⟩
theorem Room.deeper {k:Nat}{A:ph}(r:Room (k+1) A)(env:Env):Room k (A.deeper env):=
 ⟨r.hd,by have:=r.dp;show A.depth+1+3*k+5<_;lia,by have:=r.un;show A.units+3+16*k+200<_;lia⟩
theorem zfa_ {A:ph}{C:nR}{us:List nI}{kw:List (Str×nI)}:(A.under (.builtin "type.__call__" ⟨.ref C::us,kw⟩)).depth=A.depth+1:=by
 first |rfl |simp[Around.under,Code.weight,Code.isCreation,Code.isGuard,Code.isCaller,Code.frames,Code.isFrame,guardIds]
theorem zeE_ {A:ph}{C:nR}{us:List nI}{kw:List (Str×nI)}:(A.under (.builtin "type.__call__" ⟨.ref C::us,kw⟩)).units=A.units+1:=by
 first |rfl |simp[Around.under,Code.cUnits,Code.frames,Code.isFrame]
theorem Room.make {k:Nat}{A:ph}(r:Room (k+1) A)(C:nR)(us:List nI)(kw:List (Str×nI)):Room k (A.under (.builtin "type.__call__" ⟨.ref C::us,kw⟩)):=
 ⟨r.hd,by have:=r.dp;rw[zfa_];lia,by have:=r.un;rw[zeE_];lia⟩
theorem Room.depth {k:Nat}{A:ph}(r:Room k A):A.depth<recursionLimit:=by have:=r.dp;lia
def tNil:TA:=λ_ H Q=>Q [] H
def tCons (ta:TE)(tr:TA):TA:=λσ H Q=>ta σ H λx H1=>tr σ H1 λxs H2=>Q (x::xs) H2
section
variable {X:Cx}{e:oq}{es:List oq}{te:TE}{t:TA}{pos:Pos}
theorem zc6_:PA X [] tNil:=λ_ _ _ _ H Q I h=>Calls.spliced_nil ⟨[],H,I,.nil,h⟩
theorem zal_ (ha:PE X e te)(hr:PA X es t)(hs:oN (e::es) X.env=(xk,eval e X.env)::oN es X.env:=by rfl):PA X (e::es) (tCons te t):=by
 intro pos pins s σ H Q I h;rw[hs];show oB _ _ (spliced ((xk,eval e X.env)::qJ pos (oN es X.env))) _ _ s
 refine Calls.spliced_cons (thn (ha pins s σ H _ I h) λu s1 af=>?_)
 obtain⟨x,H1,I1,r1,q1⟩:=af;exact thn (hr pos pins s1 σ H1 _ I1 q1) λus s2 ⟨xs,H2,I2,r2,q2⟩=>⟨x::xs,H2,I2,.cons r1 r2,q2⟩
def tTup (t:TA):TE:=λσ H Q=>t σ H λxs H1=>xs.length<=oh/\∀p,H1 p=xh->Q (.ref p) (upd H1 p (.tup xs))
def tLst (t:TA):TE:=λσ H Q=>t σ H λxs H1=>xs.length<=oh/\∀p,H1 p=xh->Q (.ref p) (upd H1 p (.lst xs))
theorem zko_ {x1}(h:PA X es t):PE X (.Tuple es x1 pos) (tTup t):=by
 intro pins s σ H Q I hq;refine wpAny_Tuple_spliced (thn (h pos pins s σ H _ I hq) λus s1 ⟨xs,H1,I1,r,z,q⟩=>⟨by rw[<- r.length];exact z,?_⟩)
 have hf:H1 s1.heap.objs.size=xh:=I1.hok.fresh (nZ _);refine⟨.ref s1.heap.objs.size,upd H1 s1.heap.objs.size (.tup xs),I1.laid (t':=s1.toks) (λb u e=>nQ _ e) (nZ _) ?_,rfl,q _ hf⟩
 exact⟨z,us,r,⟨_,ox _ rfl,rfl,_,rfl⟩⟩
theorem zjK_ (h:PA X es t):PE X (.List es pos) (tLst t):=by
 intro pins s σ H Q I hq;refine wpAny_List_spliced (thn (h pos pins s σ H _ I hq) λus s1 ⟨xs,H1,I1,r,z,q⟩=>⟨by rw[<- r.length];exact z,?_⟩)
 have hf:H1 s1.heap.objs.size=xh:=I1.hok.fresh (nZ _);refine⟨.ref s1.heap.objs.size,upd H1 s1.heap.objs.size (.lst xs),I1.laid (t':=s1.toks) (λb u e=>nQ _ e) (nZ _) ?_,rfl,q _ hf⟩
 exact⟨z,us,0,r,ox _ rfl⟩
end
abbrev Sp:=List V->Hp->VK->XK->Prop
abbrev CXT:=List Env->Hp->nO->XK->nI->nO->Prop
structure Env0 (P:oH)(w:oV)(K:Fgg)(mg:Str->Option nI)(base:Heap)(A:ph)(outer:List Env)(s:nO)(H:Hp):Prop where
 frames:A.frames=xg outer
 mod:Mod K mg base
 bs:∀b o,base.get? b=xg o->s.heap.get? b=xg o/\H b=xh
 bsz:base.objs.size<=s.heap.objs.size
 funs:s.heap.FunFrames base outer
 frf:∀b∈frs outer,H b=xh
 hok:HOk P w H s.heap
 bare:AllBare s.gens
 tb:Tb K H
def CE (outer:List Env)(P:oH)(w:oV)(H:Hp)(s:nO)(Q:VK)(u:nI)(s':nO):Prop:=
 ∃v H',s'.os=s.os/\AllBare s'.gens/\Un (frs outer) [] H H' s.heap s'.heap/\HOk P w H' s'.heap/\RelV v u/\Q v H'
def CR (CX:CXT)(outer:List Env)(P:oH)(w:oV)(H:Hp)(s:nO)(Q:VK)(E:XK)(r:Result)(s':nO):Prop:=
 match r with
 |.ok (.ret u)=>CE outer P w H s Q u s'|.ok _=>False|.error e=>CX outer H s E e s'
structure FnOk (P:oH)(w:oV)(K:Fgg)(mg:Str->Option nI)(base:Heap)(CX:CXT)(k:Nat)(f:nR)(fd:pL)(ps:List Str)(sp:Sp):Prop where
 len:∀vs H Q E,sp vs H Q E->vs.length=ps.length
 run:∀(A:ph) (outer:List Env) (s:nO) (H:Hp) (args:Args) (us:List nI) (vs:List V) (Q:VK) (E:XK),Room k A->Env0 P w K mg base A outer s H->BindsTo s fd args (ps.zip us)->Vals vs us->sp vs H Q E ->
  codeAny (model P w) A (.call (.ref f) args) (CR CX outer P w H s Q E) s
theorem Env0.make {P:oH}{w:oV}{K:Fgg}{mg:Str->Option nI}{base:Heap}{A:ph}{outer:List Env}{s:nO}{H:Hp}(e:Env0 P w K mg base A outer s H)(C:nR)(us:List nI)(kw:List (Str×nI)):
  Env0 P w K mg base (A.under (.builtin "type.__call__" ⟨.ref C::us,kw⟩)) outer s H:=⟨by first |exact e.frames |(simpa [Around.under,Code.envs,Code.isFrame,pushEnvs]using e.frames),e.mod,e.bs,e.bsz,e.funs,e.frf,e.hok,e.bare,e.tb⟩
section
variable {X:Cx}{pins:Pnn}{σ:St}{H:Hp}{s s':nO}
theorem Inv.env0 (I:Inv X pins σ H s):Env0 X.prog X.w X.K X.mg X.base X.A X.stack s H:=
 ⟨I.ok.frames,I.ok.mod,I.bs,pX I.ok.bsz I.sz,I.stack,I.stkFree,I.hok,I.bare,I.tb⟩
theorem Inv.after {Q:VK}{u:nI}(I:Inv X pins σ H s)(h:CE X.stack X.prog X.w H s Q u s'):EP X pins σ Q u s':=by
 obtain⟨v,H',os,bare,un,hok,r,q⟩:=h;obtain⟨hh,g,d,t,os'⟩:=s';obtain rfl:os'=s.os:=os;exact⟨v,H',I.call (h':=hh) (g':=g) (d':=d) (t':=t) (ch:=[]) un hok bare (λb z=>absurd z (by simp)),r,q⟩
end
def tCall (sp:Sp)(ay:List V)(E:XK)(t:TA):TE:=λσ H Q=>t σ H λvs H1=>sp (vs++ay) H1 Q E
def tMake (C:nR)(sp:Sp)(ay:List V)(E:XK)(t:TA):TE:=λσ H Q=>t σ H λvs H1=>∀x dx,H1 x=xh->H1 dx=xh->dx≠x ->
 sp (.ref x::(vs++ay)) (upd (upd H1 dx (.own x)) x (.ins C dx [])) (λv H2=>v=.non/\Q (.ref x) H2) E
def Binds (K:Fgg)(fd:pL)(ps:List Str)(ds:List nI):Prop:=
 ∀(s:nO) (us:List nI),K.In s.heap->(us++ds).length=ps.length->BindsTo s fd ⟨us,[]⟩ (ps.zip (us++ds))
theorem Binds.all {K:Fgg}{fd:pL}{ps:List Str}(h:∀us:List nI,us.length=ps.length->bindArgs fd ⟨us,[]⟩=pure (ps.zip us)):Binds K fd ps []:=λs us _ hl=>by
 rw[pW]at hl ⊢;exact .of_eq (h us hl)
def Passes (CX:CXT)(X:Cx)(E:XK):Prop:=∀(pins:Pnn) (σ:St) (H:Hp) (s:nO) (e:nI) (s':nO),Inv X pins σ H s->CX X.stack H s E e s'->X.xe e s'
section
variable {X:Cx}{CX:CXT}{k:Nat}{f C:nR}{fd:pL}{ps:List Str}{sp:Sp}{ay:List V}{ds:List nI}{E:XK}{x:Str}{p pos:Pos}{e:oq}{es:List oq}{t:TA}
theorem zkI_ {pins:Pnn}{σ:St}{H:Hp}{s:nO}{Q:VK}{us:List nI}{vs:List V}(F:FnOk X.prog X.w X.K X.mg X.base CX k f fd ps sp)(hr:Room k X.A)(hb:Binds X.K fd ps ds)(hd:Vals ay ds)(hx:Passes CX X E)
  (I:Inv X pins σ H s) (r:Vals vs us) (h:sp (vs++ay) H Q E):oB (model X.prog X.w) X.A (call (.ref f) us) (EP X pins σ Q) X.xe s:=by
 have r2:Vals (vs++ay) (us++ds):=r.append hd;have hl:(us++ds).length=ps.length:=by rw[<- r2.length];exact F.len _ _ _ _ h
 refine wpAny_call (codeAny_mono (F.run X.A X.stack s H ⟨us,[]⟩ (us++ds) (vs++ay) Q E hr I.env0 (hb s us I.kIn hl) r2 h) λr s' hq=>?_)
 cases r with
 |error e=>exact hx pins σ H s e s' I hq|ok fl=>
  cases fl with
  |ret u=>exact I.after hq|next=>exact oS hq|brk=>exact oS hq|cont=>exact oS hq
theorem zk7_ (F:FnOk X.prog X.w X.K X.mg X.base CX k f fd ps sp)(hr:Room k X.A)(hg:Gl X x)(hm:X.mg x=xg (.ref f))(hk:qT X.K (.ref f)=xj)(hb:Binds X.K fd ps ds)(hd:Vals ay ds)(hx:Passes CX X E)
  (ha:PA X (e::es) t) (aC:(x==("__debug__":Str))=xk:=by decide) (he:oN (e::es) X.env=(xk,eval e X.env)::oN es X.env:=by rfl) (ax:(qJ pos (oN es X.env)).any (·.1)=xk:=by rfl):
  PE X (.Call (.Name x p) (e::es) [] pos) (tCall sp ay E t):=by
 intro pins s σ H Q I h;refine qp (zbi_ I hg hm ?_ aC);refine vQ (h₀:=X.base) I.ok.mod.kin hk (thn (ha pos pins s σ H _ I h) λus s1 ⟨vs,H1,I1,r,q⟩=>⟨I1.kIn,?_⟩) he ax
 exact zkI_ F hr hb hd hx I1 r q
theorem zjk_ (F:FnOk X.prog X.w X.K X.mg X.base CX k f fd ps sp)(hr:Room k X.A)(hg:Gl X x)(hm:X.mg x=xg (.ref f))(hk:qT X.K (.ref f)=xj)(hb:Binds X.K fd ps ds)(hd:Vals ay ds)(hx:Passes CX X E)
  (aC:(x==("__debug__":Str))=xk:=by decide):PE X (.Call (.Name x p) [] [] pos) (tCall sp ay E tNil):=by
 intro pins s σ H Q I h;refine qp (zbi_ I hg hm ?_ aC);exact vA I.kIn hk (zkI_ (us:=[]) F hr hb hd hx I .nil h)
structure Mk (K:Fgg)(C f:nR):Prop where
 makes:uP K C=xj
 init:qo K (.ref C) "__init__"=xg (xg (.ref f))
 fn:vR K (.ref f)=xj
 kp:qT K (.ref C)=xj
theorem zeC_ {pins:Pnn}{σ:St}{H:Hp}{s:nO}{Q:VK}{us:List nI}{vs:List V}(M:Mk X.K C f)(F:FnOk X.prog X.w X.K X.mg X.base CX k f fd ps sp)(hr:Room (k+1) X.A)(hb:Binds X.K fd ps ds)(hd:Vals ay ds)
  (hx:Passes CX X E) (I:Inv X pins σ H s) (r:Vals vs us)
  (h:∀x dx,H x=xh->H dx=xh->dx≠x->sp (.ref x::(vs++ay)) (upd (upd H dx (.own x)) x (.ins C dx [])) (λv H2=>v=.non/\Q (.ref x) H2) E):
  oB (model X.prog X.w) X.A (call (.ref C) us) (EP X pins σ Q) X.xe s:=by
 have hq:=h (s.heap.objs.size+1) s.heap.objs.size (I.hok.fresh (rE _)) (I.hok.fresh (nZ _)) (oR (si _));have I2:=Inv.made (C:=C) I;have r2:Vals (V.ref (s.heap.objs.size+1)::(vs++ay)) (pB (s.heap.objs.size+1)::(us++ds)):=.cons rfl (r.append hd);have hl:(pB (s.heap.objs.size+1)::us++ds).length=ps.length:=by
  have e:=r2.length;rw[F.len _ _ _ _ hq]at e;exact e.symm
 refine wpAny_call (zjR_ (f:=f) I.kIn M.makes M.init (beq_iff_eq.mp M.fn) (codeAny_mono (F.run _ X.stack _ _ ⟨pB (s.heap.objs.size+1)::us,[]⟩ (pB (s.heap.objs.size+1)::(us++ds)) _ _ E (hr.make C us [])
  (I2.env0.make C us []) (hb _ (pB (s.heap.objs.size+1)::us) I2.kIn hl) r2 hq) λr s' eZ=>?_))
 cases r with
 |error e=>exact hx pins σ _ _ e s' I2 eZ|ok fl=>
  cases fl with
  |ret u=>
   obtain⟨v,H',I3,rv,ev,q3⟩:=I2.after eZ;subst ev;exact⟨rv,⟨V.ref (s.heap.objs.size+1),H',I3,rfl,q3⟩⟩
  |next=>exact oS eZ|brk=>exact oS eZ|cont=>exact oS eZ
theorem zk9_ (M:Mk X.K C f)(F:FnOk X.prog X.w X.K X.mg X.base CX k f fd ps sp)(hr:Room (k+1) X.A)(hg:Gl X x)(hm:X.mg x=xg (.ref C))(hb:Binds X.K fd ps ds)(hd:Vals ay ds)(hx:Passes CX X E)
  (ha:PA X (e::es) t) (aC:(x==("__debug__":Str))=xk:=by decide) (he:oN (e::es) X.env=(xk,eval e X.env)::oN es X.env:=by rfl) (ax:(qJ pos (oN es X.env)).any (·.1)=xk:=by rfl):
  PE X (.Call (.Name x p) (e::es) [] pos) (tMake C sp ay E t):=by
 intro pins s σ H Q I h;refine qp (zbi_ I hg hm ?_ aC);refine vQ (h₀:=X.base) I.ok.mod.kin M.kp (thn (ha pos pins s σ H _ I h) λus s1 ⟨vs,H1,I1,r,q⟩=>⟨I1.kIn,?_⟩) he ax
 exact zeC_ M F hr hb hd hx I1 r q
theorem zjV_ (M:Mk X.K C f)(F:FnOk X.prog X.w X.K X.mg X.base CX k f fd ps sp)(hr:Room (k+1) X.A)(hg:Gl X x)(hm:X.mg x=xg (.ref C))(hb:Binds X.K fd ps ds)(hd:Vals ay ds)(hx:Passes CX X E)
  (aC:(x==("__debug__":Str))=xk:=by decide):PE X (.Call (.Name x p) [] [] pos) (tMake C sp ay E tNil):=by
 intro pins s σ H Q I h;refine qp (zbi_ I hg hm ?_ aC);exact vA I.kIn M.kp (zeC_ (us:=[]) M F hr hb hd hx I .nil h)
end
structure FnScope (N P:List Str)(sc:Scope):Prop where
 kind:sc.kind=.function
 co:sc.isCoroutine=xk
 gen:sc.isGenerator=xk
 nd:N.Nodup
 pre:N.take P.length=P
 par:∀x∈P,sc.names.lookup x=xg .local\/sc.names.lookup x=xg .cell
 nofree:∀y∈sc.names,y.2≠.free
theorem zdV_ {kindOf:Str->Option qG}{x:Str}:∀{binds:List (Str×nI)}{m:Str->Option nI},(∀v,(x,v)∉binds)->bindL kindOf binds m x=m x
 |[],_,_=>rfl|(n,v)::r,m,h=>by
  unfold bindL;rw[zdV_ λw hw=>h w (nY _ hw)]
  split
  ·have:x≠n:=by rintro rfl;exact h v nV
   simp[this]
  ·rfl
theorem zdS_ {kindOf:Str->Option qG}{x:Str}:∀{binds:List (Str×nI)}{m:Str->Option nI},(∀v,(x,v)∉binds)->bindC kindOf binds m x=m x
 |[],_,_=>rfl|(n,v)::r,m,h=>by
  unfold bindC;rw[zdS_ λw hw=>h w (nY _ hw)]
  split
  ·rfl
  ·have:x≠n:=by rintro rfl;exact h v nV
   simp[this]
theorem zea_ {kindOf:Str->Option qG}{x:Str}{v:nI}:∀{P:List Str}{vs:List nI}{i:Nat}{m:Str->Option nI},P.Nodup->P[i]?=xg x->vs[i]?=xg v->kindOf x=xg .local ->
  bindL kindOf (P.zip vs) m x=xg v
 |[],_,_,_,_,h,_,_=>by simp at h
 |_::_,[],_,_,_,_,h,_=>by simp at h
 |p::P,w::vs,0,m,nd,h1,h2,hk=>by
  simp at h1 h2;subst h1;subst h2;show bindL kindOf ((p,w)::P.zip vs) m p=_
  unfold bindL;rw[zdV_ λv hv=>(rS.mp nd).1 (qO hv).1,if_pos hk]
  simp
 |p::P,w::vs,i+1,m,nd,h1,h2,hk=>by
  show bindL kindOf ((p,w)::P.zip vs) m x=_
  unfold bindL;exact zea_ (i:=i) (rS.mp nd).2 (by simpa using h1) (by simpa using h2) hk
theorem zd3_ {kindOf:Str->Option qG}{x:Str}{v:nI}:∀{P:List Str}{vs:List nI}{i:Nat}{m:Str->Option nI},P.Nodup->P[i]?=xg x->vs[i]?=xg v->kindOf x≠xg .local ->
  bindC kindOf (P.zip vs) m x=xg v
 |[],_,_,_,_,h,_,_=>by simp at h
 |_::_,[],_,_,_,_,h,_=>by simp at h
 |p::P,w::vs,0,m,nd,h1,h2,hk=>by
  simp at h1 h2;subst h1;subst h2;show bindC kindOf ((p,w)::P.zip vs) m p=_
  unfold bindC;rw[zdS_ λv hv=>(rS.mp nd).1 (qO hv).1,if_neg hk]
  simp
 |p::P,w::vs,i+1,m,nd,h1,h2,hk=>by
  show bindC kindOf ((p,w)::P.zip vs) m x=_
  unfold bindC;exact zd3_ (i:=i) (rS.mp nd).2 (by simpa using h1) (by simpa using h2) hk
def start (N:List Str)(vs:List V):St:=vs.map xg++ou (N.length-vs.length) xh
def cxOf (CX:CXT)(P:oH)(w:oV)(K:Fgg)(mg:Str->Option nI)(base:Heap)(N:List Str)(qual:Str)(scope:Scope)(f:nR)(cd:nI)(A:ph)(outer:List Env)(s:nO)(H:Hp)(E:XK):Cx where
 prog:=P
 w:=w
 K:=K
 mg:=mg
 base:=base
 A:=A.deeper (envOfC qual scope s.heap.objs.size f cd)
 N:=N
 s₀:=s
 H₀:=H
 env:=envOfC qual scope s.heap.objs.size f cd
 outer:=outer
 stack:=envOfC qual scope s.heap.objs.size f cd::outer
 ex:=[]
 calm:=xj
 fn:=λ_=>xj
 pn:=[]
 xe:=λe s'=>oB (model P w) (A.deeper (envOfC qual scope s.heap.objs.size f cd)) (leaving (envOfC qual scope s.heap.objs.size f cd) e) (λ_ gF=>CX outer H s E e gF) (λe' gF=>CX outer H s E e' gF) s'
theorem zdL_ {sc:Scope}{n:Nat}{x:Str}(h:sc.names.lookup x=xg .cell):∃c,(cellsFrom n sc.names []).lookup x=xg c:=by
 have q:=uQ sc.names n [] (.inl h);exact qt.mp q
theorem zg5_ {CX:CXT}{P:oH}{w:oV}{K:Fgg}{mg:Str->Option nI}{base:Heap}{N ps:List Str}{qual:Str}{scope:Scope}{f:nR}{cd:nI}{A:ph}{outer:List Env}{s s1:nO}{H:Hp}{E:XK}{us:List nI}{vs:List V}
  (S:FnScope N ps scope) (hd:A.handled=xh) (e0:Env0 P w K mg base A outer s H) (hl:vs.length=ps.length) (r:Vals vs us)
  (x:InCallC s s.heap.objs.size (bindL (envOfC qual scope s.heap.objs.size f cd).kindOf (ps.zip us) λ_=>xh) (cellsFrom (s.heap.objs.size+1) scope.names []) (bindC (envOfC qual scope s.heap.objs.size f cd).kindOf (ps.zip us) λ_=>xh) s1):
  Inv (cxOf CX P w K mg base N qual scope f cd A outer s H E) [] (start N vs) H s1:=by
 have ax:ps.length<=N.length:=by have:=congrArg pS S.pre;rw[oJ]at this;lia
 obtain⟨h1,tk,rfl,hk⟩:=x.done;have eN:∀b:nR,b∉(cxOf CX P w K mg base N qual scope f cd A outer s H E).ex:=λb z=>absurd (show b∈([]:List nR)from z) (by simp)
 refine⟨⟨e0.mod,S.kind,rfl,rfl,nZ _,λy z c h1 h2=>?_,λy hy=>?_,λy c _ h=>?_,λ_=>hd,Around.frames_deeper e0.frames,.inr ⟨rfl,rfl⟩,λb z=>absurd z (eN b),e0.bs,e0.bsz,λb _ _=>eN b,λb z=>absurd z (eN b),e0.funs,e0.frf,e0.tb⟩,
  rfl,e0.bare,Un.kept hk,⟨_,x.toInCall.ns,λi y v h1 h2 h3=>?_⟩,λy c h=>⟨_,x.cell y c h⟩,e0.hok.fresh (nZ _),λy c h=>?_,λp hp=>absurd (show p∈([]:Pnn)from hp) (by simp),e0.hok.kept hk,?_⟩
 ·exact name_of_addr x.apart (qj h1) (qj h2)
 ·have hy:scope.names.lookup y=xg .cell\/scope.names.lookup y=xg .free:=hy
  rcases hy with hy |hy
  ·exact zdL_ hy
  ·exact absurd rfl (S.nofree _ (qj hy))
 ·exact sQ (x.above y c (qj h))
 ·have hi:i<vs.length:=by
   unfold start at h2;by_cases hi:i<vs.length
   ·exact hi
   ·rw[oX (by simpa using hi)]at h2
    rw[List.getElem?_replicate]at h2;split at h2<;>cases h2
  have ha:vs[i]?=xg v:=by
   unfold start at h2;rw[pG (by simpa using hi),om]at h2
   cases e:vs[i]? with
   |none=>rw[e]at h2;cases h2|some a=>rw[e]at h2;cases h2;rfl
  obtain⟨u,hu,rv⟩:=r.get ha;have hp:ps[i]?=xg y:=by
   rw[<- S.pre,List.getElem?_take_of_lt (by lia)];exact h1
  have i7:ps.Nodup:=by rw[<- S.pre];exact S.nd.sublist (List.take_sublist _ _)
  refine⟨u,rv,?_⟩;rcases S.par y (p8 hp)with k |k
  ·exact .inl ⟨k,zea_ i7 hp hu k⟩
  ·obtain⟨c,e⟩:=zdL_ (n:=s.heap.objs.size+1) k
   refine .inr ⟨.inl k,c,e,?_⟩;have q:=x.cell y c e;rw[zd3_ i7 hp hu (by show scope.names.lookup y≠_;rw[k];decide)]at q
   exact q
 ·exact e0.hok.fresh (sQ (x.above y c (qj h)))
 ·unfold start
  show _=N.length
  rw[nK,nN,List.length_replicate];lia
theorem fn_of {CX:CXT}{P:oH}{w:oV}{K:Fgg}{mg:Str->Option nI}{base:Heap}{k:Nat}{f:nR}{name qual:Str}{params:Arguments}{body:List pM}{scope:Scope}{dV kV doc pm ai ct oc:nI}{an od:Option nR}
  {ao:Array (Option nI)}{N ps:List Str}{sp:Sp}(lk:K.lookup f=xg ⟨oc,od,.func (W.fnOf name qual params body scope dV kV doc pm an ai ct),ao⟩) (bw:sv K ai qual=xj) (S:FnScope N ps scope)
  (len:∀vs H Q E,sp vs H Q E->vs.length=ps.length)
  (aU:∀(A:ph) (outer:List Env) (s:nO) (H:Hp) (vs:List V) (Q:VK) (E:XK),Room k (A.deeper (envOfC qual scope s.heap.objs.size f ai))->sp vs H Q E ->
   ∃t,PSs (cxOf CX P w K mg base N qual scope f ai A outer s H E) body t/\t {nx:=λ_ H'=>Q .non H',rt:=Q} (start N vs) H):
  FnOk P w K mg base CX (k+1) f (W.fnOf name qual params body scope dV kV doc pm an ai ct) ps sp:=by
 refine⟨len,λA outer s H args us vs Q E hr e0 hb r cf=>?_⟩
 have hl:=len _ _ _ _ cf;have KX:K.In s.heap:=e0.mod.kin.keeps λb o e=>(e0.bs b o e).1
 have lim:s.heap.NoLimit:=e0.mod.nolimit.keeps λb o e=>(e0.bs b o e).1
 have fq:∀y∈ps.zip us,scope.names.lookup y.1=xg .local\/(scope.names.lookup y.1=xg .cell/\((cellsFrom (s.heap.objs.size+1) scope.names []).lookup y.1).isSome=xj):=λ⟨n,v⟩ hy=>by
  rcases S.par n (qO hy).1 with q |q
  ·exact .inl q
  ·exact .inr ⟨q,uQ _ _ _ (.inl q)⟩
 refine codeAny_call_function hr.depth (KX _ _ lk) rfl S.co S.gen rfl (W.codeRec_of KX bw) (hb _ _ _ _ ?_);refine wpAny_newFunctionEnv_cells S.kind fq λenv he s1 x=>?_
 subst he;refine⟨lim.keeps x.toInCall.keep,codeAny_func ?_⟩;obtain⟨t,ht,hq⟩:=aU A outer s H vs Q E (hr.deeper _) cf;have I:Inv (cxOf CX P w K mg base N qual scope f ai A outer s H E) [] (start N vs) H s1:=zg5_ S hr.hd e0 hl r x;refine pN (ht [] s1 (start N vs) H _ I hq) (λfl s' hs=>?_) λe s' hs=>hs
 have fin:∀{ah:St}{H':Hp}{v:V}{u:nI},Inv (cxOf CX P w K mg base N qual scope f ai A outer s H E) [] ah H' s'->RelV v u->Q v H'->CE outer P w H s Q u s':=
  λ{ah H' v u} J rv q=>⟨v,H',J.os,J.bare,J.base,J.hok,rv,q⟩
 cases fl with
 |ret u=>
  obtain⟨v,ah,H',J,rv,q⟩:=hs;exact fin J rv q
 |next=>
  obtain⟨ah,H',J,q⟩:=hs;exact fin (v:=V.non) (u:=qE) J rfl q
 |brk=>
  obtain⟨_,_,_,q⟩:=hs;exact oS q
 |cont=>
  obtain⟨_,_,_,q⟩:=hs;exact oS q
section
variable {X:Cx}{x:Str}{p pos:Pos}{e:oq}{es:List oq}{t:TA}{id T:String}{r:List V->Hp->VK->Prop}
def tCB (r:List V->Hp->VK->Prop)(t:TA):TE:=λσ H Q=>t σ H λvs H1=>r vs H1 Q
theorem ziw_ (hc:CallR X (.builtin id) r)(hg:Gl X x)(hm:X.mg x=xh)(hv:qA x=xg (.builtin id))(ha:PA X (e::es) t)(hn:x ≠ "__name__":=by decide)(aC:(x==("__debug__":Str))=xk:=by decide)
  (he:oN (e::es) X.env=(xk,eval e X.env)::oN es X.env:=by rfl) (ax:(qJ pos (oN es X.env)).any (·.1)=xk:=by rfl):PE X (.Call (.Name x p) (e::es) [] pos) (tCB r t):=by
 intro pins s σ H Q I h;refine qp (zes_ I hg hm hv ?_ hn aC);exact uR (thn (ha pos pins s σ H _ I h) λus s1 ⟨vs,H1,I1,r1,q1⟩=>hc pins s1 σ H1 vs us Q I1 r1 q1) he ax
theorem zgw_ (hc:CallR X (.type T) r)(hg:Gl X x)(hm:X.mg x=xh)(hv:qA x=xg (.type T))(ha:PA X (e::es) t)(hn:x ≠ "__name__":=by decide)(aC:(x==("__debug__":Str))=xk:=by decide)
  (he:oN (e::es) X.env=(xk,eval e X.env)::oN es X.env:=by rfl) (ax:(qJ pos (oN es X.env)).any (·.1)=xk:=by rfl):PE X (.Call (.Name x p) (e::es) [] pos) (tCB r t):=by
 intro pins s σ H Q I h;refine qp (zes_ I hg hm hv ?_ hn aC);exact qB (thn (ha pos pins s σ H _ I h) λus s1 ⟨vs,H1,I1,r1,q1⟩=>hc pins s1 σ H1 vs us Q I1 r1 q1) he ax
end
end L2
namespace HT
open PySem PyProof.Rows
section
open PySem.SeqAt
open PySem.AutoSeq1 (wpAny_loadPart')
open PySem.MeetsSeq PySem.MeetsSeq2 PySem.MeetsSeq3
end
section
variable {prog:oH}{w:oV}{A:ph}{E:nI->nO->Prop}{s:nO}
theorem cat_tup {t b:nR}{vs ws:List nI}{Q:nI->nO->Prop}(ht:IsTup s.heap t vs.toArray)(hb:IsTup s.heap b ws.toArray)(hv:vs≠[])
  (h1:ws=[]->Q (.ref t) s) (h2:ws≠[]->Q (.ref s.heap.objs.size) {s with heap:=s.heap.push {cls:=.type "tuple",data:=.seq (vs++ws).toArray}})
  (hsz:vs.length+ws.length<=oh):oB (model prog w) A (qy .Add (.ref t) (.ref b)) Q E s:=by
 obtain⟨⟨cls,dd,data,sl⟩,ho,hc,n,hd⟩:=id ht;obtain⟨⟨m6,dd2,data2,sl2⟩,ho2,fG,n2,hd2⟩:=id hb;simp only at hc hd fG hd2;subst hc hd fG hd2;have e:vs.toArray++ws.toArray=(vs++ws).toArray:=by simp
 by_cases hw:ws=[]
 ·exact concat_meets ⟨_,ho,rfl⟩ ⟨_,ho2,rfl⟩ noFill_tuple_add seq_tuple_add tX tN (tG _ _)
   (tuple_addW1 t b vs.toArray ws.toArray n n2 dd dd2 sl sl2 (by simpa using hv) (by simp[hw])) ⟨ho,ho2,h1 hw⟩
 ·refine concat_meets ⟨_,ho,rfl⟩ ⟨_,ho2,rfl⟩ noFill_tuple_add seq_tuple_add tX tN (tG _ _)
   (tuple_addW2 t b vs.toArray ws.toArray n n2 dd dd2 sl sl2 (by simpa using hv) (by simpa using hw) (by rw[nW,nW];exact hsz)) ⟨ho,ho2,?_⟩
  rw[e];exact h2 hw
noncomputable def sIx (n d:Nat):Option Int->Nat
 |none=>d|some v=>if v<0 then(v+(n:Int)).toNat else min v.toNat n
theorem sIx_le (n d:Nat)(hd:d<=n)(o:Option Int):sIx n d o<=n:=by
 cases o with
 |none=>exact hd|some v=>
  show(if v<0 then(v+(n:Int)).toNat else min v.toNat n)<=n
  by_cases hv:v<0
  ·rw[if_pos hv];lia
  ·rw[if_neg hv];exact Nat.min_le_right _ _
theorem zhL_ (v:Int)(n d:Nat):(if v<0 then max (v+(n:Int)) 0 else min v (n:Int))=((sIx n d (xg v):Nat):Int):=by
 show(if v<0 then max (v+(n:Int)) 0 else min v (n:Int))=(((if v<0 then(v+(n:Int)).toNat else min v.toNat n):Nat):Int)
 by_cases hv:v<0
 ·simp only[if_pos hv];lia
 ·simp only[if_neg hv];lia
theorem zfC_ (lo hi:Option Int)(n:Nat):rK lo hi 1 (n:Int)=(((sIx n 0 lo:Nat):Int),((sIx n n hi:Nat):Int)):=by
 have h1:¬((1:Int)<0):=by lia
 unfold rK;simp only[h1,if_false];refine Prod.ext ?_ ?_
 ·cases lo with
  |none=>rfl|some v=>exact zhL_ v n 0
 ·cases hi with
  |none=>rfl|some v=>exact zhL_ v n n
theorem ze6_ (i j:Nat):qK (i:Int) (j:Int) 1=j-i:=by
 unfold qK;have h1:(1:Int) > 0:=by lia
 simp only[h1,if_true,Int.ediv_one];split<;>lia
theorem zc1_ {v:nI}{o:Option Int}{Q:Option Int->nO->Prop}(p:IsPart v o)(h:Q o s):oB (model prog w) A (vc v) Q E s:=by
 cases p with
 |none=>exact slicePart_none h|int i t=>exact slicePart_int h
theorem zbW_ {sl:nR}{vl vu:nI}{lo hi:Option Int}{n:Nat}{Q:Int×Int×Nat->nO->Prop}(hs:s.heap.IsSliceOf sl vl vu .none)(pl:IsPart vl lo)(pu:IsPart vu hi)
  (h:Q (((sIx n 0 lo:Nat):Int),1,sIx n n hi-sIx n 0 lo) s):oB (model prog w) A (sW (.ref sl) (pure (n:Int))) Q E s:=by
 obtain⟨os,hos,gr,hds⟩:=id hs;unfold sW vx;refine nJ (nJ (p5 hos hds (x:=vl) rfl (nJ (p5 hos hds (x:=vu) rfl (nJ (p5 hos hds (x:=.none) rfl (nX ?_)))))));refine nJ (slicePart_none ?_);show oB _ _ (if((1:Int) == 0)=xj then _ else _) _ _ s
 rw[if_neg (by decide)]
 refine nJ (zc1_ pl (nJ (zc1_ pu (nJ (nX ?_)))));show oB _ _ (match rK lo hi 1 (n:Int)with |(lo,hi)=>pure (lo,(1:Int),qK lo hi 1)) _ _ s
 rw[zfC_ lo hi n];show oB _ _ (pure (((sIx n 0 lo:Nat):Int),(1:Int),qK ((sIx n 0 lo:Nat):Int) ((sIx n n hi:Nat):Int) 1)) _ _ s
 rw[ze6_];exact nX h
theorem ziI_ (xs:Array nI)(i k:Nat):((oU k).filterMap λ(m:Nat)=>xs[((i:Int)+(m:Int)*1).toNat]?).toArray=((xs.toList.drop i).take k).toArray:=by
 have e:(λ(m:Nat)=>xs[((i:Int)+(m:Int)*1).toNat]?)=λm=>xs[i+m]?:=by
  funext m;have:((i:Int)+(m:Int)*1).toNat=i+m:=by lia
  rw[this]
 rw[e];have:=pick_run xs i k;rw[List.filterMap_map]at this;have e2:((λx=>xs[x]?)∘λx=>i+x)=λm=>xs[i+m]?:=rfl
 rw[e2]at this;rw[this]
theorem getItem_tuple_cut {t sl:nR}{items:Array nI}{vl vu:nI}{lo hi:Option Int}{Q:nI->nO->Prop}(ht:IsTup s.heap t items)(hs:s.heap.IsSliceOf sl vl vu .none)(pl:IsPart vl lo)(pu:IsPart vu hi)
  (hw:¬(sIx items.size 0 lo=0/\sIx items.size items.size hi=items.size))
  (h:Q (.ref s.heap.objs.size) {s with heap:=s.heap.push {cls:=.type "tuple",data:=.seq ((items.toList.drop (sIx items.size 0 lo)).take (sIx items.size items.size hi-sIx items.size 0 lo)).toArray}})
  (hsz:items.size<=oh):oB (model prog w) A (getItem (.ref t) (.ref sl)) Q E s:=by
 have bq:sizeOk (.seq ((items.toList.drop (sIx items.size 0 lo)).take (sIx items.size items.size hi-sIx items.size 0 lo)).toArray):=by
  show((items.toList.drop (sIx items.size 0 lo)).take (sIx items.size items.size hi-sIx items.size 0 lo)).toArray.size<=oh
  rw[nW,oJ,pz,qi];lia
 have hj:sIx items.size items.size hi<=items.size:=sIx_le _ _ (nZ _) hi;obtain⟨os,hos,gr,hds⟩:=id hs;have lI:s.TypeIs (.ref sl) "slice":=⟨os,hos,gr⟩;unfold getItem
 try with_reducible refine wpAny_holding ?_
 first |refine nJ (nX ?_)|skip
 refine nJ (wpAny_sequenceKey ht.typeIs (by decide) ?_)
 refine nJ (wpAny_callSpecial?_slot (name:=tY "__getitem__") ht.typeIs qY
  (wpAny_call_entry qY ht.typeIs entry_tuple_getitem ?_ (args_tuple_getitem _ _)))
 show oB _ _ (vm (.ref t)>>=_) _ _ s
 refine nJ (tupleItemsOf_ ht ?_);refine nJ (wpAny_typeOf lI ?_);rw[if_pos (by decide)]
 refine nJ (zbW_ hs pl pu ?_);have k9:¬((((sIx items.size 0 lo:Nat):Int) == 0 && (1:Int) == 1 && (sIx items.size items.size hi-sIx items.size 0 lo) == items.size)=xj):=by
  intro q;rw[aW,aW]at q;have q1:((sIx items.size 0 lo:Nat):Int)=0:=eq_of_beq q.1.1;have q2:sIx items.size items.size hi-sIx items.size 0 lo=items.size:=eq_of_beq q.2;exact hw ⟨by lia,by lia⟩
 show oB _ _ (if(((sIx items.size 0 lo:Nat):Int) == 0 && (1:Int) == 1 && (sIx items.size items.size hi-sIx items.size 0 lo) == items.size)=xj then _ else _) _ _ s
 rw[if_neg k9,ziI_]
 first
  |exact nJ (m:=qW _) (wpAny_newObj_type (nX ⟨_,rfl,nX h⟩) bq)
  |exact nJ (m:=qW _) (wpAny_newObj_type (nJ (nX (nX ⟨_,rfl,nX h⟩))) bq)
  |exact nJ (nJ (m:=qW _) (wpAny_newObj_type (nX (nX ⟨_,rfl,nX h⟩)) bq))
  |exact nJ (nJ (m:=qW _) (wpAny_newObj_type (nX ⟨_,rfl,nX h⟩) bq))
end
end HT
namespace L2
open PySem PySem.Spec PyProof.Rows
abbrev TO:=St->Hp->(Option Int->Hp->Prop)->Prop
def PO (X:Cx)(e:Option oq)(t:TO):Prop:=
 ∀(pins:Pnn) (s:nO) (σ:St) (H:Hp) (Q:Option Int->Hp->Prop),Inv X pins σ H s->t σ H Q ->
  oB (model X.prog X.w) X.A (evalPart e X.env) (λu s'=>∃o H',Inv X pins σ H' s'/\IsPart u o/\Q o H') X.xe s
def tNoPart:TO:=λ_ H Q=>Q xh H
section
variable {X:Cx}{e:oq}{te:TE}{lo hi:Option oq}{tl th:TO}{pos p2:Pos}
theorem zkz_:PO X xh tNoPart:=by
 intro pins s σ H Q I h;rw[evalPart_none];exact nX ⟨xh,H,I,.none,h⟩
def SlR (X:Cx)(r:V->Option Int->Option Int->Hp->VK->Prop):Prop:=
 ∀(pins:Pnn) (s:nO) (σ:St) (H:Hp) (x:V) (v vl vu:nI) (lo hi:Option Int) (sl:nR) (Q:VK),Inv X pins σ H s->RelV x v->s.heap.IsSliceOf sl vl vu .none->IsPart vl lo->IsPart vu hi->r x lo hi H Q ->
  ∃T id,typeLookup (.type T) "__getitem__"=pure (xg (.builtin id))/\s.TypeIs v T/\oB (model X.prog X.w) X.A (getItem v (.ref sl)) (EP X pins σ Q) X.xe s
theorem SlR.or {r r':V->Option Int->Option Int->Hp->VK->Prop}(h:SlR X r)(h':SlR X r'):SlR X (λx lo hi H Q=>r x lo hi H Q\/r' x lo hi H Q):=by
 intro pins s σ H x v vl vu lo hi sl Q I rx hs pl pu q;rcases q with q |q
 ·exact h pins s σ H x v vl vu lo hi sl Q I rx hs pl pu q
 ·exact h' pins s σ H x v vl vu lo hi sl Q I rx hs pl pu q
def tSl (r:V->Option Int->Option Int->Hp->VK->Prop)(te:TE)(tl th:TO):TE:=λσ H Q=>te σ H λx H1=>tl σ H1 λl H2=>th σ H2 λu H3=>r x l u H3 Q
theorem zid_ {r:V->Option Int->Option Int->Hp->VK->Prop}(hr:SlR X r)(he:PE X e te)(hl:PO X lo tl)(hu:PO X hi th):PE X (.Subscript e (.Slice lo hi xh p2) pos) (tSl r te tl th):=by
 intro pins s σ H Q I h;refine Subscript_ (thn (he pins s σ H _ I h) λv s1 af=>?_)
 obtain⟨x,H1,I1,r1,q1⟩:=af;refine wpAny_Slice (thn (hl pins s1 σ H1 _ I1 q1) λvl s2 ⟨l,H2,I2,pl,q2⟩=>thn (hu pins s2 σ H2 _ I2 q2) λvu s3 af=>?_)
 obtain⟨u,H3,I3,pu,q3⟩:=af;rw[evalPart_none];refine nX ?_;have I4:Inv X pins σ H3 {s3 with heap:=s3.heap.push {cls:=.type "slice",data:=.fields #[vl,vu,.none]}}:=I3.kept (t':=s3.toks) λb ob q=>nQ _ q
 obtain⟨T,id,hT,ht,hg⟩:=hr pins {s3 with heap:=s3.heap.push {cls:=.type "slice",data:=.fields #[vl,vu,.none]}} σ H3 x v vl vu l u s3.heap.objs.size Q I4 r1 (wY ..) pl pu q3;show oB (model X.prog X.w) X.A (subscriptTail e (.Slice lo hi xh p2) v (.ref s3.heap.objs.size)) (EP X pins σ Q) X.xe {s3 with heap:=s3.heap.push {cls:=.type "slice",data:=.fields #[vl,vu,.none]}}
 exact tail_any (ops:=[.ref s3.heap.objs.size,v]) ht hT hg (by with_unfolding_all rfl)
def cutV (xs:List V)(lo hi:Option Int):List V:=(xs.drop (HT.sIx xs.length 0 lo)).take (HT.sIx xs.length xs.length hi-HT.sIx xs.length 0 lo)
theorem zcj_ (xs:List V)(lo hi:Option Int):(cutV xs lo hi).length<=xs.length:=by
 unfold cutV;rw[oJ,pz];lia
def rSlT (K:Fgg):V->Option Int->Option Int->Hp->VK->Prop:=λx lo hi H Q=>∃a xs,x=.ref a/\SqT K H a xs /\
 ¬(HT.sIx xs.length 0 lo=0/\HT.sIx xs.length xs.length hi=xs.length)/\∀p,H p=xh->Q (.ref p) (upd H p (.tup (cutV xs lo hi)))
theorem zn4_:SlR X (rSlT X.K):=by
 intro pins s σ H x v vl vu lo hi sl Q I rx hs pl pu h;obtain⟨a,xs,rfl,hx,hw,q⟩:=h;cases rx;obtain⟨aa,r,ht,hz⟩:=I.tuple hx;have hlen:aa.toArray.size=xs.length:=by rw[nW];exact r.length.symm
 refine⟨"tuple",_,qY.lookup,ht.typeIs,?_⟩;refine HT.getItem_tuple_cut ht hs pl pu (by rw[hlen];exact hw) ?_ (by rw[hlen];exact hz)
 rw[hlen];refine⟨.ref s.heap.objs.size,_,I.laid (t':=s.toks) (o:=.tup (cutV xs lo hi)) (λb ob q=>nQ _ q) (nZ _) ?_,rfl,q _ (I.hok.fresh (nZ _))⟩
 exact⟨pX (zcj_ xs lo hi) hz,_,(r.drop (HT.sIx xs.length 0 lo)).take (HT.sIx xs.length xs.length hi-HT.sIx xs.length 0 lo),IsTup.new _ _⟩
def rCatT (K:Fgg):R2:=λx y H Q=>∃a b xs ys,x=.ref a/\y=.ref b/\SqT K H a xs/\SqT K H b ys/\xs≠[]/\xs.length+ys.length<=oh /\
 (ys=[]->Q (.ref a) H)/\(ys≠[]->∀p,H p=xh->Q (.ref p) (upd H p (.tup (xs++ys))))
theorem Vals.nil_iff {xs:List V}{us:List nI}(r:Vals xs us):us=[]↔xs=[]:=by
 cases r with
 |nil=>simp|cons _ _=>simp
theorem zl2_:OpR X (qy .Add) (rCatT X.K):=by
 intro pins s σ H x y v u Q I rx ry h;obtain⟨a,b,xs,ys,rfl,rfl,ha,hb,hx,hz,q1,q2⟩:=h;cases rx;cases ry;obtain⟨aa,r1,p1,_⟩:=I.tuple ha;obtain⟨ak,r2,p2,_⟩:=I.tuple hb;refine HT.cat_tup p1 p2 (λz=>hx (r1.nil_iff.mp z)) (λz=>⟨.ref a,H,I,rfl,q1 (r2.nil_iff.mp z)⟩) (λz=>?_) (by rw[<- r1.length,<- r2.length];exact hz)
 refine⟨.ref s.heap.objs.size,_,I.laid (t':=s.toks) (o:=.tup (xs++ys)) (λb ob q=>nQ _ q) (nZ _) ?_,rfl,q2 (λw=>z (r2.nil_iff.mpr w)) _ (I.hok.fresh (nZ _))⟩
 exact⟨by rw[nK];exact hz,_,r1.append r2,IsTup.new _ _⟩
end
noncomputable def ixN (n:Nat)(i:Int):Option Nat:=if 0<=i then(if i<n then xg i.toNat else xh)else if -(n:Int)<=i then xg (i+n).toNat else xh
def atI {α:Type}(xs:List α)(i:Int):Option α:=(ixN xs.length i).bind λj=>xs[j]?
theorem ze3_ {n:Nat}{i:Int}{j:Nat}(h:ixN n i=xg j):seqIndex? i n=xg j/\j<n /\ -(n:Int)<=i/\i<n:=by
 unfold ixN at h;by_cases h0:0<=i
 ·rw[if_pos h0]at h
  by_cases h1:i<n
  ·rw[if_pos h1]at h
   have e:i.toNat=j:=pC h;exact⟨by rw[seqIndex_of h0 h1,e],by lia,by lia,h1⟩
  ·rw[if_neg h1]at h;cases h
 ·rw[if_neg h0]at h
  by_cases h1 : -(n:Int)<=i
  ·rw[if_pos h1]at h
   have e:(i+n).toNat=j:=pC h;exact⟨by rw[seqIndex_neg (by lia) h1,e],by lia,h1,by lia⟩
  ·rw[if_neg h1]at h;cases h
theorem zfN_ {α:Type}{xs:List α}{i:Int}{v:α}(h:atI xs i=xg v):∃j,seqIndex? i xs.length=xg j/\xs[j]?=xg v/\j<xs.length /\ -(xs.length:Int)<=i/\i<xs.length:=by
 unfold atI at h;cases e:ixN xs.length i with
 |none=>rw[e]at h;cases h|some j=>
  rw[e]at h;obtain⟨h1,h2,h3,h4⟩:=ze3_ e;exact⟨j,h1,h,h2,h3,h4⟩
def PlainIx (b:oq):Prop:=∀o i,subscripted b xk o i=operate [o,i] (getItem o i)
def IxR (X:Cx)(r:R2):Prop:=
 ∀(value slice:oq) (pins:Pnn) (s:nO) (σ:St) (H:Hp) (x y:V) (v u:nI) (Q:VK),Inv X pins σ H s->RelV x v->RelV y u->r x y H Q ->
  subscripted slice xk v u=operate [v,u] (getItem v u)->oB (model X.prog X.w) X.A (subscriptTail value slice v u) (EP X pins σ Q) X.xe s
def MtR (X:Cx)(id:String)(r:V->List V->Hp->VK->Prop):Prop:=
 ∀(pins:Pnn) (s:nO) (σ:St) (H:Hp) (x:V) (xs:List V) (v:nI) (us:List nI) (Q:VK),Inv X pins σ H s->RelV x v->Vals xs us->r x xs H Q ->
  oB (model X.prog X.w) X.A (call (.builtin id) (v::us)) (EP X pins σ Q) X.xe s
section
variable {X:Cx}{a b:oq}{ta tb:TE}{pos:Pos}
theorem pe_ix {r:R2}(hr:IxR X r)(ha:PE X a ta)(hb:PE X b tb)(hs:PlainIx b):PE X (.Subscript a b pos) (tOp r ta tb):=by
 intro pins s σ H Q I h;exact Subscript_ (binT ha hb I h λv u s2 x y H2 I2 rx ry q=>hr a b pins s2 σ H2 x y v u Q I2 rx ry q (hs _ _))
def rIxL (K:Fgg):R2:=λx y H Q=>∃p xs i v,x=.ref p/\y=.int i/\SqL K H p xs/\atI xs i=xg v/\Q v H
def rIxT (K:Fgg):R2:=λx y H Q=>∃p xs i v,x=.ref p/\y=.int i/\SqT K H p xs/\atI xs i=xg v/\Q v H
def rIxS:R2:=λx y H Q=>∃z i c,x=.str z/\y=.int i/\z.length<=oh/\atI z.cps.toList i=xg c/\Q (.str ⟨#[c]⟩) H
theorem zj4_:IxR X (rIxL X.K):=by
 intro value slice pins s σ H x y v u Q I rx ry h hs;obtain⟨p,xs,i,z,rfl,rfl,hq,he,q⟩:=h;cases rx;obtain⟨t,rfl⟩:=ry;obtain⟨aa,r,pl,hz⟩:=I.list hq;obtain⟨j,h1,h2,h3,h4,h5⟩:=zfN_ he;obtain⟨w,ew,bN⟩:=r.get h2;have hl:=r.length;have hn:=line63;have fin:EP X pins σ Q w s:=⟨z,H,I,bN,q⟩;by_cases h0:0<=i
 ·have hj:i.toNat=j:=by
   rw[seqIndex_of h0 h5]at h1;exact pC h1
  exact item_listR pl.isList h0 (by lia) (by rw[hj];simpa using ew) fin hs
 ·have hj:(i+(aa.toArray.size:Int)).toNat=j:=by
   rw[seqIndex_neg (by lia) h4]at h1
   rw[nW,<- hl];exact pC h1
  exact subscriptTail_builtinR (x:=w) pl.isList.typeIs slot_list_getitem.lookup
   (wpAny_getItem_list_neg (Q:=λr s'=>r=w/\EP X pins σ Q r s') pl.isList (by lia) (by rw[nW]<;>lia) (by lia) (by rw[hj];simpa using ew) ⟨rfl,fin⟩) hs
theorem znS_:IxR X (rIxT X.K):=by
 intro value slice pins s σ H x y v u Q I rx ry h hs;obtain⟨p,xs,i,z,rfl,rfl,hq,he,q⟩:=h;cases rx;obtain⟨t,rfl⟩:=ry;obtain⟨aa,r,pl,hz⟩:=I.tuple hq;obtain⟨j,h1,h2,h3,h4,h5⟩:=zfN_ he;obtain⟨w,ew,bN⟩:=r.get h2;have hl:=r.length;have hn:=line63;have fin:EP X pins σ Q w s:=⟨z,H,I,bN,q⟩
 exact subscriptTail_builtinR (x:=w) pl.typeIs slot_tuple_getitem.lookup
  (getItem_tuple (j:=j) (Q:=λr s'=>r=w/\EP X pins σ Q r s') pl (by lia) (by lia) (by rw[nW,<- hl];exact h1) (by simpa using ew) ⟨rfl,fin⟩) hs
theorem zny_:IxR X rIxS:=by
 intro value slice pins s σ H x y v u Q I rx ry h hs;obtain⟨z,i,c,rfl,rfl,hz,he,q⟩:=h;obtain⟨t,rfl⟩:=rx;obtain⟨t',rfl⟩:=ry;obtain⟨j,h1,h2,h3,h4,h5⟩:=zfN_ he;have hl:z.cps.toList.length=z.length:=by simp[qw]
 rw[hl]at h1 h4 h5;have hn:=line63;exact tail_any (typeIs_str s z t) slot_str_getitem.lookup (getItem_str (c:=c) (by
  have e1:decide (i < -(2 ^ 63:Int))=xk:=decide_eq_false (by lia)
  have e2:decide (i ≥ 2 ^ 63)=xk:=decide_eq_false (by lia)
  rw[e1,e2,Bool.or_false]) (by rw[h1];simpa using h2) ⟨.str ⟨#[c]⟩,H,I.tok _,⟨_,rfl⟩,q⟩) hs
theorem zfe_ (aa:List nI)(n j:Nat)(u:nI):tZ (·.setIfInBounds j u) {cls:=.type "list",data:=.seq aa.toArray n}={cls:=.type "list",data:=.seq (aa.set j u).toArray n}:=by
 simp[tZ]
theorem Inv.lst {pins:Pnn}{σ:St}{H:Hp}{s:nO}{p:nR}{xs:List V}(I:Inv X pins σ H s)(h:H p=xg (.lst xs)):
  ∃(aa:List nI) (n:Nat),Vals xs aa/\s.heap.get? p=xg {cls:=.type "list",data:=.seq aa.toArray n}/\xs.length<=oh:=by
 obtain⟨z,aa,n,r,e⟩:=I.hok p _ h;exact⟨aa,n,r,e,z⟩
theorem Inv.lstUpd {pins:Pnn}{σ:St}{H:Hp}{s:nO}{p:nR}{xs ys:List V}{aa its':List nI}{n n':Nat}{f:vi->vi}(I:Inv X pins σ H s)(h:H p=xg (.lst xs))
  (ho:s.heap.get? p=xg {cls:=.type "list",data:=.seq aa.toArray n}) (hf:f {cls:=.type "list",data:=.seq aa.toArray n}={cls:=.type "list",data:=.seq its'.toArray n'}) (r:Vals ys its') (hz:ys.length<=oh) (t:Nat):
  Inv X pins σ (upd H p (.lst ys)) {s with heap:=s.heap.update p f,toks:=t}:=by
 have e:(s.heap.update p f).get? p=xg {cls:=.type "list",data:=.seq its'.toArray n'}:=by
  rw[rY f ho (by rw[hf]<;>rfl),hf]
 refine I.write (x:=p) (e:=p) (by rw[h];trivial) (.inl rfl) (λb u hb q=>(qf _ _ (rA hb)).trans q) ⟨_,e⟩ ?_
 exact⟨hz,its',n',r,e⟩
def rSetL:V->V->V->Hp->(Hp->Prop)->Prop:=λo i v H Q=>∃p xs k j,o=.ref p/\i=.int k/\H p=xg (.lst xs)/\ixN xs.length k=xg j/\Q (upd H p (.lst (xs.set j v)))
theorem zi2_:PSet X rSetL:=by
 intro pins s σ H o i v ov iv u Q I ro ri rv h;obtain⟨p,xs,k,j,rfl,rfl,hp,hj,q⟩:=h;cases ro;obtain⟨t,rfl⟩:=ri;obtain⟨aa,n,r,ho,hz⟩:=I.lst hp;obtain⟨h1,h2,h3,h4⟩:=ze3_ hj;have hl:=r.length;have hn:=line63;have I':Inv X pins σ (upd H p (.lst (xs.set j v))) {s with heap:=s.heap.update p (tZ (·.setIfInBounds j u))}:=
  I.lstUpd hp ho (zfe_ aa n j u) (r.set rv j) (by rw[pH];exact hz) s.toks
 by_cases h0:0<=k
 ·have hk:k.toNat=j:=by
   rw[seqIndex_of h0 h4]at h1;exact pC h1
  exact W.ki_setAt ho h0 (by lia) (by rw[nW,<- hl];exact h4) (by rw[hk];exact⟨_,I',q⟩)
 ·have hk:(k+(aa.toArray.size:Int)).toNat=j:=by
   rw[seqIndex_neg (by lia) h3]at h1
   rw[nW,<- hl];exact pC h1
  exact W.ki_setBack ho (by lia) (by rw[nW,<- hl];exact h3) (by lia) (by rw[hk];exact⟨_,I',q⟩)
theorem zdo_ (lo hi:Option Int)(n:Nat):(sliceBounds lo hi xh n).1=((HT.sIx n 0 lo:Nat):Int)/\(sliceBounds lo hi xh n).2.1=((HT.sIx n n hi:Nat):Int)/\(sliceBounds lo hi xh n).2.2=1:=by
 refine⟨?_,?_,rfl⟩
 ·cases lo with
  |none=>simp[sliceBounds,HT.sIx]|some i=>
   simp only[sliceBounds,HT.sIx,uS,show(1:Int) > 0 by decide,if_true]
   by_cases h:i<0
   ·simp only[h,if_true]<;>lia
   ·simp only[h,if_false]<;>lia
 ·cases hi with
  |none=>simp[sliceBounds,HT.sIx]|some i=>
   simp only[sliceBounds,HT.sIx,uS,show(1:Int) > 0 by decide,if_true]
   by_cases h:i<0
   ·simp only[h,if_true]<;>lia
   ·simp only[h,if_false]<;>lia
theorem zcU_ (aa:List nI)(lo hi:Option Int):slicePick aa.toArray lo hi xh=((aa.drop (HT.sIx aa.length 0 lo)).take (HT.sIx aa.length aa.length hi-HT.sIx aa.length 0 lo)).toArray:=by
 obtain⟨h1,h2,h3⟩:=zdo_ lo hi aa.toArray.size;unfold slicePick;rw[h1,h2,h3];simp only[sliceRange_one,pick_run,nW]<;>rfl
def rSlL (K:Fgg):V->Option Int->Option Int->Hp->VK->Prop:=λx lo hi H Q=>∃a xs,x=.ref a/\SqL K H a xs/\∀p,H p=xh->Q (.ref p) (upd H p (.lst (cutV xs lo hi)))
theorem zkB_:SlR X (rSlL X.K):=by
 intro pins s σ H x v vl vu lo hi sl Q I rx hs pl pu h;obtain⟨a,xs,rfl,hx,q⟩:=h;cases rx;obtain⟨aa,r,ht,hz⟩:=I.list hx;have hlen:=r.length;refine⟨"list",_,slot_list_getitem.lookup,ht.isList.typeIs,?_⟩;refine wpAny_getItem_list_slice ht.isList hs pl pu .none (by simp) ?_ (by rw[nW]<;>lia)
 rw[zcU_,<- hlen];refine⟨.ref s.heap.objs.size,_,I.laid (t':=s.toks) (o:=.lst (cutV xs lo hi)) (λb ob q=>nQ _ q) (nZ _) ?_,rfl,q _ (I.hok.fresh (nZ _))⟩
 exact⟨pX (zcj_ xs lo hi) hz,_,0,(r.drop (HT.sIx xs.length 0 lo)).take (HT.sIx xs.length xs.length hi-HT.sIx xs.length 0 lo),ox _ rfl⟩
noncomputable def flatV:V->Bool
 |.non=>xj|.bl _=>xj|.int _=>xj|.str _=>xj|_=>xk
noncomputable def eqV:V->V->Bool
 |.non,.non=>xj|.bl a,.bl b=>a == b|.bl a,.int b=>(if a then 1 else 0) == b|.int a,.bl b=>a == (if b then 1 else 0)|.int a,.int b=>a == b|.str a,.str b=>a == b|_,_=>xk
theorem zlZ_ {A:ph}{s:nO}{y x:V}{u v:nI}(ry:RelV y u)(rx:RelV x v)(fy:flatV y=xj)(fx:flatV x=xj):vn A s u v (eqV y x):=by
 cases y with
 |non=>
  cases ry;cases x with
  |non=>cases rx;exact ui _|bl b=>cases rx;exact SeqAt.EqAt.none_bool b|int b=>obtain⟨t,rfl⟩:=rx;exact SeqAt.EqAt.none_int b t|str b=>obtain⟨t,rfl⟩:=rx;exact SeqAt.EqAt.none_str b t|_=>exact absurd (show xk=xj from fx) pO
 |bl a=>
  cases ry;cases x with
  |non=>cases rx;exact SeqAt.EqAt.bool_none a|bl b=>cases rx;exact SeqAt.EqAt.bool_bool a b|int b=>obtain⟨t,rfl⟩:=rx;exact SeqAt.EqAt.bool_int a b t|str b=>obtain⟨t,rfl⟩:=rx;exact SeqAt.EqAt.bool_str a b t|_=>exact absurd (show xk=xj from fx) pO
 |int a=>
  obtain⟨t',rfl⟩:=ry;cases x with
  |non=>cases rx;exact SeqAt.EqAt.int_none a t'|bl b=>cases rx;exact SeqAt.EqAt.int_bool a t' b|int b=>obtain⟨t,rfl⟩:=rx;exact SeqAt.EqAt.int_int a t' b t|str b=>obtain⟨t,rfl⟩:=rx;exact uD a t' b t|_=>exact absurd (show xk=xj from fx) pO
 |str a=>
  obtain⟨t',rfl⟩:=ry;cases x with
  |non=>cases rx;exact SeqAt.EqAt.str_none a t'|bl b=>cases rx;exact SeqAt.EqAt.str_bool a t' b|int b=>obtain⟨t,rfl⟩:=rx;exact uE a t' b t|str b=>obtain⟨t,rfl⟩:=rx;exact SeqAt.EqAt.str_str a t' b t|_=>exact absurd (show xk=xj from fx) pO
 |_=>exact absurd (show xk=xj from fy) pO
def eqU (x:V)(u:nI):Bool:=match u with
 |.none=>eqV .non x|.bool b=>eqV (.bl b) x|.int i _=>eqV (.int i) x|.str z _=>eqV (.str z) x|_=>xk
theorem zlk_ {x y:V}{u:nI}(r:RelV y u)(f:flatV y=xj):eqU x u=eqV y x:=by
 cases y with
 |non=>cases r;rfl|bl b=>cases r;rfl|int i=>obtain⟨t,rfl⟩:=r;rfl|str z=>obtain⟨t,rfl⟩:=r;rfl|_=>exact absurd (show xk=xj from f) pO
theorem zeP_ {x:V}:∀{xs:List V}{us:List nI},Vals xs us->xs.all flatV=xj->us.any (eqU x)=xs.any λy=>eqV y x
 |_,_,.nil,_=>rfl|y::xs,u::us,.cons r t,f=>by
  rw[pK,aW]at f;rw[rq,rq,zlk_ r f.1,zeP_ t f.2]
theorem zdx_ {A:ph}{s:nO}{x:V}{v:nI}(rx:RelV x v)(fx:flatV x=xj):∀{xs:List V}{us:List nI},Vals xs us->xs.all flatV=xj->∀u∈us,vn A s u v (eqU x u)
 |_,_,.nil,_=>λu hu=>by cases hu
 |y::xs,u::us,.cons r t,f=>λu' hu=>by
  rw[pK,aW]at f;rcases og.mp hu with rfl |hu
  ·rw[zlk_ r f.1];exact zlZ_ r rx f.1 fx
  ·exact zdx_ rx fx t f.2 u' hu
def inV (x:V)(xs:List V):Bool:=xs.any λy=>eqV y x
def rIn (K:Fgg)(neg:Bool):R2:=λx y H Q=>∃p xs,y=.ref p/\(SqL K H p xs\/SqT K H p xs)/\flatV x=xj/\xs.all flatV=xj/\Q (.bl (if neg then !inV x xs else inV x xs)) H
theorem zgm_:OpR X (oQ .In) (rIn X.K xk):=by
 intro pins s σ H x y v u Q I rx ry h;obtain⟨p,xs,rfl,hq,fx,fs,q⟩:=h;cases ry;rcases hq with hq |hq
 ·obtain⟨aa,r,pl,hz⟩:=I.list hq
  refine SeqAt.in_listAt (eqU x) pl.isList (λw hw=>zdx_ rx fx r fs w (by simpa using hw)) ⟨.bl _,H,I,rfl,?_⟩
  rw[show aa.toArray.any (eqU x)=aa.any (eqU x) by simp,zeP_ r fs]
  exact q
 ·obtain⟨aa,r,pl,hz⟩:=I.tuple hq
  refine SeqAt.in_tupleAt (eqU x) pl (λw hw=>zdx_ rx fx r fs w (by simpa using hw)) ⟨.bl _,H,I,rfl,?_⟩
  rw[show aa.toArray.any (eqU x)=aa.any (eqU x) by simp,zeP_ r fs]
  exact q
theorem zdl_:CallR X (.builtin "len") (λxs H Q=>∃p ys,xs=[.ref p]/\(SqL X.K H p ys\/SqT X.K H p ys)/\Q (.int ys.length) H):=by
 intro pins s σ H xs us Q I r h;obtain⟨p,ys,rfl,hq,q⟩:=h;obtain⟨u,rfl,rx⟩:=vals1 r;cases rx;have hn:=line63;rcases hq with hq |hq
 ·obtain⟨aa,r',pl,hz⟩:=I.list hq
  have hlen:=r'.length;exact Calls.call_len_list pl.isList (by simp only[nW]<;>lia) ⟨.int ys.length,H,I.tok _,⟨s.toks+1,by rw[nW,hlen]⟩,q⟩
 ·obtain⟨aa,r',pl,hz⟩:=I.tuple hq
  have hlen:=r'.length;exact len_tuple pl (by simp only[nW]<;>lia) ⟨.int ys.length,H,I.tok _,⟨s.toks+1,by rw[nW,hlen]⟩,q⟩
theorem zdv_:CallR X (.builtin "len") (λxs H Q=>∃z,xs=[.str z]/\z.length<=oh/\Q (.int z.length) H):=by
 intro pins s σ H xs us Q I r h;obtain⟨z,rfl,hz,q⟩:=h;obtain⟨u,rfl,t,rfl⟩:=vals1 r;have hn:=line63;exact len_str (by lia) ⟨.int z.length,H,I.tok _,⟨_,rfl⟩,q⟩
theorem zdp_:CallR X (.type "list") (λxs H Q=>∃p ys,xs=[.ref p]/\(SqL X.K H p ys\/SqT X.K H p ys)/\∀l,H l=xh->Q (.ref l) (upd H l (.lst ys))):=by
 intro pins s σ H xs us Q I r h;obtain⟨p,ys,rfl,hq,q⟩:=h;obtain⟨u,rfl,rx⟩:=vals1 r;cases rx
 have fin:∀(aa:List nI),Vals ys aa->ys.length<=oh->∀(h':Heap) (c':Nat),(∀b o',s.heap.get? b=xg o'->h'.get? b=xg o') ->
   h'.get? s.heap.objs.size=xg {cls:=.type "list",dict:=xh,data:=.seq aa.toArray c',slots:=#[]}->EP X pins σ Q (.ref s.heap.objs.size) {s with heap:=h'}:=λaa r' hz h' c' kp e=>
  ⟨.ref s.heap.objs.size,_,I.laid (t':=s.toks) kp (nZ _) (show ObjOk X.prog X.w _ h' _ (.lst ys)from⟨hz,aa,c',r',e⟩),rfl,q _ (I.hok.fresh (nZ _))⟩
 rcases hq with hq |hq
 ·obtain⟨aa,r',pl,hz⟩:=I.list hq
  have hlen:=r'.length;obtain⟨o,ho,hc,n,hd⟩:=pl.isList;exact call_list_seq p (.inl rfl) ho hc hd (λh' c' kp e=>fin aa r' hz h' c' kp e) (by simp only[nW]<;>lia)
 ·obtain⟨aa,r',pl,hz⟩:=I.tuple hq
  have hlen:=r'.length;obtain⟨o,ho,hc,n,hd⟩:=pl;exact call_list_seq p (.inr rfl) ho hc hd (λh' c' kp e=>fin aa r' hz h' c' kp e) (by simp only[nW]<;>lia)
def tyV (K:Fgg)(T:String)(x:V)(H:Hp):Prop:=match x with
 |.str _=>T="str"|.int _=>T="int"| .ref p=>(T="list" /\ ∃xs,SqL K H p xs)\/(T="tuple" /\ ∃o,K.lookup p=xg o/\o.cls=.type "tuple" /\ o.dict=xh) \/
   (T="dict" /\ ((∃kvs,H p=xg (.dK kvs))\/∃kvs,H p=xg (.dT kvs)))\/(T="set" /\ ∃S n,H p=xg (.set S n))
 |_=>False
theorem zox_ {pins:Pnn}{σ:St}{H:Hp}{s:nO}{T:String}{x:V}{v:nI}(I:Inv X pins σ H s)(r:RelV x v)(ty:tyV X.K T x H):
  s.TypeIs v T/\∀a,v=.ref a->∃ob,s.heap.get? a=xg ob/\ob.dict=xh:=by
 cases x with
 |str z=>
  obtain⟨t,rfl⟩:=r;cases(show T="str" from ty)
  exact⟨typeIs_str s z t,λ_ e=>nomatch e⟩
 |int i=>
  obtain⟨t,rfl⟩:=r;cases(show T="int" from ty)
  exact⟨typeIs_int s i t,λ_ e=>nomatch e⟩
 |ref p=>
  cases r;rcases ty with⟨rfl,xs,hq⟩|⟨rfl,o,hk,hc,hd⟩|⟨rfl,hk⟩|⟨rfl,S,n,hk⟩
  ·obtain⟨aa,_,pl,_⟩:=I.list hq
   refine⟨pl.isList.typeIs,λa e=>?_⟩
   cases e;obtain⟨o,n,e,c,hd,_⟩:=pl;exact⟨o,e,hd⟩
  ·refine⟨⟨o,I.kIn p o hk,hc⟩,λa e=>?_⟩
   cases e;exact⟨o,I.kIn _ o hk,hd⟩
  ·have z:∃o,s.heap.get? p=xg o/\o.ExactDict:=by
    rcases hk with⟨kvs,hk⟩|⟨kvs,hk⟩
    ·obtain⟨_,_,_,_,o,_,_,e,ex,_⟩:=I.hok p _ hk
     exact⟨o,e,ex⟩
    ·obtain⟨_,_,_,_,o,_,_,e,ex,_⟩:=I.hok p _ hk
     exact⟨o,e,ex⟩
   obtain⟨o,e,ex⟩:=z;refine⟨⟨o,e,ex.1⟩,λa e2=>?_⟩
   cases e2;exact⟨o,e,ex.2.1⟩
  ·obtain⟨o,_,_,_,e,ex,_⟩:=I.hok p _ hk
   refine⟨⟨o,e,ex.1⟩,λa e2=>?_⟩
   cases e2;exact⟨o,e,ex.2.1⟩
 |_=>exact oS ty
def tBM (K:Fgg)(T:String)(r:V->List V->Hp->VK->Prop)(to:TE)(t:TA):TE:=λσ H Q=>to σ H λx H1=>tyV K T x H1/\t σ H1 λxs H2=>r x xs H2 Q
variable {o e:oq}{es:List oq}{to:TE}{t:TA}{name:Str}{apos au:Pos}{T id:String}{r:V->List V->Hp->VK->Prop}
theorem pe_bm (pa:PlainAttrs T)(slot:Slot T name id)(gV:typeOf (.builtin id)=pure (.type "method_descriptor"))(hm:MtR X id r)(ho:PE X o to)(ha:PA X (e::es) t)
  (fK:attributeBase o name X.env (eval o X.env)=eval o X.env:=by rfl)
  (ij:((qJ au (oN (e::es) X.env)).all (λx=>!x.1) && (uL au (tw [] X.env)).all (λx=>x.1.isSome)
   && decide ((e::es).length+([]:List Keyword).length+(if([]:List Keyword).isEmpty then 0 else 1)<30))=xj:=by rfl)
  (fj:(apos.endLine == au.line)=xj:=by rfl) (hs:oN (e::es) X.env=(xk,eval e X.env)::oN es X.env:=by rfl) (di:(qJ au (oN es X.env)).any (·.1)=xk:=by rfl):
  PE X (.Call (.Attribute o name apos) (e::es) [] au) (tBM X.K T r to t):=by
 intro pins s σ H Q I h;refine wpAny_Call_method_late fK ij fj rfl (thn (ho pins s σ H _ I h) λv s1 af=>?_)
 obtain⟨x,H1,I1,r1,ty,q1⟩:=af;obtain⟨h1,h2⟩:=zox_ I1 r1 ty;refine⟨T,id,pa,slot,gV,h1,h2,?_⟩;have hA:=ha au pins s1 σ H1 _ I1 q1;rw[hs]at hA ⊢;refine Calls.callWith_builtin (by show(xk ||(qJ au (oN es X.env)).any (·.1))=xk;rw[di]<;>rfl) (Calls.evalArgs_plain ?_)
 exact thn hA λus s2 ⟨vs,H2,I2,r2,q2⟩=>hm pins s2 σ H2 x vs v us Q I2 r1 r2 q2
end
def MtM (X:Cx)(id:String)(r:V->List V->Hp->VK->Prop):Prop:=
 ∀(pins:Pnn) (s:nO) (σ:St) (H:Hp) (x:V) (xs:List V) (v:nI) (us:List nI) (Q:VK),Inv X pins σ H s->RelV x v->Vals xs us->r x xs H Q ->
  oB (model X.prog X.w) X.A (call (.builtin id) (v::us)) (EP X pins σ Q) X.xe s
theorem Vals.one:∀{x:V}{us:List nI},Vals [x] us->∃u,us=[u]/\RelV x u
 |_,_,.cons r .nil=>⟨_,rfl,r⟩
theorem Vals.dropLast {xs:List V}{us:List nI}(h:Vals xs us):Vals xs.dropLast us.dropLast:=by
 induction h with
 |nil=>exact .nil|cons r t ih=>
  cases t with
  |nil=>exact .nil|cons q t'=>exact .cons r ih
theorem Vals.rep {xs:List V}{us:List nI}(h:Vals xs us):∀k:Nat,Vals (ou k xs).flatten (ou k us).flatten
 |0=>.nil|k+1=>by
  rw[pR,pR,qU,qU];exact Vals.append h (Vals.rep h k)
theorem zmB_ {α:Type}(l:List α):l.eraseIdx (l.length-1)=l.dropLast:=by
 induction l with
 |nil=>rfl|cons a r ih=>
  cases r with
  |nil=>rfl|cons b r=>
   have e:(a::b::r).length-1=((b::r).length-1)+1:=by
    have h1:(a::b::r).length=r.length+2:=rfl;have h2:(b::r).length=r.length+1:=rfl;lia
   rw[e,List.eraseIdx_cons_succ,ih]
   all_goals rfl
theorem zdZ_ (aa:List nI):∀(k:Nat) (acc:List nI),
  uf (λx1 x2=>x1++x2) acc.toArray (ou k aa.toArray)=(acc++(ou k aa).flatten).toArray
 |0,acc=>by simp
 |k+1,acc=>by
  have e:acc.toArray++aa.toArray=(acc++aa).toArray:=by simp
  have e2:(acc++aa)++(ou k aa).flatten=acc++(ou (k+1) aa).flatten:=by
   rw[pR,qU,pD]
  rw[<- e2,<- zdZ_ aa k (acc++aa),<- e,pR,uj]
section
variable {X:Cx}{pins:Pnn}{σ:St}{H:Hp}{s:nO}{l:nR}{xs ys:List V}
theorem Inv.lset {aa its':List nI}{n:Nat}{f:Array nI->Array nI}{t':Nat}(I:Inv X pins σ H s)(hH:H l=xg (.lst xs))
  (e:s.heap.get? l=xg {cls:=.type "list",data:=.seq aa.toArray n}) (hf:f aa.toArray=its'.toArray) (hv:Vals ys its') (hz:ys.length<=oh):
  Inv X pins σ (upd H l (.lst ys)) {s with heap:=s.heap.update l (tZ f),toks:=t'}:=by
 have q:=PySem.IsL.update e f;rw[hf]at q;refine I.write (x:=l) (e:=l) (by rw[hH];exact trivial) (.inl rfl) (λb' u hb hu=>(qf s.heap (tZ f) (rA hb)).trans hu) ⟨_,q⟩ ?_
 exact⟨hz,its',_,hv,q⟩
theorem Inv.lnew {aa:List nI}{t':Nat}(I:Inv X pins σ H s)(hv:Vals ys aa)(hz:ys.length<=oh):
  Inv X pins σ (upd H s.heap.objs.size (.lst ys)) {s with heap:=s.heap.push {cls:=.type "list",data:=.seq aa.toArray},toks:=t'}:=
 I.laid (λ_ _ q=>nQ _ q) (nZ _) ⟨hz,aa,0,hv,ox _ rfl⟩
theorem Inv.fresh (I:Inv X pins σ H s):H s.heap.objs.size=xh:=I.hok.fresh (nZ _)
theorem Inv.lstM (I:Inv X pins σ H s)(hH:H l=xg (.lst xs)):xs.length<=oh/\∃(aa:List nI) (n:Nat),Vals xs aa/\xs.length=aa.length/\s.heap.get? l=xg {cls:=.type "list",data:=.seq aa.toArray n}:=by
 obtain⟨z,aa,n,r,e⟩:=I.hok l _ hH;exact⟨z,aa,n,r,r.length,e⟩
theorem notLongL {n:Nat}(h:n<=oh):qX n=xk:=by
 unfold qX;exact decide_eq_false (by lia)
end
section
variable {X:Cx}
def rAppend:V->List V->Hp->VK->Prop:=λx vs H Q=>∃l xs y,x=.ref l/\vs=[y]/\H l=xg (.lst xs)/\xs.length<oh/\Q .non (upd H l (.lst (xs++[y])))
theorem zeg_:MtM X "list.append" rAppend:=by
 intro pins s σ H x vs v us Q I rx rv h;obtain⟨l,xs,y,rfl,rfl,hH,hz,q⟩:=h;cases rx;obtain⟨u,rfl,ru⟩:=rv.one;obtain⟨z,aa,n,r,hl,e⟩:=I.lstM hH;refine call_meets F.slot_list_append ⟨_,e,rfl⟩ F.entry_list_append (F.args_list_append_2 _ _) (PySem.list_append l aa.toArray n u (by rw[nW];lia)) ⟨e,?_⟩
 refine⟨.non,_,I.lset (its':=aa++[u]) hH e (by simp) (r.append (.cons ru .nil)) ?_,rfl,q⟩
 rw[nK,um];lia
def rExtend:V->List V->Hp->VK->Prop:=λx vs H Q=>∃l b xs zs,x=.ref l/\vs=[.ref b]/\H l=xg (.lst xs)/\H b=xg (.lst zs)/\xs.length+zs.length<=oh/\Q .non (upd H l (.lst (xs++zs)))
theorem zgH_:MtM X "list.extend" rExtend:=by
 intro pins s σ H x vs v us Q I rx rv h;obtain⟨l,b,xs,zs,rfl,rfl,hH,hB,hz,q⟩:=h;cases rx;obtain⟨u,rfl,ru⟩:=rv.one;cases ru;obtain⟨z,aa,n,r,hl,e⟩:=I.lstM hH;obtain⟨z2,ak,n2,r2,dz,e2⟩:=I.lstM hB;have hsz:aa.toArray.size+ak.toArray.size<=oh:=by rw[nW,nW];lia
 have bU:¬(!aa.toArray.isEmpty && qX (aa.toArray.size+ak.toArray.size))=xj:=by
  rw[notLongL hsz,rF];exact pO
 refine call_meets F.slot_list_extend ⟨_,e,rfl⟩ F.entry_list_extend (F.args_list_extend_2 _ _)
  (AutoSeq1.list_extend_list_list_0 l aa.toArray n b ak.toArray n2 bU (by rw[nW];lia) (by lia)) ⟨e,e2,?_⟩
 refine⟨.non,_,I.lset (its':=aa++ak) hH e (by simp) (r.append r2) ?_,rfl,q⟩
 rw[nK];lia
def rCat:R2:=λx y H Q=>∃l b xs zs,x=.ref l/\y=.ref b/\H l=xg (.lst xs)/\H b=xg (.lst zs)/\xs.length+zs.length<=oh/\∀p,H p=xh->Q (.ref p) (upd H p (.lst (xs++zs)))
theorem znT_:OpR X (qy .Add) rCat:=by
 intro pins s σ H x y v u Q I rx ry h;obtain⟨l,b,xs,zs,rfl,rfl,hH,hB,hz,q⟩:=h;cases rx;cases ry;obtain⟨z,aa,n,r,hl,e⟩:=I.lstM hH;obtain⟨z2,ak,n2,r2,dz,e2⟩:=I.lstM hB;refine PySem.P.add_list e e2 ?_ (by rw[nW,nW];lia)
 have ea:aa.toArray++ak.toArray=(aa++ak).toArray:=by simp
 rw[ea];exact⟨.ref _,_,I.lnew (t':=s.toks) (r.append r2) (by rw[nK];lia),rfl,q _ I.fresh⟩
def rRep:R2:=λx y H Q=>∃l k xs,x=.ref l/\y=.int k/\H l=xg (.lst xs) /\ -(2 ^ 63)<=k/\k<2 ^ 63/\xs.length*k.toNat<=oh /\
 ∀p,H p=xh->Q (.ref p) (upd H p (.lst (ou k.toNat xs).flatten))
theorem zh7_ {α:Type}(xs:List α)(k:Nat):(ou k xs).flatten.length=k*xs.length:=by
 induction k with
 |zero=>simp|succ k ih=>rw[pR,qU,nK,ih,Nat.succ_mul,Nat.add_comm]
theorem zpM_:OpR X (qy .Mult) rRep:=by
 intro pins s σ H x y v u Q I rx ry h;obtain⟨l,k,xs,rfl,rfl,hH,h1,h2,hz,q⟩:=h;cases rx;obtain⟨t,rfl⟩:=ry;obtain⟨z,aa,n,r,hl,e⟩:=I.lstM hH;have hlen:aa.toArray.size*k.toNat<=oh:=by rw[nW,<- hl];exact hz
 have iq:¬aa.toArray.size*k.toNat > (2 ^ 63-1) / 8:=by
  have:(oh:Nat)<=(2 ^ 63-1) / 8:=by decide
  lia
 have ig:¬(!Builtin.List.listFitsIndex k)=xj:=by
  rw[fitsIndex_both h1 h2];exact pO
 have bU:¬qX (aa.toArray.size*k.toNat)=xj:=by
  rw[notLongL hlen];exact pO
 have g_:uf (λx1 x2=>x1++x2) #[] (ou (if aa.toArray.isEmpty=xj then 0 else k.toNat) aa.toArray)=(ou k.toNat aa).flatten.toArray:=by
  have f0:∀m:Nat,uf (λx1 x2=>x1++x2) #[] (ou m aa.toArray)=(ou m aa).flatten.toArray:=λm=>by
   have:=zdZ_ aa m [];rw[qP]at this;exact this
  rw[f0];cases aa with
  |nil=>simp|cons a r'=>rw[if_neg (by simp)]
 refine wpAny_binaryOp_repeat_ref (T:="list") (U:="int") (by decide) ⟨_,e,rfl⟩ (λs'=>typeIs_int s' k t) noFill_list_mul F.fills_int_mul vd repeat_list F.slot_int_index.lookup
  (call_meets vd (typeIs_int s k t) F.entry_int_rmul (F.args_int_rmul_2 _ _) (int___rmul___int_list k t l aa.toArray n)
   ⟨e,rfl,⟨_,e,rfl⟩,call_meets F.slot_list_mul ⟨_,e,rfl⟩ F.entry_list_mul (F.args_list_mul_2 _ _) (AutoListH.list___mul___list_int_3 l aa.toArray n k t ig iq bU) ⟨e,?_⟩⟩)
 rw[g_];exact⟨.ref _,_,I.lnew (t':=s.toks) (r.rep k.toNat) (by rw[zh7_,vS];exact hz),rfl,q _ I.fresh⟩
end
end L2
namespace Att
open PySem PySem.W PySem.Calls PyProof.Rows
theorem zb5_ {P:Params}{h:Heap}:∀(ns:List Int) (vs:List nI),WellAll P h vs (ns.map WData.int)->IntsAre vs ns:=by
 intro ns;induction ns with
 |nil=>
  intro vs w;rw[qg]at w;cases w;exact .nil
 |cons n ns ih=>
  intro vs w;rw[nS]at w;cases w with
  |cons a b=>
   cases a;exact .cons _ _ (ih _ b)
theorem zhj_ {l:OpenLaw}{n:Nat}(hn:l.most=xg n){P:Params}{h:Heap}{args:List WData}{vals:List nI}
  (cB:l.row.toRowW.claim.pre args=xj) (bA:WellAll P h vals args):
  ∃a vs ns,vals=[pB a]/\args=[WData.list (ns.map WData.int)]/\h.get? a=xg {cls:=.type "list",data:=.seq vs.toArray}/\IntsAre vs ns/\ns.length<=n:=by
 have kQ:WShape.hasAll [] args [.list .int]=xj:=(pre_splitW cB).1;have hc:l.pre.holds [] {args:=args}=xj:=(pre_splitW cB).2;obtain⟨d,r,rfl,h1,h2⟩:=hasAllW_cons kQ;obtain rfl:=hasAllW_nil h2;obtain⟨xs,rfl,h3⟩:=hasW_list h1;obtain⟨ns,rfl⟩:=items_int h3;have hlen:ns.length<=n:=by
  unfold OpenLaw.pre at hc;have h4:(WTm.not (.lt (.lit (.int (n:Int))) (.len (.arg 0)))).holds [] {args:=[.list (ns.map .int)]}=xj:=by
   have h4:=(holds_andW hc).1;rw[hn]at h4;exact h4
  have h5:=condW_of h4 (w_not (w_lt w_lit (w_len_list (w_arg rfl))));rw[nN]at h5;refine uT λq=>?_
  have q':(n:Int)<((ns.length:Nat):Int):=by lia
  first
   |(rw[decide_eq_true q']at h5;exact absurd h5 (by decide))
   |(simp at h5;lia)
 cases bA with
 |cons w1 w2=>
  cases w2;cases w1 with
  |list ho dH=>exact⟨_,_,ns,rfl,rfl,ho,zb5_ ns _ dH,hlen⟩
theorem zgF_ (l:OpenLaw)(args:List WData):l.row.toRowW.claim.post args (.bool xj) args=xj:=
 postW_of (r:=l.row.toRowW) (X:=(xj == xj))
  (show WShape.has [] (.bool xj) .bool=xj by first |rfl |decide |simp[WShape.has,WShape.arms,WShape.armsAll])
  (show(WTm.eq .res (.lit (.bool xj))).value [] {args:=args,res:=xg (.bool xj),after:=args}=xg (.bool (xj == xj))from w_eq_bool (w_res rfl) w_lit) rfl
section
end
end Att
namespace L2
open PySem PySem.Spec PyProof.Rows
theorem zaA_:∀{vs:List nI}{ns:List Int},IntsAre vs ns->Vals (ns.map V.int) vs
 |_,_,.nil=>.nil|_,_,.cons n t h=>.cons ⟨t,rfl⟩ (zaA_ h)
def Only (H:Hp):Prop:=∀b,H b=xh\/(∃o xs,H b=xg (.frz o (.lst xs)))\/∃p q,H b=xg (.tbl p q)
theorem zjl_ {P:oH}{w:oV}{K:Fgg}{mg mb:Str->Option nI}{CX:CXT}{k:Nat}{fa a:nR}{fd:pL}{x:Str}{sp:Sp}{ae:nO}{vs:List nI}{ns:List Int}
  (KX:K.In ae.heap) (gj:ae.heap.Ns oI mg) (hb:ae.heap.Ns builtinsNs mb) (lG:∀x:Str,x ≠ "__name__" -> mb x=qA x) (hV:ae.heap.NoLimit) (lF:∃bm ob,mg "__builtins__"=xg (.ref bm)/\bm≠builtinsNs/\ae.heap.get? bm=xg ob/\ob.cls=.type "module" /\ ob.dict=xg builtinsNs/\ob.data=.plain) (hg:ae.gens=#[])
  (ha:ae.heap.get? a=xg {cls:=.type "list",data:=.seq vs.toArray}) (hi:IntsAre vs ns) (hl:ns.length<=oh) (hr:Room k callerA)
  (F:∀base:Heap,K.In base->base.Ns oI mg->FnOk P w K mg base CX k fa fd [x] sp) (fI:∀(s:nO) (u:nI),BindsTo s fd ⟨[u],[]⟩ [(x,u)])
  (cf:∀H:Hp,Only H->SqL K H a (ns.map V.int)->sp [.ref a] H (λv _=>v=.bl xj) λ_ _ _=>False)
  (iu:∀H e s',CX [] H ae (λ_ _ _=>False) e s'->False)
  (hT:∀Pt pos q,lamK K=xg (Pt,pos,q)->K.lookup Pt=xh/\isCodeTable ae.heap Pt/\ae.heap.get? Pt=xg {cls:=.none,data:=.fields #[]}):
  codeAny (model P w) callerA (.call (.ref fa) ⟨[.ref a],[]⟩) (λr s'=>r=.ok (.ret (.bool xj))/\OldK ae.heap s'.heap/\s'.os=ae.os/\AllBare s'.gens) ae:=by
 have rv:=zaA_ hi;have gK:=hi.length
 have core:∀H:Hp,Only H->SqL K H a (ns.map V.int)->HOk P w H ae.heap->Tb K H->(∀b,H b≠xh->b=a\/∃p q,lamK K=xg (b,p,q))->(H a≠xh->K.lookup a=xh) ->
   codeAny (model P w) callerA (.call (.ref fa) ⟨[.ref a],[]⟩) (λr s'=>r=.ok (.ret (.bool xj))/\OldK ae.heap s'.heap/\s'.os=ae.os/\AllBare s'.gens) ae:=by
  intro H hO hS hok lJ hA hK;have aQ:∀{b:nR}{o:vi},ae.heap.get? b=xg o->H b=xh->(hidT ae.heap H).get? b=xg o:=λe n=>zi5_ e n
  have eN:∀{b:nR}{o:vi}{es:Array DictEntry}{ep:Nat},ae.heap.get? b=xg o->o.data=.dict es ep->H b=xh:=λ{b o es ep} e d=>by
   cases q:H b with
   |none=>rfl|some u=>
    rcases hA b (by rw[q];simp)with e' |⟨p',q',e'⟩
    ·subst e'
     rw[ha]at e;cases e;have d':Data.seq vs.toArray _=Data.dict es ep:=d;cases d'
    ·have z:=(hT _ _ _ e').2.2
     rw[z]at e;cases e;cases d
  have f7:∀{b:nR}{m:Str->Option nI},ae.heap.Ns b m->(hidT ae.heap H).Ns b m:=λ{b m} ⟨o,es,ep,e,d,r⟩=>⟨o,es,ep,aQ e (eN e d),d,r⟩
  have jC:K.In (hidT ae.heap H):=λb o e=>aQ (KX b o e) (by
   cases q:H b with
   |none=>rfl|some u=>
    rcases hA b (by rw[q];simp)with e' |⟨p',q',e'⟩
    ·subst e'
     rw[hK (by rw[q];simp)]at e;cases e
    ·rw[(hT _ _ _ e').1]at e;cases e)
  have hM:Mod K mg (hidT ae.heap H):=⟨jC,f7 gj,⟨mb,f7 hb,lG⟩,let⟨mc,h1,h2⟩:=hV;⟨mc,f7 h1,h2⟩,by
   obtain⟨bm,ob,b1,b2,b3,b4,b5,b6⟩:=lF;refine⟨bm,ob,b1,b2,aQ b3 ?_,b4,b5,b6⟩;cases q:H bm with
   |none=>rfl|some u=>
    rcases hA bm (by rw[q];simp)with e' |⟨p',q',e'⟩
    ·subst e'
     rw[ha]at b3;cases b3;have z:uF "list"=uF "module":=b4;injection z with z;exact absurd z (by decide)
    ·have z:=(hT _ _ _ e').2.2
     rw[z]at b3;cases b3;cases b4⟩
  have e0:Env0 P w K mg (hidT ae.heap H) callerA [] ae H:=⟨rfl,hM,λb o e=>zki_ e,vP (zgL_ _ _),trivial,λb hb=>absurd (show b∈([]:List nR)from hb) (by simp),hok,.of_eq hg,lJ⟩
  refine codeAny_mono ((F _ jC (f7 gj)).run callerA [] ae H ⟨[.ref a],[]⟩ [.ref a] [.ref a] _ _ hr e0 (fI ae (.ref a)) (.cons rfl .nil) (cf H hO hS)) λr s' h=>?_
  cases r with
  |error e=>exact(iu H e s' h).elim|ok fl=>
   cases fl with
   |next=>exact oS h|brk=>exact oS h|cont=>exact oS h|ret u=>
    obtain⟨v,H',os,bare,un,hok',r',q⟩:=h;have q':v=.bl xj:=q;subst q';obtain rfl:u=rD xj:=r';have both:∀b o,ae.heap.get? b=xg o->asItWas ae.heap s'.heap b o/\∃o',s'.heap.get? b=xg o':=λb o e=>by
     cases q:H b with
     |none=>
      have z:=un.keep b o e q (by intro z;exact absurd (show b∈([]:List nR)from z) (by simp)) (by simp)
      exact⟨.inl z,_,z⟩
     |some u=>
      rcases hO b with z |⟨ob,xs,z⟩|⟨p',q',z⟩
      ·rw[q]at z;cases z
      ·have z2:=un.frzs b ob _ z
       obtain⟨e1,_⟩:=hok b _ z;obtain⟨e2,_⟩:=hok' b _ z2;rw[e]at e1;cases e1;exact⟨.inl e2,_,e2⟩
      ·obtain⟨ps,e2,_⟩:=hok' b _ (un.tbls b p' q' z)
       rcases hA b (by rw[q];simp)with e' |⟨p1,q1,e'⟩
       ·subst e'
        obtain⟨ny,e3,_⟩:=hok b _ z;rw[ha]at e3;cases e3
       ·obtain⟨_,ht,e3⟩:=hT _ _ _ e'
        rw[e]at e3;cases e3;exact⟨.inr (.inl ⟨ht,rfl,#[],ps,rfl,by rw[Array.empty_append];exact e2⟩),_,e2⟩
    exact⟨rfl,⟨λb o e=>(both b o e).1,λb o e=>(both b o e).2⟩,os,bare⟩
 obtain⟨T,t1,t2,t3⟩:∃T:Hp,Tb K T/\(∀b u,T b=xg u->∃p q,lamK K=xg (b,p,q)/\u=.tbl p q)/\T a=xh:=by
  cases hq:lamK K with
  |none=>exact⟨λ_=>xh,λ_ _ _ e=>(by rw[hq]at e;cases e),λ_ _ e=>(by cases e),rfl⟩|some z=>
   obtain⟨Pt,pos,q⟩:=z;have na:a≠Pt:=λz=>by
    have e:=(hT _ _ _ hq).2.2;rw[<- z,ha]at e;cases e
   refine⟨λb=>if b=Pt then xg (.tbl pos q)else xh,λ_ _ _ e=>(by rw[hq]at e;cases e;exact if_pos rfl),λb u e=>?_,if_neg na⟩
   by_cases hb:b=Pt
   ·have e':=(if_pos hb).symm.trans e
    cases e';exact⟨pos,q,by rw[hb],rfl⟩
   ·have e':=(if_neg hb).symm.trans e
    cases e'
 have fc:∀(H:Hp) b p q,lamK K=xg (b,p,q)->ObjOk P w H ae.heap b (.tbl p q):=λH b p q e=>
  ⟨#[],(hT _ _ _ e).2.2,qd,λcv z=>by cases z⟩
 cases hk:K.lookup a with
 |some o=>
  have e:=KX a o hk;rw[ha]at e;cases e;refine core T (λb=>?_) (.inr ⟨_,vs.toArray,_,hk,rfl,rfl,rfl,by rw[nW,gK];exact hl,by simpa using rv⟩) (λb u z=>?_) t1 (λb z=>?_) λz=>absurd t3 z
  ·cases q:T b with
   |none=>exact .inl rfl|some u=>obtain⟨p',q',_,rfl⟩:=t2 b u q;exact .inr (.inr ⟨p',q',rfl⟩)
  ·obtain⟨p',q',e1,rfl⟩:=t2 b u z;exact fc _ _ _ _ e1
  ·cases q:T b with
   |none=>exact absurd q z|some u=>obtain⟨p',q',e1,rfl⟩:=t2 b u q;exact .inr ⟨p',q',e1⟩
 |none=>
  refine core (upd T a (.frz {cls:=.type "list",data:=.seq vs.toArray} (.lst (ns.map V.int)))) (λb=>?_) (.inl (.inr ⟨{cls:=.type "list",data:=.seq vs.toArray},ze_⟩)) (λb u z=>?_) (λp' pos q e=>?_) (λb z=>?_) λ_=>hk
  ·by_cases hb:b=a
   ·rw[hb];exact .inr (.inl ⟨_,_,ze_⟩)
   ·rw[zm_ hb]
    cases q:T b with
    |none=>exact .inl rfl|some u=>obtain⟨p',q',_,rfl⟩:=t2 b u q;exact .inr (.inr ⟨p',q',rfl⟩)
  ·by_cases hb:b=a
   ·subst hb
    rw[ze_]at z;cases z;exact⟨ha,by rw[nN];exact hl,vs,_,rv,ha⟩
   ·rw[zm_ hb]at z
    obtain⟨p',q',e1,rfl⟩:=t2 b u z;exact fc _ _ _ _ e1
  ·have z:=t1 p' pos q e
   rw[zm_ (λw=>by rw[w,t3]at z;cases z)];exact z
  ·by_cases hb:b=a
   ·exact .inl hb
   ·rw[zm_ hb]at z
    cases q:T b with
    |none=>exact absurd q z|some u=>obtain⟨p',q',e1,rfl⟩:=t2 b u q;exact .inr ⟨p',q',e1⟩
def lamOk (q:oH)(K:Fgg):Bool:=match lamK K with
 |none=>xj|some (P,_,_)=>(K.lookup P).isNone && ((recsOf q).find? λe=>e.name==(tY "put_in_order")).isSome
theorem zm1_ {p:oH}{K:Fgg}{h:Heap}{loose:List Str}{gJ:ExcName->Option nI}{mg mb:Str->Option nI}(T:Top p loose gJ mg mb h)(X:K.In h)(hq:lamOk p K=xj):
  ∀Pt pos q,lamK K=xg (Pt,pos,q)->K.lookup Pt=xh/\isCodeTable h Pt/\h.get? Pt=xg {cls:=.none,data:=.fields #[]}:=λPt pos q e=>by
 unfold lamOk at hq;rw[e]at hq;obtain⟨h1,h2⟩:=pj.mp hq;obtain⟨d,hd⟩:=qt.mp h2;obtain⟨c,ht⟩:∃c,W.tabIn K "put_in_order"=xg (c,Pt):=by
  obtain⟨q',h3,e⟩:=pA.mp e;obtain⟨fd,_,e⟩:=pA.mp e;obtain⟨p',_,e⟩:=oF.mp e;cases e;exact⟨_,h3⟩
 obtain⟨a,b⟩:=W.tab_of T X hd ht;exact⟨qL.mp h1,(a.tab b).isCodeTable,b⟩
noncomputable def inClass (s:pM)(j:Nat):pM:=match s with
 |.ClassDef _ _ _ body _ _ _ _ _ _ _=>body.getD j (.Pass ⟨0,0,0,0⟩)|_=>.Pass ⟨0,0,0,0⟩
noncomputable def defArgs (s:pM):Arguments:=match s with
 |.FunctionDef _ a _ _ _ _ _ _ _ _=>a|_=>{posonlyargs:=[],args:=[],vararg:=xh,kwonlyargs:=[],kw_defaults:=[],kwarg:=xh,defaults:=[]}
noncomputable def defBody (s:pM):List pM:=match s with
 |.FunctionDef _ _ b _ _ _ _ _ _ _=>b|_=>[]
noncomputable def defScope (s:pM):Scope:=match s with
 |.FunctionDef _ _ _ _ _ _ sc _ _ _=>sc|_=>{kind:=.function,names:=[],isGenerator:=xk,isCoroutine:=xk}
abbrev CX0:CXT:=λ_ _ _ _ _ _=>False
abbrev E0:XK:=λ_ _ _=>False
structure Fun (K:Fgg)(x qual:Str)(st:pM)(f:nR)(fd:pL):Prop where
 ex:∃(oc:nI) (od:Option nR) (kV doc pm:nI) (an:Option nR) (ai ct:nI) (ao:Array (Option nI)),
  fd=W.fnOf x qual (defArgs st) (defBody st) (defScope st) .none kV doc pm an ai ct/\K.lookup f=xg ⟨oc,od,.func fd,ao⟩/\sv K ai qual=xj
 kp:qT K (.ref f)=xj
section
variable {K:Fgg}
theorem Fun.binds {x qual:Str}{st:pM}{f:nR}{fd:pL}{ps:List Str}(F:Fun K x qual st f fd)
  (h:∀(kV doc pm:nI) (an:Option nR) (ai ct:nI) (us:List nI),us.length=ps.length->bindArgs (W.fnOf x qual (defArgs st) (defBody st) (defScope st) .none kV doc pm an ai ct) ⟨us,[]⟩=pure (ps.zip us)):Binds K fd ps []:=by
 obtain⟨oc,od,kV,doc,pm,an,ai,ct,ao,rfl,lk,bw⟩:=F.ex;exact .all (h kV doc pm an ai ct)
theorem zkO_ {x qual:Str}{st:pM}{f:nR}{oc:nI}{od an:Option nR}{ao:Array (Option nI)}{kV doc pm ai ct:nI}(l:K.lookup f=xg ⟨oc,od,.func (W.fnOf x qual (defArgs st) (defBody st) (defScope st) .none kV doc pm an ai ct),ao⟩)
  (c:sv K ai qual=xj) (k:qT K (.ref f)=xj):Fun K x qual st f (W.fnOf x qual (defArgs st) (defBody st) (defScope st) .none kV doc pm an ai ct):=⟨⟨oc,od,kV,doc,pm,an,ai,ct,ao,rfl,l,c⟩,k⟩
end
def Same (H H':Hp):Prop:=∀b o,H b=xg o->H' b=xg o
theorem Same.refl (H:Hp):Same H H:=λ_ _ h=>h
theorem Same.trans {H H1 H2:Hp}(a:Same H H1)(b:Same H1 H2):Same H H2:=λc o h=>b c o (a c o h)
theorem Same.free {H H':Hp}(e:Same H H'){l:nR}(h:H' l=wM):H l=wM:=by
 cases q:H l with
 |none=>rfl|some o=>
  rw[e l o q]at h;cases h
theorem Same.seq {K:Fgg}{H H':Hp}{a:nR}{xs:List V}(e:Same H H')(h:SqL K H a xs):SqL K H' a xs:=by
 rcases h with(h |⟨o,h⟩)|h
 ·exact .inl (.inl (e _ _ h))
 ·exact .inl (.inr ⟨o,e _ _ h⟩)
 ·exact .inr h
noncomputable def Itp (n:Nat)(f:Nat->V):It:=⟨λi _=>i<n,λi H x H'=>H'=H/\x=f i,λi _=>n<=i⟩
noncomputable def ownTups:List String:=["enumerate", "zip", "dict_itemiterator", "dict_reverseitemiterator", "odict_iterator", "itertools.zip_longest", "itertools.pairwise"]
theorem zg1_ {P:oH}{w:oV}{K:Fgg}{tg:oq}{it:nR}{n:Nat}{f:Nat->V}{Pw:Nat->nI->Prop}{St:Nat->Heap->Prop}
  (W:∀A:ph,A.handled=xh->Walks P w A it [it] [it] n Pw St) (hv:∀i v,i<n->Pw i v->RelV (f i) v)
  (ho:∀i h,St i h->∃o nm vs,h.get? it=xg o/\o.cls=.type nm/\o.data=.fields vs/\ownTups.contains nm=xk)
  (eX:∀(A:ph) (i:Nat) (s:nO) (Q:nI->nO->Prop) (E:nI->nO->Prop),St i s.heap->Q (.ref it) s->oB (model P w) A (pyIter (.ref it)) Q E s)
  (fu:∀i h h',St i h->(∀b∈[it],∀o,h.get? b=xg o->h'.get? b=xg o)->St i h'):
  Turn P w K tg (Itp n f) [it] it (λi h=>i<=n/\St i h) where
 mem:=by simp
 obj:=λi h st b hb=>by
  have e:b=it:=by simpa using hb
  subst e;obtain⟨o,nm,vs,e,c,d,_⟩:=ho i h st.2;exact⟨o,e,λv z=>by rw[d]at z;cases z⟩
 keep:=λi h h' st k=>⟨st.1,fu i h h' st.2 k⟩
 item:=by
  intro X hP hw hK hc i pins s σ H E I hf st hg;subst hP hw hK;obtain⟨f0,f1,f2,f3,f4,f5⟩:=hf it (by simp)
  have hi:i<n:=hg;refine(W X.A (I.ok.hd hc)).item i s _ _ hi st.2 λv h' tk gU aX kk=>?_
  have I1:Inv X pins σ H {s with heap:=h',toks:=tk}:=I.turned (λb o hb e=>kk b o (by simpa using hb) e) f0 f1 f3 f4 f5
  obtain⟨o,nm,vs,e,c,d,hn⟩:=ho _ _ aX;exact⟨_,rfl,zns_ (s:={s with heap:=h',toks:=tk}) (n:=nm) e c d hn ⟨f i,H,I1,hv i v hi gU,⟨rfl,rfl⟩,⟨hi,aX⟩,λb hb=>(hf b hb).1⟩⟩
 done:=by
  intro X hP hw hK hc i pins s σ H E I hf st hg;subst hP hw hK;obtain⟨f0,f1,f2,f3,f4,f5⟩:=hf it (by simp)
  have hi:n<=i:=hg;have e:i=n:=Nat.le_antisymm st.1 hi;subst e;exact(W X.A (I.ok.hd hc)).done s _ _ st.2 λh' tk kk=>⟨rfl,I.turned (λb o hb e=>kk b o (by simpa using hb) e) f0 f1 f3 f4 f5⟩
 self:=λA i s Q E st h=>eX A i s Q E st.2 h
noncomputable def sgn (x:Str)(i:Nat):V:=.str ⟨#[x.cps.getD i 0]⟩
theorem zhc_ {P:oH}{w:oV}{it:nR}{x:Str}{t:Tok}(A:ph)(hA:A.handled=xh):Walks P w A it [it] [it] x.cps.size (SignAt x) (λi h=>h.IsStrIter it (pq x) x t i):=by
 cases ha:x.cps.all (·<128)
 ·have e:pq x="str_iterator":=by simp[pq,ha]
  rw[e];exact Walks.strWide hA it x t
 ·have e:pq x="str_ascii_iterator":=by simp[pq,ha]
  rw[e];exact Walks.strAscii hA it x t
theorem zcS_ {x:Str}{i:Nat}{v:nI}(h:SignAt x i v):RelV (sgn x i) v:=by
 obtain⟨c,u,e,rfl⟩:=h;refine⟨u,?_⟩;have:x.cps.getD i 0=c:=by simp[rB,e]
 rw[this]
theorem zcz_ (x:Str):ownTups.contains (pq x)=xk:=by
 unfold pq;split<;>decide
theorem zjC_ {P:oH}{w:oV}{K:Fgg}{tg:oq}(it:nR)(x:Str)(t:Tok):Turn P w K tg (Itp x.cps.size (sgn x)) [it] it (λi h=>i<=x.cps.size/\h.IsStrIter it (pq x) x t i):=by
 refine zg1_ (Pw:=SignAt x) (λA hA=>zhc_ A hA) (λi v _ h=>zcS_ h) (λi h st=>?_) (λA i s Q E st h=>?_) (λi h h' st k=>?_)
 ·obtain⟨o,e,c,d⟩:=st
  exact⟨o,_,_,e,c,d,zcz_ x⟩
 ·cases ha:x.cps.all (·<128)
  ·have e:pq x="str_iterator":=by simp[pq,ha]
   rw[e]at st;exact wpAny_pyIter_striter_wide st h
  ·have e:pq x="str_ascii_iterator":=by simp[pq,ha]
   rw[e]at st;exact wpAny_pyIter_striter_ascii st h
 ·obtain⟨o,e,r⟩:=st
  exact⟨o,k it (by simp) o e,r⟩
section
end
theorem Inv.turnedL {X:Cx}{pins:Pnn}{σ:St}{H:Hp}{s:nO}{h':Heap}{t':Nat}{ch:List nR}(I:Inv X pins σ H s)(k:∀b o,b∉ch->s.heap.get? b=xg o->h'.get? b=xg o)
  (hf:∀b∈ch,FpOk X pins H b):Inv X pins σ H {s with heap:=h',toks:=t'}:=by
 have eO:∀b u,H b=xg u->b∉ch:=λb u e z=>by rw[(hf b z).1]at e;cases e
 refine I.step (g':=s.gens) (d':=s.drawn) (ch:=ch) (λb hb=>?_) (λb o _ _ hc e _=>k b o hc e) (λb o _ _ hc e _=>⟨o.slots,k b o hc e⟩) (λ_ _ _ _ n=>n)
  (λb o hc e=>⟨o,k b o hc e⟩) (λ_ _ e=>e) (λ_ _ _ e=>e) (λ_ _ _ e=>e) (λm hm=>?_) (λb u e=>?_) I.bare
 ·obtain⟨f0,f1,f2,f3,f4,f5⟩:=hf b hb
  exact⟨f3,f1,f4,f5⟩
 ·obtain⟨o,es,ep,ho,r⟩:=hm
  exact⟨o,es,ep,k _ o (λz=>(hf _ z).2.1 rfl) ho,r⟩
 ·refine(I.hok b u e).stay (λc v hc q=>k c v ?_ q) (λ_ q=>q) λ_ _ q=>q
  rcases hc with z |z
  ·rw[z];exact eO b u e
  ·exact eO c _ z
theorem zgQ_ {X:Cx}{pins:Pnn}{σ:St}{H:Hp}{s:nO}{h1:Heap}{tk:Nat}{fX:Tok}{e it:nR}{i:Nat}{x:nI}{y:V}{St:Heap->Prop}{elts:List oq}{kk:Nat}{pos:Pos}{E:nI->nO->Prop}
  (I:Inv X pins σ H s) (hf:∀b∈[e,it],FpOk X pins H b) (he:e<s.heap.objs.size) (hit:it<s.heap.objs.size) (gq:e≠it) (ck:IsEnumOut h1 e it ((i:Int)+1) x s.heap.objs.size) (ry:RelV y x)
  (ht:h1.get? s.heap.objs.size=xg {cls:=.type "tuple",data:=.seq #[.int i fX,x]}) (hz:h1.objs.size=s.heap.objs.size+1) (hk:∀b o,b≠e->b≠it->s.heap.get? b=xg o->h1.get? b=xg o)
  (lK:∀h2,rG e h1 h2->St h2):
  oB (model X.prog X.w) X.A (letOwnedTupleGo (.Tuple elts kk pos) (.ref e) (.ref s.heap.objs.size)) (λ_ s2=>∃z H',Inv X pins σ H' s2/\RelV z (.ref s.heap.objs.size) /\
   (∃p,H p=xh/\z=.ref p/\H'=upd H p (.tup [.int i,y]))/\(IsEnum s2.heap e it ((i+1:Nat):Int) x/\St s2.heap)/\∀b∈[e,it],H' b=xh) E {s with heap:=h1,toks:=tk}:=by
 refine wpAny_letOwnedTupleGo_enum ck λh2 ip aY=>?_
 replace aY:rG e h1 h2:=aY;have hp:H s.heap.objs.size=xh:=I.hok.fresh (nZ _);have aP:s.heap.objs.size≠e:=rf he;have gZ:s.heap.objs.size≠it:=rf hit;have I1:Inv X pins σ (upd H s.heap.objs.size (.tup [.int i,y])) {s with heap:=s.heap.push {cls:=.type "tuple",data:=.seq #[.int i fX,x]},toks:=tk}:=by
  refine I.laid (λb u q=>nQ _ q) (nZ _) ⟨?_,[.int i fX,x],.cons ⟨_,rfl⟩ (.cons ry .nil),⟨_,ox _ rfl,rfl,_,rfl⟩⟩
  show 2<=oh
  decide
 have fB:∀b∈[e,it],FpOk X pins (upd H s.heap.objs.size (.tup [.int i,y])) b:=λb hb=>by
  obtain⟨f0,r⟩:=hf b hb;refine⟨?_,r⟩;rw[zm_ (by rcases og.mp hb with rfl |hb;exact aP.symm;rcases og.mp hb with rfl |hb;exact gZ.symm;cases hb)]
  exact f0
 have I2:Inv X pins σ (upd H s.heap.objs.size (.tup [.int i,y])) {s with heap:=h2,toks:=tk}:=by
  refine Inv.turnedL (s:={s with heap:=s.heap.push {cls:=.type "tuple",data:=.seq #[.int i fX,x]},toks:=tk}) (ch:=[e,it]) I1 (λb o hb q=>?_) fB
  have i8:b≠e:=λz=>hb (by simp[z])
  have kg:b≠it:=λz=>hb (by simp[z])
  refine(aY.2 b i8).trans ?_;rcases uv q with⟨rfl,rfl⟩|q'
  ·exact ht
  ·exact hk b o i8 kg q'
 refine⟨.ref s.heap.objs.size,_,I2,rfl,⟨s.heap.objs.size,hp,rfl,rfl⟩,⟨?_,lK h2 aY⟩,λb hb=>(fB b hb).1⟩
 have:((i+1:Nat):Int)=(i:Int)+1:=by push_cast;rfl
 rw[this];exact ip
def Ite (K:Fgg)(l:nR):It:=
 ⟨λi H=>∃xs x,SqL K H l xs/\xs[i]?=xg x,λi H y H'=>∃p x,(∀xs,SqL K H l xs->xs[i]?=xg x)/\H p=xh/\y=.ref p/\H'=upd H p (.tup [.int i,x]),λi H=>∃xs,SqL K H l xs/\xs.length<=i⟩
theorem zeM_ {P:oH}{w:oV}{K:Fgg}{elts:List oq}{kk:Nat}{pos:Pos}(e it l:nR)(gq:e≠it):
  Turn P w K (.Tuple elts kk pos) (Ite K l) [e,it] e (λi h=>(∃old,IsEnum h e it (i:Nat) old)/\h.IsListIter it l i) where
 mem:=by simp
 obj:=λi h st b hb=>by
  obtain⟨⟨old,he⟩,o,ho,c,d⟩:=st;rcases og.mp hb with rfl |hb
  ·exact⟨_,he,λv z=>by cases z⟩
  ·have e:b=it:=by simpa using hb
   subst e;exact⟨o,ho,λv z=>by rw[d]at z;cases z⟩
 keep:=λi h h' st k=>by
  obtain⟨⟨old,he⟩,hit⟩:=st;exact⟨⟨old,k e (by simp) _ he⟩,hit.at λo q=>k it (by simp) o q⟩
 item:=by
  intro X hP hw hK hc i pins s σ H E I hf st hg;subst hP hw hK;obtain⟨xs,x,hq,hx⟩:=hg;obtain⟨aa,rv,p,hz⟩:=I.list hq;obtain⟨u,hu,ru⟩:=rv.get hx;obtain⟨⟨old,he⟩,hit⟩:=st;refine wpAny_pyNext_enum_item he hit p.isList (x:=u) (by simpa using hu) gq λh1 ck h_ kF ko lp=>?_
  refine⟨_,rfl,?_⟩;have jr:e<s.heap.objs.size:=ot he;have ia:it<s.heap.objs.size:=by obtain⟨o,ho,_⟩:=id hit;exact ot ho
  refine thn (zgQ_ (St:=λh2=>h2.IsListIter it l (i+1)) I hf jr ia gq ck ru kF ko lp λh2 hs=>h_.extBut hs.extBut gq.symm) λ_ s2 q=>?_
  obtain⟨z,H',I2,rz,⟨p,hp,rfl,rfl⟩,⟨ip,hit2⟩,fr⟩:=q;exact⟨.ref p,_,I2,rz,⟨p,x,λys hy=>by rw[I.list_inj hy hq];exact hx,hp,rfl,rfl⟩,⟨⟨u,ip⟩,hit2⟩,fr⟩
 done:=by
  intro X hP hw hK hc i pins s σ H E I hf st hg;subst hP hw hK;obtain⟨xs,hq,hx⟩:=hg;obtain⟨aa,rv,p,hz⟩:=I.list hq;obtain⟨⟨old,he⟩,hit⟩:=st;have hl:=rv.length;obtain⟨f0,f1,f2,f3,f4,f5⟩:=hf it (by simp)
  exact wpAny_pyNext_enum_end (I.ok.hd hc) he hit p.isList (by simp;lia) λh' eb=>⟨rfl,I.turned (t':=s.toks) (λb o hb e=>eb b o hb e) f0 f1 f3 f4 f5⟩
 self:=λ_ _ _ _ _ st h=>by
  obtain⟨⟨old,he⟩,_⟩:=st;exact wpAny_pyIter_enum he h
theorem zdY_ {P:oH}{w:oV}{it:nR}{x:Str}{t:Tok}(A:ph)(hA:A.handled=xh):Draws P w A it [it] x.cps.size (λi v=>∃c u,x.cps[i]?=xg c/\v=.str ⟨#[c]⟩ u) (λi h=>h.IsStrIter it (pq x) x t i):=by
 cases ha:x.cps.all (·<128)
 ·have e:pq x="str_iterator":=by simp[pq,ha]
  rw[e];exact Draws.strWide hA it x t
 ·have e:pq x="str_ascii_iterator":=by simp[pq,ha]
  rw[e];exact Draws.strAscii hA it x t
section
variable {X:Cx}{elts:List oq}{kk:Nat}{cX:Pos}
def iEnumL (K:Fgg)(ta:TA):TI:=λσ H R=>ta σ H λvs H1=>∃a,vs=[.ref a]/\(∃xs,SqL K H1 a xs)/\R (Ite K a) H1
theorem zjD_ {a:oq}{ta:TA}{p pos:Pos}(hg:Gl X "enumerate")(hm:X.mg "enumerate"=xh)(ha:PA X [a] ta)(hs:oN [a] X.env=[(xk,eval a X.env)]:=by rfl):
  PI X (.Tuple elts kk cX) (.Call (.Name "enumerate" p) [a] [] pos) (iEnumL X.K ta):=by
 intro pins s σ H R I h;refine Call_ (zes_ I hg hm (u:=.type "enumerate") (by rfl) (qB (thn (ha pos pins s σ H _ I h) λus s1 af=>?_) hs rfl))
 obtain⟨vs,H1,I1,r1,q1⟩:=af;obtain⟨l,e,⟨xs,hq⟩,q⟩:=q1;subst e;cases r1 with
 |cons r rr=>
  cases rr;cases r;obtain⟨aa,rv,p,hz⟩:=I1.list hq;refine call_enumerate_list p.isList λh' he hit hsz hk=>?_
  refine wpAny_pyIter_enum (s:={s1 with heap:=h'}) he ?_;have I2:Inv X pins σ H1 {s1 with heap:=h'}:=I1.kept (t':=s1.toks) hk;refine⟨s1.heap.objs.size+1,[s1.heap.objs.size+1,s1.heap.objs.size],_,_,H1,rfl,I2,zeM_ _ _ l (by simp),⟨⟨_,he⟩,hit⟩,λb hb=>?_,q⟩
  have eC:s1.heap.objs.size<=b:=by
   rcases og.mp hb with rfl |hb
   ·exact rE _
   ·have e:b=s1.heap.objs.size:=by simpa using hb
    subst e;exact nZ _
  exact I1.fpOk eC (I1.hok.fresh eC)
variable {prog:oH}{w:oV}{A:ph}{R:Result->nO->Prop}{s:nO}
theorem zej_ {elt target iter:oq}{ifs:List oq}{scope:Scope}{pos:Pos}{it acc:nI}{env:Env}(I:Nat->nO->Prop)
  (turn:∀n s,I n s->oB (model prog w) A (pyNext it) (λr ae=>match r with
   |none=>R (.ok .next) ae| some v=>oB (model prog w) A (letOwnedTupleGo target it v) (λ_ aA=>oB (model prog w) A (assign target env v) (λ_ aw=>
     oB (model prog w) A (forIn ifs xj λc r=>if r=xj then do let ok <- isTrue c env (eval c env);pure (ForInStep.yield ok)else pure (ForInStep.yield r)) (λok bM=>
      if ok=xj then oB (model prog w) A (eval elt env) (λx eF=>
       oB (model prog w) A (call (.builtin "list.append") [acc,x]) (λ_ eE=>∃m,m<n/\I m eE) (λ_ _=>False) eF) (λ_ _=>False) bM
      else∃m,m<n/\I m bM) (λ_ _=>False) aw) (λ_ _=>False) aA) (λ_ _=>False) ae) (λ_ _=>False) s)
  (n:Nat) (h:I n s):
  codeAny (model prog w) A (.compLoop (.ListComp elt [⟨target,iter,ifs,0⟩] scope pos) 0 it acc env) R s:=by
 refine codeAny_loop rfl I (λn s hI=>?_) n h
 show oB _ A ((compTurn (.ListComp elt [⟨target,iter,ifs,0⟩] scope pos) 0 it acc env).onRaise (λx=>do noteFrame x env;theTreesLotGoes x)) _ _ s
 refine wpAny_noted ?_;rw[compTurn_list];refine nJ (wpAny_standAt (nJ (pN (turn n s hI) (λr ae aJ=>?_) λ_ _ h'=>h'.elim)))
 cases r with
 |none=>exact nX aJ|some v=>
  refine nJ (pN aJ (λ_ aA bR=>?_) λ_ _ h'=>h'.elim)
  refine nJ (pN bR (λ_ aw bQ=>nJ (pN bQ (λok bM eV=>?_) λ_ _ h'=>h'.elim)) λ_ _ h'=>h'.elim)
  cases ok with
  |false=>exact nX ⟨rfl,eV⟩|true=>
   exact nJ (nJ (pN eV (λx eF gQ=>nJ (pN gQ (λ_ eE gP=>nX (nX ⟨rfl,gP⟩)) λ_ _ h'=>h'.elim)) λ_ _ h'=>h'.elim))
end
noncomputable def closeL (cells:List (Str×nR)):List (Str×qG)->List (Str×nR)->Option (List (Str×nR))
 |[],acc=>xg acc|(n,k)::r,acc=>if(k == .free)=xj then(match cells.lookup n with |some c=>closeL cells r ((n,c)::acc)|none=>xh)else closeL cells r acc
theorem zby_ {env:Env}{f:Str×qG->List (Str×nR)->Sem (ForInStep (List (Str×nR)))}
  (hf:∀n k cs,f (n,k) cs=if(k == NameKind.free)=xj then(do let c <- cellOf env n;pure (ForInStep.yield ((n,c)::cs)))else pure (ForInStep.yield cs)):
  ∀(names:List (Str×qG)) (acc cl:List (Str×nR)),closeL env.cells names acc=xg cl->(forIn names acc f:Sem (List (Str×nR)))=pure cl
 |[],acc,cl,h=>by cases h;rfl
 |(n,k)::r,acc,cl,h=>by
  rw[uk,hf];unfold closeL at h;by_cases hk:(k == NameKind.free)=xj
  ·rw[if_pos hk]at h
   rw[if_pos hk];cases hc:env.cells.lookup n with
   |none=>rw[hc]at h;cases h|some c=>
    rw[hc]at h;have e:cellOf env n=pure c:=by unfold cellOf;rw[hc]
    rw[e];simp only[pure_bind];exact zby_ hf r _ cl h
  ·rw[if_neg hk]at h
   rw[if_neg hk];simp only[pure_bind];exact zby_ hf r _ cl h
theorem zdW_ {env:Env}{scope:Scope}{cl:List (Str×nR)}(h:closeL env.cells scope.names []=xg cl):closureFor scope env=pure cl:=by
 unfold closureFor;dsimp only;rw[zby_ (env:=env) (λn k cs=>rfl) scope.names [] cl h]
 rfl
theorem zaY_ {cells:List (Str×nR)}:∀(names:List (Str×qG)) (acc cl:List (Str×nR)),closeL cells names acc=xg cl->(∀x c,acc.lookup x=xg c->cells.lookup x=xg c) ->
  (∀x c,cl.lookup x=xg c->cells.lookup x=xg c)
 |[],acc,cl,h,ha=>by cases h;exact ha
 |(n,k)::r,acc,cl,h,ha=>by
  unfold closeL at h;by_cases hk:(k == NameKind.free)=xj
  ·rw[if_pos hk]at h
   cases hc:cells.lookup n with
   |none=>rw[hc]at h;cases h|some c=>
    rw[hc]at h;refine zaY_ r _ cl h λx c' e=>?_
    rw[rH]at e;cases hx:x == n with
    |true=>rw[hx]at e;cases e;rw[eq_of_beq hx];exact hc|false=>rw[hx]at e;exact ha x c' e
  ·rw[if_neg hk]at h
   exact zaY_ r _ cl h ha
theorem zba_ {cells:List (Str×nR)}:∀(names:List (Str×qG)) (acc cl:List (Str×nR)),closeL cells names acc=xg cl->∀x,((x,NameKind.free)∈names\/∃c,acc.lookup x=xg c)->∃c,cl.lookup x=xg c
 |[],acc,cl,h,x,hx=>by
  cases h;rcases hx with hx |hx
  ·cases hx
  ·exact hx
 |(n,k)::r,acc,cl,h,x,hx=>by
  unfold closeL at h;by_cases hk:(k == NameKind.free)=xj
  ·rw[if_pos hk]at h
   cases hc:cells.lookup n with
   |none=>rw[hc]at h;cases h|some c=>
    rw[hc]at h;refine zba_ r _ cl h x ?_;rcases hx with hx |⟨c',e⟩
    ·rcases og.mp hx with e |hx
     ·cases e;exact .inr ⟨c,by rw[rH,beq_self_eq_true]⟩
     ·exact .inl hx
    ·refine .inr ?_
     rw[rH];cases hxn:x == n with
     |true=>exact⟨c,rfl⟩|false=>exact⟨c',e⟩
  ·rw[if_neg hk]at h
   refine zba_ r _ cl h x ?_;rcases hx with hx |hx
   ·rcases og.mp hx with e |hx
    ·cases e;exact absurd rfl hk
    ·exact .inl hx
   ·exact .inr hx
theorem zaD_ {scope:Scope}{env:Env}{x:Str}{k:qG}(h:(relabel scope env).names.lookup x=xg k)(hk:k=.cell\/k=.free)(bu:∀y∈scope.names,y.2≠.cell):(x,NameKind.free)∈scope.names:=by
 have m:=qj h;obtain⟨⟨n,k0⟩,hm,e⟩:=pJ.mp m;dsimp only at e;split at e
 ·rename_i hc
  cases e;have:k0=.free:=by
   simp only[aW,beq_iff_eq]at hc;exact hc.1.1
  subst this;exact hm
 ·cases e
  rcases hk with rfl |rfl
  ·exact absurd rfl (bu _ hm)
  ·exact hm
def cxComp (X:Cx)(scope:Scope)(cl:List (Str×nR))(C:nR)(N:List Str)(fp:List nR)(s2:nO)(H2:Hp):Cx where
 prog:=X.prog
 w:=X.w
 K:=X.K
 mg:=X.mg
 base:=X.base
 A:=X.A
 N:=N
 s₀:=s2
 H₀:=H2
 env:=compEnvC scope cl C X.env
 outer:=X.stack
 stack:=X.stack
 ex:=fp
 fn:=λ_=>xk
 calm:=X.calm
 pn:=[]
 xe:=λ_ _=>False
structure CScope (X:Cx)(scope:Scope)(cl:List (Str×nR))(lv:List Str)(fr:List (Str×Nat)):Prop where
 clos:closeL X.env.cells scope.names []=xg cl
 cell:∀y∈scope.names,y.2≠.cell
 kind:scope.kind=.function
 names:∀z∈scope.names,z.2=.local->scope.names.lookup z.1=xg .local
 fr:∀q∈fr,X.N[q.2]?=xg q.1/\(q.1,NameKind.free)∈scope.names/\(X.env.kindOf q.1=xg .cell\/X.env.kindOf q.1=xg .free) /\
  ((relabel scope X.env).names.lookup q.1=xg .cell\/(relabel scope X.env).names.lookup q.1=xg .free)
noncomputable def cN (lv:List Str)(fr:List (Str×Nat)):List Str:=lv++fr.map (·.1)
def cS (lv:List Str)(fr:List (Str×Nat))(σ:St):St:=lv.map (λ_=>xh)++fr.map λq=>(σ[q.2]?).join
theorem ziG_ {X:Cx}{pins:Pnn}{σ:St}{H2:Hp}{s2:nO}{scope:Scope}{cl:List (Str×nR)}{lv:List Str}{fr:List (Str×Nat)}{fp:List nR}{h4:Heap}{tk:Nat}{m:Str->Option nI}{n:Nat}
  (I:Inv X pins σ H2 s2) (S:CScope X scope cl lv fr) (hf:∀b∈fp,FpOk X pins H2 b) (aM:∀b∈fp,b<s2.heap.objs.size) (hC:h4.Ns (s2.heap.objs.size+1) m) (hD:h4.get? s2.heap.objs.size=xg {cls:=.type "list",data:=.seq #[] n})
  (hk:∀b o,s2.heap.get? b=xg o->h4.get? b=xg o):
  Inv (cxComp X scope cl (s2.heap.objs.size+1) (cN lv fr) fp s2 H2) [] (cS lv fr σ) (upd H2 s2.heap.objs.size (.lst [])) {s2 with heap:=h4,toks:=tk}:=by
 have aT:=zaY_ scope.names [] cl S.clos (λx c e=>by cases e)
 have bC:=zba_ scope.names [] cl S.clos;have lO:H2 s2.heap.objs.size=xh:=I.hok.fresh (nZ _);have gu:H2 (s2.heap.objs.size+1)=xh:=I.hok.fresh (rE _);have lQ:s2.heap.objs.size+1≠s2.heap.objs.size:=rf (si _);have mO:∀b∈fp,(b∈X.ex\/X.s₀.heap.objs.size<=b):=λb hb=>(hf b hb).2.2.2.1
 have dR:∀x c,cl.lookup x=xg c->c<s2.heap.objs.size:=λx c e=>by
  obtain⟨v,o,ho,_⟩:=I.cell x c (aT x c e);exact ot ho
 refine⟨⟨I.ok.mod,S.kind,I.ok.glob,I.ok.blt,rE _,λx y c h1 h2=>I.ok.inj x y c (aT x c h1) (aT y c h2),λx hx=>?_,λx c fA=>(by cases fA),I.ok.hd,I.ok.frames,.inl rfl,λb hb=>?_,I.bs,pX I.ok.bsz I.sz,λb o e hb=>?_,λb hb z=>?_,I.stack,I.stkFree,I.tb⟩,
  rfl,I.bare,?_,⟨m,hC,λi x v h1 h2 h3=>?_⟩,λx c e=>?_,?_,λx c e=>?_,λp hp=>absurd (show p∈([]:Pnn)from hp) (by simp),?_,?_⟩
 ·-- has
  have kx:(relabel scope X.env).names.lookup x=xg .cell\/(relabel scope X.env).names.lookup x=xg .free:=hx;have hm:(x,NameKind.free)∈scope.names:=kx.elim (λz=>zaD_ z (.inl rfl) S.cell) λz=>zaD_ z (.inr rfl) S.cell
  exact bC x (.inl hm)
 ·-- exf
  obtain⟨f0,f1,f2,f3,f4,f5⟩:=hf b hb;refine⟨λz=>?_,λx c e=>f4 x c (aT x c e)⟩
  have z':b=s2.heap.objs.size+1:=z;have:=aM b hb;rw[z']at this;exact absurd this (Nat.not_lt.mpr (rE _))
 ·rcases mO b hb with z |z
  ·exact I.ok.noex b o e z
  ·exact absurd (oO (oO (ot e) I.ok.bsz) z) (rP _)
 ·obtain⟨f0,f1,f2,_⟩:=hf b hb
  rcases og.mp (I.stkSub b z)with q |q
  ·exact f1 q
  ·exact f2 q
 ·exact Un.laid hk (nZ _) lO
 ·-- loc
  have h1':(lv++fr.map (·.1))[i]?=xg x:=h1;have cp:(lv.map (λ_=>xh)++fr.map λq=>(σ[q.2]?).join:St)[i]?=xg (xg v):=h2
  by_cases hi:i<lv.length
  ·rw[pG (by simpa using hi),om]at cp
   cases hq:lv[i]? with
   |none=>rw[hq]at cp;cases cp|some z=>rw[hq]at cp;cases cp
  ·rw [oX (by simpa using hi),om]at cp
   rw[oX (by lia),om]at h1'
   simp only[nN]at cp;cases hq:fr[i-lv.length]? with
   |none=>rw[hq]at h1';cases h1'|some q=>
    rw[hq]at h1' cp;have e1:q.1=x:=pC h1';have e2:(σ[q.2]?).join=xg v:=pC cp;have e3:σ[q.2]?=xg (xg v):=by
     cases hz:σ[q.2]? with
     |none=>rw[hz]at e2;cases e2|some z=>rw[hz]at e2;exact congrArg xg e2
    obtain⟨g1,g2,g3,g4⟩:=S.fr q (p8 hq);obtain⟨m0,hn0,hl0⟩:=I.loc;have j5:Vis X.env.scope q.1:=by
     rcases g3 with g3 |g3
     ·exact .inr (.inl g3)
     ·exact .inr (.inr g3)
    obtain⟨u,r,l⟩:=hl0 q.2 q.1 v g1 e3 j5;refine⟨u,r,.inr ⟨?_,?_⟩⟩
    ·rw[<- e1];exact g4
    ·rcases l with⟨lk,_⟩|⟨_,c,ec,ic⟩
     ·rcases g3 with g3 |g3<;>(rw[lk]at g3;cases g3)
     ·obtain⟨c',ec'⟩:=bC q.1 (.inl g2)
      have:c'=c:=by
       have:=aT q.1 c' ec';rw[ec]at this;exact(pC this).symm
      subst this;obtain⟨o,ho,hd⟩:=ic;exact⟨c',by rw[<- e1];exact ec',o,hk _ _ ho,hd⟩
 ·obtain⟨v,o,ho,hd⟩:=I.cell x c (aT x c e)
  exact⟨v,o,hk _ _ ho,hd⟩
 ·show upd H2 _ _ (s2.heap.objs.size+1)=xh
  rw[zm_ lQ];exact gu
 ·have:=dR x c e
  rw[zm_ (oR this)];exact I.freeC x c (aT x c e)
 ·exact I.hok.laid hk (nZ _) ⟨qS _,[],n,.nil,hD⟩
 ·show(cS lv fr σ).length=(cN lv fr).length
  simp[cS,cN]
def PIf (X:Cx)(ifs:List oq)(t:TT):Prop:=
 ∀(pins:Pnn) (s:nO) (σ:St) (H:Hp) (Q:Bool->Hp->Prop),Inv X pins σ H s->t σ H Q ->
  oB (model X.prog X.w) X.A (forIn ifs xj λc r=>if r=xj then do let ok <- isTrue c X.env (eval c X.env);pure (ForInStep.yield ok)else pure (ForInStep.yield r)) (TP X pins σ Q) X.xe s
def tTrue:TT:=λ_ H Q=>Q xj H
theorem zlh_ {X:Cx}:PIf X [] tTrue:=λpins s σ H Q I h=>wpAny_tests_nil ⟨H,I,h⟩
theorem zmn_ {X:Cx}{c:oq}{t:TT}(h:PT X c t):PIf X [c] t:=λpins s σ H Q I hw=>wpAny_tests_one (h pins s σ H Q I hw)
def tCompR (J:It)(g:TG)(tt:TT)(te:TE)(jZ:St)(H1:Hp)(Q:VK):Prop:=
 ∀ D,H1 D=xh->∃W:Nat->Nat->List V->St->Hp->Prop,(∃m,W 0 m [] jZ (upd H1 D (.lst [])))/\∀i m ys σ H,W i m ys σ H ->
  (J.stop i H/\Q (.ref D) H)\/(J.go i H/\∃N:List V->St->Hp->Prop,(∀dS ah H',N dS ah H'->∃m',m'<m/\W (i+1) m' dS ah H') /\
   ∀x H',J.yld i H x H'->g x σ H' λb8 H2=>tt b8 H2 λb H3=>if b=xj then te b8 H3 λv H4=>H4 D=xg (.lst ys)/\ys.length<oh/\N (ys++[v]) b8 (upd H4 D (.lst (ys++[v])))else N ys b8 H3)
section
variable {X:Cx}{scope:Scope}{cl:List (Str×nR)}{lv:List Str}{fr:List (Str×Nat)}{elt tg iter:oq}{ifs:List oq}{pos:Pos}{g:TG}{tt:TT}{te:TE}
theorem zdc_ {pins:Pnn}{σ:St}{H2:Hp}{s2:nO}{it:nR}{fp:List nR}{tn:Nat->Heap->Prop}{J:It}{Q:VK}{E:nI->nO->Prop}{use:Option (nI->Sem Unit)}{Q':nI->nO->Prop}
  (I:Inv X pins σ H2 s2) (S:CScope X scope cl lv fr) (T:Turn X.prog X.w X.K tg J fp it tn) (st:tn 0 s2.heap) (hf:∀b∈fp,FpOk X pins H2 b) (hc:X.calm=xj)
  (hg:∀C fp s2 H2,PG (cxComp X scope cl C (cN lv fr) fp s2 H2) tg g) (ht:∀C fp s2 H2,PIf (cxComp X scope cl C (cN lv fr) fp s2 H2) ifs tt) (he:∀C fp s2 H2,PE (cxComp X scope cl C (cN lv fr) fp s2 H2) elt te)
  (hq:tCompR J g tt te (cS lv fr σ) H2 Q)
  (fin:∀D C oC H' s',Inv X (pins++[(C,oC)]) σ H' s'->(∀h:Heap,h.get? C=xg oC->∃m,h.Ns C m)->FpOk X pins H' C->Q (.ref D) H'->compPost (model X.prog X.w) X.A E use Q' (.ref D) C (.ok .next) s'):
  oB (model X.prog X.w) X.A (newList []) (λacc aw=>oB (model X.prog X.w) X.A (newFunctionEnv scope X.env.globals cl [] X.env.qual xh .none (xg X.env)) (λfS bM=>
   codeAny (model X.prog X.w) X.A (.compStart (.ListComp elt [⟨tg,iter,ifs,0⟩] scope pos) 0 (.ref it) acc {fS with scope:=relabel scope X.env}) (compPost (model X.prog X.w) X.A E use Q' acc fS.locals) bM) E aw) E s2:=by
 have aM:∀b∈fp,b<s2.heap.objs.size:=λb hb=>by
  obtain⟨o,ho,_⟩:=T.obj 0 _ st b hb;exact ot ho
 refine wpAny_newList (wpAny_newFunctionEnv S.cell (by intro y hy;simp at hy) (λaJ bh aO=>?_) S.kind)
 dsimp only at bh aO ⊢;have hsz:(s2.heap.push {cls:=.type "list",data:=.seq ([]:List nI).toArray}).objs.size=s2.heap.objs.size+1:=qF ..;rw[hsz]at bh aO ⊢;have old:∀b o,s2.heap.get? b=xg o->aJ.get? b=xg o:=λb o e=>aO.extBut b o (oR (tB (ot e))) (nQ _ (nQ _ e))
 have aB:aJ.get? s2.heap.objs.size=xg {cls:=.type "list",data:=.seq #[]}:=aO.extBut _ _ (oR (si _)) (nQ _ (ox _ rfl));have I4:Inv (cxComp X scope cl (s2.heap.objs.size+1) (cN lv fr) fp s2 H2) [] (cS lv fr σ) (upd H2 s2.heap.objs.size (.lst [])) {s2 with heap:=aJ,toks:=s2.toks+([]:List (Str×nI)).length}:=
  ziG_ I S hf aM bh aB old
 generalize aZ:cxComp X scope cl (s2.heap.objs.size+1) (cN lv fr) fp s2 H2=X' at I4
 have eP:X'.prog=X.prog:=by rw[<- aZ];rfl
 have ew:X'.w=X.w:=by rw[<- aZ];rfl
 have eK:X'.K=X.K:=by rw[<- aZ];rfl
 have eA:X'.A=X.A:=by rw[<- aZ];rfl
 have ec:X'.calm=xj:=by rw[<- aZ];exact hc
 have ex:X'.xe=λ_ _=>False:=by rw[<- aZ];rfl
 have dO:X'.env=compEnvC scope cl (s2.heap.objs.size+1) X.env:=by rw[<- aZ];rfl
 have ly:PG X' tg g:=aZ ▸ hg _ _ _ _;have kH:PIf X' ifs tt:=aZ ▸ ht _ _ _ _;have dE:PE X' elt te:=aZ ▸ he _ _ _ _;obtain⟨W,⟨m0,w0⟩,turn⟩:=hq s2.heap.objs.size (I.hok.fresh (nZ _));have b9:tn 0 aJ:=T.keep _ _ _ st λb _ o e=>old b o e
 have f4:∀b∈fp,FpOk X' [] (upd H2 s2.heap.objs.size (.lst [])) b:=λb hb=>by
  obtain⟨f0,f1,f2,f3,f4,f5⟩:=hf b hb;have:=aM b hb;refine⟨?_,?_,?_,.inl ?_,?_,?_⟩
  ·rw[zm_ (oR this)];exact f0
  ·rw[dO];exact oR (tB this)
  ·intro z
   have z':b∈frs X.stack:=by rw[<- aZ]at z;exact z
   rcases og.mp (I.stkSub b z')with q |q
   ·exact f1 q
   ·exact f2 q
  ·rw[<- aZ];exact hb
  ·intro x c e
   rw[dO]at e;exact f4 x c (zaY_ scope.names [] cl S.clos (λx c e=>by cases e) x c e)
  ·intro p hp
   rw[<- aZ]at hp;exact absurd (show p∈([]:Pnn)from hp) (by simp)
 have ba:∀{H':Hp},(∀b∈fp,H' b=xh)->∀b∈fp,FpOk X' [] H' b:=λhn b hb=>⟨hn b hb,(f4 b hb).2⟩
 have loop:∀aw:nO,aw={s2 with heap:=aJ,toks:=s2.toks+([]:List (Str×nI)).length} ->
   codeAny (model X.prog X.w) X.A (.compLoop (.ListComp elt [⟨tg,iter,ifs,0⟩] scope pos) 0 (.ref it) (.ref s2.heap.objs.size) (compEnvC scope cl (s2.heap.objs.size+1) X.env))
    (compPost (model X.prog X.w) X.A E use Q' (.ref s2.heap.objs.size) (s2.heap.objs.size+1)) aw:=by
  rintro aw rfl;refine zej_ (λn s'=>∃i ys ah H',Inv X' [] ah H' s'/\tn i s'.heap/\(∀b∈fp,H' b=xh)/\W i n ys ah H') ?_ m0 ⟨0,[],_,_,I4,b9,λb hb=>(f4 b hb).1,w0⟩
  rintro n s3 ⟨i,ys,bE,H3,I3,st3,fr3,w3⟩;rcases turn i n ys bE H3 w3 with⟨stop,qn⟩|⟨go,N,hN,step⟩
  ·have a0:=T.done X' eP ew eK ec i [] s3 bE H3 (λ_ _=>False) I3 (ba fr3) st3 stop
   rw[eA]at a0;refine thn a0 λr s4 af=>?_
   obtain⟨hr,I4'⟩:=af;subst hr;have un:Un (frs X.stack) fp H2 H3 s2.heap s4.heap:=by
    have:=I4'.base;rw[<- aZ]at this;exact this
   have os:s4.os=s2.os:=by
    have:=I4'.os;rw[<- aZ]at this;exact this
   have hok:HOk X.prog X.w H3 s4.heap:=by
    have:=I4'.hok;rw[<- aZ]at this;exact this
   have J1:Inv X pins σ H3 s4:=I.call' os un hok I4'.bare λb hb=>by
    obtain⟨f0,f1,f2,f3,f4,f5⟩:=hf b hb;exact⟨f3,f1,f4,f5⟩
   obtain⟨m,hn,_⟩:=I4'.loc;have hG:s4.heap.Ns (s2.heap.objs.size+1) m:=by rw[dO]at hn;exact hn
   have gu:H3 (s2.heap.objs.size+1)=xh:=by
    have:=I4'.free;rw[dO]at this;exact this
   have fC:FpOk X pins H3 (s2.heap.objs.size+1):=I.fpOk (rE _) gu;obtain⟨oC,es,ep,hoC,hdC,rC⟩:=id hG;have J2:Inv X (pins++[(s2.heap.objs.size+1,oC)]) σ H3 s4:=J1.pins_of λp hp=>by
    rcases oP.mp hp with hp |hp
    ·exact J1.pin p (oj _ hp)
    ·have e:p=(s2.heap.objs.size+1,oC):=by simpa using hp
     subst e;exact⟨hoC,gu,fC.2.1,fC.2.2.1,λv z=>by rw[hdC]at z;cases z⟩
   exact fin _ _ oC H3 s4 J2 (λh e=>⟨m,oC,es,ep,e,hdC,rC⟩) fC qn
  ·have a0:=T.item X' eP ew eK ec i [] s3 bE H3 (λ_ _=>False) I3 (ba fr3) st3 go
   rw[eA]at a0;refine thn a0 λr s4 af=>?_
   obtain⟨u,hr,h4⟩:=af;subst hr;refine thn h4 λ_ s5 af=>?_
   obtain⟨x,H5,I5,r5,y5,st5,fr5⟩:=af;have iJ:=I5.pinned (ba fr5) (T.obj _ _ st5);have a1:=ly _ s5 bE H5 x u _ iJ r5 (step x H5 y5);rw[eP,ew,eA,dO,ex]at a1;refine thn a1 λ_ s6 af=>?_
   obtain⟨bZ,H6,I6,q6⟩:=af;have a2:=kH _ s6 bZ H6 _ I6 q6;rw[eP,ew,eA,dO,ex]at a2;refine thn a2 λok s7 af=>?_
   obtain⟨H7,I7,q7⟩:=af;have again:∀{fU:List V}{H7:Hp}{s7:nO},Inv X' ([]++pinsAt fp s5.heap) bZ H7 s7->N fU bZ H7->∃m,m<n/\∃i ys ah H',Inv X' [] ah H' s7/\tn i s7.heap/\(∀b∈fp,H' b=xh)/\W i m ys ah H':=λ{fU H7 s7} I7 n7=>by
    obtain⟨m',hm,w7⟩:=hN fU bZ H7 n7;refine⟨m',hm,i+1,fU,bZ,H7,I7.unpinned,T.keep _ _ _ st5 λb hb o e=>(I7.pin (b,o) (oj _ (oj _ (zaU_ hb e)))).1,λb hb=>?_,w7⟩
    obtain⟨o,e,d⟩:=T.obj _ _ st5 b hb;exact(I7.pin (b,o) (oj _ (oj _ (zaU_ hb e)))).2.1
   cases ok with
   |false=>exact again I7 q7|true=>
    have a3:=dE _ s7 bZ H7 _ I7 q7;rw[eP,ew,eA,dO,ex]at a3;refine thn a3 λy s8 af=>?_
    obtain⟨v,H8,I8,r8,hD8,gm,n8⟩:=af;have a4:=zeg_ (X:=X') _ s8 bZ H8 (.ref s2.heap.objs.size) [v] (.ref s2.heap.objs.size) [y] (λ_ H9=>N (ys++[v]) bZ H9) I8 rfl (.cons r8 .nil) ⟨_,_,_,rfl,rfl,hD8,gm,n8⟩
    rw[eP,ew,eA,ex]at a4;refine thn a4 λ_ s9 af=>?_
    obtain⟨v9,H9,I9,_,n9⟩:=af;exact again I9 n9
 exact codeAny_compStart_list (loop _ rfl) (T.self _ 0 _ _ _ b9 (loop _ rfl))
def tComp (lv:List Str)(fr:List (Str×Nat))(wi:TI)(g:TG)(tt:TT)(te:TE):TE:=λσ H Q=>wi σ H λJ H1=>tCompR J g tt te (cS lv fr σ) H1 Q
theorem zkX_ {wi:TI}(hc:X.calm=xj)(S:CScope X scope cl lv fr)(hi:PI X tg iter wi)
  (hg:∀C fp s2 H2,PG (cxComp X scope cl C (cN lv fr) fp s2 H2) tg g) (ht:∀C fp s2 H2,PIf (cxComp X scope cl C (cN lv fr) fp s2 H2) ifs tt) (he:∀C fp s2 H2,PE (cxComp X scope cl C (cN lv fr) fp s2 H2) elt te)
  (hs:∀x,foldedSetIterable iter X.env x=pure x:=by intro _;rfl):PE X (.ListComp elt [⟨tg,iter,ifs,0⟩] scope pos) (tComp lv fr wi g tt te):=by
 intro pins s σ H Q I h;rw[eval_ListComp];refine wpAny_comprehension_free (use:=xh) rfl hs (zdW_ S.clos) S.kind S.names ?_;refine thn (hi pins s σ H _ I h) λv s1 h1=>thn h1 λgh s2 h2=>?_
 obtain⟨it,fp,tn,J,H2,e,I2,T,bz,f2,q⟩:=h2;subst e;refine zdc_ I2 S T bz f2 hc hg ht he q λD C oC H' s' J1 ir fC qD=>?_
 have hp:=J1.pin (C,oC) (oj _ (oj _ (oE.mpr rfl)));obtain⟨m,hm⟩:=ir s'.heap hp.1;refine⟨m,hm,λh' cP=>?_⟩
 exact⟨.ref D,H',J1.unpinned.turned (t':=s'.toks) (λb o hb e=>(cP.2 b hb).trans e) fC.1 fC.2.1 fC.2.2.2.1 fC.2.2.2.2.1 fC.2.2.2.2.2,rfl,qD⟩
theorem zeI_ {wi:TI}{j:Nat}{y:Str}{py eG:Pos}(hc:X.calm=xj)(S:CScope X scope cl lv fr)(hi:PI X tg iter wi)
  (hg:∀C fp s2 H2,PG (cxComp X scope cl C (cN lv fr) fp s2 H2) tg g) (ht:∀C fp s2 H2,PIf (cxComp X scope cl C (cN lv fr) fp s2 H2) ifs tt) (he:∀C fp s2 H2,PE (cxComp X scope cl C (cN lv fr) fp s2 H2) elt te)
  (hy:PG X (.Name y py) (gName j))
  (kJ:swapsWith (.ListComp elt [⟨tg,iter,ifs,0⟩] scope pos) (xg (.Name y py)) eG.line X.env=pure xj:=by rfl)
  (hs:∀x,foldedSetIterable iter X.env x=pure x:=by intro _;rfl):PS X (.Assign [.Name y py] (.ListComp elt [⟨tg,iter,ifs,0⟩] scope pos) eG) (tAsg (tComp lv fr wi g tt te) (gName j)):=by
 intro pins s σ H D I h;rw[exec_Assign_Name_used _ _ _ _ kJ];refine nJ (wpAny_standAt (nJ ?_));show oB _ X.A (do let _ <- comprehension (.ListComp elt [⟨tg,iter,ifs,0⟩] scope pos) scope X.env _ (newList []) xk (eval iter X.env) (xg (assign (.Name y py) X.env))) _ _ s
 refine nJ (pN (wpAny_comprehension_free (use:=xg (assign (.Name y py) X.env)) (Q:=λ_ s'=>SP X pins D .next s') rfl hs (zdW_ S.clos) S.kind S.names ?_) (λ_ s' hq=>nX (nX hq)) λ_ _ e=>e)
 refine thn (hi pins s σ H _ I h) λv s1 h1=>thn h1 λgh s2 h2=>?_
 obtain⟨it,fp,tn,J,H2,e,I2,T,bz,f2,q⟩:=h2;subst e;refine zdc_ I2 S T bz f2 hc hg ht he q λD' C oC H' s' J1 ir fC qD=>?_
 show oB _ X.A (assign (.Name y py) X.env (.ref D')) _ _ _
 refine thn (hy _ s' σ H' (.ref D') (.ref D') _ J1 rfl qD) λ_ s3 af=>?_
 obtain⟨bE,H3,I3,q3⟩:=af;have hp:=I3.pin (C,oC) (oj _ (oj _ (oE.mpr rfl)));obtain⟨m,hm⟩:=ir s3.heap hp.1;refine⟨m,hm,λh' cP=>?_⟩
 have fO:FpOk X pins H3 C:=⟨hp.2.1,fC.2⟩;exact⟨bE,H3,I3.unpinned.turned (t':=s3.toks) (λb o hb e=>(cP.2 b hb).trans e) fO.1 fO.2.1 fO.2.2.2.1 fO.2.2.2.2.1 fO.2.2.2.2.2,q3⟩
end
noncomputable abbrev tx (l:List Nat):V:=.str ⟨l.toArray⟩
def br (b:Bool)(A B:Prop):Prop:=(b=xj->A)/\(b=xk->B)
theorem zll_ (a b:Str):a++b=⟨(a.cps.toList++b.cps.toList).toArray⟩:=by
 cases a;cases b;show Str.mk (_++_)=_
 simp
theorem zcZ_ (a:Str):a=⟨a.cps.toList.toArray⟩:=by cases a;simp
def cutL (l:List Nat)(lo hi:Option Int):List Nat:=(l.drop (HT.sIx l.length 0 lo)).take (HT.sIx l.length l.length hi-HT.sIx l.length 0 lo)
theorem zbU_ (lo hi:Option Int)(n:Nat):qb lo hi 1 n=sliceRange ((HT.sIx n 0 lo:Nat):Int) ((HT.sIx n n hi:Nat):Int) 1:=by
 unfold qb;simp only[show(1:Int) > 0 by decide,if_true]
 congr 1
 ·cases lo with
  |none=>simp[HT.sIx]|some i=>
   simp only[HT.sIx];by_cases h:i<0
   ·simp only[h,if_true]<;>lia
   ·simp only[h,if_false]<;>lia
 ·cases hi with
  |none=>simp[HT.sIx]|some i=>
   simp only[HT.sIx];by_cases h:i<0
   ·simp only[h,if_true]<;>lia
   ·simp only[h,if_false]<;>lia
theorem zf5_ (x:Str)(lo hi:Option Int):(qb lo hi 1 x.length).filterMap (x.cps[·]?)=cutL x.cps.toList lo hi:=by
 rw[zbU_,sliceRange_one,pick_run];unfold cutL qw;simp only[qi]
theorem zcE_ (l:List Nat)(lo hi:Option Int):(cutL l lo hi).length<=l.length:=by
 unfold cutL;rw[oJ,pz];lia
theorem zhk_ {l:List Nat}{lo hi:Option Int}(h:(cutL l lo hi).length=l.length):cutL l lo hi=l:=by
 unfold cutL at h ⊢;rw[oJ,pz]at h;have h1:HT.sIx l.length l.length hi<=l.length:=HT.sIx_le _ _ (nZ _) _;by_cases hl:l.length=0
 ·have:l=[]:=pb.mp hl
  subst this;simp
 ·have h2:HT.sIx l.length 0 lo=0:=by lia
  rw[h2,rW,rg];lia
section
variable {X:Cx}
def rSlS:V->Option Int->Option Int->Hp->VK->Prop:=λx lo hi H Q=>match x with |.str z=>z.length<=oh/\Q (tx (cutL z.cps.toList lo hi)) H |_=>False
theorem zbx_ {v:nI}{o:Option Int}(p:IsPart v o):∃l:Option (Int×Tok),v=partValue l/\l.map (·.1)=o:=by
 cases p with
 |none=>exact⟨xh,rfl,rfl⟩|int i t=>exact⟨xg (i,t),rfl,rfl⟩
theorem zpE_:SlR X rSlS:=by
 intro pins s σ H x v vl vu lo hi sl Q I rx hs pl pu h;cases x with
 |str z=>
  obtain⟨hz,q⟩:=h;obtain⟨t,rfl⟩:=rx;obtain⟨l,rfl,rfl⟩:=zbx_ pl;obtain⟨u,rfl,rfl⟩:=zbx_ pu;refine⟨"str",_,F.slot_str_getitem.lookup,typeIs_str _ _ _,?_⟩;refine wpAny_getItem_str_slice (l:=l) (u:=u) (st:=xh) hs rfl ?_;unfold sliceMade;have e:slicePicked z l u xh=qb (l.map (·.1)) (u.map (·.1)) 1 z.length:=rfl;rw[e];have hlen:(qb (l.map (·.1)) (u.map (·.1)) 1 z.length).length=(cutL z.cps.toList (l.map (·.1)) (u.map (·.1))).length:=by
   rw[zbU_,sliceRange_one,nN,oW];unfold cutL;rw[oJ,pz];have h1:HT.sIx z.length z.length (u.map (·.1))<=z.length:=HT.sIx_le _ _ (nZ _) _;have h2:z.cps.toList.length=z.length:=by simp[qw]
   rw[h2];lia
  split
  ·rename_i hc
   have dG:(cutL z.cps.toList (l.map (·.1)) (u.map (·.1))).length=z.cps.toList.length:=by
    rw[<- hlen]
    simpa [qw]using hc
   rw[zhk_ dG]at q;have q':Q (.str z) H:=by rw[zcZ_ z];exact q
   exact⟨.str z,H,I,⟨_,rfl⟩,q'⟩
  ·rw[zf5_]
   have h3:=zcE_ z.cps.toList (l.map (·.1)) (u.map (·.1));have h2:z.cps.toList.length=z.length:=by simp[qw]
   refine⟨?_,tx (cutL z.cps.toList (l.map (·.1)) (u.map (·.1))),H,I.tok _,⟨_,rfl⟩,q⟩;show(cutL z.cps.toList (l.map (·.1)) (u.map (·.1))).toArray.size<=oh
   rw[nW];exact pX h3 (by rw[h2];exact hz)
 |_=>exact h.elim
end
def mVar (i:Nat):TE:=λσ H Q=>match σ[i]? with |some (xg v)=>Q v H |_=>False
section
variable {X:Cx}{a b c:oq}{ta tb tc:TE}{pos:Pos}
theorem zh5_ (i:Nat){x:Str}{pos:Pos}(hN:X.N[i]?=xg x:=by rfl)(hv:Vis X.env.scope x:=by first |exact Or.inl rfl |exact Or.inr (Or.inl rfl)|exact Or.inr (Or.inr rfl))(hd:(x==("__debug__":Str))=xk:=by decide)
  (bw:(x==("__classdict__":Str))=xk:=by decide):PE X (.Name x pos) (mVar i):=by
 intro pins s σ H Q I h;unfold mVar at h;cases e:σ[i]? with
 |none=>rw[e]at h;exact h.elim|some o=>
  rw[e]at h;cases o with
  |none=>exact h.elim|some v=>exact znW_ hN hv hd bw pins s σ H Q I ⟨v,e,h⟩
theorem znZ_ {x:Str}{l:List Nat}{j pos}(h:x=⟨l.toArray⟩:=by rfl):PE X (.Constant (.str x) j pos) (tC (tx l)):=h ▸ znJ_
def mAdd:R2:=λx y H Q=>match x,y with
 |.int i,.int j=>Q (.int (i+j)) H|.str a,.str b=>a.cps.toList.length+b.cps.toList.length<=oh/\Q (tx (a.cps.toList++b.cps.toList)) H|.ref a,.ref b=>∃xs zs,H a=xg (.lst xs)/\H b=xg (.lst zs)/\xs.length+zs.length<=oh/\∀p,H p=xh->Q (.ref p) (upd H p (.lst (xs++zs)))|_,_=>False
theorem zkc_:OpR X (qy .Add) mAdd:=by
 intro pins s σ H x y v u Q I rx ry h
 cases x<;>cases y<;>first
  |exact h.elim
  |exact zoQ_ pins s σ H _ _ v u Q I rx ry ⟨_,_,rfl,rfl,h⟩
  |exact zeW_ pins s σ H _ _ v u Q I rx ry ⟨_,_,rfl,rfl,by simpa [qw]using h.1,by rw[zll_];exact h.2⟩
  |(obtain⟨xs,zs,h1,h2,h3,h4⟩:=h;exact znT_ pins s σ H _ _ v u Q I rx ry ⟨_,_,xs,zs,rfl,rfl,h1,h2,h3,h4⟩)
def mI (C:Int->Int->Prop)(g:Int->Int->V):R2:=λx y H Q=>match x,y with |.int i,.int j=>C i j/\Q (g i j) H |_,_=>False
def mI0 (g:Int->Int->V):R2:=λx y H Q=>match x,y with |.int i,.int j=>Q (g i j) H |_,_=>False
theorem opM {f:nI->nI->Sem nI}{C:Int->Int->Prop}{g:Int->Int->V}(h:OpR X f (rI C g)):OpR X f (mI C g):=by
 intro pins s σ H x y v u Q I rx ry q;cases x<;>cases y<;>first |exact q.elim |exact h pins s σ H _ _ v u Q I rx ry ⟨_,_,rfl,rfl,q.1,q.2⟩
theorem opM0 {f:nI->nI->Sem nI}{g:Int->Int->V}(h:OpR X f (rI0 g)):OpR X f (mI0 g):=by
 intro pins s σ H x y v u Q I rx ry q;cases x<;>cases y<;>first |exact q.elim |exact h pins s σ H _ _ v u Q I rx ry ⟨_,_,rfl,rfl,q⟩
abbrev mSub:R2:=mI0 λi j=>.int (i-j)
abbrev mMod:R2:=mI (λ_ j=>0<j) λi j=>.int (i % j)
theorem zmw_:OpR X (qy .Sub) mSub:=opM0 zpR_
theorem zlI_:OpR X (qy .Mod) mMod:=opM zn9_
abbrev mLt:R2:=mI0 λi j=>.bl (decide (i<j))
abbrev mLe:R2:=mI0 λi j=>.bl (decide (i<=j))
abbrev mGt:R2:=mI0 λi j=>.bl (decide (j<i))
theorem zn1_:OpR X (oQ .Lt) mLt:=opM0 op_lt
theorem zp5_:OpR X (oQ .LtE) mLe:=opM0 op_le
theorem zoK_:OpR X (oQ .Gt) mGt:=opM0 op_gt
noncomputable def mIsB (x y:V):Option Bool:=match y with
 |.non=>xg (decide (x=.non))|.bl b=>(match x with |.bl a=>xg (decide (a=b))|_=>xh)|_=>xh
def mIs:R2:=λx y H Q=>match mIsB x y with |some b=>Q (.bl b) H |none=>False
def mIsNot:R2:=λx y H Q=>match mIsB x y with |some b=>Q (.bl (!b)) H |none=>False
theorem zig_ {M:Model}{A:ph}{E:nI->nO->Prop}{s:nO}{a b:Bool}{Q:nI->nO->Prop}(h:Q (.bool (decide (a=b))) s):oB M A (oQ .Is (.bool a) (.bool b)) Q E s:=by
 cases a<;>cases b<;>exact nX h
theorem zeo_ {M:Model}{A:ph}{E:nI->nO->Prop}{s:nO}{a b:Bool}{Q:nI->nO->Prop}(h:Q (.bool (!decide (a=b))) s):oB M A (oQ .IsNot (.bool a) (.bool b)) Q E s:=by
 cases a<;>cases b<;>exact nX h
theorem zpj_:OpR X (oQ .Is) mIs:=by
 intro pins s σ H x y v u Q I rx ry h;unfold mIs mIsB at h;cases y with
 |non=>exact znA_ pins s σ H x _ v u Q I rx ry ⟨rfl,h⟩|bl b=>
  cases x with
  |bl a=>cases rx;cases ry;exact zig_ ⟨.bl _,H,I,rfl,h⟩|_=>exact h.elim
 |_=>exact h.elim
theorem zgT_:OpR X (oQ .IsNot) mIsNot:=by
 intro pins s σ H x y v u Q I rx ry h;unfold mIsNot mIsB at h;cases y with
 |non=>exact zmf_ pins s σ H x _ v u Q I rx ry ⟨rfl,h⟩|bl b=>
  cases x with
  |bl a=>cases rx;cases ry;exact zeo_ ⟨.bl _,H,I,rfl,h⟩|_=>exact h.elim
 |_=>exact h.elim
noncomputable def inS (l:List Nat)(t:List Nat):Bool:=match l with |[c]=>decide (c∈t)|_=>!(rV ⟨t.toArray⟩ ⟨l.toArray⟩ 0 t.length 1).isEmpty
theorem zlg_ (a b:Str):(!(rV b a 0 b.length 1).isEmpty)=inS a.cps.toList b.cps.toList:=by
 have e:b.length=b.cps.toList.length:=by simp[qw]
 unfold inS;split
 ·rename_i c hc
  have ea:a=⟨#[c]⟩:=by rw[zcZ_ a,hc]
  rw[ea];exact StrLaws.found_one b c
 ·rw[<- zcZ_,<- zcZ_,e]
def mIn (K:Fgg)(neg:Bool):R2:=λx y H Q=>match y with
 |.str b=>(match x with |.str a=>Q (.bl (if neg then !inS a.cps.toList b.cps.toList else inS a.cps.toList b.cps.toList)) H |_=>False)|.ref p=>∃xs,(SqL K H p xs\/SqT K H p xs)/\flatV x=xj/\xs.all flatV=xj/\Q (.bl (if neg then !inV x xs else inV x xs)) H|_=>False
theorem zoc_:OpR X (oQ .In) (mIn X.K xk):=by
 intro pins s σ H x y v u Q I rx ry h;unfold mIn at h;cases y with
 |str b=>
  cases x with
  |str a=>exact zg9_ pins s σ H _ _ v u Q I rx ry ⟨_,_,rfl,rfl,by rw[zlg_];exact h⟩|_=>exact h.elim
 |ref p=>
  obtain⟨xs,h1,h2,h3,h4⟩:=h;exact zgm_ pins s σ H _ _ v u Q I rx ry ⟨_,xs,rfl,h1,h2,h3,h4⟩
 |_=>exact h.elim
def mTest (t:TE):TT:=λσ H Q=>t σ H λx H'=>match x with |.bl k=>Q k H' |_=>False
def mAndV (ta tb:TE):TE:=λσ H Q=>ta σ H λx H1=>match x with |.bl c=>br c (tb σ H1 Q) (Q (.bl xk) H1)|_=>False
def mOrV (ta tb:TE):TE:=λσ H Q=>ta σ H λx H1=>match x with |.bl c=>br c (Q (.bl xj) H1) (tb σ H1 Q)|_=>False
def mNotV (ta:TE):TE:=λσ H Q=>ta σ H λx H1=>match x with |.bl c=>Q (.bl (!c)) H1 |_=>False
def mAnd (t u:TT):TT:=λσ H Q=>t σ H λc H1=>br c (u σ H1 Q) (Q xk H1)
def mOr (t u:TT):TT:=λσ H Q=>t σ H λc H1=>br c (Q xj H1) (u σ H1 Q)
variable {rest:List oq}{tA fY:TT}
theorem zhU_ (ha:PE X a ta)(hb:PE X (.BoolOp .And (b::rest) pos) tb):PE X (.BoolOp .And (a::b::rest) pos) (mAndV ta tb):=by
 intro pins s σ H Q I h;refine BoolOp_and (thn (ha pins s σ H _ I h) λv s1 af=>?_)
 obtain⟨x,H1,I1,r1,q1⟩:=af;cases x with
 |bl c=>
  cases r1;refine pd ?_;cases c with
  |true=>exact hb pins s1 σ H1 Q I1 (q1.1 rfl)|false=>exact⟨.bl xk,H1,I1,rfl,q1.2 rfl⟩
 |_=>exact q1.elim
theorem zmE_ (ha:PE X a ta)(hb:PE X (.BoolOp .Or (b::rest) pos) tb):PE X (.BoolOp .Or (a::b::rest) pos) (mOrV ta tb):=by
 intro pins s σ H Q I h;refine BoolOp_or (thn (ha pins s σ H _ I h) λv s1 af=>?_)
 obtain⟨x,H1,I1,r1,q1⟩:=af;cases x with
 |bl c=>
  cases r1;refine pd ?_;cases c with
  |false=>exact hb pins s1 σ H1 Q I1 (q1.2 rfl)|true=>exact⟨.bl xj,H1,I1,rfl,q1.1 rfl⟩
 |_=>exact q1.elim
theorem zlp_ (ha:PE X a ta):PE X (.UnaryOp .Not a pos) (mNotV ta):=by
 intro pins s σ H Q I h;refine UnaryOp_ (thn (ha pins s σ H _ I h) λv s1 af=>?_)
 obtain⟨x,H1,I1,r1,q1⟩:=af;cases x with
 |bl c=>cases r1;exact not_of (pd ⟨.bl (!c),H1,I1,rfl,q1⟩)|_=>exact q1.elim
theorem zhF_ (ha:PT X a tA)(hb:PW X (.BoolOp .And (b::rest) pos) fY):PW X (.BoolOp .And (a::b::rest) pos) (mAnd tA fY):=by
 intro wh pins s σ H Q I h;refine isTrue_and (thn (ha pins s σ H _ I h) λc s1 af=>?_)
 obtain⟨H1,I1,q1⟩:=af;cases c with
 |true=>exact hb wh pins s1 σ H1 Q I1 (q1.1 rfl)|false=>exact⟨H1,I1,q1.2 rfl⟩
theorem zkW_ (ha:PT X a tA)(hb:PW X (.BoolOp .Or (b::rest) pos) fY):PW X (.BoolOp .Or (a::b::rest) pos) (mOr tA fY):=by
 intro wh pins s σ H Q I h;refine isTrue_or (thn (ha pins s σ H _ I h) λc s1 af=>?_)
 obtain⟨H1,I1,q1⟩:=af;cases c with
 |true=>exact⟨H1,I1,q1.1 rfl⟩|false=>exact hb wh pins s1 σ H1 Q I1 (q1.2 rfl)
theorem zlq_ {e:oq}{t:TE}(h:PE X e t)(he:∀whole,isTrue e X.env whole=(do let v <- whole;standAt e.pos;holding [v] (truthy v)):=by intro _;rfl):PT X e (mTest t):=by
 intro pins s σ H Q I hw;refine isTrue_plain (thn (h pins s σ H _ I hw) λv s1 af=>?_) (he _)
 obtain⟨x,H1,I1,r1,q1⟩:=af;cases x with
 |bl c=>cases r1;exact pd ⟨H1,I1,q1⟩|_=>exact q1.elim
theorem zkf_ {op:CmpOp}{r:R2}(ho:OpR X (oQ op) r)(ha:PE X a ta)(hb:PE X b tb)(hm:behindInMarks op b=xk:=by first |exact nobehind _ (by decide) (by decide)|rfl):PT X (.Compare a [op] [b] pos) (mTest (tOp r ta tb)):=by
 intro pins s σ H Q I hw;refine wpAny_isTrue_Compare1 (binT ha hb I hw λv u s2 x y H2 I2 rx ry q=>?_) hm
 refine thn (ho pins s2 σ H2 x y v u _ I2 rx ry q) λc s3 af=>?_
 obtain⟨z,H3,I3,r3,q3⟩:=af;cases z with
 |bl k=>cases r3;exact pd ⟨H3,I3,q3⟩|_=>exact q3.elim
theorem zld_ {op:CmpOp}{r:R2}(ho:OpR X (oQ op) r)(ha:PE X a ta)(hb:PE X b tb)(hm:behindInMarks op b=xk:=by first |exact nobehind _ (by decide) (by decide)|rfl):PE X (.Compare a [op] [b] pos) (tOp r ta tb):=zmM_ ho ha hb hm
def mIf (t:TT)(ta tb:TE):TE:=λσ H Q=>t σ H λc H1=>br c (ta σ H1 Q) (tb σ H1 Q)
theorem zps_ {c:oq}(hc:PT X c tA)(ha:PE X a ta)(hb:PE X b tb):PE X (.IfExp c a b pos) (mIf tA ta tb):=by
 intro pins s σ H Q I h;refine wpAny_IfExp (thn (hc pins s σ H _ I h) λd s1 af=>?_)
 obtain⟨H1,I1,q1⟩:=af;cases d with
 |true=>exact ha pins s1 σ H1 Q I1 (q1.1 rfl)|false=>exact hb pins s1 σ H1 Q I1 (q1.2 rfl)
def mIfS (c:TT)(t u:TS):TS:=λD σ H=>c σ H λb H1=>br b (t D σ H1) (u D σ H1)
theorem zi7_ {c:oq}{a b:List pM}{tc:TT}{t u:TS}(hc:PT X c tc)(ha:PSs X a t)(hb:PSs X b u):PS X (.If c a b pos) (mIfS tc t u):=by
 intro pins s σ H D I h;refine wpAny_If (thn (hc pins s σ H _ I h) λd s1 af=>?_)
 obtain⟨H1,I1,q1⟩:=af;cases d with
 |true=>exact ha pins s1 σ H1 D I1 (q1.1 rfl)|false=>exact hb pins s1 σ H1 D I1 (q1.2 rfl)
def mChain (r r':R2)(ta tb tc:TE):TE:=λσ H Q=>ta σ H λx H1=>tb σ H1 λy H2=>r x y H2 λz H3=>match z with |.bl k=>br k (tc σ H3 λw H4=>r' y w H4 Q) (Q (.bl xk) H3)|_=>False
theorem zgS_ {op aE:CmpOp}{r r':R2}(ho:OpR X (oQ op) r)(aL:OpR X (oQ aE) r')(ha:PE X a ta)(hb:PE X b tb)(hc:PE X c tc)
  (hm:lastMarks [op,aE] [b,c]=xk:=by with_unfolding_all rfl):PE X (.Compare a [op,aE] [b,c] pos) (mChain r r' ta tb tc):=by
 intro pins s σ H Q I h;refine Compare_chain (thn (ha pins s σ H _ I h) λv s1 ⟨x,H1,I1,r1,q1⟩=>chain_link (thn (hb pins s1 σ H1 _ I1 q1) λu s2 ⟨y,H2,I2,r2,q2⟩=>
  thn (ho pins s2 σ H2 x y v u _ I2 r1 r2 q2) λd s3 ⟨z,H3,I3,r3,q3⟩=>?_)) hm
 cases z with
 |bl k=>
  cases r3;refine pd ?_;cases k with
  |false=>exact ite_ff ⟨.bl xk,H3,I3,rfl,q3.2 rfl⟩|true=>exact ite_tt (chain_last (thn (hc pins s3 σ H3 _ I3 (q3.1 rfl)) λw' s4 ⟨z',H4,I4,r4,q4⟩=>aL pins s4 σ H4 y z' u w' Q I4 r2 r4 q4))
 |_=>exact q3.elim
theorem zhq_ {op aE:CmpOp}{r r':R2}(ho:OpR X (oQ op) r)(aL:OpR X (oQ aE) r')(ha:PE X a ta)(hb:PE X b tb)(hc:PE X c tc)
  (hm:lastMarks [op,aE] [b,c]=xk:=by with_unfolding_all rfl):PT X (.Compare a [op,aE] [b,c] pos) (mTest (mChain r r' ta tb tc)):=by
 intro pins s σ H Q I h;refine isTrue_chain (thn (ha pins s σ H _ I h) λv s1 ⟨x,H1,I1,r1,q1⟩=>test_link (thn (hb pins s1 σ H1 _ I1 q1) λu s2 ⟨y,H2,I2,r2,q2⟩=>
  thn (ho pins s2 σ H2 x y v u _ I2 r1 r2 q2) λd s3 ⟨z,H3,I3,r3,q3⟩=>?_)) hm
 cases z with
 |bl k=>
  cases r3;refine pd ?_;cases k with
  |false=>exact ite_ff ⟨H3,I3,q3.2 rfl⟩|true=>
   refine ite_tt (test_last (thn (hc pins s3 σ H3 _ I3 (q3.1 rfl)) λw' s4 ⟨z',H4,I4,r4,q4⟩=>thn (aL pins s4 σ H4 y z' u w' _ I4 r2 r4 q4) λd' s5 af=>?_))
   obtain⟨z2,H5,I5,r5,q5⟩:=af;cases z2 with
   |bl k2=>cases r5;exact pd ⟨H5,I5,q5⟩|_=>exact q5.elim
 |_=>exact q3.elim
end
section
variable {X:Cx}{a b c e:oq}{ta:TE}{t:TA}
def mIx (K:Fgg):R2:=λx y H Q=>match y with
 |.int i=>(match x with
  |.ref p=>∃xs,(SqL K H p xs\/SqT K H p xs)/\(match atI xs i with |some v=>Q v H |none=>False)|.str z=>z.cps.toList.length<=oh/\(match atI z.cps.toList i with |some c=>Q (tx [c]) H |none=>False)|_=>False)
 |_=>False
theorem ix_M:IxR X (mIx X.K):=by
 intro value slice pins s σ H x y v u Q I rx ry h gW;unfold mIx at h;cases y with
 |int i=>
  cases x with
  |ref p=>
   obtain⟨xs,hs,h⟩:=h;cases ev:atI xs i with
   |none=>rw[ev]at h;exact h.elim|some w'=>
    rw[ev]at h;rcases hs with hs |hs
    ·exact zj4_ value slice pins s σ H _ _ v u Q I rx ry ⟨p,xs,i,w',rfl,rfl,hs,ev,h⟩ gW
    ·exact znS_ value slice pins s σ H _ _ v u Q I rx ry ⟨p,xs,i,w',rfl,rfl,hs,ev,h⟩ gW
  |str z=>
   obtain⟨hz,h⟩:=h;cases ev:atI z.cps.toList i with
   |none=>rw[ev]at h;exact h.elim|some w'=>
    rw[ev]at h;exact zny_ value slice pins s σ H _ _ v u Q I rx ry ⟨z,i,w',rfl,rfl,by simpa [qw]using hz,ev,h⟩ gW
  |_=>exact h.elim
 |_=>exact h.elim
def mSl (K:Fgg):V->Option Int->Option Int->Hp->VK->Prop:=λx lo hi H Q=>match x with
 |.str z=>z.cps.toList.length<=oh/\Q (tx (cutL z.cps.toList lo hi)) H|.ref a=>∃xs,SqL K H a xs/\∀p,H p=xh->Q (.ref p) (upd H p (.lst (cutV xs lo hi)))|_=>False
theorem sl_M:SlR X (mSl X.K):=by
 intro pins s σ H x v vl vu lo hi sl Q I rx hs pl pu h;unfold mSl at h;cases x with
 |str z=>exact zpE_ pins s σ H _ v vl vu lo hi sl Q I rx hs pl pu ⟨by simpa [qw]using h.1,h.2⟩|ref p=>
  obtain⟨xs,h1,h2⟩:=h;exact zkB_ pins s σ H _ v vl vu lo hi sl Q I rx hs pl pu ⟨p,xs,rfl,h1,h2⟩
 |_=>exact h.elim
def mPart (t:TE):TO:=λσ H Q=>t σ H λx H1=>match x with |.int i=>Q (xg i) H1 |_=>False
theorem po_M (h:PE X e ta):PO X (xg e) (mPart ta):=by
 intro pins s σ H Q I hw;rw[evalPart_some];refine thn (h pins s σ H _ I hw) λu s1 af=>?_
 obtain⟨x,H1,I1,r1,q1⟩:=af;cases x with
 |int i=>obtain⟨t,rfl⟩:=r1;exact⟨xg i,H1,I1,.int i t,q1⟩|_=>exact q1.elim
def mLen (K:Fgg):List V->Hp->VK->Prop:=λxs H Q=>match xs with
 |[.str z]=>z.cps.toList.length<=oh/\Q (.int z.cps.toList.length) H|[.ref p]=>∃ys,(SqL K H p ys\/SqT K H p ys)/\Q (.int ys.length) H|_=>False
theorem zjb_ {K:Fgg}{xs:List V}{H:Hp}{Q:VK}(h:mLen K xs H Q):(∃z,xs=[.str z]/\z.cps.toList.length<=oh/\Q (.int z.cps.toList.length) H)\/∃p ys,xs=[.ref p]/\(SqL K H p ys\/SqT K H p ys)/\Q (.int ys.length) H:=by
 rcases xs with _ |⟨x,_ |⟨y,t⟩⟩
 ·exact oS h
 ·cases x with
  |str z=>exact .inl ⟨z,rfl,h⟩|ref p=>obtain⟨ys,h⟩:=h;exact .inr ⟨p,ys,rfl,h⟩|_=>exact oS h
 ·cases x<;>exact oS h
theorem zgg_:CallR X (.builtin "len") (mLen X.K):=by
 intro pins s σ H xs us Q I r h;rcases zjb_ h with⟨z,rfl,h⟩|⟨p,ys,rfl,h1,h2⟩
 ·exact zdv_ pins s σ H _ us Q I r ⟨_,rfl,by simpa [qw]using h.1,by simpa [qw]using h.2⟩
 ·exact zdl_ pins s σ H _ us Q I r ⟨_,ys,rfl,h1,h2⟩
def mTwo (g:Int->Int->Int):List V->Hp->VK->Prop:=λxs H Q=>match xs with |[.int i,.int j]=>Q (.int (g i j)) H |_=>False
theorem ziQ_ {g:Int->Int->Int}{xs:List V}{H:Hp}{Q:VK}(h:mTwo g xs H Q):∃i j,xs=[.int i,.int j]/\Q (.int (g i j)) H:=by
 rcases xs with _ |⟨x,_ |⟨y,_ |⟨w,t⟩⟩⟩
 ·exact oS h
 ·cases x<;>exact oS h
 ·cases x with
  |int i=>cases y with
   |int j=>exact⟨i,j,rfl,h⟩|_=>exact oS h
  |_=>exact oS h
 ·cases x with
  |int i=>cases y<;>exact oS h
  |_=>exact oS h
theorem zgl_ (hc:X.calm=xj):CallR X (.builtin "min") (mTwo min):=by
 intro pins s σ H xs us Q I r h;obtain⟨i,j,rfl,h⟩:=ziQ_ h;refine zgj_ hc pins s σ H _ us Q I r ⟨i,j,rfl,?_⟩;have e:(if j<i then j else i)=min i j:=by split<;>lia
 rw[e];exact h
def tyS (K:Fgg)(H:Hp):V->String->Prop:=λx T=>match x with
 |.non=>T="NoneType" |.bl _=>T="bool" |.int _=>T="int" |.str _=>T="str"
 |.ref p=>(T="list" /\ ∃xs,H p=xg (.lst xs))\/(T="tuple" /\ ∃xs,H p=xg (.tup xs))|_=>False
theorem zoP_ {K:Fgg}{H:Hp}{x:V}{T:String}(h:tyS K H x T):TyOf K H x (.type T):=by
 unfold tyS at h;cases x with
 |non=>subst h;exact .non|bl b=>subst h;exact .bl b|int i=>subst h;exact .int i|str z=>subst h;exact .str z|ref p=>
  rcases h with⟨rfl,xs,h⟩|⟨rfl,xs,h⟩
  ·exact .lst h
  ·exact .tup h
 |_=>exact h.elim
noncomputable def isaB (T c:String):Option Bool:=
 if T=c then xg xj else if T="bool" /\ c="int" then xg xj
 else if(T="bool" \/ T="int" \/ T="str" \/ T="list" \/ T="tuple" \/ T="NoneType")/\(c="bool" \/ c="int" \/ c="str" \/ c="list" \/ c="tuple" \/ c="dict")then xg xk else xh
theorem zky_ {K:Fgg}{T c:String}{b:Bool}(h:isaB T c=xg b):uK K (.type T) (.type c)=xg b:=by
 unfold isaB at h;split at h
 ·rename_i e;subst e;cases h
  unfold uK;rw[if_pos (by simp)]
 ·split at h
  ·rename_i e;obtain⟨rfl,rfl⟩:=e;cases h;rfl
  ·split at h
   ·rename_i h1 h2 e
    cases h;obtain⟨e1,e2⟩:=e;rcases e1 with rfl |rfl |rfl |rfl |rfl |rfl<;>rcases e2 with rfl |rfl |rfl |rfl |rfl |rfl<;>first |rfl |exact absurd rfl h1 |exact absurd ⟨rfl,rfl⟩ h2
   ·cases h
end
def Gd (P:oH)(w:oV)(K:Fgg)(mg:Str->Option nI)(base:Heap)(CX:CXT)(k:Nat)(x:Str)(ps:List Str)(sp:Sp):Prop:=
 ∃f fd,FnOk P w K mg base CX k f fd ps sp/\mg x=xg (.ref f)/\qT K (.ref f)=xj/\Binds K fd ps []
def Gc (mg:Str->Option nI)(x:Str)(v:V):Prop:=∃u,mg x=xg u/\RelV v u
abbrev Gb (mg:Str->Option nI)(x:Str):Prop:=mg x=xh
section
variable {X:Cx}{x:Str}{p pos:Pos}{e:oq}{es:List oq}{t:TA}{tg:oq}
theorem zpB_ {v:V}(h:Gc X.mg x v)(hg:Gl X x:=by rfl)(hd:(x==("__debug__":Str))=xk:=by decide):PE X (.Name x pos) (tC v):=by
 obtain⟨u,hm,r⟩:=h;exact zmo_ hg hm r hd
theorem pe_ty (T:String)(hm:Gb X.mg x)(hg:Gl X x:=by rfl)(hv:qA x=xg (.type T):=by rfl)(hn:x ≠ "__name__":=by decide)(hd:(x==("__debug__":Str))=xk:=by decide):PE X (.Name x pos) (tC (.ty T)):=
 zlr_ hg hm hv rfl hn hd
theorem zjt_ {id:String}{r:List V->Hp->VK->Prop}(hc:CallR X (.builtin id) r)(hm:Gb X.mg x)(ha:PA X (e::es) t)(hg:Gl X x:=by rfl)(hv:qA x=xg (.builtin id):=by rfl)(hn:x ≠ "__name__":=by decide)(aC:(x==("__debug__":Str))=xk:=by decide)
  (hs:oN (e::es) X.env=(xk,eval e X.env)::oN es X.env:=by rfl) (ax:(qJ pos (oN es X.env)).any (·.1)=xk:=by rfl):PE X (.Call (.Name x p) (e::es) [] pos) (tCB r t):=
 ziw_ hc hg hm hv ha hn aC hs ax
def iAny (K:Fgg)(tl:TE):TI:=λσ H R=>tl σ H λx H1=>match x with
 |.str z=>R (Itp z.cps.toList.length (λi=>tx [z.cps.toList.getD i 0])) H1|.ref a=>((∃xs,SqL K H1 a xs)/\R (Itl K a) H1)\/((∃xs,SqT K H1 a xs)/\R (Itt K a) H1)|_=>False
theorem zoq_ (z:Str):sgn z=λi=>tx [z.cps.toList.getD i 0]:=by
 funext i;unfold sgn;simp[rB,pT]
theorem zoR_ {l:oq}{tl:TE}(hl:PE X l tl):PI X tg l (iAny X.K tl):=by
 intro pins s σ H R I h;refine thn (hl pins s σ H _ I h) λv s1 af=>?_
 obtain⟨x,H1,I1,r1,q1⟩:=af;have pt:∀(v:V),PE X l (tC v)->PE X l (tC v):=λ_ h=>h
 cases x with
 |str z=>
  obtain⟨t,rfl⟩:=r1;refine wpAny_pyIter_strU ?_;have q:R (Itp z.cps.size (sgn z)) H1:=by
   have e:z.cps.toList.length=z.cps.size:=by simp
   rw[zoq_,<- e];exact q1
  refine⟨s1.heap.objs.size,[s1.heap.objs.size],_,_,H1,rfl,I1.kept (t':=s1.toks) λb o e=>nQ _ e,zjC_ _ z t,⟨qS _,⟨_,ox _ rfl,rfl,rfl⟩⟩,λb hb=>?_,q⟩
  have e:b=s1.heap.objs.size:=by simpa using hb
  subst e;exact I1.fpOk (nZ _) (I1.hok.fresh (nZ _))
 |ref a=>
  cases r1;rcases q1 with⟨⟨xs,hq⟩,q⟩|⟨⟨xs,hq⟩,q⟩
  ·obtain⟨aa,rv,p,hz⟩:=I1.list hq
   refine wpAny_pyIter_list p.isList ?_;refine⟨s1.heap.objs.size,[s1.heap.objs.size],_,_,H1,rfl,I1.kept (t':=s1.toks) λb o e=>nQ _ e,zgC_ a _,⟨_,ox _ rfl,rfl,rfl⟩,λb hb=>?_,q⟩
   have e:b=s1.heap.objs.size:=by simpa using hb
   subst e;exact I1.fpOk (nZ _) (I1.hok.fresh (nZ _))
  ·obtain⟨aa,rv,p,hz⟩:=I1.tuple hq
   refine wpAny_pyIter_tuple (show s1.heap.IsTuple a aa.toArray from p) ?_
   refine⟨s1.heap.objs.size,[s1.heap.objs.size],_,_,H1,rfl,I1.kept (t':=s1.toks) λb o e=>nQ _ e,zeS_ a _,⟨_,ox _ rfl,rfl,rfl⟩,λb hb=>?_,q⟩
   have e:b=s1.heap.objs.size:=by simpa using hb
   subst e;exact I1.fpOk (nZ _) (I1.hok.fresh (nZ _))
 |_=>exact q1.elim
def mRng1 (ta:TA):TI:=λσ H R=>ta σ H λvs H1=>match vs with |[.int j] => -(2 ^ 62)<=j/\j<2 ^ 62/\R (Itr 0 j.toNat) H1 |_=>False
end
section
variable {X:Cx}{tg:oq}
theorem ziN_ {a:oq}{ta:TA}{p pos:Pos}(hm:Gb X.mg "range")(ha:PA X [a] ta)(hg:Gl X "range":=by rfl)(hs:oN [a] X.env=[(xk,eval a X.env)]:=by rfl):PI X tg (.Call (.Name "range" p) [a] [] pos) (mRng1 ta):=by
 intro pins s σ H R I h;refine Call_ (zes_ I hg hm boot_range (qB (thn (ha pos pins s σ H _ I h) λus s1 af=>?_) hs rfl))
 obtain⟨vs,H1,I1,r1,q1⟩:=af
 try dsimp only at q1
 split at q1
 ·obtain⟨q2,q3,q⟩:=q1
  cases r1 with
  |cons r rr=>
   cases rr;obtain⟨t,rfl⟩:=r;exact call_range_1 (zjf_ I1 (by lia) (by lia) q2 q3 (by simpa using q))
 ·exact q1.elim
def gNilM:TGs:=λvs σ H Q=>match vs with |[]=>Q σ H |_=>False
def gConsM (t:TG)(u:TGs):TGs:=λvs σ H Q=>match vs with |v::r=>t v σ H λah H'=>u r ah H' Q |[]=>False
theorem zjP_:PGs X [] gNilM:=by
 intro pins s σ H vs us Q I r h;cases vs with
 |nil=>exact zmU_ pins s σ H [] us Q I r ⟨rfl,h⟩|cons _ _=>exact h.elim
theorem zgR_ {e:oq}{es:List oq}{t:TG}{u:TGs}(h1:PG X e t)(h2:PGs X es u)
  (hs:(p7 (e::es) X.env).map (·.2)=assign e X.env::(p7 es X.env).map (·.2):=by rfl):PGs X (e::es) (gConsM t u):=by
 intro pins s σ H vs us Q I r h;cases vs with
 |nil=>exact h.elim|cons v vr=>exact zjJ_ h1 h2 hs pins s σ H _ us Q I r ⟨v,vr,rfl,h⟩
def gTupM (K:Fgg)(n:Nat)(t:TGs):TG:=λv σ H Q=>match v with |.ref a=>∃xs,SqT K H a xs/\xs.length=n/\t xs σ H Q |_=>False
theorem zmk_ {es:List oq}{k:Nat}{t:TGs}{n:Nat}{pos:Pos}(hc:X.calm=xj)(h:PGs X es t)
  (hn:(p7 es X.env).length=n:=by rfl) (aS:(p7 es X.env).findIdx? (·.1)=xh:=by rfl):PG X (.Tuple es k pos) (gTupM X.K n t):=by
 intro pins s σ H v u Q I r hw;cases v with
 |ref a=>
  obtain⟨xs,h1,h2,h3⟩:=hw;exact zoT_ hc h hn aS pins s σ H _ u Q I r ⟨a,xs,rfl,h1,h2,h3⟩
 |_=>exact hw.elim
def mNeg (ta:TE):TE:=λσ H Q=>ta σ H λx H1=>match x with |.int i=>Q (.int (-i)) H1 |_=>False
theorem zob_ {a:oq}{ta:TE}{pos:Pos}(ha:PE X a ta):PE X (.UnaryOp .USub a pos) (mNeg ta):=by
 intro pins s σ H Q I h;refine UnaryOp_ (thn (ha pins s σ H _ I h) λv s1 af=>?_)
 obtain⟨x,H1,I1,r1,q1⟩:=af;cases x with
 |int i=>exact zn3_ pins s1 σ H1 _ v Q I1 r1 ⟨i,rfl,q1⟩|_=>exact q1.elim
end
theorem zC_ {H:Hp}{p:nR}(h:H p=xh)(o:HO):Same H (upd H p o):=λb u q=>by rw[zm_ (zS_ q h)];exact q
theorem zan_ {n:Nat}(h:n<=100000):n<=oh:=by rw[sizeLine_eq];lia
section
variable {X:Cx}
def mSet:TSet:=λo i v H Q=>match i with
 |.int k=>(match o with
  |.ref p=>∃xs,H p=xg (.lst xs)/\(match ixN xs.length k with |some j=>Q (upd H p (.lst (xs.set j v)))|none=>False)|_=>False)
 |_=>False
theorem set_M:PSet X mSet:=by
 intro pins s σ H o i v ov iv u Q I ro ri rv h;unfold mSet at h;cases i with
 |int k=>
  cases o with
  |ref p=>
   obtain⟨xs,h1,h⟩:=h;cases e:ixN xs.length k with
   |none=>rw[e]at h;exact h.elim|some j=>
    rw[e]at h;exact zi2_ pins s σ H _ _ v ov iv u Q I ro ri rv ⟨p,xs,k,j,rfl,rfl,h1,e,h⟩
  |_=>exact h.elim
 |_=>exact h.elim
def mZfill:V->List V->Hp->VK->Prop:=λx xs H Q=>match x,xs with |.str l,[.int i]=>PadOk i=xj/\Q (tx (Txt.zfill l i).cps.toList) H |_,_=>False
variable {x:Str}{p pos:Pos}{e:oq}{es:List oq}{t:TA}
theorem zo7_ (T:String){r:List V->Hp->VK->Prop}(hc:CallR X (.type T) r)(hm:Gb X.mg x)(ha:PA X (e::es) t)(hg:Gl X x:=by rfl)(hv:qA x=xg (.type T):=by rfl)(hn:x ≠ "__name__":=by decide)(aC:(x==("__debug__":Str))=xk:=by decide)
  (hs:oN (e::es) X.env=(xk,eval e X.env)::oN es X.env:=by rfl) (ax:(qJ pos (oN es X.env)).any (·.1)=xk:=by rfl):PE X (.Call (.Name x p) (e::es) [] pos) (tCB r t):=
 zgw_ hc hg hm hv ha hn aC hs ax
end
def Dc (x:nR)(d:Option nR)(h:Heap):Prop:=∃o,h.get? x=xg o/\o.dict=d/\∀vs,o.data=.fields vs->vs[2]?=xg .none
theorem zm2_ (o:vi)(f):(o.mapFields f).dict=o.dict:=by obtain⟨c,d,dt,sl⟩:=o;cases dt<;>rfl
section
variable {M:Model}{A:ph}{E:nI->nO->Prop}{s:nO}{base:Heap}{env:Env}{outer l:List Env}{L e:nR}{cls a0 fl:nI}{d:Option nR}{Q:Unit->nO->Prop}
theorem ent_d {oe:vi}{vs:Array nI}{head:nI}{nx:Bool}(bD:A.frames=xg (env::outer))(hl:s.heap.FunFrames base (env::outer))(hf:env.frame=xg L)(he:s.heap.get? e=xg oe)(bV:base.StaysIn s.heap)(cG:base.get? e=xh)(hd:oe.data=.fields vs)(hsz:1<vs.size)(h0:vs[0]?=xg a0)(bG:vs[2]?=xg .none)
  (k:∀h',uw base (env::outer) e oe.cls a0 (rawInt L) s.heap h'->Dc e oe.dict h'->Q () {s with heap:=h'}):
  oB M A (do let a <- frameOf env;let pl <- entryPlaceOf L nx;let b <- EntryCells.newEntry head a .none (rawInt L) .none pl;setField (.ref e) 1 b) Q E s:=by
 have out:e∉(env::outer).filterMap (·.frame):=λhm=>by obtain⟨_,o,ho,aG⟩:=hl.mem hm;cases he.symm.trans ho;exact aG vs hd
 refine nJ (wpAny_frameOf_fun bD hl hf λg1 so=>nJ (wpAny_entryPlaceOf λpl ax=>?_))
 unfold EntryCells.newEntry newFields;refine nJ (wpAny_newObj_type ?_ (ax.sizeOk5 _ _ _ _ _));have e1:g1.get? e=xg oe:=(so.2.1 e out).trans he;have b1:base.StaysIn g1:=λb o q=>(so.2.1 b λhm=>by have:=(hl.mem hm).1;rw[q]at this;cases this).trans (bV b o q)
 have ne:g1.objs.size≠e:=rf (ot e1)
 generalize lL:({cls:=.type "traceback",dict:=xh,data:=.fields ([head,.ref L,.none,rawInt L,.none]++(if pl.isEmpty then ou 6 qE else pl)).toArray}:vi)=ob
 have iZ:ob.data=.fields ([head,.ref L,.none,rawInt L,.none]++(if pl.isEmpty then ou 6 qE else pl)).toArray:=by rw[<- lL]
 have kf:ob.isFreed=xk:=rZ iZ;have e2:(g1.push ob).get? e=xg oe:=nQ ob e1;have d3:=sY hd (·.setIfInBounds 1 (pB g1.objs.size));have e3:=rY (rQ (·.setIfInBounds 1 (pB g1.objs.size))) e2 (rZ d3);have t3:((g1.push ob).update e (rQ (·.setIfInBounds 1 (pB g1.objs.size)))).get? g1.objs.size=xg ob:=(qf _ _ ne.symm).trans (ox g1 kf);have old:∀b o,b≠e->g1.get? b=xg o->((g1.push ob).update e (rQ (·.setIfInBounds 1 (pB g1.objs.size)))).get? b=xg o:=λb o hb q=>(qf _ _ hb.symm).trans (nQ ob q)
 have aR:∀b o,s.heap.get? b=xg o->(∀vs,o.data≠.fields vs)->b≠e:=λb o q aG z=>by rw[z,he]at q;cases q;exact aG vs hd
 refine wpAny_setField e2 hd hsz (k _ ⟨λb o q=>old b o (λz=>by rw[z,cG]at q;cases q) (b1 b o q),hl.of_keeps λb o q aG=>?_,?_,λb o q aG=>?_⟩ ⟨_,e3,zm2_ _ _,λws q=>by cases d3.symm.trans q;rw[rX (by decide)];exact bG⟩)
 ·obtain⟨sl,z⟩:=so.2.2 b o q;exact⟨_,old b _ (aR b o q aG) z,rfl⟩
 ·exact⟨_,_,_,_,_,e3,⟨Obj.cls_mapFields _ _,by rw[rX (by decide)];exact h0⟩,d3,by simp[hsz],b1.fresh,ne,t3,iZ,by first |(simp;done)|(rcases ax with rfl |⟨_,_,_,_,_,_,_,rfl⟩<;>simp)⟩
 ·obtain⟨sl,z⟩:=so.2.2 b o q;exact⟨sl,old b _ (aR b o q aG) z⟩
theorem fl_d (bV:base.StaysIn s.heap)(hl:s.heap.FunFrames base l)(ht:s.heap.TracedAtW base e cls a0 fl)(hD:Dc e d s.heap)
  (k:∀h',base.StaysIn h'->h'.FunFrames base l->h'.TracedW base e cls a0->s.heap.UpToSlots h'->Dc e d h'->Q () {s with heap:=h'}):oB M A (setFlight (.ref e) xh) Q E s:=by
 obtain⟨oe,vs,T,oT,ts,he,hc,hd,h1,hnT,hTe,hT,hdT,h3⟩:=ht;have jI:3<ts.size:=(qH.mp h3).1;have aj:∀b,b≠T->(s.heap.update T (rQ (·.setIfInBounds 3 ((xh:Option nR).elim qE λf=>rawInt f)))).get? b=s.heap.get? b:=λb z=>qf _ _ (rA z)
 have aR:∀b o,s.heap.get? b=xg o->(∀vs,o.data≠.fields vs)->b≠T:=λb o q aG z=>by rw[z,hT]at q;cases q;exact aG ts hdT
 unfold setFlight;refine nJ (p5 he hd h1 ?_);rw[if_pos (show(pB T != qE)=xj by simp)]
 refine wpAny_setField hT hdT jI (k _ (λb o q=>(aj b λz=>by rw[z,hnT]at q;cases q).trans (bV b o q)) (hl.of_keeps λb o q aG=>⟨o,(aj b (aR b o q aG)).trans q,rfl⟩) ?_ (λb o q aG=>⟨o.slots,(aj b (aR b o q aG)).trans q⟩) ?_)
 ·exact⟨oe,vs,T,_,_,(aj e hTe.symm).trans he,hc,hd,h1,hnT,hTe,rY _ hT (rZ (sY hdT _)),sY hdT _,by simp[jI]⟩
 ·obtain⟨o,q,z⟩:=hD;exact⟨o,(aj e hTe.symm).trans q,z⟩
theorem zmH_ {oe:vi}{vs:Array nI}(bD:A.frames=xg (env::outer))(hl:s.heap.FunFrames base (env::outer))(hf:env.frame=xg L)(he:s.heap.get? e=xg oe)(bV:base.StaysIn s.heap)(cG:base.get? e=xh)(hd:oe.data=.fields vs)(h1:vs[1]?=xg .none)(h0:vs[0]?=xg a0)(bG:vs[2]?=xg .none)
  (k:∀h',uw base (env::outer) e oe.cls a0 (rawInt L) s.heap h'->Dc e oe.dict h'->Q () {s with heap:=h'}):oB M A (noteFrame (.ref e) env) Q E s:=by
 unfold noteFrame;simp only[hf];refine nJ (p5 he hd h1 ?_);rw[if_neg (by decide)]
 exact ent_d bD hl hf he bV cG hd (qH.mp h1).1 h0 bG k
theorem zf7_ (bD:A.frames=xg (env::outer))(hl:s.heap.FunFrames base (env::outer))(hf:env.frame=xg L)(ht:s.heap.TracedW base e cls a0)(bV:base.StaysIn s.heap)(cG:base.get? e=xh)(hD:Dc e d s.heap)
  (k:∀h',uw base (env::outer) e cls a0 (rawInt L) s.heap h'->Dc e d h'->Q () {s with heap:=h'}):oB M A (noteFrame (.ref e) env) Q E s:=by
 obtain⟨oe,vs,T,oT,ts,he,⟨rfl,h0⟩,hd,h1,hnT,hTe,hT,hdT,h3⟩:=ht;obtain⟨rfl,hx⟩:oe.dict=d/\vs[2]?=xg .none:=by obtain⟨o,q,z,z2⟩:=hD;cases he.symm.trans q;exact⟨z,z2 _ hd⟩
 unfold noteFrame;simp only[hf];refine nJ (p5 he hd h1 ?_);rw[if_pos (show(pB T != qE)=xj by simp)]
 refine nJ (p5 hT hdT h3 ?_);rw[if_neg (show¬((qE == rawInt L)=xj) by simp[rawInt])];refine nJ (wpAny_setField hT hdT (qH.mp h3).1 ?_)
 have aj:∀b,b≠T->(s.heap.update T (rQ (·.setIfInBounds 3 qE))).get? b=s.heap.get? b:=λb z=>qf _ _ (rA z)
 have aR:∀b o,s.heap.get? b=xg o->(∀vs,o.data≠.fields vs)->b≠T:=λb o q aG z=>by rw[z,hT]at q;cases q;exact aG ts hdT
 refine ent_d (s:={s with heap:=s.heap.update T (rQ (·.setIfInBounds 3 qE))}) bD (hl.of_keeps λb o q aG=>⟨o,(aj b (aR b o q aG)).trans q,rfl⟩) hf ((aj e hTe.symm).trans he) (λb o q=>(aj b λz=>by rw[z,hnT]at q;cases q).trans (bV b o q)) cG hd (qH.mp h1).1 h0 hx
  λh' ⟨x1,x2,x3,x4⟩ dd=>k h' ⟨x1,x2,x3,λb o q aG=>x4 b o ((aj b (aR b o q aG)).trans q) aG⟩ dd
theorem zc2_ {h h1 h2:Heap}(n:uw base l e cls a0 fl h h1)(a:base.StaysIn h2)(b:h2.FunFrames base l)(c:h2.TracedW base e cls a0)(u:h1.UpToSlots h2):uG base l e cls a0 h h2:=
 ⟨a,b,c,λx o q aG=>by obtain⟨sl,z⟩:=n.2.2.2 x o q aG;obtain⟨cu,z'⟩:=u x _ z aG;exact⟨cu,z'⟩⟩
theorem zi3_ {oe:vi}{vs:Array nI}(bD:A.frames=xg (env::outer))(hl:s.heap.FunFrames base (env::outer))(hf:env.frame=xg L)(he:s.heap.get? e=xg oe)(bV:base.StaysIn s.heap)(cG:base.get? e=xh)(hd:oe.data=.fields vs)(h1:vs[1]?=xg .none)(h0:vs[0]?=xg a0)(bG:vs[2]?=xg .none)
  (k:∀h',uG base (env::outer) e oe.cls a0 s.heap h'->Dc e oe.dict h'->Q () {s with heap:=h'}):oB M A (leaving env (.ref e)) Q E s:=by
 unfold leaving;refine nJ (zmH_ bD hl hf he bV cG hd h1 h0 bG λh' n dd=>?_)
 exact fl_d n.1 n.2.1 n.2.2.1 dd λh2 a b c u dd=>k h2 (zc2_ n a b c u) dd
theorem zii_ (bD:A.frames=xg (env::outer))(hl:s.heap.FunFrames base (env::outer))(hf:env.frame=xg L)(ht:s.heap.TracedW base e cls a0)(bV:base.StaysIn s.heap)(cG:base.get? e=xh)(hD:Dc e d s.heap)
  (k:∀h',uG base (env::outer) e cls a0 s.heap h'->Dc e d h'->Q () {s with heap:=h'}):oB M A (leaving env (.ref e)) Q E s:=by
 unfold leaving;refine nJ (zf7_ bD hl hf ht bV cG hD λh' n dd=>?_)
 exact fl_d n.1 n.2.1 n.2.2.1 dd λh2 a b c u dd=>k h2 (zc2_ n a b c u) dd
end
def XAt (x C:nR)(d:Option nR)(h:Heap):Prop:=∃o vs,h.get? x=xg o/\o.cls=.ref C/\o.dict=d/\o.data=.fields vs/\vs[2]?=xg .none
noncomputable abbrev XO (x C:nR)(d:Option nR):HO:=.ext (XAt x C d)
theorem xo_ok {P:oH}{w:oV}{H:Hp}{x C:nR}{d:Option nR}{h:Heap}(q:XAt x C d h):ObjOk P w H h x (XO x C d):=by
 obtain⟨o,vs,a,b⟩:=q;exact⟨⟨o,vs,a,b⟩,⟨o,a⟩,λh1 h2 ⟨o,vs,z1,z2⟩ k=>⟨o,vs,k o z1,z2⟩⟩
def DAt (dx:nR)(fs:List (Str×V))(h:Heap):Prop:=∃mA,h.Ns1 dx mA/\(∀f,RelO (fs.lookup f) (mA f))/\tV mA (fs.map (·.1))
abbrev XDO (dx:nR)(fs:List (Str×V)):HO:=.ext (DAt dx fs)
structure FlyX (x T C:nR)(d:Option nR)(H:Hp)(hb h:Heap):Prop where
 obj:∃oe vs a0 oT ts,h.get? x=xg oe/\(oe.cls=.ref C/\vs[0]?=xg a0)/\oe.data=.fields vs/\vs[1]?=xg (.ref T)/\T≠x/\h.get? T=xg oT/\oT.data=.fields ts/\ts[3]?=xg .none
 dc:Dc x d h
 hx:H x=xh
 hT:H T=xh
 nx:hb.get? x=xh
 nT:hb.get? T=xh
def CXx (P:oH)(w:oV):CXT:=λouter H s E e s'=>∃x T C d H',e=.ref x/\s'.os=s.os/\AllBare s'.gens/\Un (frs outer) [] H H' s.heap s'.heap/\HOk P w H' s'.heap /\
 FlyX x T C d H' s.heap s'.heap/\E (.ref C) d H'
theorem passX0 {P:oH}{w:oV}{X:Cx}:Passes (CXx P w) X E0:=λ_ _ _ _ _ _ _ h=>by
 obtain⟨_,_,_,_,_,_,_,_,_,_,_,h⟩:=h;exact h.elim
theorem HOk.at_ {P:oH}{w:oV}{H:Hp}{h:Heap}{a:nR}{o:HO}(x:HOk P w H h)(e:H a=xg o):∃u,h.get? a=xg u:=by
 have q:=x a o e;clear e x;induction o with
 |lst xs=>obtain⟨_,_,_,_,e⟩:=q;exact⟨_,e⟩|tup xs=>obtain⟨_,_,_,o,e,_⟩:=q;exact⟨_,e⟩|dK kvs=>obtain⟨_,_,_,_,o,_,_,e,_⟩:=q;exact⟨_,e⟩|dT kvs=>obtain⟨_,_,_,_,o,_,_,e,_⟩:=q;exact⟨_,e⟩|set S n=>obtain⟨o,_,_,_,e,_⟩:=q;exact⟨_,e⟩|ins C dx fs=>obtain⟨_,_,_,e,_⟩:=q;exact⟨_,e⟩|own y=>obtain⟨_,e⟩:=q;exact⟨_,e⟩|xd fs=>obtain⟨_,⟨_,_,_,e,_⟩,_⟩:=q;exact⟨_,e⟩|rng lo hi=>obtain⟨_,_,_,e⟩:=q;exact⟨_,e⟩|frz ob u _=>obtain⟨e,_⟩:=q;exact⟨_,e⟩|tbl p q'=>obtain⟨_,e,_⟩:=q;exact⟨_,e⟩|met f y=>exact⟨_,(show h.get? a=xg _ from q)⟩|ext φ=>obtain⟨_,⟨_,e⟩,_⟩:=q;exact⟨_,e⟩
theorem HOk.none_at {P:oH}{w:oV}{H:Hp}{h:Heap}{a:nR}(x:HOk P w H h)(e:h.get? a=xh):H a=xh:=by
 cases q:H a with
 |none=>rfl|some o=>
  obtain⟨u,z⟩:=x.at_ q;rw[e]at z;cases z
section
variable {X:Cx}{pins:Pnn}{σ:St}{H:Hp}{s:nO}
theorem zpc_ (aS:X.stack=X.env::X.outer){b:nR}(h:b∈X.fs):b∈frs X.stack:=by
 rw[aS];unfold Cx.fs frs at *;rw[rM];split
 ·exact h
 ·exact nY _ h
theorem zdT_ (I:Inv X pins σ H s)(aS:X.stack=X.env::X.outer)(hex:X.ex=[]){x C:nR}{a0:nI}{ex:List nR}{h2:Heap}(dX:∀b∈ex,H b=xh/\X.s₀.heap.get? b=xh)(hx:x∈ex)
  {d:Option nR}(L:uG (tL s.heap (frs X.stack++ex)) X.stack x (.ref C) a0 s.heap h2) (dd:Dc x d h2):
  ∃T,Un (frs X.outer) [] X.H₀ H X.s₀.heap h2/\HOk X.prog X.w H h2/\FlyX x T C d H X.s₀.heap h2:=by
 obtain⟨st,ff,⟨oe,vs,T,oT,ts,he,hc,hd,h1,hnT,hTe,hT,hdT,h3⟩,up⟩:=L;have eR:∀b:nR,b∉X.ex:=λb z=>by rw[hex]at z;cases z
 have aF:∀b o,s.heap.get? b=xg o->b∉frs X.stack->b∉ex->h2.get? b=xg o:=λb o q n1 n2=>st b o (tF _ q λz=>(oP.mp z).elim n1 n2)
 have aN:∀b o,s.heap.get? b=xg o->b∈frs X.stack->∃sl,h2.get? b=xg {o with slots:=sl}:=λb o q hb=>up b o q (by
  obtain⟨_,o',q',d⟩:=I.stack.mem hb;cases q.symm.trans q';exact d)
 have gH:∀b o,X.s₀.heap.get? b=xg o->b≠X.env.locals:=λb o q=>oR (oO (ot q) I.ok.above)
 have eM:∀b o,X.s₀.heap.get? b=xg o->b∉ex:=λb o q z=>by
  have:=(dX b z).2;rw[q]at this;cases this
 have gI:∀b o,X.s₀.heap.get? b=xg o->b∉X.fs->b∉frs X.stack:=λb o q n z=>by
  rcases og.mp (I.stkSub b z)with e |e
  ·exact gH b o q e
  ·exact n e
 have young:∀b,s.heap.get? b=xh->X.s₀.heap.get? b=xh:=λb q=>by
  cases e:X.s₀.heap.get? b with
  |none=>rfl|some o=>
   obtain⟨o',z⟩:=I.base.there b o e (eR b);rw[q]at z;cases z
 refine⟨T,⟨λb o q n hb _=>?_,λb o q n hb _=>?_,λb o q n _=>I.base.free b o q n (eR b),λb o q _=>?_,I.base.tups,I.base.frzs,I.base.tbls⟩,λa o e=>?_,⟨oe,vs,a0,oT,ts,he,hc,hd,h1,hTe,hT,hdT,h3⟩,dd,(dX x hx).1,?_,(dX x hx).2,?_⟩
 ·exact aF b o (I.base.keep b o q n hb (eR b)) (gI b o q hb) (eM b o q)
 ·obtain⟨sl,e⟩:=I.base.slot b o q n hb (eR b)
  obtain⟨cu,e'⟩:=aN b _ e (zpc_ aS hb);exact⟨cu,e'⟩
 ·obtain⟨o',e⟩:=I.base.there b o q (eR b)
  by_cases hb:b∈frs X.stack
  ·obtain⟨cu,e'⟩:=aN b _ e hb
   exact⟨_,e'⟩
  ·exact⟨o',aF b o' e hb (eM b o q)⟩
 ·refine(I.hok a o e).stay (λb u hb q=>?_) (λ_ q=>q) λ_ _ q=>q
  have tr:∃o,H b=xg o:=by
   rcases hb with rfl |hb
   ·exact⟨_,e⟩
   ·exact⟨_,hb⟩
  obtain⟨ob,tr⟩:=tr;refine aF b u q (λz=>?_) λz=>?_
  ·rw[I.stkFree b z]at tr;cases tr
  ·rw[(dX b z).1]at tr;cases tr
 all_goals
  by_cases hTx:T∈ex
  ·first |exact(dX T hTx).1 |exact(dX T hTx).2
  by_cases hTf:T∈frs X.stack
  ·obtain⟨_,o',q',d⟩:=I.stack.mem hTf
   obtain⟨sl,e'⟩:=aN T o' q' hTf;rw[hT]at e';cases e';exact absurd hdT (d ts)
  have q:s.heap.get? T=xh:=by
   cases e:s.heap.get? T with
   |none=>rfl|some o=>
    rw[tF _ e λz=>(oP.mp z).elim hTf hTx]at hnT
    cases hnT
  first |exact I.hok.none_at q |exact young T q
end
section
variable {P:oH}{w:oV}{K:Fgg}{mg:Str->Option nI}{base:Heap}{N:List Str}{qual:Str}{scope:Scope}{f:nR}{cd:nI}{A:ph}{outer:List Env}{s0:nO}{H0:Hp}{E:XK}
theorem zgr_ {l:List Env}{more:List nR}:∀env∈l,∀a,env.frame=xg a->a∈frs l++more:=λenv he a hf=>qQ _ (sV.mpr ⟨env,he,hf⟩)
def Takes (X:Cx)(E:XK):Prop:=∀(pins:Pnn) (σ:St) (H:Hp) (s:nO) (x C:nR) (oe:vi) (vs:Array nI) (a0:nI),Inv X pins σ H s->H x=xh->X.s₀.heap.get? x=xh->s.heap.get? x=xg oe->oe.cls=.ref C->oe.data=.fields vs->vs[1]?=xg .none->vs[0]?=xg a0->vs[2]?=xg .none->E (.ref C) oe.dict H->X.xe (.ref x) s
theorem ziq_:Takes (cxOf (CXx P w) P w K mg base N qual scope f cd A outer s0 H0 E) E:=by
 intro pins σ H s x C oe vs a0 I hx ku he hc hd h1 h0 bG hE;show oB _ _ (leaving _ _) _ _ _
 refine zi3_ (base:=tL s.heap (frs (envOfC qual scope s0.heap.objs.size f cd::outer)++[x])) (a0:=a0) I.ok.frames (sj I.stack zgr_) rfl he (λb o q=>sO _ q)
  (qc _ (oj _ nV)) hd h1 h0 bG λh2 L dd=>?_
 rw[hc]at L;obtain⟨T,u,ok,aH⟩:=zdT_ (ex:=[x]) I rfl rfl (λb hb=>by
  rw[oE.mp hb];exact⟨hx,ku⟩) nV L dd
 exact⟨x,T,C,_,H,rfl,I.os,I.bare,u,ok,aH,hE⟩
theorem Takes.made {X:Cx}(hT:Takes X E){pins:Pnn}{σ:St}{H:Hp}{s:nO}{h:Heap}{x C:nR}{args:List nI}(I:Inv X pins σ H s)(hex:X.ex=[])(hx:Heap.MadeExcOf s.heap h x (.ref C) args)(hE:E (.ref C) xh H):X.xe (.ref x) {s with heap:=h}:=by
 obtain⟨t,he,htn,ht⟩:=hx.there;refine hT pins σ H {s with heap:=h} x C _ _ _ (I.kept (t':=s.toks) hx.keeps) (I.hok.none_at hx.new) ?_ he rfl rfl rfl rfl rfl hE;cases e:X.s₀.heap.get? x with
 |none=>rfl|some o=>
  obtain⟨o',z⟩:=I.base.there x o e (λz=>by rw[hex]at z;cases z)
  rw[hx.new]at z;cases z
theorem zgs_:Passes (CXx P w) (cxOf (CXx P w) P w K mg base N qual scope f cd A outer s0 H0 E) E:=by
 intro pins σ H s e s' I h;obtain⟨x,T,C,d,H',rfl,os,bare,un,ok,aH,hE⟩:=h;have I1:Inv (cxOf (CXx P w) P w K mg base N qual scope f cd A outer s0 H0 E) pins σ H' s':=I.call' (ch:=[]) os un ok bare (λb z=>absurd z (by simp))
 obtain⟨oe,vs,a0,oT,ts,he,hc,hd,h1,hTe,hT,hdT,h3⟩:=aH.obj;show oB _ _ (leaving _ _) _ _ _
 refine zii_ (base:=tL s'.heap (frs (envOfC qual scope s0.heap.objs.size f cd::outer)++[x,T])) (cls:=.ref C) (a0:=a0) I.ok.frames (sj I1.stack zgr_) rfl
  ⟨oe,vs,T,oT,ts,he,hc,hd,h1,qc _ (oj _ (nY _ nV)),hTe,hT,hdT,h3⟩ (λb o q=>sO _ q)
  (qc _ (oj _ nV)) aH.dc λh2 L dd=>?_
 have old:∀b,s.heap.get? b=xh->s0.heap.get? b=xh:=λb q=>by
  cases e:s0.heap.get? b with
  |none=>rfl|some o=>
   obtain⟨o',z⟩:=I.base.there b o e (λz=>nomatch z)
   rw[q]at z;cases z
 obtain⟨T2,u,az,fly2⟩:=zdT_ (ex:=[x,T]) I1 rfl rfl (λb hb=>by
  rcases og.mp hb with rfl |hb
  ·exact⟨aH.hx,old _ aH.nx⟩
  ·rw[oE.mp hb]
   exact⟨aH.hT,old _ aH.nT⟩) nV L dd
 exact⟨x,T2,C,d,H',rfl,I1.os,I1.bare,u,az,fly2,hE⟩
end
noncomputable abbrev bmV:List nI:=[.type "ValueError",.type "Exception",.type "BaseException",.type "object"]
def excK (K:Fgg)(C:nR):Bool:=W.excIn K C bmV "ValueError.__new__"
def gA (K:Fgg)(x:Str):nR:=match qu K oI x with |some (xg (.ref c))=>c |_=>0
theorem zhG_ {K:Fgg}{x:Str}{c:nR}(h:qu K oI x=xg (xg (.ref c))):gA K x=c:=by unfold gA;rw[h]
theorem zl9_ {K:Fgg}{h:Heap}{C:nR}(kin:K.In h)(q:excK K C=xj):
  ∃nm qn N bs bm hd sn sub ab col dd k0 k1 k2 k3 k5 mN,h.get? C=xg (excClassObj nm qn C N bs bm hd sn sub ab col dd k0 k1 k2 k3 k5 "ValueError.__new__")/\h.Ns N mN/\mN "__init__"=xh/\OwnTail h bmV bm:=by
 unfold excK W.excIn at q;split at q
 case h_2=>cases q
 case h_1 dx cx slx at1=>
  split at q
  case h_2=>cases q
  case h_1 Cx tl y0 y1 y2 y3 yn y5 m1 m2=>
   rw[aW,aW,aW,aW,aW]at q;obtain⟨⟨⟨⟨⟨q1,q2⟩,q3⟩,q4⟩,q5⟩,q6⟩:=q;replace q1:=beq_iff_eq.mp q1;replace q2:=beq_iff_eq.mp q2;replace q6:=beq_iff_eq.mp q6;replace q3:cx.hasDel=xk:=by simpa using q3
   subst q1 q2;cases cx;dsimp only at m1 q3 q5 q6;subst m1 q3;cases slx;dsimp only at m2;subst m2;exact⟨_,_,_,_,tl,_,_,_,_,_,dx,y0,y1,y2,y3,y5,_,kin _ _ at1,.of_isNs (W.isNs_of_in kin q5),W.nsMap_none_of_in kin q5 q6,W.tail_of_in kin q4⟩
section
variable {X:Cx}{E:XK}{C:nR}{x:Str}{e:oq}{es:List oq}{t:TA}{np au pos:Pos}
def tRaise (C:nR)(E:XK)(t:TA):TS:=λ_ σ H=>t σ H λvs H1=>vs.length<=100/\E (.ref C) xh H1
theorem zir_ (hT:Takes X E)(lD:X.calm=xj)(hq:excK X.K C=xj)(hm:X.mg x=xg (.ref C))(ha:PA X (e::es) t)(hg:Gl X x:=by rfl)(aC:(x==("__debug__":Str))=xk:=by decide)
  (he:oN (e::es) X.env=(xk,eval e X.env)::oN es X.env:=by rfl) (ax:(qJ au (oN es X.env)).any (·.1)=xk:=by rfl) (hex:X.ex=[]:=by rfl):
  PS X (.Raise (xg (.Call (.Name x np) (e::es) [] au)) xh pos) (tRaise C E t):=by
 intro pins s σ H D I h;obtain⟨nm,qn,N,bs,bm,hd,sn,sub,ab,col,dd,k0,k1,k2,k3,k5,mN,hC,hN,gZ,TL⟩:=zl9_ I.ok.mod.kin hq
 refine wpAny_Raise_call_subU (C:=C) (nm:=nm) (q:=qn) (N:=N) (bs:=bs) (bm:=bm) (hdct:=hd) (sn:=sn) (sub:=sub) (ab:=ab) (col:=col) (dd:=dd) (k0:=k0) (k1:=k1) (k2:=k2) (k3:=k3) (k5:=k5)
  sZ (by decide) sZ (mN:=mN) (TL.hasType rfl) (I.ok.hd lD) (by rw[he];show(xk ||(qJ au (oN es X.env)).any (·.1))=xk;rw[ax];rfl) gZ (zbi_ I hg hm ⟨rfl,?_⟩ aC)
 have h2:=ha au pins s σ H _ I h;rw[he]at h2 ⊢;refine Calls.evalArgs_plain (pN h2 (λus s1 q=>?_) λ_ _ y=>y)
 obtain⟨vs,H1,I1,r,hl,q⟩:=q;refine⟨rfl,?_,I1.bk _ _ hC,hN.keeps I1.bk,TL.keeps I1.bk,λh' a fh=>hT.made I1 hex fh q⟩
 show us.length<=oh
 rw[<- r.length];exact pX hl (by rw[sizeLine_eq];decide)
end
def isaK (K:Fgg)(D:nR)(c:nI):Option Bool:=
 if(qo K (.ref D) "__getattribute__"==xg (xg (.builtin "BaseException.__getattribute__")) && qo K (.ref D) "__getattr__"==xg xh && uz K D (.type "BaseException")==xg xj) && sr K D && qo K (.ref D) "__class__"==xg (xg (.builtin "object.__class__")) && tq K (.builtin "object.__class__") "__get__"==xg (xg (.builtin "getset_descriptor.__get__"))
  && W.takesIn K (.builtin "object.__class__")==xg xj && uz K D (.type "object")==xg xj then uK K (.ref D) c else xh
end L2
namespace LX
open PySem PySem.W PySem.Calls PyProof.Rows Builtin Builtin.ObjectAttr Builtin.Getset_descriptor
section
variable {prog:oH}{w:oV}{A:ph}{K:Frag}{x D:nR}{dc:Option nR}
theorem ty_x {M:Model}{h:Heap}(I:L2.XAt x D dc h):Looks M h (typeOf (.ref x)) (.ref D):=by
 obtain⟨o,_,e,c,_⟩:=I;exact c ▸ (Looks.ld e).andThen .now
theorem zjL_ {M:Model}{E:nI->nO->Prop}{s:nO}{cM:nI}{Q:Unit->nO->Prop}(T0:Looks M s.heap (typeOf (.ref x)) (.ref D))(T8:Looks M s.heap (isSubtype (.ref D) (.type "BaseException")) xj)(hq:Q () s):
  oB M A (checkBuiltinCall "BaseException.__getattribute__" ⟨[.ref x,cM],[]⟩) Q E s:=by
 have hk:builtinKind "BaseException.__getattribute__"=xg .slot:=by decide +kernel
 have de:splitId "BaseException.__getattribute__"=xg ("BaseException", "__getattribute__"):=by decide +kernel
 have jA:=F.args_bexc_ga (.ref x) cM;simp only[checkBuiltinCall,hk,de];refine nJ ?_;unfold isInstance;cases s with
 |mk hp gs dr tk ost=>
 refine nJ (T0.at (T8.at ?_))
 repeat(first |assumption |wp_step)
theorem ziU_ {E:nI->nO->Prop}{s:nO}{Q:Option nI->nO->Prop}(ie:findIn K (.ref D) "__getattribute__"=xg (xg (.builtin "BaseException.__getattribute__")))(dC:findIn K (.ref D) "__getattr__"=xg xh)
  (ha:findIn K (.ref D) "__class__"=xg (xg (.builtin "object.__class__")))
  (hn:specialIn K (.builtin "object.__class__") "__get__"=xg (xg (.builtin "getset_descriptor.__get__"))) (d8:takesIn K (.builtin "object.__class__")=xg xj) (hm:mroIn K D (.type "object")=xg xj) (hb:mroIn K D (.type "BaseException")=xg xj)
  (kin:K.In s.heap) (I:L2.XAt x D dc s.heap) (h:Q (xg (.ref D)) {s with toks:=s.toks+1}):oB (model prog w) A (getAttr? (.ref x) "__class__") Q E s:=by
 cases s with
 |mk hp gs dr tk ost=>
 have T0:=ty_x (M:=model prog w) I;have T1:=looks_findIn (M:=model prog w) kin ie;have T2:=looks_findIn (M:=model prog w) kin dC;have T3:=looks_findIn (M:=model prog w) kin ha;have T4:=looks_specialIn (M:=model prog w) kin hn;have T5:=looks_takesIn (M:=model prog w) kin d8;have T6:=looks_mroIn (M:=model prog w) kin hm;have T8:=looks_mroIn (M:=model prog w) kin hb;have T7:Looks (model prog w) hp (find (.ref x) (.ref D) "__class__") (.bind (.builtin "getset_descriptor.__get__") (.builtin "object.__class__")):=
  T3.andThen (T4.andThen ((show Looks (model prog w) hp (dataDescriptor? (xg (.builtin "object.__class__")) (xg (.builtin "getset_descriptor.__get__"))) (xg (.builtin "getset_descriptor.__get__",.builtin "object.__class__"))from T5.andThen .now).andThen (.tag .now)))
 have bG:(onTheHeap (pB D) && sq "BaseException.__getattribute__"==sq "object.__getattribute__")=xk:=(show(sq "BaseException.__getattribute__"==sq "object.__getattribute__")=xk by decide +kernel)
 have f3:=ux.ga.bind (.ref x);unfold getAttr? getAttrBy? getAttrBy;refine nJ (wpAny_mkText ?_);refine nJ (wpAny_attempt (wpAny_holding ?_));refine nJ (T0.at ?_);refine nJ (T1.at ?_);simp only[bG];rw[if_neg (by decide)]
 unfold getAttrByItsOwn hookBefore;refine nJ ?_;show oB _ _ (typeLookup (.ref D) "__getattr__") _ _ _
 refine T2.at ?_;refine nJ (wpAny_attempt (wpAny_holding ?_));show oB _ _ (boundAndCalled _ _ _) _ _ _
 unfold boundAndCalled;rw[f3];refine nJ (nX ?_);refine wpAny_call ?_;refine codeAny_call_builtin ux.ga.plain F.entry_bexc_ga ?_;refine(show oB _ _ (checkBuiltinCall "BaseException.__getattribute__" ⟨[.ref x,.str "__class__" tk],[]⟩) _ _ _ from ?_)
 refine zjL_ T0 T8 ?_;unfold uA.«object.__getattribute__»;refine nJ (nX ?_);refine nJ (nX ?_);refine nJ (T0.at ?_);refine nJ (T7.at ?_);show oB _ _ (holding [sq "object.__class__"] (call (.builtin "getset_descriptor.__get__") [.builtin "object.__class__",.ref x,.ref D])>>=ret) _ _ _
 refine nJ (wpAny_holding (wpAny_call ?_));refine codeAny_call_builtin KF.slot_gs.plain KF.entry_gs (KF.slot_gs.check _ _ _ _ _ _ _ _ KF.type_class (KF.args_gs _ _ _) ?_);unfold uA.«getset_descriptor.__get__» descrGet;rw[dga_obj];refine nJ (nX ?_);unfold descrGetter descrCheckInstance descrNameAndClass isInstance;simp only[KF.owner_class];repeat lk
 refine⟨Code.quiet_builtin _ (by decide +kernel),codeAny_builtin KF.entry_class ?_⟩;unfold uA.«object.__class__» shownTypeOf;repeat lk
 exact h
theorem it_x {h:Heap}(hd:hasDictIn K D=xj)(kin:K.In h):(∃c d cd sl,h.get? D=xg ⟨c,d,.cls cd,sl⟩)/\∀M:Model,Looks M h (isType (.ref D)) xj:=by
 obtain⟨cd,e,_⟩:=any_some hd;unfold clsIn at e;split at e
 case h_2=>cases e
 case h_1 c1 d1 cd1 sl1 at1=>
  refine⟨⟨_,_,_,_,kin _ _ at1⟩,λM A' Q' E' s' k q=>?_⟩
  unfold isType loadHead;exact nJ (wpAny_loadPart (k _ _ (kin _ _ at1)) (nX q))
theorem kitx_x (ie:findIn K (.ref D) "__getattribute__"=xg (xg (.builtin "BaseException.__getattribute__")))(dC:findIn K (.ref D) "__getattr__"=xg xh)(hb:mroIn K D (.type "BaseException")=xg xj)(hd:hasDictIn K D=xj)(ha:findIn K (.ref D) "__class__"=xg (xg (.builtin "object.__class__")))
  (hn:specialIn K (.builtin "object.__class__") "__get__"=xg (xg (.builtin "getset_descriptor.__get__"))) (d8:takesIn K (.builtin "object.__class__")=xg xj) (hm:mroIn K D (.type "object")=xg xj):
  KitX K (.ref x) (.ref D) (L2.XAt x D dc):=
 ⟨λ_ _ _ I=>ty_x I,λ_ _ kin _=>(it_x hd kin).2 _,(λh tp dd aa n sl kin e=>by
  obtain⟨⟨c,d,cd,sl2,e2⟩,_⟩:=it_x hd kin;refine Bool.eq_false_iff.mpr λq=>?_
  have z:=Value.ref.inj (beq_iff_eq.mp q);subst z;have e3:=e2.symm.trans e;cases e3),λkin I k=>ziU_ ie dC ha hn d8 hm hb kin I k⟩
end
end LX
namespace L2
open PySem PySem.Spec PyProof.Rows
noncomputable def clsV:V->Option nI
 |.ty c=>xg (.type c)|.ref a=>xg (.ref a)|_=>xh
def mIsaX (K:Fgg):List V->Hp->VK->Prop:=λxs H Q=>match xs with
 |[.ref p,c]=>∃D d v b,H p=xg (XO p D d)/\clsV c=xg v/\isaK K D v=xg b/\Q (.bl b) H|_=>False
theorem zg6_ {X:Cx}:CallR X (.builtin "isinstance") (mIsaX X.K):=by
 intro pins s σ H xs us Q I r h;unfold mIsaX at h;split at h
 ·rename_i p c
  obtain⟨D,d,v,b,hp,hv,hk,q⟩:=h;obtain⟨u,z,rfl,r1,r2⟩:=vals2 r;obtain rfl:u=.ref p:=r1;have ez:z=v:=by
   cases c<;>first |(cases hv;exact r2)|cases hv
  subst ez;unfold isaK at hk;split at hk
  case isFalse=>cases hk
  case isTrue g=>
   rw[aW,aW,aW,aW,aW,aW,aW]at g;obtain⟨⟨⟨⟨⟨⟨⟨g1,g7⟩,g8⟩,g2⟩,g3⟩,g4⟩,g5⟩,g6⟩:=g;obtain⟨hx,_,_⟩:=I.hok p _ hp;exact qZ (LX.kitx_x (beq_iff_eq.mp g1) (beq_iff_eq.mp g7) (beq_iff_eq.mp g8) g2 (beq_iff_eq.mp g3) (beq_iff_eq.mp g4) (beq_iff_eq.mp g5) (beq_iff_eq.mp g6)) I.kIn hx hk (λz=>by cases z) λtk=>⟨.bl b,H,I.tok tk,rfl,q⟩
 ·exact h.elim
section
end
def XP (X:Cx)(pins:Pnn)(W:St->XK)(e:nI)(s':nO):Prop:=∃ah Hb sb,Inv X pins ah Hb sb/\CXx X.prog X.w X.stack Hb sb (W ah) e s'
abbrev TX:=Ends->(St->XK)->St->Hp->Prop
def PSx (X:Cx)(st:pM)(t:TX):Prop:=
 ∀(pins:Pnn) (s:nO) (σ:St) (H:Hp) (D:Ends) (W:St->XK),Inv X pins σ H s->t D W σ H->oB (model X.prog X.w) X.A (exec st X.env) (SP X pins D) (XP X pins W) s
def PSsx (X:Cx)(st:List pM)(t:TX):Prop:=
 ∀(pins:Pnn) (s:nO) (σ:St) (H:Hp) (D:Ends) (W:St->XK),Inv X pins σ H s->t D W σ H->oB (model X.prog X.w) X.A (execs st X.env) (SP X pins D) (XP X pins W) s
theorem PA.nox {X:Cx}{es:List oq}{t:TA}(h:PA X.nox es t):PA X es t:=λpos pins s σ H Q I hw=>
 pN (h pos pins s σ H Q (I.wish _) hw) (λ_ _ ⟨v,H',I',r,q⟩=>⟨v,H',I'.unwish,r,q⟩) λ_ _ z=>oS z
section
variable {X:Cx}{st:pM}{t u:TX}{k:Nat}{x:Str}{ps:List Str}{sp:Sp}{p pos pos':Pos}{e:oq}{es:List oq}{ta:TA}
theorem ziF_ (h1:PSx X st t):PSsx X [st] t:=by
 intro pins s σ H D W I h;refine wpAny_execs_cons (thn (h1 pins s σ H D W I h) λf s1 q=>?_)
 cases f with
 |next=>exact wpAny_execs_nil q|ret v=>exact q|brk=>exact q|cont=>exact q
theorem zj6_ (G:Gd X.prog X.w X.K X.mg X.base (CXx X.prog X.w) k x ps sp)(hr:Room k X.A)(ha:PA X.nox (e::es) ta){pins:Pnn}{s:nO}{σ:St}{H:Hp}{Q:VK}{W:St->XK}(I:Inv X pins σ H s)
  (h:ta σ H λvs H1=>sp (vs++[]) H1 Q (W σ)) (hg:Gl X x:=by rfl) (aC:(x==("__debug__":Str))=xk:=by decide)
  (he:oN (e::es) X.env=(xk,eval e X.env)::oN es X.env:=by rfl) (ax:(qJ pos (oN es X.env)).any (·.1)=xk:=by rfl):
  oB (model X.prog X.w) X.A (eval (.Call (.Name x p) (e::es) [] pos) X.env) (EP X pins σ Q) (XP X pins W) s:=by
 obtain⟨f,fd,F,hm,hk,hb⟩:=G;refine qp (zbi_ I hg hm ?_ aC);have lH:=(PA.nox (X:=X.wish (XP X pins W)) ha) pos pins s σ H _ (I.wish _) h;refine PySem.W.callWith_K (h₀:=X.base) I.ok.mod.kin hk (thn lH λus s1 q=>?_) he ax
 obtain⟨vs,H1,I1,r,q⟩:=q;have I1:=I1.unwish;refine⟨I1.kIn,?_⟩;have r2:Vals (vs++[]) (us++[]):=r.append .nil;have hl:(us++[]).length=ps.length:=by rw[<- r2.length];exact F.len _ _ _ _ q
 refine wpAny_call (codeAny_mono (F.run X.A X.stack s1 H1 ⟨us,[]⟩ (us++[]) (vs++[]) Q (W σ) hr I1.env0 (hb s1 us I1.kIn hl) r2 q) λr s' hq=>?_)
 cases r with
 |error e=>exact⟨σ,H1,s1,I1,hq⟩|ok fl=>
  cases fl with
  |ret u=>exact I1.after hq|next=>exact oS hq|brk=>exact oS hq|cont=>exact oS hq
def tDropX (sp:Sp)(ta:TA):TX:=λD W σ H=>ta σ H λvs H1=>sp (vs++[]) H1 (λ_ H2=>D.nx σ H2) (W σ)
theorem zja_ (G:Gd X.prog X.w X.K X.mg X.base (CXx X.prog X.w) k x ps sp)(hr:Room k X.A)(ha:PA X.nox (e::es) ta)(hg:Gl X x:=by rfl)(aC:(x==("__debug__":Str))=xk:=by decide)
  (he:oN (e::es) X.env=(xk,eval e X.env)::oN es X.env:=by rfl) (ax:(qJ pos (oN es X.env)).any (·.1)=xk:=by rfl)
  (hs:swapsWith (.Call (.Name x p) (e::es) [] pos) xh pos'.line X.env=pure xk:=by rfl):PSx X (.Expr (.Call (.Name x p) (e::es) [] pos) pos') (tDropX sp ta):=by
 intro pins s σ H D W I h;exact wpAny_Expr_any (thn (zj6_ G hr ha I h hg aC he ax) λv s1 ⟨y,H1,I1,r1,q1⟩=>⟨σ,H1,I1,q1⟩) I.quiet hs
end
section
variable {X:Cx}{pins:Pnn}{σ:St}{Hb H':Hp}{sb s1:nO}{x T C:nR}{d:Option nR}
theorem landed (Ib:Inv X pins σ Hb sb)(os:s1.os=sb.os)(bare:AllBare s1.gens)(un:Un (frs X.stack) [] Hb H' sb.heap s1.heap)(ok:HOk X.prog X.w H' s1.heap)(aH:FlyX x T C d H' sb.heap s1.heap){h':Heap}{a0:nI}
  (f:Heap.FlyingW (tL s1.heap (frs X.stack++[x,T])) X.stack x (.ref C) a0 h') (up:s1.heap.UpToSlots h') (dd:Dc x d h'):Inv X pins σ (upd H' x (XO x C d)) {s1 with heap:=h'}:=by
 have ne:∀b o,sb.heap.get? b=xg o->b≠x/\b≠T:=λb o q=>⟨(λz=>by rw[z,aH.nx]at q;cases q),(λz=>by rw[z,aH.nT]at q;cases q)⟩
 have nt:∀b o,H' b=xg o->b≠x/\b≠T:=λb o q=>⟨(λz=>by rw[z,aH.hx]at q;cases q),(λz=>by rw[z,aH.hT]at q;cases q)⟩
 have I1:Inv X pins σ H' s1:=Ib.call' (ch:=[]) os un ok bare (λb z=>absurd z (by simp))
 have aF:∀b o,s1.heap.get? b=xg o->b∉frs X.stack->b≠x/\b≠T->h'.get? b=xg o:=λb o q n1 n2=>f.1 b o (tF _ q λz=>by
  rcases oP.mp z with z |z
  ·exact n1 z
  ·rcases og.mp z with z |z
   ·exact n2.1 z
   ·exact n2.2 (oE.mp z))
 have aN:∀b o,s1.heap.get? b=xg o->b∈frs X.stack->∃sl,h'.get? b=xg {o with slots:=sl}:=λb o q hb=>up b o q (by
  obtain⟨_,o',q',d⟩:=I1.stack.mem hb;cases q.symm.trans q';exact d)
 have old:∀b,b≠x->upd H' x (XO x C d) b=H' b:=λb h=>zm_ h
 refine Ib.call' (s':={s1 with heap:=h'}) (ch:=[]) os ⟨λb o q n hb hx=>?_,λb o q n hb hx=>?_,λb o q n hx=>?_,λb o q hx=>?_,λb xs q=>?_,λb o u q=>?_,λb p' q' q=>?_⟩ (λa o e=>?_) bare (λb z=>absurd z (by simp))
 ·exact aF b o (un.keep b o q n hb hx) hb (ne b o q)
 ·obtain⟨sl,e⟩:=un.slot b o q n hb hx
  obtain⟨cu,e'⟩:=aN b _ e hb;exact⟨cu,e'⟩
 ·rw[old b (ne b o q).1]
  exact un.free b o q n hx
 ·obtain⟨o',e⟩:=un.there b o q hx
  by_cases hb:b∈frs X.stack
  ·obtain⟨cu,e'⟩:=aN b _ e hb
   exact⟨_,e'⟩
  ·exact⟨o',aF b o' e hb (ne b o q)⟩
 ·have z:=un.tups b xs q
  rw[old b (nt b _ z).1];exact z
 ·have z:=un.frzs b o u q
  rw[old b (nt b _ z).1];exact z
 ·have z:=un.tbls b p' q' q
  rw[old b (nt b _ z).1];exact z
 ·by_cases ha:a=x
  ·subst ha
   rw[ze_]at e;cases e;obtain⟨ob,vs,q1,q2,q3,_⟩:=f.first;obtain⟨o2,z1,z2,z3⟩:=dd;cases q1.symm.trans z1;exact xo_ok ⟨ob,vs,q1,q2,z2,q3,z3 _ q3⟩
  ·rw[old a ha]at e
   refine(ok a o e).stay (λb u hb q=>?_) (λb q=>by rw[old b (nt b _ q).1];exact q) (λb xs q=>by rw[old b (nt b _ q).1];exact q) λb ob q=>by rw[old b (nt b _ q).1];exact q
   have tr:∃o,H' b=xg o:=by
    rcases hb with rfl |hb
    ·exact⟨_,e⟩
    ·exact⟨_,hb⟩
   obtain⟨ob,tr⟩:=tr;refine aF b u q (λz=>?_) (nt b ob tr)
   rw[I1.stkFree b z]at tr;cases tr
end
noncomputable abbrev Cx.inX (X:Cx)(x:nR):Cx:={X with A:=X.A.mark (xg (.ref x)),calm:=xk,xe:=λ_ _=>False}
theorem Inv.inX {X:Cx}{pins:Pnn}{σ:St}{H:Hp}{s:nO}(I:Inv X pins σ H s)(x:nR):Inv (X.inX x) pins σ H s:=
 ⟨⟨I.ok.mod,I.ok.kind,I.ok.glob,I.ok.blt,I.ok.above,I.ok.inj,I.ok.has,I.ok.cab,(λz=>by cases z),I.ok.frames,I.ok.stk,I.ok.exf,I.ok.bs,I.ok.bsz,I.ok.noex,I.ok.exfs,I.ok.funs,I.ok.frf,I.ok.tb⟩,I.os,I.bare,I.base,I.loc,I.cell,I.free,I.freeC,I.pin,I.hok,I.len⟩
theorem Inv.outX {X:Cx}{pins:Pnn}{σ:St}{H:Hp}{s:nO}{x:nR}(ok:X.Ok)(I:Inv (X.inX x) pins σ H s):Inv X pins σ H s:=
 ⟨ok,I.os,I.bare,I.base,I.loc,I.cell,I.free,I.freeC,I.pin,I.hok,I.len⟩
theorem SP.outX {X:Cx}{pins:Pnn}{D:Ends}{f:Flow}{s':nO}{x:nR}(ok:X.Ok)(h:SP (X.inX x) pins D f s'):SP X pins D f s':=by
 cases f with
 |next=>obtain⟨ah,H',I,q⟩:=h;exact⟨ah,H',I.outX ok,q⟩|brk=>obtain⟨ah,H',I,q⟩:=h;exact⟨ah,H',I.outX ok,q⟩|cont=>obtain⟨ah,H',I,q⟩:=h;exact⟨ah,H',I.outX ok,q⟩|ret u=>obtain⟨v,ah,H',I,r,q⟩:=h;exact⟨v,ah,H',I.outX ok,r,q⟩
def catN (K:Fgg)(C S:nR):Bool:=
 wL K (.ref S)==xg (.type "type") && (vT K S).isSome && uz K S (.type "BaseException")==xg xj && uz K C (.ref S)==xg xk
def catK (K:Fgg)(C S:nR):Bool:=
 wL K (.ref S)==xg (.type "type") && (vT K S).isSome && uz K S (.type "BaseException")==xg xj && uz K C (.ref S)==xg xj
theorem zgp_ {K:Fgg}{M:Model}{A:ph}{E:nI->nO->Prop}{s:nO}{x C S:nR}{d:Option nR}{Q:Bool->nO->Prop}(kin:K.In s.heap)(I:XAt x C d s.heap)(h:catK K C S=xj)(q:Q xj s):
  oB M A (excMatches (.ref x) (.ref S)) Q E s:=by
 unfold catK at h;rw[aW,aW,aW]at h;obtain⟨⟨⟨h1,h2⟩,h3⟩,h4⟩:=h;have T1:=vo (M:=M) kin (beq_iff_eq.mp h1);have T3:=tH (M:=M) kin (beq_iff_eq.mp h3);have T4:=tH (M:=M) kin (beq_iff_eq.mp h4);have T5:=LX.ty_x (M:=M) I;have T6:vU M s.heap (isSubtype (.type "type") (.type "tuple")) xk:=.of_pure tc_notTuple;have T2:vU M s.heap (isType (.ref S)) xj:=by
  obtain⟨cd,e⟩:=qt.mp h2;unfold vT at e;split at e
  case h_2=>cases e
  case h_1 c1 d1 cd1 sl1 at1=>
   intro A' Q' E' s' k z;unfold isType loadHead;exact nJ (wpAny_loadPart (k _ _ (kin _ _ at1)) (nX z))
 cases s with
 |mk hp gs dr tk ost=>
 unfold excMatches isInstance isExcClass
 repeat lk
 exact q
theorem zgi_ {K:Fgg}{M:Model}{A:ph}{E:nI->nO->Prop}{s:nO}{x C S:nR}{d:Option nR}{Q:Bool->nO->Prop}(kin:K.In s.heap)(I:XAt x C d s.heap)(h:catN K C S=xj)(q:Q xk s):
  oB M A (excMatches (.ref x) (.ref S)) Q E s:=by
 unfold catN at h;rw[aW,aW,aW]at h;obtain⟨⟨⟨h1,h2⟩,h3⟩,h4⟩:=h;have T1:=vo (M:=M) kin (beq_iff_eq.mp h1);have T3:=tH (M:=M) kin (beq_iff_eq.mp h3);have T4:=tH (M:=M) kin (beq_iff_eq.mp h4);have T5:=LX.ty_x (M:=M) I;have T6:vU M s.heap (isSubtype (.type "type") (.type "tuple")) xk:=.of_pure tc_notTuple;have T2:vU M s.heap (isType (.ref S)) xj:=by
  obtain⟨cd,e⟩:=qt.mp h2;unfold vT at e;split at e
  case h_2=>cases e
  case h_1 c1 d1 cd1 sl1 at1=>
   intro A' Q' E' s' k z;unfold isType loadHead;exact nJ (wpAny_loadPart (k _ _ (kin _ _ at1)) (nX z))
 cases s with
 |mk hp gs dr tk ost=>
 unfold excMatches isInstance isExcClass
 repeat lk
 exact q
theorem zeb_ {X:Cx}{pins:Pnn}{σ:St}{H:Hp}{s:nO}{M:Model}{A:ph}{E:nI->nO->Prop}{i:Nat}{n:Str}{pos:Pos}{Q:Unit->nO->Prop}(I:Inv X pins σ H s)(hN:X.N.Nodup)(hi:X.N[i]?=xg n)
  (hl:X.env.scope.names.lookup n=xg .local) (h:∀s',Inv X pins (σ.set i xh) H s'->Q () s'):oB M A (do bindName X.env n .none;unbindBehindTheSuite X.env n pos) Q E s:=by
 have dF:(X.env.scope.kind == .class ||(X.env.scope.kind == .module && X.env.locals != X.env.globals))=xk:=by rw[I.ok.kind];rfl
 have hk:X.env.kindOf n=xg .local:=hl;refine nJ (wpAny_bindName (zcr_ (v:=.non) I hN hi (.inl hl) rfl (λs1 I1=>?_) (.inr hl)))
 obtain⟨m,hn,hU⟩:=id I1.loc;unfold unbindBehindTheSuite;refine wpAny_onRaise ?_;unfold unbindName;refine nJ (wpAny_point ?_);refine nJ ?_;unfold deleteName;simp only[hk,dF];rw[if_neg (by decide)]
 have bW:i<σ.length:=by rw[I.len];exact(oA.mp hi).1
 have there:(m n).isSome=xj:=by
  obtain⟨u,r,q⟩:=hU i n .non hi (pY bW) (.inl hl);rcases q with⟨_,e⟩|⟨z,_⟩
  ·rw[e];rfl
  ·rw[hk]at z
   rcases z with z |z<;>cases z
 refine nJ (wpAny_nsDel_keeps hn λh2 v cR hs=>?_)
 rw[there];simp only[Bool.not_true,Bool.false_eq_true,if_false];refine nX (wpAny_point (h _ ?_));obtain⟨oL,_,_,d_,_⟩:=id hn;have cne:=I1.cne;have low:∀b o,X.s₀.heap.get? b=xg o->b≠X.env.locals:=λb o e=>oR (oO (ot e) I1.ok.above)
 refine⟨I1.ok,I1.os,I1.bare,⟨λb o e n hb hx=>?_,λb o e n hb hx=>?_,I1.base.free,λb o e hx=>?_,I1.base.tups,I1.base.frzs,I1.base.tbls⟩,⟨_,cR,λj y v' e1 e2 e3=>?_⟩,λy c e=>?_,I1.free,I1.freeC,λp hp=>?_,λb ob e=>?_,by simpa using I.len⟩
 ·exact(hs.2 b (low b o e)).trans (I1.base.keep b o e n hb hx)
 ·obtain⟨sl,e1⟩:=I1.base.slot b o e n hb hx
  exact⟨sl,(hs.2 b (low b o e)).trans e1⟩
 ·obtain⟨o',e1⟩:=I1.base.there b o e hx
  exact⟨o',(hs.2 b (low b o e)).trans e1⟩
 ·by_cases hj:j=i
  ·subst hj
   rw[pY bW]at e2;cases e2
  ·rw[pI (rA hj)]at e2
   obtain⟨u',r',q⟩:=hU j y v' e1 (by rw[pI (rA hj)];exact e2) e3
   refine⟨u',r',?_⟩;rcases q with⟨k,e⟩|⟨k,c,e,z⟩
   ·refine .inl ⟨k,?_⟩
    have:y≠n:=λe=>hj (zdi_ hN e1 (e ▸ hi))
    simp[this,e]
   ·exact .inr ⟨k,c,e,z.sameBut hs (cne y c e)⟩
 ·obtain⟨w',z⟩:=I1.cell y c e
  exact⟨w',z.sameBut hs (cne y c e)⟩
 ·obtain⟨e,n,ne,nf,d⟩:=I1.pin p hp
  exact⟨(hs.2 p.1 ne).trans e,n,ne,nf,d⟩
 ·refine(I1.hok b ob e).stay (λc w' hc q=>(hs.2 c ?_).trans q) (λ_ q=>q) λ_ _ q=>q
  rintro rfl;rcases hc with rfl |hc
  ·rw[I1.free]at e;cases e
  ·rw[I1.free]at hc;cases hc
abbrev zgc_ (X:Cx)(s1:nO)(x T:nR):Heap:=tL s1.heap (frs X.stack++[x,T])
section
variable {X:Cx}{body:List pM}{tb:TX}{ts:TS}{S:nR}{sx n:Str}{i:Nat}{cI:pM}{bo:List pM}{np bg pos:Pos}
noncomputable def gone (i:Nat)(D:Ends):Ends:={nx:=λσ H=>D.nx (σ.set i xh) H,rt:=D.rt,bk:=λσ H=>D.bk (σ.set i xh) H,ct:=λσ H=>D.ct (σ.set i xh) H}
abbrev TH:=nR->Option nR->Ends->St->Hp->Prop
def tHAs (K:Fgg)(S:nR)(i:Nat)(ts:TS)(rest:TH):TH:=λC d D σ H=>if catK K C S=xj then∀x,H x=xh->ts (gone i D) (σ.set i (xg (.ref x))) (upd H x (XO x C d))else catN K C S=xj/\rest C d D σ H
def tH0:TH:=λ_ _ _ _ _=>False
def tTryH (tb:TX)(th:TH):TS:=λD σ H=>tb D (λah c d H'=>∃C,c=.ref C/\th C d D ah H') σ H
def PH (X:Cx)(hs:List ExceptHandler)(t:TH):Prop:=∀(pins:Pnn) (σ:St) (H:Hp) (D:Ends) (s:nO) (x C:nR) (d:Option nR) (E:nI->nO->Prop),Inv X pins σ (upd H x (XO x C d)) s->H x=xh ->
 (∀A' Q' E',(∀h2,Inv X pins σ (upd H x (XO x C d)) {s with heap:=h2}->Q' () {s with heap:=h2})->oB (model X.prog X.w) A' (setFlight (.ref x) xh) Q' E' s)->t C d D σ H->oB (model X.prog X.w) X.A (handleBy (.ref x) X.env hs) (SP X pins D) E s
variable {th rest:TH}{hs:List ExceptHandler}
theorem zoU_:PH X [] tH0:=λ_ _ _ _ _ _ _ _ _ _ _ _ h=>h.elim
theorem zmd_ {t:Prop}{nm:Option Str}(hm:X.mg sx=xg (.ref S))(hg:Gl X sx)(aC:(sx==("__debug__":Str))=xk){pins:Pnn}{σ:St}{H:Hp}{D:Ends}{s:nO}{x C:nR}{d:Option nR}{E:nI->nO->Prop}(I:Inv X pins σ (upd H x (XO x C d)) s)
  (h:if catK X.K C S=xj then codeAny (model X.prog X.w) (X.A.mark (xg (.ref x))) (.handlers (.ref x) [.ExceptHandler xh nm (cI::bo) bg] X.env) (λr aA=>match r with
     |.ok f=>(match nm with
      |none=>SP X pins D f aA|some n=>oB (model X.prog X.w) X.A (do bindName X.env n .none;unbindBehindTheSuite X.env n bg) (λ_ aw=>SP X pins D f aw) E aA)
     |.error y=>cameBackBy (model X.prog X.w) X.A X.env E y aA) s else catN X.K C S=xj/\oB (model X.prog X.w) X.A (handleBy (.ref x) X.env hs) (SP X pins D) E s):
  oB (model X.prog X.w) X.A (handleBy (.ref x) X.env (.ExceptHandler (xg (.Name sx np)) nm (cI::bo) bg::hs)) (SP X pins D) E s:=by
 refine wpAny_handleBy_cons (codeAny_handlers_test (zbi_ (X:=X.inX x) (I.inX x) hg hm ?_ aC)) (by intro q;cases q)
 obtain⟨xa,_⟩:=I.hok x _ ze_;split at h
 case isTrue hc=>exact zgp_ (K:=X.K) I.kIn xa hc h
 case isFalse hc=>exact zgi_ (K:=X.K) I.kIn xa h.1 h.2
theorem ph_as (hm:X.mg sx=xg (.ref S))(hN:X.N.Nodup)(hi:X.N[i]?=xg n)(hl:X.env.scope.names.lookup n=xg .local)(c_:∀x,PSs (X.inX x) (cI::bo) ts)(hr:PH X hs rest)
  (hg:Gl X sx:=by rfl) (aC:(sx==("__debug__":Str))=xk:=by decide):PH X (.ExceptHandler (xg (.Name sx np)) (xg n) (cI::bo) bg::hs) (tHAs X.K S i ts rest):=by
 intro pins σ H D s x C d E I hx fl h;refine zmd_ (t:=True) hm hg aC I ?_;unfold tHAs at h;split at h
 case isFalse hc=>rw[if_neg hc];exact⟨h.1,hr pins σ H D s x C d E I hx fl h.2⟩
 case isTrue hc=>
  rw[if_pos hc];refine codeAny_handlers_suite_as (fl _ _ _ λh6 I6=>?_)
  refine zcr_ (X:=X.inX x) (v:=.ref x) (I6.inX x) hN hi (.inl hl) rfl (λs7 I7=>?_) (.inr hl)
  refine pN (c_ x pins s7 _ _ _ I7 (h x hx)) (λf s8 q=>?_) λ_ _ z=>z.elim
  have q:=q.outX I.ok;cases f with
  |next=>
   obtain⟨b8,H2,I8,q⟩:=q;exact zeb_ I8 hN hi hl λs9 I9=>⟨_,H2,I9,q⟩
  |brk=>
   obtain⟨b8,H2,I8,q⟩:=q;exact zeb_ I8 hN hi hl λs9 I9=>⟨_,H2,I9,q⟩
  |cont=>
   obtain⟨b8,H2,I8,q⟩:=q;exact zeb_ I8 hN hi hl λs9 I9=>⟨_,H2,I9,q⟩
  |ret u=>
   obtain⟨v,b8,H2,I8,r,q⟩:=q;exact zeb_ I8 hN hi hl λs9 I9=>⟨v,_,H2,I9,r,q⟩
theorem zl3_ {h₀:ExceptHandler}(aS:X.stack=X.env::X.outer)(bD:X.env.frame=xg X.env.locals)(hb:PSsx X body tb)(hh:PH X (h₀::hs) th):PS X (.Try body (h₀::hs) [] [] pos) (tTryH tb th):=by
 intro pins s σ H D I h;refine wpAny_Try_except (pN (hb pins s σ H D _ I h) (λf s1 q=>?_) λe s1 q=>?_)
 ·cases f with
  |next=>exact wpAny_execs_nil q|ret v=>exact q|brk=>exact q|cont=>exact q
 ·obtain⟨ah,Hb,sb,Ib,x,T,C,d,H',rfl,os,bare,un,ok,aH,C',hC',q⟩:=q
  cases hC';have I1:Inv X pins ah H' s1:=Ib.call' (ch:=[]) os un ok bare (λb z=>absurd z (by simp))
  obtain⟨oe,vs,a0,oT,ts',he,aT,hd,h1,hTe,hT,hdT,h3⟩:=aH.obj;have land:∀h',zgc_ X s1 x T |>.StaysIn h'->h'.FunFrames (zgc_ X s1 x T) X.stack->h'.TracedW (zgc_ X s1 x T) x (.ref C) a0->s1.heap.UpToSlots h'->Dc x d h'->Inv X pins ah (upd H' x (XO x C d)) {s1 with heap:=h'}:=λh' a b c up dd=>landed Ib os bare un ok aH ⟨a,qc _ (oj _ nV),b,c⟩ up dd
  have tr:s1.heap.TracedW (zgc_ X s1 x T) x (.ref C) a0:=⟨oe,vs,T,oT,ts',he,aT,hd,h1,qc _ (oj _ (nY _ nV)),hTe,hT,hdT,h3⟩;have a_:s1.heap.FunFrames (zgc_ X s1 x T) X.stack:=sj I1.stack zgr_;rw[aS]at a_;refine zf7_ (outer:=X.outer) (I1.ok.frames.trans (congrArg xg aS)) a_ bD tr (λb o q=>sO _ q) (qc _ (oj _ nV)) aH.dc λh4 n4 d4=>?_
  refine fl_d n4.1 n4.2.1 n4.2.2.1 d4 λh5 a5 b5 c5 u5 d5=>?_
  have u4:s1.heap.UpToSlots h4:=n4.2.2.2;rw[<- aS]at b5;refine hh pins ah H' D _ x C d _ (land h5 a5 b5 c5 (u4.trans u5) d5) aH.hx (λA' Q' E' kk=>?_) q
  exact fl_d a5 b5 c5.at d5 λh6 a6 b6 c6 u6 d6=>kk h6 (land h6 a6 b6 c6 ((u4.trans u5).trans u6) d6)
end
section
variable {P:oH}{w:oV}{K:Fgg}{mg:Str->Option nI}{base:Heap}
theorem Fun.okX {x qual:Str}{st:pM}{f:nR}{fd:pL}{N ps:List Str}{k:Nat}{sp:Sp}(F:Fun K x qual st f fd)(S:FnScope N ps (defScope st))(len:∀vs H Q E,sp vs H Q E->vs.length=ps.length)
  (aU:∀(ai:nI) (A:ph) (outer:List Env) (s:nO) (H:Hp) (vs:List V) (Q:VK) (E:XK),Room k (A.deeper (envOfC qual (defScope st) s.heap.objs.size f ai))->sp vs H Q E ->
   ∃t,PSs (cxOf (CXx P w) P w K mg base N qual (defScope st) f ai A outer s H E) (defBody st) t/\t {nx:=λ_ H'=>Q .non H',rt:=Q} (start N vs) H):FnOk P w K mg base (CXx P w) (k+1) f fd ps sp:=by
 obtain⟨oc,od,kV,doc,pm,an,ai,ct,ao,rfl,lk,bw⟩:=F.ex;exact fn_of lk bw S len λA outer s H vs Q E hr cf=>aU ai A outer s H vs Q E hr cf
end
section
variable {X:Cx}
def mAll (K:Fgg):List V->Hp->VK->Prop:=λxs H Q=>match xs with |[.ref p]=>∃bs:List Bool,SqL K H p (bs.map V.bl)/\Q (.bl (bs.all id)) H |_=>False
theorem zcY_:∀{bs:List Bool}{us:List nI},Vals (bs.map V.bl) us->us=bs.map rD
 |[],_,.nil=>rfl|b::bs,_,.cons r t=>by rw[zcY_ t];cases r;rfl
theorem zey_ {P:oH}{w:oV}{A:ph}{bs:List Bool}:TruthOf P w A (λi v=>(bs.map rD).toArray[i]?=xg v) (λi=>bs.getD i xk):=by
 intro i v s Q E h q;have h':(bs.map rD)[i]?=xg v:=by simpa using h
 rw[om]at h';cases e:bs[i]? with
 |none=>rw[e]at h';cases h'|some b=>
  rw[e]at h';cases h';have:bs.getD i xk=b:=by rw[pT,e];rfl
  have q:Q (bs.getD i xk) s:=q;rw[this]at q;exact pd q
theorem zcB_ (bs:List Bool):(oU bs.length).all (λi=>bs.getD i xk)=bs.all id:=by
 rw[Bool.eq_iff_iff,pQ,pQ];constructor
 ·intro h b hb
  obtain⟨i,hi,e⟩:=sJ hb;have:=h i (pP.mpr hi);rw[pT,nU hi]at this;rw[<- e];exact this
 ·intro h i hi
  have hi:=pP.mp hi;rw[pT,nU hi];exact h _ (uU hi)
theorem zg7_ (hc:X.calm=xj):CallR X (.builtin "all") (mAll X.K):=by
 intro pins s σ H xs us Q I r h;unfold mAll at h;split at h
 ·rename_i p
  obtain⟨bs,hS,q⟩:=h;obtain⟨u,rfl,rx⟩:=vals1 r;cases rx;obtain⟨aa,rv,pl,hz⟩:=I.list hS;rw[zcY_ rv]at pl;have hp:=ot pl.isList.choose_spec.1;have aP:p≠s.heap.objs.size:=oR hp;refine call_all_walk (wpAny_pyIter_list pl.isList ⟨_,_,_,_,_,_,_,rfl,Walks.list (A:=X.A.in1) (I.ok.hd hc) _ p aP (bs.map rD).toArray,⟨⟨_,ox _ rfl,rfl,rfl⟩,pl.isList.at λo e=>nQ _ e⟩,zey_,λh' tk kk=>?_⟩)
  refine⟨.bl (bs.all id),H,I.kept (t':=tk) λb o e=>kk b o (by simpa using oR (ot e)) (nQ _ e),?_,q⟩
  show rD _=_
  rw[nW,nN,zcB_]
 ·exact h.elim
def mRange:List V->Hp->VK->Prop:=λxs H Q=>match xs with
 |[.int j]=>∀p,H p=xh->Q (.ref p) (upd H p (.rng 0 j))|[.int i,.int j]=>∀p,H p=xh->Q (.ref p) (upd H p (.rng i j))|_=>False
theorem zeu_:CallR X (.type "range") mRange:=by
 intro pins s σ H xs us Q I r h;unfold mRange at h;split at h
 ·rename_i j
  obtain⟨u,rfl,t,rfl⟩:=vals1 r;refine call_range_1 ⟨.ref s.heap.objs.size,_,I.laid (o:=.rng 0 j) (λb ob q=>nQ _ q) (nZ _) ?_,rfl,h _ (I.hok.fresh (nZ _))⟩
  exact⟨_,_,_,ox _ rfl⟩
 ·rename_i i j
  obtain⟨u,u',rfl,⟨t,rfl⟩,⟨t',rfl⟩⟩:=vals2 r;refine call_range_2 ⟨.ref s.heap.objs.size,_,I.laid (o:=.rng i j) (λb ob q=>nQ _ q) (nZ _) ?_,rfl,h _ (I.hok.fresh (nZ _))⟩
  exact⟨_,_,_,ox _ rfl⟩
 ·exact h.elim
noncomputable def intsV (lo hi:Int):List V:=(oU (hi-lo).toNat).map λ(i:Nat)=>V.int (lo+i)
def mList (K:Fgg):List V->Hp->VK->Prop:=λxs H Q=>match xs with
 | [.ref p]=>(∃ys,(SqL K H p ys\/SqT K H p ys)/\∀l,H l=xh->Q (.ref l) (upd H l (.lst ys))) \/
   (∃lo hi,H p=xg (.rng lo hi)/\(-50000<=lo/\lo<=50000 /\ -50000<=hi/\hi<=50000)/\∀l,H l=xh->Q (.ref l) (upd H l (.lst (intsV lo hi))))
 |_=>False
theorem ziL_ {lo:Int}:∀{n:Nat}{us:List nI},us.length=n->(∀(j:Nat) (v:nI),us[j]?=xg v->∃t,v=tK (lo+j) t)->Vals ((oU n).map λ(i:Nat)=>V.int (lo+i)) us
 |n,us,hl,h=>by
  refine paired_of (by rw[nN,oW,hl]) λj x u hx hu=>?_
  rw[om]at hx;cases e:(oU n)[j]? with
  |none=>rw[e]at hx;cases hx|some i=>
   rw[e]at hx;cases hx;have:=oA.mp e;obtain⟨hj,ej⟩:=this;rw[uH]at ej;subst ej;exact h j u hu
 where paired_of:∀{xs:List V}{us:List nI},xs.length=us.length->(∀(j:Nat) x u,xs[j]?=xg x->us[j]?=xg u->RelV x u)->Vals xs us
 |[],[],_,_=>.nil|x::xs,u::us,hl,h=>.cons (h 0 x u rfl rfl) (paired_of (qh hl) λj x u a b=>h (j+1) x u a b)
theorem zdh_ (hc:X.calm=xj):CallR X (.type "list") (mList X.K):=by
 intro pins s σ H xs us Q I r h;have hv:∃p,xs=[.ref p]:=by
  rcases xs with _ |⟨y,_ |⟨z,t⟩⟩
  ·exact oS h
  ·cases y with
   |ref p=>exact⟨p,rfl⟩|_=>exact oS h
  ·cases y<;>exact oS h
 obtain⟨p,rfl⟩:=hv
 ·rcases h with⟨ys,hq,q⟩|⟨lo,hi,hp,⟨h1,h2,h3,h4⟩,q⟩
  ·exact zdp_ pins s σ H _ us Q I r ⟨p,ys,rfl,hq,q⟩
  ·obtain⟨u,rfl,rx⟩:=vals1 r
   cases rx;obtain⟨t,u,v,e⟩:=I.hok p _ hp;have hn:tM lo hi 1=(((hi-lo).toNat:Nat):Int):=by rw[rangeSize_one];split<;>lia
   refine call_list_range (I.ok.hd hc) e (small_one (by lia) (by lia) (by lia) (by lia)) hn (by lia) λh' tk acc c' kp e' af=>?_
   obtain⟨hs,hi'⟩:=af;refine⟨.ref s.heap.objs.size,_,I.laid (o:=.lst (intsV lo hi)) (t':=tk) kp (nZ _) ?_,rfl,q _ (I.hok.fresh (nZ _))⟩;refine⟨?_,acc.toList,c',ziL_ (by simpa using hs) (λj v hv=>?_),by simpa using e'⟩
   ·unfold intsV;rw[nN,oW];exact zan_ (by lia)
   ·obtain⟨t,ht⟩:=hi' j v (by simpa using hv)
    exact⟨t,by rw[ht];simp⟩
end
inductive EqD (K:Fgg) (H:Hp):Nat->V->V->Bool->Prop
 |flat {x y:V}(hx:flatV x=xj) (hy:flatV y=xj):EqD K H 0 x y (eqV x y)
 |lst {n:Nat}{p q:nR}{xs ys:List V}(e:Nat->Bool) (hp:SqL K H p xs) (hq:SqL K H q ys) (hl:xs.length=ys.length) (h:∀(i:Nat) x y,xs[i]?=xg x->ys[i]?=xg y->EqD K H n x y (e i)):EqD K H (n+1) (.ref p) (.ref q) ((oU xs.length).all e)
 |lstN {n:Nat}{p q:nR}{xs ys:List V}(hp:SqL K H p xs) (hq:SqL K H q ys) (hl:xs.length≠ys.length):EqD K H n (.ref p) (.ref q) xk
 |tup {n:Nat}{p q:nR}{xs ys:List V}(e:Nat->Bool) (hp:SqT K H p xs) (hq:SqT K H q ys) (h:∀(i:Nat) x y,xs[i]?=xg x->ys[i]?=xg y->EqD K H n x y (e i)):EqD K H (n+1) (.ref p) (.ref q) ((oU (min xs.length ys.length)).all e && xs.length == ys.length)
 |lt {n:Nat}{p q:nR}{xs ys:List V}(hp:SqL K H p xs) (hq:SqT K H q ys):EqD K H n (.ref p) (.ref q) xk
 |tl {n:Nat}{p q:nR}{xs ys:List V}(hp:SqT K H p xs) (hq:SqL K H q ys):EqD K H n (.ref p) (.ref q) xk
 |lf {n:Nat}{p:nR}{xs:List V}{y:V}(hp:SqL K H p xs) (hy:flatV y=xj):EqD K H n (.ref p) y xk
 |fl {n:Nat}{p:nR}{xs:List V}{y:V}(hp:SqL K H p xs) (hy:flatV y=xj):EqD K H n y (.ref p) xk
 |tf {n:Nat}{p:nR}{xs:List V}{y:V}(hp:SqT K H p xs) (hy:flatV y=xj):EqD K H n (.ref p) y xk
 |ft {n:Nat}{p:nR}{xs:List V}{y:V}(hp:SqT K H p xs) (hy:flatV y=xj):EqD K H n y (.ref p) xk
 |up {n:Nat}{x y:V}{b:Bool}(h:EqD K H n x y b):EqD K H (n+1) x y b
section
variable {X:Cx}{pins:Pnn}{σ:St}{H:Hp}{s:nO}
theorem zbh_ {xs:List V}{us:List nI}(r:Vals xs us){i:Nat}(h:i<us.toArray.size):∃x,xs[i]?=xg x/\RelV x us.toArray[i]:=by
 have hi:i<us.length:=by simpa using h
 have hl:=r.length;obtain⟨u,hu,ru⟩:=r.get (nU (show i<xs.length by lia))
 refine⟨_,nU (by lia),?_⟩
 rw[nU hi]at hu;cases hu
 simpa using ru
theorem zfw_ (I:Inv X pins σ H s){n:Nat}{x y:V}{b:Bool}(h:EqD X.K H n x y b):x=y->b=xj:=by
 induction h with
 |flat hx hy=>
  rename_i x y
  rintro rfl;cases x<;>first |(cases hx;done)|(simp[eqV];done)|rfl
 |lst e hp hq hl h ih=>
  rename_i n p q xs ys
  intro e0;cases e0;have dN:=I.list_inj hp hq;subst dN;rw[pQ];intro i hi;have hi:=pP.mp hi;exact ih i _ _ (nU hi) (nU hi) rfl
 |lstN hp hq hl=>
  intro e0;cases e0;exact absurd (by rw[I.list_inj hp hq]) hl
 |tup e hp hq h ih=>
  rename_i n p q xs ys
  intro e0;cases e0;have dN:=I.tuple_inj hp hq;subst dN;rw[aW,pQ];refine⟨?_,by simp⟩
  intro i hi;have hi:=pP.mp hi;have hi:i<xs.length:=by lia
  exact ih i _ _ (nU hi) (nU hi) rfl
 |lt hp hq=>
  intro e0;cases e0;obtain⟨aa,r1,p1,z1⟩:=I.list hp;obtain⟨ak,r2,p2,z2⟩:=I.tuple hq;exact absurd rfl (ug p1.isList p2)
 |tl hp hq=>
  intro e0;cases e0;obtain⟨aa,r1,p1,z1⟩:=I.tuple hp;obtain⟨ak,r2,p2,z2⟩:=I.list hq;exact absurd rfl (ug p2.isList p1)
 |lf hp hy=>rintro rfl;cases hy
 |fl hp hy=>rintro rfl;cases hy
 |tf hp hy=>rintro rfl;cases hy
 |ft hp hy=>rintro rfl;cases hy
 |up h ih=>exact ih
theorem zdt_ (I:Inv X pins σ H s){n:Nat}{x y:V}{b:Bool}(h:EqD X.K H n x y b):∀(A:ph) (v u:nI),A.units+n<cLine->RelV x v->RelV y u ->
  vn A s v u b/\(∀p q,x=.ref p->y=.ref q->rj A s v u b):=by
 induction h with
 |flat hx hy=>
  intro A v u _ rx ry;refine⟨zlZ_ rx ry hx hy,λp q e _=>?_⟩
  subst e;cases hx
 |lst e hp hq hl h ih=>
  rename_i n p q xs ys
  intro A v u hu rx ry;cases rx;cases ry;obtain⟨aa,r1,p1,z1⟩:=I.list hp;obtain⟨ak,r2,p2,z2⟩:=I.list hq;have l1:=r1.length;have l2:=r2.length;have rc:rj A s (.ref p) (.ref q) ((oU xs.length).all e):=by
   have:=SeqAt.RcAt.lists (A:=A) (e:=e) p1.isList p2.isList (by simp only[nW];lia) (by lia) (λj h1 h2=>by
    obtain⟨x,ex,rx⟩:=zbh_ r1 h1;obtain⟨y,ey,ry⟩:=zbh_ r2 h2;exact(ih j x y ex ey A.in1 _ _ (by show A.units+1+n<_;lia) rx ry).1)
   rw[nW,<- l1]at this;exact this
  refine⟨?_,λ_ _ _ _=>rc⟩
  by_cases hpq:p=q
  ·subst hpq
   have dN:=I.list_inj hp hq;subst dN;have:(oU xs.length).all e=xj:=by
    rw[pQ];intro i hi;have hi:=pP.mp hi;exact zfw_ I (h i _ _ (nU hi) (nU hi)) rfl
   rw[this];exact ui _
  ·exact .of_refs hpq rc
 |lstN hp hq hl=>
  rename_i n p q xs ys
  intro A v u hu rx ry;cases rx;cases ry;obtain⟨aa,r1,p1,z1⟩:=I.list hp;obtain⟨ak,r2,p2,z2⟩:=I.list hq;have l1:=r1.length;have l2:=r2.length;have rc:rj A s (.ref p) (.ref q) xk:=SeqAt.RcAt.lists_lengths p1.isList p2.isList (by simp only[nW,bne_iff_ne,ne_eq];lia) (by lia)
  refine⟨.of_refs (λe=>?_) rc,λ_ _ _ _=>rc⟩
  subst e;exact hl (by rw[I.list_inj hp hq])
 |tup e hp hq h ih=>
  rename_i n p q xs ys
  intro A v u hu rx ry;cases rx;cases ry;obtain⟨aa,r1,p1,z1⟩:=I.tuple hp;obtain⟨ak,r2,p2,z2⟩:=I.tuple hq;have l1:=r1.length;have l2:=r2.length;have rc:rj A s (.ref p) (.ref q) ((oU (min xs.length ys.length)).all e && xs.length == ys.length):=by
   have:=SeqAt.RcAt.tuples (A:=A) (e:=e) (show s.heap.IsTuple p aa.toArray from p1) (show s.heap.IsTuple q ak.toArray from p2) (by lia) (λj h1 h2=>by
    obtain⟨x,ex,rx⟩:=zbh_ r1 h1;obtain⟨y,ey,ry⟩:=zbh_ r2 h2;exact(ih j x y ex ey A.in1 _ _ (by show A.units+1+n<_;lia) rx ry).1)
   rw[nW,nW,<- l1,<- l2]at this;exact this
  refine⟨?_,λ_ _ _ _=>rc⟩
  by_cases hpq:p=q
  ·subst hpq
   have dN:=I.tuple_inj hp hq;subst dN;have:((oU (min xs.length xs.length)).all e && xs.length == xs.length)=xj:=by
    rw[aW,pQ];refine⟨?_,by simp⟩
    intro i hi;have hi:=pP.mp hi;have hi:i<xs.length:=by lia
    exact zfw_ I (h i _ _ (nU hi) (nU hi)) rfl
   rw[this];exact ui _
  ·exact .of_refs hpq rc
 |lt hp hq=>
  intro A v u hu rx ry;cases rx;cases ry;obtain⟨aa,r1,p1,z1⟩:=I.list hp;obtain⟨ak,r2,p2,z2⟩:=I.tuple hq;exact⟨.list_tuple p1.isList p2 (by lia),λ_ _ _ _=>.list_tuple p1.isList p2 (by lia)⟩
 |tl hp hq=>
  intro A v u hu rx ry;cases rx;cases ry;obtain⟨aa,r1,p1,z1⟩:=I.tuple hp;obtain⟨ak,r2,p2,z2⟩:=I.list hq;exact⟨.tuple_list p1 p2.isList (by lia),λ_ _ _ _=>.tuple_list p1 p2.isList (by lia)⟩
 |lf hp hy=>
  rename_i n p xs y
  intro A v u hu rx ry;cases rx;obtain⟨aa,r1,p1,z1⟩:=I.list hp;refine⟨?_,λ_ _ _ e=>by subst e;cases hy⟩
  cases y with
  |non=>cases ry;exact .list_none p1.isList (by lia)|bl b=>cases ry;exact .list_bool b p1.isList (by lia)|int b=>obtain⟨t,rfl⟩:=ry;exact .list_int b t p1.isList (by lia)|str b=>obtain⟨t,rfl⟩:=ry;exact .list_str b t p1.isList (by lia)|_=>cases hy
 |fl hp hy=>
  rename_i n p xs y
  intro A v u hu rx ry;cases ry;obtain⟨aa,r1,p1,z1⟩:=I.list hp;refine⟨?_,λ_ _ e _=>by subst e;cases hy⟩
  cases y with
  |non=>cases rx;exact .none_list p1.isList (by lia)|bl b=>cases rx;exact .bool_list b p1.isList (by lia)|int b=>obtain⟨t,rfl⟩:=rx;exact .int_list b t p1.isList (by lia)|str b=>obtain⟨t,rfl⟩:=rx;exact .str_list b t p1.isList (by lia)|_=>cases hy
 |tf hp hy=>
  rename_i n p xs y
  intro A v u hu rx ry;cases rx;obtain⟨aa,r1,p1,z1⟩:=I.tuple hp;refine⟨?_,λ_ _ _ e=>by subst e;cases hy⟩
  cases y with
  |non=>cases ry;exact .tuple_none p1 (by lia)|bl b=>cases ry;exact .tuple_bool b p1 (by lia)|int b=>obtain⟨t,rfl⟩:=ry;exact .tuple_int b t p1 (by lia)|str b=>obtain⟨t,rfl⟩:=ry;exact .tuple_str b t p1 (by lia)|_=>cases hy
 |ft hp hy=>
  rename_i n p xs y
  intro A v u hu rx ry;cases ry;obtain⟨aa,r1,p1,z1⟩:=I.tuple hp;refine⟨?_,λ_ _ e _=>by subst e;cases hy⟩
  cases y with
  |non=>cases rx;exact .none_tuple p1 (by lia)|bl b=>cases rx;exact .bool_tuple b p1 (by lia)|int b=>obtain⟨t,rfl⟩:=rx;exact .int_tuple b t p1 (by lia)|str b=>obtain⟨t,rfl⟩:=rx;exact .str_tuple b t p1 (by lia)|_=>cases hy
 |up h ih=>
  intro A v u hu rx ry;exact ih A v u (by lia) rx ry
theorem zeU_ (I:Inv X pins σ H s){n:Nat}{x y:V}{b:Bool}(h:EqD X.K H n x y b):∀(A:ph) (v u:nI),A.units+n<cLine->RelV x v->RelV y u->∀p q,x=.ref p->y=.ref q->rJ A s v u (!b):=by
 induction h with
 |flat hx hy=>intro A v u _ rx ry p q e _;subst e;cases hx
 |lst e hp hq hl h ih=>
  rename_i n p q xs ys
  intro A v u hu rx ry _ _ _ _;cases rx;cases ry;obtain⟨aa,r1,p1,z1⟩:=I.list hp;obtain⟨ak,r2,p2,z2⟩:=I.list hq;have l1:=r1.length;have l2:=r2.length;have:=wZ (A:=A) (e:=e) p1.isList p2.isList (by simp only[nW];lia) (by lia) (λj h1 h2=>by
   obtain⟨x,ex,rx⟩:=zbh_ r1 h1;obtain⟨y,ey,ry⟩:=zbh_ r2 h2;exact(zdt_ I (h j x y ex ey) A.in1 _ _ (by show A.units+1+n<_;lia) rx ry).1)
  rw[nW,<- l1]at this;exact this
 |lstN hp hq hl=>
  intro A v u hu rx ry _ _ _ _;cases rx;cases ry;obtain⟨aa,r1,p1,z1⟩:=I.list hp;obtain⟨ak,r2,p2,z2⟩:=I.list hq;have l1:=r1.length;have l2:=r2.length;exact vp p1.isList p2.isList (by simp only[nW,bne_iff_ne,ne_eq];lia) (by lia)
 |tup e hp hq h ih=>
  rename_i n p q xs ys
  intro A v u hu rx ry _ _ _ _;cases rx;cases ry;obtain⟨aa,r1,p1,z1⟩:=I.tuple hp;obtain⟨ak,r2,p2,z2⟩:=I.tuple hq;have l1:=r1.length;have l2:=r2.length;have:=wW (A:=A) (e:=e) (show s.heap.IsTuple p aa.toArray from p1) (show s.heap.IsTuple q ak.toArray from p2) (by lia) (λj h1 h2=>by
   obtain⟨x,ex,rx⟩:=zbh_ r1 h1;obtain⟨y,ey,ry⟩:=zbh_ r2 h2;exact(zdt_ I (h j x y ex ey) A.in1 _ _ (by show A.units+1+n<_;lia) rx ry).1)
  rw[nW,nW,<- l1,<- l2]at this;exact this
 |lt hp hq=>
  intro A v u hu rx ry _ _ _ _;cases rx;cases ry;obtain⟨aa,r1,p1,z1⟩:=I.list hp;obtain⟨ak,r2,p2,z2⟩:=I.tuple hq;exact .list_tuple p1.isList p2 (by lia)
 |tl hp hq=>
  intro A v u hu rx ry _ _ _ _;cases rx;cases ry;obtain⟨aa,r1,p1,z1⟩:=I.tuple hp;obtain⟨ak,r2,p2,z2⟩:=I.list hq;exact .tuple_list p1 p2.isList (by lia)
 |lf hp hy=>intro A v u hu rx ry _ _ _ e;subst e;cases hy
 |fl hp hy=>intro A v u hu rx ry _ _ e _;subst e;cases hy
 |tf hp hy=>intro A v u hu rx ry _ _ _ e;subst e;cases hy
 |ft hp hy=>intro A v u hu rx ry _ _ e _;subst e;cases hy
 |up h ih=>intro A v u hu rx ry;exact ih A v u (by lia) rx ry
end
end L2
namespace LX
open PySem Builtin Builtin.Str
section
end
end LX
namespace L2
open PySem PySem.Spec PyProof.Rows
section
variable {X:Cx}{a b c d:oq}{ta tb tc td:TE}{pos:Pos}
def mChain3 (r r' bp:R2)(ta tb tc td:TE):TE:=λσ H Q=>ta σ H λx H1=>tb σ H1 λy H2=>r x y H2 λz H3=>match z with
 |.bl k=>br k (tc σ H3 λw H4=>r' y w H4 λz' H5=>match z' with |.bl k'=>br k' (td σ H5 λw' H6=>bp w w' H6 Q) (Q (.bl xk) H5)|_=>False) (Q (.bl xk) H3)|_=>False
theorem ze1_ {op aE aD:CmpOp}{r r' bp:R2}(ho:OpR X (oQ op) r)(aL:OpR X (oQ aE) r')(bB:OpR X (oQ aD) bp)(ha:PE X a ta)(hb:PE X b tb)(hc:PE X c tc)(hd:PE X d td)
  (hm:lastMarks [op,aE,aD] [b,c,d]=xk:=by with_unfolding_all rfl):PE X (.Compare a [op,aE,aD] [b,c,d] pos) (mChain3 r r' bp ta tb tc td):=by
 intro pins s σ H Q I h;refine Compare_chain (thn (ha pins s σ H _ I h) λv s1 ⟨x,H1,I1,r1,q1⟩=>chain_link (thn (hb pins s1 σ H1 _ I1 q1) λu s2 ⟨y,H2,I2,r2,q2⟩=>
  thn (ho pins s2 σ H2 x y v u _ I2 r1 r2 q2) λd s3 ⟨z,H3,I3,r3,q3⟩=>?_)) hm
 cases z with
 |bl k=>
  cases r3;refine pd ?_;cases k with
  |false=>exact ite_ff ⟨.bl xk,H3,I3,rfl,q3.2 rfl⟩|true=>
   refine ite_tt (chain_link (thn (hc pins s3 σ H3 _ I3 (q3.1 rfl)) λw' s4 ⟨z',H4,I4,r4,q4⟩=>thn (aL pins s4 σ H4 y z' u w' _ I4 r2 r4 q4) λd' s5 af=>?_))
   obtain⟨z2,H5,I5,r5,q5⟩:=af;cases z2 with
   |bl k2=>
    cases r5;refine pd ?_;cases k2 with
    |false=>exact ite_ff ⟨.bl xk,H5,I5,rfl,q5.2 rfl⟩|true=>exact ite_tt (chain_last (thn (hd pins s5 σ H5 _ I5 (q5.1 rfl)) λw2 s6 ⟨z3,H6,I6,r6,q6⟩=>bB pins s6 σ H6 z' z3 w' w2 Q I6 r4 r6 q6))
   |_=>exact q5.elim
 |_=>exact q3.elim
end
section
variable {κ:Type}[DecidableEq κ]
noncomputable def valV (kvs:List (κ×V))(k:κ):Option V:=(kvs.find? λkv=>decide (kv.1=k)).map (·.2)
noncomputable def putK (kvs:List (κ×V))(k:κ)(v:V):List (κ×V):=
 if(kvs.any λkv=>decide (kv.1=k))=xj then kvs.map (λkv=>if kv.1=k then(kv.1,v)else kv)else kvs++[(k,v)]
theorem zdF_ {p:κ×V}{r:List (κ×V)}{k:κ}(e:p.1=k):valV (p::r) k=xg p.2:=by simp[valV,qx,e]
theorem zdD_ {p:κ×V}{r:List (κ×V)}{k:κ}(e:¬p.1=k):valV (p::r) k=valV r k:=by simp[valV,qx,e]
theorem zeZ_ (k:κ):∀kvs:List (κ×V),(kvs.any λkv=>decide (kv.1=k))=(valV kvs k).isSome
 |[]=>rfl|p::r=>by
  rw[rq];by_cases e:p.1=k
  ·simp only[zdF_ e,decide_eq_true e,Bool.true_or,Option.isSome_some]
  ·rw[zdD_ e,decide_eq_false e,vB];exact zeZ_ k r
theorem zaF_ (kvs:List (κ×V))(k:κ)(v:V):(putK kvs k v).length<=kvs.length+1:=by
 unfold putK;split
 ·rw[nN];lia
 ·rw[nK,n6,pf];lia
theorem RelO.isSome_eq {o:Option V}{u:Option nI}(r:RelO o u):o.isSome=u.isSome:=by
 cases o with
 |none=>cases u with
  |none=>rfl|some _=>exact(show False from r).elim
 |some _=>cases u with
  |none=>exact(show False from r).elim|some _=>rfl
theorem KV.val {kvs:List (κ×V)}{vs:List (κ×nI)}(r:KV kvs vs)(k:κ):RelO (valV kvs k) (valueAt vs k):=by
 unfold KV at r;induction r with
 |nil=>exact qd| @cons p q ps qs h t ih=>
  obtain⟨h1,h2⟩:=h;by_cases e:p.1=k
  ·have e':q.1=k:=h1.symm.trans e
   have b:valueAt (q::qs) k=xg q.2:=by simp[valueAt,qx,e']
   rw[zdF_ e,b];exact h2
  ·have e':¬q.1=k:=λz=>e (h1.trans z)
   have b:valueAt (q::qs) k=valueAt qs k:=by simp[valueAt,qx,e']
   rw[zdD_ e,b];exact ih
theorem KV.any {kvs:List (κ×V)}{vs:List (κ×nI)}(r:KV kvs vs)(k:κ):(kvs.any λkv=>decide (kv.1=k))=vs.any λkv=>decide (kv.1=k):=by
 unfold KV at r;induction r with
 |nil=>rfl|cons h t ih=>rw[rq,rq,ih,h.1]
theorem KV.repl {kvs:List (κ×V)}{vs:List (κ×nI)}(r:KV kvs vs)(k:κ){y:V}{u:nI}(ry:RelV y u):
  KV (kvs.map λkv=>if kv.1=k then(kv.1,y)else kv) (vs.map λkv=>if kv.1=k then(kv.1,u)else kv):=by
 unfold KV at r ⊢;induction r with
 |nil=>exact .nil| @cons p q ps qs h t ih=>
  rw[nS,nS];refine .cons ?_ ih;obtain⟨h1,h2⟩:=h;by_cases e:p.1=k
  ·rw[if_pos e,if_pos (h1.symm.trans e)];exact⟨h1,ry⟩
  ·rw[if_neg e,if_neg (λz=>e (h1.trans z))];exact⟨h1,h2⟩
theorem KV.put {kvs:List (κ×V)}{vs:List (κ×nI)}(r:KV kvs vs)(k:κ){y:V}{u:nI}(ry:RelV y u):KV (putK kvs k y) (stored vs k u):=by
 unfold putK stored;rw[r.any k];by_cases e:(vs.any λkv=>decide (kv.1=k))=xj
 ·rw[if_pos e,if_pos e];exact r.repl k ry
 ·rw[if_neg e,if_neg e];exact Paired.snoc r ⟨rfl,ry⟩
theorem KV.length {kvs:List (κ×V)}{vs:List (κ×nI)}(r:KV kvs vs):kvs.length=vs.length:=Paired.length r
end
theorem zj1_ {P:oH}{w:oV}{k:Key}{u:nI}(r:RelV (kV k) u):(mixKind P w).is k u=xj:=by
 cases k with
 |inl i=>obtain⟨t,e⟩:=(show∃t,u=tK i t from r);subst e;exact zet_ P w i t|inr x=>obtain⟨t,e⟩:=(show∃t,u=rT x t from r);subst e;exact zeq_ P w x t
theorem zdM_ {P:oH}{w:oV}:∀{ks:List Key}{us:List nI},Vals (ks.map kV) us->ItemsAre (mixKind P w) ks us
 |[],_,r=>by rw[qg]at r;cases r;exact .nil
 |k::ks,_,r=>by
  rw[nS]at r;cases r with
  |cons h t=>exact .cons (zj1_ h) (zdM_ t)
abbrev KT (H:Hp):List (List Key×V)->List (List Key×nR×nI)->Prop:=Paired λp q=>p.1=q.1/\H q.2.1=xg (.tup (p.1.map kV))/\RelV p.2 q.2.2
theorem KT.val {H:Hp}{kvs:List (List Key×V)}{xs:List (List Key×nR×nI)}(r:KT H kvs xs)(k:List Key):RelO (valV kvs k) ((atKey xs k).map (·.2)):=by
 induction r with
 |nil=>exact qd| @cons p q ps qs h t ih=>
  obtain⟨h1,_,h2⟩:=h;by_cases e:p.1=k
  ·have e':q.1=k:=h1.symm.trans e
   have b:atKey (q::qs) k=xg q.2:=by simp[atKey,qx,e']
   rw[zdF_ e,b];exact h2
  ·have e':¬q.1=k:=λz=>e (h1.trans z)
   have b:atKey (q::qs) k=atKey qs k:=by simp[atKey,qx,e']
   rw[zdD_ e,b];exact ih
theorem KT.repl {H:Hp}{kvs:List (List Key×V)}{xs:List (List Key×nR×nI)}(r:KT H kvs xs)(k:List Key){y:V}{u:nI}(ry:RelV y u):
  KT H (kvs.map λkv=>if kv.1=k then(kv.1,y)else kv) (xs.map (putAt k u)):=by
 induction r with
 |nil=>exact .nil| @cons p q ps qs h t ih=>
  rw[nS,nS];refine .cons ?_ ih;obtain⟨h1,h2,h3⟩:=h;unfold putAt;by_cases e:p.1=k
  ·rw[if_pos e,if_pos (h1.symm.trans e)];exact⟨h1,h2,ry⟩
  ·rw[if_neg e,if_neg (λz=>e (h1.trans z))];exact⟨h1,h2,h3⟩
theorem KT.put {H:Hp}{kvs:List (List Key×V)}{xs:List (List Key×nR×nI)}(r:KT H kvs xs)(k:List Key){b:nR}{y:V}{u:nI}(hb:H b=xg (.tup (k.map kV)))(ry:RelV y u):
  KT H (putK kvs k y) (storedH xs k b u):=by
 have e:(kvs.any λkv=>decide (kv.1=k))=(atKey xs k).isSome:=by
  rw[zeZ_,(r.val k).isSome_eq,tD]
 unfold putK storedH;rw[e];by_cases q:(atKey xs k).isSome=xj
 ·rw[if_pos q,if_pos q];exact r.repl k ry
 ·rw[if_neg q,if_neg q];exact Paired.snoc r ⟨rfl,hb,ry⟩
theorem KT.keeps {H H':Hp}{kvs:List (List Key×V)}{xs:List (List Key×nR×nI)}(r:KT H kvs xs)(ht:∀b ys,H b=xg (.tup ys)->H' b=xg (.tup ys)):KT H' kvs xs:=
 Paired.mapP r λ_ _ z=>⟨z.1,ht _ _ z.2.1,z.2.2⟩
section
variable {P:oH}{w:oV}{H:Hp}{h:Heap}{a:nR}
theorem rd_of {u:HO}(ok:HOk P w H h)(e:Rd H a u):ObjOk P w H h a u:=e.ok ok
theorem zhO_ {kvs:List (Key×V)}(ok:HOk P w H h)(e:Rd H a (.dK kvs)):kvs.length<=oh/\(a == sysModules)=xk/\∃vs,KV kvs vs/\h.DictOf (mixKind P w) a vs:=
 show ObjOk P w H h a (.dK kvs)from rd_of ok e
theorem zpY_ {kvs:List (Key×V)}(ok:HOk P w H h)(e:H a=xg (.dK kvs)):kvs.length<=oh/\(a == sysModules)=xk/\∃vs,KV kvs vs/\h.DictOf (mixKind P w) a vs:=zhO_ ok (.inl e)
theorem zgz_ {ks:List Key}(ok:HOk P w H h)(e:H a=xg (.tup (ks.map kV))):(tupleKind (mixKind P w)).is h ks a:=by
 obtain⟨_,aa,r,o,h1,h2,n,h3⟩:=(show ObjOk P w H h a (.tup (ks.map kV))from ok a _ e)
 exact⟨o,aa.toArray,n,h1,h2,h3,by simpa using zdM_ r⟩
theorem zkQ_ {kvs:List (List Key×V)}(ok:HOk P w H h)(e:Rd H a (.dT kvs)):kvs.length<=oh/\(a == sysModules)=xk /\
  ∃xs,KT H kvs xs/\h.DictOfH (tupleKind (mixKind P w)) a xs:=by
 obtain⟨z,y,xs,r,o,es,ep,h1,h2,h3,h4,h5⟩:=(show ObjOk P w H h a (.dT kvs)from rd_of ok e)
 refine⟨z,y,xs,r,o,es,ep,h1,h2,h3,h4,λx hx=>?_,h5⟩
 have all:∀{l:List (List Key×V)}{m:List (List Key×nR×nI)},KT H l m->∀x∈m,(tupleKind (mixKind P w)).is h x.1 x.2.1:=by
  intro l m q;induction q with
  |nil=>intro x hx;exact nomatch hx
  | @cons p q ps qs hq t ih=>
   intro x hx;rcases og.mp hx with e |hx
   ·subst e
    exact zgz_ ok (by rw[<- hq.1];exact hq.2.1)
   ·exact ih x hx
 exact all r x hx
theorem dt_of {kvs:List (List Key×V)}(ok:HOk P w H h)(e:H a=xg (.dT kvs)):kvs.length<=oh/\(a == sysModules)=xk /\
  ∃xs,KT H kvs xs/\h.DictOfH (tupleKind (mixKind P w)) a xs:=zkQ_ ok (.inl e)
end
def DGet (H:Hp)(a:nR)(y:V)(r:Option V):Prop:=
 (∃kvs k,Rd H a (.dK kvs)/\y=kV k/\r=valV kvs k)\/∃kvs k b,Rd H a (.dT kvs)/\y=.ref b/\H b=xg (.tup (k.map kV))/\r=valV kvs k
def DPut (H:Hp)(a:nR)(y v:V)(H':Hp):Prop:=
 (∃kvs k,H a=xg (.dK kvs)/\y=kV k/\kvs.length<oh/\H'=upd H a (.dK (putK kvs k v))) \/
 ∃kvs k b,H a=xg (.dT kvs)/\y=.ref b/\H b=xg (.tup (k.map kV))/\kvs.length<oh/\H'=upd H a (.dT (putK kvs k v))
theorem DPut.k {H:Hp}{a:nR}{kvs:List (Key×V)}{k:Key}{v:V}(e:H a=xg (.dK kvs))(hl:kvs.length<oh):DPut H a (kV k) v (upd H a (.dK (putK kvs k v))):=.inl ⟨kvs,k,e,rfl,hl,rfl⟩
section
variable {X:Cx}{pins:Pnn}{σ:St}{H:Hp}{s:nO}{a:nR}{y v:V}{u r:nI}{o:Option V}{A:ph}{E:nI->nO->Prop}
theorem Inv.big (I:Inv X pins σ H s):sysModules<s.heap.objs.size:=by
 have h:oI<s.heap.objs.size:=(I.mod.glob.keeps I.bk).lt;exact Nat.lt_trans (by decide) h
theorem zgE_ {Q:nI->nO->Prop}(hu:A.units+1<cLine)(I:Inv X pins σ H s)(g:DGet H a y (xg v))(ry:RelV y u)(h:∀w' s',Inv X pins σ H s'->RelV v w'->Q w' s'):
  oB (model X.prog X.w) A (getItem (.ref a) u) Q E s:=by
 rcases g with⟨kvs,k,e,ey,l⟩|⟨kvs,k,b,e,ey,eb,l⟩
 ·subst ey
  obtain⟨z,hd,vs,rel,dd⟩:=zhO_ I.hok e;obtain⟨w',hw,bN⟩:=RelO.some_of (v:=v) (o:=valueAt vs k) (by rw[l];exact rel.val k)
  exact wpAny_getItem_of (zj1_ ry) dd.mapOf hw (h w' _ (I.tok _) bN)
 ·subst ey
  cases(show u=pB b from ry)
  obtain⟨z,hd,xs,rel,dd⟩:=zkQ_ I.hok e;obtain⟨w',hw,bN⟩:=RelO.some_of (v:=v) (o:=(atKey xs k).map (·.2)) (by rw[l];exact rel.val k)
  obtain⟨p,hp,dq⟩:=oF.mp hw;refine wpAny_getItem_heap (tupleKind_room_in1 hu) (zgz_ I.hok eb) dd hp ?_;rw[dq];exact h w' _ (I.tok _) bN
theorem d_in {Q:nI->nO->Prop}(hu:A.units+1<cLine)(I:Inv X pins σ H s)(g:DGet H a y o)(ry:RelV y u)(h:∀s',Inv X pins σ H s'->Q (.bool o.isSome) s'):
  oB (model X.prog X.w) A (oQ .In u (.ref a)) Q E s:=by
 rcases g with⟨kvs,k,e,ey,l⟩|⟨kvs,k,b,e,ey,eb,l⟩
 ·subst ey
  obtain⟨z,hd,vs,rel,dd⟩:=zhO_ I.hok e;refine wpAny_in_of (zj1_ ry) hd dd.mapOf ?_;rw[<- (rel.val k).isSome_eq,<- l];exact h _ (I.tok _)
 ·subst ey
  cases(show u=pB b from ry)
  obtain⟨z,hd,xs,rel,dd⟩:=zkQ_ I.hok e;refine wpAny_in_heap (tupleKind_room_in1 hu) (zgz_ I.hok eb) hd dd ?_;have q:=(rel.val k).isSome_eq;rw[tD]at q;rw[<- q,<- l];exact h _ (I.tok _)
theorem zd2_ {h':Heap}{t':Nat}{ob:HO}(I:Inv X pins σ H s)(mu:Mut (H a))(hs:rG a s.heap h')(he:∃q,h'.get? a=xg q)(new:ObjOk X.prog X.w (upd H a ob) h' a ob):
  Inv X pins σ (upd H a ob) {s with heap:=h',toks:=t'}:=
 I.write (x:=a) (e:=a) mu (.inl rfl) (λb q hb z=>(hs.2 b hb).trans z) he new
theorem zjO_ {P:oH}{w:oV}{H':Hp}{h':Heap}{kvs:List (Key×V)}{vs:List (Key×nI)}(z:kvs.length<=oh)(hd:(a == sysModules)=xk)(rel:KV kvs vs)(dd:h'.DictOf (mixKind P w) a vs):
  ObjOk P w H' h' a (.dK kvs):=⟨z,hd,vs,rel,dd⟩
theorem zgV_ {H':Hp}{Q:Unit->nO->Prop}(hu:A.units+1<cLine)(I:Inv X pins σ H s)(g:DPut H a y v H')(ry:RelV y u)(rv:RelV v r)(h:∀s',Inv X pins σ H' s'->Q () s'):
  oB (model X.prog X.w) A (setItem (.ref a) u r) Q E s:=by
 rcases g with⟨kvs,k,e,ey,l,eH⟩|⟨kvs,k,b,e,ey,eb,l,eH⟩
 ·subst ey eH
  obtain⟨z,hd,vs,rel,dd⟩:=zpY_ I.hok e;have hz:vs.length<=oh:=by rw[<- rel.length];exact z
  have hl:(putK kvs k v).length<=oh:=by have:=zaF_ kvs k v;lia
  refine wpAny_setItem_pairs (hsz:=hz) (zj1_ ry) dd λh' cq hs=>h _ ?_
  have he:∃q,h'.get? a=xg q:=let⟨q,_,_,hq,_⟩:=cq;⟨q,hq⟩
  exact zd2_ I (by rw[e];exact qd) hs he (zjO_ hl hd (rel.put k rv) cq)
 ·subst ey eH
  cases(show u=pB b from ry)
  obtain⟨z,hd,xs,rel,dd⟩:=dt_of I.hok e;have hz:xs.length<=oh:=by rw[<- Paired.length rel];exact z
  have hl:(putK kvs k v).length<=oh:=by have:=zaF_ kvs k v;lia
  refine wpAny_setItem_heap (hsz:=hz) (tupleKind_room_in1 hu) (zgz_ I.hok eb) dd λh' cq hs=>h _ ?_
  obtain⟨q,es,ep,hq,h2,h3,h4,_,h5⟩:=cq;refine zd2_ I (by rw[e];exact qd) hs ⟨q,hq⟩ ⟨hl,hd,_,(rel.put k eb rv).keeps λc ys ec=>?_,q,es,ep,hq,h2,h3,h4,h5⟩
  rw[zm_ (ne_of ec e (λz=>nomatch z))]
  exact ec
variable {kvs:List (Key×V)}
theorem d_len {Q:nI->nO->Prop}(I:Inv X pins σ H s)(e:Rd H a (.dK kvs))(h:∀t s',Inv X pins σ H s'->Q (.int kvs.length t) s'):oB (model X.prog X.w) A (call (.builtin "len") [.ref a]) Q E s:=by
 obtain⟨z,hd,vs,rel,dd⟩:=zhO_ I.hok e;refine call_len_dict hd dd (by rw[<- rel.length];rw[sizeLine_eq]at z;lia) ?_
 rw[<- rel.length];exact h _ _ (I.tok _)
end
def NoSl (i:oq):Prop:=∀ov iv,subscripted i xk ov iv=operate [ov,iv] (getItem ov iv)
theorem subD_of {prog:oH}{w:oV}{A:ph}{E:nI->nO->Prop}{s:nO}{env:Env}{value slice:oq}{pos:Pos}{T id:String}{Q:nI->nO->Prop}
  (hl:typeLookup (.type T) "__getitem__"=pure (xg (.builtin id))) (hs:NoSl slice)
  (h:oB (model prog w) A (eval value env) (λo ae=>oB (model prog w) A (eval slice env) (λi aA=>aA.TypeIs o T/\oB (model prog w) A (getItem o i) Q E aA) E ae) E s):
  oB (model prog w) A (eval (.Subscript value slice pos) env) Q E s:=by
 refine Subscript_ (pN h (λo ae aJ=>pN aJ (λi aA bR=>?_) λ_ _ x=>x) λ_ _ x=>x)
 obtain⟨hT,bR⟩:=bR;unfold subscriptTail;refine nJ ?_;rw[getitemInPython_of_ne hT.not_modules];refine nJ (wpAny_specialOf hT hl ?_);have fin:oB (model prog w) A (subscripted slice xk o i) (λr aw=>oB (model prog w) A (letTemporaryGo value o r>>=λ_=>pure r) Q E aw) E aA:=by
  rw[hs o i];exact wpAny_operating (pN bR (λr aw bQ=>nJ (wpAny_letTemporaryGo (nX bQ))) λ_ _ x=>x)
 first
  |exact nX (nJ fin)
  |exact nJ (nX (nJ fin))
  |exact nJ fin
theorem zel_ {X:Cx}{pins:Pnn}{σ:St}{H:Hp}{s:nO}{a:nR}{y:V}{o:Option V}(I:Inv X pins σ H s)(g:DGet H a y o):s.TypeIs (.ref a) "dict":=by
 rcases g with⟨kvs,k,e,_,_⟩|⟨kvs,k,b,e,_,_,_⟩
 ·obtain⟨_,_,vs,_,dd⟩:=zhO_ I.hok e
  exact dd.typeIs
 ·obtain⟨_,_,xs,_,dd⟩:=zkQ_ I.hok e
  exact dd.typeIs
section
end
theorem zfH_ {P:oH}{w:oV}{H:Hp}(h:Heap)(hb:sysModules<h.objs.size):ObjOk P w H (h.push {cls:=.type "dict",data:=.dict #[]}) h.objs.size (.dK []):=
 ⟨qS _,beq_eq_false_iff_ne.mpr (rA (oR hb)),[],.nil,xf h⟩
def tDNewK:TE:=λ_ H Q=>∀p,H p=xh->Q (.ref p) (upd H p (.dK []))
section
variable {X:Cx}{pos:Pos}
theorem zji_:PE X (.Dict [] [] pos) tDNewK:=λpins s σ H Q I h=>
 wpAny_Dict_empty ⟨.ref s.heap.objs.size,_,I.laid (a:=s.heap.objs.size) (o:=.dK []) (t':=s.toks) (λ_ _ q=>nQ _ q) (nZ _) (zfH_ s.heap I.big),rfl,h _ (I.hok.fresh (nZ _))⟩
end
def tPairs:List (TE×TE)->St->Hp->(List (V×V)->Hp->Prop)->Prop
 |[],_,H,Q=>Q [] H|(tk,tv)::r,σ,H,Q=>tk σ H λx H1=>tv σ H1 λy H2=>tPairs r σ H2 λps H3=>Q ((x,y)::ps) H3
abbrev VV:List (V×V)->List (nI×nI)->Prop:=Paired λp q=>RelV p.1 q.1/\RelV p.2 q.2
def PPs (X:Cx)(pos:Pos)(keys:List (Option oq))(values:List oq)(trs:List (TE×TE)):Prop:=
 ∀(pins:Pnn) (s:nO) (σ:St) (H:Hp) (Q:List (V×V)->Hp->Prop),Inv X pins σ H s->tPairs trs σ H Q ->
  oB (model X.prog X.w) X.A (evalPairs (pairTrees keys values X.env pos)) (λvs s'=>∃ps H',Inv X pins σ H' s'/\VV ps vs/\Q ps H') X.xe s
theorem zhE_ {X:Cx}{pos:Pos}:PPs X pos [] [] []:=λpins s σ H Q I h=>pairTrees_nil_walk ⟨[],H,I,.nil,h⟩
theorem zbQ_ {X:Cx}{pos:Pos}{k v:oq}{ks:List (Option oq)}{vs:List oq}{tk tv:TE}{trs:List (TE×TE)}(hk:PE X k tk)(hv:PE X v tv)(hr:PPs X pos ks vs trs):
  PPs X pos (xg k::ks) (v::vs) ((tk,tv)::trs):=λpins s σ H Q I h=>
 pairTrees_cons_walk (thn (hk pins s σ H _ I h) λu s1 ⟨x,H1,I1,rx,q1⟩=>thn (hv pins s1 σ H1 _ I1 q1) λw2 s2 ⟨y,H2,I2,ry,q2⟩=>
  thn (hr pins s2 σ H2 _ I2 q2) λws s3 ⟨ps,H3,I3,rel,q3⟩=>⟨(x,y)::ps,H3,I3,.cons ⟨rx,ry⟩ rel,q3⟩)
def mergeK (kvs more:List (Key×V)):List (Key×V):=more.foldl (λacc kv=>putK acc kv.1 kv.2) kvs
theorem KV.merge:∀{more:List (Key×V)}{rs:List (Key×nI)}{kvs:List (Key×V)}{vs:List (Key×nI)},KV more rs->KV kvs vs->KV (mergeK kvs more) (merged vs rs):=by
 intro more rs kvs vs r;unfold KV at r;induction r generalizing kvs vs with
 |nil=>intro q;exact q
 | @cons p q ps qs h t ih=>
  intro r0;have e:KV (putK kvs p.1 p.2) (stored vs q.1 q.2):=by
   have:=r0.put p.1 h.2;rw[<- h.1];exact this
  exact ih e
theorem zbq_:∀(more kvs:List (Key×V)),(mergeK kvs more).length<=kvs.length+more.length
 |[],kvs=>by show kvs.length<=kvs.length+0;lia
 |p::r,kvs=>by
  have h1:=zbq_ r (putK kvs p.1 p.2);have h2:=zaF_ kvs p.1 p.2;show(mergeK (putK kvs p.1 p.2) r).length<=_
  rw[n6];lia
theorem zc0_ {P:oH}{w:oV}:∀{kvs:List (Key×V)}{ws:List (nI×nI)},VV (kvs.map λkv=>(kV kv.1,kv.2)) ws->∃rs,Carries (mixKind P w) ws rs/\KV kvs rs
 |[],_,r=>by rw[qg]at r;cases r;exact⟨[],qd,.nil⟩
 |p::kvs,_,r=>by
  rw[nS]at r;cases r with
  | @cons a b as bs h t=>
   obtain⟨rs,c,q⟩:=zc0_ (P:=P) (w:=w) t;obtain⟨b1,b2⟩:=b;exact⟨(p.1,b2)::rs,⟨zj1_ h.1,rfl,c⟩,.cons ⟨rfl,h.2⟩ q⟩
def tDisp (trs:List (TE×TE)):TE:=λσ H Q=>∀p,H p=xh->tPairs trs σ (upd H p (.dK [])) λps H2=>H2 p=xg (.dK [])/\∃kvs:List (Key×V),ps=kvs.map (λkv=>(kV kv.1,kv.2))/\kvs.length<=15/\Q (.ref p) (upd H2 p (.dK (mergeK [] kvs)))
theorem zhI_ {X:Cx}{pos:Pos}{keys:List (Option oq)}{values:List oq}{trs:List (TE×TE)}(h:PPs X pos keys values trs)(dH:keys.all (·.isSome)=xj)(hl:keys.length=values.length)(h0:keys≠[])
  (iw:keys.length<=15):PE X (.Dict keys values pos) (tDisp trs):=by
 intro pins s σ H Q I q;have hn:=I.hok.fresh (nZ s.heap.objs.size);have I1:=I.laid (a:=s.heap.objs.size) (o:=.dK []) (h':=s.heap.push {cls:=.type "dict",data:=.dict #[]}) (t':=s.toks) (λ_ _ q=>nQ _ q) (nZ _) (zfH_ s.heap I.big)
 refine wpAny_Dict_walk (knd:=mixKind X.prog X.w) dH hl h0 iw (thn (h pins _ σ _ _ I1 (q _ hn)) λws s2 af=>?_)
 obtain⟨ps,H2,I2,rel,e,kvs,ep,lk,q2⟩:=af;subst ep;obtain⟨rs,c,rk⟩:=zc0_ (P:=X.prog) (w:=X.w) rel;obtain⟨z,hd,vs0,r0,dd⟩:=zpY_ I2.hok e;cases r0;refine⟨rs,c,dd,λh' cq hs=>⟨.ref s.heap.objs.size,_,?_,rfl,q2⟩⟩
 have hz:(mergeK [] kvs).length<=oh:=by
  have h1:=zbq_ kvs [];rw[pf]at h1;rw[sizeLine_eq];lia
 have he:∃q,h'.get? s.heap.objs.size=xg q:=let⟨q,_,_,hq,_⟩:=cq;⟨q,hq⟩
 exact zd2_ I2 (by rw[e];exact qd) hs he (zjO_ hz hd (rk.merge .nil) cq)
structure M2 (X:Cx)(o:oq)(m:Str)(apos:Pos)(e f:oq)(au:Pos):Prop where
 base:attributeBase o m X.env (eval o X.env)=eval o X.env
 few:((qJ au (oN [e,f] X.env)).all (λx=>!x.1) && (uL au (tw [] X.env)).all (λx=>x.1.isSome)
  && decide (([e,f]:List oq).length+([]:List Keyword).length+(if([]:List Keyword).isEmpty then 0 else 1)<30))=xj
 line:(apos.endLine == au.line)=xj
 trees:qJ au (oN [e,f] X.env)=[(xk,eval e X.env),(xk,eval f X.env)]
def IsD (H:Hp)(a:nR):Prop:=(∃kvs,Rd H a (.dK kvs))\/∃kvs,Rd H a (.dT kvs)
theorem znF_ {X:Cx}{pins:Pnn}{σ:St}{H:Hp}{s:nO}{a:nR}(I:Inv X pins σ H s)(d:IsD H a):
  s.TypeIs (.ref a) "dict" /\ (∀b,pB a=.ref b->∃ob,s.heap.get? b=xg ob/\ob.dict=xh)/\(a==sysModules)=xk:=by
 rcases d with⟨kvs,e⟩|⟨kvs,e⟩
 ·obtain⟨_,hd,vs,_,dd⟩:=zhO_ I.hok e
  refine⟨dd.typeIs,λb q=>?_,hd⟩
  cases q;obtain⟨ob,_,_,h1,h2,_⟩:=dd;exact⟨ob,h1,h2.2.1⟩
 ·obtain⟨_,hd,xs,_,dd⟩:=zkQ_ I.hok e
  refine⟨dd.typeIs,λb q=>?_,hd⟩
  cases q;obtain⟨ob,_,_,h1,h2,_⟩:=dd;exact⟨ob,h1,h2.2.1⟩
section
end
section
namespace L2
open PySem PySem.Spec PyProof.Rows
section
end
section
variable {κ:Type}[DecidableEq κ]
end
end L2
end
section
end
def keyV:V->Option Key
 |.int i=>xg (.inl i)|.str z=>xg (.inr z)|_=>xh
theorem zhZ_ {y:V}{k:Key}(h:keyV y=xg k):y=kV k:=by
 cases y<;>first |(cases h;rfl)|cases h
def atD (x y:V)(H:Hp)(R:nR->List (Key×V)->Key->Prop):Prop:=match x with
 |.ref a=>(match keyV y with |some k=>∃kvs,H a=xg (.dK kvs)/\R a kvs k |none=>False)|_=>False
theorem zl4_ {x y:V}{H:Hp}{R:nR->List (Key×V)->Key->Prop}(h:atD x y H R):∃a kvs k,x=.ref a/\y=kV k/\H a=xg (.dK kvs)/\R a kvs k:=by
 unfold atD at h;cases x with
 |ref a=>
  cases e:keyV y with
  |none=>rw[e]at h;exact h.elim|some k=>
   rw[e]at h;obtain⟨kvs,h1,h2⟩:=h;exact⟨a,kvs,k,rfl,zhZ_ e,h1,h2⟩
 |_=>exact h.elim
section
end
inductive Av where
 |i (n:Int)|p (a b:Int)
inductive Xc where
 |pl (c:String)|at(c:String) (as:List (Str×Av))
instance:Coe String Xc:=⟨Xc.pl⟩
inductive Mo (α:Type) where
 |ok (a:α)|ex (c:Xc)|no
namespace Mo
variable {α β γ:Type}
noncomputable def bind (x:Mo α)(f:α->Mo β):Mo β:=match x with |.ok a=>f a |.ex c=>.ex c |.no=>.no
theorem bind_assoc (x:Mo α)(f:α->Mo β)(g:β->Mo γ):(x.bind f).bind g=x.bind λa=>(f a).bind g:=by cases x<;>rfl
noncomputable def noex (x:Mo α):Mo α:=match x with |.ok a=>.ok a |_=>.no
noncomputable def lim (n:Nat)(k:Mo α):Mo α:=if n<=oh then k else .no
theorem lim_ok {n:Nat}{k:Mo α}(h:n<=100000):lim n k=k:=if_pos (zan_ h)
noncomputable def grd (p:Prop)[Decidable p](k:Mo α):Mo α:=if p then k else .no
theorem grd_ok {p:Prop}[Decidable p]{k:Mo α}(h:p):grd p k=k:=if_pos h
noncomputable def opt (x:Option α):Mo α:=match x with |some a=>.ok a |none=>.no
end Mo
def un (F h:Hp):Hp:=λp=>match F p with |some o=>xg o |none=>h p
def Dj (F h:Hp):Prop:=∀p,F p=xh\/h p=xh
def Jn (h1 h2 h:Hp):Prop:=∀p,(h1 p=xh/\h p=h2 p)\/(h2 p=xh/\h p=h1 p)
def Ext (F H F' H':Hp):Prop:=Same F F'/\Same F' H'/\Same H H'/\∀p,F p=xh->F' p≠xh->H p=xh
theorem Ext.refl {F H:Hp}(h:Same F H):Ext F H F H:=⟨Same.refl _,h,Same.refl _,λp a b=>absurd a b⟩
theorem Ext.trans {F H F1 H1 F2 H2:Hp}(a:Ext F H F1 H1)(b:Ext F1 H1 F2 H2):Ext F H F2 H2:=by
 obtain⟨a1,a2,a3,a4⟩:=a;obtain⟨b1,b2,b3,b4⟩:=b;refine⟨a1.trans b1,b2,a3.trans b3,λp hp hq=>?_⟩
 cases e:F1 p with
 |none=>exact a3.free (b4 p e hq)|some o=>exact a4 p hp (by rw[e];exact sN _)
theorem Ext.heap {F H H':Hp}(h:Same F H)(g:Same H H'):Ext F H F H':=⟨Same.refl _,h.trans g,g,λp a b=>absurd a b⟩
theorem Ext.new {F H:Hp}(h:Same F H){p:nR}{o:HO}(hp:H p=xh):Ext F H (upd F p o) (upd H p o):=by
 refine⟨zC_ (h.free hp) _,λb u e=>?_,zC_ hp _,λq a b=>?_⟩
 ·unfold upd at e ⊢
  split
  ·rename_i z;rw[if_pos z]at e;exact e
  ·rename_i z;rw[if_neg z]at e;exact h _ _ e
 ·unfold upd at b
  split at b
  ·rename_i z;rw[z];exact hp
  ·exact absurd a b
structure Ty (α:Type) where
 R:α->V->Hp->Prop
 mono:∀{a v H H'},Same H H'->R a v H->R a v H'
def Tups (H H':Hp):Prop:=∀p xs,H p=xg (.tup xs)->H' p=xg (.tup xs)
abbrev tyInt:Ty Int:=⟨λa v _=>v=.int a,λ_ h=>h⟩
structure Cs (γ:Type) where
 R:γ->List V->Hp->Prop
 mono:∀{c vs H H'},Same H H'->R c vs H->R c vs H'
abbrev Prs {α:Type}(T:Ty α)(H:Hp)(xs:List α)(vs:List V):Prop:=Paired (λx v=>T.R x v H) xs vs
theorem zbS_ {α β:Type}{R R':α->β->Prop}(h:∀a b,R a b->R' a b):∀{xs:List α}{ys:List β},Paired R xs ys->Paired R' xs ys
 |_,_,.nil=>.nil|_,_,.cons a t=>.cons (h _ _ a) (zbS_ h t)
theorem Prs.mono {α:Type}{T:Ty α}{H H':Hp}{xs:List α}{vs:List V}(g:Same H H')(h:Prs T H xs vs):Prs T H' xs vs:=zbS_ (λ_ _ r=>T.mono g r) h
noncomputable abbrev tyL {α:Type}(T:Ty α):Ty (List α):=⟨λxs v H=>∃p vs,v=.ref p/\H p=xg (.lst vs)/\Prs T H xs vs,λg ⟨p,vs,e,h,q⟩=>⟨p,vs,e,g _ _ h,q.mono g⟩⟩
structure Own (α:Type) where
 O:α->V->Hp->Hp->Prop
 fr:Ty α
 mono:∀{a v F F' h},Same F F'->O a v F h->O a v F' h
 frz:∀{a v F h},Dj F h->O a v F h->fr.R a v (un F h)
 notup:∀{a v F h},O a v F h->∀p xs,h p≠xg (.tup xs)
theorem z7_ {F h:Hp}:Same F (un F h):=λp o e=>by unfold un;rw[e]
theorem zdG_ {F h:Hp}(d:Dj F h):Same h (un F h):=λp o e=>by
 unfold un;rcases d p with z |z
 ·rw[z];exact e
 ·rw[z]at e;cases e
def one (p:nR)(o:HO):Hp:=λq=>if q=p then xg o else xh
theorem zB_ {p:nR}{o:HO}:one p o p=xg o:=if_pos rfl
inductive Sl:Type 1 where
 |dead
 |fz {α:Type}(T:Ty α) (a:α)
 |ow {α:Type}(O:Own α) (a:α)
def Sl.P:Sl->Option V->Hp->Hp->Prop
 |.dead,_,_,_=>True|.fz T a,o,F,_=>∃v,o=xg v/\T.R a v F|.ow O a,o,F,h=>∃v,o=xg v/\O.O a v F h
def Sl.Z:Sl->Option V->Hp->Prop
 |.dead,_,_=>True|.fz T a,o,F=>∃v,o=xg v/\T.R a v F|.ow O a,o,F=>∃v,o=xg v/\O.fr.R a v F
def Hold:List Sl->St->Hp->Hp->Prop
 |[],[],_,_=>True|s::L,o::σ,F,h=>∃h1 h2,Jn h1 h2 h/\s.P o F h1/\Hold L σ F h2|_,_,_,_=>False
def HoldF (L:List Sl)(σ:St)(F:Hp):Prop:=∀(i:Nat) (s:Sl),L[i]?=xg s->s.Z (σ[i]?.join) F
theorem Sl.P.mono {s:Sl}{o:Option V}{F F' h:Hp}(g:Same F F')(q:s.P o F h):s.P o F' h:=by
 cases s with
 |dead=>exact q|fz T a=>obtain⟨v,e,r⟩:=q;exact⟨v,e,T.mono g r⟩|ow O a=>obtain⟨v,e,r⟩:=q;exact⟨v,e,O.mono g r⟩
theorem Sl.Z.mono {s:Sl}{o:Option V}{F F':Hp}(g:Same F F')(q:s.Z o F):s.Z o F':=by
 cases s with
 |dead=>exact q|fz T a=>obtain⟨v,e,r⟩:=q;exact⟨v,e,T.mono g r⟩|ow O a=>obtain⟨v,e,r⟩:=q;exact⟨v,e,O.fr.mono g r⟩
theorem HoldF.mono {L:List Sl}{σ:St}{F F':Hp}(g:Same F F')(q:HoldF L σ F):HoldF L σ F':=λi s e=>(q i s e).mono g
theorem Hold.mono:∀{L:List Sl}{σ:St}{F F' h:Hp},Same F F'->Hold L σ F h->Hold L σ F' h
 |[],[],_,_,_,_,q=>q|s::L,o::σ,F,F',h,g,q_=>by obtain⟨h1,h2,j,p,r⟩:=q_;exact⟨h1,h2,j,p.mono g,r.mono g⟩
 |[],_::_,_,_,_,_,q=>q.elim|_::_,[],_,_,_,_,q=>q.elim
theorem Jn.l {h1 h2 h:Hp}(j:Jn h1 h2 h):Same h1 h:=λp o e=>by
 rcases j p with⟨a,b⟩|⟨a,b⟩
 ·rw[a]at e;cases e
 ·rw[b];exact e
theorem Jn.r {h1 h2 h:Hp}(j:Jn h1 h2 h):Same h2 h:=λp o e=>by
 rcases j p with⟨a,b⟩|⟨a,b⟩
 ·rw[b];exact e
 ·rw[a]at e;cases e
theorem Jn.dj {h1 h2 h:Hp}(j:Jn h1 h2 h):Dj h1 h2:=λp=>by
 rcases j p with⟨a,b⟩|⟨a,b⟩
 ·exact .inl a
 ·exact .inr a
theorem zcF_ {h1 h2:Hp}(d:Dj h1 h2):Jn h1 h2 (un h1 h2):=λp=>by
 unfold un;rcases d p with a |a
 ·rw[a];exact .inl ⟨rfl,rfl⟩
 ·refine .inr ⟨a,?_⟩
  cases h1 p with
  |none=>exact a|some o=>rfl
theorem Hold.at:∀{L:List Sl}{σ:St}{F h:Hp}(i:Nat) {s:Sl},Hold L σ F h->L[i]?=xg s ->
  ∃o h1 h2,σ[i]?=xg o/\Jn h1 h2 h/\s.P o F h1/\∀s' o' h1' h',Jn h1' h2 h'->s'.P o' F h1'->Hold (L.set i s') (σ.set i o') F h'
 |[],_,_,_,_,_,_,e=>by cases e
 |s::L,[],_,_,_,_,q,_=>q.elim
 |s::L,o::σ,F,h,0,t,q_,e=>by
  obtain⟨h1,h2,j,p,r⟩:=q_;cases e;exact⟨o,h1,h2,rfl,j,p,λs' o' h1' h' j' p'=>⟨h1',h2,j',p',r⟩⟩
 |s::L,o::σ,F,h,i+1,t,q_,e=>by
  obtain⟨h1,h2,j,p,r⟩:=q_;obtain⟨o1,k1,k2,e1,j1,p1,f⟩:=Hold.at i r (by simpa using e)
  have d1:Dj h1 k1:=λp=>by
   rcases j.dj p with a |a
   ·exact .inl a
   ·exact .inr (j1.l.free a)
  have d2:Dj h1 k2:=λp=>by
   rcases j.dj p with a |a
   ·exact .inl a
   ·exact .inr (j1.r.free a)
  refine⟨o1,k1,un h1 k2,by simpa using e1,λp=>?_,p1,λs' o' b_ h' j' p'=>?_⟩
  ·rcases j p with⟨a,b⟩|⟨a,b⟩
   ·rcases j1 p with⟨c,d⟩|⟨c,d⟩
    ·refine .inl ⟨c,?_⟩;unfold un;rw[a,b,d]
    ·refine .inr ⟨?_,by rw[b,d]⟩;unfold un;rw[a,c]
   ·refine .inl ⟨j1.l.free a,?_⟩
    have:k2 p=xh:=j1.r.free a;unfold un;rw[b];cases h1 p with
    |none=>rw[this]|some u=>rfl
  ·have dd:Dj b_ k2:=λp=>by
    rcases j' p with⟨a,b⟩|⟨a,b⟩
    ·exact .inl a
    ·right;unfold un at a
     cases z:h1 p with
     |none=>rw[z]at a;exact a|some u=>rw[z]at a;cases a
   refine⟨h1,un b_ k2,λp=>?_,p,f s' o' b_ _ (zcF_ dd) p'⟩
   rcases j' p with⟨a,b⟩|⟨a,b⟩
   ·unfold un at b ⊢
    cases z:h1 p with
    |none=>rw[z]at b;exact .inl ⟨rfl,by rw[b,a]⟩|some u=>
     rw[z]at b;refine .inr ⟨?_,b⟩;rw[a];rcases d2 p with y |y
     ·rw[y]at z;cases z
     ·exact y
   ·unfold un at a
    cases z:h1 p with
    |some u=>rw[z]at a;cases a|none=>
     rw[z]at a;refine .inl ⟨rfl,?_⟩;unfold un;rw[b];cases b_ p with
     |none=>exact a.symm|some u=>rfl
theorem Hold.froz {L:List Sl}{σ:St}{F h:Hp}(d:Dj F h)(q:Hold L σ F h):HoldF L σ (un F h):=by
 intro i s e;obtain⟨o,h1,h2,e1,j,p,_⟩:=q.at i e;rw[e1];have d1:Dj F h1:=λp=>by
  rcases d p with a |a
  ·exact .inl a
  ·exact .inr (j.l.free a)
 cases s with
 |dead=>trivial|fz T a=>obtain⟨v,e2,r⟩:=p;exact⟨v,e2,T.mono z7_ r⟩|ow O a=>
  obtain⟨v,e2,r⟩:=p;refine⟨v,e2,O.fr.mono (λp u z=>?_) (O.frz d1 r)⟩
  unfold un at z ⊢;cases y:F p with
  |some w=>rw[y]at z;exact z|none=>rw[y]at z;exact j.l _ _ z
end L2
namespace L2
open PySem PySem.Spec PyProof.Rows
def Av.R:Av->V->Hp->Prop
 |.i n,v,_=>v=.int n|.p a b,v,H=>∃q,v=.ref q/\H q=xg (.tup [.int a,.int b])
theorem Av.imm {x:Av}{v:V}{H H':Hp}(g:Tups H H')(h:x.R v H):x.R v H':=by
 cases x with
 |i n=>exact h|p a b=>obtain⟨q,e,z⟩:=h;exact⟨q,e,g _ _ z⟩
def AtR (as:List (Str×Av))(fs:List (Str×V))(F:Hp):Prop:=Paired (λa f=>a.1=f.1/\a.2.R f.2 F) as fs
theorem AtR.imm {as:List (Str×Av)}{fs:List (Str×V)}{H H':Hp}(g:Tups H H')(h:AtR as fs H):AtR as fs H':=zbS_ (λ_ _ r=>⟨r.1,Av.imm g r.2⟩) h
def Tell (K:Fgg)(E:XK)(x:Xc)(H0 F H:Hp):Prop:=match x with
 |.pl c=>E (.ref (gA K c)) xh H|.at c as=>∀dx fs,H0 dx=xh->F dx=xg (XDO dx fs)->AtR as fs F->E (.ref (gA K c)) (xg dx) H
theorem Tell.up {K:Fgg}{E:XK}{x:Xc}{H0 H1 F H:Hp}(s:Same H0 H1)(h:Tell K E x H0 F H):Tell K E x H1 F H:=by
 cases x with
 |pl c=>exact h|«at» c as=>exact λdx fs e=>h dx fs (s.free e)
def After {α:Type}(K:Fgg)(r:Mo α)(E:XK)(F H:Hp)(k:α->Hp->Hp->Prop):Prop:=match r with
 |.ok a=>∀F' H',Ext F H F' H'->k a F' H'|.ex c=>∀F' H',Ext F H F' H'->Tell K E c H F' H'|.no=>False
section
variable {K:Fgg}{E:XK}{α β γ:Type}{F H:Hp}
theorem After.bind {r:Mo α}{f:α->Mo β}{k:β->Hp->Hp->Prop}(h:After K (r.bind f) E F H k):After K r E F H λa F1 H1=>After K (f a) E F1 H1 k:=by
 cases r with
 |ok a=>
  intro F1 H1 x;have h':After K (f a) E F H k:=h;cases e:f a with
  |ok b=>rw[e]at h';exact λF2 H2 y=>h' F2 H2 (x.trans y)|ex c=>rw[e]at h';exact λF2 H2 y=>(h' F2 H2 (x.trans y)).up x.2.2.1|no=>rw[e]at h';exact h'
 |ex c=>exact h|no=>exact h
theorem After.imp {r:Mo α}{k k':α->Hp->Hp->Prop}(h:After K r E F H k)(g:∀a F' H',Ext F H F' H'->k a F' H'->k' a F' H'):After K r E F H k':=by
 cases r with
 |ok a=>exact λF' H' x=>g a F' H' x (h F' H' x)|ex c=>exact h|no=>exact h
theorem After.ok {a:α}{k:α->Hp->Hp->Prop}(hs:Same F H)(h:After K (.ok a) E F H k):k a F H:=h F H (.refl hs)
theorem After.lim {n:Nat}{r:Mo α}{k:α->Hp->Hp->Prop}(h:After K (Mo.lim n r) E F H k):n<=oh/\After K r E F H k:=by
 unfold Mo.lim at h;split at h
 ·exact⟨by assumption,h⟩
 ·exact h.elim
theorem After.grd {p:Prop}[Decidable p]{r:Mo α}{k:α->Hp->Hp->Prop}(h:After K (Mo.grd p r) E F H k):p/\After K r E F H k:=by
 unfold Mo.grd at h;split at h
 ·exact⟨by assumption,h⟩
 ·exact h.elim
theorem After.opt {x:Option α}{k:α->Hp->Hp->Prop}(h:After K (Mo.opt x) E F H k):∃a,x=xg a/\After K (.ok a) E F H k:=by
 cases x with
 |none=>exact h.elim|some a=>exact⟨a,rfl,h⟩
def EvF (K:Fgg)(e:TE)(E:XK)(L:List Sl)(r:Mo α)(T:Ty α):Prop:=
 ∀σ F H (Q:VK),HoldF L σ F->Same F H->After K r E F H (λa F' H'=>∀v,T.R a v F'->Q v H')->e σ H Q
def OwnK (O:Own α)(H:Hp)(Q:VK)(a:α)(F' H':Hp):Prop:=∀v h,(∀p,h p≠xh->H p=xh)->Dj F' h->Same h H'->O.O a v F' h->Q v H'
def EvO (K:Fgg)(e:TE)(E:XK)(L:List Sl)(r:Mo α)(O:Own α):Prop:=
 ∀σ F H (Q:VK),HoldF L σ F->Same F H->After K r E F H (OwnK O H Q)->e σ H Q
def EvT (K:Fgg)(t:TT)(E:XK)(L:List Sl)(r:Mo Bool):Prop:=
 ∀σ F H (Q:Bool->Hp->Prop),HoldF L σ F->Same F H->After K r E F H (λb _ H'=>Q b H')->t σ H Q
def EvA (K:Fgg)(t:TA)(E:XK)(L:List Sl)(r:Mo γ)(C:Cs γ):Prop:=
 ∀σ F H (Q:List V->Hp->Prop),HoldF L σ F->Same F H->After K r E F H (λc F' H'=>∀vs,C.R c vs F'->Q vs H')->t σ H Q
variable {L:List Sl}{e e1 e2:TE}{T:Ty α}{r:Mo α}
theorem EvO.fr {O:Own α}(h:EvO K e E L r O):EvF K e E L r O.fr:=by
 intro σ F H Q hL hs q;refine h σ F H Q hL hs ?_;cases r with
 |ok a=>
  intro F' H' x v h' fresh d s o;refine q (un F' h') H' ⟨x.1.trans z7_,λp o e=>?_,x.2.2.1,λp a b=>?_⟩ v (O.frz d o)
  ·unfold un at e
   cases z:F' p with
   |some w=>rw[z]at e;cases e;exact x.2.1 _ _ z|none=>rw[z]at e;exact s _ _ e
  ·unfold un at b
   cases z:F' p with
   |some w=>exact x.2.2.2 p a (by rw[z];exact sN _)|none=>rw[z]at b;exact fresh p b
 |ex c=>exact q|no=>exact q
def Op2O (K:Fgg)(m:R2)(E:XK)(T1:Ty α)(T2:Ty β)(g:α->β->Mo γ)(O:Own γ):Prop:=
 ∀a b x y F H (Q:VK),Same F H->T1.R a x F->T2.R b y F->After K (g a b) E F H (OwnK O H Q)->m x y H Q
theorem OwnK.back {O:Own α}{H H1:Hp}{Q:VK}{a:α}{F' H':Hp}(g:Same H H1)(h:OwnK O H Q a F' H'):OwnK O H1 Q a F' H':=
 λv k fresh d s o=>h v k (λp z=>g.free (fresh p z)) d s o
theorem zoB_ {m:R2}{T1:Ty α}{T2:Ty β}{O:Own γ}{g:α->β->Mo γ}{r1:Mo α}{r2:Mo β}(k8:Op2O K m E T1 T2 g O)(h1:EvF K e1 E L r1 T1)(h2:EvF K e2 E L r2 T2):
  EvO K (tOp m e1 e2) E L (r1.bind λa=>r2.bind λb=>g a b) O:=by
 intro σ F H Q hL hs q;refine h1 σ F H _ hL hs (q.bind.imp λa F1 H1 x1 k1 v1 aK=>?_)
 refine h2 σ F1 H1 _ (hL.mono x1.1) x1.2.1 (k1.bind.imp λb F2 H2 x2 k2 v2 c7=>?_)
 exact k8 a b v1 v2 F2 H2 Q x2.2.1 (T1.mono x2.1 aK) c7 (k2.imp λc F3 H3 x3 k3=>k3.back (x1.2.2.1.trans x2.2.2.1))
noncomputable instance (i j:Int):Decidable (CMul i j):=inferInstanceAs (Decidable (_\/_))
noncomputable instance (i j:Int):Decidable (CDiv i j):=inferInstanceAs (Decidable (_/\_))
noncomputable instance (i j:Int):Decidable (CPow i j):=inferInstanceAs (Decidable (_/\_/\_))
theorem Prs.append {xs ys:List α}{vs us:List V}(a:Prs T H xs vs)(b:Prs T H ys us):Prs T H (xs++ys) (vs++us):=by
 induction a with
 |nil=>exact b|cons r t ih=>exact .cons r ih
theorem Prs.len {xs:List α}{vs:List V}(a:Prs T H xs vs):xs.length=vs.length:=Paired.length a
theorem Prs.get {xs:List α}{vs:List V}(a:Prs T H xs vs)(i:Nat):(xs[i]?=xh/\vs[i]?=xh)\/∃x v,xs[i]?=xg x/\vs[i]?=xg v/\T.R x v H:=by
 induction a generalizing i with
 |nil=>exact .inl ⟨rfl,rfl⟩|cons r t ih=>
  cases i with
  |zero=>exact .inr ⟨_,_,rfl,rfl,r⟩|succ i=>simpa using ih i
theorem Prs.take {xs:List α}{vs:List V}(a:Prs T H xs vs)(n:Nat):Prs T H (xs.take n) (vs.take n):=by
 induction a generalizing n with
 |nil=>rw[uC,uC];exact .nil|cons r t ih=>
  cases n with
  |zero=>exact .nil|succ n=>exact .cons r (ih n)
theorem Prs.drop {xs:List α}{vs:List V}(a:Prs T H xs vs)(n:Nat):Prs T H (xs.drop n) (vs.drop n):=by
 induction a generalizing n with
 |nil=>rw[vC,vC];exact .nil|cons r t ih=>
  cases n with
  |zero=>exact .cons r t|succ n=>exact ih n
def BlO (K:Fgg)(m:List V->Hp->VK->Prop)(E:XK)(C:Cs γ)(g:γ->Mo α)(O:Own α):Prop:=
 ∀c vs F H (Q:VK),Same F H->C.R c vs F->After K (g c) E F H (OwnK O H Q)->m vs H Q
theorem zou_ {m:List V->Hp->VK->Prop}{C:Cs γ}{g:γ->Mo α}{O:Own α}{ta:TA}{r:Mo γ}(hb:BlO K m E C g O)(h:EvA K ta E L r C):EvO K (tCB m ta) E L (r.bind g) O:=by
 intro σ F H Q hL hs q;exact h σ F H _ hL hs (q.bind.imp λc F1 H1 x1 k1 vs cA=>hb c vs F1 H1 Q x1.2.1 cA (k1.imp λa F2 H2 x2 k2=>k2.back x1.2.2.1))
theorem zli_ {xs:List α}{vs:List V}(r:Prs T H xs vs){i:Int}{x:α}(e:atI xs i=xg x):∃v,atI vs i=xg v/\T.R x v H:=by
 unfold atI at e ⊢;rw[<- r.len];cases e1:ixN xs.length i with
 |none=>rw[e1]at e;cases e|some j=>
  rw[e1]at e;rcases r.get j with⟨a,b⟩|⟨y,v,a,b,c⟩
  ·have:xs[j]?=xg x:=e
   rw[a]at this;cases this
  ·have:xs[j]?=xg x:=e
   rw[a]at this;cases this;exact⟨v,b,c⟩
end
section
variable {K:Fgg}{E:XK}{α:Type}{F H:Hp}{L:List Sl}{e1 e2:TE}{T:Ty α}{r:Mo α}{t:TT}{b:Mo Bool}
theorem zpF_ {r1 r2:Mo α}{O:Own α}(ht:EvT K t E L b)(h1:EvO K e1 E L r1 O)(h2:EvO K e2 E L r2 O):EvO K (mIf t e1 e2) E L (b.bind λc=>if c then r1 else r2) O:=by
 intro σ F H Q hL hs q;refine ht σ F H _ hL hs (q.bind.imp λa F1 H1 x k=>⟨λc=>?_,λc=>?_⟩)
 ·rw[if_pos c]at k;exact h1 σ F1 H1 _ (hL.mono x.1) x.2.1 (k.imp λa F2 H2 y z=>z.back x.2.2.1)
 ·rw[if_neg (by rw[c];decide)]at k;exact h2 σ F1 H1 _ (hL.mono x.1) x.2.1 (k.imp λa F2 H2 y z=>z.back x.2.2.1)
theorem After.more {k:α->Hp->Hp->Prop}(h:After K r E F H k):After K r E F H λa F1 H1=>∀F2 H2,Ext F1 H1 F2 H2->k a F2 H2:=by
 cases r with
 |ok a=>exact λF1 H1 x F2 H2 y=>h F2 H2 (x.trans y)|ex c=>exact h|no=>exact h
def EvP (K:Fgg)(t:TO)(E:XK)(L:List Sl)(r:Mo (Option Int)):Prop:=
 ∀σ F H (Q:Option Int->Hp->Prop),HoldF L σ F->Same F H->After K r E F H (λb _ H'=>Q b H')->t σ H Q
theorem ep_no:EvP K tNoPart E L (.ok xh):=λσ F H Q hL hs q=>q.ok hs
def cutG (xs:List α)(lo hi:Option Int):List α:=(xs.drop (HT.sIx xs.length 0 lo)).take (HT.sIx xs.length xs.length hi-HT.sIx xs.length 0 lo)
theorem zmP_ {xs:List α}{vs:List V}(q:Prs T H xs vs)(lo hi:Option Int):Prs T H (cutG xs lo hi) (cutV vs lo hi):=by
 unfold cutG cutV;rw[<- q.len];exact(q.drop _).take _
theorem EqD.le {H:Hp}{n m:Nat}{x y:V}{b:Bool}(h:EqD K H n x y b)(g:n<=m):EqD K H m x y b:=by
 induction g with
 |refl=>exact h|step _ ih=>exact .up ih
noncomputable def zfL (l:List Nat)(i:Int):List Nat:=(Txt.zfill ⟨l.toArray⟩ i).cps.toList
end
section
variable {K:Fgg}{E:XK}{α β:Type}{F H:Hp}{L:List Sl}{e:TE}{T:Ty α}{r:Mo α}
noncomputable def setL (L:List Sl)(ss:List (Nat×Sl)):List Sl:=ss.foldl (λL q=>L.set q.1 q.2) L
def setS (σ:St)(ss:List (Nat×Option V)):St:=ss.foldl (λL q=>L.set q.1 q.2) σ
inductive Plain (F:Hp):List (Nat×Sl)->List (Nat×Option V)->Prop
 |nil:Plain F [] []
 |cons {α:Type}{T:Ty α}{a:α}{i:Nat}{v:V}{ss vs} (h:T.R a v F) (t:Plain F ss vs):Plain F ((i,.fz T a)::ss) ((i,xg v)::vs)
def TgR (K:Fgg)(g:TG)(T:Ty α)(ss:α->List (Nat×Sl)):Prop:=
 ∀a v σ F H (Q:St->Hp->Prop),Same F H->T.R a v F->(∀vs,Plain F (ss a) vs->Q (setS σ vs) H)->g v σ H Q
theorem zfJ_ {σ:St}{i j:Nat}{o:Option V}(h:i<σ.length):((σ.set i o)[j]?).join=if i=j then o else(σ[j]?).join:=by
 rw[oY];split
 ·rename_i e;subst e;first |rfl |(rw[if_pos h];rfl)
 ·rfl
theorem zgM_ {σ:St}{i:Nat}{s:Sl}{o:Option V}(hl:L.length=σ.length)(h:HoldF L σ F)(hs:s.Z o F):HoldF (L.set i s) (σ.set i o) F:=by
 intro j t e;rw[oY]at e;split at e
 ·rename_i z;subst z
  split at e
  ·rename_i y;cases e
   rw[zfJ_ (by rw[<- hl];exact y),if_pos rfl];exact hs
  ·cases e
 ·rename_i z
  by_cases y:i<σ.length
  ·rw[zfJ_ y,if_neg z];exact h j t e
  ·rw[List.set_eq_of_length_le (by lia)];exact h j t e
theorem zem_ {ss:List (Nat×Sl)}{vs:List (Nat×Option V)}(p:Plain F ss vs):∀{L:List Sl}{σ:St},L.length=σ.length->HoldF L σ F->HoldF (setL L ss) (setS σ vs) F/\(setS σ vs).length=σ.length/\(setL L ss).length=L.length:=by
 induction p with
 |nil=>exact λhl h=>⟨h,rfl,rfl⟩|cons hv t ih=>
  rename_i T a i v ss vs
  intro L σ hl h;obtain⟨a1,b,c⟩:=ih (L:=L.set i (.fz T a)) (σ:=σ.set i (xg v)) (by rw[pH,pH];exact hl) (zgM_ (s:=.fz T a) hl h ⟨v,rfl,hv⟩)
  exact⟨a1,b.trans (by rw[pH]),c.trans (by rw[pH])⟩
def DeadAt (L:List Sl)(is:List Nat):Prop:=∀i∈is,∀s,L[i]?=xg s->s=.dead
theorem ziM_ {ss:List (Nat×Sl)}{vs:List (Nat×Option V)}(p:Plain F ss vs){j:Nat}:∀{σ:St},j∉ss.map (·.1)->(setS σ vs)[j]?=σ[j]?:=by
 induction p with
 |nil=>exact λ_=>rfl|cons hv t ih=>
  rename_i i v ss vs
  intro σ hj;have h1:i≠j:=λz=>hj (by rw[<- z];exact nV)
  have h2:=ih (σ:=σ.set i (xg v)) λz=>hj (nY _ z)
  exact h2.trans (pI h1)
structure Yl (K:Fgg)(J:It)(xs:List α)(T:Ty α)(F1:Hp):Prop where
 go:∀i H x,Same F1 H->xs[i]?=xg x->J.go i H/\∀v H',J.yld i H v H'->∀F,Same F1 F->Same F H->∃F',Ext F H F' H'/\T.R x v F'
 stop:∀H,Same F1 H->J.stop xs.length H
def EvI (K:Fgg)(wi:TI)(E:XK)(L:List Sl)(r:Mo (List α))(T:Ty α):Prop:=
 ∀σ F H (R:It->Hp->Prop),HoldF L σ F->Same F H->After K r E F H (λxs F' H'=>∀J,Yl K J xs T F'->R J H')->wi σ H R
noncomputable def rngI (lo:Int)(n:Nat):List Int:=(oU n).map λ(i:Nat)=>lo+i
theorem zoz_ {lo:Int}{n:Nat}{F1:Hp}:Yl K (Itr lo n) (rngI lo n) tyInt F1:=by
 refine⟨λi H x hH hx=>?_,λH hH=>?_⟩
 ·unfold rngI at hx
  rw[om]at hx;cases e:(oU n)[i]? with
  |none=>rw[e]at hx;cases hx|some c=>
   rw[e]at hx;cases hx;obtain⟨hi,e⟩:=oA.mp e;rw[uH]at e;subst e;rw[oW]at hi;refine⟨hi,?_⟩;rintro v H' ⟨rfl,rfl⟩ F _ hF;exact⟨F,.refl hF,rfl⟩
 ·show n<=_
  unfold rngI;rw[nN,oW];exact nZ _
noncomputable def enumL (xs:List α):List (Int×α):=(oU xs.length).zip xs |>.map λq=>((q.1:Int),q.2)
theorem zef_ (xs:List α)(i:Nat):(enumL xs)[i]?=(xs[i]?).map λx=>((i:Int),x):=by
 unfold enumL;rw[om];cases e:xs[i]? with
 |none=>
  have:=List.getElem?_eq_none_iff.mp e;rw[uo (by rw[qk,oW];lia)];rfl
 |some x=>
  have hi:=(oA.mp e).1;have:((oU xs.length).zip xs)[i]?=xg (i,x):=rL.mpr ⟨by rw[List.getElem?_range hi],e⟩
  rw[this];rfl
theorem zbu_ (xs:List α):(enumL xs).length=xs.length:=by unfold enumL;rw[nN,qk,oW,rm]
def compM (f:α->Mo (Option β)):List α->List β->Mo (List β)
 |[],acc=>.ok acc|x::xs,acc=>(f x).bind λo=>match o with |none=>compM f xs acc |some y=>.lim (acc.length+1) (compM f xs (acc++[y]))
noncomputable def cL (lv:List Str)(fr:List (Str×Nat))(L:List Sl):List Sl:=lv.map (λ_=>Sl.dead)++fr.map λq=>(L[q.2]?).getD .dead
theorem ze2_ {lv:List Str}{fr:List (Str×Nat)}{σ:St}(h:HoldF L σ F):HoldF (cL lv fr L) (cS lv fr σ) F:=by
 intro i s e;unfold cL at e;unfold cS;by_cases hi:i<lv.length
 ·rw[pG (by rw[nN];exact hi),om,nU hi]at e
  cases e;trivial
 ·rw[oX (by rw[nN];lia),nN,om]at e
  rw[oX (by rw[nN];lia),nN,om]
  cases z:fr[i-lv.length]? with
  |none=>rw[z]at e;cases e|some q=>
   rw[z]at e;have e:(L[q.2]?).getD .dead=s:=by simpa using e
   show Sl.Z s (σ[q.2]?).join F
   cases y:L[q.2]? with
   |none=>rw[y]at e;rw[<- e];trivial|some t=>rw[y]at e;cases e;exact h _ _ y
theorem zjQ_ {lv:List Str}{fr:List (Str×Nat)}{σ:St}:(cL lv fr L).length=(cS lv fr σ).length:=by unfold cL cS;simp
def cond1 (c:Mo Bool)(f:Mo β):Mo (Option β):=(c.bind λb=>if b then f.bind λy=>.ok (xg y)else .ok xh).noex
end
def Okk (F0 H0 F h H:Hp):Prop:=Ext F0 H0 F H/\Dj F h/\Same h H/\(∀p,h p≠xh->H0 p=xh)/\∀p xs,h p≠xg (.tup xs)
section
variable {K:Fgg}{E:XK}{α:Type}{F0 H0 F h H:Hp}{e:TE}{r:Mo α}{t:TS}
theorem Okk.thaw (ok:Okk F0 H0 F h H):Same (un F h) H:=λp o e=>by
 unfold un at e;cases z:F p with
 |some w=>rw[z]at e;cases e;exact ok.1.2.1 _ _ z|none=>rw[z]at e;exact ok.2.2.1 _ _ e
def less (G h:Hp):Hp:=λp=>match h p with |none=>G p |some _=>xh
theorem zaj_ {G h:Hp}{p:nR}(e:h p=xh):less G h p=G p:=by unfold less;rw[e]
theorem Okk.back (ok:Okk F0 H0 F h H){G' H':Hp}(x:Ext (un F h) H G' H'):Okk F0 H0 (less G' h) h H'/\Same F (less G' h)/\Tups G' (less G' h):=by
 obtain⟨o1,o2,o3,o4,o5⟩:=ok;have hs:Same F (less G' h):=λp o e=>by
  have hp:h p=xh:=by
   rcases o2 p with z |z
   ·rw[z]at e;cases e
   ·exact z
  rw[zaj_ hp];exact x.1 _ _ (z7_ _ _ e)
 refine⟨⟨⟨o1.1.trans hs,λp o e=>?_,o1.2.2.1.trans x.2.2.1,λp a b=>?_⟩,λp=>?_,λp o e=>?_,o4,o5⟩,hs,λp xs e=>?_⟩
 ·unfold less at e
  split at e
  ·exact x.2.1 _ _ e
  ·cases e
 ·unfold less at b
  split at b
  ·rename_i z
   cases y:un F h p with
   |none=>exact o1.2.2.1.free (x.2.2.2 p y b)|some o=>
    unfold un at y;cases w:F p with
    |some _=>exact o1.2.2.2 p a (by rw[w];exact sN _)|none=>rw[w,z]at y;cases y
  ·exact absurd rfl b
 ·unfold less
  cases z:h p with
  |none=>exact .inr rfl|some o=>exact .inl rfl
 ·exact x.2.1 _ _ (x.1 _ _ (zdG_ o2 _ _ e))
 ·unfold less
  cases z:h p with
  |none=>exact e|some o=>
   have:=x.1 _ _ (zdG_ o2 _ _ z);rw[e]at this;cases this;exact absurd z (o5 p xs)
theorem Tell.back {x:Xc}(ok:Okk F0 H0 F h H){G' H':Hp}(y:Ext (un F h) H G' H')(t:Tell K E x H0 (less G' h) H'):Tell K E x H G' H':=by
 cases x with
 |pl c=>exact t|«at» c as=>
  refine λdx fs e q r=>t dx fs (ok.1.2.2.1.free e) ?_ (r.imm (ok.back y).2.2)
  rw[zaj_ (ok.2.2.1.free e)];exact q
theorem Okk.cold (ok:Okk F0 H0 F h H){F' H':Hp}(x:Ext F H F' H'):Okk F0 H0 F' h H':=by
 refine⟨ok.1.trans x,λp=>?_,ok.2.2.1.trans x.2.2.1,ok.2.2.2.1,ok.2.2.2.2⟩
 cases z:h p with
 |none=>exact .inr rfl|some o=>
  left;rcases ok.2.1 p with y |y
  ·cases w:F' p with
   |none=>rfl|some o'=>have:=x.2.2.2 p y (by rw[w];exact sN _);rw[ok.2.2.1 _ _ z]at this;cases this
  ·rw[y]at z;cases z
theorem ziP_ {hn h:Hp}(hh:Same h H)(fresh:∀p,hn p≠xh->H p=xh):Dj hn h:=λp=>by
 cases z:hn p with
 |none=>exact .inl rfl|some w=>
  have:=fresh p (by rw[z];exact sN _)
  exact .inr (hh.free this)
theorem zi9_ {α:Type}{l:List α}{i:Nat}{o:α}(h:l[i]?=xg o):l.set i o=l:=by
 obtain⟨hi,e⟩:=oA.mp h;rw[<- e];exact List.set_getElem_self hi
theorem Okk.rebase {F1 H1:Hp}(x:Ext F0 H0 F1 H1)(ok:Okk F0 H0 F h H)(s:Same F1 F):Okk F1 H0 F h H:=by
 obtain⟨o1,o2,o3,o4,o5⟩:=ok;refine⟨⟨s,o1.2.1,o1.2.2.1,λp a b=>o1.2.2.2 p (x.1.free a) b⟩,o2,o3,o4,o5⟩
theorem Okk.unbase {F1 H1:Hp}(x:Ext F0 H0 F1 H1)(ok:Okk F1 H0 F h H):Okk F0 H0 F h H:=by
 obtain⟨o1,o2,o3,o4,o5⟩:=ok;refine⟨⟨x.1.trans o1.1,o1.2.1,o1.2.2.1,λp a b=>?_⟩,o2,o3,o4,o5⟩
 cases z:F1 p with
 |none=>exact o1.2.2.2 p z b|some w=>exact x.2.2.2 p a (by rw[z];exact sN _)
variable {L:List Sl}
def CDivG (i j:Int):Prop:=0<j/\sC i j=xk
noncomputable instance (i j:Int):Decidable (CDivG i j):=inferInstanceAs (Decidable (_/\_))
noncomputable instance (i j:Int):Decidable (IntMulOk i j):=inferInstanceAs (Decidable (¬_))
abbrev mMulG:R2:=mI IntMulOk λi j=>.int (i*j)
abbrev mDivG:R2:=mI CDivG λi j=>.int (i / j)
theorem zj8_ {X:Cx}:OpR X (qy .Mult) mMulG:=opM (opI λ_ _ _ _ _ _ _ hc q=>mul_int q hc)
theorem zmz_ {X:Cx}:OpR X (qy .FloorDiv) mDivG:=opM (opI λi j _ _ _ _ _ hc q=>by
 have h1:(0:Int)<j:=hc.1;exact floordiv_int (by lia) (by rw[Int.fdiv_eq_ediv_of_nonneg i (by lia)];exact q) (.inl hc.2))
theorem zkS_:EvT K tTrue E L (.ok xj):=λσ F H Q hL hs q=>q.ok hs
end
section
variable {α:Type}
open PySem PySem.Spec PyProof.Rows in
theorem zlv_ {a j:Int}(h0:0<j)(h:j.natAbs.log2<9000):CDivG a j:=by
 refine⟨h0,?_⟩;unfold sC;simp only;rw[Bool.and_eq_false_iff];left;rw[decide_eq_false_iff_not];split<;>lia
theorem log2_lt {n k:Nat}(h:n<2 ^ k):n.log2<k\/n=0:=by
 by_cases hz:n=0
 ·exact .inr hz
 ·exact .inl ((Nat.log2_lt hz).mpr h)
theorem znf_ {a j:Int}(h0:0<j)(h:j<2 ^ 1000):CDivG a j:=by
 refine zlv_ h0 ?_;have h1:j.natAbs<2 ^ 1000:=by
  have:((2:Int) ^ 1000)=((2 ^ 1000:Nat):Int):=by rw[Int.natCast_pow];rfl
  rw[this]at h;lia
 rcases log2_lt h1 with h |h
 ·lia
 ·rw[h];decide
open PySem PySem.Spec PyProof.Rows in
theorem zc4_ {i j:Int}(h : -(2 ^ 64)<i/\i<2 ^ 64 \/ -(2 ^ 64)<j/\j<2 ^ 64):IntMulOk i j:=CMul.ok h
theorem zdI_ (lo:Int)(n:Nat):(rngI lo n).length=n:=by unfold rngI;rw[nN,oW]
theorem atI_nn {xs:List α}{k:Int}(h0:0<=k):atI xs k=xs[k.toNat]?:=by
 unfold atI ixN;rw[if_pos h0];split
 ·rfl
 ·rename_i h
  rw[uo (by omega)];rfl
theorem zdJ_ {xs:List α}{k:Int}(h0:0<=k)(h1:k<xs.length):∃x,atI xs k=xg x/\x∈xs:=by
 rw[atI_nn h0,nU (show k.toNat<xs.length by lia)]
 exact⟨_,rfl,uU _⟩
end
section
variable {F0 H0 F h H:Hp}
theorem zmy_ {p:nR}{o':HO}{h1' hr h':Hp}(ok:Okk F0 H0 F h H)(hp:h p≠xh)(nt:∀xs,o'≠.tup xs)(h':Hp)(hh:∀q,h' q=if q=p then xg o' else h q):Okk F0 H0 F h' (upd H p o'):=by
 obtain⟨o1,o2,o3,o4,o5⟩:=ok;have Fp:F p=xh:=by
  rcases o2 p with z |z
  ·exact z
  ·exact absurd z hp
 have jX:H0 p=xh:=o4 p hp;refine⟨⟨o1.1,λq o z=>?_,λq o z=>?_,o1.2.2.2⟩,λq=>?_,λq o z=>?_,λq z=>?_,λq ys z=>?_⟩
 ·unfold upd;split
  ·rename_i w;rw[w,Fp]at z;cases z
  ·exact o1.2.1 _ _ z
 ·unfold upd;split
  ·rename_i w;rw[w,jX]at z;cases z
  ·exact o1.2.2.1 _ _ z
 ·rw[hh];split
  ·rename_i w;rw[w];exact .inl Fp
  ·exact o2 q
 ·rw[hh]at z;unfold upd
  split at z
  ·rename_i w;rw[if_pos w];exact z
  ·rename_i w;rw[if_neg w];exact o3 _ _ z
 ·rw[hh]at z;split at z
  ·rename_i w;rw[w];exact jX
  ·exact o4 q z
 ·rw[hh]at z;split at z
  ·exact nt ys (by injection z)
  ·exact o5 q ys z
@[irreducible] def fuelW:Nat:=100000
end
open PySem.SeqAt
open PySem.AutoSeq1 (wpAny_loadPart')
open PySem.MeetsSeq PySem.MeetsSeq2 PySem.MeetsSeq3
section
variable {α:Type}
theorem zkJ_ {n d:Nat}{i:Int}(h:0<=i):HT.sIx n d (xg i)=min i.toNat n:=by
 unfold HT.sIx;simp only;split<;>lia
theorem zbR_ {xs:List α}{i:Int}(h:0<=i):cutG xs xh (xg i)=xs.take i.toNat:=by
 unfold cutG;rw[zkJ_ h,show HT.sIx xs.length 0 xh=0 from rfl,rW,Nat.sub_zero,<- List.take_take,List.take_length]
theorem zcK_ {xs:List α}{i:Int}(h:0<=i):cutG xs (xg i) xh=xs.drop i.toNat:=by
 unfold cutG;rw[zkJ_ h,show HT.sIx xs.length xs.length xh=xs.length from rfl]
 by_cases hl:i.toNat<=xs.length
 ·rw[ve hl,rg (by rw[pz];exact nZ _)]
 ·rw[Nat.min_eq_right (by lia),tO,List.drop_eq_nil_of_le (by lia),uC]
theorem zcL_ {xs:List α}{q:Int×α}(h:q∈enumL xs):∃i:Nat,i<xs.length/\q.1=i/\xs[i]?=xg q.2:=by
 obtain⟨i,hi,e⟩:=List.mem_iff_getElem.mp h;rw[zbu_]at hi;have:=zef_ xs i;rw[nU (by rw[zbu_];exact hi),e]at this
 refine⟨i,hi,?_⟩;cases e2:xs[i]? with
 |none=>rw[e2]at this;cases this|some x=>rw[e2]at this;injection this with this;rw[this];exact⟨rfl,rfl⟩
end
noncomputable def repL {α:Type}(xs:List α)(n:Int):List α:=(ou n.toNat xs).flatten
def CRep (m:Nat)(n:Int):Prop:=0<=n/\n<=100000/\m<=100000/\m*n.toNat<=100000
noncomputable instance (m:Nat) (n:Int):Decidable (CRep m n):=inferInstanceAs (Decidable (_/\_))
def mMulX:R2:=λx y H Q=>match x,y with
 |.int i,.int j=>IntMulOk i j/\Q (.int (i*j)) H|.str z,.int n=>CRep z.cps.toList.length n/\Q (tx (repL z.cps.toList n)) H|.ref l,.int k=>∃xs,H l=xg (.lst xs)/\CRep xs.length k/\∀p,H p=xh->Q (.ref p) (upd H p (.lst (repL xs k)))|_,_=>False
theorem zh6_ (z:Array Nat)(n:Nat):(uf (λx1 x2=>x1++x2) #[] (ou n z)).toList=(ou n z.toList).flatten:=by
 have:∀(l:List (Array Nat)) (acc:Array Nat),(l.foldl (λx1 x2=>x1++x2) acc).toList=acc.toList++(l.map uI).flatten:=by
  intro l;induction l with
  |nil=>intro acc;simp
  |cons a l ih=>intro acc;rw[uj,ih];simp
 rw[this];simp
theorem zmZ_ {X:Cx}:OpR X (qy .Mult) mMulX:=by
 intro pins s σ H x y v u Q I rx ry h
 cases x<;>cases y<;>first
  |exact h.elim
  |exact zj8_ pins s σ H _ _ v u Q I rx ry h
  | (obtain⟨xs,hl,⟨c1,c2,c3,c4⟩,q⟩:=h
     exact zpM_ pins s σ H _ _ v u Q I rx ry ⟨_,_,xs,rfl,rfl,hl,by lia,by lia,zan_ c4,q⟩)
  | (rename_i z n
     obtain⟨⟨c1,c2,c3,c4⟩,q⟩:=h;obtain⟨t,rfl⟩:=rx;obtain⟨t',rfl⟩:=ry;have hz:z.length=z.cps.toList.length:=by simp[qw]
     refine PySem.P.mul_str (by simp;lia) (λh1 h2=>?_) (λh1 h2=>?_) ?_
     ·rw[hz]
      have hn:0<n:=by lia
      have:(z.cps.toList.length:Int)*n<=2 ^ 63-1:=by
       have e:n=(n.toNat:Int):=by lia
       rw[e,<- Int.natCast_mul];lia
      have:=Int.le_ediv_of_mul_le hn this;lia
     ·unfold wX
      rw[hz];have:=zan_ c4;exact decide_eq_false (by lia)
     ·by_cases h1:n<1
      ·rw[if_pos h1]
       have:n=0:=by lia
       subst this;exact⟨qS _,tx [],H,I.tok _,⟨_,rfl⟩,q⟩
      ·rw [if_neg h1]
       by_cases h2:(n == 1 ||z.length == 0)=xj
       ·rw[if_pos h2]
        have e:repL z.cps.toList n=z.cps.toList:=by
         unfold repL;rw[ql]at h2;rcases h2 with h2 |h2
         ·have:n=1:=by simpa using h2
          subst this;simp
         ·have:z.cps.toList=[]:=pb.mp (by rw[<- hz];simpa using h2)
          rw[this];simp
        rw[e]at q;refine⟨tx z.cps.toList,H,I,⟨t,?_⟩,q⟩;show rT z t=rT ⟨z.cps.toList.toArray⟩ t
        rw[<- zcZ_]
       ·rw[if_neg h2]
        refine⟨?_,tx (repL z.cps.toList n),H,I.tok _,⟨s.toks,?_⟩,q⟩
        ·have e:(⟨uf (λx1 x2=>x1++x2) #[] (ou n.toNat z.cps)⟩:Str).length=(ou n.toNat z.cps.toList).flatten.length:=by
          rw[<- zh6_];simp[qw]
         rw[e,zh7_];exact zan_ (by rw[vS];exact c4)
        show rT _ _=rT _ _
        congr 1;unfold repL;rw[<- zh6_])
section
variable {α:Type}{H:Hp}{T:Ty α}
theorem zl6_ {xs:List α}{vs:List V}(hr:Prs T H xs vs)(n:Int):Prs T H (repL xs n) (repL vs n):=by
 unfold repL;induction n.toNat with
 |zero=>exact .nil|succ m ih=>rw[pR,pR,qU,qU];exact hr.append ih
end
section
variable {κ:Type}
variable [DecidableEq κ]
end
section
variable {κ:Type}[DecidableEq κ]
end
section
end
end L2
namespace Att
open PySem PySem.W PySem.Calls PyProof.Rows
theorem zib_ {ns:List Int}(h:WData.layableAll [WData.list (ns.map WData.int)]=xj):∀x∈ns,rN x<=1048576:=by
 intro x hx;have h1:=layableW_arg h _ (oE.mpr rfl);have h2:=layableW_item h1 (.int x) (pJ.mpr ⟨x,hx,rfl⟩);exact PyData.bits_of_layable (layable_int h2)
theorem attach_callB {l:OpenLaw}{n:Nat}{q:oH}{loose:List Str}{XP:(Str->Option nI)->Heap->Prop}{YP:oV->Heap->Prop}{d:DefRec}
  (hn:l.most=xg n) (fE:d.params.defaults=[])
  (call:∀(w:oV) (s₀ ae:nO) (mg mb:Str->Option nI) (fa:nR) (o:vi) (pm cd doc:nI) (a:nR) (vs:List nI) (ns:List Int),
   (∀x∈ns,rN x<=1048576) ->
   Ground q loose [] XP w s₀ mg mb ae.heap->YP w ae.heap ->
   ae.heap.get? fa=xg o->o.data=.func (docDef d.name d.params d.body d.scope pm cd doc)->ae.heap.CodeRec cd d.name->mg d.name=xg (.ref fa) ->
   ae.heap.get? a=xg {cls:=.type "list",data:=.seq vs.toArray}->IntsAre vs ns->ns.length<=n->ae.gens=#[] ->
   codeAny (model l.prog w) callerA (.call (.ref fa) ⟨[.ref a],[]⟩) (λr s'=>r=.ok (.ret (.bool xj))/\OldK ae.heap s'.heap/\s'.os=ae.os/\AllBare s'.gens) ae):
  WalkO q loose XP YP l.row.toRowW d [] (λf vs=>vq f vs):=by
 intro w s₀ ae mg mb G Y fa o pm cd doc dV kV ho hd bw hD fe hg args vals as cB hW nB bA hU;obtain rfl:dV=.none:=Dflts.none hD fE;obtain rfl:kV=.none:=Dflts.noKw hD;obtain⟨a,vs,ns,rfl,rfl,du,hints,hlen⟩:=zhj_ hn cB bA;refine enter_call (codeAny_mono (call w s₀ ae mg mb fa o pm cd doc a vs ns (zib_ hW) G Y ho (fd_plain hd) bw fe du hints hlen hg) λr s' hq=>?_)
 obtain⟨rfl,h2,h3,h4⟩:=hq;exact⟨.inl ⟨.bool xj,.bool xj,[],rfl,λ_=>rfl,.bool xj,zgF_ l _,λ_=>⟨xc,λ_ hm=>(nomatch hm)⟩⟩,h2,h3,h4⟩
end Att
namespace L2
open PySem PySem.Spec PyProof.Rows
theorem zif_ {l:vI}{n k:Nat}{q:oH}{loose:List Str}{XP:(Str->Option nI)->Heap->Prop}{YP:oV->Heap->Prop}{d:DefRec}{K:Params->Fgg}{CX:oV->CXT}{sp:oV->Sp}{x:Str}
  (hn:l.most=xg n) (cR:n<=oh) (fE:d.params.defaults=[]) (hr:Room k callerA) (dy:∀p,lamOk q (K p)=xj)
  (hY:∀(w:oV) (h:Heap),YP w h->(K w.params).In h)
  (F:∀(w:oV) (mg:Str->Option nI) (fa:nR) (h:Heap),(K w.params).In h->h.Ns oI mg->mg d.name=xg (.ref fa) ->
   ∃fd:pL,(∀(s:nO) (u:nI),BindsTo s fd ⟨[u],[]⟩ [(x,u)]) /\
    ∀base:Heap,(K w.params).In base->base.Ns oI mg->FnOk l.prog w (K w.params) mg base (CX w) k fa fd [x] (sp w))
  (cf:∀(w:oV) (H:Hp) (a:nR) (ns:List Int),ns.length<=n->(∀x∈ns,rN x<=1048576)->Only H->SqL (K w.params) H a (ns.map V.int)->sp w [.ref a] H (λv _=>v=.bl xj) λ_ _ _=>False)
  (iu:∀(w:oV) (H:Hp) (s:nO) (e:nI) (s':nO),CX w [] H s (λ_ _ _=>False) e s'->False):
  W.WalkO q loose XP YP l.row.toRowW d [] (λf vs=>vq f vs):=by
 refine Att.attach_callB hn fE λw s₀ ae mg mb fa o pm cd doc a vs ns fH G Y ho hd bw fe du hints hlen hg=>?_
 have KX:=hY w _ Y;obtain⟨fd,hb,hF⟩:=F w mg fa _ KX G.T.g fe;exact zjl_ KX G.T.g G.T.b G.T.builtins G.T.nolimit G.T.bmain hg du hints (pX hlen cR) hr hF hb (λH hO hS=>cf w H a ns hlen fH hO hS) (λH e s'=>iu w H ae e s') (zm1_ G.T KX (dy _))
abbrev BitsOk (ns:List Int):Prop:=∀x∈ns,rN x<=1048576
open PySem PySem.Spec PyProof.Rows PySem.W
section
variable {α:Type}
structure LOr (lt:α->α->Bool):Prop where
 asym:∀{a b},lt a b=xj->lt b a=xk
 tr:∀{a b c},lt b a=xk->lt c b=xk->lt c a=xk
 anti:∀{a b},lt a b=xk->lt b a=xk->a=b
noncomputable def srtL (lt:α->α->Bool)(xs:List α):List α:=xs.mergeSort (λa b=>!lt b a)
theorem zgK_ (lt:α->α->Bool)(xs:List α):(srtL lt xs).Perm xs:=List.mergeSort_perm _ _
theorem zex_ {lt:α->α->Bool}(o:LOr lt)(xs:List α):(srtL lt xs).Pairwise λa b=>lt b a=xk:=by
 have:=List.pairwise_mergeSort (le:=λa b=>!lt b a) (λa b c h1 h2=>by simp only[Bool.not_eq_true']at *;exact o.tr h1 h2) (λa b=>by
  cases h:lt b a with
  |false=>simp|true=>simp[o.asym h]) xs
 exact this.imp (λh=>by simpa using h)
theorem zfX_ {lt:α->α->Bool}(o:LOr lt):∀{ws ys:List α},ws.Perm ys->ws.Pairwise (λa b=>lt b a=xk)->ys.Pairwise (λa b=>lt b a=xk)->ws=ys
 |[],ys,hp,_,_=>by rw[List.Perm.nil_eq hp]
 |w::ws,[],hp,_,_=>by have:=hp.length_eq;simp at this
 |w::ws,y::ys,hp,h1,h2=>by
  obtain⟨a1,a2⟩:=tj.mp h1;obtain⟨b1,b2⟩:=tj.mp h2;have e:w=y:=by
   have m1:w∈y::ys:=hp.mem_iff.mp (nV ..);have m2:y∈w::ws:=hp.mem_iff.mpr (nV ..);rcases og.mp m1 with e |m1
   ·exact e
   ·rcases og.mp m2 with e |m2
    ·exact e.symm
    ·exact o.anti (b1 w m1) (a1 y m2)
  subst e;rw[zfX_ o (List.Perm.cons_inv hp) a2 b2]
theorem zee_ {lt:α->α->Bool}(o:LOr lt){ws xs:List α}(hp:ws.Perm xs)(hs:ws.Pairwise λa b=>lt b a=xk):ws=srtL lt xs:=
 zfX_ o (hp.trans (zgK_ lt xs).symm) hs (zex_ o xs)
noncomputable def ltI (a b:Int):Bool:=decide (a<b)
theorem zmp_:LOr ltI:=by
 unfold ltI;refine⟨λh=>?_,λh h'=>?_,λh h'=>?_⟩<;>simp only[decide_eq_true_eq,decide_eq_false_iff_not]at*<;> lia
end
end L2
universe u
namespace L2
open PySem PySem.Spec PyProof.Rows
section
end
open PySem PySem.Spec PyProof.Rows PySem.W
section
variable {prog:oH}{w:oV}{A:ph}{E:nI->nO->Prop}{s:nO}{T:String}{rr dd:nR}{n:Nat}{PP:Nat->nI->Prop}{OK:Heap->Prop}
theorem ziW_ {R:List nI->nO->Prop}(Kd:KdlSrc prog w T rr dd n PP OK)(hh:A.handled=xh)(hok:OK s.heap)(hn:n<=oh)
  (hR:∀(h':Heap) (tk:Nat) (acc:Array nI),s.heap.objs.size<h'.objs.size->(∀b o,s.heap.get? b=xg o->h'.get? b=xg o)->ItemsOf PP acc n->R acc.toList {s with heap:=h',toks:=tk}):
  oB (model prog w) A (collect (.ref rr)) R E s:=by
 obtain⟨lr,ld⟩:=Kd.there _ hok;unfold collect;refine nJ (wpAny_runValue (codeAny_builtin entry_proto_collect' ?_));rw[Around.under_plainId PySem.F.plain_proto_collect _];show oB _ A.in1 (newList []>>=λl=>again (.builtin "list.__iadd__" ⟨[l,.ref rr],[]⟩)) _ _ s;refine nJ (wpAny_newObj_type ?_)
 refine nX ⟨plainId_quiet tP _,codeAny_builtin entry_list_iadd' ?_⟩;rw[Around.under_plainId tP _];have h0:(s.heap.push {cls:=.type "list",data:=.seq ([]:List nI).toArray}).get? s.heap.objs.size=xg {cls:=.type "list",data:=.seq #[]}:=ox _ rfl;show oB _ A.in1 (vj (.ref s.heap.objs.size) (.ref rr) (.ref s.heap.objs.size)) _ _ _
 have key:=kdl_extend (A:=A) (s:={s with heap:=s.heap.push {cls:=.type "list",data:=.seq ([]:List nI).toArray}})
  (R:=λ(q:Result) (s':nO)=>∃(h':Heap) (tk:Nat) (acc:Array nI) (c:Nat),q=.ok (.ret (.ref s.heap.objs.size))/\s'={s with heap:=h',toks:=tk}/\(∀b o,s.heap.get? b=xg o->h'.get? b=xg o)/\h'.get? s.heap.objs.size=xg {cls:=.type "list",dict:=xh,data:=.seq acc c,slots:=#[]}/\ItemsOf PP acc n)
  Kd hh (Kd.keep _ _ hok λb _ o e=>nQ _ e) s.heap.objs.size (rf lr) (rf ld) (.ref s.heap.objs.size) 0 h0
  (λh' tk acc c hk hS aB=>⟨h',tk,acc,c,rfl,rfl,λb o e=>hk b o (oR (ot e)) (nQ _ e),hS,aB⟩) hn
 refine pN key (λfin s' x=>?_) λe s' x=>?_
 ·cases fin with
  |done f=>
   obtain⟨h',tk,acc,c,e,rfl,hk,hS,aB⟩:=x;cases e;show oB _ A (load s.heap.objs.size>>=_) _ _ _
   exact nJ (wpAny_load hS (nX (hR h' tk acc (ot hS) hk aB)))
  |again c1=>
   refine⟨x.1,codeAny_mono x.2 λq s2 y=>?_⟩;obtain⟨h',tk,acc,c,rfl,rfl,hk,hS,aB⟩:=y
   show oB _ A (load s.heap.objs.size>>=_) _ _ _;exact nJ (wpAny_load hS (nX (hR h' tk acc (ot hS) hk aB)))
 ·obtain⟨_,_,_,_,e',_⟩:=x;cases e'
end
section
theorem is_kV {P:oH}{w:oV}{k:Key}{u:nI}(h:(mixKind P w).is k u=xj):RelV (kV k) u:=by
 rw[zga_]at h;rcases zo_ h with⟨i,t,rfl,rfl⟩|⟨x,t,rfl,rfl⟩<;>exact⟨_,rfl⟩
end
structure ZpAp (z ti to i j:nR)(f g:List nR):Prop where
 a1:ti≠z
 a2:to≠z
 a3:i≠z
 a4:j≠z
 a5:ti≠to
 a6:ti≠i
 a7:ti≠j
 a8:to≠i
 a9:to≠j
 b1:i≠j
 b2:z∉f
 b3:z∉g
 b4:to∉f
 b5:to∉g
 b6:j∉f
 b7:i∉g
section
variable {prog:oH}{w:oV}{A:ph}{E:nI->nO->Prop}{s:nO}{z ti to i j:nR}{f g:List nR}{n1 n2 k:Nat}{P1 P2:Nat->nI->Prop}{S1 S2:Nat->Heap->Prop}{a b:nI}
theorem zjm_ {Q:nI->nO->Prop}(D1:Draws prog w A i f n1 P1 S1)(D2:Draws prog w A j g n2 P2 S2)(ap:ZpAp z ti to i j f g)
  (hz:IsZip s.heap z ti to .none) (c9:qM s.heap ti (.ref i) (.ref j)) (c8:qM s.heap to a b) (b9:S1 k s.heap) (bz:S2 k s.heap) (l1:k<n1) (l2:k<n2)
  (hQ:∀x y h' tk,P1 k x->P2 k y->IsZip h' z ti to (rawInt s.heap.objs.size)->qM h' to x y->S1 (k+1) h'->S2 (k+1) h'->qM h' s.heap.objs.size x y->h'.objs.size=s.heap.objs.size+1 ->
   (∀c o,c≠z->c≠to->c≠i->c≠j->s.heap.get? c=xg o->h'.get? c=xg o)->Q (.ref s.heap.objs.size) {s with heap:=h',toks:=tk}):
  oB (model prog w) A (uA.«zip.__next__» ⟨[.ref z],[]⟩) (λfin s'=>∃v,fin=.done (.ret v)/\Q v s') E s:=by
 obtain⟨hp,gn,dd,tk0,os⟩:=s;show oB _ _ (field (.ref z) 2>>=_) _ _ _;refine nJ (p5 hz rfl (x:=.bool xk) rfl ?_)
 show oB _ _ (field (.ref z) 3>>=_) _ _ _;refine nJ (p5 hz rfl (x:=.ref ti) rfl ?_)
 refine nJ (wpAny_seqItems c9 rfl ?_);show oB _ _ (p6 (.ref z)>>=_) _ _ _
 refine nJ ?_;unfold p6;refine nJ (p5 hz rfl (x:=.none) rfl (nX ?_));simp only[if_true];refine nJ (wpAny_rule ?_);refine nJ (p5 hz rfl (x:=.ref to) rfl ?_);refine nJ (qI hz (by simp) λq1 (z1:IsZip q1 z ti to .ellipsis) e1=>?_)
 have bI:qV z hp q1:=e1.extBut;refine nJ ?_;simp only[uV,vf,uk,vv];refine nJ (nJ (wpAny_onRaise ?_));show oB _ _ (qN (.ref i)>>=_) _ _ _
 refine nJ (D1.item k _ _ _ l1 (D1.frame k _ _ b9 λc hc o e=>bI c o (λq=>ap.b2 (q ▸ hc)) e) λx q2 t2 px s2 e2=>nX ?_)
 have bH:qV i q1 q2:=e2.extBut;have to2:qM q2 to a b:=bH _ _ ap.a8 (bI _ _ ap.a2 c8);refine nJ (wpAny_seqItems (s:=⟨q2,gn,dd,t2,os⟩) to2 rfl ?_);refine nJ (wpAny_updateSeq_pair (s:=⟨q2,gn,dd,t2,os⟩) to2 λq3 (to3:qM q3 to x b) e3=>?_)
 have cV:qV to q2 q3:=e3.extBut;refine nJ (wpAny_letGo (nX ?_));refine nJ (nJ (wpAny_onRaise ?_));show oB _ _ (qN (.ref j)>>=_) _ _ _
 refine nJ (D2.item k ⟨q3,gn,dd,t2,os⟩ _ _ l2 (D2.frame k _ _ bz λc hc o e=>cV c o (λq=>ap.b5 (q ▸ hc)) (bH c o (λq=>ap.b7 (q ▸ hc)) (bI c o (λq=>ap.b3 (q ▸ hc)) e))) λy q4 t4 py s4 e4=>nX ?_)
 have dP:qV j q3 q4:=e4.extBut;have iO:qM q4 to x b:=dP _ _ ap.a9 to3;refine nJ (wpAny_seqItems (s:=⟨q4,gn,dd,t4,os⟩) iO rfl ?_);refine nJ (wpAny_updateSeq_pair (s:=⟨q4,gn,dd,t4,os⟩) iO λq5 (iM:qM q5 to x y) e5=>?_)
 have e5':qV to q4 q5:=e5.extBut;refine nJ (wpAny_letGo (nX (nX ?_)));refine nJ (wpAny_seqItems (s:=⟨q5,gn,dd,t4,os⟩) iM rfl ?_);refine nJ (wpAny_newTuple ?_);have sz:q5.objs.size=hp.objs.size:=by rw[e5.1,e4.1,e3.1,e2.1,e1.1]
 have z5:IsZip q5 z ti to .ellipsis:=e5' _ _ ap.a2.symm (dP _ _ ap.a4.symm (cV _ _ ap.a2.symm (bH _ _ ap.a3.symm z1)));have kp:∀c o,c≠z->c≠to->c≠i->c≠j->hp.get? c=xg o->q5.get? c=xg o:=λc o c1 c2 c3 c4 e=>
  e5' c o c2 (dP c o c4 (cV c o c2 (bH c o c3 (bI c o c1 e))))
 have zl:z<q5.objs.size:=ot z5;show oB _ _ (rO (.ref z) (.ref q5.objs.size)>>=_) _ _ ⟨q5.push _,gn,dd,t4,os⟩
 refine nJ ?_;unfold rO;have z6:IsZip (q5.push {cls:=.type "tuple",data:=.seq #[x,y]}) z ti to .ellipsis:=nQ _ z5;refine nJ (qI (s:=⟨q5.push _,gn,dd,t4,os⟩) z6 (by simp) λq7 (z7:IsZip q7 z ti to (rawInt q5.objs.size)) e7=>?_)
 refine qI (s:=⟨q7,gn,dd,t4,os⟩) z7 (by simp) λq8 (z8:IsZip q8 z ti to (rawInt q5.objs.size)) e8=>?_
 have up:∀c o,c≠z->(q5.push {cls:=.type "tuple",data:=.seq #[x,y]}).get? c=xg o->q8.get? c=xg o:=λc o c1 e=>e8.extBut _ _ c1 (e7.extBut _ _ c1 e)
 have fW:∀c o,c≠z->q5.get? c=xg o->q8.get? c=xg o:=λc o c1 e=>up c o c1 (nQ _ e)
 have t8:qM q8 q5.objs.size x y:=up _ _ (rf zl) (ox _ rfl);have iT:q8.objs.size=q5.objs.size+1:=by rw[e8.1,e7.1];exact qF ..
 rw[sz]at z8 t8 iT;refine nX ⟨_,rfl,?_⟩;show Q (.ref q5.objs.size) ⟨q8,gn,dd,t4,os⟩
 rw[sz];refine hQ x y q8 t4 px py z8 (fW _ _ ap.a2 iM) (D1.frame _ _ _ s2 λc hc o e=>?_) (D2.frame _ _ _ s4 λc hc o e=>?_) t8 iT λc o c1 c2 c3 c4 e=>fW c o c1 (kp c o c1 c2 c3 c4 e)
 ·exact fW c o (λq=>ap.b2 (q ▸ hc)) (e5' c o (λq=>ap.b4 (q ▸ hc)) (dP c o (λq=>ap.b6 (q ▸ hc)) (cV c o (λq=>ap.b4 (q ▸ hc)) e)))
 ·exact fW c o (λq=>ap.b3 (q ▸ hc)) (e5' c o (λq=>ap.b5 (q ▸ hc)) e)
theorem zlt_ {Q:PySem.Fin->nO->Prop}(D1:Draws prog w A i f n1 P1 S1)(D2:Draws prog w A j g n2 P2 S2)(ap:ZpAp z ti to i j f g)
  (hz:IsZip s.heap z ti to .none) (c9:qM s.heap ti (.ref i) (.ref j)) (c8:qM s.heap to a b) (b9:S1 k s.heap) (bz:S2 k s.heap) (l1:k=n1\/k<n1/\k=n2)
  (hE:∀h' e tk,(∀c o,c≠z->c≠to->c≠i->c≠j->s.heap.get? c=xg o->h'.get? c=xg o)->(∃o,h'.get? e=xg o/\o.cls=.type "StopIteration")->E (.ref e) {s with heap:=h',toks:=tk}):
  oB (model prog w) A (uA.«zip.__next__» ⟨[.ref z],[]⟩) Q E s:=by
 obtain⟨hp,gn,dd,tk0,os⟩:=s;show oB _ _ (field (.ref z) 2>>=_) _ _ _;refine nJ (p5 hz rfl (x:=.bool xk) rfl ?_)
 show oB _ _ (field (.ref z) 3>>=_) _ _ _;refine nJ (p5 hz rfl (x:=.ref ti) rfl ?_)
 refine nJ (wpAny_seqItems c9 rfl ?_);show oB _ _ (p6 (.ref z)>>=_) _ _ _
 refine nJ ?_;unfold p6;refine nJ (p5 hz rfl (x:=.none) rfl (nX ?_));simp only[if_true];refine nJ (wpAny_rule ?_);refine nJ (p5 hz rfl (x:=.ref to) rfl ?_);refine nJ (qI hz (by simp) λq1 (z1:IsZip q1 z ti to .ellipsis) e1=>?_)
 have bI:qV z hp q1:=e1.extBut;refine nJ ?_;simp only[uV,vf,uk,vv];refine nJ (nJ (wpAny_onRaise ?_));show oB _ _ (qN (.ref i)>>=_) _ _ _
 have f1:S1 k q1:=D1.frame k _ _ b9 λc hc o e=>bI c o (λq=>ap.b2 (q ▸ hc)) e
 rcases l1 with rfl |⟨l1,rfl⟩
 ·refine nJ (D1.done _ _ _ f1 λq2 e e2 he=>?_)
  obtain⟨oe,hoe,hce⟩:=he;have bH:qV i q1 q2:=e2;have z2:IsZip q2 z ti to .ellipsis:=bH _ _ ap.a3.symm z1;have ez:e≠z:=λx=>by subst x;have bT:q2.get? e=xg oe:=hoe;rw[z2]at bT;cases bT;simp at hce
  exact qI (s:=⟨q2,gn,dd,tk0,os⟩) z2 (by simp) λq3 _ e3=>hE q3 e tk0 (λc o c1 _ c3 _ x=>e3.extBut _ _ c1 (bH c o c3 (bI c o c1 x))) ⟨oe,e3.extBut _ _ ez hoe,hce⟩
 ·refine nJ (D1.item k _ _ _ l1 f1 λx q2 t2 px s2 e2=>nX ?_)
  have bH:qV i q1 q2:=e2.extBut;have to2:qM q2 to a b:=bH _ _ ap.a8 (bI _ _ ap.a2 c8);refine nJ (wpAny_seqItems (s:=⟨q2,gn,dd,t2,os⟩) to2 rfl ?_);refine nJ (wpAny_updateSeq_pair (s:=⟨q2,gn,dd,t2,os⟩) to2 λq3 (to3:qM q3 to x b) e3=>?_)
  have cV:qV to q2 q3:=e3.extBut;refine nJ (wpAny_letGo (nX ?_));refine nJ (nJ (wpAny_onRaise ?_));show oB _ _ (qN (.ref j)>>=_) _ _ _
  refine nJ (D2.done ⟨q3,gn,dd,t2,os⟩ _ _ (D2.frame k _ _ bz λc hc o e=>cV c o (λq=>ap.b5 (q ▸ hc)) (bH c o (λq=>ap.b7 (q ▸ hc)) (bI c o (λq=>ap.b3 (q ▸ hc)) e))) λq4 e e4 he=>?_)
  obtain⟨oe,hoe,hce⟩:=he;have dP:qV j q3 q4:=e4;have z4:IsZip q4 z ti to .ellipsis:=dP _ _ ap.a4.symm (cV _ _ ap.a2.symm (bH _ _ ap.a3.symm z1));have ez:e≠z:=λx=>by subst x;have bT:q4.get? e=xg oe:=hoe;rw[z4]at bT;cases bT;simp at hce
  exact qI (s:=⟨q4,gn,dd,t2,os⟩) z4 (by simp) λq5 _ e5=>hE q5 e t2 (λc o c1 c2 c3 c4 x=>e5.extBut _ _ c1 (dP c o c4 (cV c o c2 (bH c o c3 (bI c o c1 x))))) ⟨oe,e5.extBut _ _ ez hoe,hce⟩
theorem zio_ {Q:Option nI->nO->Prop}(D1:Draws prog w A.in1 i f n1 P1 S1)(D2:Draws prog w A.in1 j g n2 P2 S2)(ap:ZpAp z ti to i j f g)
  (hz:IsZip s.heap z ti to .none) (c9:qM s.heap ti (.ref i) (.ref j)) (c8:qM s.heap to a b) (b9:S1 k s.heap) (bz:S2 k s.heap) (l1:k<n1) (l2:k<n2)
  (hQ:∀x y h' tk,P1 k x->P2 k y->IsZip h' z ti to (rawInt s.heap.objs.size)->qM h' to x y->S1 (k+1) h'->S2 (k+1) h'->qM h' s.heap.objs.size x y->h'.objs.size=s.heap.objs.size+1 ->
   (∀c o,c≠z->c≠to->c≠i->c≠j->s.heap.get? c=xg o->h'.get? c=xg o)->Q (xg (.ref s.heap.objs.size)) {s with heap:=h',toks:=tk}):
  oB (model prog w) A (pyNext (.ref z)) Q E s:=by
 have hT:s.TypeIs (.ref z) "zip":=⟨_,hz,rfl⟩;unfold pyNext;refine nJ (wpAny_attempt (wpAny_callSpecial?_slot (name:=tY "__next__") hT sD (wpAny_call_entry sD hT uW ?_ (uM _))));exact zjm_ D1 D2 ap hz c9 c8 b9 bz l1 l2 λx y h' tk p1 p2 q1 q2 q3 q4 q5 q6 q7=>nX (hQ x y h' tk p1 p2 q1 q2 q3 q4 q5 q6 q7)
theorem zj7_ {Q:Option nI->nO->Prop}(D1:Draws prog w A.in1 i f n1 P1 S1)(D2:Draws prog w A.in1 j g n2 P2 S2)(ap:ZpAp z ti to i j f g)
  (hz:IsZip s.heap z ti to .none) (c9:qM s.heap ti (.ref i) (.ref j)) (c8:qM s.heap to a b) (b9:S1 k s.heap) (bz:S2 k s.heap) (l1:k=n1\/k<n1/\k=n2)
  (hQ:∀h' tk,(∀c o,c≠z->c≠to->c≠i->c≠j->s.heap.get? c=xg o->h'.get? c=xg o)->Q xh {s with heap:=h',toks:=tk}):oB (model prog w) A (pyNext (.ref z)) Q E s:=by
 have hT:s.TypeIs (.ref z) "zip":=⟨_,hz,rfl⟩;unfold pyNext;refine nJ (wpAny_attempt (wpAny_callSpecial?_slot (name:=tY "__next__") hT sD (wpAny_call_entry sD hT uW ?_ (uM _))));refine zlt_ D1 D2 ap hz c9 c8 b9 bz l1 λh' e tk hk he=>?_
 obtain⟨o,ho,hc⟩:=he;exact nJ (wpAny_isInstance (s:={s with heap:=h',toks:=tk}) (T:="StopIteration") (b:=xj) ⟨o,ho,hc⟩ isSubtype_stop (nX (hQ _ _ hk)))
end
noncomputable def strIt (x:Str)(t:Tok):vi:={cls:=.type (pq x),data:=.fields #[.str x t,.int 0 0]}
theorem zfr_ {prog:oH}{w:oV}{A:ph}{E:nI->nO->Prop}{s:nO}{x:Str}{t:Tok}{Q:nI->nO->Prop}(h:Q (.ref s.heap.objs.size) {s with heap:=s.heap.push (strIt x t)}):oB (model prog w) A (pyIter (.str x t)) Q E s:=by
 unfold strIt at h;cases ha:x.cps.all (·<128)
 ·rw[show pq x="str_iterator" by simp[pq,ha]]at h;exact wpAny_pyIter_wide ha h
 ·rw[show pq x="str_ascii_iterator" by simp[pq,ha]]at h;exact wpAny_pyIter_ascii ha h
noncomputable abbrev zp1 (h:Heap)(l:nR):Heap:=h.push {cls:=.type "list_iterator",data:=.fields #[.ref l,.int 0 0]}
abbrev zp2 (h:Heap)(l:nR)(x:Str)(t:Tok):Heap:=(zp1 h l).push (strIt x t)
abbrev zp3 (h:Heap)(l:nR)(x:Str)(t:Tok):Heap:=(zp2 h l x t).push {cls:=.type "tuple",data:=.seq #[.ref h.objs.size,.ref (zp1 h l).objs.size]}
abbrev zp4 (h:Heap)(l:nR)(x:Str)(t:Tok):Heap:=(zp3 h l x t).push {cls:=.type "tuple",data:=.seq #[.none,.none]}
abbrev zp5 (h:Heap)(l:nR)(x:Str)(t:Tok):Heap:=(zp4 h l x t).push {cls:=.type "zip",data:=.fields #[.none,.bool xk,.bool xk,.ref (zp2 h l x t).objs.size,.ref (zp3 h l x t).objs.size]}
theorem mt_zp (l:nR)(x:Str)(t:Tok)(xs:Array nI):
  Meets (uA.«zip.__new__» ⟨[.type "zip",.ref l,.str x t],[]⟩) (λ_ R s=>s.heap.IsList l xs/\R (.ok (.ret (.ref (zp4 s.heap l x t).objs.size))) {s with heap:=zp5 s.heap l x t}):=
 .of_wp λprog w A R s h=>by
  obtain⟨hp,g,d,tk,os⟩:=s;obtain⟨fk,h⟩:=h;have kP:=sub_zip;have h1:Heap.IsList (Shared.heap ⟨hp,g,d,tk,os⟩) l xs:=fk
  wp_walk using wpAny_pyIter_list h1,zfr_
  exact⟨_,rfl,h⟩
section
variable {prog:oH}{w:oV}{A:ph}{E:nI->nO->Prop}{s:nO}
theorem zma_ {l:nR}{x:Str}{t:Tok}{xs:Array nI}{Q:nI->nO->Prop}(hl:s.heap.IsList l xs)
  (h:∀h',IsZip h' (s.heap.objs.size+4) (s.heap.objs.size+2) (s.heap.objs.size+3) .none->qM h' (s.heap.objs.size+2) (.ref s.heap.objs.size) (.ref (s.heap.objs.size+1)) ->
   qM h' (s.heap.objs.size+3) .none .none->h'.IsListIter s.heap.objs.size l 0->h'.IsStrIter (s.heap.objs.size+1) (pq x) x t 0 ->
   (∀c o,s.heap.get? c=xg o->h'.get? c=xg o)->Q (.ref (s.heap.objs.size+4)) {s with heap:=h'}):
  oB (model prog w) A (call (.type "zip") [.ref l,.str x t]) Q E s:=by
 refine callType_new F.called_zip (by decide) (F.typeCall_zip_2 _ _) (F.newCall_zip_2 _ _) (λobj=>F.args_object_init_3 obj _ _) F.entry_zip_new (mt_zp l x t xs) ⟨hl,?_⟩
 have n1:(zp1 s.heap l).objs.size=s.heap.objs.size+1:=qF ..;have n2:(zp2 s.heap l x t).objs.size=s.heap.objs.size+2:=by rw[qF,n1]
 have n3:(zp3 s.heap l x t).objs.size=s.heap.objs.size+3:=by rw[qF,n2]
 have n4:(zp4 s.heap l x t).objs.size=s.heap.objs.size+4:=by rw[qF,n3]
 have up:∀c o,(zp2 s.heap l x t).get? c=xg o->(zp5 s.heap l x t).get? c=xg o:=λc o e=>nQ _ (nQ _ (nQ _ e))
 have g5:(zp5 s.heap l x t).get? (zp4 s.heap l x t).objs.size=xg _:=ox _ rfl;have g4:(zp5 s.heap l x t).get? (zp3 s.heap l x t).objs.size=xg _:=nQ _ (ox _ rfl);have g3:(zp5 s.heap l x t).get? (zp2 s.heap l x t).objs.size=xg _:=nQ _ (nQ _ (ox _ rfl));have g2:(zp5 s.heap l x t).get? (zp1 s.heap l).objs.size=xg _:=up _ _ (ox _ rfl);have g1:(zp5 s.heap l x t).get? s.heap.objs.size=xg _:=up _ _ (nQ _ (ox _ rfl));show _/\_
 rw[n2,n3,n4]at g5;rw[n1,n2]at g3;rw[n3]at g4;rw[n1]at g2;rw[n4];exact⟨⟨_,g5,rfl⟩,h _ g5 g3 g4 ⟨_,g1,rfl,rfl⟩ ⟨_,g2,rfl,rfl⟩ λc o e=>up c o (nQ _ (nQ _ e))⟩
end
def ItzS (K:Fgg)(l:nR)(n:Nat)(f:Nat->V):It:=
 ⟨λi H=>∃xs x,SqL K H l xs/\xs[i]?=xg x/\i<n,
  λi H v H'=>∃p x,(∀xs,SqL K H l xs->xs[i]?=xg x)/\H p=xh/\v=.ref p/\H'=upd H p (.tup [x,f i]),
  λi H=>∃xs,SqL K H l xs/\(i=xs.length\/i<xs.length/\i=n)⟩
theorem zgA_ {P:oH}{w:oV}{K:Fgg}{elts:List oq}{kk:Nat}{pos:Pos}(z ti to i1 i2 l:nR)(t0:Str)(t:Tok)(D:ZpAp z ti to i1 i2 [i1,l] [i2])(fk:l≠i1):
  Turn P w K (.Tuple elts kk pos) (ItzS K l t0.cps.size (sgn t0)) [z,ti,to,i1,i2] z (λi h=>IsZip h z ti to .none/\qM h ti (.ref i1) (.ref i2)/\(∃a b,qM h to a b)/\h.IsListIter i1 l i/\h.IsStrIter i2 (pq t0) t0 t i) where
 mem:=by simp
 obj:=λi h st b hb=>by
  obtain⟨hz,bX,⟨a,c,cn⟩,⟨o1,ho1,c1,d1⟩,⟨o2,ho2,c2,d2⟩⟩:=st;rcases og.mp hb with rfl |hb
  ·exact⟨_,hz,λv z=>by cases z⟩
  rcases og.mp hb with rfl |hb
  ·exact⟨_,bX,λv z=>by cases z⟩
  rcases og.mp hb with rfl |hb
  ·exact⟨_,cn,λv z=>by cases z⟩
  rcases og.mp hb with rfl |hb
  ·exact⟨o1,ho1,λv z=>by rw[d1]at z;cases z⟩
  ·have e:b=i2:=by simpa using hb
   subst e;exact⟨o2,ho2,λv z=>by rw[d2]at z;cases z⟩
 keep:=λi h h' st k=>by
  obtain⟨hz,bX,⟨a,c,cn⟩,h1,o2,ho2,r2⟩:=st;exact⟨k z (by simp) _ hz,k ti (by simp) _ bX,⟨a,c,k to (by simp) _ cn⟩,h1.at λo q=>k i1 (by simp) o q,o2,k i2 (by simp) o2 ho2,r2⟩
 item:=by
  intro X hP hw hK hc i pins s σ H E I hf st hg;subst hP hw hK;obtain⟨xs,x,hq,hx,gp⟩:=hg;obtain⟨aa,rv,p,hz0⟩:=I.list hq;obtain⟨u,hu,ru⟩:=rv.get hx;obtain⟨hz,bX,⟨a,c,cn⟩,h1,h2⟩:=st;have lt:∀{c o},s.heap.get? c=xg o->c<s.heap.objs.size:=λe=>ot e
  have lz:=lt hz;have kj:=lt bX;have ki:=lt cn;have l1:i1<s.heap.objs.size:=by obtain⟨o,e,_⟩:=id h1;exact lt e
  have l2:i2<s.heap.objs.size:=by obtain⟨o,e,_⟩:=id h2;exact lt e
  have ia:i<aa.toArray.size:=by have:=(oA.mp hu).1;simpa using this
  refine zio_ (Draws.list (A:=X.A.in1) (show X.A.in1.handled=xh from I.ok.hd hc) i1 l fk aa.toArray) (zdY_ (t:=t) X.A.in1 (I.ok.hd hc)) D hz bX cn ⟨h1,p.isList⟩ h2 ia gp λu' v h3 tk pu pv z3 nu gO gN kd nv jq=>?_
  obtain rfl:u'=u:=by
   have e:aa.toArray[i]?=xg u':=pu;rw[uq,hu]at e;exact(pC e).symm
  have bN:RelV (sgn t0 i) v:=zcS_ pv;refine⟨_,rfl,?_⟩;refine wpAny_letOwnedTupleGo_zip (s:={s with heap:=h3,toks:=tk}) z3 λh4 z4 df=>?_
  replace df:rG z h3 h4:=df;have hp:H s.heap.objs.size=xh:=I.hok.fresh (nZ _);have I1:Inv X pins σ (upd H s.heap.objs.size (.tup [x,sgn t0 i])) {s with heap:=s.heap.push {cls:=.type "tuple",data:=.seq #[u',v]},toks:=tk}:=by
   refine I.laid (λb u q=>nQ _ q) (nZ _) ⟨?_,[u',v],.cons ru (.cons bN .nil),⟨_,ox _ rfl,rfl,_,rfl⟩⟩
   show 2<=oh
   decide
  have aM:∀b∈[z,ti,to,i1,i2],b<s.heap.objs.size:=λb hb=>by
   simp only[og,pZ,or_false]at hb;rcases hb with rfl |rfl |rfl |rfl |rfl
   ·exact lz
   ·exact kj
   ·exact ki
   ·exact l1
   ·exact l2
  have fB:∀b∈[z,ti,to,i1,i2],FpOk X pins (upd H s.heap.objs.size (.tup [x,sgn t0 i])) b:=λb hb=>by
   obtain⟨f0,r⟩:=hf b hb;refine⟨?_,r⟩;rw[zm_ (oR (aM b hb))];exact f0
  have I2:Inv X pins σ (upd H s.heap.objs.size (.tup [x,sgn t0 i])) {s with heap:=h4,toks:=tk}:=by
   refine Inv.turnedL (s:={s with heap:=s.heap.push {cls:=.type "tuple",data:=.seq #[u',v]},toks:=tk}) (ch:=[z,ti,to,i1,i2]) I1 (λb o hb q=>?_) fB
   have n1:b≠z:=λe=>hb (by simp[e])
   have n2:b≠to:=λe=>hb (by simp[e])
   have n3:b≠i1:=λe=>hb (by simp[e])
   have n4:b≠i2:=λe=>hb (by simp[e])
   refine(df.2 b n1).trans ?_;rcases uv q with⟨rfl,rfl⟩|q'
   ·exact kd
   ·exact jq b o n1 n2 n3 n4 q'
  refine⟨.ref s.heap.objs.size,_,I2,rfl,⟨s.heap.objs.size,x,λzs kr=>by rw[I.list_inj kr hq];exact hx,hp,rfl,rfl⟩,⟨z4,?_,⟨u',v,?_⟩,?_,?_⟩,λb hb=>(fB b hb).1⟩
  ·exact(df.2 ti D.a1).trans (jq ti _ D.a1 D.a5 D.a6 D.a7 bX)
  ·exact(df.2 to D.a2).trans nu
  ·exact gO.1.extBut df.extBut D.a3
  ·exact gN.extBut df.extBut D.a4
 done:=by
  intro X hP hw hK hc i pins s σ H E I hf st hg;subst hP hw hK;obtain⟨xs,hq,hx⟩:=hg;obtain⟨aa,rv,p,hz0⟩:=I.list hq;obtain⟨hz,bX,⟨a,c,cn⟩,h1,h2⟩:=st;have hl:=rv.length;refine zj7_ (Draws.list (A:=X.A.in1) (show X.A.in1.handled=xh from I.ok.hd hc) i1 l fk aa.toArray) (zdY_ (t:=t) X.A.in1 (I.ok.hd hc)) D hz bX cn ⟨h1,p.isList⟩ h2 (by rw[hl]at hx;simpa using hx) λh' tk eb=>⟨rfl,?_⟩
  exact Inv.turnedL (s:=s) (t':=tk) (ch:=[z,ti,to,i1,i2]) I (λb o hb q=>eb b o (λe=>hb (by simp[e])) (λe=>hb (by simp[e])) (λe=>hb (by simp[e])) (λe=>hb (by simp[e])) q) hf
 self:=λ_ _ _ _ _ st h=>wpAny_pyIter_zip st.1 h
theorem ziO_ {N l:Nat}(hl:l<N):ZpAp (N+4) (N+2) (N+3) N (N+1) [N,l] [N+1]:=by
 have q:∀{a b:Nat},a≠b->(a:nR)≠(b:nR):=λh=>h
 have m1:∀{a b:Nat},a≠b->(a:nR)∉([b]:List nR):=λh e=>h (oE.mp e)
 have m2:∀{a b c:Nat},a≠b->a≠c->(a:nR)∉([b,c]:List nR):=λh1 h2 e=>by
  rcases og.mp e with e |e
  ·exact h1 e
  ·exact h2 (oE.mp e)
 exact⟨q (by lia),q (by lia),q (by lia),q (by lia),q (by lia),q (by lia),q (by lia),q (by lia),q (by lia),q (by lia),m2 (by lia) (by lia),m1 (by lia),m2 (by lia) (by lia),m1 (by lia),m2 (by lia) (by lia),m1 (by lia)⟩
section
end
section
variable {α:Type}
def OwAll (O:Own α)(F:Hp):List α->List V->Hp->Prop
 |[],[],h=>∀p,h p=xh|x::xs,v::vs,h=>∃h1 h2,Jn h1 h2 h/\O.O x v F h1/\OwAll O F xs vs h2|_,_,_=>False
variable {O:Own α}
theorem OwAll.mono:∀{xs:List α}{vs:List V}{F F' h:Hp},Same F F'->OwAll O F xs vs h->OwAll O F' xs vs h
 |[],[],_,_,_,_,q=>q|x::xs,v::vs,F,F',h,g,q_=>by obtain⟨h1,h2,j,o,r⟩:=q_;exact⟨h1,h2,j,O.mono g o,r.mono g⟩
 |[],_::_,_,_,_,_,q=>q.elim|_::_,[],_,_,_,_,q=>q.elim
theorem OwAll.notup:∀{xs:List α}{vs:List V}{F h:Hp},OwAll O F xs vs h->∀p ys,h p≠xg (.tup ys)
 |[],[],_,_,q,p,ys=>by rw[q p];exact λz=>by cases z
 |x::xs,v::vs,F,h,q_,p,ys=>by
  obtain⟨h1,h2,j,o,r⟩:=q_;rcases j p with⟨_,b⟩|⟨_,b⟩
  ·rw[b];exact r.notup p ys
  ·rw[b];exact O.notup o p ys
 |[],_::_,_,_,q,_,_=>q.elim|_::_,[],_,_,q,_,_=>q.elim
theorem OwAll.len:∀{xs:List α}{vs:List V}{F h:Hp},OwAll O F xs vs h->xs.length=vs.length
 |[],[],_,_,_=>rfl|x::xs,v::vs,F,h,q_=>by obtain⟨h1,h2,j,o,r⟩:=q_;rw[n6,n6,r.len]
 |[],_::_,_,_,q=>q.elim|_::_,[],_,_,q=>q.elim
theorem zff_ {F h1 h:Hp}(d:Dj F h)(s:Same h1 h):Same (un F h1) (un F h):=λp o e=>by
 unfold un at e ⊢;cases z:F p with
 |some w=>rw[z]at e;exact e|none=>rw[z]at e;exact s _ _ e
theorem OwAll.prs:∀{xs:List α}{vs:List V}{F h G:Hp},Dj F h->Same (un F h) G->OwAll O F xs vs h->Prs O.fr G xs vs
 |[],[],_,_,_,_,_,_=>.nil|x::xs,v::vs,F,h,G,d,g,q_=>by
  obtain⟨h1,h2,j,o,r⟩:=q_;have d1:Dj F h1:=λp=>by
   rcases d p with z |z
   ·exact .inl z
   ·exact .inr (j.l.free z)
  have d2:Dj F h2:=λp=>by
   rcases d p with z |z
   ·exact .inl z
   ·exact .inr (j.r.free z)
  exact .cons (O.fr.mono ((zff_ d j.l).trans g) (O.frz d1 o)) (r.prs d2 ((zff_ d j.r).trans g))
 |[],_::_,_,_,_,_,_,q=>q.elim|_::_,[],_,_,_,_,_,q=>q.elim
theorem zR_ {h1 h2 h:Hp}(j:Jn h1 h2 h):Jn h2 h1 h:=λp=>by
 rcases j p with⟨a,b⟩|⟨a,b⟩
 ·exact .inr ⟨a,b⟩
 ·exact .inl ⟨a,b⟩
theorem zw_ {h1 h2 jK h3 h:Hp}(j:Jn h1 h2 jK)(k:Jn jK h3 h):∃jJ,Jn h2 h3 jJ/\Jn h1 jJ h:=by
 have d:Dj h2 h3:=λp=>by
  rcases k.dj p with z |z
  ·exact .inl (j.r.free z)
  ·exact .inr z
 refine⟨un h2 h3,zcF_ d,λp=>?_⟩
 unfold un;rcases k p with⟨a,b⟩|⟨a,b⟩
 ·refine .inl ⟨j.l.free a,?_⟩
  rw[j.r.free a];exact b
 ·rcases j p with⟨c,e⟩|⟨c,e⟩
  ·refine .inl ⟨c,?_⟩
   rw[b,e];cases z:h2 p with
   |none=>exact a.symm ▸ rfl|some w=>rfl
  ·refine .inr ⟨?_,by rw[b,e]⟩
   rw[c];exact a
theorem OwAll.snoc:∀{xs:List α}{vs:List V}{F h:Hp}{x:α}{v:V}{hn:Hp},OwAll O F xs vs h->O.O x v F hn->Dj h hn->OwAll O F (xs++[x]) (vs++[v]) (un h hn)
 |[],[],F,h,x,v,hn,q,o,d=>by
  refine⟨hn,λ_=>xh,λp=>.inr ⟨rfl,?_⟩,o,λ_=>rfl⟩
  unfold un;rw[q p]
 |y::xs,w::vs,F,h,x,v,hn,q_,o,d=>by
  obtain⟨h1,h2,j,o1,r⟩:=q_;obtain⟨m,jm,jh⟩:=zw_ j (zcF_ d);have d2:Dj h2 hn:=jm.dj;have e:m=un h2 hn:=by
   funext p;unfold un;rcases jm p with⟨a,b⟩|⟨a,b⟩
   ·rw[a];exact b
   ·rw[b]
    cases z:h2 p with
    |none=>exact a.symm ▸ rfl|some w=>rfl
  rw[e]at jh;exact⟨h1,_,jh,o1,r.snoc o d2⟩
 |[],_::_,_,_,_,_,_,q,_,_=>q.elim|_::_,[],_,_,_,_,_,q,_,_=>q.elim
abbrev owLO (O:Own α):Own (List α):=⟨λxs v F h=>∃p vs h2,v=.ref p/\Jn (one p (.lst vs)) h2 h/\OwAll O F xs vs h2,tyL O.fr,λg ⟨p,vs,h2,e,j,q⟩=>⟨p,vs,h2,e,j,q.mono g⟩,
 λ{a v F h} d ⟨p,vs,h2,e,j,q⟩=>⟨p,vs,e,zdG_ d _ _ (j.l _ _ zB_),q.prs (λb=>by
  rcases d b with z |z
  ·exact .inl z
  ·exact .inr (j.r.free z)) (zff_ d j.r)⟩,
 λ⟨p,vs,h2,e,j,q⟩ b xs y=>by
  rcases j b with⟨_,z⟩|⟨_,z⟩
  ·rw[z]at y;exact q.notup b xs y
  ·rw[z]at y;unfold one at y;split at y<;>cases y⟩
end
section
end
def mFld (C:nR)(te:TE)(f:Str):TE:=λσ H Q=>te σ H λx H1=>match x with
 |.ref a=>∃dx fs v,H1 a=xg (.ins C dx fs)/\fs.lookup f=xg v/\Q v H1|_=>False
def mSFld (C:nR)(te tv:TE)(f:Str):TS:=λD σ H=>tv σ H λy H1=>te σ H1 λx H2=>match x with
 |.ref a=>∃dx fs,H2 a=xg (.ins C dx fs)/\fs.length<1000/\D.nx σ (upd H2 a (.ins C dx (putF f y fs)))|_=>False
def Gk (P:oH)(w:oV)(K:Fgg)(mg:Str->Option nI)(base:Heap)(CX:CXT)(k:Nat)(x:Str)(C:nR)(ps:List Str)(sp:Sp):Prop:=
 ∃f fd,FnOk P w K mg base CX k f fd ps sp/\Mk K C f/\mg x=xg (.ref C)/\Binds K fd ps []
section
variable {X:Cx}{e value o:oq}{f x:Str}{pos pos':Pos}{ta tv:TE}{C:nR}
theorem znh_ (c:Cls X.K C)(n:NoAttr X.K C f)(he:PE X e ta)(hb:attributeBase e f X.env (eval e X.env)=eval e X.env:=by rfl):PE X (.Attribute e f pos) (mFld C ta f):=by
 intro pins s σ H Q I h;refine zkg_ hb (thn (he pins s σ H _ I h) λu s1 af=>?_)
 obtain⟨x,H1,I1,rx,q1⟩:=af;cases x with
 |ref a=>
  obtain⟨dx,fs,v,ea,l,q⟩:=q1;obtain rfl:u=pB a:=rx;exact zeD_ I1 ea c n l λu' s2 I2 ru=>⟨v,H1,I2,ru,q⟩
 |_=>exact q1.elim
theorem zke_ (c:Cls X.K C)(n:NoAttr X.K C f)(ha:PE X o ta)(hv:PE X value tv)(hs:swapsWith value (xg (.Attribute o f pos')) pos.line X.env=pure xk:=by rfl):PS X (.Assign [.Attribute o f pos'] value pos) (mSFld C ta tv f):=by
 intro pins s σ H D I h;refine plainObj_wpAny_Assign_Attribute (thn (hv pins s σ H _ I h) λu s1 ⟨y,H1,I1,ry,q⟩=>thn (ha pins s1 σ H1 _ I1 q) λov s2 af=>?_) hs
 obtain⟨x,H2,I2,rx,q2⟩:=af;cases x with
 |ref a=>
  obtain⟨dx,fs,ea,l,q3⟩:=q2;obtain rfl:ov=pB a:=rx;exact zf9_ I2 ea c n l ry λs3 I3=>⟨σ,_,I3,q3⟩
 |_=>exact q2.elim
end
theorem zfb_:∀{ns:List Str}{vs:List V}{f:Str}(v:V),f∉ns->vs.length=ns.length->putF f v (ns.zip vs)=(ns++[f]).zip (vs++[v])
 |[],[],f,v,_,_=>rfl|[],_::_,_,_,_,h=>by simp at h
 |_::_,[],_,_,_,h=>by simp at h
 |n::ns,w::vs,f,v,h,hl=>by
  have aP:¬n=f:=λz=>h (z ▸ nV ..)
  rw[oZ,putF,if_neg aP,zfb_ v (λz=>h (nY _ z)) (by simpa using hl)];rfl
section
variable {α:Type}
theorem dj_l {F h1 h2 h:Hp}(d:Dj F h)(j:Jn h1 h2 h):Dj F h1:=λp=>by
 rcases d p with z |z
 ·exact .inl z
 ·exact .inr (j.l.free z)
theorem dj_r {F h1 h2 h:Hp}(d:Dj F h)(j:Jn h1 h2 h):Dj F h2:=λp=>by
 rcases d p with z |z
 ·exact .inl z
 ·exact .inr (j.r.free z)
def two (p dx:nR)(o:HO):Hp:=λq=>if q=p then xg o else if q=dx then xg (.own p)else xh
theorem zpx_ {p dx:nR}{o:HO}:two p dx o p=xg o:=if_pos rfl
noncomputable abbrev owAt (u:V)(O:Own α):Own α:=⟨λa v F h=>v=u/\O.O a v F h,O.fr,λg q=>⟨q.1,O.mono g q.2⟩,λd q=>O.frz d q.2,λq=>O.notup q.2⟩
theorem jn_re {b t m a h:Hp}(jm:Jn b t m)(j:Jn a m h):Jn t (un a b) h:=λq=>by
 rcases j q with⟨x,y⟩|⟨x,y⟩
 ·rcases jm q with⟨c,e⟩|⟨c,e⟩
  ·right
   refine⟨by unfold un;rw[x,c],by rw[y,e]⟩
  ·left
   refine⟨c,by unfold un;rw[x,y,e]⟩
 ·left
  refine⟨jm.r.free x,?_⟩;unfold un;rw[y];cases z:a q with
  |none=>exact(jm.l.free x).symm ▸ rfl|some w=>rfl
theorem dj_of {a b t m h:Hp}(jm:Jn b t m)(j:Jn a m h):Dj a b:=λq=>by
 rcases j.dj q with z |z
 ·exact .inl z
 ·exact .inr (jm.l.free z)
variable {F0 H0 F h H:Hp}
theorem zeh_ {k:Hp}(ok:Okk F0 H0 F h H)(s:Same k h):Okk F0 H0 F k H:=by
 refine⟨ok.1,λp=>?_,s.trans ok.2.2.1,λp z=>ok.2.2.2.1 p λy=>z (s.free y),λp xs z=>ok.2.2.2.2 p xs (s _ _ z)⟩
 rcases ok.2.1 p with z |z
 ·exact .inl z
 ·exact .inr (s.free z)
theorem zhp_ {h:Hp}(p:nR)(z:h p≠xh):less H h p=xh:=by
 unfold less;cases y:h p with
 |none=>exact absurd y z|some w=>rfl
theorem zkG_:Same (less H h) H:=λp o z=>by
 unfold less at z;split at z
 ·exact z
 ·cases z
theorem zcu_ (hs:Same F H)(dj:Dj F h)(hh:Same h H)(nt:∀p xs,h p≠xg (.tup xs)):Okk F (less H h) F h H:=by
 refine⟨⟨Same.refl _,hs,zkG_,λp a b=>absurd a b⟩,dj,hh,λp z=>zhp_ p z,nt⟩
end
section
variable {X:Cx}
def mTrL (K:Fgg)(t:TE):TT:=λσ H Q=>t σ H λx H'=>match x with
 |.bl k=>Q k H'|.ref a=>∃xs,SqL K H' a xs/\Q (!xs.isEmpty) H'|_=>False
theorem zo3_ {e:oq}{t:TE}(h:PE X e t)(he:∀whole,isTrue e X.env whole=(do let v <- whole;standAt e.pos;holding [v] (truthy v)):=by intro _;rfl):PT X e (mTrL X.K t):=by
 intro pins s σ H Q I hw;refine isTrue_plain (thn (h pins s σ H _ I hw) λv s1 af=>?_) (he _)
 obtain⟨x,H1,I1,r1,q1⟩:=af;cases x with
 |bl c=>cases r1;exact pd ⟨H1,I1,q1⟩|ref a=>
  cases r1;obtain⟨xs,hq,q⟩:=q1;obtain⟨aa,rv,p,hz⟩:=I1.list hq;have hl:=rv.length;refine wpAny_truthy_list p.isList (by rw[nW,<- hl];rw[sizeLine_eq]at hz;lia) ?_
  have e:aa.isEmpty=xs.isEmpty:=by cases rv<;>rfl
  refine⟨H1,I1.tok _,?_⟩
  simpa [e]using q
 |_=>exact q1.elim
end
section
variable {K:Fgg}{E:XK}{α β:Type}{F0 H0 F h:Hp}{L:List Sl}{e te:TE}{T:Ty α}{r:Mo α}{t:TS}{σ:St}{f m:Str}{i n w j:Nat}
theorem zjz_ {lv:List Str}{fr:List (Str×Nat)}{wi:TI}{g:TG}{tt:TT}{te:TE}{r:Mo (List α)}{ss:α->List (Nat×Sl)}{c:α->Mo Bool}{f:α->Mo β}{O':Own β}
  (hi:EvI K wi E L r T) (hg:TgR K g T ss) (hd:∀a,DeadAt (cL lv fr L) ((ss a).map (·.1))) (ht:∀a,EvT K tt E0 (setL (cL lv fr L) (ss a)) (c a)) (he:∀a,EvO K te E0 (setL (cL lv fr L) (ss a)) (f a) O'):
  EvO K (tComp lv fr wi g tt te) E L (r.bind λxs=>compM (λx=>cond1 (c x) (f x)) xs []) (owLO O'):=by
 intro σ F0 H0 Q hL hs q;refine hi σ F0 H0 _ hL hs (q.bind.imp λxs F1 H1 x1 k1 J Y D hD=>?_)
 have av:=hL.mono x1.1
 refine⟨λi m ys ah H'=>m=xs.length-i/\i<=xs.length/\∃acc Fi hh,Ext F1 H1 Fi H'/\Fi D=xh/\hh D=xh/\H' D=xg (.lst ys)/\OwAll O' Fi acc ys hh/\Dj Fi hh/\Same hh H'/\(∀p,hh p≠xh->H1 p=xh)/\HoldF (cL lv fr L) ah F1/\ah.length=(cL lv fr L).length/\After K (compM (λx=>cond1 (c x) (f x)) (xs.drop i) acc) E F1 H1 (OwnK (owLO O') H0 Q),
  ⟨_,rfl,qS _,[],F1,λ_=>xh,.heap x1.2.1 (zC_ hD _),x1.2.1.free hD,rfl,ze_,λ_=>rfl,λ_=>.inr rfl,(λp o z=>by cases z),λp z=>absurd rfl z,ze2_ av,zjQ_.symm,k1⟩,?_⟩
 rintro i m ys ah H' ⟨rfl,hi,acc,Fi,hh,xi,hDi,hDh,hy,hp,dj,sh,fresh,hσ,cD,A⟩;by_cases aM:i<xs.length
 ·right
  have ex:xs[i]?=xg xs[i]:=nU aM;obtain⟨g1,g2⟩:=Y.go i H' xs[i] (xi.1.trans xi.2.1) ex;refine⟨g1,λdS cW gC=>i+1<=xs.length/\∃acc Fi hh,Ext F1 H1 Fi gC/\Fi D=xh/\hh D=xh/\gC D=xg (.lst dS)/\OwAll O' Fi acc dS hh/\Dj Fi hh/\Same hh gC/\(∀p,hh p≠xh->H1 p=xh)/\HoldF (cL lv fr L) cW F1/\cW.length=(cL lv fr L).length/\After K (compM (λx=>cond1 (c x) (f x)) (xs.drop (i+1)) acc) E F1 H1 (OwnK (owLO O') H0 Q),λdS cW gC z=>⟨xs.length-(i+1),by omega,rfl,z⟩,λv H2 kq=>?_⟩
  obtain⟨F2,x2,hv⟩:=g2 v H2 kq Fi xi.1 xi.2.1;have keep:∀{Fa Ha Fb Hb:Hp},Ext Fa Ha Fb Hb->Fa D=xh->Ha D=xg (.lst ys)->Dj Fa hh->Same hh Ha->(Fb D=xh/\Hb D=xg (.lst ys))/\Dj Fb hh/\Same hh Hb:=by
   intro Fa Ha Fb Hb x h1 h2 h3 h4;refine⟨⟨?_,x.2.2.1 _ _ h2⟩,λp=>?_,h4.trans x.2.2.1⟩
   ·cases z:Fb D with
    |none=>rfl|some o=>have:=x.2.2.2 D h1 (by rw[z];exact sN _);rw[h2]at this;cases this
   ·cases y:hh p with
    |none=>exact .inr rfl|some w=>
     left;rcases h3 p with z |z
     ·cases zz:Fb p with
      |none=>rfl|some o=>have:=x.2.2.2 p z (by rw[zz];exact sN _);rw[h4 _ _ y]at this;cases this
     ·rw[z]at y;cases y
  obtain⟨⟨lP,hy2⟩,iH,sh2⟩:=keep x2 hDi hy dj sh;refine hg xs[i] v ah F2 H2 _ x2.2.1 hv λvs ax=>?_
  have gR:HoldF (cL lv fr L) ah F2:=hσ.mono (xi.1.trans x2.1);obtain⟨a1,a2,a3⟩:=zem_ ax cD.symm gR;have eW:HoldF (cL lv fr L) (setS ah vs) F1:=by
   have fF:=hd xs[i];refine λj s e=>?_
   by_cases hj:∃q∈(ss xs[i]).map (·.1),q=j
   ·obtain⟨q,hq,rfl⟩:=hj
    rw[fF q hq s e];trivial
   ·have:((setS ah vs)[j]?)=ah[j]?:=ziM_ ax (λhq=>hj ⟨j,hq,rfl⟩)
    rw[this];exact hσ j s e
  have fD:xs.drop i=xs[i]::xs.drop (i+1):=tm aM;rw[fD]at A;unfold compM at A;cases ec:c xs[i]with
  |no=>unfold cond1 at A;rw[ec]at A;exact A.elim|ex cc=>unfold cond1 at A;rw[ec]at A;exact A.elim|ok bb=>
   refine ht xs[i] _ F2 H2 _ a1 x2.2.1 ?_;rw[ec];intro F3 H3 x3;obtain⟨⟨jH,hy3⟩,dj3,sh3⟩:=keep x3 lP hy2 iH sh2;have gD:=(xi.trans x2).trans x3;cases bb with
   |false=>
    rw[if_neg (by decide)]
    refine⟨aM,acc,F3,hh,gD,jH,hDh,hy3,hp.mono (x2.1.trans x3.1),dj3,sh3,fresh,eW,by rw[a2];exact cD,?_⟩
    unfold cond1 at A;rw[ec]at A;exact A
   |true=>
    rw[if_pos rfl];cases ef:f xs[i]with
    |no=>unfold cond1 at A;rw[ec,ef]at A;exact A.elim|ex cc=>unfold cond1 at A;rw[ec,ef]at A;exact A.elim|ok y=>
     unfold cond1 at A;rw[ec,ef]at A;have A':After K (Mo.lim (acc.length+1) (compM (λx=>cond1 (c x) (f x)) (xs.drop (i+1)) (acc++[y]))) E F1 H1 (OwnK (owLO O') H0 Q):=A
     obtain⟨hz,A'⟩:=A'.lim;refine he xs[i] _ F3 H3 _ (a1.mono x3.1) x3.2.1 ?_;rw[ef];intro F4 H4 x4 v4 hn iD iG j_ dZ;obtain⟨⟨jG,hy4⟩,m5,sh4⟩:=keep x4 jH hy3 dj3 sh3;have hlen:=hp.len;have jl:hn D=xh:=by
      cases z:hn D with
      |none=>rfl|some w=>have:=iD D (by rw[z];exact sN _);rw[hy3]at this;cases this
     have mZ:Dj hh hn:=λp=>by
      cases z:hn p with
      |none=>exact .inr rfl|some w=>exact .inl (sh3.free (iD p (by rw[z];exact sN _)))
     have fV:=gD.trans x4;refine⟨hy4,by omega,aM,acc++[y],F4,un hh hn,?_,jG,by unfold un;rw[hDh];exact jl,ze_,(hp.mono ((x2.1.trans x3.1).trans x4.1)).snoc dZ mZ,λp=>?_,λp o z=>?_,λp z=>?_,eW,by rw[a2];exact cD,A'⟩
     ·refine⟨fV.1,λb o z=>?_,λb o z=>?_,fV.2.2.2⟩
      ·unfold upd;split
       ·rename_i w;rw[w,jG]at z;cases z
       ·exact fV.2.1 _ _ z
      ·unfold upd;split
       ·rename_i w;rw[w,hD]at z;cases z
       ·exact fV.2.2.1 _ _ z
     ·unfold un
      cases z:hh p with
      |some w=>
       rcases m5 p with y |y
       ·exact .inl y
       ·rw[y]at z;cases z
      |none=>exact iG p
     ·have kZ:p≠D:=λw=>by
       unfold un at z;rw[w,hDh,jl]at z;cases z
      unfold upd;rw[if_neg kZ];unfold un at z;cases w:hh p with
      |some o'=>rw[w]at z;cases z;exact sh4 _ _ w|none=>rw[w]at z;exact j_ _ _ z
     ·unfold un at z
      cases w:hh p with
      |some o'=>exact fresh p (by rw[w];exact sN _)|none=>rw[w]at z;exact gD.2.2.1.free (iD p z)
 ·left
  have e:i=xs.length:=by omega
  subst e;refine⟨Y.stop H' (xi.1.trans xi.2.1),?_⟩;rw[tO]at A;have A':OwnK (owLO O') H0 Q acc Fi H':=A Fi H' xi;have dD:Dj (one D (.lst ys)) hh:=λp=>by
   unfold one;split
   ·rename_i w;rw[w];exact .inr hDh
   ·exact .inl rfl
  refine A' (.ref D) (un (one D (.lst ys)) hh) (λp z=>?_) (λp=>?_) (λp o z=>?_) ⟨D,ys,hh,rfl,zcF_ dD,hp⟩
  ·unfold un one at z
   by_cases w:p=D
   ·rw[w];exact x1.2.2.1.free hD
   ·simp only[if_neg w]at z;exact x1.2.2.1.free (fresh p z)
  ·by_cases w:p=D
   ·rw[w];exact .inl hDi
   ·unfold un one;simp only[if_neg w];exact dj p
  ·unfold un one at z
   by_cases w:p=D
   ·simp only[if_pos w]at z;rw[w];cases z;exact hy
   ·simp only[if_neg w]at z;exact sh _ _ z
theorem jn_no {h1 h2 h:Hp}(j:Jn h1 h2 h)(n:∀p,h2 p=xh):h=h1:=funext λp=>by
 rcases j p with⟨a,b⟩|⟨_,b⟩
 ·rw[b,n,a]
 ·exact b
section
open PySem PySem.Spec PyProof.Rows PySem.W
end
theorem zg_ {α:Type}{us:List α}{n:Nat}(h:us.length=n+1):∃a t,us=a::t/\t.length=n:=by
 cases us with
 |nil=>cases h|cons a t=>exact⟨a,t,rfl,qh h⟩
theorem Fun.binds1 {x qual:Str}{st:pM}{f:nR}{fd:pL}{ps:List Str}(hp:ps.length=1)(F:Fun K x qual st f fd)(h:∀(kV doc pm:nI) (an:Option nR) (ai ct:nI) (ua:nI),bindArgs (W.fnOf x qual (defArgs st) (defBody st) (defScope st) .none kV doc pm an ai ct) ⟨[ua],[]⟩=pure (ps.zip [ua])):Binds K fd ps []:=by
 refine F.binds λkV doc pm an ai ct us hl=>?_
 have h0:=hl.trans hp;obtain⟨ua,t1,rfl,h1⟩:=zg_ h0;cases pb.mp h1;exact h kV doc pm an ai ct ua
theorem Fun.binds2 {x qual:Str}{st:pM}{f:nR}{fd:pL}{ps:List Str}(hp:ps.length=2)(F:Fun K x qual st f fd)(h:∀(kV doc pm:nI) (an:Option nR) (ai ct:nI) (ua ub:nI),bindArgs (W.fnOf x qual (defArgs st) (defBody st) (defScope st) .none kV doc pm an ai ct) ⟨[ua,ub],[]⟩=pure (ps.zip [ua,ub])):Binds K fd ps []:=by
 refine F.binds λkV doc pm an ai ct us hl=>?_
 have h0:=hl.trans hp;obtain⟨ua,t1,rfl,h1⟩:=zg_ h0;obtain⟨ub,t2,rfl,h2⟩:=zg_ h1;cases pb.mp h2;exact h kV doc pm an ai ct ua ub
theorem Fun.binds3 {x qual:Str}{st:pM}{f:nR}{fd:pL}{ps:List Str}(hp:ps.length=3)(F:Fun K x qual st f fd)(h:∀(kV doc pm:nI) (an:Option nR) (ai ct:nI) (ua ub uc:nI),bindArgs (W.fnOf x qual (defArgs st) (defBody st) (defScope st) .none kV doc pm an ai ct) ⟨[ua,ub,uc],[]⟩=pure (ps.zip [ua,ub,uc])):Binds K fd ps []:=by
 refine F.binds λkV doc pm an ai ct us hl=>?_
 have h0:=hl.trans hp;obtain⟨ua,t1,rfl,h1⟩:=zg_ h0;obtain⟨ub,t2,rfl,h2⟩:=zg_ h1;obtain⟨uc,t3,rfl,h3⟩:=zg_ h2;cases pb.mp h3;exact h kV doc pm an ai ct ua ub uc
theorem Fun.binds4 {x qual:Str}{st:pM}{f:nR}{fd:pL}{ps:List Str}(hp:ps.length=4)(F:Fun K x qual st f fd)(h:∀(kV doc pm:nI) (an:Option nR) (ai ct:nI) (ua ub uc ud:nI),bindArgs (W.fnOf x qual (defArgs st) (defBody st) (defScope st) .none kV doc pm an ai ct) ⟨[ua,ub,uc,ud],[]⟩=pure (ps.zip [ua,ub,uc,ud])):Binds K fd ps []:=by
 refine F.binds λkV doc pm an ai ct us hl=>?_
 have h0:=hl.trans hp;obtain⟨ua,t1,rfl,h1⟩:=zg_ h0;obtain⟨ub,t2,rfl,h2⟩:=zg_ h1;obtain⟨uc,t3,rfl,h3⟩:=zg_ h2;obtain⟨ud,t4,rfl,h4⟩:=zg_ h3;cases pb.mp h4;exact h kV doc pm an ai ct ua ub uc ud
theorem Fun.binds5 {x qual:Str}{st:pM}{f:nR}{fd:pL}{ps:List Str}(hp:ps.length=5)(F:Fun K x qual st f fd)(h:∀(kV doc pm:nI) (an:Option nR) (ai ct:nI) (ua ub uc ud ue:nI),bindArgs (W.fnOf x qual (defArgs st) (defBody st) (defScope st) .none kV doc pm an ai ct) ⟨[ua,ub,uc,ud,ue],[]⟩=pure (ps.zip [ua,ub,uc,ud,ue])):Binds K fd ps []:=by
 refine F.binds λkV doc pm an ai ct us hl=>?_
 have h0:=hl.trans hp;obtain⟨ua,t1,rfl,h1⟩:=zg_ h0;obtain⟨ub,t2,rfl,h2⟩:=zg_ h1;obtain⟨uc,t3,rfl,h3⟩:=zg_ h2;obtain⟨ud,t4,rfl,h4⟩:=zg_ h3;obtain⟨ue,t5,rfl,h5⟩:=zg_ h4;cases pb.mp h5;exact h kV doc pm an ai ct ua ub uc ud ue
end
section
end
section
variable {κ:Type}[DecidableEq κ]
end
section
end
def mSetD (td ty tz:TE):TE:=λσ H Q=>td σ H λx H1=>(match x with |.ref a=>∃kvs,H1 a=xg (.dK kvs)|_=>False)/\ty σ H1 λy H2=>tz σ H2 λz H3=>atD x y H3 λa kvs k=>
 match valV kvs k with |some v=>Q v H3 |none=>kvs.length<oh/\Q z (upd H3 a (.dK (putK kvs k z)))
section
variable {X:Cx}{o e f:oq}{apos au:Pos}{td ty tz:TE}
theorem zjI_ (hu:X.A.units+60<cLine)(ho:PE X o td)(he:PE X e ty)(hf:PE X f tz)(m:M2 X o "setdefault" apos e f au:=by exact⟨rfl,rfl,rfl,rfl⟩):PE X (.Call (.Attribute o "setdefault" apos) [e,f] [] au) (mSetD td ty tz):=by
 intro pins s σ H Q I h;refine wpAny_Call_method m.base m.few m.line PySem.F.plainAttrs_dict sG PySem.F.type_dict_setdefault (thn (ho pins s σ H _ I h) λu s1 af=>?_)
 obtain⟨x,H1,I1,rx,hx,q1⟩:=af;cases x with
 |ref a=>
  obtain⟨gL,hd0⟩:=hx;obtain rfl:u=pB a:=rx;obtain⟨t1,t2,_⟩:=znF_ I1 (.inl ⟨gL,.inl hd0⟩);refine⟨t1,t2,?_⟩;rw[m.trees];refine Calls.callWith_builtin rfl (Calls.evalArgs_plain (Calls.spliced_cons (thn (he pins s1 σ H1 _ I1 q1) λiv s2 ⟨y,H2,I2,ry,q2⟩=>
   Calls.spliced_cons (thn (hf pins s2 σ H2 _ I2 q2) λfv s3 ⟨z,H3,I3,rz,q3⟩=>Calls.spliced_nil ?_))))
  obtain⟨a',kvs,k,ea,rfl,hd,q⟩:=zl4_ q3;cases ea;obtain⟨hz,hsys,vs,rel,dd⟩:=zpY_ I3.hok hd;have kn:vs.length<=oh:=by rw[<- rel.length];exact hz
  have rk:=rel.val k;refine call_meetsIn sG dd.typeIs PySem.F.entry_dict_setdefault (PySem.F.args_dict_setdefault_3 _ _ _) (kt_meets_setdefault (mixKind X.prog X.w) a (zj1_ ry) hsys fv) ⟨vs,dd,kn,λv hv=>?_,λhn h' cq hs=>?_⟩
  ·rw[hv]at rk
   cases g:valV kvs k with
   |none=>rw[g]at rk;exact rk.elim|some v0=>rw[g]at rk q;exact⟨v0,H3,I3.tok _,rk,q⟩
  ·rw[hn]at rk
   cases g:valV kvs k with
   |some v0=>rw[g]at rk;exact rk.elim|none=>
    rw[g]at q;have hl:(putK kvs k z).length<=oh:=by have:=zaF_ kvs k z;have:=q.1;lia
    have hq:∃q,h'.get? a=xg q:=let⟨q,_,_,hq,_⟩:=cq;⟨q,hq⟩
    exact⟨z,_,zd2_ I3 (by rw[hd];exact qd) hs hq (zjO_ hl hsys (rel.put k rz) cq),rz,q.2⟩
 |_=>exact hx.elim
end
section
variable {κ:Type}[DecidableEq κ]
end
section
end
section
variable {κ:Type}
variable [DecidableEq κ]
end
section
variable {κ:Type}[DecidableEq κ]
end
section
end
def Fi (K:Fgg)(x q:Str)(st:pM)(f:nR):Prop:=∃(oc:nI) (od:Option nR) (kV doc pm:nI) (an:Option nR) (ai ct:nI) (ao:Array (Option nI)),
 K.lookup f=xg ⟨oc,od,.func (W.fnOf x q (defArgs st) (defBody st) (defScope st) .none kV doc pm an ai ct),ao⟩/\sv K ai q=xj/\qT K (.ref f)=xj
def Fg (K:Fgg)(x:Str)(st:pM):Prop:=∃f,qu K oI x=xg (xg (.ref f))/\Fi K x x st f
def Fm (K:Fgg)(c m q:Str)(st:pM):Prop:=∃cw f,qu K oI c=xg (xg (.ref cw))/\qo K (.ref cw) m=xg (xg (.ref f))/\vR K (.ref f)=xj/\Fi K m q st f
def Fc (K:Fgg)(c:Str):Prop:=∃cw,qu K oI c=xg (xg (.ref cw))/\tW K cw vH=xj/\sr K cw=xj/\uu K cw=xj /\
 qo K (.ref cw) "__setattr__"=xg (xg (.builtin "object.__setattr__"))/\uP K cw=xj/\qT K (.ref cw)=xj
def Fa (K:Fgg)(c a:Str):Prop:=∃cw,qu K oI c=xg (xg (.ref cw))/\qo K (.ref cw) a=xg xh
def Fb (K:Fgg)(x:Str):Prop:=qu K oI x=xg xh
def Fv (K:Fgg)(x:Str)(v:V):Prop:=∃u,qu K oI x=xg (xg u)/\RelV v u
def Fk (K:Fgg)(x:Str):Prop:=∃c,qu K oI x=xg (xg (.ref c))
def Mgo (K:Fgg)(mg:Str->Option nI):Prop:=∃h:Heap,K.In h/\h.Ns oI mg
section
variable {P:oH}{w:oV}{K:Fgg}{mg:Str->Option nI}{base:Heap}{CX:CXT}{x q c m a:Str}{st:pM}{f:nR}{fd:pL}{ps:List Str}{k:Nat}{sp:Sp}{v:V}
theorem Fg.mk_ {oc:nI}{od:Option nR}{kV doc pm:nI}{an:Option nR}{ai ct:nI}{ao:Array (Option nI)}(h:qu K oI x=xg (xg (.ref f)))(l:K.lookup f=xg ⟨oc,od,.func (W.fnOf x x (defArgs st) (defBody st) (defScope st) .none kV doc pm an ai ct),ao⟩)(c:sv K ai x=xj)(k:qT K (.ref f)=xj):Fg K x st:=⟨f,h,oc,od,kV,doc,pm,an,ai,ct,ao,l,c,k⟩
theorem Fm.mk_ {cw:nR}{oc:nI}{od:Option nR}{kV doc pm:nI}{an:Option nR}{ai ct:nI}{ao:Array (Option nI)}(h:qu K oI c=xg (xg (.ref cw)))(h1:qo K (.ref cw) m=xg (xg (.ref f)))(h2:vR K (.ref f)=xj)(l:K.lookup f=xg ⟨oc,od,.func (W.fnOf m q (defArgs st) (defBody st) (defScope st) .none kV doc pm an ai ct),ao⟩)(h3:sv K ai q=xj)(k:qT K (.ref f)=xj):Fm K c m q st:=⟨cw,f,h,h1,h2,oc,od,kV,doc,pm,an,ai,ct,ao,l,h3,k⟩
theorem Fc.mk_ {cw:nR}(h:qu K oI c=xg (xg (.ref cw)))(h1:tW K cw vH=xj)(h2:sr K cw=xj)(h3:uu K cw=xj)(h4:qo K (.ref cw) "__setattr__"=xg (xg (.builtin "object.__setattr__")))(h5:uP K cw=xj)(h6:qT K (.ref cw)=xj):Fc K c:=⟨cw,h,h1,h2,h3,h4,h5,h6⟩
theorem Fa.mk_ {cw:nR}(h:qu K oI c=xg (xg (.ref cw)))(h1:qo K (.ref cw) a=xg xh):Fa K c a:=⟨cw,h,h1⟩
theorem Fv.mk_ {u:nI}(h:qu K oI x=xg (xg u))(h1:RelV v u):Fv K x v:=⟨u,h,h1⟩
theorem Fk.mk_ {cw:nR}(h:qu K oI x=xg (xg (.ref cw))):Fk K x:=⟨cw,h⟩
theorem Fi.fun_ (h:Fi K x q st f):∃fd,Fun K x q st f fd:=by
 obtain⟨oc,od,kV,doc,pm,an,ai,ct,ao,l,c,k⟩:=h;exact⟨_,zkO_ l c k⟩
theorem Mgo.gb (M:Mgo K mg)(h:Fb K x):Gb mg x:=by
 obtain⟨_,X,G⟩:=M;exact W.mg_none_of X G h
theorem Mgo.gv (M:Mgo K mg)(h:Fv K x v):Gc mg x v:=by
 obtain⟨_,X,G⟩:=M;obtain⟨u,e,r⟩:=h;exact⟨u,vV X G e,r⟩
theorem Mgo.gk (M:Mgo K mg)(h:Fk K x):mg x=xg (.ref (gA K x)):=by
 obtain⟨_,X,G⟩:=M;obtain⟨u,e⟩:=h;rw[zhG_ e];exact vV X G e
theorem Mgo.gkc (M:Mgo K mg)(h:Fk K x):Gc mg x (.ref (gA K x)):=⟨_,M.gk h,rfl⟩
theorem Fc.cls (h:Fc K c):Cls K (gA K c):=by
 obtain⟨cw,e,h1,h2,h3,h4,_⟩:=h;rw[zhG_ e];exact⟨h1,h2,h3,h4⟩
theorem Fa.no (h:Fa K c a):NoAttr K (gA K c) a:=by
 obtain⟨cw,e,h⟩:=h;rw[zhG_ e];exact h
abbrev OkF (P:oH)(w:oV)(K:Fgg)(mg:Str->Option nI)(base:Heap)(CX:CXT)(k:Nat)(x q:Str)(st:pM)(ps:List Str)(sp:Sp):Prop:=∀f fd,Fun K x q st f fd->FnOk P w K mg base CX k f fd ps sp/\Binds K fd ps []
theorem gd_of (M:Mgo K mg)(F:Fg K x st)(h:OkF P w K mg base CX k x x st ps sp):Gd P w K mg base CX k x ps sp:=by
 obtain⟨_,X,G⟩:=M;obtain⟨f,e,i⟩:=F;obtain⟨fd,F⟩:=i.fun_;exact⟨f,fd,(h f fd F).1,vV X G e,F.kp,(h f fd F).2⟩
end
section
variable {K:Fgg}{x q:Str}{st:pM}{ps:List Str}
abbrev Bnd (K:Fgg)(x q:Str)(st:pM)(ps:List Str):Prop:=∀f fd,Fun K x q st f fd->Binds K fd ps []
variable {l:PySem.W.OpenLaw}{w:oV}{mg:Str->Option nI}{k:Nat}{sp:Sp}{fa:nR}
theorem okLaw (M:Mgo K mg)(F:Fg K "law" st)(il:mg "law"=xg (.ref fa))(hb:∀(kV doc pm:nI) (an:Option nR) (ai ct:nI) (s:nO) (v:nI),bindArgs (W.fnOf "law" "law" (defArgs st) (defBody st) (defScope st) .none kV doc pm an ai ct) ⟨[v],[]⟩=pure [(x,v)])
  (h:∀(base:Heap) (f:nR) (fd:pL),Fun K "law" "law" st f fd->FnOk l.prog w K mg base CX0 k f fd [x] sp):
  ∃fd:pL,(∀(s:nO) (v:nI),BindsTo s fd ⟨[v],[]⟩ [(x,v)])/\∀base:Heap,K.In base->base.Ns oI mg->FnOk l.prog w K mg base CX0 k fa fd [x] sp:=by
 obtain⟨_,X,G⟩:=M;obtain⟨f,e,oc,od,kV,doc,pm,an,ai,ct,ao,l',c,kk⟩:=F;cases il.symm.trans (vV X G e);exact⟨_,λs v=>.of_eq (hb kV doc pm an ai ct s v),λbase _ _=>h base _ _ (zkO_ l' c kk)⟩
def spL (K:Fgg):Sp:=λvs H Q _=>∃(a:nR) (ns:List Int),vs=[.ref a]/\SqL K H a (ns.map V.int)/\ns.length<=63/\BitsOk ns/\∀H',Q (.bl xj) H'
end
abbrev zhs_:=@PySem.F.plainAttrs_list
abbrev zcl_:=@PySem.F.slot_list_append
abbrev zcN_:=@PySem.F.type_list_append
abbrev zcv_:=@PySem.F.slot_list_extend
abbrev zck_:=@PySem.F.type_list_extend
section
variable {st:SortSt}
structure Sm (st aX:SortSt):Prop where
 k:kindOf aX=kindOf st
 a:arrOf aX=arrOf st
 p:pendingOf aX=pendingOf st
 f:failedOf aX=failedOf st
end
def Fe1 (K:Fgg)(a:Str)(P:nR->Prop):Prop:=∃v,qu K oI a=xg (xg (.ref v))/\P v
theorem Fe1.mk_ {K:Fgg}{a:Str}{P:nR->Prop}{v:nR}(h:qu K oI a=xg (xg (.ref v)))(p:P v):Fe1 K a P:=⟨v,h,p⟩
theorem Fe1.g {K:Fgg}{a:Str}{P:nR->Prop}(h:Fe1 K a P):P (gA K a):=by
 obtain⟨v,h,p⟩:=h;rw[zhG_ h];exact p
def Fe2 (K:Fgg)(a b:Str)(P:nR->nR->Prop):Prop:=∃v w,qu K oI a=xg (xg (.ref v))/\qu K oI b=xg (xg (.ref w))/\P v w
theorem Fe2.mk_ {K:Fgg}{a b:Str}{P:nR->nR->Prop}{v w:nR}(h:qu K oI a=xg (xg (.ref v)))(h2:qu K oI b=xg (xg (.ref w)))(p:P v w):Fe2 K a b P:=⟨v,w,h,h2,p⟩
theorem Fe2.g {K:Fgg}{a b:Str}{P:nR->nR->Prop}(h:Fe2 K a b P):P (gA K a) (gA K b):=by
 obtain⟨v,w,h,h2,p⟩:=h;rw[zhG_ h,zhG_ h2];exact p
section
end
open PySem.SeqAt
open PySem.AutoSeq1 (wpAny_loadPart')
open PySem.MeetsSeq PySem.MeetsSeq2 PySem.MeetsSeq3
section
variable {X:Cx}{pins:Pnn}{σ:St}{H:Hp}{s:nO}{A:ph}
theorem zl0_ {x y:V}{v u:nI}(rx:RelV x v)(ry:RelV y u)(fx:flatV x=xj)(fy:flatV y=xj):rj A s v u (eqV x y):=by
 cases x with
 |non=>
  cases rx;cases y with
  |non=>cases ry;exact SeqAt.RcAt.none_none|bl b=>cases ry;exact SeqAt.RcAt.none_bool _|int b=>obtain⟨t,rfl⟩:=ry;exact SeqAt.RcAt.none_int _ _|str b=>obtain⟨t,rfl⟩:=ry;exact SeqAt.RcAt.none_str _ _|_=>cases fy
 |bl a=>
  cases rx;cases y with
  |non=>cases ry;exact SeqAt.RcAt.bool_none _|bl b=>cases ry;exact SeqAt.RcAt.bool_bool _ _|int b=>obtain⟨t,rfl⟩:=ry;exact SeqAt.RcAt.bool_int _ _ _|str b=>obtain⟨t,rfl⟩:=ry;exact SeqAt.RcAt.bool_str _ _ _|_=>cases fy
 |int a=>
  obtain⟨t',rfl⟩:=rx;cases y with
  |non=>cases ry;exact SeqAt.RcAt.int_none _ _|bl b=>cases ry;exact SeqAt.RcAt.int_bool _ _ _|int b=>obtain⟨t,rfl⟩:=ry;exact SeqAt.RcAt.int_int _ _ _ _|str b=>obtain⟨t,rfl⟩:=ry;exact SeqAt.RcAt.int_str _ _ _ _|_=>cases fy
 |str a=>
  obtain⟨t',rfl⟩:=rx;cases y with
  |non=>cases ry;exact SeqAt.RcAt.str_none _ _|bl b=>cases ry;exact SeqAt.RcAt.str_bool _ _ _|int b=>obtain⟨t,rfl⟩:=ry;exact SeqAt.RcAt.str_int _ _ _ _|str b=>obtain⟨t,rfl⟩:=ry;exact SeqAt.RcAt.str_str _ _ _ _|_=>cases fy
 |_=>cases fx
theorem zjM_ {x y:V}{v u:nI}(rx:RelV x v)(ry:RelV y u)(fx:flatV x=xj)(fy:flatV y=xj):rJ A s v u (!eqV x y):=by
 cases x with
 |non=>
  cases rx;cases y with
  |non=>cases ry;exact vW|bl b=>cases ry;exact vX _|int b=>obtain⟨t,rfl⟩:=ry;exact wq _ _|str b=>obtain⟨t,rfl⟩:=ry;exact wu _ _|_=>cases fy
 |bl a=>
  cases rx;cases y with
  |non=>cases ry;exact vY _|bl b=>cases ry;exact vZ _ _|int b=>obtain⟨t,rfl⟩:=ry;exact wx _ _ _|str b=>obtain⟨t,rfl⟩:=ry;exact wy _ _ _|_=>cases fy
 |int a=>
  obtain⟨t',rfl⟩:=rx;cases y with
  |non=>cases ry;exact wz _ _|bl b=>cases ry;exact wA _ _ _|int b=>obtain⟨t,rfl⟩:=ry;exact wN _ _ _ _|str b=>obtain⟨t,rfl⟩:=ry;exact wO _ _ _ _|_=>cases fy
 |str a=>
  obtain⟨t',rfl⟩:=rx;cases y with
  |non=>cases ry;exact wB _ _|bl b=>cases ry;exact wC _ _ _|int b=>obtain⟨t,rfl⟩:=ry;exact wQ _ _ _ _|str b=>obtain⟨t,rfl⟩:=ry;exact wR _ _ _ _|_=>cases fy
 |_=>cases fx
theorem rc_lf {p:nR}{aa:Array nI}{y:V}{u:nI}(hp:s.heap.IsList p aa)(ry:RelV y u)(fy:flatV y=xj)(hu:A.units<cLine):rj A s (.ref p) u xk:=by
 cases y with
 |non=>cases ry;exact SeqAt.RcAt.list_none hp hu|bl b=>cases ry;exact SeqAt.RcAt.list_bool _ hp hu|int b=>obtain⟨t,rfl⟩:=ry;exact SeqAt.RcAt.list_int _ _ hp hu|str b=>obtain⟨t,rfl⟩:=ry;exact SeqAt.RcAt.list_str _ _ hp hu|_=>cases fy
theorem rc_lF {p:nR}{aa:Array nI}{y:V}{u:nI}(hp:s.heap.IsList p aa)(ry:RelV y u)(fy:flatV y=xj)(hu:A.units<cLine):rj A s u (.ref p) xk:=by
 cases y with
 |non=>cases ry;exact SeqAt.RcAt.none_list hp hu|bl b=>cases ry;exact SeqAt.RcAt.bool_list _ hp hu|int b=>obtain⟨t,rfl⟩:=ry;exact SeqAt.RcAt.int_list _ _ hp hu|str b=>obtain⟨t,rfl⟩:=ry;exact SeqAt.RcAt.str_list _ _ hp hu|_=>cases fy
theorem rc_tf {p:nR}{aa:Array nI}{y:V}{u:nI}(hp:s.heap.IsTuple p aa)(ry:RelV y u)(fy:flatV y=xj)(hu:A.units<cLine):rj A s (.ref p) u xk:=by
 cases y with
 |non=>cases ry;exact SeqAt.RcAt.tuple_none hp hu|bl b=>cases ry;exact SeqAt.RcAt.tuple_bool _ hp hu|int b=>obtain⟨t,rfl⟩:=ry;exact SeqAt.RcAt.tuple_int _ _ hp hu|str b=>obtain⟨t,rfl⟩:=ry;exact SeqAt.RcAt.tuple_str _ _ hp hu|_=>cases fy
theorem rc_tF {p:nR}{aa:Array nI}{y:V}{u:nI}(hp:s.heap.IsTuple p aa)(ry:RelV y u)(fy:flatV y=xj)(hu:A.units<cLine):rj A s u (.ref p) xk:=by
 cases y with
 |non=>cases ry;exact SeqAt.RcAt.none_tuple hp hu|bl b=>cases ry;exact SeqAt.RcAt.bool_tuple _ hp hu|int b=>obtain⟨t,rfl⟩:=ry;exact SeqAt.RcAt.int_tuple _ _ hp hu|str b=>obtain⟨t,rfl⟩:=ry;exact SeqAt.RcAt.str_tuple _ _ hp hu|_=>cases fy
theorem zpl_ {p:nR}{aa:Array nI}{y:V}{u:nI}(hp:s.heap.IsList p aa)(ry:RelV y u)(fy:flatV y=xj)(hu:A.units<cLine):rJ A s (.ref p) u xj:=by
 cases y with
 |non=>cases ry;exact v3 hp hu|bl b=>cases ry;exact v7 _ hp hu|int b=>obtain⟨t,rfl⟩:=ry;exact wD _ _ hp hu|str b=>obtain⟨t,rfl⟩:=ry;exact wF _ _ hp hu|_=>cases fy
theorem zos_ {p:nR}{aa:Array nI}{y:V}{u:nI}(hp:s.heap.IsList p aa)(ry:RelV y u)(fy:flatV y=xj)(hu:A.units<cLine):rJ A s u (.ref p) xj:=by
 cases y with
 |non=>cases ry;exact v8 hp hu|bl b=>cases ry;exact wa _ hp hu|int b=>obtain⟨t,rfl⟩:=ry;exact wG _ _ hp hu|str b=>obtain⟨t,rfl⟩:=ry;exact wH _ _ hp hu|_=>cases fy
theorem znM_ {p:nR}{aa:Array nI}{y:V}{u:nI}(hp:s.heap.IsTuple p aa)(ry:RelV y u)(fy:flatV y=xj)(hu:A.units<cLine):rJ A s (.ref p) u xj:=by
 cases y with
 |non=>cases ry;exact vJ hp hu|bl b=>cases ry;exact vK _ hp hu|int b=>obtain⟨t,rfl⟩:=ry;exact wb _ _ hp hu|str b=>obtain⟨t,rfl⟩:=ry;exact wc _ _ hp hu|_=>cases fy
theorem zp1_ {p:nR}{aa:Array nI}{y:V}{u:nI}(hp:s.heap.IsTuple p aa)(ry:RelV y u)(fy:flatV y=xj)(hu:A.units<cLine):rJ A s u (.ref p) xj:=by
 cases y with
 |non=>cases ry;exact vL hp hu|bl b=>cases ry;exact vM _ hp hu|int b=>obtain⟨t,rfl⟩:=ry;exact wd _ _ hp hu|str b=>obtain⟨t,rfl⟩:=ry;exact we _ _ hp hu|_=>cases fy
theorem zkC_ (I:Inv X pins σ H s){n:Nat}{x y:V}{b:Bool}(h:EqD X.K H n x y b):∀(A:ph) (v u:nI),A.units+n<cLine->RelV x v->RelV y u->rj A s v u b:=by
 induction h with
 |flat hx hy=>exact λA v u _ rx ry=>zl0_ rx ry hx hy|lst e hp hq hl h ih=>exact λA v u hu rx ry=>(zdt_ I (.lst e hp hq hl h) A v u hu rx ry).2 _ _ rfl rfl|lstN hp hq hl=>exact λA v u hu rx ry=>(zdt_ I (.lstN hp hq hl) A v u hu rx ry).2 _ _ rfl rfl|tup e hp hq h ih=>exact λA v u hu rx ry=>(zdt_ I (.tup e hp hq h) A v u hu rx ry).2 _ _ rfl rfl|lt hp hq=>exact λA v u hu rx ry=>(zdt_ I (.lt hp hq) A v u hu rx ry).2 _ _ rfl rfl|tl hp hq=>exact λA v u hu rx ry=>(zdt_ I (.tl hp hq) A v u hu rx ry).2 _ _ rfl rfl|lf hp hy=>intro A v u hu rx ry;cases rx;obtain⟨aa,_,p1,_⟩:=I.list hp;exact rc_lf p1.isList ry hy (by lia)
 |fl hp hy=>intro A v u hu rx ry;cases ry;obtain⟨aa,_,p1,_⟩:=I.list hp;exact rc_lF p1.isList rx hy (by lia)
 |tf hp hy=>intro A v u hu rx ry;cases rx;obtain⟨aa,_,p1,_⟩:=I.tuple hp;exact rc_tf p1 ry hy (by lia)
 |ft hp hy=>intro A v u hu rx ry;cases ry;obtain⟨aa,_,p1,_⟩:=I.tuple hp;exact rc_tF p1 rx hy (by lia)
 |up h ih=>exact λA v u hu rx ry=>ih A v u (by lia) rx ry
def mEqA (K:Fgg):R2:=λx y H Q=>∃n b,n<=50/\EqD K H n x y b/\Q (.bl b) H
theorem znQ_ (hu:X.A.units+60<cLine):OpR X (oQ .Eq) (mEqA X.K):=by
 intro pins s σ H x y v u Q I rx ry h;obtain⟨n,b,hn,h,q⟩:=h;exact(zkC_ I h X.A v u (by lia) rx ry) X.prog X.w X.xe _ ⟨.bl b,H,I,rfl,q⟩
theorem zi8_ (I:Inv X pins σ H s){n:Nat}{x y:V}{b:Bool}(h:EqD X.K H n x y b):∀(A:ph) (v u:nI),A.units+n<cLine->RelV x v->RelV y u->rJ A s v u (!b):=by
 induction h with
 |flat hx hy=>exact λA v u _ rx ry=>zjM_ rx ry hx hy|lst e hp hq hl h ih=>exact λA v u hu rx ry=>zeU_ I (.lst e hp hq hl h) A v u hu rx ry _ _ rfl rfl|lstN hp hq hl=>exact λA v u hu rx ry=>zeU_ I (.lstN hp hq hl) A v u hu rx ry _ _ rfl rfl|tup e hp hq h ih=>exact λA v u hu rx ry=>zeU_ I (.tup e hp hq h) A v u hu rx ry _ _ rfl rfl|lt hp hq=>exact λA v u hu rx ry=>zeU_ I (.lt hp hq) A v u hu rx ry _ _ rfl rfl|tl hp hq=>exact λA v u hu rx ry=>zeU_ I (.tl hp hq) A v u hu rx ry _ _ rfl rfl|lf hp hy=>intro A v u hu rx ry;cases rx;obtain⟨aa,_,p1,_⟩:=I.list hp;exact zpl_ p1.isList ry hy (by lia)
 |fl hp hy=>intro A v u hu rx ry;cases ry;obtain⟨aa,_,p1,_⟩:=I.list hp;exact zos_ p1.isList rx hy (by lia)
 |tf hp hy=>intro A v u hu rx ry;cases rx;obtain⟨aa,_,p1,_⟩:=I.tuple hp;exact znM_ p1 ry hy (by lia)
 |ft hp hy=>intro A v u hu rx ry;cases ry;obtain⟨aa,_,p1,_⟩:=I.tuple hp;exact zp1_ p1 rx hy (by lia)
 |up h ih=>exact λA v u hu rx ry=>ih A v u (by lia) rx ry
def mNeA (K:Fgg):R2:=λx y H Q=>∃n b,n<=50/\EqD K H n x y b/\Q (.bl (!b)) H
theorem zo8_ (hu:X.A.units+60<cLine):OpR X (oQ .NotEq) (mNeA X.K):=by
 intro pins s σ H x y v u Q I rx ry h;obtain⟨n,b,hn,h,q⟩:=h;exact(zi8_ I h X.A v u (by lia) rx ry) X.prog X.w X.xe _ ⟨.bl (!b),H,I,rfl,q⟩
end
structure Scl (K:Fgg)(C:nR)(m:Str)(f:nR):Prop where
 sp:tq K (.ref C) "__getattribute__"=xg (xg (.builtin "type.__getattribute__"))
 rd:vN K C (.type "type")=xj
 fd:vO K (.ref C) (.type "type") m=xg (.val (.ref f))
 hd:vk (.ref f)=xj
 kp:qT K (.ref f)=xj
def Gs (P:oH)(w:oV)(K:Fgg)(mg:Str->Option nI)(base:Heap)(CX:CXT)(k:Nat)(x m:Str)(ps:List Str)(sp:Sp):Prop:=
 ∃C f fd,FnOk P w K mg base CX k f fd ps sp/\mg x=xg (.ref C)/\Scl K C m f/\Binds K fd ps []
section
end
def Fs (K:Fgg)(c m q:Str)(st:pM):Prop:=∃cw f,qu K oI c=xg (xg (.ref cw))/\tq K (.ref cw) "__getattribute__"=xg (xg (.builtin "type.__getattribute__"))/\vN K cw (.type "type")=xj/\vO K (.ref cw) (.type "type") m=xg (.val (.ref f))/\Fi K m q st f
section
variable {K:Fgg}{q c m:Str}{st:pM}{f:nR}
theorem Fs.mk_ {cw:nR}{oc:nI}{od:Option nR}{kV doc pm:nI}{an:Option nR}{ai ct:nI}{ao:Array (Option nI)}(h:qu K oI c=xg (xg (.ref cw)))(h1:tq K (.ref cw) "__getattribute__"=xg (xg (.builtin "type.__getattribute__")))(h2:vN K cw (.type "type")=xj)(h3:vO K (.ref cw) (.type "type") m=xg (.val (.ref f)))
  (l:K.lookup f=xg ⟨oc,od,.func (W.fnOf m q (defArgs st) (defBody st) (defScope st) .none kV doc pm an ai ct),ao⟩) (hc:sv K ai q=xj) (hk:qT K (.ref f)=xj):Fs K c m q st:=⟨cw,f,h,h1,h2,h3,oc,od,kV,doc,pm,an,ai,ct,ao,l,hc,hk⟩
end
section
variable {κ:Type}
section
variable [DecidableEq κ]
end
end
section
end
noncomputable def Xc.c:Xc->String
 |.pl c=>c|.at c _=>c
def CatT (K:Fgg)(S:String)(t:List (String×Bool)):Prop:=∀p∈t,(if p.2 then catK K (gA K p.1) (gA K S)else catN K (gA K p.1) (gA K S))=xj
theorem zbY_ {β:Type}{c:String}{b:β}:∀{t:List (String×β)},t.lookup c=xg b->(c,b)∈t
 |[],h=>by cases h
 |(d,x)::t,h=>by
  rw[rH]at h;split at h
  ·rename_i e;cases h;rw[eq_of_beq e];exact nV
  ·exact nY _ (zbY_ h)
section
variable {X:Cx}{body orelse:List pM}{tb:TX}{th:TH}{te:TS}{x:Str}{pos:Pos}{e:oq}{hs:List ExceptHandler}
theorem ziV_:PH X hs tH0:=λ_ _ _ _ _ _ _ _ _ _ _ _ h=>h.elim
def tTryHE (tb:TX)(te:TS)(th:TH):TS:=λD σ H=>tb {D with nx:=λah H'=>te D ah H'} (λah c d H'=>∃C,c=.ref C/\th C d D ah H') σ H
theorem zjn_ {h₀:ExceptHandler}(aS:X.stack=X.env::X.outer)(bD:X.env.frame=xg X.env.locals)(hb:PSsx X body tb)(hl:PSs X orelse te)(hh:PH X (h₀::hs) th):PS X (.Try body (h₀::hs) orelse [] pos) (tTryHE tb te th):=by
 intro pins s σ H D I h;refine wpAny_Try_except (pN (hb pins s σ H _ _ I h) (λf s1 q=>?_) λe s1 q=>?_)
 ·cases f with
  |next=>obtain⟨ah,H',I',q⟩:=q;exact hl pins s1 ah H' D I' q|ret v=>exact q|brk=>exact q|cont=>exact q
 ·obtain⟨ah,Hb,sb,Ib,x,T,C,d,H',rfl,os,bare,un,ok,aH,C',hC',q⟩:=q
  cases hC';have I1:Inv X pins ah H' s1:=Ib.call' (ch:=[]) os un ok bare (λb z=>absurd z (by simp))
  obtain⟨oe,vs,a0,oT,ts',he,aT,hd,h1,hTe,hT,hdT,h3⟩:=aH.obj;have land:∀h',zgc_ X s1 x T |>.StaysIn h'->h'.FunFrames (zgc_ X s1 x T) X.stack->h'.TracedW (zgc_ X s1 x T) x (.ref C) a0->s1.heap.UpToSlots h'->Dc x d h'->Inv X pins ah (upd H' x (XO x C d)) {s1 with heap:=h'}:=λh' a b c up dd=>landed Ib os bare un ok aH ⟨a,qc _ (oj _ nV),b,c⟩ up dd
  have tr:s1.heap.TracedW (zgc_ X s1 x T) x (.ref C) a0:=⟨oe,vs,T,oT,ts',he,aT,hd,h1,qc _ (oj _ (nY _ nV)),hTe,hT,hdT,h3⟩;have a_:s1.heap.FunFrames (zgc_ X s1 x T) X.stack:=sj I1.stack zgr_;rw[aS]at a_;refine zf7_ (outer:=X.outer) (I1.ok.frames.trans (congrArg xg aS)) a_ bD tr (λb o q=>sO _ q) (qc _ (oj _ nV)) aH.dc λh4 n4 d4=>?_
  refine fl_d n4.1 n4.2.1 n4.2.2.1 d4 λh5 a5 b5 c5 u5 d5=>?_
  have u4:s1.heap.UpToSlots h4:=n4.2.2.2;rw[<- aS]at b5;refine hh pins ah H' D _ x C d _ (land h5 a5 b5 c5 (u4.trans u5) d5) aH.hx (λA' Q' E' kk=>?_) q
  exact fl_d a5 b5 c5.at d5 λh6 a6 b6 c6 u6 d6=>kk h6 (land h6 a6 b6 c6 ((u4.trans u5).trans u6) d6)
end
structure FunD (K:Fgg)(T:nR)(x qual:Str)(st:pM)(f:nR)(fd:pL):Prop where
 ex:∃(oc:nI) (od:Option nR) (kV doc pm:nI) (an:Option nR) (ai ct:nI) (ao:Array (Option nI)),
  fd=W.fnOf x qual (defArgs st) (defBody st) (defScope st) (.ref T) kV doc pm an ai ct/\K.lookup f=xg ⟨oc,od,.func fd,ao⟩/\sv K ai qual=xj
 kp:qT K (.ref f)=xj
section
variable {P:oH}{w:oV}{K:Fgg}{mg:Str->Option nI}{base:Heap}
theorem FunD.okX {T:nR}{x qual:Str}{st:pM}{f:nR}{fd:pL}{N ps:List Str}{k:Nat}{sp:Sp}(F:FunD K T x qual st f fd)(S:FnScope N ps (defScope st))(len:∀vs H Q E,sp vs H Q E->vs.length=ps.length)
  (aU:∀(ai:nI) (A:ph) (outer:List Env) (s:nO) (H:Hp) (vs:List V) (Q:VK) (E:XK),Room k (A.deeper (envOfC qual (defScope st) s.heap.objs.size f ai))->sp vs H Q E ->
   ∃t,PSs (cxOf (CXx P w) P w K mg base N qual (defScope st) f ai A outer s H E) (defBody st) t/\t {nx:=λ_ H'=>Q .non H',rt:=Q} (start N vs) H):FnOk P w K mg base (CXx P w) (k+1) f fd ps sp:=by
 obtain⟨oc,od,kV,doc,pm,an,ai,ct,ao,rfl,lk,bw⟩:=F.ex;exact fn_of lk bw S len λA outer s H vs Q E hr cf=>aU ai A outer s H vs Q E hr cf
end
noncomputable def relB:V->nI->Bool
 |.non,.none=>xj|.int i,.int j _=>i == j|.bl a,.bool b=>a == b|_,_=>xk
def relsB:List V->List nI->Bool
 |[],[]=>xj|x::xs,v::vs=>relB x v && relsB xs vs|_,_=>xk
theorem zmX_ {x:V}{v:nI}(h:relB x v=xj):RelV x v:=by
 unfold relB at h;split at h
 ·rfl
 ·exact⟨_,by rw[eq_of_beq h]⟩
 ·rw[eq_of_beq h];rfl
 ·cases h
theorem zeA_:∀{xs:List V}{vs:List nI},relsB xs vs=xj->Vals xs vs
 |[],[],_=>.nil|x::xs,v::vs,h=>by
  unfold relsB at h;obtain⟨a,b⟩:=pj.mp h;exact .cons (zmX_ a) (zeA_ b)
 |[],_::_,h=>by cases h
 |_::_,[],h=>by cases h
def FmD (K:Fgg)(c m q:Str)(st:pM)(ay:List V):Prop:=∃cw f T fd arr n oc od ao,qu K oI c=xg (xg (.ref cw))/\qo K (.ref cw) m=xg (xg (.ref f))/\vR K (.ref f)=xj/\FunD K T m q st f fd /\
 K.lookup T=xg ⟨oc,od,.seq arr n,ao⟩/\Vals ay arr.toList
section
variable {P:oH}{w:oV}{K:Fgg}{mg:Str->Option nI}{base:Heap}{CX:CXT}{x q c m:Str}{st:pM}{f:nR}{fd:pL}{ps:List Str}{k:Nat}{sp:Sp}
theorem FmD.mk_ {cw T:nR}{oc dU:nI}{od f6:Option nR}{kV doc pm:nI}{an:Option nR}{ai ct:nI}{ao eI:Array (Option nI)}{arr:Array nI}{n:Nat}{ay:List V}(h:qu K oI c=xg (xg (.ref cw)))(h1:qo K (.ref cw) m=xg (xg (.ref f)))(h2:vR K (.ref f)=xj)
  (l:K.lookup f=xg ⟨oc,od,.func (W.fnOf m q (defArgs st) (defBody st) (defScope st) (.ref T) kV doc pm an ai ct),ao⟩) (c1:sv K ai q=xj) (k1:qT K (.ref f)=xj) (lT:K.lookup T=xg ⟨dU,f6,.seq arr n,eI⟩) (hv:relsB ay arr.toList=xj):FmD K c m q st ay:=
 ⟨cw,f,T,_,arr,n,dU,f6,eI,h,h1,h2,⟨⟨oc,od,kV,doc,pm,an,ai,ct,ao,rfl,l,c1⟩,k1⟩,lT,zeA_ hv⟩
def GkD (P:oH)(w:oV)(K:Fgg)(mg:Str->Option nI)(base:Heap)(CX:CXT)(k:Nat)(x:Str)(C:nR)(ps:List Str)(ay:List V)(sp:Sp):Prop:=
 ∃f fd ds,FnOk P w K mg base CX k f fd ps sp/\Mk K C f/\mg x=xg (.ref C)/\Vals ay ds/\Binds K fd ps ds
abbrev OkFD (P:oH)(w:oV)(K:Fgg)(mg:Str->Option nI)(base:Heap)(CX:CXT)(k:Nat)(x q:Str)(st:pM)(ps:List Str)(sp:Sp):Prop:=∀T f fd,FunD K T x q st f fd->FnOk P w K mg base CX k f fd ps sp
end
section
variable {P:oH}{w:oV}{K:Fgg}{mg:Str->Option nI}{base:Heap}{q c:Str}{st:pM}{ps:List Str}{k:Nat}
theorem znY_ {CX:CXT}{sp:Sp}{ay:List V}(j:Nat)(M:Mgo K mg)(C:Fc K c)(F:FmD K c "__init__" q st ay)(hb:∀T f fd arr n oc od ao,FunD K T "__init__" q st f fd->K.lookup T=xg ⟨oc,od,.seq arr n,ao⟩->arr.toList.length=ay.length->Binds K fd ps (arr.toList.drop j))
  (h:OkFD P w K mg base CX k "__init__" q st ps sp):GkD P w K mg base CX k c (gA K c) ps (ay.drop j) sp:=by
 obtain⟨cw,f,T,fd,arr,n,oc,od,ao,e,e2,e3,F,lT,hv⟩:=F;obtain⟨nH,e',_,_,_,_,h5,h6⟩:=C;cases e.symm.trans e';have hd:∀{xs:List V}{vs:List nI}(j:Nat),Vals xs vs->Vals (xs.drop j) (vs.drop j):=λ{xs vs} j r=>by
  induction j generalizing xs vs with
  |zero=>exact r|succ j ih=>cases r with |nil=>exact .nil |cons a t=>exact ih t
 exact⟨f,fd,arr.toList.drop j,h T f fd F,by rw[zhG_ e];exact⟨h5,e2,e3,h6⟩,M.gk ⟨_,e⟩,hd j hv,hb T f fd arr n oc od ao F lT hv.length.symm⟩
theorem arr5 {arr:Array nI}(h:arr.toList.length=5):∃d0 d1 d2 d3 d4,arr=#[d0,d1,d2,d3,d4]:=by
 obtain⟨l⟩:=arr;obtain⟨d0,l,rfl⟩:=p4 h;obtain⟨d1,l,rfl⟩:=p4 (qh h);obtain⟨d2,l,rfl⟩:=p4 (qh (qh h));obtain⟨d3,l,rfl⟩:=p4 (qh (qh (qh h)));obtain⟨d4,rfl⟩:=qC.mp (qh (qh (qh (qh h))));exact⟨d0,d1,d2,d3,d4,rfl⟩
end
noncomputable def strsB:List (List Nat)->List nI->Bool
 |[],[]=>xj|x::xs,.str z _::vs=>z == ⟨x.toArray⟩ && strsB xs vs|_,_=>xk
theorem zeL_:∀{xs:List (List Nat)}{vs:List nI},strsB xs vs=xj->Vals (xs.map tx) vs
 |[],[],_=>.nil|x::xs,v::vs,h=>by
  unfold strsB at h;split at h
  ·rename_i e1 _;cases e1
  ·rename_i e1 e2
   cases e1;cases e2;obtain⟨a,b⟩:=pj.mp h;exact .cons ⟨_,by rw[eq_of_beq a]⟩ (zeL_ b)
  ·cases h
 |[],_::_,h=>by cases h
 |_::_,[],h=>by cases h
def FtT (K:Fgg)(x:Str)(xs:List (List Nat)):Prop:=∀H:Hp,SqT K H (gA K x) (xs.map tx)
theorem FtT.mk_ {K:Fgg}{x:Str}{xs:List (List Nat)}{a:nR}{od:Option nR}{aa:Array nI}{n:Nat}{ao:Array (Option nI)}(h:qu K oI x=xg (xg (.ref a)))(l:K.lookup a=xg ⟨.type "tuple",od,.seq aa n,ao⟩)(hv:strsB xs aa.toList=xj)(hs:aa.toList.length<=1000):FtT K x xs:=λH=>by
 rw[zhG_ h];exact .inr ⟨_,aa,n,l,rfl,rfl,by rw[qi]at hs;exact pX hs (by rw[sizeLine_eq];decide),zeL_ hv⟩
section
end
instance:Inhabited V:=⟨.non⟩
section
variable {prog:oH}{w:oV}{A:ph}{E:nI->nO->Prop}
theorem parts5 {s:nO}{l:nR}{x y z u v:nI}{Q:List nI->nO->Prop}(hA:A.handled=xh)(hl:s.heap.IsList l #[x,y,z,u,v])
  (q:∀h',(∀b o,b≠s.heap.objs.size->s.heap.get? b=xg o->h'.get? b=xg o)->Q [x,y,z,u,v] {s with heap:=h'}):oB (model prog w) A (unpackItems (.ref l) 5 xh) Q E s:=by
 have ne:l≠s.heap.objs.size:=by obtain⟨o,ho,_⟩:=hl;exact oR (ot ho)
 unfold unpackItems notIterableAtAll;refine nJ (nJ (wpAny_specialOf hl.typeIs slot_list_iter.lookup (nX ?_)));rw[if_neg (by decide)]
 refine nJ (wpAny_holding (wpAny_pyIter_list hl ?_));have i0:Heap.IsListIter (s.heap.push {cls:=.type "list_iterator",data:=.fields #[.ref l,.int 0 0]}) s.heap.objs.size l 0:=⟨_,ox _ rfl,rfl,rfl⟩;refine nJ (wpAny_holding ?_);show oB _ _ (pyNext _>>=_) _ _ _;refine nJ (wpAny_pyNext_list_item i0 (hl.push _) rfl λh1 i1 e1=>?_)
 have l1:h1.IsList l #[x,y,z,u,v]:=(hl.push _).extBut e1.extBut ne;refine nJ (wpAny_holding ?_);show oB _ _ (pyNext _>>=_) _ _ _;refine nJ (wpAny_pyNext_list_item (s:={s with heap:=h1}) i1 l1 rfl λh2 i2 e2=>?_)
 have l2:h2.IsList l #[x,y,z,u,v]:=l1.extBut e2.extBut ne;refine nJ (wpAny_holding ?_);show oB _ _ (pyNext _>>=_) _ _ _;refine nJ (wpAny_pyNext_list_item (s:={s with heap:=h2}) i2 l2 rfl λh3 i3 e3=>?_)
 have l3:h3.IsList l #[x,y,z,u,v]:=l2.extBut e3.extBut ne;refine nJ (wpAny_holding ?_);show oB _ _ (pyNext _>>=_) _ _ _;refine nJ (wpAny_pyNext_list_item (s:={s with heap:=h3}) i3 l3 rfl λh4 i4 e4=>?_)
 have l4:h4.IsList l #[x,y,z,u,v]:=l3.extBut e4.extBut ne;refine nJ (wpAny_holding ?_);show oB _ _ (pyNext _>>=_) _ _ _;refine nJ (wpAny_pyNext_list_item (s:={s with heap:=h4}) i4 l4 rfl λh5 i5 e5=>?_)
 have l5:h5.IsList l #[x,y,z,u,v]:=l4.extBut e5.extBut ne;refine nJ (wpAny_holding (nX (nX (nX (nX (nX (nX ?_)))))));rw[if_neg (by simp)]
 refine nJ (wpAny_holding (wpAny_pyNext_list_end (s:={s with heap:=h5}) hA i5 l5 rfl λh6 e6=>?_))
 exact nX (q h6 λb o hb e=>e6 b o hb (e5.extBut b o hb (e4.extBut b o hb (e3.extBut b o hb (e2.extBut b o hb (e1.extBut b o hb (nQ _ e)))))))
end
section
variable {X:Cx}
def gLst5 (K:Fgg)(t:TGs):TG:=λv σ H Q=>match v with |.ref a=>∃x y z u w,SqL K H a [x,y,z,u,w]/\t [x,y,z,u,w] σ H Q |_=>False
theorem zlm_ {es:List oq}{k:Nat}{t:TGs}{pos:Pos}(hc:X.calm=xj)(h:PGs X es t)
  (hn:(p7 es X.env).length=5:=by rfl) (aS:(p7 es X.env).findIdx? (·.1)=xh:=by rfl):PG X (.Tuple es k pos) (gLst5 X.K t):=by
 intro pins s σ H v u Q I r hw;cases v with
 |ref a=>
  obtain⟨x,y,z,m,n,hq,hw⟩:=hw;cases r;obtain⟨aa,rv,hp,_⟩:=I.list hq;obtain⟨x',y',z',m',n',rfl⟩:∃x' y' z' m' n',aa=[x',y',z',m',n']:=by
   have:=rv.length
   match aa,this with
   |[x',y',z',m',n'],_=>exact⟨x',y',z',m',n',rfl⟩
  rw[vy];refine nJ (wpAny_standAt ?_);unfold unpack;rw[hn,aS];refine nJ (wpAny_holding (parts5 (I.ok.hd hc) hp.isList λh1 hx=>?_))
  have I1:Inv X pins σ H {s with heap:=h1}:=I.kept (t':=s.toks) λb o e=>hx b o (oR (ot e)) e
  exact h pins _ σ H _ _ Q I1 rv hw
 |_=>exact hw.elim
variable {K:Fgg}{x q:Str}{st:pM}{f:nR}{fd:pL}
theorem zil_ {ps:List Str}{T:nR}{oc:nI}{od:Option nR}{ao:Array (Option nI)}{arr:Array nI}{n:Nat}(hp:ps.length=10)(F:FunD K T x q st f fd)(lT:K.lookup T=xg ⟨oc,od,.seq arr n,ao⟩)
  (h:∀(kV doc pm:nI) (an:Option nR) (ai ct:nI) (u0 u1 u2 u3 u4 u5 u6 u7 u8 u9:nI) (s:nO),(∃o,s.heap.get? T=xg o/\o.data=.seq arr n)->BindsTo s (W.fnOf x q (defArgs st) (defBody st) (defScope st) (.ref T) kV doc pm an ai ct) ⟨[u0,u1,u2,u3,u4,u5,u6,u7,u8,u9],[]⟩ (ps.zip [u0,u1,u2,u3,u4,u5,u6,u7,u8,u9])):
  Binds K fd ps []:=by
 obtain⟨oc,od,kV,doc,pm,an,ai,ct,ao,rfl,lk,bw⟩:=F.ex;intro s us hK hl;rw[hp,nK]at hl;have hl:us.length=10:=by simpa using hl
 obtain⟨u0,t1,rfl,h1⟩:=zg_ hl;obtain⟨u1,t2,rfl,h2⟩:=zg_ h1;obtain⟨u2,t3,rfl,h3⟩:=zg_ h2;obtain⟨u3,t4,rfl,h4⟩:=zg_ h3;obtain⟨u4,t5,rfl,h5⟩:=zg_ h4;obtain⟨u5,t6,rfl,h6⟩:=zg_ h5;obtain⟨u6,t7,rfl,h7⟩:=zg_ h6;obtain⟨u7,t8,rfl,h8⟩:=zg_ h7;obtain⟨u8,t9,rfl,h9⟩:=zg_ h8;obtain⟨u9,eD,rfl,cH⟩:=zg_ h9;cases pb.mp cH;exact h kV doc pm an ai ct u0 u1 u2 u3 u4 u5 u6 u7 u8 u9 s ⟨_,hK _ _ lT,rfl⟩
end
end L2
namespace VI
open PySem PySem.Spec PyProof.Rows L2
inductive Nd where
 |tup |lst |dct (ks:List Key)|obj (c:Str) (ns:List Str)|scr |ktup |exc (c:String)
 deriving DecidableEq
inductive D where
 |non |bl (b:Bool)|int (i:Int)|str (l:List Nat)|nd (k:Nd) (ds:List D)|fz (d:D)|pin (v:V)|gone
def SqU (K:oK)(a:nR)(xs:List V):Prop:=∃(o:vi) (aa:Array nI) (n:Nat),K.lookup a=xg o/\o.cls=.type "tuple" /\ o.data=.seq aa n/\aa.size<=oh/\Vals xs aa.toList
def NdR (K:oK)(k:Nd)(p:nR)(us:List V)(H:Hp):Prop:=match k with
 |.tup=>H p=xg (.tup us)|.lst=>H p=xg (.lst us)|.scr=>SqL K H p us|.ktup=>SqU K p us|.exc c=>us=[]/\∃d,H p=xg (XO p (gA K c) d)|.dct ks=>Rd H p (.dK (ks.zip us))/\ks.length=us.length/\ks.Nodup|.obj c ns=>∃dx,H p=xg (.ins (gA K c) dx (ns.zip us))/\ns.length=us.length
theorem zcf_ {H H':Hp}{p:nR}{u:HO}(g:Same H H')(h:Rd H p u):Rd H' p u:=h.imp (g _ _) λ⟨o,e⟩=>⟨o,g _ _ e⟩
theorem NdR.mono {K:oK}{k:Nd}{p:nR}{us:List V}{H H':Hp}(g:Same H H')(h:NdR K k p us H):NdR K k p us H':=by
 cases k with
 |tup=>exact g _ _ h|lst=>exact g _ _ h|scr=>exact g.seq h|ktup=>exact h|exc c=>exact⟨h.1,h.2.imp λ_ e=>g _ _ e⟩|dct ks=>exact⟨zcf_ g h.1,h.2⟩|obj c ns=>obtain⟨dx,e,l⟩:=h;exact⟨dx,g _ _ e,l⟩
mutual
def DR (K:oK):D->V->Hp->Prop
 |.non,v,_=>v=.non|.bl b,v,_=>v=.bl b|.int i,v,_=>v=.int i|.str l,v,_=>v=tx l|.nd k ds,v,H=>∃p us,v=.ref p/\NdR K k p us H/\DRs K ds us H|.fz d,v,H=>DR K d v H|.pin u,v,_=>v=u|.gone,_,_=>True
def DRs (K:oK):List D->List V->Hp->Prop
 |[],us,_=>us=[]|d::ds,us,H=>∃v vs,us=v::vs/\DR K d v H/\DRs K ds vs H
end
def Nk (K:oK)(H H':Hp):Prop:=∀k p us,NdR K k p us H->NdR K k p us H'
theorem DR.up {K:oK}{H H':Hp}(g:Nk K H H'):∀{d:D}{v:V},DR K d v H->DR K d v H'
 |.non,_,h=>by unfold DR at h ⊢;exact h
 |.bl _,_,h=>by unfold DR at h ⊢;exact h
 |.int _,_,h=>by unfold DR at h ⊢;exact h
 |.str _,_,h=>by unfold DR at h ⊢;exact h
 |.pin _,_,h=>by unfold DR at h ⊢;exact h
 |.gone,_,h=>by unfold DR at h ⊢;exact h
 |.fz d,_,h=>by unfold DR at h ⊢;exact DR.up g h
 |.nd k ds,_,h=>by unfold DR at h ⊢;obtain⟨p,us,e,n,r⟩:=h;exact⟨p,us,e,g _ _ _ n,go r⟩
where go:∀{ds:List D}{us:List V},DRs K ds us H->DRs K ds us H'
 |[],_,h=>by unfold DRs at h ⊢;exact h
 |d::ds,_,h=>by unfold DRs at h ⊢;obtain⟨v,vs,e,a,r⟩:=h;exact⟨v,vs,e,DR.up g a,go r⟩
theorem zdP_ {K:oK}{H H':Hp}(g:Same H H'):Nk K H H':=λ_ _ _ n=>n.mono g
theorem DR.mono {K:oK}{H H':Hp}(g:Same H H'){d:D}{v:V}(h:DR K d v H):DR K d v H':=h.up (zdP_ g)
theorem DRs.mono {K:oK}{H H':Hp}(g:Same H H'){ds:List D}{us:List V}(h:DRs K ds us H):DRs K ds us H':=DR.up.go (zdP_ g) h
theorem DRs.prs {K:oK}{H:Hp}:∀{ds:List D}{us:List V},DRs K ds us H↔Paired (λd v=>DR K d v H) ds us
 |[],us=>⟨λh=>by unfold DRs at h;subst h;exact .nil,λh=>by cases h;unfold DRs;rfl⟩|d::ds,us=>⟨λh=>by unfold DRs at h;obtain⟨v,vs,rfl,a,r⟩:=h;exact .cons a (DRs.prs.mp r),λh=>by
  cases h with |cons a r=>unfold DRs;exact⟨_,_,rfl,a,DRs.prs.mpr r⟩⟩
mutual
def D.imm:D->Bool
 |.nd .tup ds=>D.imms ds|.nd .ktup ds=>D.imms ds|.nd _ _=>xk|.fz d=>d.imm|.pin _=>xk|.gone=>xk|_=>xj
def D.imms:List D->Bool
 |[]=>xj|d::ds=>d.imm && D.imms ds
end
mutual
def D.new:D->Bool
 |.nd _ ds=>D.news ds|.fz d=>d.imm|.pin _=>xk|.gone=>xk|_=>xj
def D.news:List D->Bool
 |[]=>xj|d::ds=>d.new && D.news ds
end
def Cell (K:oK)(k:Nd)(p:nR)(us:List V)(F h:Hp):Prop:=match k with
 |.tup=>F p=xg (.tup us)/\∀q,h q=xh|.scr=>False|.exc _=>False|.ktup=>SqU K p us/\∀q,h q=xh|.lst=>h=one p (.lst us)|.dct ks=>h=one p (.dK (ks.zip us))/\ks.length=us.length/\ks.Nodup|.obj c ns=>∃dx,dx≠p/\h=two p dx (.ins (gA K c) dx (ns.zip us))/\ns.length=us.length
mutual
def OD (K:oK):D->V->Hp->Hp->Prop
 |.nd k ds,v,F,h=>∃p us h0 h2,v=.ref p/\Cell K k p us F h0/\Jn h0 h2 h/\ODs K ds us F h2|d,v,F,h=>(∀p,h p=xh)/\DR K d v F
def ODs (K:oK):List D->List V->Hp->Hp->Prop
 |[],us,_,h=>us=[]/\∀p,h p=xh|d::ds,us,F,h=>∃v vs h1 h2,us=v::vs/\Jn h1 h2 h/\OD K d v F h1/\ODs K ds vs F h2
end
section
variable {K:pE}{F F' h h1 h2 H:Hp}{d:D}{ds:List D}{v:V}{us:List V}{k:Nd}{p:nR}
theorem zk_ {p q:nR}{o:HO}:one p o q=if q=p then xg o else xh:=rfl
theorem Cell.mono (g:Tups F F')(c:Cell K k p us F h):Cell K k p us F' h:=by
 cases k with
 |tup=>exact⟨g _ _ c.1,c.2⟩|lst=>exact c|scr=>exact c|exc _=>exact c|ktup=>exact c|dct ks=>exact c|obj c' ns=>exact c
theorem Cell.notup (c:Cell K k p us F h)(q:nR)(xs:List V):h q≠xg (.tup xs):=by
 cases k with
 |tup=>rw[c.2];exact λz=>by cases z
 |ktup=>rw[c.2];exact λz=>by cases z
 |scr=>exact oS c|exc _=>exact oS c|lst=>rw[show h=_ from c,zk_];split<;>exact λz=>by cases z
 |dct ks=>rw[c.1,zk_];split<;>exact λz=>by cases z
 |obj c' ns=>
  obtain⟨dx,n,e,l⟩:=c;rw[e];unfold two;split
  ·exact λz=>by cases z
  ·split<;>exact λz=>by cases z
theorem Cell.nd (c:Cell K k p us F h)(g:Same F H)(g':Same h H):NdR K k p us H:=by
 cases k with
 |tup=>exact g _ _ c.1|ktup=>exact c.1|scr=>exact oS c|exc _=>exact oS c|lst=>exact g' _ _ (by rw[show h=_ from c];exact zB_)|dct ks=>exact⟨.inl (g' _ _ (by rw[c.1];exact zB_)),c.2⟩|obj c' ns=>obtain⟨dx,n,e,l⟩:=c;exact⟨dx,g' _ _ (by rw[e];exact zpx_),l⟩
theorem OD.up (g:Nk K F F'):∀{d:D}{v:V}{h:Hp},OD K d v F h->OD K d v F' h
 |.nd k ds,_,_,q=>by unfold OD at q ⊢;obtain⟨p,us,h0,h2,e,c,j,r⟩:=q;exact⟨p,us,h0,h2,e,c.mono (λp xs=>g .tup p xs),j,go r⟩
 |.non,_,_,q=>by unfold OD at q ⊢;exact⟨q.1,q.2.up g⟩
 |.bl _,_,_,q=>by unfold OD at q ⊢;exact⟨q.1,q.2.up g⟩
 |.int _,_,_,q=>by unfold OD at q ⊢;exact⟨q.1,q.2.up g⟩
 |.str _,_,_,q=>by unfold OD at q ⊢;exact⟨q.1,q.2.up g⟩
 |.fz _,_,_,q=>by unfold OD at q ⊢;exact⟨q.1,q.2.up g⟩
 |.pin _,_,_,q=>by unfold OD at q ⊢;exact⟨q.1,q.2.up g⟩
 |.gone,_,_,q=>by unfold OD at q ⊢;exact⟨q.1,q.2.up g⟩
where go:∀{ds:List D}{us:List V}{h:Hp},ODs K ds us F h->ODs K ds us F' h
 |[],_,_,q=>by unfold ODs at q ⊢;exact q
 |d::ds,_,_,q=>by unfold ODs at q ⊢;obtain⟨v,vs,h1,h2,e,j,a,r⟩:=q;exact⟨v,vs,h1,h2,e,j,OD.up g a,go r⟩
theorem OD.mono (g:Same F F'){d:D}{v:V}{h:Hp}(q:OD K d v F h):OD K d v F' h:=q.up (zdP_ g)
theorem OD.mono.go (g:Same F F'){ds:List D}{us:List V}{h:Hp}(q:ODs K ds us F h):ODs K ds us F' h:=OD.up.go (zdP_ g) q
theorem OD.notup:∀{d:D}{v:V}{h:Hp},OD K d v F h->∀p xs,h p≠xg (.tup xs)
 |.nd k ds,_,_,q,p,xs=>by
  unfold OD at q;obtain⟨_,us,h0,h2,e,c,j,r⟩:=q;rcases j p with⟨_,y⟩|⟨_,y⟩
  ·rw[y];exact go r p xs
  ·rw[y];exact c.notup p xs
 |.non,_,_,q,p,xs=>by unfold OD at q;rw[q.1];exact λz=>by cases z
 |.bl _,_,_,q,p,xs=>by unfold OD at q;rw[q.1];exact λz=>by cases z
 |.int _,_,_,q,p,xs=>by unfold OD at q;rw[q.1];exact λz=>by cases z
 |.str _,_,_,q,p,xs=>by unfold OD at q;rw[q.1];exact λz=>by cases z
 |.fz _,_,_,q,p,xs=>by unfold OD at q;rw[q.1];exact λz=>by cases z
 |.pin _,_,_,q,p,xs=>by unfold OD at q;rw[q.1];exact λz=>by cases z
 |.gone,_,_,q,p,xs=>by unfold OD at q;rw[q.1];exact λz=>by cases z
where go:∀{ds:List D}{us:List V}{h:Hp},ODs K ds us F h->∀p xs,h p≠xg (.tup xs)
 |[],_,_,q,p,xs=>by unfold ODs at q;rw[q.2];exact λz=>by cases z
 |d::ds,_,_,q,p,xs=>by
  unfold ODs at q;obtain⟨v,vs,h1,h2,e,j,a,r⟩:=q;rcases j p with⟨_,y⟩|⟨_,y⟩
  ·rw[y];exact go r p xs
  ·rw[y];exact OD.notup a p xs
theorem OD.view (g:Same F H):∀{d:D}{v:V}{h:Hp},Same h H->OD K d v F h->DR K d v H
 |.nd k ds,_,_,g',q=>by
  unfold OD at q;unfold DR;obtain⟨p,us,h0,h2,e,c,j,r⟩:=q;exact⟨p,us,e,c.nd g (j.l.trans g'),go (j.r.trans g') r⟩
 |.non,_,_,_,q=>by unfold OD at q;exact q.2.mono g
 |.bl _,_,_,_,q=>by unfold OD at q;exact q.2.mono g
 |.int _,_,_,_,q=>by unfold OD at q;exact q.2.mono g
 |.str _,_,_,_,q=>by unfold OD at q;exact q.2.mono g
 |.fz _,_,_,_,q=>by unfold OD at q;exact q.2.mono g
 |.pin _,_,_,_,q=>by unfold OD at q;exact q.2.mono g
 |.gone,_,_,_,q=>by unfold OD at q;exact q.2.mono g
where go:∀{ds:List D}{us:List V}{h:Hp},Same h H->ODs K ds us F h->DRs K ds us H
 |[],_,_,_,q=>by unfold ODs at q;unfold DRs;exact q.1
 |d::ds,_,_,g',q=>by
  unfold ODs at q;unfold DRs;obtain⟨v,vs,h1,h2,e,j,a,r⟩:=q;exact⟨v,vs,e,OD.view g (j.l.trans g') a,go (j.r.trans g') r⟩
theorem DR.imm (g:Tups F F'):∀{d:D}{v:V},d.imm=xj->DR K d v F->DR K d v F'
 |.nd .tup ds,_,z,q=>by unfold D.imm at z;unfold DR at q ⊢;obtain⟨p,us,e,n,r⟩:=q;exact⟨p,us,e,g _ _ n,go z r⟩
 |.nd .ktup ds,_,z,q=>by unfold D.imm at z;unfold DR at q ⊢;obtain⟨p,us,e,n,r⟩:=q;exact⟨p,us,e,n,go z r⟩
 |.nd .scr _,_,z,_=>by simp[D.imm]at z
 |.nd (.exc _) _,_,z,_=>by simp[D.imm]at z
 |.nd .lst _,_,z,_=>by simp[D.imm]at z
 |.nd (.dct _) _,_,z,_=>by simp[D.imm]at z
 |.nd (.obj _ _) _,_,z,_=>by simp[D.imm]at z
 |.non,_,_,q=>by unfold DR at q ⊢;exact q
 |.bl _,_,_,q=>by unfold DR at q ⊢;exact q
 |.int _,_,_,q=>by unfold DR at q ⊢;exact q
 |.str _,_,_,q=>by unfold DR at q ⊢;exact q
 |.fz d,_,z,q=>by unfold D.imm at z;unfold DR at q ⊢;exact DR.imm g z q
 |.pin _,_,z,_=>by simp[D.imm]at z
 |.gone,_,z,_=>by simp[D.imm]at z
where go:∀{ds:List D}{us:List V},D.imms ds=xj->DRs K ds us F->DRs K ds us F'
 |[],_,_,q=>by unfold DRs at q ⊢;exact q
 |d::ds,_,z,q=>by
  unfold D.imms at z;obtain⟨z1,z2⟩:=pj.mp z;unfold DRs at q ⊢;obtain⟨v,vs,e,a,r⟩:=q;exact⟨v,vs,e,DR.imm g z1 a,go z2 r⟩
theorem OD.of_imm (hn:∀p,h p=xh):∀{d:D}{v:V},d.imm=xj->DR K d v F->OD K d v F h
 |.nd .tup ds,_,z,q=>by
  unfold D.imm at z;unfold DR at q;unfold OD;obtain⟨p,us,e,n,r⟩:=q;exact⟨p,us,h,h,e,⟨n,hn⟩,λq=>.inl ⟨hn q,rfl⟩,go z r⟩
 |.nd .ktup ds,_,z,q=>by
  unfold D.imm at z;unfold DR at q;unfold OD;obtain⟨p,us,e,n,r⟩:=q;exact⟨p,us,h,h,e,⟨n,hn⟩,λq=>.inl ⟨hn q,rfl⟩,go z r⟩
 |.nd .scr _,_,z,_=>by simp[D.imm]at z
 |.nd (.exc _) _,_,z,_=>by simp[D.imm]at z
 |.nd .lst _,_,z,_=>by simp[D.imm]at z
 |.nd (.dct _) _,_,z,_=>by simp[D.imm]at z
 |.nd (.obj _ _) _,_,z,_=>by simp[D.imm]at z
 |.non,_,_,q=>by unfold OD;exact⟨hn,q⟩
 |.bl _,_,_,q=>by unfold OD;exact⟨hn,q⟩
 |.int _,_,_,q=>by unfold OD;exact⟨hn,q⟩
 |.str _,_,_,q=>by unfold OD;exact⟨hn,q⟩
 |.fz d,_,_,q=>by unfold OD;exact⟨hn,q⟩
 |.pin _,_,z,_=>by simp[D.imm]at z
 |.gone,_,z,_=>by simp[D.imm]at z
where go:∀{ds:List D}{us:List V},D.imms ds=xj->DRs K ds us F->ODs K ds us F h
 |[],_,_,q=>by unfold DRs at q;unfold ODs;exact⟨q,hn⟩
 |d::ds,_,z,q=>by
  unfold D.imms at z;obtain⟨z1,z2⟩:=pj.mp z;unfold DRs at q;unfold ODs;obtain⟨v,vs,e,a,r⟩:=q;exact⟨v,vs,h,h,e,λq=>.inl ⟨hn q,rfl⟩,OD.of_imm hn z1 a,go z2 r⟩
theorem OD.newImm (g:Tups F F'):∀{d:D}{v:V}{h:Hp},d.new=xj->OD K d v F h->OD K d v F' h
 |.nd k ds,_,_,z,q=>by unfold D.new at z;unfold OD at q ⊢;obtain⟨p,us,h0,h2,e,c,j,r⟩:=q;exact⟨p,us,h0,h2,e,c.mono g,j,go z r⟩
 |.non,_,_,_,q=>by unfold OD at q ⊢;exact⟨q.1,q.2.imm g rfl⟩
 |.bl _,_,_,_,q=>by unfold OD at q ⊢;exact⟨q.1,q.2.imm g rfl⟩
 |.int _,_,_,_,q=>by unfold OD at q ⊢;exact⟨q.1,q.2.imm g rfl⟩
 |.str _,_,_,_,q=>by unfold OD at q ⊢;exact⟨q.1,q.2.imm g rfl⟩
 |.fz d,_,_,z,q=>by unfold D.new at z;unfold OD at q ⊢;exact⟨q.1,q.2.imm g (by unfold D.imm;exact z)⟩
 |.pin _,_,_,z,_=>by simp[D.new]at z
 |.gone,_,_,z,_=>by simp[D.new]at z
where go:∀{ds:List D}{us:List V}{h:Hp},D.news ds=xj->ODs K ds us F h->ODs K ds us F' h
 |[],_,_,_,q=>by unfold ODs at q ⊢;exact q
 |d::ds,_,_,z,q=>by
  unfold D.news at z;obtain⟨z1,z2⟩:=pj.mp z;unfold ODs at q ⊢;obtain⟨v,vs,h1,h2,e,j,a,r⟩:=q;exact⟨v,vs,h1,h2,e,j,OD.newImm g z1 a,go z2 r⟩
end
abbrev tyD (K:oK):Ty D:=⟨DR K,λg h=>h.mono g⟩
abbrev owD (K:oK):Own D:=⟨OD K,tyD K,λg h=>h.mono g,λd h=>OD.view z7_ (zdG_ d) h,λh=>h.notup⟩
noncomputable abbrev Env:=List (Option D)
def slot (K:oK):Option D->Sl
 |none=>.dead|some d=>.ow (owD K) d
abbrev Lof (K:oK)(env:Env):List Sl:=env.map (slot K)
noncomputable def D.un:D->D
 |.fz d=>d.un|d=>d
def D.vw (d:D):D:=if d.imm then d else match d with |.fz _=>d |_=>.fz d
section
variable {K:pE}{E:XK}{F h h1 h2 H:Hp}{d:D}{ds:List D}{v:V}{us:List V}{k:Nd}{p:nR}{Q:VK}
theorem DR.un:∀{d:D},DR K d v H->DR K d.un v H
 |.fz d,q=>by unfold DR at q;unfold D.un;exact DR.un q
 |.non,q=>q|.bl _,q=>q|.int _,q=>q|.str _,q=>q|.nd _ _,q=>q|.pin _,q=>q|.gone,q=>q
theorem DR.int {i:Int}(h:DR K (.int i) v H):v=.int i:=by unfold DR at h;exact h
theorem DR.str {l:List Nat}(h:DR K (.str l) v H):v=tx l:=by unfold DR at h;exact h
theorem DR.bl {b:Bool}(h:DR K (.bl b) v H):v=.bl b:=by unfold DR at h;exact h
theorem DR.non (h:DR K .non v H):v=.non:=by unfold DR at h;exact h
theorem DR.nd (h:DR K (.nd k ds) v H):∃p us,v=.ref p/\NdR K k p us H/\DRs K ds us H:=by unfold DR at h;exact h
theorem OD.vw (hn:∀p,h p=xh)(r:DR K d v F):OD K d.vw v F h:=by
 unfold D.vw;split
 ·exact OD.of_imm hn (by assumption) r
 ·split
  ·unfold OD;exact⟨hn,r⟩
  ·unfold OD;exact⟨hn,by unfold DR;exact r⟩
theorem ODs.vw (hn:∀p,h p=xh):∀{ds:List D}{us:List V},DRs K ds us F->ODs K (ds.map D.vw) us F h
 |[],_,q=>by unfold DRs at q;unfold ODs;exact⟨q,hn⟩
 |d::ds,_,q=>by
  unfold DRs at q;obtain⟨v,vs,e,a,r⟩:=q;rw[nS];unfold ODs;exact⟨v,vs,h,h,e,λq=>.inl ⟨hn q,rfl⟩,OD.vw hn a,ODs.vw hn r⟩
theorem DRs.len (h:DRs K ds us H):ds.length=us.length:=Paired.length (DRs.prs.mp h)
theorem DRs.get (h:DRs K ds us H)(i:Nat):(ds[i]?=xh/\us[i]?=xh)\/∃d v,ds[i]?=xg d/\us[i]?=xg v/\DR K d v H:=Prs.get (T:=tyD K) (DRs.prs.mp h) i
theorem DRs.app {es:List D}{ws:List V}(a:DRs K ds us H)(b:DRs K es ws H):DRs K (ds++es) (us++ws) H:=DRs.prs.mpr (Prs.append (T:=tyD K) (DRs.prs.mp a) (DRs.prs.mp b))
theorem DRs.atI (h:DRs K ds us H){i:Int}{d:D}(e:atI ds i=xg d):∃v,L2.atI us i=xg v/\DR K d v H:=zli_ (T:=tyD K) (DRs.prs.mp h) e
theorem gotV (q:After K (.ok d.vw) E F H (OwnK (owD K) H Q))(hs:Same F H)(r:DR K d v F):Q v H:=
 q.ok hs v (λ_=>xh) (λp z=>absurd rfl z) (λp=>.inr rfl) (λp o z=>by cases z) (OD.vw (λ_=>rfl) r)
theorem got (q:After K (.ok d) E F H (OwnK (owD K) H Q))(hs:Same F H)(r:DR K d v F)(i:d.imm=xj:=by rfl):Q v H:=
 q.ok hs v (λ_=>xh) (λp z=>absurd rfl z) (λp=>.inr rfl) (λp o z=>by cases z) (OD.of_imm (λ_=>rfl) i r)
theorem gotI {i:Int}(q:After K (.ok (.int i)) E F H (OwnK (owD K) H Q))(hs:Same F H):Q (.int i) H:=got q hs (by unfold DR;rfl)
theorem gotS {i:List Nat}(q:After K (.ok (.str i)) E F H (OwnK (owD K) H Q))(hs:Same F H):Q (tx i) H:=got q hs (by unfold DR;rfl)
theorem gotB {i:Bool}(q:After K (.ok (.bl i)) E F H (OwnK (owD K) H Q))(hs:Same F H):Q (.bl i) H:=got q hs (by unfold DR;rfl)
theorem gotN (q:After K (.ok .non) E F H (OwnK (owD K) H Q))(hs:Same F H):Q .non H:=got q hs (by unfold DR;rfl)
theorem no_r {h:Hp}(z:Hp)(hz:∀p,z p=xh):Jn h z h:=λp=>.inr ⟨hz p,rfl⟩
theorem newL (q:After K (.ok (.nd .lst (ds.map .vw))) E F H (OwnK (owD K) H Q))(hs:Same F H)(hp:H p=xh)(r:DRs K ds us F):Q (.ref p) (upd H p (.lst us)):=by
 refine q F _ (.heap hs (zC_ hp _)) (.ref p) (one p (.lst us)) (λb z=>?_) (λb=>?_) (λb o z=>?_) ?_
 ·rw[zk_]at z;split at z
  ·rename_i e;rw[e];exact hp
  ·exact absurd rfl z
 ·rw[zk_];split
  ·rename_i e;rw[e];exact .inl (hs.free hp)
  ·exact .inr rfl
 ·rw[zk_]at z;split at z
  ·rename_i e;rw[e];cases z;exact ze_
  ·cases z
 ·show OD K _ _ _ _
  unfold OD;exact⟨p,us,_,λ_=>xh,rfl,rfl,no_r _ λ_=>rfl,ODs.vw (λ_=>rfl) r⟩
def addD (a b:D):Mo D:=match a.un,b.un with
 |.int i,.int j=>.ok (.int (i+j))|.str x,.str y=>.lim (x.length+y.length) (.ok (.str (x++y)))|.nd .lst xs,.nd .lst ys=>.lim (xs.length+ys.length) (.ok (.nd .lst ((xs++ys).map .vw)))|_,_=>.no
abbrev Op2D (K:oK)(m:R2)(E:XK)(g:D->D->Mo D):Prop:=Op2O K m E (tyD K) (tyD K) g (owD K)
theorem zph_:Op2D K mAdd E addD:=by
 intro a b x y F H Q hs ha hb q;have ha:=DR.un ha;have hb:=DR.un hb;unfold addD at q;split at q
 ·rename_i e1 e2;rw[e1]at ha;rw[e2]at hb;cases ha.int;cases hb.int;exact gotI q hs
 ·rename_i e1 e2;rw[e1]at ha;rw[e2]at hb;cases ha.str;cases hb.str
  obtain⟨c,q⟩:=q.lim;exact⟨c,gotS q hs⟩
 ·rename_i e1 e2;rw[e1]at ha;rw[e2]at hb
  obtain⟨p,us,rfl,n,r⟩:=ha.nd;obtain⟨p2,ws,rfl,n2,r2⟩:=hb.nd;obtain⟨c,q⟩:=q.lim;exact⟨us,ws,hs _ _ n,hs _ _ n2,by rw[<- r.len,<- r2.len];exact c,λl hl=>newL q hs hl (r.app r2)⟩
 ·exact q.elim
def i2D (g:Int->Int->Mo D)(a b:D):Mo D:=match a.un,b.un with |.int i,.int j=>g i j |_,_=>.no
theorem znt_ {g:Int->Int->V}{f:Int->Int->D}(h:∀i j F,DR K (f i j) (g i j) F)(im:∀i j,(f i j).imm=xj):Op2D K (mI0 g) E (i2D λi j=>.ok (f i j)):=by
 intro a b x y F H Q hs ha hb q;have ha:=DR.un ha;have hb:=DR.un hb;unfold i2D at q;split at q
 ·rename_i e1 e2;rw[e1]at ha;rw[e2]at hb;cases ha.int;cases hb.int;exact got q hs (h _ _ _) (im _ _)
 ·exact q.elim
theorem od_i {C:Int->Int->Prop}[∀i j,Decidable (C i j)]{g:Int->Int->V}{f:Int->Int->D}(h:∀i j F,DR K (f i j) (g i j) F)(im:∀i j,(f i j).imm=xj):Op2D K (mI C g) E (i2D λi j=>.grd (C i j) (.ok (f i j))):=by
 intro a b x y F H Q hs ha hb q;have ha:=DR.un ha;have hb:=DR.un hb;unfold i2D at q;split at q
 ·rename_i e1 e2;rw[e1]at ha;rw[e2]at hb;cases ha.int;cases hb.int
  obtain⟨c,q⟩:=q.grd;exact⟨c,got q hs (h _ _ _) (im _ _)⟩
 ·exact q.elim
abbrev subD:=i2D λi j=>.ok (.int (i-j))
abbrev modD:=i2D λi j=>.grd (0<j) (.ok (.int (i % j)))
abbrev divD:=i2D λi j=>.grd (CDivG i j) (.ok (.int (i / j)))
theorem zn2_:Op2D K mSub E subD:=znt_ (λ_ _ _=>by unfold DR;rfl) λ_ _=>rfl
theorem znX_:Op2D K mMod E modD:=od_i (C:=λ_ j=>0<j) (λ_ _ _=>by unfold DR;rfl) λ_ _=>rfl
theorem zpa_:Op2D K mDivG E divD:=od_i (λ_ _ _=>by unfold DR;rfl) λ_ _=>rfl
abbrev leD:=i2D λi j=>.ok (.bl (decide (i<=j)))
abbrev gtD:=i2D λi j=>.ok (.bl (decide (j<i)))
abbrev ltD:=i2D λi j=>.ok (.bl (decide (i<j)))
theorem od_le:Op2D K mLe E leD:=znt_ (λ_ _ _=>by unfold DR;rfl) λ_ _=>rfl
theorem od_gt:Op2D K mGt E gtD:=znt_ (λ_ _ _=>by unfold DR;rfl) λ_ _=>rfl
theorem od_lt:Op2D K mLt E ltD:=znt_ (λ_ _ _=>by unfold DR;rfl) λ_ _=>rfl
def mulD (a b:D):Mo D:=match a.un,b.un with
 |.int i,.int j=>.grd (IntMulOk i j) (.ok (.int (i*j)))|.str x,.int n=>.grd (CRep x.length n) (.ok (.str (repL x n)))|.nd .lst xs,.int n=>.grd (CRep xs.length n) (.ok (.nd .lst ((repL xs n).map .vw)))|_,_=>.no
theorem DRs.rep (r:DRs K ds us H)(n:Int):DRs K (repL ds n) (repL us n) H:=DRs.prs.mpr (zl6_ (T:=tyD K) (DRs.prs.mp r) n)
theorem DRs.cut (r:DRs K ds us H)(lo hi:Option Int):DRs K (cutG ds lo hi) (cutV us lo hi) H:=DRs.prs.mpr (zmP_ (T:=tyD K) (DRs.prs.mp r) lo hi)
theorem zp7_:Op2D K mMulX E mulD:=by
 intro a b x y F H Q hs ha hb q;have ha:=DR.un ha;have hb:=DR.un hb;unfold mulD at q;split at q
 ·rename_i e1 e2;rw[e1]at ha;rw[e2]at hb;cases ha.int;cases hb.int
  obtain⟨c,q⟩:=q.grd;exact⟨c,gotI q hs⟩
 ·rename_i e1 e2;rw[e1]at ha;rw[e2]at hb;cases ha.str;cases hb.int
  obtain⟨c,q⟩:=q.grd;exact⟨c,gotS q hs⟩
 ·rename_i e1 e2;rw[e1]at ha;rw[e2]at hb
  obtain⟨p,us,rfl,n,r⟩:=ha.nd;cases hb.int;obtain⟨c,q⟩:=q.grd;exact⟨us,hs _ _ n,by rw[<- r.len];exact c,λl hl=>newL q hs hl (r.rep _)⟩
 ·exact q.elim
def ixD (a b:D):Mo D:=match a.un,b.un with
 |.nd .lst xs,.int i=>.opt ((atI xs i).map .vw)|.nd .tup xs,.int i=>.opt ((atI xs i).map .vw)|.nd .scr xs,.int i=>.opt ((atI xs i).map .vw)|.nd .ktup xs,.int i=>.opt ((atI xs i).map .vw)|.str l,.int i=>.lim l.length (.opt ((atI l i).map λc=>.str [c]))|_,_=>.no
theorem zgv_ {ds:List D}{i:Int}(hs:Same F H)(n:SqL K H p us\/SqT K H p us)(r:DRs K ds us F)(q:After K (.opt ((atI ds i).map .vw)) E F H (OwnK (owD K) H Q)):mIx K (.ref p) (.int i) H Q:=by
 obtain⟨d,e,q⟩:=q.opt;obtain⟨d',e',rfl⟩:=oF.mp e;obtain⟨v,e2,rv⟩:=r.atI e';refine⟨us,n,?_⟩;rw[e2];exact gotV q hs rv
theorem od_ix:Op2D K (mIx K) E ixD:=by
 intro a b x y F H Q hs ha hb q;have ha:=DR.un ha;have hb:=DR.un hb;unfold ixD at q;split at q
 ·rename_i e1 e2;rw[e1]at ha;rw[e2]at hb;obtain⟨p,us,rfl,n,r⟩:=ha.nd;cases hb.int;exact zgv_ hs (.inl (.of (hs _ _ n))) r q
 ·rename_i e1 e2;rw[e1]at ha;rw[e2]at hb;obtain⟨p,us,rfl,n,r⟩:=ha.nd;cases hb.int;exact zgv_ hs (.inr (.of (hs _ _ n))) r q
 ·rename_i e1 e2;rw[e1]at ha;rw[e2]at hb;obtain⟨p,us,rfl,n,r⟩:=ha.nd;cases hb.int;exact zgv_ hs (.inl (hs.seq n)) r q
 ·rename_i e1 e2;rw[e1]at ha;rw[e2]at hb;obtain⟨p,us,rfl,n,r⟩:=ha.nd;cases hb.int;exact zgv_ hs (.inr (.inr n)) r q
 ·rename_i l i e1 e2;rw[e1]at ha;rw[e2]at hb;cases ha.str;cases hb.int
  obtain⟨z,q⟩:=q.lim;obtain⟨d,e,q⟩:=q.opt;obtain⟨c,e',rfl⟩:=oF.mp e;refine⟨z,?_⟩;show(match atI l i with |some c=>Q (tx [c]) H |none=>False)
  rw[e'];exact gotS q hs
 ·exact q.elim
def keyD (d:D):Option Key:=match d.un with
 |.int i=>xg (.inl i)|.str l=>xg (.inr ⟨l.toArray⟩)|_=>xh
theorem zmD_ {k:Key}(e:keyD d=xg k)(h:DR K d v H):keyV v=xg k/\v=kV k:=by
 have h:=DR.un h;unfold keyD at e;cases hd:d.un with
 |int i=>rw[hd]at e h;cases e;cases h.int;exact⟨rfl,rfl⟩|str l=>rw[hd]at e h;cases e;cases h.str;exact⟨rfl,rfl⟩|_=>rw[hd]at e;cases e
def valD (ks:List Key)(ds:List D)(k:Key):Option D:=((ks.zip ds).find? λq=>decide (q.1=k)).map (·.2)
theorem zpI_ {k:Key}:∀{ks:List Key}{ds:List D}{us:List V},DRs K ds us H->(valD ks ds k=xh/\valV (ks.zip us) k=xh)\/∃d v,valD ks ds k=xg d/\valV (ks.zip us) k=xg v/\DR K d v H
 |[],ds,us,h=>.inl ⟨rfl,rfl⟩|k0::ks,[],us,h=>by unfold DRs at h;subst h;exact .inl ⟨rfl,rfl⟩
 |k0::ks,d::ds,us,h=>by
  unfold DRs at h;obtain⟨v,vs,rfl,a,r⟩:=h;by_cases e:k0=k
  ·subst e
   exact .inr ⟨d,v,by simp[valD],by simp[valV],a⟩
  ·rcases zpI_ (k:=k) (ks:=ks) r with⟨h1,h2⟩|⟨d',v',h1,h2,h3⟩
   ·exact .inl ⟨by unfold valD at h1 ⊢;rw[oZ,rn (by simpa using e)];exact h1,by unfold valV at h2 ⊢;rw[oZ,rn (by simpa using e)];exact h2⟩
   ·exact .inr ⟨d',v',by unfold valD at h1 ⊢;rw[oZ,rn (by simpa using e)];exact h1,by unfold valV at h2 ⊢;rw[oZ,rn (by simpa using e)];exact h2,h3⟩
def dgetD (a b:D):Mo D:=match a.un,keyD b with
 |.nd (.dct ks) ds,xg k=>.opt ((valD ks ds k).map .vw)|_,_=>.no
def dinD (neg:Bool)(b a:D):Mo D:=match a.un,keyD b with
 |.nd (.dct ks) ds,xg k=>.ok (.bl (if neg then !(valD ks ds k).isSome else(valD ks ds k).isSome))|_,_=>.no
theorem zmg_ {x y:V}{R:nR->List (Key×V)->Key->Prop}{kvs:List (Key×V)}{k:Key}(hx:x=.ref p)(hy:keyV y=xg k)(h:H p=xg (.dK kvs))(r:R p kvs k):atD x y H R:=by
 subst hx;unfold atD;dsimp only;rw[hy];exact⟨kvs,h,r⟩
def atR (x y:V)(H:Hp)(R:nR->List (Key×V)->Key->Prop):Prop:=match x with
 |.ref a=>(match keyV y with |some k=>∃kvs,Rd H a (.dK kvs)/\R a kvs k |none=>False)|_=>False
theorem zmh_ {x y:V}{H:Hp}{R:nR->List (Key×V)->Key->Prop}(h:atR x y H R):∃a kvs k,x=.ref a/\y=kV k/\Rd H a (.dK kvs)/\R a kvs k:=by
 unfold atR at h;cases x with
 |ref a=>
  cases e:keyV y with
  |none=>rw[e]at h;exact h.elim|some k=>
   rw[e]at h;obtain⟨kvs,h1,h2⟩:=h;exact⟨a,kvs,k,rfl,zhZ_ e,h1,h2⟩
 |_=>exact h.elim
theorem zkm_ {x y:V}{R:nR->List (Key×V)->Key->Prop}{kvs:List (Key×V)}{k:Key}(hx:x=.ref p)(hy:keyV y=xg k)(h:Rd H p (.dK kvs))(r:R p kvs k):atR x y H R:=by
 subst hx;unfold atR;dsimp only;rw[hy];exact⟨kvs,h,r⟩
section
variable {t t1 t2:TE}{r r1 r2:Mo D}{env:Env}
abbrev EvX (K:oK)(t:TE)(E:XK)(env:Env)(r:Mo D):Prop:=EvO K t E (Lof K env) r (owD K)
abbrev EvV (K:oK)(t:TE)(E:XK)(env:Env)(r:Mo D):Prop:=EvF K t E (Lof K env) r (tyD K)
theorem ex_v (h:EvX K t E env r):EvV K t E env r:=h.fr
theorem ex_op {m:R2}{g:D->D->Mo D}(o:Op2D K m E g)(h1:EvX K t1 E env r1)(h2:EvX K t2 E env r2):EvX K (tOp m t1 t2) E env (r1.bind λa=>r2.bind λb=>g a b):=zoB_ o (ex_v h1) (ex_v h2)
def getE (env:Env)(i:Nat):Mo D:=match env[i]? with |some (xg d)=>.ok d.vw |_=>.no
theorem znK_ (i:Nat):EvX K (mVar i) E env (getE env i):=by
 intro σ F H Q hL hs q;unfold getE at q;split at q
 ·rename_i d e
  obtain⟨v,ev,rv⟩:=hL i (slot K (xg d)) (by rw[om,e];rfl)
  unfold mVar;cases z:σ[i]? with
  |none=>rw[z]at ev;cases ev|some o=>rw[z]at ev;cases(show o=xg v from ev);exact gotV q hs rv
 ·exact q.elim
theorem ex_c {d:D}{v:V}(h:∀F,DR K d v F)(i:d.imm=xj:=by rfl):EvX K (tC v) E env (.ok d):=λσ F H Q hL hs q=>got q hs (h F) i
def blD (d:D):Mo Bool:=match d.un with |.bl b=>.ok b |_=>.no
theorem zfI_ (h:EvX K t E env r):EvT K (mTest t) E (Lof K env) (r.bind blD):=by
 intro σ F H Q hL hs q;refine ex_v h σ F H _ hL hs (q.bind.imp λa F1 H1 x1 k1 v1 aK=>?_)
 have ha:=DR.un aK;unfold blD at k1;split at k1
 ·rename_i b e;rw[e]at ha;cases ha.bl;exact k1.ok x1.2.1
 ·exact k1.elim
theorem zpK_ (h:EvX K t E env r):EvX K (mNotV t) E env (r.bind λa=>(blD a).bind λb=>.ok (.bl (!b))):=by
 intro σ F H Q hL hs q;refine ex_v h σ F H _ hL hs (q.bind.imp λa F1 H1 x1 k1 v1 aK=>?_)
 have ha:=DR.un aK;unfold blD at k1;split at k1
 ·rename_i b e;rw[e]at ha;cases ha.bl
  exact gotB (k1.imp λa F3 H3 x3 k3=>k3.back x1.2.2.1) x1.2.1
 ·exact k1.elim
def andD (a:D)(r:Mo D):Mo D:=(blD a).bind λb=>if b then r else .ok (.bl xk)
def orD (a:D)(r:Mo D):Mo D:=(blD a).bind λb=>if b then .ok (.bl xj)else r
theorem zo9_ (h1:EvX K t1 E env r1)(h2:EvX K t2 E env r2):EvX K (mAndV t1 t2) E env (r1.bind λa=>andD a r2):=by
 intro σ F H Q hL hs q;refine ex_v h1 σ F H _ hL hs (q.bind.imp λa F1 H1 x1 k1 v1 aK=>?_)
 have ha:=DR.un aK;unfold andD blD at k1;split at k1
 ·rename_i b e;rw[e]at ha;cases ha.bl
  refine⟨λz=>?_,λz=>?_⟩
  ·subst z;exact h2 σ F1 H1 _ (hL.mono x1.1) x1.2.1 (After.imp (show After K r2 E F1 H1 _ from k1) λa F3 H3 x3 k3=>k3.back x1.2.2.1)
  ·subst z;exact gotB (After.imp (show After K (.ok (D.bl xk)) E F1 H1 (OwnK (owD K) H Q)from k1) λa F3 H3 x3 k3=>k3.back x1.2.2.1) x1.2.1
 ·exact k1.elim
theorem ex_or (h1:EvX K t1 E env r1)(h2:EvX K t2 E env r2):EvX K (mOrV t1 t2) E env (r1.bind λa=>orD a r2):=by
 intro σ F H Q hL hs q;refine ex_v h1 σ F H _ hL hs (q.bind.imp λa F1 H1 x1 k1 v1 aK=>?_)
 have ha:=DR.un aK;unfold orD blD at k1;split at k1
 ·rename_i b e;rw[e]at ha;cases ha.bl
  refine⟨λz=>?_,λz=>?_⟩
  ·subst z;exact gotB (After.imp (show After K (.ok (D.bl xj)) E F1 H1 (OwnK (owD K) H Q)from k1) λa F3 H3 x3 k3=>k3.back x1.2.2.1) x1.2.1
  ·subst z;exact h2 σ F1 H1 _ (hL.mono x1.1) x1.2.1 (After.imp (show After K r2 E F1 H1 _ from k1) λa F3 H3 x3 k3=>k3.back x1.2.2.1)
 ·exact k1.elim
theorem ex_if {tt:TT}{b:Mo Bool}(ht:EvT K tt E (Lof K env) b)(h1:EvX K t1 E env r1)(h2:EvX K t2 E env r2):EvX K (mIf tt t1 t2) E env (b.bind λc=>if c then r1 else r2):=zpF_ ht h1 h2
def negD (a:D):Mo D:=match a.un with |.int i=>.ok (.int (-i))|_=>.no
theorem zpO_ (h:EvX K t E env r):EvX K (mNeg t) E env (r.bind negD):=by
 intro σ F H Q hL hs q;refine ex_v h σ F H _ hL hs (q.bind.imp λa F1 H1 x1 k1 v1 aK=>?_)
 have ha:=DR.un aK;unfold negD at k1;split at k1
 ·rename_i b e;rw[e]at ha;cases ha.int
  exact gotI (k1.imp λa F3 H3 x3 k3=>k3.back x1.2.2.1) x1.2.1
 ·exact k1.elim
end
end
section
variable {K:pE}{E:XK}{F F' h h1 h2 H H':Hp}{d:D}{ds:List D}{v:V}{us:List V}{k:Nd}{p:nR}{Q:VK}{env:Env}{t:TE}{r r1 r2:Mo D}{ta:TA}{ra:Mo (List D)}
def allT (f:D->D->Option Bool):List D->List D->Option Bool
 |a::as,b::bs=>(f a b).bind λx=>(allT f as bs).map λy=>x && y
 |_,_=>xg xj
def D.flat?:D->Option V
 |.non=>xg .non|.bl b=>xg (.bl b)|.int i=>xg (.int i)|.str l=>xg (tx l)|_=>xh
noncomputable def sqT:D->Option (Bool×List D)
 |.nd .lst xs=>xg (xj,xs)|.nd .tup xs=>xg (xk,xs)|_=>xh
def eqS (f:D->D->Option Bool)(a b:D):Option Bool:=match sqT a with
 |none=>(match sqT b with |none=>a.flat?.bind λx=>b.flat?.map λy=>eqV x y |some _=>a.flat?.map λ_=>xk)|some (k,xs)=>(match sqT b with
  |none=>b.flat?.map λ_=>xk|some (k',ys)=>bif k == k' then(bif k then(if xs.length=ys.length then allT f xs ys else xg xk)else(allT f xs ys).map λb=>b && xs.length == ys.length)else xg xk)
def eqT:Nat->D->D->Option Bool
 |0,a,b=>a.un.flat?.bind λx=>b.un.flat?.map λy=>eqV x y|n+1,a,b=>eqS (eqT n) a.un b.un
theorem zpr_ {k:Bool}{xs:List D}(e:sqT d=xg (k,xs))(h:DR K d v H):∃p us,v=.ref p/\DRs K xs us H/\H p=xg (bif k then .lst us else .tup us):=by
 cases d with
 |nd k ds=>
  obtain⟨p,us,rfl,m,r⟩:=h.nd;cases k with
  |lst=>cases e;exact⟨p,us,rfl,r,m⟩|tup=>cases e;exact⟨p,us,rfl,r,m⟩|_=>cases e
 |_=>cases e
theorem zcQ_ {x:V}(e:d.flat?=xg x)(h:DR K d v H):v=x/\flatV x=xj:=by
 cases d with
 |non=>cases e;exact⟨h.non,rfl⟩|bl=>cases e;exact⟨h.bl,rfl⟩|int=>cases e;exact⟨h.int,rfl⟩|str=>cases e;exact⟨h.str,rfl⟩|_=>cases e
theorem zjq_ {f:D->D->Option Bool}:∀{xs ys:List D}{b:Bool},allT f xs ys=xg b->∃e:Nat->Bool,(∀(i:Nat) x y,xs[i]?=xg x->ys[i]?=xg y->f x y=xg (e i))/\b=(oU (min xs.length ys.length)).all e
 |[],_,_,h=>by cases h;exact⟨λ_=>xj,λi x y hx=>by simp at hx,by simp⟩
 |_::_,[],_,h=>by cases h;exact⟨λ_=>xj,λi x y hx hy=>by simp at hy,by simp⟩
 |x::xs,y::ys,b,h=>by
  unfold allT at h;obtain⟨c,hc,h⟩:=pA.mp h;obtain⟨c',dG,rfl⟩:=oF.mp h;obtain⟨e,h1,h2⟩:=zjq_ dG;refine⟨λi=>match i with |0=>c |i+1=>e i,λi u w hu hw=>?_,?_⟩
  ·cases i with
   |zero=>simp at hu hw;subst hu hw;exact hc|succ i=>exact h1 i u w (by simpa using hu) (by simpa using hw)
  ·rw[h2,n6,n6,Nat.succ_min_succ,List.range_succ_eq_map,pK,wg];rfl
theorem eqt_D:∀{n:Nat}{a b:D}{x y:V}{c:Bool},eqT n a b=xg c->DR K a x H->DR K b y H->EqD K H n x y c:=by
 intro n;induction n with
 |zero=>
  intro a b x y c h ha hb;unfold eqT at h;obtain⟨x',hx,h⟩:=pA.mp h;obtain⟨y',hy,rfl⟩:=oF.mp h;obtain⟨rfl,f1⟩:=zcQ_ hx (DR.un ha);obtain⟨rfl,f2⟩:=zcQ_ hy (DR.un hb);exact .flat f1 f2
 |succ n ih=>
  intro a b x y c h ha hb;have ha:=DR.un ha;have hb:=DR.un hb;have sub:∀{xs ys:List D}{us ws:List V}{e:Nat->Bool},DRs K xs us H->DRs K ys ws H->(∀(i:Nat) x y,xs[i]?=xg x->ys[i]?=xg y->eqT n x y=xg (e i))->∀(i:Nat) u w,us[i]?=xg u->ws[i]?=xg w->EqD K H n u w (e i):=λr r2 g i u w hu hw=>by
   rcases r.get i with⟨_,z⟩|⟨d,v,e1,e2,e3⟩
   ·rw[z]at hu;cases hu
   rcases r2.get i with⟨_,z⟩|⟨d',v',g1,g2,g3⟩
   ·rw[z]at hw;cases hw
   rw[e2]at hu;rw[g2]at hw;cases hu;cases hw;exact ih (g i _ _ e1 g1) e3 g3
  have fl:∀{a b:D},DR K a x H->DR K b y H->(a.flat?.bind λx=>b.flat?.map λy=>eqV x y)=xg c->EqD K H (n+1) x y c:=λha hb h=>by
   obtain⟨x',hx,h⟩:=pA.mp h;obtain⟨y',hy,rfl⟩:=oF.mp h;obtain⟨rfl,f1⟩:=zcQ_ hx ha;obtain⟨rfl,f2⟩:=zcQ_ hy hb;exact(EqD.flat f1 f2).le (qS _)
  have h:eqS (eqT n) a.un b.un=xg c:=h;unfold eqS at h;cases ea:sqT a.un with
  |none=>
   rw[ea]at h;cases eb:sqT b.un with
   |none=>rw[eb]at h;exact fl ha hb h|some q=>
    rw[eb]at h;obtain⟨y',hy,rfl⟩:=oF.mp h;obtain⟨rfl,f2⟩:=zcQ_ hy ha;obtain⟨p,us,rfl,r,m⟩:=zpr_ (k:=q.1) (xs:=q.2) eb hb;cases z:q.1<;>rw[z]at m
    ·exact .ft (.of m) f2
    ·exact .fl (.of m) f2
  |some q=>
   rw[ea]at h;obtain⟨p,us,rfl,r1,n1⟩:=zpr_ (k:=q.1) (xs:=q.2) ea ha;obtain⟨k,xs⟩:=q;cases eb:sqT b.un with
   |none=>
    rw[eb]at h;obtain⟨y',hy,rfl⟩:=oF.mp h;obtain⟨rfl,f2⟩:=zcQ_ hy hb;cases k
    ·exact .tf (.of n1) f2
    ·exact .lf (.of n1) f2
   |some q=>
    rw[eb]at h;obtain⟨q',ws,rfl,r2,n2⟩:=zpr_ (k:=q.1) (xs:=q.2) eb hb;obtain⟨k',ys⟩:=q;cases k<;>cases k'
    ·obtain⟨c',hc,rfl⟩:=oF.mp (show(allT (eqT n) xs ys).map _=_ from h)
     obtain⟨e,g1,rfl⟩:=zjq_ hc;rw[r1.len,r2.len];exact .tup e (.of n1) (.of n2) (sub r1 r2 g1)
    ·cases h;exact .tl (.of n1) (.of n2)
    ·cases h;exact .lt (.of n1) (.of n2)
    ·have h:(if xs.length=ys.length then allT (eqT n) xs ys else xg xk)=xg c:=h
     split at h
     ·rename_i hl
      obtain⟨e,g1,rfl⟩:=zjq_ h;rw[<- hl,rm,r1.len];exact .lst e (.of n1) (.of n2) (by rw[<- r1.len,<- r2.len,hl]) (sub r1 r2 g1)
     ·rename_i hl;cases h;exact .lstN (.of n1) (.of n2) (by rw[<- r1.len,<- r2.len];exact hl)
def eqD (neg:Bool)(a b:D):Mo D:=(Mo.opt (eqT 12 a b)).bind λc=>.ok (.bl (if neg then !c else c))
theorem od_eq:Op2D K (mEqA K) E (eqD xk):=by
 intro a b x y F H Q hs ha hb q;unfold eqD at q;cases e:eqT 12 a b with
 |none=>rw[e]at q;exact q.elim|some c=>rw[e]at q;exact⟨12,c,by decide,eqt_D e ((tyD K).mono hs ha) ((tyD K).mono hs hb),gotB q hs⟩
theorem od_ne:Op2D K (mNeA K) E (eqD xj):=by
 intro a b x y F H Q hs ha hb q;unfold eqD at q;cases e:eqT 12 a b with
 |none=>rw[e]at q;exact q.elim|some c=>rw[e]at q;exact⟨12,c,by decide,eqt_D e ((tyD K).mono hs ha) ((tyD K).mono hs hb),gotB q hs⟩
theorem un_fz:∀(d:D) {x:D},d.un≠.fz x
 |.fz d,x=>by unfold D.un;exact un_fz d
 |.non,_=>λz=>by cases z
 |.bl _,_=>λz=>by cases z
 |.int _,_=>λz=>by cases z
 |.str _,_=>λz=>by cases z
 |.nd _ _,_=>λz=>by cases z
 |.pin _,_=>λz=>by cases z
 |.gone,_=>λz=>by cases z
def isD (neg:Bool)(a b:D):Mo D:=match b with
 |.non=>(match a.un with |.pin _=>.no |.gone=>.no |.non=>.ok (.bl (!neg))|_=>.ok (.bl neg))|.bl c=>(match a.un with |.bl b=>.ok (.bl (if neg then !decide (b=c)else decide (b=c)))|_=>.no)|_=>.no
theorem zlE_ (ha:DR K d v H){neg:Bool}{b:D}{c:Mo Unit}(hc:isD neg d .non=.ok b):b=.bl (if neg then !decide (v=.non)else decide (v=.non)):=by
 have ha:=DR.un ha;unfold isD at hc;cases z:d.un with
 |non=>rw[z]at ha hc;cases ha.non;cases hc;cases neg<;>rfl
 |bl=>rw[z]at ha hc;cases ha.bl;cases hc;cases neg<;>rfl
 |int=>rw[z]at ha hc;cases ha.int;cases hc;cases neg<;>rfl
 |str=>rw[z]at ha hc;cases ha.str;cases hc;cases neg<;>rfl
 |nd=>rw[z]at ha hc;obtain⟨_,_,rfl,_⟩:=ha.nd;cases hc;cases neg<;>rfl
 |fz=>exact absurd z (un_fz d)|pin=>rw[z]at hc;cases hc|gone=>rw[z]at hc;cases hc
theorem zh8_ {neg:Bool}{a b:D}{k:D->Hp->Hp->Prop}(q:After K (isD neg a b) E F H k):(b=.non/\∃c,isD neg a .non=.ok c/\After K (.ok c) E F H k)\/∃c e,b=.bl c/\a.un=.bl e/\After K (.ok (.bl (if neg then !decide (e=c)else decide (e=c)))) E F H k:=by
 unfold isD at q ⊢;split at q
 ·refine .inl ⟨rfl,?_⟩
  split at q
  ·exact q.elim
  ·exact q.elim
  ·exact⟨_,rfl,q⟩
  ·exact⟨_,rfl,q⟩
 ·split at q
  ·exact .inr ⟨_,_,rfl,by assumption,q⟩
  ·exact q.elim
 ·exact q.elim
theorem od_is:Op2D K mIs E (isD xk):=by
 intro a b x y F H Q hs ha hb q;rcases zh8_ q with⟨rfl,c,e,q⟩|⟨c,e,rfl,z,q⟩
 ·cases DR.non (K:=K) (H:=F) hb
  cases zlE_ (c:=.no) ha e;exact gotB q hs
 ·have ha:=DR.un ha
  rw[z]at ha;cases ha.bl;cases DR.bl (K:=K) (H:=F) hb;exact gotB q hs
theorem zn6_:Op2D K mIsNot E (isD xj):=by
 intro a b x y F H Q hs ha hb q;rcases zh8_ q with⟨rfl,c,e,q⟩|⟨c,e,rfl,z,q⟩
 ·cases DR.non (K:=K) (H:=F) hb
  cases zlE_ (c:=.no) ha e;exact gotB q hs
 ·have ha:=DR.un ha
  rw[z]at ha;cases ha.bl;cases DR.bl (K:=K) (H:=F) hb;exact gotB q hs
def flats:List D->Option (List V)
 |[]=>xg []|d::ds=>d.un.flat?.bind λx=>(flats ds).map λxs=>x::xs
theorem zhX_:∀{ds:List D}{xs us:List V},flats ds=xg xs->DRs K ds us H->us=xs/\xs.all flatV=xj
 |[],_,_,e,h=>by cases e;unfold DRs at h;exact⟨h,rfl⟩
 |d::ds,_,_,e,h=>by
  unfold flats at e;unfold DRs at h;obtain⟨x,ex,e⟩:=pA.mp e;obtain⟨xs,exs,rfl⟩:=oF.mp e;obtain⟨v,vs,rfl,a,r⟩:=h;obtain⟨rfl,f1⟩:=zcQ_ ex (DR.un a);obtain⟨rfl,f2⟩:=zhX_ exs r;exact⟨rfl,by rw[pK,f1,f2];rfl⟩
def inSeq (neg:Bool)(a:D)(ys:List D):Mo D:=(Mo.opt (a.un.flat?.bind λx=>(flats ys).map λzs=>inV x zs)).bind λc=>.ok (.bl (if neg then !c else c))
def inD (neg:Bool)(a b:D):Mo D:=match b.un with
 |.str t=>(match a.un with |.str l=>.ok (.bl (if neg then !inS l t else inS l t))|_=>.no)|.nd .lst ys=>inSeq neg a ys|.nd .tup ys=>inSeq neg a ys|.nd .ktup ys=>inSeq neg a ys|_=>.no
theorem zic_ {neg:Bool}{a:D}{ys:List D}{x:V}(hs:Same F H)(ha:DR K a x F)(n:SqL K H p us\/SqT K H p us)(r:DRs K ys us F)(q:After K (inSeq neg a ys) E F H (OwnK (owD K) H Q)):mIn K neg x (.ref p) H Q:=by
 unfold inSeq at q;cases e:(a.un.flat?.bind λx=>(flats ys).map λzs=>inV x zs)with
 |none=>rw[e]at q;exact q.elim|some c=>
  rw[e]at q;obtain⟨x',ex,e⟩:=pA.mp e;obtain⟨zs,ez,rfl⟩:=oF.mp e;obtain⟨rfl,f1⟩:=zcQ_ ex (DR.un ha);obtain⟨rfl,f2⟩:=zhX_ ez r;exact⟨us,n,f1,f2,gotB q hs⟩
theorem od_in {neg:Bool}:Op2D K (mIn K neg) E (inD neg):=by
 intro a b x y F H Q hs ha hb q;have hb:=DR.un hb;unfold inD at q;split at q
 ·rename_i l e;rw[e]at hb;cases hb.str
  have ha:=DR.un ha;split at q
  ·rename_i e;rw[e]at ha;cases ha.str;exact gotB q hs
  ·exact q.elim
 ·rename_i e;rw[e]at hb;obtain⟨p,us,rfl,n,r⟩:=hb.nd;exact zic_ hs ha (.inl (.of (hs _ _ n))) r q
 ·rename_i e;rw[e]at hb;obtain⟨p,us,rfl,n,r⟩:=hb.nd;exact zic_ hs ha (.inr (.of (hs _ _ n))) r q
 ·rename_i e;rw[e]at hb;obtain⟨p,us,rfl,n,r⟩:=hb.nd;exact zic_ hs ha (.inr (.inr n)) r q
 ·exact q.elim
def intD (d:D):Mo Int:=match d.un with |.int i=>.ok i |_=>.no
theorem ep_x (hx:EvX K t E env r):EvP K (mPart t) E (Lof K env) (r.bind λd=>(intD d).bind λi=>.ok (xg i)):=by
 intro σ F H Q hL hs q;refine ex_v hx σ F H _ hL hs (q.bind.imp λa F1 H1 x1 k1 v1 aK=>?_)
 have ha:=DR.un aK;unfold intD at k1;split at k1
 ·rename_i i e;rw[e]at ha;cases ha.int;exact k1.ok x1.2.1
 ·exact k1.elim
def slD (a:D)(lo hi:Option Int):Mo D:=match a.un with
 |.str l=>.lim l.length (.ok (.str (cutG l lo hi)))|.nd .lst xs=>.ok (.nd .lst ((cutG xs lo hi).map .vw))|.nd .scr xs=>.ok (.nd .lst ((cutG xs lo hi).map .vw))|_=>.no
def OwnKs (K:oK)(H:Hp)(Q:List V->Hp->Prop)(ds:List D)(F' H':Hp):Prop:=∀vs h,(∀p,h p≠xh->H p=xh)->Dj F' h->Same h H'->ODs K ds vs F' h->Q vs H'
def EvAs (K:oK)(t:TA)(E:XK)(env:Env)(r:Mo (List D)):Prop:=∀σ F H (Q:List V->Hp->Prop),HoldF (Lof K env) σ F->Same F H->After K r E F H (OwnKs K H Q)->t σ H Q
abbrev csD (K:oK):Cs (List D):=⟨DRs K,λg h=>h.mono g⟩
theorem zez_:EvAs K tNil E env (.ok []):=λσ F H Q hL hs q=>q.ok hs [] (λ_=>xh) (λp z=>absurd rfl z) (λp=>.inr rfl) (λp o z=>by cases z) (by unfold ODs;exact⟨rfl,λ_=>rfl⟩)
theorem zls_ (x:Ext F H F' H')(d:Dj F h)(s:Same h H):Dj F' h:=λp=>by
 cases z:h p with
 |none=>exact .inr rfl|some o=>
  left;rcases d p with y |y
  ·cases w:F' p with
   |none=>rfl|some o'=>have:=x.2.2.2 p y (by rw[w];exact sN _);rw[s _ _ z]at this;cases this
  ·rw[y]at z;cases z
theorem zT_ (h1:EvX K t E env r)(h2:EvAs K ta E env ra):EvAs K (tCons t ta) E env (r.bind λa=>ra.bind λas=>.ok (a::as)):=by
 intro σ F H Q hL hs q;refine h1 σ F H _ hL hs (q.bind.imp λa F1 H1 x1 k1 v k a_ dQ s1 o1=>?_)
 refine h2 σ F1 H1 _ (hL.mono x1.1) x1.2.1 (k1.bind.imp λas F2 H2 x2 k2 vs k' fN iH s2 o2=>?_)
 have d1:Dj k k':=λp=>by
  cases z:k p with
  |none=>exact .inl rfl|some o=>
   right;cases y:k' p with
   |none=>rfl|some o'=>have:=fN p (by rw[y];exact sN _);rw[s1 _ _ z]at this;cases this
 refine k2.ok x2.2.1 (v::vs) (un k k') (λp z=>?_) (λp=>?_) (λp o z=>?_) ?_
 ·unfold un at z
  cases y:k p with
  |some o=>exact a_ p (by rw[y];exact sN _)|none=>rw[y]at z;exact x1.2.2.1.free (fN p z)
 ·unfold un
  cases y:k p with
  |some o=>
   rcases zls_ x2 dQ s1 p with w |w
   ·exact .inl w
   ·rw[y]at w;cases w
  |none=>exact iH p
 ·unfold un at z
  cases y:k p with
  |some o'=>rw[y]at z;cases z;exact x2.2.2.1 _ _ (s1 _ _ y)|none=>rw[y]at z;exact s2 _ _ z
 ·unfold ODs
  exact⟨v,vs,k,k',rfl,zcF_ d1,o1.mono x2.1,o2⟩
theorem zfq_ (h:EvAs K ta E env ra):EvA K ta E (Lof K env) ra (csD K):=by
 intro σ F H Q hL hs q;refine h σ F H Q hL hs ?_;cases ra with
 |ok a=>
  intro F' H' x vs h' fresh d s o;refine q (un F' h') H' ⟨x.1.trans z7_,λp o e=>?_,x.2.2.1,λp a b=>?_⟩ vs (OD.view.go z7_ (zdG_ d) o)
  ·unfold un at e
   cases z:F' p with
   |some w=>rw[z]at e;cases e;exact x.2.1 _ _ z|none=>rw[z]at e;exact s _ _ e
  ·unfold un at b
   cases z:F' p with
   |some w=>exact x.2.2.2 p a (by rw[z];exact sN _)|none=>rw[z]at b;exact fresh p b
 |ex c=>exact q|no=>exact q
theorem ODs.len:∀{ds:List D}{us:List V}{h:Hp},ODs K ds us F h->ds.length=us.length
 |[],_,_,q=>by unfold ODs at q;rw[q.1];rfl
 |d::ds,_,_,q=>by unfold ODs at q;obtain⟨v,vs,h1,h2,rfl,j,a,r⟩:=q;rw[n6,n6,ODs.len r]
theorem zoa_ (h:EvAs K ta E env ra):EvX K (tTup ta) E env (ra.bind λds=>.lim ds.length (.ok (.nd .tup ds))):=by
 intro σ F H Q hL hs q;refine h σ F H _ hL hs (q.bind.imp λds F1 H1 x1 k1 vs k a_ dQ s1 o1=>?_)
 obtain⟨c,k1⟩:=k1.lim;rw[ODs.len o1]at c;refine⟨c,λp hp=>?_⟩
 have nk:k p=xh:=by
  cases z:k p with
  |none=>rfl|some o=>rw[s1 _ _ z]at hp;cases hp
 have y:=Ext.new x1.2.1 (o:=.tup vs) hp;refine k1 _ _ y (.ref p) k a_ (zls_ y dQ s1) (s1.trans (zC_ hp _)) ?_;show OD K _ _ _ _
 unfold OD;exact⟨p,vs,λ_=>xh,k,rfl,⟨ze_,λ_=>rfl⟩,λq=>.inl ⟨rfl,rfl⟩,OD.mono.go y.1 o1⟩
theorem zpQ_ (h:EvAs K ta E env ra):EvX K (tLst ta) E env (ra.bind λds=>.lim ds.length (.ok (.nd .lst ds))):=by
 intro σ F H Q hL hs q;refine h σ F H _ hL hs (q.bind.imp λds F1 H1 x1 k1 vs k a_ dQ s1 o1=>?_)
 obtain⟨c,k1⟩:=k1.lim;rw[ODs.len o1]at c;refine⟨c,λp hp=>?_⟩
 have nk:k p=xh:=by
  cases z:k p with
  |none=>rfl|some o=>rw[s1 _ _ z]at hp;cases hp
 have d1:Dj (one p (.lst vs)) k:=λq=>by
  rw[zk_];split
  ·rename_i e;rw[e];exact .inr nk
  ·exact .inl rfl
 refine k1 F1 _ (.heap x1.2.1 (zC_ hp _)) (.ref p) (un (one p (.lst vs)) k) (λq z=>?_) (λq=>?_) (λq o z=>?_) ?_
 ·unfold un at z;rw[zk_]at z
  by_cases e:q=p
  ·subst e;exact x1.2.2.1.free hp
  ·rw[if_neg e]at z;exact a_ q z
 ·unfold un;rw[zk_]
  by_cases e:q=p
  ·subst e;exact .inl (x1.2.1.free hp)
  ·rw[if_neg e];exact dQ q
 ·unfold un at z;rw[zk_]at z
  by_cases e:q=p
  ·subst e;rw[if_pos rfl]at z;cases z;exact ze_
  ·rw[if_neg e]at z;rw[zm_ e];exact s1 _ _ z
 ·show OD K _ _ _ _
  unfold OD;exact⟨p,vs,_,k,rfl,rfl,zcF_ d1,o1⟩
abbrev BlD (K:oK)(m:List V->Hp->VK->Prop)(E:XK)(g:List D->Mo D):Prop:=BlO K m E (csD K) g (owD K)
theorem ex_cb {m:List V->Hp->VK->Prop}{g:List D->Mo D}(o:BlD K m E g)(h:EvAs K ta E env ra):EvX K (tCB m ta) E env (ra.bind g):=zou_ o (zfq_ h)
theorem DRs.one (h:DRs K [d] us H):∃v,us=[v]/\DR K d v H:=by
 unfold DRs at h;obtain⟨v,vs,rfl,a,r⟩:=h;unfold DRs at r;subst r;exact⟨v,rfl,a⟩
theorem DRs.two {d':D}(h:DRs K [d,d'] us H):∃v v',us=[v,v']/\DR K d v H/\DR K d' v' H:=by
 unfold DRs at h;obtain⟨v,vs,rfl,a,r⟩:=h;obtain⟨v',rfl,b⟩:=DRs.one r;exact⟨v,v',rfl,a,b⟩
def on1 (f:D->Mo D)(ds:List D):Mo D:=match ds with |[d]=>f d.un |_=>.no
def on2 (f:D->D->Mo D)(ds:List D):Mo D:=match ds with |[d,e]=>f d.un e.un |_=>.no
theorem zfy_ {m:List V->Hp->VK->Prop}{f:D->Mo D}(h:∀d v F H (Q:VK),Same F H->DR K d v F->After K (f d) E F H (OwnK (owD K) H Q)->m [v] H Q):BlD K m E (on1 f):=by
 intro ds vs F H Q hs hd q;unfold on1 at q;split at q
 ·obtain⟨v,rfl,a⟩:=DRs.one hd;exact h _ _ F H Q hs (DR.un a) q
 ·exact q.elim
theorem znR_ {m:List V->Hp->VK->Prop}{f:D->D->Mo D}(h:∀d e v w F H (Q:VK),Same F H->DR K d v F->DR K e w F->After K (f d e) E F H (OwnK (owD K) H Q)->m [v,w] H Q):BlD K m E (on2 f):=by
 intro ds vs F H Q hs hd q;unfold on2 at q;split at q
 ·obtain⟨v,w,rfl,a,b⟩:=DRs.two hd;exact h _ _ _ _ F H Q hs (DR.un a) (DR.un b) q
 ·exact q.elim
def lenD:List D->Mo D:=on1 λd=>match d with
 |.str l=>.lim l.length (.ok (.int l.length))|.nd .lst xs=>.ok (.int xs.length)|.nd .tup xs=>.ok (.int xs.length)|.nd .scr xs=>.ok (.int xs.length)|.nd .ktup xs=>.ok (.int xs.length)|_=>.no
theorem zpw_:BlD K (mLen K) E lenD:=zfy_ λd v F H Q hs hd q=>by
 split at q
 ·cases hd.str;obtain⟨c,q⟩:=q.lim;exact⟨c,gotI q hs⟩
 ·obtain⟨p,us,rfl,n,r⟩:=hd.nd;exact⟨us,.inl (.of (hs _ _ n)),by rw[<- r.len];exact gotI q hs⟩
 ·obtain⟨p,us,rfl,n,r⟩:=hd.nd;exact⟨us,.inr (.of (hs _ _ n)),by rw[<- r.len];exact gotI q hs⟩
 ·obtain⟨p,us,rfl,n,r⟩:=hd.nd;exact⟨us,.inl (hs.seq n),by rw[<- r.len];exact gotI q hs⟩
 ·obtain⟨p,us,rfl,n,r⟩:=hd.nd;exact⟨us,.inr (.inr n),by rw[<- r.len];exact gotI q hs⟩
 ·exact q.elim
def dlenD:List D->Mo D:=on1 λd=>match d with |.nd (.dct ks) xs=>.ok (.int xs.length)|_=>.no
def mLenR:List V->Hp->VK->Prop:=λxs H Q=>match xs with |[.ref a]=>∃kvs,Rd H a (.dK kvs)/\Q (.int kvs.length) H |_=>False
theorem zgB_ {X:Cx}:CallR X (.builtin "len") mLenR:=by
 intro pins s σ H xs us Q I r h;unfold mLenR at h;split at h
 ·rename_i a
  obtain⟨kvs,ha,q⟩:=h;obtain⟨u,rfl,ru⟩:=vals1 r;cases ru;exact d_len I ha λt s' I'=>⟨.int kvs.length,H,I',⟨t,rfl⟩,q⟩
 ·exact h.elim
theorem zni_:BlD K mLenR E dlenD:=zfy_ λd v F H Q hs hd q=>by
 split at q
 ·rename_i ks xs
  obtain⟨p,us,rfl,n,r⟩:=hd.nd;refine⟨_,zcf_ hs n.1,?_⟩;rw[show(ks.zip us).length=xs.length from by rw[qk,n.2.1,rm,r.len]]
  exact gotI q hs
 ·exact q.elim
def minD:List D->Mo D:=on2 λa b=>match a,b with |.int i,.int j=>.ok (.int (min i j))|_,_=>.no
theorem zo6_:BlD K (mTwo min) E minD:=znR_ λd e v w F H Q hs hd he q=>by
 split at q
 ·cases hd.int;cases he.int;exact gotI q hs
 ·exact q.elim
end
section
variable {K:pE}{F F' h h1 h2:Hp}{d:D}{ds:List D}{v:V}{us:List V}{p:nR}
theorem ODs.focus:∀{ds:List D}{us:List V}{h:Hp}{i:Nat}{c:D},ODs K ds us F h->ds[i]?=xg c ->
  ∃u h1 h2,us[i]?=xg u/\Jn h1 h2 h/\OD K c u F h1/\∀c' F' u' h1' h',Same F F'->OD K c' u' F' h1'->Jn h1' h2 h'->ODs K (ds.set i c') (us.set i u') F' h'
 |[],_,_,_,_,_,e=>by simp at e
 |d::ds,_,h,0,c,q,e=>by
  unfold ODs at q;obtain⟨v,vs,h1,h2,rfl,j,a,r⟩:=q;simp at e;subst e;refine⟨v,h1,h2,rfl,j,a,λc' F' u' h1' h' g o j'=>?_⟩
  rw[qq,qq];unfold ODs;exact⟨u',vs,h1',h2,rfl,j',o,OD.mono.go g r⟩
 |d::ds,_,h,i+1,c,q,e=>by
  unfold ODs at q;obtain⟨v,vs,h1,h2,rfl,j,a,r⟩:=q;obtain⟨u,k1,k2,e1,j1,o1,f⟩:=ODs.focus r (by simpa using e)
  obtain⟨m,jm,jh⟩:=zw_ j1 (zR_ j);refine⟨u,k1,m,by simpa using e1,jh,o1,λc' F' u' b_ h' g o' j'=>?_⟩
  rw[qr,qr];unfold ODs;exact⟨v,vs.set i u',h1,un b_ k2,rfl,jn_re jm j',a.mono g,f c' F' u' b_ _ g o' (zcF_ (dj_of jm j'))⟩
theorem zdy_ {α:Type}{l:List α}{i:Nat}{x:α}(h:l[i]?=xg x):l.set i x=l:=zi9_ h
theorem Hold.atG:∀{L:List Sl}{σ:L2.St}{h:Hp}{i:Nat}{s:Sl},Hold L σ F h->L[i]?=xg s ->
  ∃o h1 h2,σ[i]?=xg o/\Jn h1 h2 h/\s.P o F h1/\∀s' o' F' h1' h',Same F F'->s'.P o' F' h1'->Jn h1' h2 h'->Hold (L.set i s') (σ.set i o') F' h'
 |[],_,_,_,_,_,e=>by simp at e
 |s::L,[],_,_,_,q,_=>q.elim
 |s::L,o::σ,h,0,t,q_,e=>by
  obtain⟨h1,h2,j,p,r⟩:=q_;simp at e;subst e;exact⟨o,h1,h2,rfl,j,p,λs' o' F' h1' h' g p' j'=>⟨h1',h2,j',p',r.mono g⟩⟩
 |s::L,o::σ,h,i+1,t,q_,e=>by
  obtain⟨h1,h2,j,p,r⟩:=q_;obtain⟨o1,k1,k2,e1,j1,p1,f⟩:=Hold.atG r (by simpa using e)
  obtain⟨m,jm,jh⟩:=zw_ j1 (zR_ j);exact⟨o1,k1,m,by simpa using e1,jh,p1,λs' o' F' b_ h' g aI j'=>⟨h1,un b_ k2,jn_re jm j',p.mono g,f s' o' F' b_ _ g aI (zcF_ (dj_of jm j'))⟩⟩
theorem Hold.more:∀{L:List Sl}{σ:L2.St}{h g h':Hp},Hold L σ F h->Jn g h h'->Hold L σ F h'
 |[],[],_,_,_,_,_=>trivial|s::L,[],_,_,_,q,_=>q.elim|[],_::_,_,_,_,q,_=>q.elim|s::L,o::σ,h,g,h',q_,j'=>by
  obtain⟨h1,h2,j,p,r⟩:=q_;obtain⟨m,jm,jh⟩:=zw_ j (zR_ j');exact⟨h1,m,jh,p,Hold.more r (zR_ jm)⟩
noncomputable abbrev Ws:=Nat->Option V
def slotW (K:oK)(w:Option V)(o:Option D):Sl:=match o with
 |none=>.dead|some d=>(match w with |none=>.ow (owD K) d |some u=>.ow (owAt u (owD K)) d)
abbrev LofW (K:oK)(ws:Ws)(env:Env):List Sl:=env.mapIdx λi o=>slotW K (ws i) o
variable {ws:Ws}{env:Env}{σ:L2.St}{i:Nat}
theorem zaL_ {o:Option D}(ho:env[i]?=xg o):(LofW K ws env)[i]?=xg (slotW K (ws i) o):=by
 rw[sy,ho];rfl
theorem zcw_ {o:Option D}:(LofW K ws env).set i (slotW K (ws i) o)=LofW K ws (env.set i o):=by
 refine List.ext_getElem? λj=>?_
 rw[oY,sy,sy,oY,List.length_mapIdx];by_cases e:i=j
 ·subst e;rw[if_pos rfl,if_pos rfl];split<;>rfl
 ·rw[if_neg e,if_neg e]
theorem zkM_ {w:Option V}{o:Option D}{x:Option V}(h:(slotW K w o).Z x F):(slot K o).Z x F:=by
 cases o with
 |none=>trivial|some d=>cases w with |none=>exact h |some u=>exact h
theorem zdU_ (h:HoldF (LofW K ws env) σ F):HoldF (Lof K env) σ F:=by
 intro i s e;rw[om]at e;cases z:env[i]? with
 |none=>rw[z]at e;cases e|some o=>
  rw[z]at e;cases e;exact zkM_ (h i _ (zaL_ z))
theorem zce_ {w:Option V}{d:D}{x:Option V}(h:(slotW K w (xg d)).P x F h1):∃v,x=xg v/\(∀u,w=xg u->v=u)/\OD K d v F h1:=by
 cases w with
 |none=>obtain⟨v,e,o⟩:=h;exact⟨v,e,(λu z=>by cases z),o⟩|some u=>obtain⟨v,e,z,o⟩:=h;exact⟨v,e,(λu' y=>by cases y;exact z),o⟩
theorem zcx_ {w:Option V}{d:D}{v:V}(hw:∀u,w=xg u->v=u)(o:OD K d v F h1):(slotW K w (xg d)).P (xg v) F h1:=by
 cases w with
 |none=>exact⟨v,rfl,o⟩|some u=>exact⟨v,rfl,hw u rfl,o⟩
end
inductive Mr (s α:Type) where
 |ok (a:α) (t:s)|ex (c:Xc) (t:s)|no
noncomputable abbrev Fn:=List D->Mr (List D) D
def Fn.val (f:Fn)(ds:List D):Mo D:=match f ds with |.ok d _=>.ok d |.ex c _=>.ex c |.no=>.no
section
variable {K:pE}{E:XK}{F F' F0 H0 h h1 h2 H H':Hp}{d:D}{ds:List D}{v:V}{us vs:List V}{k:Nd}{p:nR}{Q:VK}{env:Env}{t:TE}{r:Mo D}{ta:TA}{ra:Mo (List D)}{f:Fn}
def FinC (K:oK)(r:Mr (List D) D)(E:XK)(F0 H0:Hp)(vs:List V)(Q:VK):Prop:=match r with
 |.ok d ds=>∀v F h H hr h2,Okk F0 H0 F h H->Jn hr h2 h->OD K d v F hr->ODs K ds vs F h2->Q v H|.ex c ds=>∀F h H,Okk F0 H0 F h H->ODs K ds vs F h->Tell K E c H0 F H|.no=>False
def CtG (K:oK)(f:Fn):Sp:=λvs H Q E=>∃F h ds,Same F H/\Dj F h/\Same h H/\ODs K ds vs F h/\FinC K (f ds) E F (less H h) vs Q
theorem zla_ (hn:∀p,h p=xh):less H h=H:=funext λp=>zaj_ (hn p)
theorem zds_ (hs:Same F H)(hd:DRs K ds vs F)(q:After K (f.val (ds.map D.vw)) E F H (OwnK (owD K) H Q)):CtG K f vs H Q E:=by
 refine⟨F,λ_=>xh,ds.map D.vw,hs,λ_=>.inr rfl,(λp o z=>by cases z),ODs.vw (λ_=>rfl) hd,?_⟩
 rw[zla_ λ_=>rfl]
 unfold Fn.val at q;cases e:f (ds.map D.vw)with
 |no=>rw[e]at q;exact q|ok d ds'=>
  rw[e]at q;intro v F' h' H' hr h2 ok j o _;refine q F' H' ok.1 v hr (λp z=>ok.2.2.2.1 p ?_) (dj_l ok.2.1 j) (j.l.trans ok.2.2.1) o
  cases y:hr p with
  |none=>exact absurd y z|some w=>rw[j.l _ _ y];exact sN _
 |ex c ds'=>rw[e]at q;exact λF' h' H' ok _=>q F' H' ok.1
theorem zlN_ (h:EvAs K ta E env ra):EvX K (tCall (CtG K f) [] E ta) E env (ra.bind λds=>f.val (ds.map D.vw)):=by
 intro σ F H Q hL hs q;refine zfq_ h σ F H _ hL hs (q.bind.imp λds F1 H1 x1 k1 vs cA=>?_)
 rw[pW];exact zds_ x1.2.1 cA (k1.imp λr F2 H2 x2 k2=>k2.back x1.2.2.1)
theorem zec_:∀{ns:List Str}{us:List V}{f:Str}{v:V},us[ns.idxOf f]?=xg v->ns.length=us.length->(ns.zip us).lookup f=xg v
 |[],us,f,v,h,l=>by cases us with |nil=>simp at h |cons=>simp at l
 |n::ns,[],f,v,h,l=>by simp at l
 |n::ns,u::us,f,v,h,l=>by
  rw[oZ,rH];by_cases e:n=f
  ·subst e;simp at h;simp[h]
  ·rw[vg,show(n == f)=xk from beq_eq_false_iff_ne.mpr e,cond_false,p9]at h
   rw[show(f == n)=xk from beq_eq_false_iff_ne.mpr λz=>e z.symm]
   exact zec_ h (by simpa using l)
def tFld (K:oK)(cs:List Str)(t:TE)(f:Str):TE:=λσ H Q=>∃c∈cs,mFld (gA K c) t f σ H Q
def fldD (cs:List Str)(f:Str)(d:D):Mo D:=match d.un with
 |.nd (.obj c ns) ds=>if c∈cs then .opt ((ds[ns.idxOf f]?).map .vw)else .no
 |_=>.no
theorem zp0_ {cs:List Str}{f:Str}(h0:cs≠[])(hx:EvX K t E env r):EvX K (tFld K cs t f) E env (r.bind (fldD cs f)):=by
 intro σ F H Q hL hs q;have main:∀c∈cs,(∀d,r=.ok d->∃ns ds,d.un=.nd (.obj c ns) ds)->tFld K cs t f σ H Q:=λc hc hd=>⟨c,hc,by
  refine ex_v hx σ F H _ hL hs ?_;cases e:r with
  |no=>rw[e]at q;exact q|ex x=>rw[e]at q;exact q|ok d=>
   obtain⟨ns,ds,e2⟩:=hd d e;rw[e]at q;intro F1 H1 x1 v hv;have hv:=DR.un hv;rw[e2]at hv;obtain⟨p,us,rfl,⟨dx,hp,l⟩,rs⟩:=hv.nd;have q:After K (fldD cs f d) E F H _:=q;unfold fldD at q;rw[e2]at q;dsimp only at q;rw[if_pos hc]at q;obtain⟨d',e3,q⟩:=q.opt;obtain⟨d0,e4,rfl⟩:=oF.mp e3;rcases rs.get (ns.idxOf f)with⟨z,_⟩|⟨d1,w,g1,g2,g3⟩
   ·rw[z]at e4;cases e4
   ·rw[g1]at e4;cases e4
    refine⟨dx,_,w,x1.2.1 _ _ hp,zec_ g2 l,?_⟩;exact gotV (E:=E) (λF2 H2 x2=>(q F2 H2 (x1.trans x2)).back x1.2.2.1) x1.2.1 g3⟩
 cases e:r with
 |no=>rw[e]at q;exact q.elim|ok d=>
  rw[e]at q;have q':After K (fldD cs f d) E F H (OwnK (owD K) H Q):=q;unfold fldD at q';split at q'
  ·rename_i c ns ds e2
   by_cases hc:c∈cs
   ·exact main c hc λd' z=>by rw[e]at z;cases z;exact⟨ns,ds,e2⟩
   ·rw[if_neg hc]at q';exact q'.elim
  ·exact q'.elim
 |ex x=>
  cases cs with
  |nil=>exact absurd rfl h0|cons c cs=>exact main c (nV ..) λd' z=>by rw[e]at z;cases z
def walkD (d:D):Mo (List D):=match d.un with
 |.str l=>.ok (l.map λc=>.str [c])|.nd .lst xs=>.ok xs|.nd .tup xs=>.ok xs|.nd .scr xs=>.ok xs|.nd .ktup xs=>.ok xs|_=>.no
theorem yl_L {F1:Hp}(hl:SqL K F1 p us)(r:DRs K ds us F1):Yl K (Itl K p) ds (tyD K) F1:=by
 refine⟨λi H x hH hx=>?_,λH hH=>⟨us,hH.seq hl,by rw[r.len];exact nZ _⟩⟩
 rcases r.get i with⟨a,_⟩|⟨y,u,a,b,c⟩
 ·rw[a]at hx;cases hx
 ·rw[a]at hx;cases hx
  refine⟨⟨us,u,hH.seq hl,b⟩,?_⟩;rintro v H' ⟨rfl,z⟩ F hF bY;have e:=z us (hH.seq hl);rw[b]at e;cases e;exact⟨F,.refl bY,(tyD K).mono hF c⟩
theorem yl_T {F1:Hp}(hl:∀H,Same F1 H->SqT K H p us)(r:DRs K ds us F1):Yl K (Itt K p) ds (tyD K) F1:=by
 refine⟨λi H x hH hx=>?_,λH hH=>⟨us,hl H hH,by rw[r.len];exact nZ _⟩⟩
 rcases r.get i with⟨a,_⟩|⟨y,u,a,b,c⟩
 ·rw[a]at hx;cases hx
 ·rw[a]at hx;cases hx
  refine⟨⟨us,u,hl H hH,b⟩,?_⟩;rintro v H' ⟨rfl,z⟩ F hF bY;have e:=z us (hl _ hH);rw[b]at e;cases e;exact⟨F,.refl bY,(tyD K).mono hF c⟩
def iAnyW (K:oK)(vs:List V)(σ:L2.St)(H1:Hp)(R:It->Hp->Prop):Prop:=match vs with |[x]=>iAny K (tC x) σ H1 R |_=>False
def WkW (K:oK)(E:XK)(wi:List V->L2.St->Hp->(It->Hp->Prop)->Prop)(g:List D->Mo (List D)):Prop:=
 ∀ds vs σ F1 H1 R,Same F1 H1->DRs K ds vs F1->After K (g ds) E F1 H1 (λxs F' H'=>∀J,Yl K J xs (tyD K) F'->R J H')->wi vs σ H1 R
theorem ei_w {wi:List V->L2.St->Hp->(It->Hp->Prop)->Prop}{g:List D->Mo (List D)}(w:WkW K E wi g)(hx:EvAs K ta E env ra):EvI K (λσ H R=>ta σ H λvs H1=>wi vs σ H1 R) E (Lof K env) (ra.bind g) (tyD K):=by
 intro σ F H R hL hs q;exact zfq_ hx σ F H _ hL hs (q.bind.imp λds F1 H1 x1 k1 vs hv=>w ds vs σ F1 H1 R x1.2.1 hv k1)
def walkA (ds:List D):Mo (List D):=match ds with |[d]=>walkD d |_=>.no
theorem w_any:WkW K E (iAnyW K) walkA:=by
 intro ds vs σ F1 H1 R x1 hv k1;unfold walkA at k1;split at k1
 rotate_left
 ·exact k1.elim
 obtain⟨v,rfl,aK⟩:=DRs.one hv;have ha:=DR.un aK;unfold walkD at k1;split at k1
 ·rename_i l e;rw[e]at ha;cases ha.str
  refine k1.ok x1 _ ⟨λi H x hH hx=>?_,λH hH=>?_⟩
  ·rw[om]at hx
   cases e:l[i]? with
   |none=>rw[e]at hx;cases hx|some c=>
    rw[e]at hx;cases hx;have hi:=(oA.mp e).1;refine⟨hi,?_⟩;rintro v H' ⟨rfl,rfl⟩ F _ hF;refine⟨F,.refl hF,?_⟩;show DR K (.str [c]) (tx [l.getD i 0]) F
    rw[pT,e];unfold DR;rfl
  ·show l.length<=_
   rw[nN];exact nZ _
 ·rename_i e;rw[e]at ha;obtain⟨p,us,rfl,n,r⟩:=ha.nd
  exact .inl ⟨⟨us,.of (x1 _ _ n)⟩,k1.ok x1 _ (yl_L (.of n) r)⟩
 ·rename_i e;rw[e]at ha;obtain⟨p,us,rfl,n,r⟩:=ha.nd
  exact .inr ⟨⟨us,.of (x1 _ _ n)⟩,k1.ok x1 _ (yl_T (λH hH=>.of (hH _ _ n)) r)⟩
 ·rename_i e;rw[e]at ha;obtain⟨p,us,rfl,n,r⟩:=ha.nd
  exact .inl ⟨⟨us,x1.seq n⟩,k1.ok x1 _ (yl_L n r)⟩
 ·rename_i e;rw[e]at ha;obtain⟨p,us,rfl,n,r⟩:=ha.nd
  exact .inr ⟨⟨us,.inr n⟩,k1.ok x1 _ (yl_T (λH hH=>.inr n) r)⟩
 ·exact k1.elim
theorem zlQ_ {lo:Int}{n:Nat}{F1:Hp}:Yl K (Itr lo n) ((rngI lo n).map D.int) (tyD K) F1:=by
 have y:=zoz_ (K:=K) (lo:=lo) (n:=n) (F1:=F1);refine⟨λi H x hH hx=>?_,λH hH=>by rw[nN];exact y.stop H hH⟩
 rw[om]at hx;obtain⟨a,ha,rfl⟩:=oF.mp hx;obtain⟨g,z⟩:=y.go i H a hH ha;refine⟨g,λv H' q F hF bY=>?_⟩
 obtain⟨F',x',e⟩:=z v H' q F hF bY;exact⟨F',x',by show DR K _ _ _;unfold DR;exact e⟩
def rng1D (ds:List D):Mo (List D):=match ds with
 |[d]=>(intD d).bind λj=>.grd (-(2 ^ 62)<=j/\j<2 ^ 62) (.ok ((rngI 0 j.toNat).map .int))|_=>.no
theorem zfm_ {α:Type}{k:Int->Mo α}{kk:α->Hp->Hp->Prop}(q:After K ((intD d).bind k) E F H kk)(hd:DR K d v H'):∃i,v=.int i/\After K (k i) E F H kk:=by
 have hd:=DR.un hd;unfold intD at q;split at q
 ·rename_i i e;rw[e]at hd;exact⟨i,hd.int,q⟩
 ·exact q.elim
theorem w_rg1:WkW K E (λvs _ H1 R=>match vs with |[.int j] => -(2 ^ 62)<=j/\j<2 ^ 62/\R (Itr 0 j.toNat) H1 |_=>False) rng1D:=by
 intro ds vs σ F1 H1 R x1 hv k1;unfold rng1D at k1;split at k1
 ·obtain⟨v,rfl,a⟩:=DRs.one hv
  obtain⟨i,rfl,k1⟩:=zfm_ k1 a;obtain⟨z,k1⟩:=k1.grd;exact⟨z.1,z.2,k1.ok x1 _ zlQ_⟩
 ·exact k1.elim
def enumD (ds:List D):Mo (List D):=match ds with
 |[d]=>(match d.un with
  |.nd .lst xs=>.ok ((enumL xs).map λq=>.nd .tup [.int q.1,q.2])|_=>.no)
 |_=>.no
theorem w_en:WkW K E (λvs _ H1 R=>∃a,vs=[.ref a]/\(∃xs,SqL K H1 a xs)/\R (Ite K a) H1) enumD:=by
 intro ds vs σ F1 H1 R x1 hv k1;unfold enumD at k1;split at k1
 ·rename_i d
  obtain⟨v,rfl,a⟩:=DRs.one hv;have a:=DR.un a;split at k1
  ·rename_i xs e;rw[e]at a;obtain⟨p,us,rfl,n,r⟩:=a.nd
   refine⟨p,rfl,⟨us,.of (x1 _ _ n)⟩,k1.ok x1 _ ⟨λi H x hH hx=>?_,λH hH=>?_⟩⟩
   ·rw[om,zef_]at hx
    rcases r.get i with⟨a,_⟩|⟨y,u,a,b,c⟩
    ·rw[a]at hx;cases hx
    ·rw[a]at hx;cases hx
     refine⟨⟨us,u,.of (hH _ _ n),b⟩,?_⟩;rintro v H' ⟨p2,w,z,dq,rfl,rfl⟩ F hF bY;have e:=z us (.of (hH _ _ n));rw[b]at e;cases e;have x:=Ext.new (o:=.tup [.int i,u]) bY dq;refine⟨_,x,?_⟩;show DR K _ _ _
     unfold DR;refine⟨p2,_,rfl,ze_,?_⟩;unfold DRs;refine⟨_,_,rfl,by unfold DR;rfl,?_⟩
     unfold DRs;exact⟨u,[],rfl,c.mono (hF.trans x.1),by unfold DRs;rfl⟩
   ·refine⟨us,.of (hH _ _ n),?_⟩
    rw[nN,zbu_,r.len];exact nZ _
  ·exact k1.elim
 ·exact k1.elim
structure Tg where
 tup:Bool
 is:List Nat
def tgD (g:Tg)(d:D):Option (List D):=if g.tup then(match d.un with |.nd .tup ds=>if ds.length=g.is.length then xg ds else xh |_=>xh)else if g.is.length=1 then xg [d]else xh
def tgS:List Nat->TGs
 |[]=>gNilM|i::is=>gConsM (gName i) (tgS is)
def tgT (K:oK)(g:Tg):TG:=if g.tup then gTupM K g.is.length (tgS g.is)else gName (g.is.headD 0)
def tyTg (K:oK)(g:Tg):Ty (List D):=⟨λds v F=>ds.length=g.is.length/\if g.tup then∃p us,v=.ref p/\F p=xg (.tup us)/\DRs K ds us F else DRs K ds [v] F,
 λ{ds v H H'} s q=>⟨q.1,by
  have q:=q.2;split at q
  ·rename_i e;rw[if_pos e];obtain⟨p,us,e1,e2,e3⟩:=q;exact⟨p,us,e1,s _ _ e2,e3.mono s⟩
  ·rename_i e;rw[if_neg e];exact q.mono s⟩⟩
def ssT (K:oK)(is:List Nat)(ds:List D):List (Nat×Sl):=is.zip (ds.map λd=>.fz (tyD K) d)
theorem zpH_:∀{is:List Nat}{ds:List D}{us:List V}{σ:L2.St}{F H:Hp}{Q:L2.St->Hp->Prop},ds.length=is.length->DRs K ds us F->(∀vs,Plain F (ssT K is ds) vs->Q (setS σ vs) H)->tgS is us σ H Q
 |[],[],us,σ,F,H,Q,_,r,q=>by unfold DRs at r;subst r;exact q [] .nil
 |i::is,d::ds,us,σ,F,H,Q,l,r,q=>by
  unfold DRs at r;obtain⟨v,vs,rfl,a,r⟩:=r;exact zpH_ (σ:=σ.set i (xg v)) (by simpa using l) r λws hw=>q ((i,xg v)::ws) (.cons a hw)
 |[],_::_,_,_,_,_,_,l,_,_=>by simp at l
 |_::_,[],_,_,_,_,_,l,_,_=>by simp at l
theorem tg_R (g:Tg):TgR K (tgT K g) (tyTg K g) (ssT K g.is):=by
 rintro ds v σ F H Q hs ⟨hl,hd⟩ q;unfold tgT;split at hd
 ·rename_i e;rw[if_pos e]
  obtain⟨p,us,rfl,hp,r⟩:=hd;exact⟨us,.of (hs _ _ hp),by rw[<- r.len,hl],zpH_ hl r q⟩
 ·rename_i e;rw[if_neg e]
  match h:g.is,ds,hl,hd,q with
  |[i],[d],_,hd,q=>
   obtain⟨_,e,a⟩:=DRs.one hd;cases e;exact q [(i,xg v)] (.cons a .nil)
  |[],ds,hl,hd,_=>rw[pb.mp hl]at hd;unfold DRs at hd;cases hd|_::_::_,d::e::ds,_,hd,_=>unfold DRs at hd;obtain⟨_,_,z,_,r⟩:=hd;cases z;unfold DRs at r;obtain⟨_,_,z,_⟩:=r;cases z
def tgsD (g:Tg):List D->Option (List (List D))
 |[]=>xg []|d::ds=>(tgD g d).bind λx=>(tgsD g ds).map λxs=>x::xs
theorem zpU_ {g:Tg}{x:List D}(e:tgD g d=xg x)(h:DR K d v F):(tyTg K g).R x v F:=by
 unfold tgD at e;split at e
 ·rename_i z
  have h:=DR.un h;split at e
  ·rename_i ds e2
   rw[e2]at h;obtain⟨p,us,rfl,n,r⟩:=h.nd;split at e
   ·rename_i l;cases e;exact⟨l,by rw[if_pos z];exact⟨p,us,rfl,n,r⟩⟩
   ·cases e
  ·cases e
 ·rename_i z
  split at e
  ·rename_i l;cases e;exact⟨l.symm,by rw[if_neg z];unfold DRs;exact⟨v,[],rfl,h,by unfold DRs;rfl⟩⟩
  ·cases e
theorem zdq_ {g:Tg}:∀{ds:List D}{xs:List (List D)},tgsD g ds=xg xs->xs.length=ds.length/\∀(i:Nat) x,xs[i]?=xg x->∃d,ds[i]?=xg d/\tgD g d=xg x
 |[],_,e=>by cases e;exact⟨rfl,λi x h=>by simp at h⟩
 |d::ds,_,e=>by
  unfold tgsD at e;obtain⟨x,e1,e⟩:=pA.mp e;obtain⟨xs,e2,rfl⟩:=oF.mp e;obtain⟨l,f⟩:=zdq_ e2;refine⟨by rw[n6,n6,l],λi y h=>?_⟩
  cases i with
  |zero=>simp at h;subst h;exact⟨d,rfl,e1⟩|succ i=>exact f i y (by simpa using h)
theorem ei_tg {wi:TI}{L:List Sl}{rs:Mo (List D)}(g:Tg)(h:EvI K wi E L rs (tyD K)):EvI K wi E L (rs.bind λl=>.opt (tgsD g l)) (tyTg K g):=by
 intro σ F H R hL hs q;refine h σ F H _ hL hs (q.bind.imp λds F1 H1 x1 k1 J Y=>?_)
 obtain⟨xs,e,k1⟩:=k1.opt;obtain⟨l,f⟩:=zdq_ e;refine k1.ok x1.2.1 J ⟨λi H x hH hx=>?_,λH hH=>by rw[l];exact Y.stop H hH⟩
 obtain⟨d,hd,e2⟩:=f i x hx;obtain⟨g1,z⟩:=Y.go i H d hH hd;refine⟨g1,λv H' q F hF bY=>?_⟩
 obtain⟨F',x',hv⟩:=z v H' q F hF bY;exact⟨F',x',zpU_ e2 hv⟩
def setE (env:Env):List Nat->List D->Env
 |i::is,d::ds=>setE (env.set i (xg d.vw)) is ds
 |_,_=>env
def cE (lv:List Str)(fr:List (Str×Nat))(env:Env):Env:=lv.map (λ_=>xh)++fr.map λq=>(env[q.2]?).join
theorem cL_eq {lv:List Str}{fr:List (Str×Nat)}:cL lv fr (Lof K env)=Lof K (cE lv fr env):=by
 unfold cL cE;show _=List.map (slot K) (_++_)
 rw[oG,pF,pF];congr 1;refine qz λq _=>?_
 simp only[Function.comp,om];cases env[q.2]? with
 |none=>rfl|some o=>rfl
def LeZ (L L':List Sl):Prop:=∀(i:Nat) s',L'[i]?=xg s'->∃s,L[i]?=xg s/\∀o F,s.Z o F->s'.Z o F
theorem LeZ.hold {L L':List Sl}{σ:L2.St}(z:LeZ L L')(h:HoldF L σ F):HoldF L' σ F:=λi s' e=>by
 obtain⟨s,e1,e2⟩:=z i s' e;exact e2 _ _ (h i s e1)
theorem zhH_:∀{is:List Nat}{ds:List D}{L:List Sl}{env:Env},LeZ L (Lof K env)->LeZ (setL L (ssT K is ds)) (Lof K (setE env is ds))
 |[],_,_,_,z=>z|_::_,[],_,_,z=>z|i::is,d::ds,L,env,z=>by
  refine zhH_ (is:=is) (ds:=ds) (L:=L.set i (.fz (tyD K) d)) (env:=env.set i (xg d.vw)) ?_;intro j s' e;rw[om,oY]at e;by_cases hj:i=j
  ·subst hj
   rw[if_pos rfl]at e;by_cases hl:i<env.length
   ·rw[if_pos hl]at e
    cases e;obtain⟨s,e1,_⟩:=z i _ (by rw[om,nU hl];rfl)
    refine⟨.fz (tyD K) d,by rw[pY (oA.mp e1).1],?_⟩
    rintro o F ⟨v,e2,hv⟩;refine⟨v,e2,?_⟩;show DR K d.vw v F
    unfold D.vw;split
    ·exact hv
    ·split
     ·exact hv
     ·unfold DR;exact hv
   ·rw[if_neg hl]at e;cases e
  ·rw[if_neg hj]at e
   obtain⟨s,e1,e2⟩:=z j s' (by rw[om];exact e)
   exact⟨s,by rw[pI hj];exact e1,e2⟩
theorem zjW_ {L:List Sl}:LeZ L L:=λi s e=>⟨s,e,λ_ _ h=>h⟩
theorem zpd_ (h:(owLO (owD K)).O ds v F h1):OD K (.nd .lst ds) v F h1:=by
 obtain⟨p,vs,h2,rfl,j,q⟩:=h;unfold OD;have go:∀{ds:List D}{vs:List V}{h:Hp},OwAll (owD K) F ds vs h->ODs K ds vs F h:=λ{ds}=>by
  induction ds with
  |nil=>intro vs h q;cases vs with |nil=>unfold ODs;exact⟨rfl,q⟩|cons=>exact q.elim
  |cons d ds ih=>intro vs h q;cases vs with |nil=>exact q.elim |cons v vs=>obtain⟨h1,h2,j,a,r⟩:=q;unfold ODs;exact⟨v,vs,h1,h2,rfl,j,a,ih r⟩
 exact⟨p,vs,_,h2,rfl,rfl,j,go q⟩
theorem zj9_ {lv:List Str}{fr:List (Str×Nat)}{wi:TI}{g:Tg}{tt:TT}{te:TE}{rs:Mo (List D)}{c:List D->Mo Bool}{f:List D->Mo D}(hi:EvI K wi E (Lof K env) rs (tyD K))(hg:∀i∈g.is,i<lv.length)
  (ht:∀a,EvT K tt E0 (Lof K (setE (cE lv fr env) g.is a)) (c a)) (he:∀a,EvX K te E0 (setE (cE lv fr env) g.is a) (f a)):
  EvX K (tComp lv fr wi (tgT K g) tt te) E env ((rs.bind λl=>.opt (tgsD g l)).bind λxs=>(compM (λx=>cond1 (c x) (f x)) xs []).bind λys=>.ok (.nd .lst ys)):=by
 have z:∀a,LeZ (setL (cL lv fr (Lof K env)) (ssT K g.is a)) (Lof K (setE (cE lv fr env) g.is a)):=λa=>zhH_ (by rw[cL_eq];exact zjW_)
 have dead:∀a,DeadAt (cL lv fr (Lof K env)) ((ssT K g.is a).map (·.1)):=λa i hi s e=>by
  have:i∈g.is:=by
   obtain⟨q,hq,rfl⟩:=pJ.mp hi;exact(qO hq).1
  have hl:=hg i this;unfold cL at e;rw[pG (by rw[nN];exact hl),om,nU hl]at e
  cases e;rfl
 have:=zjz_ (lv:=lv) (fr:=fr) (ei_tg g hi) (tg_R g) dead (λa σ F H Q hL hs q=>ht a σ F H Q ((z a).hold hL) hs q) (λa σ F H Q hL hs q=>he a σ F H Q ((z a).hold hL) hs q)
 intro σ F H Q hL hs q;refine this σ F H Q hL hs ?_;have e:∀(m:Mo (List (List D))),(m.bind λxs=>(compM (λx=>cond1 (c x) (f x)) xs []).bind λys=>.ok (D.nd .lst ys))=(m.bind λxs=>compM (λx=>cond1 (c x) (f x)) xs []).bind λys=>.ok (.nd .lst ys):=λm=>(Mo.bind_assoc _ _ _).symm
 rw[e]at q;exact q.bind.imp λys F1 H1 x1 k1 v k a_ dj s o=>k1.ok x1.2.1 v k a_ dj s (zpd_ o)
end
def rDGet:R2:=λx y H Q=>atR x y H λ_ kvs k=>∃v,valV kvs k=xg v/\Q v H
def rDIn (neg:Bool):R2:=λy x H Q=>atR x y H λ_ kvs k=>Q (.bl (if neg then !(valV kvs k).isSome else(valV kvs k).isSome)) H
def rIxA (K:oK):R2:=λx y H Q=>mIx K x y H Q\/rDGet x y H Q
def rInA (K:oK)(neg:Bool):R2:=λx y H Q=>mIn K neg x y H Q\/rDIn neg x y H Q
def mLenA (K:oK):List V->Hp->VK->Prop:=λvs H Q=>mLen K vs H Q\/mLenR vs H Q
section
variable {X:Cx}
theorem zjT_ (hu:X.A.units+60<cLine):IxR X rDGet:=by
 intro value slice pins s σ H x y v u Q I rx ry h hs;obtain⟨a,kvs,k,rfl,rfl,hd,w,hw,q⟩:=zmh_ h;obtain rfl:v=pB a:=rx;have g:DGet H a (kV k) (xg w):=by rw[<- hw];exact .inl ⟨kvs,k,hd,rfl,rfl⟩
 have hT:=zel_ I g;unfold subscriptTail;refine nJ ?_;rw[getitemInPython_of_ne hT.not_modules];refine nJ (wpAny_specialOf hT PySem.F.slot_dict_getitem.lookup ?_);have fin:oB (model X.prog X.w) X.A (subscripted slice xk (.ref a) u) (λr aw=>oB (model X.prog X.w) X.A (letTemporaryGo value (.ref a) r>>=λ_=>pure r) (EP X pins σ Q) X.xe aw) X.xe s:=by
  rw[hs];exact wpAny_operating (pN (zgE_ (Q:=EP X pins σ Q) (by lia) I g ry λw' s3 I3 bN=>⟨w,H,I3,bN,q⟩) (λr aw bQ=>nJ (wpAny_letTemporaryGo (nX bQ))) λ_ _ x=>x)
 first
  |exact nX (nJ fin)
  |exact nJ (nX (nJ fin))
  |exact nJ fin
theorem ix_A (hu:X.A.units+60<cLine):IxR X (rIxA X.K):=λvalue slice pins s σ H x y v u Q I rx ry h hs=>by
 rcases h with h |h
 ·exact ix_M value slice pins s σ H x y v u Q I rx ry h hs
 ·exact zjT_ hu value slice pins s σ H x y v u Q I rx ry h hs
theorem zpb_ (hu:X.A.units+60<cLine):OpR X (oQ .In) (rInA X.K xk):=λpins s σ H x y v u Q I rx ry h=>by
 rcases h with h |h
 ·exact zoc_ pins s σ H x y v u Q I rx ry h
 ·obtain⟨a,kvs,k,rfl,rfl,hd,q⟩:=zmh_ h
  cases ry;exact d_in (by lia) I (.inl ⟨kvs,k,hd,rfl,rfl⟩) rx λs3 I3=>⟨.bl (valV kvs k).isSome,H,I3,rfl,q⟩
theorem zhn_:CallR X (.builtin "len") (mLenA X.K):=λpins s σ H xs us Q I r h=>by
 rcases h with h |h
 ·exact zgg_ pins s σ H xs us Q I r h
 ·exact zgB_ pins s σ H xs us Q I r h
end
section
variable {K:pE}{E:XK}{F F' h h1 h2 H H':Hp}{d:D}{ds:List D}{v:V}{us vs:List V}{k:Nd}{p:nR}{Q:VK}{env:Env}{t:TE}{r r1 r2:Mo D}{ta:TA}{ra:Mo (List D)}{f:Fn}
def isDct (d:D):Bool:=match d.un with |.nd (.dct _) _=>xj |_=>xk
def ixA (a b:D):Mo D:=if isDct a then dgetD a b else ixD a b
theorem znb_:Op2D K rDGet E dgetD:=by
 intro a b x y F H Q hs ha hb q;have ha:=DR.un ha;unfold dgetD at q;split at q
 ·rename_i ks ds k e1 e2
  rw[e1]at ha;obtain⟨p,us,rfl,n,r⟩:=ha.nd;obtain⟨d,e,q⟩:=q.opt;obtain⟨d0,e',rfl⟩:=oF.mp e;rcases zpI_ (k:=k) (ks:=ks) r with⟨h1,h2⟩|⟨d',v',g1,g2,g3⟩
  ·rw[h1]at e';cases e'
  ·rw[g1]at e';cases e'
   exact zkm_ rfl (zmD_ e2 hb).1 (zcf_ hs n.1) ⟨v',g2,gotV q hs g3⟩
 ·exact q.elim
theorem zp2_:Op2D K (rIxA K) E ixA:=by
 intro a b x y F H Q hs ha hb q;unfold ixA at q;split at q
 ·exact .inr (znb_ a b x y F H Q hs ha hb q)
 ·exact .inl (od_ix a b x y F H Q hs ha hb q)
def inA (neg:Bool)(a b:D):Mo D:=if isDct b then dinD neg a b else inD neg a b
theorem zoZ_ {neg:Bool}:Op2D K (rDIn neg) E (dinD neg):=by
 intro a b x y F H Q hs ha hb q;have hb:=DR.un hb;unfold dinD at q;split at q
 ·rename_i ks ds k e1 e2
  rw[e1]at hb;obtain⟨p,us,rfl,n,r⟩:=hb.nd;refine zkm_ rfl (zmD_ e2 ha).1 (zcf_ hs n.1) ?_;have e:(valV (ks.zip us) k).isSome=(valD ks ds k).isSome:=by
   rcases zpI_ (k:=k) (ks:=ks) r with⟨h1,h2⟩|⟨d',v',g1,g2,g3⟩
   ·rw[h1,h2];rfl
   ·rw[g1,g2];rfl
  rw[e];exact gotB q hs
 ·exact q.elim
theorem zow_ {neg:Bool}:Op2D K (rInA K neg) E (inA neg):=by
 intro a b x y F H Q hs ha hb q;unfold inA at q;split at q
 ·exact .inr (zoZ_ a b x y F H Q hs ha hb q)
 ·exact .inl (od_in a b x y F H Q hs ha hb q)
def lenA (ds:List D):Mo D:=match ds with |[d]=>if isDct d then dlenD ds else lenD ds |_=>.no
theorem zmb_:BlD K (mLenA K) E lenA:=by
 intro ds vs F H Q hs hd q;unfold lenA at q;split at q
 ·split at q
  ·exact .inr (zni_ _ vs F H Q hs hd q)
  ·exact .inl (zpw_ _ vs F H Q hs hd q)
 ·exact q.elim
def makeD (f:Fn)(c:Str)(ds:List D):Mo D:=match f (.nd (.obj c []) []::ds.map .vw)with
 |.ok .non (o::_)=>.ok o|.ex x _=>.ex x|_=>.no
theorem zcA_ {p dx q:nR}{o:HO}:two p dx o q=if q=p then xg o else if q=dx then xg (.own p)else xh:=rfl
theorem zh3_:∀{ds es:List D}{vs us:List V}{F:Hp},DRs K ds vs F->DRs K es us F->DRs K (ds++es) (vs++us) F
 |[],_,_,_,_,h,g=>by unfold DRs at h;subst h;exact g
 |d::ds,_,_,_,_,h,g=>by unfold DRs at h;obtain⟨v,vs,rfl,a,r⟩:=h;rw[qa,qa];unfold DRs;exact⟨v,_,rfl,a,zh3_ r g⟩
theorem zoC_ {c:Str}{dv:List D}{ay:List V}(hx:EvAs K ta E env ra)(lA:∀F,DRs K dv ay F):EvX K (tMake (gA K c) (CtG K f) ay E ta) E env (ra.bind λds=>makeD f c (ds++dv)):=by
 intro σ F H Q hL hs q;refine zfq_ hx σ F H _ hL hs (q.bind.imp λds F1 H1 x1 k1 vs cA=>?_)
 intro x dx nx dW ne;have cA:=zh3_ cA (lA F1);have k1:=k1.imp λa F3 H3 x3 k3=>k3.back x1.2.2.1
 have sm:Same H1 (upd (upd H1 dx (.own x)) x (.ins (gA K c) dx [])):=(zC_ dW _).trans (zC_ (by rw[zm_ λz=>ne z.symm];exact nx) _)
 have eh:less (upd (upd H1 dx (.own x)) x (.ins (gA K c) dx [])) (two x dx (.ins (gA K c) dx []))=H1:=funext λp=>by
  unfold less;rw[zcA_];by_cases e:p=x
  ·subst e;rw[if_pos rfl];exact nx.symm
  ·rw[if_neg e]
   by_cases e2:p=dx
   ·subst e2;rw[if_pos rfl];exact dW.symm
   ·rw[if_neg e2,zm_ e,zm_ e2]
 refine⟨F1,two x dx (.ins (gA K c) dx []),.nd (.obj c []) []::(ds++dv).map .vw,x1.2.1.trans sm,λp=>?_,λp o z=>?_,?_,?_⟩
 ·rw[zcA_]
  by_cases e:p=x
  ·subst e;exact .inl (x1.2.1.free nx)
  ·rw[if_neg e]
   by_cases e2:p=dx
   ·subst e2;exact .inl (x1.2.1.free dW)
   ·rw[if_neg e2];exact .inr rfl
 ·rw[zcA_]at z
  by_cases e:p=x
  ·subst e;rw[if_pos rfl]at z;cases z;exact ze_
  ·rw[if_neg e]at z
   by_cases e2:p=dx
   ·subst e2;rw[if_pos rfl]at z;cases z;rw[zm_ e];exact ze_
   ·rw[if_neg e2]at z;cases z
 ·unfold ODs
  refine⟨.ref x,_,_,λ_=>xh,rfl,no_r _ λ_=>rfl,?_,ODs.vw (λ_=>rfl) cA⟩
  unfold OD;exact⟨x,[],_,λ_=>xh,rfl,⟨dx,ne,rfl,rfl⟩,no_r _ λ_=>rfl,by unfold ODs;exact⟨rfl,λ_=>rfl⟩⟩
 ·rw [eh]
  unfold makeD at k1;cases e:f (.nd (.obj c []) []::(ds++dv).map .vw)with
  |no=>rw[e]at k1;exact k1|ex x ds'=>rw[e]at k1;exact λF' h' H' ok _=>k1 F' H' ok.1|ok d ds'=>
   rw[e]at k1;intro v F' h' H' hr h2 ok j od os;split at k1
   ·rename_i o tl ee
    cases ee;refine⟨?_,?_⟩
    ·unfold OD at od;exact od.2.non
    ·unfold ODs at os
     obtain⟨w,ws,m1,m2,e3,jm,oo,_⟩:=os;cases e3;have s1:Same m1 h':=jm.l.trans j.r;refine k1 F' H' ok.1 (.ref x) m1 (λp z=>ok.2.2.2.1 p ?_) (dj_l (dj_r ok.2.1 j) jm) (s1.trans ok.2.2.1) oo
     cases y:m1 p with
     |none=>exact absurd y z|some w=>rw[s1 _ _ y];exact sN _
   ·rename_i ee;cases ee
   ·exact k1.elim
theorem zmO_ {c:Str}(hx:EvAs K ta E env ra):EvX K (tMake (gA K c) (CtG K f) [] E ta) E env (ra.bind (makeD f c)):=by
 have:=zoC_ (c:=c) (f:=f) (dv:=[]) hx λF=>by unfold DRs;rfl
 simpa only[pW]using this
theorem zhD_:∀ls:List (List Nat),DRs K (ls.map .str) (ls.map tx) F
 |[]=>by unfold DRs;rfl
 |l::ls=>by rw[nS,nS];unfold DRs;exact⟨_,_,rfl,by unfold DR;rfl,zhD_ ls⟩
def me1I (g:List Nat->Int->Mo D)(l:List Nat)(ds:List D):Mo D:=match ds with |[d]=>(match d.un with |.int c=>g l c |_=>.no)|_=>.no
abbrev zfillD:=me1I λl i=>.grd (PadOk i=xj) (.ok (.str (zfL l i)))
noncomputable def tnD:D->Option String
 |.int _=>xg "int" |.bl _=>xg "bool" |.str _=>xg "str" |.non=>xg "NoneType" |.nd .lst _=>xg "list" |.nd .tup _=>xg "tuple" |_=>xh
def isaD (n:String)(d:D):Mo D:=.opt (((tnD d.un).bind λT=>isaB T n).map .bl)
theorem tnD_S {T:String}(h:tnD d=xg T)(a:DR K d v F)(hs:Same F H):tyS K H v T:=by
 cases d with
 |int=>cases h;cases a.int;rfl|bl=>cases h;cases a.bl;rfl|str=>cases h;cases a.str;rfl|non=>cases h;cases a.non;rfl|nd k ds=>
  obtain⟨p,us,rfl,m,_⟩:=a.nd;cases k with
  |lst=>cases h;exact .inl ⟨rfl,us,hs _ _ m⟩|tup=>cases h;exact .inr ⟨rfl,us,hs _ _ m⟩|_=>cases h
 |_=>cases h
def mIsaV (K:oK):List V->Hp->VK->Prop:=λxs H Q=>∃x c T b,xs=[x,.ty c]/\tyS K H x T/\isaB T c=xg b/\Q (.bl b) H
theorem zgt_ {X:Cx}:CallR X (.builtin "isinstance") (mIsaV X.K):=by
 rintro pins s σ H xs us Q I r ⟨x,c,T,b,rfl,ht,eb,hq⟩;obtain⟨u,w',rfl,r1,r2⟩:=vals2 r;cases r2;exact zgx_ I r1 (zoP_ ht) (zky_ eb) λtk=>⟨.bl b,H,I.tok tk,rfl,hq⟩
theorem zpu_ (n:String)(hx:EvX K t E env r):EvX K (tCB (mIsaV K) (tCons t (tCons (tC (.ty n)) tNil))) E env (r.bind (isaD n)):=by
 intro σ F H Q hL hs q;refine ex_v hx σ F H _ hL hs (q.bind.imp λd F1 H1 x1 k1 v hv=>?_)
 have k1:=k1.imp λa F3 H3 x3 k3=>k3.back x1.2.2.1
 obtain⟨w,e,k1⟩:=k1.opt;obtain⟨b,e0,rfl⟩:=oF.mp e;obtain⟨T,e1,e2⟩:=pA.mp e0;exact⟨v,n,T,b,rfl,tnD_S e1 (DR.un hv) x1.2.1,e2,gotB k1 x1.2.1⟩
def blsD:List D->Option (List Bool)
 |[]=>xg []|d::ds=>match d.un,blsD ds with |.bl b,xg bs=>xg (b::bs)|_,_=>xh
theorem zkb_:∀{ds:List D}{us:List V}{bs:List Bool}{F:Hp},blsD ds=xg bs->DRs K ds us F->us=bs.map V.bl
 |[],us,bs,F,h,r=>by unfold DRs at r;subst r;cases h;rfl
 |d::ds,us,bs,F,h,r=>by
  unfold DRs at r;obtain⟨v,vs,rfl,a,r⟩:=r;unfold blsD at h;split at h
  ·rename_i b nj e1 e2
   cases h;have a:=DR.un a;rw[e1]at a;cases a.bl;rw[zkb_ e2 r];rfl
  ·cases h
def allD:List D->Mo D:=on1 λd=>match d with |.nd .lst ds=>(match blsD ds with |some bs=>.ok (.bl (bs.all id))|none=>.no)|_=>.no
theorem znz_:BlD K (mAll K) E allD:=zfy_ λd v F H Q hs hd q=>by
 split at q
 ·obtain⟨p,us,rfl,n,r⟩:=hd.nd
  split at q
  ·rename_i bs e
   refine⟨bs,?_,gotB q hs⟩;rw[<- zkb_ e r];exact .of (hs _ _ n)
  ·exact q.elim
 ·exact q.elim
theorem zlV_:EvX K tDNewK E env (.ok (.nd (.dct []) [])):=by
 intro σ F H Q hL hs q p hp;refine q F _ (.heap hs (zC_ hp _)) (.ref p) (one p (.dK [])) (λb z=>?_) (λb=>?_) (λb o z=>?_) ?_
 ·rw[zk_]at z;split at z
  ·rename_i e;rw[e];exact hp
  ·exact absurd rfl z
 ·rw[zk_];split
  ·rename_i e;rw[e];exact .inl (hs.free hp)
  ·exact .inr rfl
 ·rw[zk_]at z;split at z
  ·rename_i e;rw[e];cases z;exact ze_
  ·cases z
 ·show OD K _ _ _ _
  unfold OD;exact⟨p,[],_,λ_=>xh,rfl,⟨rfl,rfl,List.nodup_nil⟩,no_r _ λ_=>rfl,by unfold ODs;exact⟨rfl,λ_=>rfl⟩⟩
def zipD (ds:List D):Mo (List D):=match ds with
 |[d,e]=>(match d.un,e.un with
  |.nd .lst xs,.str l=>.ok ((xs.zip l).map λq=>.nd .tup [q.1,.str [q.2]])|_,_=>.no)
 |_=>.no
theorem w_zip:WkW K E (λvs _ H1 R=>match vs with
  |[.ref a,.str x]=>(∃xs,SqL K H1 a xs)/\R (ItzS K a x.cps.size (sgn x)) H1|_=>False) zipD:=by
 intro ds vs σ F1 H1 R x1 hv k1;unfold zipD at k1;split at k1
 ·obtain⟨v,v2,rfl,a,a2⟩:=DRs.two hv
  have a:=DR.un a;have a2:=DR.un a2;split at k1
  ·rename_i l1 l2 e1 e2
   rw[e1]at a;rw[e2]at a2;obtain⟨p,us,rfl,hp,hr⟩:=a.nd;cases a2.str;refine⟨⟨us,.of (x1 _ _ hp)⟩,k1.ok x1 _ ⟨λi H x hH hx=>?_,λH hH=>?_⟩⟩
   ·rw[om]at hx
    cases ez:(l1.zip l2)[i]? with
    |none=>rw[ez]at hx;cases hx|some q=>
    rw[ez]at hx;cases hx;obtain⟨cz,bG⟩:=rL.mp (show(l1.zip l2)[i]?=xg (q.1,q.2)from ez)
    rcases hr.get i with⟨a,_⟩|⟨y,u,a,b,c⟩
    ·rw[a]at cz;cases cz
    rw[a]at cz;injection cz with cz;have hi:=(oA.mp bG).1;refine⟨⟨us,u,.of (hH _ _ hp),b,hi⟩,?_⟩;rintro v H' ⟨p3,w,z,hp3,rfl,rfl⟩ F hF bY;have e:=z us (.of (hH _ _ hp));rw[b]at e;cases e;have x':=Ext.new (o:=.tup [u,L2.sgn ⟨l2.toArray⟩ i]) bY hp3;refine⟨_,x',?_⟩;show DR K _ _ _
    unfold DR;refine⟨p3,_,rfl,ze_,?_⟩;unfold DRs;refine⟨_,_,rfl,by rw[<- cz];exact DR.mono (hF.trans x'.1) c,?_⟩
    unfold DRs;refine⟨_,_,rfl,?_,by unfold DRs;rfl⟩
    unfold DR;have e3:(l2.toArray).getD i 0=q.2:=by rw[rB,uq,bG];rfl
    show V.str ⟨#[(l2.toArray).getD i 0]⟩=tx [q.2]
    rw[e3]
   ·refine⟨us,.of (hH _ _ hp),?_⟩
    rw[nN,qk,hr.len];show min us.length l2.length=us.length\/min us.length l2.length<us.length/\min us.length l2.length=l2.length
    lia
  ·exact k1.elim
 ·exact k1.elim
theorem newTp (q:After K (.ok (.nd .tup (ds.map .vw))) E F H (OwnK (owD K) H Q))(hs:Same F H)(hp:H p=xh)(r:DRs K ds us F):Q (.ref p) (upd H p (.tup us)):=by
 have x:=Ext.new (o:=.tup us) hs hp;refine q _ _ x (.ref p) (λ_=>xh) (λb z=>absurd rfl z) (λ_=>.inr rfl) (λb o z=>by cases z) ?_
 show OD K _ _ _ _
 unfold OD;exact⟨p,us,λ_=>xh,λ_=>xh,rfl,⟨ze_,λ_=>rfl⟩,no_r _ λ_=>rfl,ODs.vw (λ_=>rfl) (r.mono x.1)⟩
def mSlA (K:oK):V->Option Int->Option Int->Hp->VK->Prop:=λx lo hi H Q=>mSl K x lo hi H Q\/rSlT K x lo hi H Q
theorem sl_A {X:Cx}:SlR X (mSlA X.K):=SlR.or sl_M zn4_
def slA (a:D)(lo hi:Option Int):Mo D:=match a.un with
 |.nd .tup xs=>if HT.sIx xs.length 0 lo=0/\HT.sIx xs.length xs.length hi=xs.length then .no else .ok (.nd .tup ((cutG xs lo hi).map .vw))
 |_=>slD a lo hi
theorem zpD_ {tl th:TO}{rl rh:Mo (Option Int)}(h0:EvX K t E env r)(hl:EvP K tl E (Lof K env) rl)(hh:EvP K th E (Lof K env) rh):EvX K (tSl (mSlA K) t tl th) E env (r.bind λl=>rl.bind λa=>rh.bind λb=>slA l a b):=by
 intro σ F H Q hL hs q;refine ex_v h0 σ F H _ hL hs (q.bind.imp λl F1 H1 x1 k1 v hv=>?_)
 refine hl σ F1 H1 _ (hL.mono x1.1) x1.2.1 (k1.bind.imp λlo F2 H2 x2 k2=>?_)
 refine hh σ F2 H2 _ (hL.mono (x1.1.trans x2.1)) x2.2.1 (k2.bind.imp λhi F3 H3 x3 k3=>?_)
 have ha:=DR.un ((tyD K).mono (x2.1.trans x3.1) hv);have k3:=k3.imp λc F4 H4 x4 k4=>k4.back (x1.2.2.1.trans (x2.2.2.1.trans x3.2.2.1))
 unfold slA at k3;split at k3
 ·rename_i xs e;rw[e]at ha;obtain⟨p,us,rfl,n,r⟩:=ha.nd
  split at k3
  ·exact k3.elim
  ·rename_i hn
   exact .inr ⟨p,us,rfl,.of (x3.2.1 _ _ n),by rw[<- r.len];exact hn,λp hp=>newTp k3 x3.2.1 hp (r.cut lo hi)⟩
 ·refine .inl ?_
  unfold slD at k3;split at k3
  ·rename_i l e;rw[e]at ha;cases ha.str
   obtain⟨c,k3⟩:=k3.lim;exact⟨c,gotS k3 x3.2.1⟩
  ·rename_i e;rw[e]at ha;obtain⟨p,us,rfl,n,r⟩:=ha.nd
   exact⟨us,.of (x3.2.1 _ _ n),λp hp=>newL k3 x3.2.1 hp (r.cut lo hi)⟩
  ·rename_i e;rw[e]at ha;obtain⟨p,us,rfl,n,r⟩:=ha.nd
   exact⟨us,x3.2.1.seq n,λp hp=>newL k3 x3.2.1 hp (r.cut lo hi)⟩
  ·exact k3.elim
def mAddA (K:oK):R2:=λx y H Q=>mAdd x y H Q\/rCatT K x y H Q
theorem zmr_ {X:Cx}:OpR X (qy .Add) (mAddA X.K):=λpins s σ H x y v u Q I rx ry h=>by
 rcases h with h |h
 ·exact zkc_ pins s σ H x y v u Q I rx ry h
 ·exact zl2_ pins s σ H x y v u Q I rx ry h
def addA (a b:D):Mo D:=match a.un,b.un with
 |.nd .tup xs,.nd .tup ys=>if xs=[]\/ys=[]then .no else .lim (xs.length+ys.length) (.ok (.nd .tup ((xs++ys).map .vw)))
 |_,_=>addD a b
noncomputable instance (l:List D):Decidable (l=[]):=match l with |[]=>.isTrue rfl |_::_=>.isFalse λh=>by cases h
theorem zln_:Op2D K (mAddA K) E addA:=by
 intro a b x y F H Q hs ha hb q;unfold addA at q;split at q
 ·rename_i xs ys e1 e2
  have ha:=DR.un ha;have hb:=DR.un hb;rw[e1]at ha;rw[e2]at hb;obtain⟨p,us,rfl,n,r⟩:=ha.nd;obtain⟨p2,ws,rfl,n2,r2⟩:=hb.nd;split at q
  ·exact q.elim
  ·rename_i hn
   obtain⟨c,q⟩:=q.lim;have h1:us≠[]:=λz=>hn (.inl (pb.mp (by rw[r.len,z];rfl)))
   have h2:ws≠[]:=λz=>hn (.inr (pb.mp (by rw[r2.len,z];rfl)))
   exact .inr ⟨p,p2,us,ws,rfl,rfl,.of (hs _ _ n),.of (hs _ _ n2),h1,by rw[<- r.len,<- r2.len];exact c,λz=>absurd z h2,λ_ l hl=>newTp q hs hl (r.app r2)⟩
 ·exact .inl (zph_ a b x y F H Q hs ha hb q)
theorem zbw_:∀(ns:List Int) {H:Hp},DRs K (ns.map D.int) (ns.map V.int) H
 |[],_=>by unfold DRs;rfl
 |n::ns,H=>by rw[nS,nS];unfold DRs;exact⟨_,_,rfl,by unfold DR;rfl,zbw_ ns⟩
def lrD (a b:D):Mo D:=(intD a).bind λi=>(intD b).bind λj=>.grd (-50000<=i/\i<=50000 /\ -50000<=j/\j<=50000) (.ok (.nd .lst (((rngI i (j-i).toNat).map D.int).map .vw)))
theorem ex_lr {iQ iP:TE}{iY iX:Mo D}(h1:EvX K iQ E env iY)(h2:EvX K iP E env iX):EvX K (tCB (mList K) (tCons (tCB mRange (tCons iQ (tCons iP tNil))) tNil)) E env (iY.bind λx=>iX.bind λy=>lrD x y):=by
 intro σ F H Q hL hs q;refine ex_v h1 σ F H _ hL hs (q.bind.imp λa F1 H1 x1 k1 v hv=>?_)
 refine ex_v h2 σ F1 H1 _ (hL.mono x1.1) x1.2.1 (k1.bind.imp λb F2 H2 x2 k2 w hw=>?_)
 have k2:=k2.imp λc F4 H4 x4 k4=>k4.back (x1.2.2.1.trans x2.2.2.1)
 unfold lrD at k2;obtain⟨i,rfl,k2⟩:=zfm_ k2 ((tyD K).mono x2.1 hv);obtain⟨j,rfl,k2⟩:=zfm_ k2 hw;obtain⟨c,k2⟩:=k2.grd;intro p hp;have x:=Ext.new (o:=.rng i j) x2.2.1 hp;have e:intsV i j=(rngI i (j-i).toNat).map V.int:=by unfold intsV rngI;simp
 refine .inr ⟨i,j,ze_,c,λl hl=>?_⟩
 rw[e];refine newL (E:=E) (ds:=(rngI i (j-i).toNat).map D.int) (F:=upd F2 p (.rng i j)) (H:=upd H2 p (.rng i j)) (λF' H' y=>OwnK.back x.2.2.1 (k2 F' H' (x.trans y))) x.2.1 hl (zbw_ _)
def intsD:List D->Option (List Int)
 |[]=>xg []|d::ds=>match d.un,intsD ds with |.int i,xg is=>xg (i::is)|_,_=>xh
def keysI:List Key->Option (List Int)
 |[]=>xg []|.inl i::ks=>(keysI ks).map (i::·)|_=>xh
theorem zhQ_:∀{ds:List D}{us:List V}{is:List Int}{F:Hp},intsD ds=xg is->DRs K ds us F->Prs tyInt F is us
 |[],us,is,F,h,r=>by unfold DRs at r;subst r;cases h;exact .nil
 |d::ds,us,is,F,h,r=>by
  unfold DRs at r;obtain⟨v,vs,rfl,a,r⟩:=r;unfold intsD at h;split at h
  ·rename_i b nj e1 e2
   cases h;have a:=DR.un a;rw[e1]at a;exact .cons a.int (zhQ_ e2 r)
  ·cases h
def srtI (is:List Int):Mo D:=.grd (is.length<64) (.ok (.nd .lst ((srtL ltI is).map .int)))
def mListA (K:oK):List V->Hp->VK->Prop:=λxs H Q=>mList K xs H Q\/match xs with
 |[.ref p]=>∃kvs,Rd H p (.dK kvs)/\kvs.length<=oh/\∀l,H l=xh->Q (.ref l) (upd H l (.lst (kvs.map λq=>kV q.1)))|_=>False
theorem zmu_:∀(a:List (Key×V)) (b:List (Key×nI)) (i:Nat) q k' x,KV a b->a[i]?=xg q->b[i]?=xg (k',x)->q.1=k':=by
 intro a b i q k' x jB;unfold KV at jB;induction jB generalizing i with
 |nil=>intro e;simp at e
 |cons r t ih=>
  intro e1 e2;cases i with
  |zero=>simp at e1 e2;subst e1;have:=r.1;rw[e2]at this;exact this|succ i=>exact ih i (by simpa using e1) (by simpa using e2)
theorem zcC_:∀(ks:List (Key×V)) (us:List nI),ks.length=us.length->(∀(i:Nat) (q:Key×V) (u:nI),ks[i]?=xg q->us[i]?=xg u->RelV (kV q.1) u)->Vals (ks.map λq=>kV q.1) us
 |[],us,hl,_=>by cases us with |nil=>exact .nil |cons _ _=>simp at hl
 |q::ks,us,hl,hh=>by
  cases us with
  |nil=>simp at hl|cons u us=>exact .cons (hh 0 q u rfl rfl) (zcC_ ks us (by simpa using hl) λi q' u' e1 e2=>hh (i+1) q' u' (by simpa using e1) (by simpa using e2))
theorem zfW_ {X:Cx}(hc:X.calm=xj):CallR X (.type "list") (mListA X.K):=by
 intro pins s σ H xs us Q I r h;rcases h with h |h
 ·exact zdh_ hc pins s σ H xs us Q I r h
 ·split at h
  ·rename_i p
   obtain⟨kvs,hp,hl,q⟩:=h;obtain⟨u,rfl,rx⟩:=vals1 r;cases rx;obtain⟨z,hd,vs,rel,dd⟩:=zhO_ I.hok hp;obtain⟨ep,cT⟩:=dd.dictAt;have cD:kvs.length=vs.length:=rel.length;refine W.kdl_call (W.kdl_dict (knd:=mixKind X.prog X.w) (kvs:=vs) (ep:=ep) hd) (I.ok.hd hc) cT (by rw[<- cD];exact hl) λh' tk acc c kp ho aB=>?_
   refine⟨.ref s.heap.objs.size,_,I.laid (o:=.lst (kvs.map λq=>kV q.1)) (t':=tk) kp (nZ _) ⟨by rw[nN];exact hl,acc.toList,c,?_,by simpa using ho⟩,rfl,q _ (I.hok.fresh (nZ _))⟩
   have cF:acc.toList.length=kvs.length:=by rw[qi,cD];exact aB.1
   refine zcC_ kvs acc.toList cF.symm λi q u e1 e2=>?_
   obtain⟨k',x,ek,cj⟩:=aB.2 i u (by rw[<- ur];exact e2)
   rw[zmu_ kvs vs i q k' x rel e1 ek];exact is_kV cj
  ·exact h.elim
def kD:Key->D
 |.inl i=>.int i|.inr s=>.str s.cps.toList
theorem ze7_:∀(ks:List Key) (us:List V) {H:Hp},ks.length=us.length->DRs K (ks.map kD) ((ks.zip us).map λq=>kV q.1) H
 |[],us,_,_=>by unfold DRs;rfl
 |k::ks,[],_,hl=>by cases hl
 |k::ks,u::us,H,hl=>by
  rw[oZ,nS,nS];unfold DRs;refine⟨_,_,rfl,?_,ze7_ ks us (by simpa using hl)⟩
  cases k with
  |inl i=>unfold kD DR;rfl|inr s=>unfold kD DR;rfl
def listA:List D->Mo D:=on1 λd=>match d with
 |.nd .lst xs=>.ok (.nd .lst (xs.map .vw))|.nd .tup xs=>.ok (.nd .lst (xs.map .vw))|.nd .scr xs=>.ok (.nd .lst (xs.map .vw))|.nd (.dct ks) _=>.lim ks.length (.ok (.nd .lst ((ks.map kD).map .vw)))|_=>.no
theorem ziY_:BlD K (mListA K) E listA:=zfy_ λd v F H Q hs hd q=>by
 split at q
 ·obtain⟨p,us,rfl,n,r⟩:=hd.nd;exact .inl (.inl ⟨us,.inl (.of (hs _ _ n)),λl hl=>newL q hs hl r⟩)
 ·obtain⟨p,us,rfl,n,r⟩:=hd.nd;exact .inl (.inl ⟨us,.inr (.of (hs _ _ n)),λl hl=>newL q hs hl r⟩)
 ·obtain⟨p,us,rfl,n,r⟩:=hd.nd;exact .inl (.inl ⟨us,.inl (hs.seq n),λl hl=>newL q hs hl r⟩)
 ·obtain⟨p,us,rfl,n,r⟩:=hd.nd
  obtain⟨c,q⟩:=q.lim;refine .inr ⟨_,zcf_ hs n.1,by rw[qk,n.2.1,rm,<- n.2.1];exact c,λl hl=>newL q hs hl (ze7_ _ _ n.2.1)⟩
 ·exact q.elim
def mSortI (K:oK):List V->Hp->VK->Prop:=λxs H Q=>match xs with
 |[.ref p]=>∃ns:List Int,(SqL K H p (ns.map .int)\/∃kvs,Rd H p (.dK kvs)/\(kvs.map λq=>kV q.1)=ns.map .int)/\ns.length<64/\∀bc:List Int,bc.Perm ns->bc.Pairwise (·<=·)->∀l,H l=xh->Q (.ref l) (upd H l (.lst (bc.map .int)))|_=>False
theorem zcy_:∀{vs:List nI}{ns:List Int},IntsAre vs ns->Vals (ns.map .int) vs
 |_,_,.nil=>.nil|_,_,.cons _ _ h=>.cons ⟨_,rfl⟩ (zcy_ h)
theorem zaA_:∀{ns:List Int}{vs:List nI},Vals (ns.map .int) vs->IntsAre vs ns
 |[],_,r=>by cases r;exact .nil
 |n::ns,_,r=>by cases r with |cons a r=>obtain⟨t,rfl⟩:=a;exact .cons n t (zaA_ r)
theorem zf1_ {X:Cx}(hc:X.calm=xj):CallR X (.builtin "sorted") (mSortI X.K):=by
 intro pins s σ H xs us Q I r h;unfold mSortI at h;split at h
 rotate_left
 ·exact h.elim
 rename_i p
 obtain⟨ns,hp,h64,q⟩:=h;obtain⟨u,rfl,rx⟩:=vals1 r;cases rx;rcases hp with hp |⟨kvs,hp,hk⟩
 ·obtain⟨aa,rv,pl,hz⟩:=I.list hp
  have hn:=rv.length;rw[nN]at hn;refine sorted_ints pl.isList (zaA_ rv) (by lia) λout bc a1 a2 a3=>?_
  obtain⟨e,he⟩:=sortedAll_at s.heap aa out;exact⟨.ref (s.heap.objs.size+1),_,I.laid (o:=.lst (bc.map .int)) (t':=s.toks) (λ_ _=>sortedAll_old) (rE _) ⟨by rw[nN,a2.length_eq];exact zan_ (by lia),out.toList,e,zcy_ a1,by simpa using he⟩,rfl,q bc a2 a3 _ (I.hok.fresh (rE _))⟩
 ·obtain⟨z,hd,vs,rel,dd⟩:=zhO_ I.hok hp
  obtain⟨ep,cT⟩:=dd.dictAt;have cD:kvs.length=vs.length:=rel.length;have nG:kvs.length=ns.length:=by have:=congrArg pS hk;simpa using this
  refine Calls.call_function_entry kind_sorted plain_sorted entry_sorted (args_sorted1 _) ?_;unfold uA.«sorted»;refine nJ (m:=checkCount "sorted" 1 1 _) (nX ?_);refine nJ (ziW_ (W.kdl_dict (knd:=mixKind X.prog X.w) (kvs:=vs) (ep:=ep) hd) (I.ok.hd hc) cT (by rw[<- cD,sizeLine_eq];lia) λh1 tk acc hsz k1 aB=>?_)
  have cF:acc.toList.length=kvs.length:=by rw[qi,cD];exact aB.1
  have rv:Vals (ns.map .int) acc.toList:=by
   rw[<- hk];refine zcC_ kvs acc.toList cF.symm λi q u e1 e2=>?_
   obtain⟨k',x,ek,cj⟩:=aB.2 i u (by rw[<- ur];exact e2)
   rw[zmu_ kvs vs i q k' x rel e1 ek];exact is_kV cj
  refine nJ (wpAny_newList ?_ (by rw[sizeLine_eq];lia))
  have d_:(h1.push (seqObj "list" acc.toList.toArray 0)).get? h1.objs.size=xg (seqObj "list" acc.toList.toArray 0):=ox _ rfl;show oB _ _ _ _ _ {s with heap:=h1.push (seqObj "list" acc.toList.toArray 0),toks:=tk}
  refine nJ (wpAny_holding (wpAny_call_entry slot_list_sort ⟨_,d_,rfl⟩ entry_list_sort (list_sort_tree d_ (zaA_ rv) (by lia) λout bc a1 a2 a3=>⟨_,rfl,?_⟩) (args_list_sort _)))
  obtain⟨e,he⟩:=sortedHeap_at (out:=out) d_;have kp:∀b o,s.heap.get? b=xg o->(sortedHeap (h1.push (seqObj "list" acc.toList.toArray 0)) h1.objs.size acc.toList out).get? b=xg o:=λb o z=>by
   have hb:=ot (k1 b o z);rw[sortedHeap_old (oR hb) (by rw[size_push'];exact tB hb)]
   exact nQ _ (k1 b o z)
  exact nX ⟨_,rfl,.ref h1.objs.size,_,I.laid (o:=.lst (bc.map .int)) (t':=tk) kp (sQ hsz) ⟨by rw[nN,a2.length_eq];exact zan_ (by lia),out.toList,e,zcy_ a1,by simpa using he⟩,rfl,q bc a2 a3 _ (I.hok.fresh (sQ hsz))⟩
def sortI:List D->Mo D:=on1 λd=>match d with
 |.nd .lst ds=>(match intsD ds with |some is=>srtI is |none=>.no)|.nd (.dct ks) _=>(match keysI ks with |some is=>srtI is |none=>.no)|_=>.no
theorem zku_ {F:Hp}:∀{is:List Int}{us:List V},Prs tyInt F is us->us=is.map .int
 |_,_,.nil=>rfl|_,_,.cons a r=>by cases a;rw[nS,<- zku_ r]
theorem zhA_:∀{ks:List Key}{is:List Int}{us:List V},keysI ks=xg is->ks.length=us.length->((ks.zip us).map λq=>kV q.1)=is.map .int
 |[],is,us,h,e=>by cases h;rfl
 |.inl i::ks,is,[],h,e=>by cases e
 |.inl i::ks,is,u::us,h,e=>by
  unfold keysI at h;obtain⟨nA,h',rfl⟩:=oF.mp h;rw[oZ,nS,nS,zhA_ h' (by simpa using e)];rfl
 |.inr _::_,_,_,h,_=>by cases h
theorem zk5_ {ns bc:List Int}(p:bc.Perm ns)(s:bc.Pairwise (·<=·)):bc=srtL ltI ns:=zee_ zmp_ p (s.imp λ{a b} h=>by show decide _=xk;exact decide_eq_false (by lia))
theorem zhz_ (l:List Int):(l.map D.int).map D.vw=l.map D.int:=by rw[pF];rfl
theorem zjB_:BlD K (mSortI K) E sortI:=zfy_ λd v F H Q hs hd q=>by
 split at q
 ·obtain⟨p,us,rfl,n,r⟩:=hd.nd
  split at q
  rotate_left
  ·exact q.elim
  rename_i is e
  unfold srtI at q;obtain⟨c,q⟩:=q.grd;refine⟨is,.inl ?_,c,λbc hp cP l hl=>?_⟩
  ·rw[<- zku_ (zhQ_ e r)];exact .of (hs _ _ n)
  ·rw[zk5_ hp cP];exact newL (by rw[zhz_];exact q) hs hl (zbw_ _)
 ·obtain⟨p,us,rfl,n,r⟩:=hd.nd
  split at q
  rotate_left
  ·exact q.elim
  rename_i is e
  unfold srtI at q;obtain⟨c,q⟩:=q.grd;refine⟨is,.inr ⟨_,zcf_ hs n.1,zhA_ e n.2.1⟩,c,λbc hp cP l hl=>?_⟩
  rw[zk5_ hp cP];exact newL (by rw[zhz_];exact q) hs hl (zbw_ _)
 ·exact q.elim
end
section
variable {K:pE}{E:XK}{F H:Hp}{env:Env}
def taP:List (TE×TE)->TA
 |[]=>tNil|(k,v)::r=>tCons k (tCons v (taP r))
def prU:List V->List (V×V)
 |k::v::r=>(k,v)::prU r
 |_=>[]
theorem tp_eq:∀(trs:List (TE×TE)) (σ:L2.St) (H:Hp) (Q:List (V×V)->Hp->Prop),taP trs σ H (λvs H'=>Q (prU vs) H')=tPairs trs σ H Q
 |[],_,_,_=>rfl|(k,v)::r,σ,H,Q=>congrArg (k σ H) (funext λx=>funext λH1=>congrArg (v σ H1) (funext λy=>funext λH2=>tp_eq r σ H2 λps H3=>Q ((x,y)::ps) H3))
def prD:List D->Option (List Key×List D)
 |[]=>xg ([],[])|[_]=>xh|k::d::r=>(keyD k).bind λk=>(prD r).map λq=>(k::q.1,d::q.2)
def dspD (ds:List D):Mo D:=(Mo.opt (prD ds)).bind λq=>.grd (q.1.Nodup/\q.1.length<=15) (.ok (.nd (.dct q.1) q.2))
theorem zpJ_ {d:D}{v:V}{h:Hp}{k:Key}(e:keyD d=xg k)(o:OD K d v F h):(∀p,h p=xh)/\v=kV k:=by
 cases d with
 |nd=>cases e|_=>unfold OD at o;exact⟨o.1,(zmD_ e o.2).2⟩
theorem zlf_:∀{ds:List D}{vs:List V}{h:Hp}{ks:List Key}{es:List D},prD ds=xg (ks,es)->ODs K ds vs F h->∃us,prU vs=(ks.zip us).map (λkv=>(kV kv.1,kv.2))/\ks.length=us.length/\ODs K es us F h
 |[],vs,h,ks,es,e,o=>by
  cases e;have o':=o;unfold ODs at o';rw[o'.1]at o ⊢;exact⟨[],rfl,rfl,o⟩
 |[_],_,_,_,_,e,_=>by cases e
 |k::d::r,vs,h,ks,es,e,o=>by
  unfold prD at e;obtain⟨k',e1,e⟩:=pA.mp e;obtain⟨q,e2,e3⟩:=oF.mp e;cases e3;unfold ODs at o;obtain⟨v,vs,h1,h2,rfl,j,ok,o⟩:=o;obtain⟨n1,rfl⟩:=zpJ_ e1 ok;cases jn_no (zR_ j) n1;unfold ODs at o;obtain⟨v,vs,m1,m2,rfl,jm,od,o⟩:=o;obtain⟨us,p1,p2,p3⟩:=zlf_ (ks:=q.1) (es:=q.2) e2 o;refine⟨v::us,?_,by simpa using p2,?_⟩
  ·show(_,_)::prU vs=_
   rw[p1];rfl
  ·unfold ODs;exact⟨v,us,m1,m2,rfl,jm,od,p3⟩
theorem zfO_:∀(kvs acc:List (Key×V)),((acc++kvs).map (·.1)).Nodup->mergeK acc kvs=acc++kvs
 |[],acc,_=>by rw[pW];rfl
 |(k,v)::r,acc,h=>by
  show mergeK (putK acc k v) r=_
  have hk:(acc.any λkv=>decide (kv.1=k))=xk:=by
   rw[uJ];intro x hx z;rw[oG,uN]at h;exact h.2.2 _ (List.mem_map_of_mem hx) k (by simp) (of_decide_eq_true z)
  have e:putK acc k v=acc++[(k,v)]:=by unfold putK;rw[hk];rfl
  rw[e,zfO_ r (acc++[(k,v)]) (by rw[pD];exact h),pD];rfl
theorem zhJ_ {trs:List (TE×TE)}{ra:Mo (List D)}(h:EvAs K (taP trs) E env ra):EvX K (tDisp trs) E env (ra.bind dspD):=by
 intro σ F H Q hL hs q p hp;have sn:=zC_ (H:=H) hp (.dK []);have x0:Ext F H F (upd H p (.dK [])):=.heap hs sn;rw[<- tp_eq];refine h σ F (upd H p (.dK [])) _ hL x0.2.1 ?_;cases e:ra with
 |no=>rw[e]at q;exact q|ex c=>rw[e]at q;exact λF' H' x=>(q F' H' (x0.trans x)).up x0.2.2.1|ok ds=>
  rw[e]at q;have q:After K (dspD ds) E F H (OwnK (owD K) H Q):=q;unfold dspD at q;cases e2:prD ds with
  |none=>rw[e2]at q;exact q.elim|some r=>
   obtain⟨ks,es⟩:=r;rw[e2]at q;obtain⟨⟨nd,iw⟩,q⟩:=After.grd (show After K (.grd (ks.Nodup/\ks.length<=15) (.ok (D.nd (.dct ks) es))) E F H (OwnK (owD K) H Q)from q)
   intro F2 H2 x2 vs k a_ dQ s1 o1;obtain⟨us,p1,p2,o2⟩:=zlf_ e2 o1;have dq:H2 p=xg (.dK []):=x2.2.2.1 _ _ ze_;have hF:F p=xh:=hs.free hp;have jE:F2 p=xh:=by
    cases y:F2 p with
    |none=>rfl|some o'=>
     have:=x2.2.2.2 p hF (by rw[y];exact sN _)
     rw[ze_]at this;cases this
   have nk:k p=xh:=by
    cases z:k p with
    |none=>rfl|some o=>have:=a_ p (by rw[z];exact sN _);rw[ze_]at this;cases this
   refine⟨dq,ks.zip us,p1,by rw[qk,<- p2,rm];exact iw,?_⟩
   have em:((ks.zip us).map (·.1))=ks:=List.map_fst_zip (by lia)
   rw[zfO_ _ [] (by rw[qP,em];exact nd),qP]
   have ne:∀{G:Hp}{b:nR}{o:HO},G p=xh->G b=xg o->b≠p:=λg z e=>by rw[e,g]at z;cases z
   have xx:Ext F H F2 (upd H2 p (.dK (ks.zip us))):=⟨x2.1,λb o z=>by rw[zm_ (ne jE z)];exact x2.2.1 _ _ z,λb o z=>by rw[zm_ (ne hp z)];exact x2.2.2.1 _ _ (sn _ _ z),λb a1 a2=>sn.free (x2.2.2.2 b a1 a2)⟩
   have d1:Dj (one p (.dK (ks.zip us))) k:=λq=>by
    rw[zk_];split
    ·rename_i e;rw[e];exact .inr nk
    ·exact .inl rfl
   refine q F2 _ xx (.ref p) (un (one p (.dK (ks.zip us))) k) (λq z=>?_) (λq=>?_) (λq o z=>?_) ?_
   ·unfold un at z;rw[zk_]at z
    by_cases e:q=p
    ·subst e;exact hp
    ·rw[if_neg e]at z;exact sn.free (a_ q z)
   ·unfold un;rw[zk_]
    by_cases e:q=p
    ·subst e;exact .inl jE
    ·rw[if_neg e];exact dQ q
   ·unfold un at z;rw[zk_]at z
    by_cases e:q=p
    ·subst e;rw[if_pos rfl]at z;cases z;exact ze_
    ·rw[if_neg e]at z;rw[zm_ e];exact s1 _ _ z
   ·show OD K _ _ _ _
    unfold OD;exact⟨p,us,_,k,rfl,⟨rfl,p2,nd⟩,zcF_ d1,o2⟩
end
section
variable {K:pE}{E:XK}{env:Env}{t:TE}{r:Mo D}
def clW (K:oK)(q:String×Bool):nI:=if q.2 then .ref (gA K q.1)else .type q.1
def clV (K:oK)(q:String×Bool):V:=if q.2 then .ref (gA K q.1)else .ty q.1
theorem clV_W (q:String×Bool):clsV (clV K q)=xg (clW K q)/\∀u,RelV (clV K q) u->u=clW K q:=by
 unfold clV clW;split
 ·exact⟨rfl,λu h=>h⟩
 ·exact⟨rfl,λu h=>h⟩
def isaKA (K:oK)(D:nR)(cs:List nI):Option Bool:=if(isaK K D (.ref D)).isSome then W.kitAny K (.ref D) cs else xh
theorem zmG_ {D:nR}{c:nI}{b:Bool}(h:isaK K D c=xg b):isaKA K D []=xg xk:=by
 have:(isaK K D (.ref D)).isSome=xj:=by
  unfold isaK at h ⊢;split at h
  ·rename_i g;rw[if_pos g];unfold uK;rw[if_pos (beq_self_eq_true _)];rfl
  ·cases h
 unfold isaKA;rw[if_pos this];rfl
theorem zbk_ {D:nR}{c:nI}{cs:List nI}{b b':Bool}(h:isaK K D c=xg b)(r:isaKA K D cs=xg b'):isaKA K D (c::cs)=xg (b ||b'):=by
 unfold isaKA at r ⊢;split at r
 ·rename_i g
  rw[if_pos g];unfold isaK at h;split at h
  ·rw[W.kitAny,h];cases b<;>first |rfl |exact r
  ·cases h
 ·cases r
def mIsaXT (K:oK)(ns:List (String×Bool)):List V->Hp->VK->Prop:=λxs H Q=>match xs with
 |[.ref p,.ref tp]=>∃D d b,H p=xg (XO p D d)/\H tp=xg (.tup (ns.map (clV K)))/\isaKA K D (ns.map (clW K))=xg b/\Q (.bl b) H|_=>False
theorem zh2_:∀{ns:List (String×Bool)}{aa:List nI},Vals (ns.map (clV K)) aa->aa=ns.map (clW K)
 |[],_,.nil=>rfl|q::ns,_,.cons a b=>by rw[nS,zh2_ b,(clV_W q).2 _ a]
theorem zf8_ {X:Cx}(ns:List (String×Bool)):CallR X (.builtin "isinstance") (mIsaXT X.K ns):=by
 intro pins s σ H xs us Q I r h;unfold mIsaXT at h;split at h
 ·rename_i p tp
  obtain⟨D,d,b,hp,ht,hk,q⟩:=h;obtain⟨u,z,rfl,r1,r2⟩:=vals2 r;obtain rfl:u=.ref p:=r1;obtain rfl:z=.ref tp:=r2;unfold isaKA at hk;split at hk
  case isFalse=>cases hk
  case isTrue g0=>
   obtain⟨b0,hb0⟩:=qt.mp g0;unfold isaK at hb0;split at hb0
   case isFalse=>cases hb0
   case isTrue g=>
    rw[aW,aW,aW,aW,aW,aW,aW]at g;obtain⟨⟨⟨⟨⟨⟨⟨g1,g7⟩,g8⟩,g2⟩,g3⟩,g4⟩,g5⟩,g6⟩:=g;obtain⟨hx,_,_⟩:=I.hok p _ hp;obtain⟨aa,rv,⟨o,ho,hc,n,hd⟩,_⟩:=I.tuple (.of ht);have e:=zh2_ rv;subst e;obtain⟨cl,dd,dt,sl⟩:=o;cases hc;cases hd;exact W.kia_tup (LX.kitx_x (beq_iff_eq.mp g1) (beq_iff_eq.mp g7) (beq_iff_eq.mp g8) g2 (beq_iff_eq.mp g3) (beq_iff_eq.mp g4) (beq_iff_eq.mp g5) (beq_iff_eq.mp g6)) I.kIn hx ho hk (λz=>by cases z) λtk=>⟨.bl b,H,I.tok tk,rfl,q⟩
 ·exact h.elim
def tCsts:List V->TA
 |[]=>tNil|v::vs=>tCons (tC v) (tCsts vs)
def mIsx (K:oK)(ns:List (String×Bool))(v:V):TE:=match ns with
 |[c]=>tCB (mIsaX K) (tCons (tC v) (tCons (tC (clV K c)) tNil))|ns=>tCB (mIsaXT K ns) (tCons (tC v) (tCons (tTup (tCsts (ns.map (clV K)))) tNil))
def tIsx (K:oK)(ns:List (String×Bool))(t:TE):TE:=λσ H Q=>t σ H λv H1=>mIsx K ns v σ H1 Q
def isxD (tb:List (String×Bool))(d:D):Mo D:=.opt (match d.un with |.nd (.exc c) _=>(tb.lookup c).map .bl |_=>xh)
def IxOk (K:oK)(ns:List (String×Bool))(tb:List (String×Bool)):Prop:=∀p∈tb,(match ns with |[c]=>isaK K (gA K p.1) (clW K c)|ns=>isaKA K (gA K p.1) (ns.map (clW K)))=xg p.2/\ns.length<=1000
theorem zfD_:∀(vs:List V) {σ:L2.St}{H:Hp}{Q:List V->Hp->Prop},Q vs H->tCsts vs σ H Q
 |[],_,_,_,q=>q|v::vs,σ,H,Q,q=>zfD_ vs (Q:=λxs H2=>Q (v::xs) H2) q
theorem zp9_ {ns:List (String×Bool)}{tb:List (String×Bool)}(h0:IxOk K ns tb)(hx:EvX K t E env r):EvX K (tIsx K ns t) E env (r.bind (isxD tb)):=by
 intro σ F H Q hL hs q;refine ex_v hx σ F H _ hL hs (q.bind.imp λd F1 H1 x1 k1 v hv=>?_)
 have k1:=k1.imp λa F3 H3 x3 k3=>k3.back x1.2.2.1
 obtain⟨w,e,k1⟩:=k1.opt;have hv:=DR.un hv;split at e
 rotate_left
 ·cases e
 rename_i c ds ed
 obtain⟨b,eb,rfl⟩:=oF.mp e;rw[ed]at hv;obtain⟨p,us,rfl,⟨_,dd,hp⟩,_⟩:=hv.nd;have hp:=x1.2.1 _ _ hp;obtain⟨hb,hn⟩:=h0 (c,b) (zbY_ eb);have q:∀H2,Same H1 H2->Q (.bl b) H2:=λH2 s=>by
  have y:Ext F1 H1 F1 H2:=.heap x1.2.1 s;exact gotB (After.imp (show After K (.ok (.bl b)) E F1 H2 (OwnK (owD K) H1 Q)from λF' H' z=>k1 F' H' (y.trans z)) λa F3 H3 x3 k3=>k3.back y.2.2.1) y.2.1
 unfold mIsx
 match ns,hb,hn with
 |[c],hb,_=>exact⟨_,dd,clW K c,b,hp,(clV_W c).1,hb,q _ λ_ _ z=>z⟩|[],hb,hn=>
  show tCsts [] σ H1 (λxs fT=>xs.length<=oh/\∀l,fT l=xh->mIsaXT K [] [.ref p,.ref l] (upd fT l (.tup xs)) Q)
  exact zfD_ [] ⟨zan_ (by simp),λl hl=>⟨_,dd,b,zC_ hl _ _ _ hp,ze_,hb,q _ (zC_ hl _)⟩⟩
 |a::c::ns,hb,hn=>
  show tCsts ((a::c::ns).map (clV K)) σ H1 (λxs fT=>xs.length<=oh/\∀l,fT l=xh->mIsaXT K (a::c::ns) [.ref p,.ref l] (upd fT l (.tup xs)) Q)
  exact zfD_ ((a::c::ns).map (clV K)) ⟨zan_ (by rw[nN];lia),λl hl=>⟨_,dd,b,zC_ hl _ _ _ hp,ze_,hb,q _ (zC_ hl _)⟩⟩
theorem zlA_ {X:Cx}{elts:List oq}{kk:Nat}{cX:Pos}{a b:oq}{ta:TA}{p pos:Pos}(hm:Gb X.mg "zip")(ha:PA X [a,b] ta)(hg:Gl X "zip")(hs:oN [a,b] X.env=[(xk,eval a X.env),(xk,eval b X.env)])(aY:oN [b] X.env=[(xk,eval b X.env)]):
  PI X (.Tuple elts kk cX) (.Call (.Name "zip" p) [a,b] [] pos) (λσ H R=>ta σ H λvs H1=>match vs with
   |[.ref a,.str x]=>(∃xs,SqL X.K H1 a xs)/\R (ItzS X.K a x.cps.size (sgn x)) H1|_=>False):=by
 intro pins s σ H R I h;refine Call_ (zes_ I hg hm (u:=.type "zip") (by rfl) (qB (thn (ha pos pins s σ H _ I h) λus s1 af=>?_) (by rw[hs,aY]) (by rw[aY];rfl)))
 obtain⟨vs,H1,I1,r1,q1⟩:=af
 try dsimp only at q1
 have lo:∀b∈[s1.heap.objs.size+4,s1.heap.objs.size+2,s1.heap.objs.size+3,s1.heap.objs.size,s1.heap.objs.size+1],s1.heap.objs.size<=b:=λb hb=>by
  simp only[og,pZ,or_false]at hb;rcases hb with rfl |rfl |rfl |rfl |rfl<;>first |exact Nat.le_add_right _ _ |exact nZ _
 split at q1
 ·rename_i l x
  obtain⟨⟨xs,hq⟩,q⟩:=q1;obtain⟨w1,w2,rfl,r,r'⟩:=vals2 r1;cases r;obtain⟨t,rfl⟩:=r';obtain⟨aa,rv,p1,hz⟩:=I1.list hq;refine zma_ p1.isList λh' jd bX cn h1 h2 hk=>?_
  refine wpAny_pyIter_zip (s:={s1 with heap:=h'}) jd ?_;have I2:Inv X pins σ H1 {s1 with heap:=h'}:=I1.kept (t':=s1.toks) hk;have la:l<s1.heap.objs.size:=by obtain⟨o,e,_⟩:=p1.isList;exact ot e
  refine⟨s1.heap.objs.size+4,[s1.heap.objs.size+4,s1.heap.objs.size+2,s1.heap.objs.size+3,s1.heap.objs.size,s1.heap.objs.size+1],_,_,H1,rfl,I2,zgA_ _ _ _ _ _ l x t (ziO_ la) (oR la),⟨jd,bX,⟨_,_,cn⟩,h1,h2⟩,λb hb=>?_,q⟩
  exact I1.fpOk (lo b hb) (I1.hok.fresh (lo b hb))
 ·exact q1.elim
end
structure Gi where
 cs:List Str
 kt:List (Str×List (List Nat)):=[]
 ex:List Str:=[]
 ix:List (List (String×Bool)×List (String×Bool)):=[]
 ct:List (String×List (String×Bool)):=[]
structure Gi.Ok (G:Gi)(K:oK):Prop where
 cs:G.cs≠[]
 kt:∀q∈G.kt,SqU K (gA K q.1) (q.2.map tx)
 ix:∀q∈G.ix,IxOk K q.1 q.2
 ct:∀q∈G.ct,CatT K q.1 q.2
inductive Bo where
 |add |sub |mul |mod |div |lt |le |gt |eq |ne |is |isn |inn |ix
inductive Bf where
 |len |list |min |all |sorted
inductive Sm where
 |zfill
inductive Ik where
 |any |r1 |en |zip
inductive X where
 |v (i:Nat)|k (d:D)|g (x:Str) (d:D)
 |gt (x:Str) (ls:List (List Nat))
 |bin (o:Bo) (a b:X)|ch (o o':Bo) (a b c:X)
 |and (a b:X)|or (a b:X)|not (a:X)|neg (a:X)|ifx (c a b:X)
 |sl (a:X) (lo hi:Option X)
 |tup (as:List X)|lst (as:List X)
 |fld (a:X) (f:Str)
 |call (f:Fn) (x:Str) (as:List X)
 |bf (o:Bf) (as:List X)
 |comp (lv:List Str) (fr:List (Str×Nat)) (ik:Ik) (src:List X) (tg:Tg) (c:Option X) (e:X)
 |make (f:Fn) (c:Str) (as:List X)
 |lr (a b:X)
 |ds2 (k v l w:X)|ds3 (k v l w m u:X)
 |isx (a:X) (ns tb:List (String×Bool))
 |isa (a:X) (n:String)|dct0 |ch3 (o o' aI:Bo) (a b c d:X)
def Bo.r (K:oK):Bo->R2
 |.add=>mAddA K |.sub=>mSub |.mul=>mMulX |.mod=>mMod |.div=>mDivG
 |.lt=>mLt |.le=>mLe |.gt=>mGt |.eq=>mEqA K |.ne=>mNeA K |.is=>mIs |.isn=>mIsNot
 |.inn=>rInA K xk |.ix=>rIxA K
def Bo.f:Bo->D->D->Mo D
 |.add=>addA |.sub=>subD |.mul=>mulD |.mod=>modD |.div=>divD
 |.lt=>ltD |.le=>leD |.gt=>gtD |.eq=>eqD xk |.ne=>eqD xj |.is=>isD xk |.isn=>isD xj
 |.inn=>inA xk |.ix=>ixA
def Bf.r (K:oK):Bf->List V->Hp->VK->Prop
 |.len=>mLenA K |.list=>mListA K |.min=>mTwo Min.min |.all=>mAll K |.sorted=>mSortI K
def Bf.f:Bf->List D->Mo D
 |.len=>lenA |.list=>listA |.min=>minD |.all=>allD |.sorted=>sortI
def Sm.r (K:oK):Sm->V->List V->Hp->VK->Prop
 |.zfill=>mZfill
def Sm.f:Sm->List Nat->List D->Mo D
 |.zfill=>zfillD
def Ik.w (K:oK):Ik->List V->L2.St->Hp->(It->Hp->Prop)->Prop
 |.any=>iAnyW K|.r1=>λvs _ H1 R=>match vs with |[.int j] => -(2 ^ 62)<=j/\j<2 ^ 62/\R (Itr 0 j.toNat) H1 |_=>False
 |.en=>λvs _ H1 R=>∃a,vs=[.ref a]/\(∃xs,SqL K H1 a xs)/\R (Ite K a) H1|.zip=>λvs _ H1 R=>match vs with
  |[.ref a,.str x]=>(∃xs,SqL K H1 a xs)/\R (ItzS K a x.cps.size (sgn x)) H1|_=>False
def Ik.t (K:oK)(o:Ik)(ta:TA):TI:=λσ H R=>ta σ H λvs H1=>o.w K vs σ H1 R
def Ik.f:Ik->List D->Mo (List D)
 |.any=>walkA |.r1=>rng1D |.en=>enumD |.zip=>zipD
theorem ik_w {K:oK}{E:XK}(o:Ik):WkW K E (o.w K) o.f:=by
 cases o with
 |any=>exact w_any|r1=>exact w_rg1|en=>exact w_en|zip=>exact w_zip
theorem ik_ok {K:oK}{E:XK}{env:Env}{ta:TA}{ra:Mo (List D)}(o:Ik)(h:EvAs K ta E env ra):EvI K (o.t K ta) E (Lof K env) (ra.bind o.f) (tyD K):=ei_w (ik_w o) h
section
variable (K:pE)(G:Gi)
mutual
def X.den:XK->X->TE
 |_,.v i=>mVar i|_,.k d=>tC (d.flat?.getD .non)|_,.g _ d=>tC (d.flat?.getD .non)|_,.gt x _=>tC (.ref (gA K x))|E,.bin o a b=>tOp (o.r K) (a.den E) (b.den E)|E,.ch o o' a b c=>mChain (o.r K) (o'.r K) (a.den E) (b.den E) (c.den E)|E,.and a b=>mAndV (a.den E) (b.den E)|E,.or a b=>mOrV (a.den E) (b.den E)|E,.not a=>mNotV (a.den E)|E,.neg a=>mNeg (a.den E)|E,.ifx c a b=>mIf (mTest (c.den E)) (a.den E) (b.den E)|E,.sl a lo hi=>tSl (mSlA K) (a.den E) (X.denO E lo) (X.denO E hi)|E,.tup as=>tTup (X.dens E as)|E,.lst as=>tLst (X.dens E as)|E,.fld a f=>tFld K G.cs (a.den E) f|E,.call f _ as=>tCall (CtG K f) [] E (X.dens E as)|E,.bf o as=>tCB (o.r K) (X.dens E as)|E,.comp lv fr ik src tg c e=>tComp lv fr (ik.t K (X.dens E src)) (tgT K tg) (X.denT E0 c) (e.den E0)|E,.make f c as=>tMake (gA K c) (CtG K f) [] E (X.dens E as)|E,.lr a b=>tCB (mList K) (tCons (tCB mRange (tCons (a.den E) (tCons (b.den E) tNil))) tNil)|E,.ds2 a0 b0 c0 d0=>tDisp [(a0.den E,b0.den E),(c0.den E,d0.den E)]|E,.ds3 a0 b0 c0 d0 e0 f0=>tDisp [(a0.den E,b0.den E),(c0.den E,d0.den E),(e0.den E,f0.den E)]|E,.isx a ns _=>tIsx K ns (a.den E)|E,.isa a n=>tCB (mIsaV K) (tCons (a.den E) (tCons (tC (.ty n)) tNil))|_,.dct0=>tDNewK|E,.ch3 o o' aI a b c d=>mChain3 (o.r K) (o'.r K) (aI.r K) (a.den E) (b.den E) (c.den E) (d.den E)
def X.dens:XK->List X->TA
 |_,[]=>tNil|E,a::as=>tCons (a.den E) (X.dens E as)
def X.denO:XK->Option X->TO
 |_,xh=>tNoPart|E,xg a=>mPart (a.den E)
def X.denT:XK->Option X->TT
 |_,xh=>tTrue|E,xg a=>mTest (a.den E)
end
end
def chD (o o':Bo)(x y:D)(r:Mo D):Mo D:=(o.f x y).bind λz=>(blD z).bind λb=>if b then r.bind λw=>o'.f y w else .ok (.bl xk)
def ch3D (o o' aI:Bo)(x y:D)(r s:Mo D):Mo D:=(o.f x y).bind λz=>(blD z).bind λb=>if b then r.bind λw=>chD o' aI y w s else .ok (.bl xk)
section
variable (G:Gi)
mutual
def X.ev:Env->X->Mo D
 |env,.v i=>getE env i|_,.k d=>if d.flat?.isSome then .ok d else .no
 |_,.g _ d=>if d.flat?.isSome then .ok d else .no
 |_,.gt x ls=>if(x,ls)∈G.kt then .ok (.nd .ktup (ls.map .str))else .no
 |env,.bin o a b=>(a.ev env).bind λx=>(b.ev env).bind λy=>o.f x y|env,.ch o o' a b c=>(a.ev env).bind λx=>(b.ev env).bind λy=>chD o o' x y (c.ev env)|env,.and a b=>(a.ev env).bind λx=>andD x (b.ev env)|env,.or a b=>(a.ev env).bind λx=>orD x (b.ev env)|env,.not a=>(a.ev env).bind λx=>(blD x).bind λb=>.ok (.bl (!b))|env,.neg a=>(a.ev env).bind negD|env,.ifx c a b=>((c.ev env).bind blD).bind λt=>if t then a.ev env else b.ev env
 |env,.sl a lo hi=>(a.ev env).bind λx=>(X.evO env lo).bind λl=>(X.evO env hi).bind λh=>slA x l h|env,.tup as=>(X.evs env as).bind λds=>.lim ds.length (.ok (.nd .tup ds))|env,.lst as=>(X.evs env as).bind λds=>.lim ds.length (.ok (.nd .lst ds))|env,.fld a f=>(a.ev env).bind (fldD G.cs f)|env,.call f _ as=>(X.evs env as).bind λds=>f.val (ds.map .vw)|env,.bf o as=>(X.evs env as).bind o.f|env,.comp lv fr ik src tg c e=>if tg.is.all (·<lv.length)then(((X.evs env src).bind ik.f).bind λl=>.opt (tgsD tg l)).bind λxs=>(compM (λx=>cond1 (X.evT (setE (cE lv fr env) tg.is x) c) (e.ev (setE (cE lv fr env) tg.is x))) xs []).bind λys=>.ok (.nd .lst ys)else .no
 |env,.make f c as=>(X.evs env as).bind (makeD f c)|env,.lr a b=>(a.ev env).bind λx=>(b.ev env).bind λy=>lrD x y|env,.ds2 a0 b0 c0 d0=>(a0.ev env).bind λa=>(b0.ev env).bind λb=>(c0.ev env).bind λc=>(d0.ev env).bind λd=>dspD [a,b,c,d]|env,.ds3 a0 b0 c0 d0 e0 f0=>(a0.ev env).bind λa=>(b0.ev env).bind λb=>(c0.ev env).bind λc=>(d0.ev env).bind λd=>(e0.ev env).bind λe=>(f0.ev env).bind λf=>dspD [a,b,c,d,e,f]|env,.isx a ns tb=>if(ns,tb)∈G.ix then(a.ev env).bind (isxD tb)else .no
 |env,.isa a n=>(a.ev env).bind (isaD n)|_,.dct0=>.ok (.nd (.dct []) [])|env,.ch3 o o' aI a b c d=>(a.ev env).bind λx=>(b.ev env).bind λy=>ch3D o o' aI x y (c.ev env) (d.ev env)
def X.evs:Env->List X->Mo (List D)
 |_,[]=>.ok []|env,a::as=>(a.ev env).bind λd=>(X.evs env as).bind λds=>.ok (d::ds)
def X.evO:Env->Option X->Mo (Option Int)
 |_,xh=>.ok xh|env,xg a=>(a.ev env).bind λd=>(intD d).bind λi=>.ok (xg i)
def X.evT:Env->Option X->Mo Bool
 |_,xh=>.ok xj|env,xg a=>(a.ev env).bind blD
end
end
section
variable {K:pE}{E:XK}{env:Env}{G:Gi}
theorem zjN_ (o:Bo):Op2D K (o.r K) E o.f:=by
 cases o with
 |add=>exact zln_|sub=>exact zn2_|mul=>exact zp7_|mod=>exact znX_|div=>exact zpa_|lt=>exact od_lt|le=>exact od_le|gt=>exact od_gt|eq=>exact od_eq|ne=>exact od_ne|is=>exact od_is|isn=>exact zn6_|inn=>exact zow_|ix=>exact zp2_
theorem bf_ok (o:Bf):BlD K (o.r K) E o.f:=by
 cases o with
 |len=>exact zmb_|list=>exact ziY_|min=>exact zo6_|all=>exact znz_|sorted=>exact zjB_
theorem zjU_ {α:Type}{O:Own α}{m:Mo α}{F H:Hp}{Q:VK}(q:After K m E F H (λc F' H'=>∀v,O.fr.R c v F'->Q v H')):After K m E F H (OwnK O H Q):=by
 cases m with
 |no=>exact q|ex c=>exact q|ok a=>
  intro F' H' x v h' fresh d s o;refine q (un F' h') H' ⟨x.1.trans z7_,λp o e=>?_,x.2.2.1,λp a b=>?_⟩ v (O.frz d o)
  ·unfold un at e
   cases z:F' p with
   |some w=>rw[z]at e;cases e;exact x.2.1 _ _ z|none=>rw[z]at e;exact s _ _ e
  ·unfold un at b
   cases z:F' p with
   |some w=>exact x.2.2.2 p a (by rw[z];exact sN _)|none=>rw[z]at b;exact fresh p b
theorem ex_ch {o o':Bo}{t1 t2 t3:TE}{r1 r2 r3:Mo D}(h1:EvX K t1 E env r1)(h2:EvX K t2 E env r2)(h3:EvX K t3 E env r3):EvX K (mChain (o.r K) (o'.r K) t1 t2 t3) E env (r1.bind λx=>r2.bind λy=>chD o o' x y r3):=by
 intro σ F H Q hL hs q;refine ex_v h1 σ F H _ hL hs (q.bind.imp λa F1 H1 x1 k1 v1 aK=>?_)
 refine ex_v h2 σ F1 H1 _ (hL.mono x1.1) x1.2.1 (k1.bind.imp λb F2 H2 x2 k2 v2 c7=>?_)
 refine zjN_ o a b v1 v2 F2 H2 _ x2.2.1 ((tyD K).mono x2.1 aK) c7 (zjU_ (k2.bind.imp λz F3 H3 x3 k3 w hw=>?_))
 have hz:=DR.un hw;unfold blD at k3;split at k3
 ·rename_i c e
  rw[e]at hz;cases hz.bl;refine⟨λz=>?_,λz=>?_⟩
  ·subst z
   refine ex_v h3 σ F3 H3 _ (hL.mono (x1.1.trans (x2.1.trans x3.1))) x3.2.1 (After.imp (After.bind (show After K (r3.bind λw=>o'.f b w) E F3 H3 _ from k3)) λw F4 H4 x4 k4 v4 dZ=>?_)
   exact zjN_ o' b w v2 v4 F4 H4 Q x4.2.1 ((tyD K).mono (x3.1.trans x4.1) c7) dZ (k4.imp λa F5 H5 x5 k5=>k5.back (x1.2.2.1.trans (x2.2.2.1.trans (x3.2.2.1.trans x4.2.2.1))))
  ·subst z
   exact gotB (After.imp (show After K (.ok (D.bl xk)) E F3 H3 (OwnK (owD K) H Q)from k3) λa F5 H5 x5 k5=>k5.back (x1.2.2.1.trans (x2.2.2.1.trans x3.2.2.1))) x3.2.1
 ·exact k3.elim
theorem zpm_ {o o' aI:Bo}{t1 t2 t3 t4:TE}{r1 r2 r3 r4:Mo D}(h1:EvX K t1 E env r1)(h2:EvX K t2 E env r2)(h3:EvX K t3 E env r3)(h4:EvX K t4 E env r4):EvX K (mChain3 (o.r K) (o'.r K) (aI.r K) t1 t2 t3 t4) E env (r1.bind λx=>r2.bind λy=>ch3D o o' aI x y r3 r4):=by
 intro σ F H Q hL hs q;refine ex_v h1 σ F H _ hL hs (q.bind.imp λa F1 H1 x1 k1 v1 aK=>?_)
 refine ex_v h2 σ F1 H1 _ (hL.mono x1.1) x1.2.1 (k1.bind.imp λb F2 H2 x2 k2 v2 c7=>?_)
 refine zjN_ o a b v1 v2 F2 H2 _ x2.2.1 ((tyD K).mono x2.1 aK) c7 (zjU_ (k2.bind.imp λz F3 H3 x3 k3 w hw=>?_))
 have hz:=DR.un hw;unfold blD at k3;split at k3
 ·rename_i c e
  rw[e]at hz;cases hz.bl;refine⟨λz=>?_,λz=>?_⟩
  ·subst z
   refine ex_v h3 σ F3 H3 _ (hL.mono (x1.1.trans (x2.1.trans x3.1))) x3.2.1 (After.imp (After.bind (show After K (r3.bind λw=>chD o' aI b w r4) E F3 H3 _ from k3)) λw F4 H4 x4 k4 v4 dZ=>?_)
   refine zjN_ o' b w v2 v4 F4 H4 _ x4.2.1 ((tyD K).mono (x3.1.trans x4.1) c7) dZ (zjU_ ((After.bind (show After K ((o'.f b w).bind _) E F4 H4 _ from k4)).imp λz5 F5 H5 x5 k5 w5 ky=>?_))
   have i_:=DR.un ky;unfold blD at k5;split at k5
   ·rename_i c5 e5
    rw[e5]at i_;cases i_.bl;refine⟨λz=>?_,λz=>?_⟩
    ·subst z
     refine ex_v h4 σ F5 H5 _ (hL.mono (x1.1.trans (x2.1.trans (x3.1.trans (x4.1.trans x5.1))))) x5.2.1 (After.imp (After.bind (show After K (r4.bind λw'=>aI.f w w') E F5 H5 _ from k5)) λw' F6 H6 x6 k6 v6 kz=>?_)
     exact zjN_ aI w w' v4 v6 F6 H6 Q x6.2.1 ((tyD K).mono (x5.1.trans x6.1) dZ) kz (k6.imp λa F7 H7 x7 k7=>k7.back (x1.2.2.1.trans (x2.2.2.1.trans (x3.2.2.1.trans (x4.2.2.1.trans (x5.2.2.1.trans x6.2.2.1))))))
    ·subst z
     exact gotB (After.imp (show After K (.ok (D.bl xk)) E F5 H5 (OwnK (owD K) H Q)from k5) λa F7 H7 x7 k7=>k7.back (x1.2.2.1.trans (x2.2.2.1.trans (x3.2.2.1.trans (x4.2.2.1.trans x5.2.2.1))))) x5.2.1
   ·exact k5.elim
  ·subst z
   exact gotB (After.imp (show After K (.ok (D.bl xk)) E F3 H3 (OwnK (owD K) H Q)from k3) λa F5 H5 x5 k5=>k5.back (x1.2.2.1.trans (x2.2.2.1.trans x3.2.2.1))) x3.2.1
 ·exact k3.elim
theorem ex_k {d:D}(i:Str):EvX K (tC (d.flat?.getD .non)) E env (if d.flat?.isSome then .ok d else .no):=by
 cases e:d.flat? with
 |none=>exact λσ F H Q hL hs q=>q.elim|some v=>
  intro σ F H Q hL hs q;have q:After K (.ok d) E F H (OwnK (owD K) H Q):=q;show Q v H
  cases d with
  |non=>cases e;exact gotN q hs|bl=>cases e;exact gotB q hs|int=>cases e;exact gotI q hs|str=>cases e;exact gotS q hs|_=>cases e
theorem zfl_:∀ls:List (List Nat),D.imms (ls.map .str)=xj
 |[]=>rfl|l::ls=>by rw[nS];unfold D.imms;rw[zfl_ ls];rfl
mutual
theorem X.sound (g0:G.Ok K):∀(x:X) (E:XK) (env:Env),EvX K (x.den K G E) E env (x.ev G env)
 |.v i,E,env=>znK_ i|.k d,E,env=>ex_k ""|.g x d,E,env=>ex_k x|.gt x ls,E,env=>by
  show EvX K _ E env (if _ then _ else _)
  by_cases h:(x,ls)∈G.kt
  ·rw[if_pos h]
   exact ex_c (λF=>by unfold DR;exact⟨_,_,rfl,g0.kt _ h,zhD_ ls⟩) (by unfold D.imm;exact zfl_ ls)
  ·rw[if_neg h];exact λσ F H Q hL hs q=>q.elim
 |.bin o a b,E,env=>ex_op (zjN_ o) (X.sound g0 a E env) (X.sound g0 b E env)|.ch o o' a b c,E,env=>ex_ch (X.sound g0 a E env) (X.sound g0 b E env) (X.sound g0 c E env)|.and a b,E,env=>zo9_ (X.sound g0 a E env) (X.sound g0 b E env)|.or a b,E,env=>ex_or (X.sound g0 a E env) (X.sound g0 b E env)|.not a,E,env=>zpK_ (X.sound g0 a E env)|.neg a,E,env=>zpO_ (X.sound g0 a E env)|.ifx c a b,E,env=>ex_if (zfI_ (X.sound g0 c E env)) (X.sound g0 a E env) (X.sound g0 b E env)|.sl a lo hi,E,env=>zpD_ (X.sound g0 a E env) (X.soundO g0 lo E env) (X.soundO g0 hi E env)|.tup as,E,env=>zoa_ (X.sounds g0 as E env)|.lst as,E,env=>zpQ_ (X.sounds g0 as E env)|.fld a f,E,env=>zp0_ g0.cs (X.sound g0 a E env)|.call f x as,E,env=>zlN_ (X.sounds g0 as E env)|.bf o as,E,env=>ex_cb (bf_ok o) (X.sounds g0 as E env)|.comp lv fr ik src tg c e,E,env=>by
  show EvX K _ E env (if _ then _ else _)
  split
  ·rename_i h
   exact zj9_ (ik_ok ik (X.sounds g0 src E env)) (λi hi=>by simpa using pQ.mp h i hi) (λa=>X.soundT g0 c E0 _) (λa=>X.sound g0 e E0 _)
  ·exact λσ F H Q hL hs q=>q.elim
 |.make f c as,E,env=>zmO_ (X.sounds g0 as E env)|.lr a b,E,env=>ex_lr (X.sound g0 a E env) (X.sound g0 b E env)|.isx a ns tb,E,env=>by
  show EvX K _ E env (if(ns,tb)∈G.ix then _ else _)
  split
  ·rename_i h;exact zp9_ (g0.ix _ h) (X.sound g0 a E env)
  ·exact λ_ _ _ _ _ _ q=>q.elim
 |.isa a n,E,env=>zpu_ n (X.sound g0 a E env)|.ds3 a0 b0 c0 d0 e0 f0,E,env=>by
  have:=zhJ_ (trs:=[(_,_),(_,_),(_,_)]) (zT_ (X.sound g0 a0 E env) (zT_ (X.sound g0 b0 E env) (zT_ (X.sound g0 c0 E env) (zT_ (X.sound g0 d0 E env) (zT_ (X.sound g0 e0 E env) (zT_ (X.sound g0 f0 E env) zez_))))));simp only[Mo.bind_assoc]at this;exact this
 |.ds2 a0 b0 c0 d0,E,env=>by
  have:=zhJ_ (trs:=[(_,_),(_,_)]) (zT_ (X.sound g0 a0 E env) (zT_ (X.sound g0 b0 E env) (zT_ (X.sound g0 c0 E env) (zT_ (X.sound g0 d0 E env) zez_))));simp only[Mo.bind_assoc]at this;exact this
 |.dct0,E,env=>zlV_|.ch3 o o' aI a b c d,E,env=>zpm_ (X.sound g0 a E env) (X.sound g0 b E env) (X.sound g0 c E env) (X.sound g0 d E env)
theorem X.sounds (g0:G.Ok K):∀(as:List X) (E:XK) (env:Env),EvAs K (X.dens K G E as) E env (X.evs G env as)
 |[],E,env=>zez_|a::as,E,env=>zT_ (X.sound g0 a E env) (X.sounds g0 as E env)
theorem X.soundO (g0:G.Ok K):∀(a:Option X) (E:XK) (env:Env),EvP K (X.denO K G E a) E (Lof K env) (X.evO G env a)
 |none,E,env=>ep_no|some a,E,env=>ep_x (X.sound g0 a E env)
theorem X.soundT (g0:G.Ok K):∀(a:Option X) (E:XK) (env:Env),EvT K (X.denT K G E a) E (Lof K env) (X.evT G env a)
 |none,E,env=>zkS_|some a,E,env=>zfI_ (X.sound g0 a E env)
end
end
mutual
def X.uses:X->List Nat
 |.v i=>[i]|.k _=>[]|.g _ _=>[]|.gt _ _=>[]|.bin _ a b=>a.uses++b.uses|.ch _ _ a b c=>a.uses++b.uses++c.uses|.and a b=>a.uses++b.uses|.or a b=>a.uses++b.uses|.not a=>a.uses|.neg a=>a.uses|.ifx c a b=>c.uses++a.uses++b.uses|.sl a lo hi=>a.uses++X.usesO lo++X.usesO hi|.tup as=>X.usesL as|.lst as=>X.usesL as|.fld a _=>a.uses|.call _ _ as=>X.usesL as|.bf _ as=>X.usesL as|.comp _ fr _ src _ _ _=>X.usesL src++fr.map (·.2)|.make _ _ as=>X.usesL as|.lr a b=>a.uses++b.uses|.isa a _=>a.uses|.isx a _ _=>a.uses|.ds2 a0 b0 c0 d0=>a0.uses++(b0.uses++(c0.uses++d0.uses))|.ds3 a0 b0 c0 d0 e0 f0=>a0.uses++(b0.uses++(c0.uses++(d0.uses++(e0.uses++f0.uses))))|.dct0=>[]|.ch3 _ _ _ a b c d=>(a.uses++b.uses)++(c.uses++d.uses)
def X.usesL:List X->List Nat
 |[]=>[]|a::as=>a.uses++X.usesL as
def X.usesO:Option X->List Nat
 |none=>[]|some a=>a.uses
end
def Alike (is:List Nat)(e e':Env):Prop:=∀i∈is,getE e i=getE e' i
theorem Alike.l {is js:List Nat}{e e':Env}(h:Alike (is++js) e e'):Alike is e e':=λi hi=>h i (qQ _ hi)
theorem Alike.r {is js:List Nat}{e e':Env}(h:Alike (is++js) e e'):Alike js e e':=λi hi=>h i (oj _ hi)
section
variable {G:Gi}
theorem zmQ_ {lv:List Str}{fr:List (Str×Nat)}{e e':Env}(h:Alike (fr.map (·.2)) e e')(j:Nat):getE (cE lv fr e) j=getE (cE lv fr e') j:=by
 unfold cE;by_cases hj:j<lv.length
 ·unfold getE
  rw[pG (by rw[nN];exact hj),pG (by rw[nN];exact hj)]
 ·have hj:=uT hj
  have key:∀e:Env,getE (lv.map (λ_=>xh)++fr.map λq=>(e[q.2]?).join) j=match fr[j-lv.length]? with |some q=>getE e q.2 |none=>.no:=λe=>by
   unfold getE;rw[oX (by rw[nN];exact hj),nN,om]
   cases fr[j-lv.length]? with
   |none=>rfl|some q=>
    rw[vh];dsimp only;cases e[q.2]? with |none=>rfl |some o=>cases o<;>rfl
  rw[key,key];cases z:fr[j-lv.length]? with
  |none=>rfl|some q=>exact h q.2 (pJ.mpr ⟨q,p8 z,rfl⟩)
theorem zij_ {e e':Env}{i:Nat}{o:Option D}(hl:e.length=e'.length)(h:∀j,getE e j=getE e' j)(j:Nat):getE (e.set i o) j=getE (e'.set i o) j:=by
 by_cases hj:i=j
 ·subst hj
  unfold getE;rw[oY,oY,if_pos rfl,if_pos rfl,hl]
 ·have:=h j
  unfold getE at this ⊢;rw[pI hj,pI hj];exact this
theorem zdO_:∀{is:List Nat}{ds:List D}{e e':Env},e.length=e'.length->(∀j,getE e j=getE e' j)->∀j,getE (setE e is ds) j=getE (setE e' is ds) j
 |[],_,_,_,_,h=>h|_::_,[],_,_,_,h=>h|i::is,d::ds,e,e',hl,h=>λj=>zdO_ (is:=is) (ds:=ds) (e:=e.set i (xg d.vw)) (e':=e'.set i (xg d.vw)) (by rw[pH,pH,hl]) (zij_ hl h) j
theorem zoW_ {lv:List Str}{fr:List (Str×Nat)}{e e':Env}:(cE lv fr e).length=(cE lv fr e').length:=by unfold cE;simp
mutual
theorem X.ev_uses:∀(x:X) {e e':Env},Alike x.uses e e'->x.ev G e=x.ev G e'
 |.v i,e,e',h=>h i (List.mem_singleton_self _)|.k d,e,e',h=>rfl|.g x d,e,e',h=>rfl|.gt x ls,e,e',h=>rfl|.bin o a b,e,e',h=>by show Mo.bind _ _=Mo.bind _ _;rw[X.ev_uses a h.l,X.ev_uses b h.r]
 |.ch o o' a b c,e,e',h=>by show Mo.bind _ _=Mo.bind _ _;rw[X.ev_uses a h.l.l,X.ev_uses b h.l.r,X.ev_uses c h.r]
 |.and a b,e,e',h=>by show Mo.bind _ _=Mo.bind _ _;rw[X.ev_uses a h.l,X.ev_uses b h.r]
 |.or a b,e,e',h=>by show Mo.bind _ _=Mo.bind _ _;rw[X.ev_uses a h.l,X.ev_uses b h.r]
 |.not a,e,e',h=>by show Mo.bind _ _=Mo.bind _ _;rw[X.ev_uses a h]
 |.neg a,e,e',h=>by show Mo.bind _ _=Mo.bind _ _;rw[X.ev_uses a h]
 |.ifx c a b,e,e',h=>by show Mo.bind _ _=Mo.bind _ _;rw[X.ev_uses c h.l.l,X.ev_uses a h.l.r,X.ev_uses b h.r]
 |.sl a lo hi,e,e',h=>by show Mo.bind _ _=Mo.bind _ _;rw[X.ev_uses a h.l.l,X.evO_uses lo h.l.r,X.evO_uses hi h.r]
 |.tup as,e,e',h=>by show Mo.bind _ _=Mo.bind _ _;rw[X.evs_uses as h]
 |.lst as,e,e',h=>by show Mo.bind _ _=Mo.bind _ _;rw[X.evs_uses as h]
 |.fld a f,e,e',h=>by show Mo.bind _ _=Mo.bind _ _;rw[X.ev_uses a h]
 |.call f x as,e,e',h=>by show Mo.bind _ _=Mo.bind _ _;rw[X.evs_uses as h]
 |.bf o as,e,e',h=>by show Mo.bind _ _=Mo.bind _ _;rw[X.evs_uses as h]
 |.comp lv fr ik src tg c x,e,e',h=>by
  show(if _ then Mo.bind _ _ else _)=(if _ then Mo.bind _ _ else _)
  rw[X.evs_uses src h.l];have g:∀ds j,getE (setE (cE lv fr e) tg.is ds) j=getE (setE (cE lv fr e') tg.is ds) j:=λds=>zdO_ zoW_ (zmQ_ h.r)
  have g1:∀ds,X.evT G (setE (cE lv fr e) tg.is ds) c=X.evT G (setE (cE lv fr e') tg.is ds) c:=λds=>X.evT_uses c λi _=>g ds i
  have g2:∀ds,x.ev G (setE (cE lv fr e) tg.is ds)=x.ev G (setE (cE lv fr e') tg.is ds):=λds=>X.ev_uses x λi _=>g ds i
  have g3:(λds=>cond1 (X.evT G (setE (cE lv fr e) tg.is ds) c) (x.ev G (setE (cE lv fr e) tg.is ds)))=λds=>cond1 (X.evT G (setE (cE lv fr e') tg.is ds) c) (x.ev G (setE (cE lv fr e') tg.is ds)):=funext λds=>by rw[g1,g2]
  rw[g3]
 |.make f c as,e,e',h=>by show Mo.bind _ _=Mo.bind _ _;rw[X.evs_uses as h]
 |.lr a b,e,e',h=>by show Mo.bind _ _=Mo.bind _ _;rw[X.ev_uses a h.l,X.ev_uses b h.r]
 |.isx a ns tb,e,e',h=>by show(if _ then Mo.bind _ _ else _)=(if _ then Mo.bind _ _ else _);rw[X.ev_uses a h]
 |.isa a n,e,e',h=>by show Mo.bind _ _=Mo.bind _ _;rw[X.ev_uses a h]
 |.ds3 a0 b0 c0 d0 e0 f0,e,e',h=>by show Mo.bind _ _=Mo.bind _ _;rw[X.ev_uses a0 h.l,X.ev_uses b0 h.r.l,X.ev_uses c0 h.r.r.l,X.ev_uses d0 h.r.r.r.l,X.ev_uses e0 h.r.r.r.r.l,X.ev_uses f0 h.r.r.r.r.r]
 |.ds2 a0 b0 c0 d0,e,e',h=>by show Mo.bind _ _=Mo.bind _ _;rw[X.ev_uses a0 h.l,X.ev_uses b0 h.r.l,X.ev_uses c0 h.r.r.l,X.ev_uses d0 h.r.r.r]
 |.dct0,e,e',h=>rfl|.ch3 o o' aI a b c d,e,e',h=>by show Mo.bind _ _=Mo.bind _ _;rw[X.ev_uses a h.l.l,X.ev_uses b h.l.r,X.ev_uses c h.r.l,X.ev_uses d h.r.r]
theorem X.evs_uses:∀(as:List X) {e e':Env},Alike (X.usesL as) e e'->X.evs G e as=X.evs G e' as
 |[],e,e',h=>rfl|a::as,e,e',h=>by show Mo.bind _ _=Mo.bind _ _;rw[X.ev_uses a h.l,X.evs_uses as h.r]
theorem X.evO_uses:∀(a:Option X) {e e':Env},Alike (X.usesO a) e e'->X.evO G e a=X.evO G e' a
 |none,e,e',h=>rfl|some a,e,e',h=>by show Mo.bind _ _=Mo.bind _ _;rw[X.ev_uses a h]
theorem X.evT_uses:∀(a:Option X) {e e':Env},Alike (X.usesO a) e e'->X.evT G e a=X.evT G e' a
 |none,e,e',h=>rfl|some a,e,e',h=>by show Mo.bind _ _=Mo.bind _ _;rw[X.ev_uses a h]
end
end
mutual
noncomputable def D.cold:D->Bool
 |.nd .tup ds=>D.colds ds|.nd .ktup ds=>D.colds ds|.nd _ _=>xk|_=>xj
noncomputable def D.colds:List D->Bool
 |[]=>xj|d::ds=>d.cold && D.colds ds
end
section
variable {K:pE}{E:XK}{F F' F0 F1 F2 H0 h h1 h2 h3 k H H' H1 H2:Hp}{d:D}{ds:List D}{v:V}{us vs:List V}{p:nR}{Q:VK}{env:Env}{t:TE}{ws:Ws}{σ:L2.St}{G:Gi}
theorem OD.cold:∀{d:D}{v:V}{h:Hp},d.cold=xj->OD K d v F h->(∀p,h p=xh)/\DR K d v F
 |.nd .tup ds,_,h,z,q=>by
  unfold D.cold at z;unfold OD at q;obtain⟨p,us,h0,h2,e,c,j,r⟩:=q;obtain⟨n,r⟩:=go z r;refine⟨λp=>?_,by unfold DR;exact⟨p,us,e,c.1,r⟩⟩
  rcases j p with⟨_,y⟩|⟨_,y⟩
  ·rw[y,n]
  ·rw[y,c.2]
 |.nd .ktup ds,_,h,z,q=>by
  unfold D.cold at z;unfold OD at q;obtain⟨p,us,h0,h2,e,c,j,r⟩:=q;obtain⟨n,r⟩:=go z r;refine⟨λp=>?_,by unfold DR;exact⟨p,us,e,c.1,r⟩⟩
  rcases j p with⟨_,y⟩|⟨_,y⟩
  ·rw[y,n]
  ·rw[y,c.2]
 |.nd .lst _,_,_,z,_=>by simp[D.cold]at z
 |.nd .scr _,_,_,z,_=>by simp[D.cold]at z
 |.nd (.dct _) _,_,_,z,_=>by simp[D.cold]at z
 |.nd (.obj _ _) _,_,_,z,_=>by simp[D.cold]at z
 |.non,_,_,_,q=>by unfold OD at q;exact q
 |.bl _,_,_,_,q=>by unfold OD at q;exact q
 |.int _,_,_,_,q=>by unfold OD at q;exact q
 |.str _,_,_,_,q=>by unfold OD at q;exact q
 |.fz _,_,_,_,q=>by unfold OD at q;exact q
 |.pin _,_,_,_,q=>by unfold OD at q;exact q
 |.gone,_,_,_,q=>by unfold OD at q;exact q
where go:∀{ds:List D}{us:List V}{h:Hp},D.colds ds=xj->ODs K ds us F h->(∀p,h p=xh)/\DRs K ds us F
 |[],_,_,_,q=>by unfold ODs at q;exact⟨q.2,by unfold DRs;exact q.1⟩
 |d::ds,_,h,z,q=>by
  unfold D.colds at z;obtain⟨z1,z2⟩:=pj.mp z;unfold ODs at q;obtain⟨v,vs,h1,h2,e,j,a,r⟩:=q;obtain⟨n1,a⟩:=OD.cold z1 a;obtain⟨n2,r⟩:=go z2 r;refine⟨λp=>?_,by unfold DRs;exact⟨v,vs,e,a,r⟩⟩
  rcases j p with⟨_,y⟩|⟨_,y⟩
  ·rw[y,n2]
  ·rw[y,n1]
theorem zdw_:∀{d:D},d.imm=xj->d.cold=xj
 |.nd .tup ds,z=>by unfold D.imm at z;unfold D.cold;exact go z
 |.nd .ktup ds,z=>by unfold D.imm at z;unfold D.cold;exact go z
 |.nd .lst _,z=>by simp[D.imm]at z
 |.nd .scr _,z=>by simp[D.imm]at z
 |.nd (.dct _) _,z=>by simp[D.imm]at z
 |.nd (.obj _ _) _,z=>by simp[D.imm]at z
 |.non,_=>rfl|.bl _,_=>rfl|.int _,_=>rfl|.str _,_=>rfl|.fz _,_=>rfl|.pin _,_=>rfl|.gone,_=>rfl
where go:∀{ds:List D},D.imms ds=xj->D.colds ds=xj
 |[],_=>rfl|d::ds,z=>by
  unfold D.imms at z;obtain⟨z1,z2⟩:=pj.mp z;unfold D.colds;rw[zdw_ z1,go z2];rfl
theorem zly_ (d:D):d.vw.cold=xj:=by
 unfold D.vw;split
 ·exact zdw_ (by assumption)
 ·split<;>rfl
theorem zod_ (d:D):d.vw.vw=d.vw:=by
 unfold D.vw;by_cases h:d.imm=xj
 ·rw[if_pos h,if_pos h]
 ·rw[if_neg h]
  cases d with
  |fz d=>dsimp only;rw[if_neg h]|_=>dsimp only;rw[if_neg (by unfold D.imm;exact h)]
theorem za8_ (ok:Okk F0 H0 F1 h H1)(j:Jn k h2 h)(az:Okk F1 (less H1 h2) F2 h3 H2):Same F1 F2/\Dj k h3/\Okk F0 H0 F2 (un k h3) H2:=by
 obtain⟨x,d,s,fr,nt⟩:=ok;obtain⟨x2,d2,s2,fN,nt2⟩:=az;have kh:∀p,k p≠xh->(less H1 h2) p≠xh:=λp z=>by
  cases y:k p with
  |none=>exact absurd y z|some o=>
   have n2:h2 p=xh:=by
    rcases j.dj p with w |w
    ·rw[w]at y;cases y
    ·exact w
   rw[zaj_ n2,s _ _ (j.l _ _ y)];exact sN _
 have dk:Dj k h3:=λp=>by
  cases y:k p with
  |none=>exact .inl rfl|some o=>
   right;cases w:h3 p with
   |none=>rfl|some o'=>exact absurd (fN p (by rw[w];exact sN _)) (kh p (by rw[y];exact sN _))
 have iy:Same H0 (less H1 h2):=λp o e=>by
  have n2:h2 p=xh:=by
   cases w:h2 p with
   |none=>rfl|some o'=>have:=fr p (by rw[j.r _ _ w];exact sN _);rw[this]at e;cases e
  rw[zaj_ n2];exact x.2.2.1 _ _ e
 refine⟨x2.1,dk,⟨x.1.trans x2.1,x2.2.1,iy.trans x2.2.2.1,λp a b=>?_⟩,λp=>?_,λp o e=>?_,λp z=>?_,λp xs e=>?_⟩
 ·cases y:F1 p with
  |some o=>exact x.2.2.2 p a (by rw[y];exact sN _)|none=>exact iy.free (x2.2.2.2 p y b)
 ·unfold un
  cases y:k p with
  |none=>exact d2 p|some o=>
   left;cases w:F2 p with
   |none=>rfl|some o'=>
    have n1:F1 p=xh:=by
     rcases d p with z |z
     ·exact z
     ·rw[j.l _ _ y]at z;cases z
    exact absurd (x2.2.2.2 p n1 (by rw[w];exact sN _)) (kh p (by rw[y];exact sN _))
 ·unfold un at e
  cases y:k p with
  |none=>rw[y]at e;exact s2 _ _ e|some o'=>
   rw[y]at e;cases e;refine x2.2.2.1 _ _ ?_;have n2:h2 p=xh:=by
    rcases j.dj p with w |w
    ·rw[w]at y;cases y
    ·exact w
   rw[zaj_ n2];exact s _ _ (j.l _ _ y)
 ·unfold un at z
  cases y:k p with
  |none=>rw[y]at z;exact iy.free (fN p z)|some o=>exact fr p (by rw[j.l _ _ y];exact sN _)
 ·unfold un at e
  cases y:k p with
  |none=>rw[y]at e;exact nt2 p xs e|some o=>rw[y]at e;cases e;exact nt p xs (j.l _ _ y)
theorem zeH_ (ok:Okk F0 H0 F1 h H1)(j:Jn k h2 h):Okk F1 (less H1 h2) F1 h2 H1:=
 zcu_ ok.1.2.1 (dj_r ok.2.1 j) (j.r.trans ok.2.2.1) λp xs e=>ok.2.2.2.2 p xs (j.r _ _ e)
theorem zdd_ {c:Xc}(ok:Okk F0 H0 F1 h H1)(j:Jn k h2 h)(t:Tell K E c H0 F2 H2):Tell K E c (less H1 h2) F2 H2:=by
 refine t.up λp o e=>?_
 have n2:h2 p=xh:=by
  cases w:h2 p with
  |none=>rfl|some o'=>have:=ok.2.2.2.1 p (by rw[j.r _ _ w];exact sN _);rw[this]at e;cases e
 rw[zaj_ n2];exact ok.1.2.2.1 _ _ e
def frz1 (env:Env)(i:Nat):Env:=match env[i]? with |some (xg d)=>env.set i (xg d.vw)|_=>env
def frzE (env:Env)(is:List Nat):Env:=is.foldl frz1 env
theorem zhg_ {i:Nat}(hL:Hold (LofW K ws env) σ F h)(ok:Okk F0 H0 F h H):∃F' h',Hold (LofW K ws (frz1 env i)) σ F' h'/\Okk F0 H0 F' h' H:=by
 unfold frz1;split
 ·rename_i d hi
  obtain⟨o,k1,k2,e1,j,pp,f⟩:=Hold.atG hL (zaL_ hi);obtain⟨v,rfl,hv,od⟩:=zce_ pp;obtain⟨o1,o2,o3,o4,o5⟩:=ok;have d1:DR K d v (un F k1):=OD.view z7_ (zdG_ (dj_l o2 j)) od;refine⟨un F k1,k2,?_,⟨o1.1.trans z7_,λp o e=>?_,o1.2.2.1,λp a b=>?_⟩,λp=>?_,j.r.trans o3,λp z=>?_,λp xs e=>o5 p xs (j.r _ _ e)⟩
  ·have:=f (slotW K (ws i) (xg d.vw)) (xg v) (un F k1) (λ_=>xh) k2 z7_ (zcx_ hv (OD.vw (λ_=>rfl) d1)) λp=>.inl ⟨rfl,rfl⟩
   rw[zcw_,zdy_ e1]at this;exact this
  ·unfold un at e
   cases z:F p with
   |some w=>rw[z]at e;cases e;exact o1.2.1 _ _ z|none=>rw[z]at e;exact o3 _ _ (j.l _ _ e)
  ·unfold un at b
   cases z:F p with
   |some w=>exact o1.2.2.2 p a (by rw[z];exact sN _)|none=>
    rw[z]at b;cases y:k1 p with
    |none=>exact absurd y b|some w=>exact o4 p (by rw[j.l _ _ y];exact sN _)
  ·unfold un
   cases z:F p with
   |some w=>
    rcases dj_r o2 j p with y |y
    ·rw[y]at z;cases z
    ·exact .inr y
   |none=>exact j.dj p
  ·cases y:k2 p with
   |none=>exact absurd y z|some w=>exact o4 p (by rw[j.r _ _ y];exact sN _)
 ·exact⟨F,h,hL,ok⟩
theorem zeT_:∀(is:List Nat) {env:Env}{F h:Hp},Hold (LofW K ws env) σ F h->Okk F0 H0 F h H->∃F' h',Hold (LofW K ws (frzE env is)) σ F' h'/\Okk F0 H0 F' h' H
 |[],env,F,h,hL,ok=>⟨F,h,hL,ok⟩|i::is,env,F,h,hL,ok=>by
  obtain⟨F1,h1,a,b⟩:=zhg_ (i:=i) hL ok;exact zeT_ is a b
theorem zhe_ (env:Env)(i j:Nat):getE (frz1 env i) j=getE env j:=by
 unfold frz1;split
 ·rename_i d hi
  unfold getE;by_cases e:i=j
  ·subst e;rw[pY (oA.mp hi).1,hi];dsimp only;rw[zod_]
  ·rw[pI e]
 ·rfl
theorem zfV_:∀(is:List Nat) (env:Env) (j:Nat),getE (frzE env is) j=getE env j
 |[],_,_=>rfl|i::is,env,j=>(zfV_ is (frz1 env i) j).trans (zhe_ env i j)
def coldE (env:Env):Env:=env.map λo=>o.bind λd=>if d.cold then xg d else xh
def Cold (env:Env)(i:Nat):Prop:=∀d,env[i]?=xg (xg d)->d.cold=xj
theorem zdQ_ {env:Env}{i j:Nat}(h:i=j\/Cold env j):Cold (frz1 env i) j:=by
 unfold frz1;split
 ·rename_i d hi
  intro d' e;by_cases z:i=j
  ·subst z;rw[pY (oA.mp hi).1]at e;cases e;exact zly_ d
  ·rw[pI z]at e
   rcases h with h |h
   ·exact absurd h z
   ·exact h d' e
 ·rename_i hi
  rcases h with h |h
  ·subst h;exact λd e=>absurd e (hi d)
  ·exact h
theorem zft_:∀(is:List Nat) {env:Env}{j:Nat},(j∈is\/Cold env j)->Cold (frzE env is) j
 |[],env,j,h=>by rcases h with h |h;exact absurd h (by simp);exact h
 |i::is,env,j,h=>zft_ is (by
  rcases h with h |h
  ·rcases og.mp h with h |h
   ·exact .inr (zdQ_ (.inl h.symm))
   ·exact .inl h
  ·exact .inr (zdQ_ (.inr h)))
theorem zfs_ {i:Nat}(h:Cold env i):getE (coldE env) i=getE env i:=by
 unfold getE coldE;rw[om];cases z:env[i]? with
 |none=>rfl|some o=>
  cases o with
  |none=>rfl|some d=>
   have:=h d z;simp[this]
theorem zfQ_ (hL:Hold (LofW K ws env) σ F h):HoldF (Lof K (coldE env)) σ F:=by
 intro i s e;unfold coldE at e;rw[om,om]at e;cases z:env[i]? with
 |none=>rw[z]at e;cases e|some o=>
  rw[z]at e;cases e;cases o with
  |none=>trivial|some d=>
   by_cases c:d.cold=xj
   ·simp only[Option.bind,c,if_true]
    obtain⟨o,k1,k2,e1,j,pp,f⟩:=Hold.atG hL (zaL_ z);obtain⟨v,rfl,hv,od⟩:=zce_ pp;rw[e1];exact⟨v,rfl,(OD.cold c od).2⟩
   ·simp only[Option.bind,c]
    trivial
def FinE (K:oK)(r:Mr Env D)(E:XK)(ws:Ws)(σ:L2.St)(F0 H0:Hp)(Q:VK):Prop:=match r with
 |.ok d env=>∀v F hr h2 h H,Hold (LofW K ws env) σ F h2->OD K d v F hr->Jn hr h2 h->Okk F0 H0 F h H->Q v H|.ex c env=>∀F h H,Hold (LofW K ws env) σ F h->Okk F0 H0 F h H->Tell K E c H0 F H|.no=>False
def EvE (K:oK)(t:TE)(E:XK)(ws:Ws)(env:Env)(r:Mr Env D):Prop:=
 ∀F0 H0 σ F h H (Q:VK),Hold (LofW K ws env) σ F h->Okk F0 H0 F h H->FinE K r E ws σ F0 H0 Q->t σ H Q
def FinK (K:oK)(r:Mr Env D)(E:XK)(ws:Ws)(σ:L2.St)(F0 H0 Hs:Hp)(Q:VK):Prop:=match r with
 |.ok d env=>∀v F hr h2 h H,Hold (LofW K ws env) σ F h2->OD K d v F hr->Jn hr h2 h->Okk F0 H0 F h H->Same Hs H->Q v H|.ex c env=>∀F h H,Hold (LofW K ws env) σ F h->Okk F0 H0 F h H->Tell K E c H0 F H|.no=>False
def EvK (K:oK)(t:TE)(E:XK)(ws:Ws)(env:Env)(r:Mr Env D):Prop:=
 ∀F0 H0 σ F h H (Q:VK),Hold (LofW K ws env) σ F h->Okk F0 H0 F h H->FinK K r E ws σ F0 H0 H Q->t σ H Q
theorem EvK.e {r:Mr Env D}(h:EvK K t E ws env r):EvE K t E ws env r:=λF0 H0 σ F hh H Q hL ok fin=>h F0 H0 σ F hh H Q hL ok (by
 cases r with
 |no=>exact fin|ex c e=>exact fin|ok d e=>exact λv F hr h2 h H' a b c d _=>fin v F hr h2 h H' a b c d)
def stX (G:Gi)(env:Env)(x:X):Mr Env D:=match x.ev G env with
 |.ok d=>if d.new then .ok d env else .ok d (frzE env x.uses)
 |.ex c=>.ex c env|.no=>.no
theorem ek_x (g0:G.Ok K)(x:X):EvK K (x.den K G E) E ws env (stX G env x):=by
 intro F0 H0 σ F h H Q hL ok fin;unfold stX at fin;cases e:x.ev G env with
 |no=>rw[e]at fin;exact fin.elim|ex c=>
  rw[e]at fin;refine X.sound g0 x E env σ (un F h) H _ (zdU_ (hL.froz ok.2.1)) ok.thaw ?_;rw[e];exact λF' H' y=>(fin _ _ _ (hL.mono (ok.back y).2.1) (ok.back y).1).back ok y
 |ok d=>
  rw[e]at fin;have fin:FinK K (if d.new then .ok d env else .ok d (frzE env x.uses)) E ws σ F0 H0 H Q:=fin
  by_cases dn:d.new=xj
  ·rw[if_pos dn]at fin
   refine X.sound g0 x E env σ (un F h) H _ (zdU_ (hL.froz ok.2.1)) ok.thaw ?_;rw[e];intro F' H' y v hn fresh dj hs o;obtain⟨o1,hsF,ht⟩:=ok.back y;have m4:Dj (less F' h) hn:=λp=>by
    unfold less;cases z:h p with
    |none=>exact dj p|some w=>exact .inl rfl
   have dh:Dj hn h:=ziP_ ok.2.2.1 fresh;refine fin v (less F' h) hn h (un hn h) H' (hL.mono hsF) (OD.newImm ht dn o) (zcF_ dh) ⟨o1.1,λp=>?_,λp o e=>?_,λp z=>?_,λp xs z=>?_⟩ y.2.2.1
   ·unfold un
    cases z:hn p with
    |some w=>
     rcases m4 p with y |y
     ·exact .inl y
     ·rw[y]at z;cases z
    |none=>exact o1.2.1 p
   ·unfold un at e
    cases z:hn p with
    |some w=>rw[z]at e;cases e;exact hs _ _ z|none=>rw[z]at e;exact o1.2.2.1 _ _ e
   ·unfold un at z
    cases y:hn p with
    |some w=>exact ok.1.2.2.1.free (fresh p (by rw[y];exact sN _))|none=>rw[y]at z;exact ok.2.2.2.1 p z
   ·unfold un at z
    cases y:hn p with
    |some w=>rw[y]at z;cases z;exact OD.notup o p xs y|none=>rw[y]at z;exact ok.2.2.2.2 p xs z
  ·rw[if_neg dn]at fin
   obtain⟨F1,hh,av,aq⟩:=zeT_ x.uses hL ok;have al:Alike x.uses (coldE (frzE env x.uses)) env:=λi hi=>(zfs_ (zft_ x.uses (.inl hi))).trans (zfV_ _ _ _)
   refine X.sound g0 x E (coldE (frzE env x.uses)) σ F1 H _ (zfQ_ av) aq.1.2.1 ?_;rw[X.ev_uses x al,e];intro F' H' y v hn fresh dj hs o;have o1:=aq.cold y;have dh:Dj hn hh:=ziP_ aq.2.2.1 fresh;refine fin v F' hn hh (un hn hh) H' (av.mono y.1) o (zcF_ dh) ⟨o1.1,λp=>?_,λp o e=>?_,λp z=>?_,λp xs z=>?_⟩ y.2.2.1
   ·unfold un
    cases z:hn p with
    |some w=>
     rcases dj p with y |y
     ·exact .inl y
     ·rw[y]at z;cases z
    |none=>exact o1.2.1 p
   ·unfold un at e
    cases z:hn p with
    |some w=>rw[z]at e;cases e;exact hs _ _ z|none=>rw[z]at e;exact o1.2.2.1 _ _ e
   ·unfold un at z
    cases y:hn p with
    |some w=>exact aq.1.2.2.1.free (fresh p (by rw[y];exact sN _))|none=>rw[y]at z;exact aq.2.2.2.1 p z
   ·unfold un at z
    cases y:hn p with
    |some w=>rw[y]at z;cases z;exact OD.notup o p xs y|none=>rw[y]at z;exact aq.2.2.2.2 p xs z
theorem ee_x (g0:G.Ok K)(x:X):EvE K (x.den K G E) E ws env (stX G env x):=(ek_x g0 x).e
variable {c:D}{u:V}
def kIx:List Key->Key->Nat
 |[],_=>0|k0::ks,k=>if k0=k then 0 else kIx ks k+1
theorem zhY_:∀{ks:List Key}{us:List V}{k:Key}{w:V},us[kIx ks k]?=xg w->kIx ks k<ks.length->valV (ks.zip us) k=xg w
 |[],_,_,_,_,h=>by simp at h
 |k0::ks,[],k,w,h,_=>by simp at h
 |k0::ks,u::us,k,w,h,hl=>by
  unfold valV;rw[oZ,qx];unfold kIx at h hl;by_cases e:k0=k
  ·rw[if_pos e]at h;simp at h;subst h
   rw[show decide ((k0,u).1=k)=xj from decide_eq_true e];rfl
  ·rw[if_neg e,p9]at h
   rw[if_neg e]at hl;rw[show decide ((k0,u).1=k)=xk from decide_eq_false e]
   exact zhY_ h (by simpa using hl)
def atS (env:Env)(i:Nat):Option D:=match env[i]? with |some o=>o |none=>xh
theorem zhW_ {i:Nat}(h:atS env i=xg c):env[i]?=xg (xg c):=by
 unfold atS at h;cases e:env[i]? with
 |none=>rw[e]at h;cases h|some o=>rw[e]at h;exact congrArg xg h
end
def Mr.bind {s α β:Type}(m:Mr s α)(k:α->s->Mr s β):Mr s β:=match m with |.ok a t=>k a t |.ex c t=>.ex c t |.no=>.no
def evG (G:Gi):Env->List X->Mr Env (List D)
 |env,[]=>.ok [] env|env,x::as=>(stX G env x).bind λd e=>(evG G e as).bind λgs e'=>.ok (d::gs) e'
section
variable {K:pE}{E:XK}{F F0 F1 F2 H0 h h1 h2 H H1 H2:Hp}{d c:D}{ds:List D}{v:V}{vs:List V}{p:nR}{Q:VK}{env:Env}{t:TE}{ws:Ws}{σ:L2.St}{G:Gi}{ta:TA}{f:Fn}{i:Nat}
def FinG (K:oK)(r:Mr Env (List D))(E:XK)(ws:Ws)(σ:L2.St)(F0 H0 Hs:Hp)(Q:List V->Hp->Prop):Prop:=match r with
 |.ok ds env=>∀vs F hA hE h H,Hold (LofW K ws env) σ F hE->ODs K ds vs F hA->Jn hA hE h->Okk F0 H0 F h H->Same Hs H->Q vs H|.ex c env=>∀F h H,Hold (LofW K ws env) σ F h->Okk F0 H0 F h H->Tell K E c H0 F H|.no=>False
def EvG (K:oK)(t:TA)(E:XK)(ws:Ws)(env:Env)(r:Mr Env (List D)):Prop:=
 ∀F0 H0 σ F h H (Q:List V->Hp->Prop),Hold (LofW K ws env) σ F h->Okk F0 H0 F h H->FinG K r E ws σ F0 H0 H Q->t σ H Q
theorem no_l (z:Hp)(hz:∀p,z p=xh):Jn z h h:=λp=>.inl ⟨hz p,rfl⟩
theorem zlU_ (j:Jn h1 h2 h):h=un h1 h2:=funext λp=>by
 unfold un;rcases j p with⟨a,b⟩|⟨a,b⟩
 ·rw[a,b]
 ·rw[b]
  cases h1 p with
  |none=>exact a.symm|some o=>rfl
theorem zcm_:ODs K [] [] F (λ_=>xh):=by unfold ODs;exact⟨rfl,λ_=>rfl⟩
theorem znD_:EvG K tNil E ws env (.ok [] env):=λF0 H0 σ F h H Q hL ok fin=>fin [] F (λ_=>xh) h h H hL zcm_ (no_l _ λ_=>rfl) ok (Same.refl _)
theorem eg_x {r:Mr Env D}{g:Env->Mr Env (List D)}(he:EvK K t E ws env r)(hg:∀e,EvG K ta E ws e (g e)):EvG K (tCons t ta) E ws env (r.bind λd e=>(g e).bind λgs e'=>.ok (d::gs) e'):=by
 intro F0 H0 σ F h H Q hL ok fin;refine he F0 H0 σ F h H _ hL ok ?_;cases r with
 |no=>exact fin|ex c e=>exact fin|ok d e=>
  intro v F1 hr hE h' H1 av od j aq kb;refine hg e F1 (less H1 hE) σ F1 hE H1 _ av (zeH_ aq j) ?_;dsimp only[Mr.bind]at fin;cases e2:g e with
  |no=>rw[e2]at fin;exact fin|ex c e'=>
   rw[e2]at fin;intro F2 h2 H2 dJ az;obtain⟨s,dk,bF⟩:=za8_ aq j az;exact zdd_ aq j (fin F2 (un hr h2) H2 (Hold.more dJ (zcF_ dk)) bF)
  |ok gs e'=>
   rw[e2]at fin;intro vs F2 hA jF h2 H2 dJ ag j2 az ka;obtain⟨s,dk,bF⟩:=za8_ aq j az;obtain⟨m,jm,jn⟩:=zw_ (zR_ j2) (zR_ (zcF_ dk));exact fin (v::vs) F2 m jF _ H2 dJ (by unfold ODs;exact⟨v,vs,hr,hA,rfl,zR_ jm,od.mono s,ag⟩) (zR_ jn) bF (kb.trans ka)
theorem zbl_ {h:Hp}(hn:∀p,h p=xh):OD K .gone v F h:=by unfold OD;exact⟨hn,by unfold DR;trivial⟩
theorem zeJ_ (g0:G.Ok K):∀(as:List X) (env:Env),EvG K (X.dens K G E as) E ws env (evG G env as)
 |[],env=>znD_|x::as,env=>eg_x (ek_x g0 x) λe=>zeJ_ g0 as e
def call1 (f:Fn)(i:Nat)(ds:List D)(e:Env):Mr Env D:=match atS e i with
 |some c=>(match f (c::ds)with
  |.ok r (c'::_)=>.ok r (e.set i (xg c'))|_=>.no)
 |none=>.no
def CtX (K:oK)(f:Fn)(ds:List D)(vs:List V)(H:Hp)(Q:VK)(E:XK):Prop:=∃F h,Same F H/\Dj F h/\Same h H/\ODs K ds vs F h/\FinC K (f ds) E F (less H h) vs Q
theorem ctx1 {hA hE:Hp}(hL:Hold (LofW K ws env) σ F hE)(hv:σ[i]?=xg (xg v))(od:ODs K ds vs F hA)(j:Jn hA hE h)(ok:Okk F0 H0 F h H)(fin:FinE K (call1 f i ds env) E ws σ F0 H0 Q):∃c,atS env i=xg c/\CtX K f (c::ds) (v::vs) H Q E:=by
 unfold call1 at fin;cases e:atS env i with
 |none=>rw[e]at fin;exact fin.elim|some c=>
  rw[e]at fin;dsimp only at fin;obtain⟨o,k1,k2,e1,jk,pp,g⟩:=Hold.atG hL (zaL_ (zhW_ e));obtain⟨v',rfl,hw,oc⟩:=zce_ pp;cases hv.symm.trans e1;obtain⟨m,jm,jh⟩:=zw_ jk (zR_ j);obtain⟨hD,jD,jR⟩:=zw_ jm (zR_ jh);refine⟨c,rfl,F,hD,ok.1.2.1,dj_r ok.2.1 jR,jR.r.trans ok.2.2.1,by unfold ODs;exact⟨v,vs,k1,hA,rfl,zR_ jD,oc,od⟩,?_⟩
  cases ef:f (c::ds)with
  |no=>rw[ef]at fin;exact fin|ex x l=>rw[ef]at fin;exact fin.elim|ok d l=>
   rw[ef]at fin;cases l with
   |nil=>exact fin.elim|cons c' l=>
    intro v2 F2 h2 H2 hr hm az j2 od os2;unfold ODs at os2;obtain⟨w,vs',m1,m2,e2,jm2,oc',_⟩:=os2;cases e2;obtain⟨s,dk,bF⟩:=za8_ ok jR az;obtain⟨x,jx,jy⟩:=zw_ j2 (zR_ (zcF_ dk));obtain⟨y,jz,jw⟩:=zw_ (zR_ jm2) jx;have cU:=g (slotW K (ws i) (xg c')) (xg v) F2 m1 y s (zcx_ hw oc') jz;rw[zcw_,zdy_ e1]at cU;exact fin v2 F2 hr x _ H2 (Hold.more cU jw) od jy bF
end
inductive Fl where
 |nx |rt (d:D)|ct |bk
section
variable {K:pE}{E:XK}{F F' F0 F1 F2 H0 h h1 h2 H H' H1 H2:Hp}{d c:D}{ds:List D}{v u:V}{vs:List V}{p:nR}{env:Env}{t:TE}{ws:Ws}{σ:L2.St}{ta:TA}{f:Fn}{s s1 s2:TS}{i:Nat}
def FinS (K:oK)(r:Mr Env Fl)(E:XK)(ws:Ws)(F0 H0:Hp)(N:Ends):Prop:=match r with
 |.ok .nx env=>∀σ F h H,Hold (LofW K ws env) σ F h->Okk F0 H0 F h H->N.nx σ H|.ok .ct env=>∀σ F h H,Hold (LofW K ws env) σ F h->Okk F0 H0 F h H->N.ct σ H|.ok .bk env=>∀σ F h H,Hold (LofW K ws env) σ F h->Okk F0 H0 F h H->N.bk σ H|.ok (.rt d) env=>∀v σ F hr h2 h H,Hold (LofW K ws env) σ F h2->OD K d v F hr->Jn hr h2 h->Okk F0 H0 F h H->N.rt v H|.ex c env=>∀σ F h H,Hold (LofW K ws env) σ F h->Okk F0 H0 F h H->Tell K E c H0 F H|.no=>False
def EvS (K:oK)(t:TS)(E:XK)(ws:Ws)(env:Env)(r:Mr Env Fl):Prop:=
 ∀F0 H0 σ F h H (N:Ends),Hold (LofW K ws env) σ F h->Okk F0 H0 F h H->FinS K r E ws F0 H0 N->t N σ H
theorem es_no:EvS K s E ws env .no:=λ_ _ _ _ _ _ _ _ _ fin=>fin.elim
theorem zfM_:EvS K tNext E ws env (.ok .nx env):=λF0 H0 σ F h H N hL ok fin=>fin σ F h H hL ok
def seqM (r:Mr Env Fl)(g:Env->Mr Env Fl):Mr Env Fl:=r.bind λo e=>match o with |.nx=>g e |_=>.ok o e
theorem zjp_ {r:Mr Env Fl}{g:Env->Mr Env Fl}(eY:EvS K s1 E ws env r)(aY:∀e,EvS K s2 E ws e (g e)):EvS K (tSeq s1 s2) E ws env (seqM r g):=by
 intro F0 H0 σ F h H N hL ok fin;refine eY F0 H0 σ F h H {N with nx:=s2 N} hL ok ?_;cases r with
 |no=>exact fin|ex c e=>exact fin|ok o e=>
  cases o with
  |nx=>exact λσ F h H hL ok=>aY e F0 H0 σ F h H N hL ok fin|rt d=>exact fin|ct=>exact fin|bk=>exact fin
theorem zdB_ {hr hE:Hp}(hw:ws i=xh)(hi:i<env.length)(hL:Hold (LofW K ws env) σ F hE)(od:OD K d v F hr)(j:Jn hr hE h):Hold (LofW K ws (env.set i (xg d))) (σ.set i (xg v)) F h:=by
 obtain⟨o,k1,k2,e1,jk,pp,g⟩:=Hold.atG hL (zaL_ (nU hi));have d1:Dj hr k2:=λp=>by rcases j.dj p with z |z;exact .inl z;exact .inr (jk.r.free z)
 have:=g (slotW K (ws i) (xg d)) (xg v) F hr (un hr k2) (Same.refl _) (zcx_ (λu z=>by rw[hw]at z;cases z) od) (zcF_ d1)
 rw[zcw_]at this;refine Hold.more this (g:=k1) ?_;rw[zlU_ j,zlU_ jk];intro p;unfold un;cases x:hr p with
 |some o=>
  left;refine⟨?_,rfl⟩;rcases j.dj p with z |z
  ·rw[z]at x;cases x
  ·exact jk.l.free z
 |none=>
  cases y:k1 p with
  |some o=>
   right;refine⟨?_,rfl⟩;rcases jk.dj p with z |z
   ·rw[z]at y;cases y
   ·exact z
  |none=>left;exact⟨rfl,rfl⟩
def asgM (pn:Nat->Bool)(i:Nat)(r:Mr Env D):Mr Env Fl:=r.bind λd e=>if pn i=xk/\i<e.length then .ok .nx (e.set i (xg d))else .no
theorem zme_ {pn:Nat->Bool}{r:Mr Env D}(hp:∀i,pn i=xk->ws i=xh)(he:EvE K t E ws env r):EvS K (tAsg t (gName i)) E ws env (asgM pn i r):=by
 intro F0 H0 σ F h H N hL ok fin;refine he F0 H0 σ F h H _ hL ok ?_;cases r with
 |no=>exact fin|ex c e=>exact λF h H hL ok=>fin σ F h H hL ok|ok d e=>
  have fin:FinS K (if pn i=xk/\i<e.length then .ok .nx (e.set i (xg d))else .no) E ws F0 H0 N:=fin
  split at fin
  ·rename_i z
   exact λv F1 hr hE h1 H1 av od j aq=>fin _ F1 h1 H1 (zdB_ (hp i z.1) z.2 av od j) aq
  ·exact fin.elim
def dropM (r:Mr Env D):Mr Env Fl:=r.bind λ_ e=>.ok .nx e
theorem zkR_ {r:Mr Env D}(he:EvE K t E ws env r):EvS K (tDrop t) E ws env (dropM r):=by
 intro F0 H0 σ F h H N hL ok fin;refine he F0 H0 σ F h H _ hL ok ?_;cases r with
 |no=>exact fin|ex c e=>exact λF h H hL ok=>fin σ F h H hL ok|ok d e=>exact λv F1 hr hE h1 H1 av od j aq=>fin σ F1 h1 H1 (Hold.more av j) aq
def retM (r:Mr Env D):Mr Env Fl:=r.bind λd e=>.ok (.rt d) e
theorem zoG_ {r:Mr Env D}(he:EvE K t E ws env r):EvS K (tRet t) E ws env (retM r):=by
 intro F0 H0 σ F h H N hL ok fin;refine he F0 H0 σ F h H _ hL ok ?_;cases r with
 |no=>exact fin|ex c e=>exact λF h H hL ok=>fin σ F h H hL ok|ok d e=>exact λv F1 hr hE h1 H1 av od j aq=>fin v σ F1 hr hE h1 H1 av od j aq
theorem zmx_:EvS K tRetN E ws env (.ok (.rt .non) env):=λF0 H0 σ F h H N hL ok fin=>
 fin .non σ F (λ_=>xh) h h H hL (by unfold OD;exact⟨λ_=>rfl,by unfold DR;rfl⟩) (no_l _ λ_=>rfl) ok
def ifM (env:Env)(b:Mo Bool)(r1 r2:Mr Env Fl):Mr Env Fl:=match b with
 |.ok c=>if c then r1 else r2
 |.ex c=>.ex c env|.no=>.no
theorem es_if {tt:TT}{b:Mo Bool}{r1 r2:Mr Env Fl}(hc:EvT K tt E (Lof K env) b)(eY:EvS K s1 E ws env r1)(aY:EvS K s2 E ws env r2):EvS K (mIfS tt s1 s2) E ws env (ifM env b r1 r2):=by
 intro F0 H0 σ F h H N hL ok fin;refine hc σ (un F h) H _ (zdU_ (hL.froz ok.2.1)) ok.thaw ?_;cases b with
 |no=>exact fin|ex c=>exact λF' H' y=>(fin σ _ _ _ (hL.mono (ok.back y).2.1) (ok.back y).1).back ok y|ok c=>
  intro F' H' y;obtain⟨o,hsF,ht⟩:=ok.back y;refine⟨λz=>?_,λz=>?_⟩
  ·subst z;exact eY F0 H0 σ _ h H' N (hL.mono hsF) o fin
  ·subst z;exact aY F0 H0 σ _ h H' N (hL.mono hsF) o fin
def forM (step:Env->List D->Mr Env Fl):List (List D)->Env->Mr Env Fl
 |[],e=>.ok .nx e|x::xs,e=>(step e x).bind λo e'=>match o with |.nx=>forM step xs e' |.ct=>forM step xs e' |.bk=>.ok .nx e' |.rt d=>.ok (.rt d) e'
def setG (pn:Nat->Bool):Env->List Nat->List D->Option Env
 |e,i::is,d::ds=>if pn i=xk/\i<e.length then setG pn (e.set i (xg d.vw)) is ds else xh
 |e,[],[]=>xg e|_,_,_=>xh
theorem zbv_ {pn:Nat->Bool}(hp:∀i,pn i=xk->ws i=xh):∀{is:List Nat}{ds:List D}{env e:Env}{σ:L2.St}{vs:List (Nat×Option V)},setG pn env is ds=xg e->Plain F (ssT K is ds) vs->Hold (LofW K ws env) σ F h->Hold (LofW K ws e) (setS σ vs) F h
 |[],[],env,e,σ,vs,z,pl,hL=>by unfold setG at z;cases z;cases pl;exact hL
 |i::is,d::ds,env,e,σ,vs,z,pl,hL=>by
  unfold setG at z;split at z
  ·rename_i y
   cases pl with
   |cons hv pl=>
    refine zbv_ hp (is:=is) (ds:=ds) (σ:=σ.set i (xg _)) z pl ?_;exact zdB_ (hp i y.1) y.2 hL (OD.vw (h:=λ_=>xh) (λ_=>rfl) hv) (no_l _ λ_=>rfl)
  ·cases z
 |[],_::_,_,_,_,_,z,_,_=>by unfold setG at z;cases z
 |_::_,[],_,_,_,_,z,_,_=>by unfold setG at z;cases z
theorem zh9_ {hr hE:Hp}(od:ODs K ds vs F hr)(j:Jn hr hE h)(ok:Okk F0 H0 F h H):DRs K ds vs (un F hr)/\Same F (un F hr)/\Okk F0 H0 (un F hr) hE H:=by
 obtain⟨o1,o2,o3,o4,o5⟩:=ok;refine⟨OD.view.go z7_ (zdG_ (dj_l o2 j)) od,z7_,⟨o1.1.trans z7_,λp o e=>?_,o1.2.2.1,λp a b=>?_⟩,λp=>?_,j.r.trans o3,λp z=>?_,λp xs e=>o5 p xs (j.r _ _ e)⟩
 ·unfold un at e
  cases z:F p with
  |some w=>rw[z]at e;cases e;exact o1.2.1 _ _ z|none=>rw[z]at e;exact o3 _ _ (j.l _ _ e)
 ·unfold un at b
  cases z:F p with
  |some w=>exact o1.2.2.2 p a (by rw[z];exact sN _)|none=>
   rw[z]at b;cases y:hr p with
   |none=>exact absurd y b|some w=>exact o4 p (by rw[j.l _ _ y];exact sN _)
 ·unfold un
  cases z:F p with
  |some w=>
   rcases dj_r o2 j p with y |y
   ·rw[y]at z;cases z
   ·exact .inr y
  |none=>exact j.dj p
 ·cases y:hE p with
  |none=>exact absurd y z|some w=>exact o4 p (by rw[j.r _ _ y];exact sN _)
def forS (pn:Nat->Bool)(ik:Ik)(g:Tg)(r:Mr Env (List D))(body:Env->Mr Env Fl):Mr Env Fl:=r.bind λds e=>match ik.f ds with
 |.ok items=>(match tgsD g items with
  |some xs=>forM (λe x=>match setG pn e g.is x with |some e'=>body e' |none=>.no) xs e|none=>.no)
 |_=>.no
theorem zo0_ {pn:Nat->Bool}{ik:Ik}{g:Tg}{r:Mr Env (List D)}{body:Env->Mr Env Fl}(hp:∀i,pn i=xk->ws i=xh)(hg:EvG K ta E ws env r)(hb:∀e,EvS K s E ws e (body e)):EvS K (tFor (ik.t K ta) (tgT K g) s) E ws env (forS pn ik g r body):=by
 intro F0 H0 σ F h H N hL ok fin;refine hg F0 H0 σ F h H _ hL ok ?_;cases r with
 |no=>exact fin|ex c e=>exact λF h H hL ok=>fin σ F h H hL ok|ok ds e=>
  intro vs F1 hA hE h1 H1 av ag j aq _
  have fin:FinS K (match ik.f ds with
   |.ok items=>(match tgsD g items with
    |some xs=>forM (λe x=>match setG pn e g.is x with |some e'=>body e' |none=>.no) xs e|none=>.no)
   |_=>.no) E ws F0 H0 N:=fin
  obtain⟨dr,sF,az⟩:=zh9_ ag j aq;cases e2:ik.f ds with
  |no=>rw[e2]at fin;exact fin.elim|ex c=>rw[e2]at fin;exact fin.elim|ok items=>
   rw[e2]at fin;dsimp only at fin;cases e3:tgsD g items with
   |none=>rw[e3]at fin;exact fin.elim|some xs=>
    rw[e3]at fin;dsimp only at fin;refine ik_w (E:=E) ik ds vs σ (un F1 hA) H1 _ az.1.2.1 dr ?_;rw[e2];intro F2 H2 x2 J Y;have bF:=az.cold x2;obtain⟨l,gx⟩:=zdq_ e3;have xx:Ext F0 H0 F2 H2:=bF.1
    refine⟨λn m σ H=>m=xs.length-n/\n<=xs.length/\∃e F h,Hold (LofW K ws e) σ F h/\Okk F2 H0 F h H/\FinS K (forM (λe x=>match setG pn e g.is x with |some e'=>body e' |none=>.no) (xs.drop n) e) E ws F0 H0 N,
     ⟨_,rfl,qS _,e,F2,hE,av.mono (sF.trans x2.1),bF.rebase xx (Same.refl _),fin⟩,?_⟩
    rintro n m σ H ⟨rfl,hn,e,F,h,hL,ok,fin⟩;have s1:Same F2 H:=ok.1.1.trans ok.1.2.1;by_cases aM:n<xs.length
    ·right
     obtain⟨d,hd,td⟩:=gx n xs[n] (nU aM);obtain⟨g1,g2⟩:=Y.go n H d s1 hd;refine⟨g1,λah H'=>n+1<=xs.length/\∃e F h,Hold (LofW K ws e) ah F h/\Okk F2 H0 F h H'/\FinS K (forM (λe x=>match setG pn e g.is x with |some e'=>body e' |none=>.no) (xs.drop (n+1)) e) E ws F0 H0 N,λah H' z=>⟨xs.length-(n+1),by lia,rfl,z⟩,λv H3 hy=>?_⟩
     obtain⟨F3,x3,hv⟩:=g2 v H3 hy F ok.1.1 ok.1.2.1;refine tg_R g xs[n] v σ F3 H3 _ x3.2.1 (zpU_ td hv) λvs pl=>?_
     rw[tm aM]at fin;unfold forM at fin;cases es:setG pn e g.is xs[n]with
     |none=>rw[es]at fin;exact fin.elim|some e'=>
      rw[es]at fin;refine hb e' F2 H0 _ F3 h H3 _ (zbv_ hp es pl (hL.mono x3.1)) (ok.cold x3) ?_;dsimp only[Mr.bind]at fin;cases eb:body e' with
      |no=>rw[eb]at fin;exact fin|ex c e2=>rw[eb]at fin;exact λσ F h H hL ok=>fin σ F h H hL (ok.unbase xx)|ok o e2=>
       rw[eb]at fin;cases o with
       |nx=>exact λah F' h' H' cU eJ=>⟨aM,e2,F',h',cU,eJ,fin⟩|ct=>exact λah F' h' H' cU eJ=>⟨aM,e2,F',h',cU,eJ,fin⟩|bk=>exact λah F' h' H' cU eJ=>fin ah F' h' H' cU (eJ.unbase xx)|rt a=>exact λv σ F hr h2 h H a1 a2 a3 ok=>fin v σ F hr h2 h H a1 a2 a3 (ok.unbase xx)
    ·left
     have en:n=xs.length:=by lia
     subst en;rw[tO]at fin;exact⟨by rw[l];exact Y.stop H s1,fin σ F h H hL (ok.unbase xx)⟩
set_option genSizeOf false
set_option genSizeOfSpec false
set_option bootstrap.genMatcherCode false
noncomputable section
open Classical
def noEx (r:Mr Env Fl):Mr Env Fl:=match r with |.ex _ _=>.no |r=>r
end
def raiseM (c:String)(r:Mr Env (List D)):Mr Env Fl:=r.bind λgs e=>if gs.length<=100 then .ex (.pl c) e else .no
theorem zim_ {c:String}{r:Mr Env (List D)}(hg:EvG K ta E ws env r):EvS K (tRaise (gA K c) E ta) E ws env (raiseM c r):=by
 intro F0 H0 σ F h H N hL ok fin;refine hg F0 H0 σ F h H _ hL ok ?_;cases r with
 |no=>exact fin|ex c e=>exact λF h H hL ok=>fin σ F h H hL ok|ok gs e=>
  intro vs F1 hA hE h1 H1 av ag j aq _;have fin:FinS K (if gs.length<=100 then .ex (.pl c) e else .no) E ws F0 H0 N:=fin
  split at fin
  ·rename_i z;exact⟨by rw[<- ODs.len ag];exact z,fin σ F1 h1 H1 (Hold.more av j) aq⟩
  ·exact fin.elim
end
section
variable {K:pE}{E:XK}{F F' F0 F1 H0 h h1 h2 k H H' H1 H2:Hp}{d c:D}{ds:List D}{v u:V}{us vs:List V}{p:nR}{Q:VK}{env:Env}{t:TE}{ws:Ws}{σ:L2.St}{G:Gi}{f:Fn}{s:TS}{i:Nat}
theorem znr_ {a:Hp}(j:Jn h1 h2 h)(n:∀q,h2 q=xh):h=h1:=by
 rw[zlU_ j];funext q;unfold un;cases z:h1 q with |none=>exact n q |some o=>rfl
theorem ODs.app:∀{ds es:List D}{us ws:List V}{h1 h2 h:Hp},ODs K ds us F h1->ODs K es ws F h2->Jn h1 h2 h->ODs K (ds++es) (us++ws) F h
 |[],es,_,ws,h1,h2,h,q,o,j=>by
  unfold ODs at q;rw[q.1,qP,qP];have:h=h2:=by rw[zlU_ j];funext p;unfold un;rw[q.2 p]
  subst this;exact o
 |e::ds,es,_,ws,h1,h2,h,q,o,j=>by
  unfold ODs at q;obtain⟨w,ws',k1,k2,rfl,jk,a,r⟩:=q;obtain⟨m,jm,jh⟩:=zw_ jk j;rw[qa,qa];unfold ODs;exact⟨w,ws'++ws,k1,m,rfl,jh,a,ODs.app r o jm⟩
theorem zfi_ (o:OD K d v F h):ODs K [d] [v] F h:=by
 unfold ODs;exact⟨v,[],h,λ_=>xh,rfl,no_r _ λ_=>rfl,o,zcm_⟩
theorem ODs.set {ys:List D}{v0:D}{x:V}{hc m:Hp}(oc:ODs K ys us F hc)(ov:OD K v0 x F h1)(j:Jn hc h1 m)(hj:i<ys.length):∃m',Same m' m/\ODs K (ys.set i v0) (us.set i x) F m':=by
 obtain⟨u,k1,k2,eu,jk,ow,g⟩:=ODs.focus oc (nU hj);obtain⟨b,jb,jc⟩:=zw_ jk j;exact⟨b,jc.r,g v0 F x h1 b (Same.refl _) ov (zR_ jb)⟩
theorem zep_ (os:ODs K ds vs F h):∀p xs,h p≠xg (.tup xs):=OD.notup.go os
theorem zcG_ {h:Hp}(hn:∀p,h p=xh):OD K .non .non F h:=by unfold OD;exact⟨hn,by unfold DR;rfl⟩
theorem chg {c0 c1 r m:Hp}{o':HO}{ds':List D}(hs:Same F H)(dj:Dj F h)(sh:Same h H)(nt:∀p xs,h p≠xg (.tup xs))(jh:Jn c0 r h)(hp:c0 p≠xh)(hc:∀q,c1 q=if q=p then xg o' else c0 q)(n':∀xs,o'≠.tup xs)(sm:Same m r)
  (od:OD K d v F λ_=>xh) (os:∀m',Jn c1 m m'->ODs K ds' vs F m') (fin:∀v F' h' H' hr h2,Okk F (less H h) F' h' H'->Jn hr h2 h'->OD K d v F' hr->ODs K ds' vs F' h2->Q v H'):Q v (upd H p o'):=by
 have hq:h p≠xh:=λz=>hp (jh.l.free z)
 have rp:r p=xh:=(jh.dj p).resolve_left hp;have ok:=zmy_ (h1':=h) (hr:=h) (h':=h) (zcu_ hs dj sh nt) hq n' (un c1 r) λq=>by
  unfold un;rw[hc];by_cases e:q=p
  ·rw[if_pos e,if_pos e]
  ·rw[if_neg e,if_neg e,zlU_ jh];rfl
 have dm:Dj c1 m:=λq=>by
  rw[hc];by_cases e:q=p
  ·subst e;exact .inr (sm.free rp)
  ·rw[if_neg e];exact(jh.dj q).imp_right sm.free
 refine fin v F _ _ (λ_=>xh) (un c1 m) (zeh_ ok λq o e=>?_) (no_l _ λ_=>rfl) od (os _ (zcF_ dm))
 unfold un at e ⊢;cases z:c1 q with
 |some w=>rw[z]at e;exact e|none=>rw[z]at e;exact sm _ _ e
theorem zdE_ {o:HO}:one p o p≠xh:=by rw[zB_];exact sN _
theorem zbF_ {o o':HO}(q:nR):one p o' q=if q=p then xg o' else one p o q:=by
 unfold one;split<;>rfl
theorem zb2_ {k:Nd}{ys args:List D}{xs:List V}{c1 hc ha m:Hp}(cl:Cell K k p us F c1)(oc:ODs K ys us F hc)(oa:ODs K args xs F ha)(jm:Jn hc ha m)(j:Jn c1 m h):ODs K (.nd k ys::args) (.ref p::xs) F h:=by
 obtain⟨a,ja,jb⟩:=zw_ (zR_ jm) (zR_ j);unfold ODs;exact⟨.ref p,xs,a,ha,rfl,zR_ jb,by unfold OD;exact⟨p,us,c1,hc,rfl,cl,zR_ ja,oc⟩,oa⟩
theorem zf3_:Cell K .lst p us F (one p (.lst us)):=rfl
theorem ziv_ {ks:List Key}(l:ks.length=us.length)(n:ks.Nodup):Cell K (.dct ks) p us F (one p (.dK (ks.zip us))):=⟨rfl,l,n⟩
theorem zmS_ {c:Str}{ns:List Str}{dx:nR}(n:dx≠p)(l:ns.length=us.length):Cell K (.obj c ns) p us F (two p dx (.ins (gA K c) dx (ns.zip us))):=⟨dx,n,rfl,l⟩
def BmOk (K:oK)(r:V->List V->Hp->VK->Prop)(f:Fn):Prop:=∀x xs H Q E,CtG K f (x::xs) H Q E->r x xs H Q
theorem znw_ {k:Nd}{ys:List D}(o:OD K (.nd k ys) v F h):∃p us h0 hc,v=.ref p/\Cell K k p us F h0/\Jn h0 hc h/\ODs K ys us F hc:=by unfold OD at o;exact o
noncomputable def l2 (ds:List D)(k:D->D->Mr (List D) D):Mr (List D) D:=match ds with |[a,b]=>k a b |_=>.no
def l3 (ds:List D)(k:D->D->D->Mr (List D) D):Mr (List D) D:=match ds with |[a,b,c]=>k a b c |_=>.no
def oL (c:D)(k:List D->Mr (List D) D):Mr (List D) D:=match c with |.nd .lst xs=>k xs |_=>.no
theorem l2_of {k:D->D->Mr (List D) D}(h:FinC K (l2 ds k) E F H vs Q):∃a b,ds=[a,b]/\FinC K (k a b) E F H vs Q:=by
 cases ds with
 |nil=>exact h.elim|cons a ds=>cases ds with
  |nil=>exact h.elim|cons b ds=>cases ds with
   |nil=>exact⟨a,b,rfl,h⟩|cons=>exact h.elim
theorem l3_of {k:D->D->D->Mr (List D) D}(h:FinC K (l3 ds k) E F H vs Q):∃a b c,ds=[a,b,c]/\FinC K (k a b c) E F H vs Q:=by
 cases ds with
 |nil=>exact h.elim|cons a ds=>cases ds with
  |nil=>exact h.elim|cons b ds=>cases ds with
   |nil=>exact h.elim|cons c ds=>cases ds with
    |nil=>exact⟨a,b,c,rfl,h⟩|cons=>exact h.elim
theorem oL_of {c:D}{k:List D->Mr (List D) D}(h:FinC K (oL c k) E F H vs Q):∃xs,c=.nd .lst xs/\FinC K (k xs) E F H vs Q:=by
 cases c with
 |nd n xs=>cases n with
  |lst=>exact⟨xs,rfl,h⟩|_=>exact h.elim
 |_=>exact h.elim
def appendF:Fn:=λds=>l2 ds λc d=>oL c λxs=>if xs.length<oh then .ok .non [.nd .lst (xs++[d]),.gone]else .no
theorem recv1 {k:Nd}{ys args:List D}{x:V}{xs:List V}(os:ODs K (.nd k ys::args) (x::xs) F h):∃p us h0 hc ha a,x=.ref p/\Cell K k p us F h0/\Jn h0 a h/\Jn hc ha a/\ODs K ys us F hc/\ODs K args xs F ha:=by
 unfold ODs at os;obtain⟨w,ws,m1,m2,e1,jm,o1,os⟩:=os;cases e1;unfold OD at o1;obtain⟨p,us,h0,hc,rfl,cl,jc,oc⟩:=o1;obtain⟨a,ja,jb⟩:=zw_ jc jm;exact⟨p,us,h0,hc,m2,a,rfl,cl,jb,ja,oc,os⟩
theorem zed_:∀{ds:List D}{us:List V},ds.length=us.length->ODs K (ds.map λ_=>.gone) us F (λ_=>xh)
 |[],[],_=>by rw[qg];unfold ODs;exact⟨rfl,λ_=>rfl⟩
 |d::ds,u::us,l=>by rw[nS];unfold ODs;exact⟨u,us,λ_=>xh,λ_=>xh,rfl,no_r _ λ_=>rfl,zbl_ λ_=>rfl,zed_ (by simpa using l)⟩
 |[],_::_,l=>by simp at l
 |_::_,[],l=>by simp at l
theorem zdg_ {y:V}(h1:ODs K [d] [y] F h):OD K d y F h:=by
 unfold ODs at h1;obtain⟨v,vs,m1,m2,e,j,o,r⟩:=h1;cases e;unfold ODs at r;rw[znr_ (a:=h) j r.2];exact o
theorem zcJ_ {xs:List V}(h1:ODs K [d] xs F h):∃y,xs=[y]:=qC.mp (ODs.len h1).symm
theorem zgy_:BmOk K rAppend appendF:=by
 rintro x xs H Q E ⟨F,h,ds,hs,dj,sh,os,fin⟩;have nt:=zep_ os;obtain⟨c,d,rfl,f1⟩:=l2_of fin;clear fin;obtain⟨ys,rfl,f2⟩:=oL_of f1;clear f1;have fin:=f2
 ·split at fin
  ·rename_i hl
   obtain⟨p,us,h0,hc,ha,a,rfl,cl,jb,ja,oc,oa⟩:=recv1 os;have e0:h0=one p (.lst us):=cl;subst e0;obtain⟨y,rfl⟩:=zcJ_ oa;exact⟨p,us,y,rfl,rfl,sh _ _ (jb.l _ _ zB_),by rw[<- ODs.len oc];exact hl,chg hs dj sh nt jb zdE_ zbF_ (λxs z=>by cases z) (Same.refl _) (zcG_ λ_=>rfl) (λm' j=>zb2_ zf3_ (ODs.app oc (zfi_ (zdg_ oa)) ja) (zfi_ (zbl_ λ_=>rfl)) (no_r _ λ_=>rfl) j) fin⟩
  ·exact fin.elim
def extendF:Fn:=λds=>l2 ds λc y=>oL c λxs=>match y with
 |.nd .lst ys=>if xs.length+ys.length<=oh then .ok .non [.nd .lst (xs++ys),.nd .lst (ys.map λ_=>.gone)]else .no
 |.fz d=>(match d.un with |.nd .lst ys=>if xs.length+ys.length<=oh then .ok .non [.nd .lst (xs++ys.map .vw),.gone]else .no |_=>.no)|_=>.no
theorem zhb_:BmOk K rExtend extendF:=by
 rintro x xs H Q E ⟨F,h,ds,hs,dj,sh,os,fin⟩;have nt:=zep_ os;obtain⟨c,y,rfl,f1⟩:=l2_of fin;clear fin;obtain⟨ys,rfl,f2⟩:=oL_of f1;clear f1;have fin:=f2;split at fin
 ·rename_i zs
  split at fin
  ·rename_i hl
   obtain⟨p,us,h0,hc,ha,a,rfl,cl,jb,ja,oc,oa⟩:=recv1 os;have e0:h0=one p (.lst us):=cl;subst e0;obtain⟨y,rfl⟩:=zcJ_ oa;obtain⟨p2,us2,h2,fG,rfl,cl2,jc2,dU⟩:=znw_ (zdg_ oa);have e2:h2=one p2 (.lst us2):=cl2;subst e2;have dq:H p2=xg (.lst us2):=sh _ _ (jb.r _ _ (ja.r _ _ (jc2.l _ _ zB_)));refine⟨p,p2,us,us2,rfl,rfl,sh _ _ (jb.l _ _ zB_),dq,by rw[<- ODs.len oc,<- ODs.len dU];exact hl,?_⟩
   obtain⟨m,jm,jh⟩:=zw_ (zR_ jc2) (zR_ ja);obtain⟨m3,jm3,jh3⟩:=zw_ jm (zR_ jh);exact chg hs dj sh nt jb zdE_ zbF_ (λxs z=>by cases z) (Same.refl _) (zcG_ λ_=>rfl) (λm' j=>zb2_ zf3_ (ODs.app oc dU jm3) (zb2_ zf3_ (zed_ (ODs.len dU)) zcm_ (no_r _ λ_=>rfl) (no_r _ λ_=>rfl)) (zR_ jh3) j) fin
  ·exact fin.elim
 ·rename_i d
  split at fin
  ·rename_i zs e
   split at fin
   ·rename_i hl
    obtain⟨p,us,h0,hc,ha,a,rfl,cl,jb,ja,oc,oa⟩:=recv1 os;have e0:h0=one p (.lst us):=cl;subst e0;obtain⟨y,rfl⟩:=zcJ_ oa;have o2:=zdg_ oa;unfold OD at o2;obtain⟨n2,r2⟩:=o2;have r2:=DR.un r2;rw[show(D.fz d).un=d.un from by rw[D.un],e]at r2
    obtain⟨p2,us2,rfl,n,r⟩:=r2.nd;cases znr_ (a:=h) ja n2;exact⟨p,p2,us,us2,rfl,rfl,sh _ _ (jb.l _ _ zB_),hs _ _ n,by rw[<- ODs.len oc,<- r.len];exact hl,chg hs dj sh nt jb zdE_ zbF_ (λxs z=>by cases z) (Same.refl _) (zcG_ λ_=>rfl) (λm' j=>zb2_ zf3_ (ODs.app oc (ODs.vw (h:=λ_=>xh) (λ_=>rfl) r) (no_r _ λ_=>rfl)) (zfi_ (zbl_ λ_=>rfl)) (no_r _ λ_=>rfl) j) fin⟩
   ·exact fin.elim
  ·exact fin.elim
 ·exact fin.elim
def rSetD:TSet:=λo i v H Q=>atD o i H λa kvs k=>kvs.length<oh/\Q (upd H a (.dK (putK kvs k v)))
def rSetA:TSet:=λo i v H Q=>mSet o i v H Q\/rSetD o i v H Q
theorem set_A {X:Cx}(hu:X.A.units+60<cLine):PSet X rSetA:=by
 intro pins s σ H o i v ov iv u Q I ro ri rv h;rcases h with h |h
 ·exact set_M pins s σ H o i v ov iv u Q I ro ri rv h
 ·obtain⟨a,kvs,k,rfl,rfl,hd,hl,q⟩:=zl4_ h
  cases ro;exact zgV_ (by lia) I (DPut.k hd hl) ri rv λs4 I4=>⟨_,I4,q⟩
def setIF:Fn:=λds=>l3 ds λc v k=>match c with
 |.nd .lst xs=>(match k with |.int i=>(match ixN xs.length i with |some j=>.ok .non [.nd .lst (xs.set j v),.gone,.int i]|none=>.no)|_=>.no)|.nd (.dct ks) xs=>(match keyD k with
  |some k'=>if xs.length<oh then(if kIx ks k'<ks.length then .ok .non [.nd (.dct ks) (xs.set (kIx ks k') v),.gone,k]else .ok .non [.nd (.dct (ks++[k'])) (xs++[v]),.gone,k])else .no
  |none=>.no)
 |_=>.no
theorem zgG_:∀{ks:List Key}{k:Key},kIx ks k<ks.length↔k∈ks
 |[],k=>by simp[kIx]
 |k0::ks,k=>by
  unfold kIx;by_cases e:k0=k
  ·subst e;simp
  ·rw[if_neg e,n6,Nat.succ_lt_succ_iff,zgG_,og]
   exact⟨.inr,λz=>by rcases z with z |z;exact absurd z.symm e;exact z⟩
theorem zlL_:∀{ks:List Key}{us:List V}{k:Key}{v:V},k∈ks->ks.Nodup->ks.length=us.length->putK (ks.zip us) k v=ks.zip (us.set (kIx ks k) v):=λ{ks us k v} hk nd hl=>by
 have ha:((ks.zip us).any λkv=>decide (kv.1=k))=xj:=by
  rw[tQ];obtain⟨i,hi,e⟩:=sJ hk;exact⟨(ks[i],us[i]'(by lia)),p8 (i:=i) (by rw[rL];exact⟨by rw[nU hi],by rw[nU]⟩),by simpa using e⟩
 unfold putK;rw[if_pos ha];clear ha;induction ks generalizing us with
 |nil=>simp at hk|cons k0 ks ih=>
  cases us with
  |nil=>simp at hl|cons u us=>
   obtain⟨n1,n2⟩:=rS.mp nd;rw[oZ,nS];unfold kIx;by_cases e:k0=k
   ·subst e
    rw[if_pos rfl,if_pos rfl,qq,oZ];congr 1;have:∀q∈ks.zip us,(if q.1=k0 then(q.1,v)else q)=q:=λq hq=>by
     have h1:=(qO (a:=q.1) (b:=q.2) hq).1;rw[if_neg (show¬q.1=k0 from λz=>n1 (z ▸ h1))]
    exact(qz this).trans (wU _)
   ·rw[if_neg e,if_neg e,qr,oZ]
    congr 1;exact ih (by rcases og.mp hk with z |z;exact absurd z.symm e;exact z) n2 (by simpa using hl)
theorem zfz_ {ks:List Key}{us:List V}{k:Key}{v:V}(hk:k∉ks)(hl:ks.length=us.length):putK (ks.zip us) k v=(ks++[k]).zip (us++[v]):=by
 have ha:¬((ks.zip us).any λkv=>decide (kv.1=k))=xj:=by
  rw[tQ];rintro⟨q,hq,e⟩;exact hk (by have:=(qO hq).1;simp at e;rw[<- e];exact this)
 unfold putK;rw[if_neg ha,List.zip_append hl];rfl
theorem zfP_:∀{d:D}{k:Key},keyD d=xg k->d.cold=xj:=λ{d}=>by
 cases d with
 |nd=>intro k e;cases e
 |_=>intro k e;rfl
theorem args2 {a b:D}(hb:b.cold=xj)(oa:ODs K [a,b] vs F h):∃x y,vs=[x,y]/\OD K a x F h/\OD K b y F (λ_=>xh)/\DR K b y F:=by
 unfold ODs at oa;obtain⟨x,ws,m1,m2,rfl,j,o,oa⟩:=oa;obtain⟨y,rfl⟩:=zcJ_ oa;have ob:=zdg_ oa;obtain⟨n,r⟩:=OD.cold hb ob;cases znr_ (a:=h) j n;rw[funext n]at ob;exact⟨x,y,rfl,o,ob,r⟩
theorem zor_ {x y:V}(o:OD K d y F λ_=>xh):ODs K [.gone,d] [x,y] F λ_=>xh:=by
 unfold ODs;exact⟨x,[y],λ_=>xh,λ_=>xh,rfl,no_r _ λ_=>rfl,zbl_ λ_=>rfl,zfi_ o⟩
theorem zmv_ {ks:List Key}{k:Key}(nd:ks.Nodup)(hk:k∉ks):(ks++[k]).Nodup:=uN.mpr ⟨nd,by simp,by rintro a ha b hb rfl;simp at hb;subst hb;exact hk ha⟩
theorem zpW_ {o:V}{xs:List V}{QQ:Hp->Prop}(h0:CtG K setIF (o::xs) H (λv H'=>v=.non->QQ H') E):∃x i,xs=[x,i]/\rSetA o i x H QQ:=by
 obtain⟨F,h,ds,hs,dj,sh,os,fin⟩:=h0;have nt:=zep_ os;obtain⟨c,v0,key,rfl,f1⟩:=l3_of fin;clear fin;have fin:=f1;split at fin
 ·rename_i ys
  split at fin
  rotate_left
  ·exact fin.elim
  rename_i j0
  obtain⟨p,us,h0,hc,ha,a,rfl,cl,jb,ja,oc,oa⟩:=recv1 os;have e0:h0=one p (.lst us):=cl;subst e0;obtain⟨x,i,rfl,ov,oi,ri⟩:=args2 rfl oa;cases ri.int;cases ej:ixN ys.length j0 with
  |none=>rw[ej]at fin;exact fin.elim|some j=>
   rw[ej]at fin;dsimp only at fin;obtain⟨m,sm,on⟩:=ODs.set oc ov ja (ze3_ ej).2.1;refine⟨x,_,rfl,.inl ⟨us,sh _ _ (jb.l _ _ zB_),?_⟩⟩;rw[<- ODs.len oc,ej];exact chg hs dj sh nt jb zdE_ zbF_ (λxs z=>by cases z) sm (zcG_ λ_=>rfl) (λm' j=>zb2_ zf3_ on (zor_ oi) (no_r _ λ_=>rfl) j) fin rfl
 ·rename_i ks ys
  obtain⟨p,us,h0,hc,ha,a,rfl,cl,jb,ja,oc,oa⟩:=recv1 os;obtain⟨e0,el,nd⟩:=cl;subst e0;cases ek:keyD key with
  |none=>rw[ek]at fin;exact fin.elim|some k'=>
   rw[ek]at fin;dsimp only at fin;obtain⟨x,i,rfl,ov,oi,ri⟩:=args2 (zfP_ ek) oa;split at fin
   rotate_left
   ·exact fin.elim
   rename_i hl
   refine⟨x,i,rfl,.inr (zmg_ rfl (zmD_ ek ri).1 (sh _ _ (jb.l _ _ zB_)) ⟨by rw[qk,el,rm,<- ODs.len oc];exact hl,?_⟩)⟩
   split at fin
   ·rename_i hk
    obtain⟨m,sm,on⟩:=ODs.set oc ov ja (show kIx ks k'<ys.length by rw[ODs.len oc,<- el];exact hk)
    rw[zlL_ (zgG_.mp hk) nd el];exact chg hs dj sh nt jb zdE_ zbF_ (λxs z=>by cases z) sm (zcG_ λ_=>rfl) (λm' j=>zb2_ (ziv_ (by rw[pH];exact el) nd) on (zor_ oi) (no_r _ λ_=>rfl) j) fin rfl
   ·rename_i hk
    have cj:k'∉ks:=λz=>hk (zgG_.mpr z)
    rw[zfz_ cj el];exact chg hs dj sh nt jb zdE_ zbF_ (λxs z=>by cases z) (Same.refl _) (zcG_ λ_=>rfl) (λm' j=>zb2_ (ziv_ (by simp[el]) (zmv_ nd cj)) (ODs.app oc (zfi_ ov) ja) (zor_ oi) (no_r _ λ_=>rfl) j) fin rfl
 ·exact fin.elim
theorem zhx_:∀{ns:List Str}{us:List V}{f:Str}{v:V},f∈ns->ns.length=us.length->putF f v (ns.zip us)=ns.zip (us.set (ns.idxOf f) v)
 |[],_,_,_,h,_=>by simp at h
 |n::ns,[],_,_,_,l=>by simp at l
 |n::ns,u::us,f,v,h,l=>by
  rw[oZ,putF];by_cases e:n=f
  ·subst e;rw[if_pos rfl];simp
  ·rw[if_neg e,zhx_ (by rcases og.mp h with z |z;exact absurd z.symm e;exact z) (by simpa using l),vg,show(n == f)=xk from beq_eq_false_iff_ne.mpr e,cond_false,qr,oZ]
def setFF (f:Str):Fn:=λds=>match ds with
 |[.nd (.obj c ns) xs,v]=>if ns.length<1000 then(if f∈ns then .ok .non [.nd (.obj c ns) (xs.set (ns.idxOf f) v),.gone]else .ok .non [.nd (.obj c (ns++[f])) (xs++[v]),.gone])else .no
 |_=>.no
theorem zlX_ {dx:nR}{o:HO}:two p dx o p≠xh:=by rw[zpx_];exact sN _
theorem zhP_ {dx:nR}{o o':HO}(q:nR):two p dx o' q=if q=p then xg o' else two p dx o q:=by
 unfold two;split<;>rfl
theorem znc_ {x o:V}{n:Str}{v0:D}{c':Str}{ns:List Str}{ys:List D}{QQ:Hp->Prop}(h0:CtX K (setFF n) [.nd (.obj c' ns) ys,v0] [o,x] H (λv H'=>v=.non->QQ H') E):
  ∃a,o=.ref a/\∃dx fs,H a=xg (.ins (gA K c') dx fs)/\fs.length<1000/\QQ (upd H a (.ins (gA K c') dx (putF n x fs))):=by
 obtain⟨F,h,hs,dj,sh,os,fin⟩:=h0;have nt:=zep_ os;unfold setFF at fin;dsimp only at fin;split at fin
 rotate_left
 ·exact fin.elim
 rename_i hl
 obtain⟨p,us,h0,hc,ha,a,rfl,cl,jb,ja,oc,oa⟩:=recv1 os;obtain⟨dx,dW,e0,el⟩:=cl;subst e0;have ov:=zdg_ oa;refine⟨p,rfl,dx,ns.zip us,sh _ _ (jb.l _ _ zpx_),by rw[qk,el,rm,<- el];exact hl,?_⟩
 split at fin
 ·rename_i hn
  obtain⟨m,sm,on⟩:=ODs.set oc ov ja (show ns.idxOf n<ys.length by rw[ODs.len oc,<- el];exact List.idxOf_lt_length_iff.mpr hn)
  rw[zhx_ hn el];exact chg hs dj sh nt jb zlX_ zhP_ (λxs z=>by cases z) sm (zcG_ λ_=>rfl) (λm' j=>zb2_ (zmS_ dW (by rw[pH];exact el)) on (zfi_ (zbl_ λ_=>rfl)) (no_r _ λ_=>rfl) j) fin rfl
 ·rename_i hn
  rw[zfb_ x hn el.symm];exact chg hs dj sh nt jb zlX_ zhP_ (λxs z=>by cases z) (Same.refl _) (zcG_ λ_=>rfl) (λm' j=>zb2_ (zmS_ dW (by simp[el])) (ODs.app oc (zfi_ ov) ja) (zfi_ (zbl_ λ_=>rfl)) (no_r _ λ_=>rfl) j) fin rfl
def tSFldA (K:oK)(cs:List Str)(t tv:TE)(f:Str):TS:=λN σ H=>∃c∈cs,mSFld (gA K c) t tv f N σ H
def isObj (c:Str)(o:Option D):Bool:=match o with |some (.nd (.obj c' _) _)=>c' == c |_=>xk
theorem zip_ {c:Str}{o:Option D}(h:isObj c o=xj):∃ns ys,o=xg (.nd (.obj c ns) ys):=by
 unfold isObj at h;split at h
 ·rename_i c' ns ys;cases eq_of_beq h;exact⟨ns,ys,rfl⟩
 ·cases h
def clsAt (env:Env)(i:Nat):Option Str:=match atS env i with |some (.nd (.obj c _) _)=>xg c |_=>xh
def setFM (G:Gi)(n:Str)(i:Nat)(x:X)(env:Env):Mr Env Fl:=match clsAt env i with
 |some c=>if c∈G.cs then(stX G env x).bind λd e=>if isObj c (atS e i)=xj then dropM (call1 (setFF n) i [d] e)else .no else .no
 |none=>.no
theorem zf2_ (hL:Hold (LofW K ws env) σ F h)(e:atS env i=xg c):∃v k1 k2,σ[i]?=xg (xg v)/\Jn k1 k2 h/\OD K c v F k1:=by
 obtain⟨o,k1,k2,e1,jk,pp,g⟩:=Hold.atG hL (zaL_ (zhW_ e));obtain⟨v,rfl,hw,oc⟩:=zce_ pp;exact⟨v,k1,k2,e1,jk,oc⟩
theorem zik_ {Q:VK}(hv:σ[i]?=xg (xg v)):mVar i σ H Q=Q v H:=by unfold mVar;rw[hv]
theorem zfR_ {r:Mr Env D}{N:Ends}(fin:FinS K (dropM r) E ws F0 H0 N):FinE K r E ws σ F0 H0 (λv H'=>v=.non->N.nx σ H'):=by
 cases r with
 |no=>exact fin|ex c e2=>exact λF h H hL ok=>fin σ F h H hL ok|ok d e2=>exact λv F hr h2 h H hL od j ok _=>fin σ F h H (Hold.more hL j) ok
theorem zkZ_ (g0:G.Ok K)(n:Str)(i:Nat)(x:X):EvS K (tSFldA K G.cs (mVar i) (x.den K G E) n) E ws env (setFM G n i x env):=by
 intro F0 H0 σ F h H N hL ok fin;unfold setFM at fin;split at fin
 rotate_left
 ·exact fin.elim
 rename_i c aT
 split at fin
 rotate_left
 ·exact fin.elim
 rename_i hc
 refine⟨c,hc,ee_x g0 x F0 H0 σ F h H _ hL ok ?_⟩;cases e:stX G env x with
 |no=>rw[e]at fin;exact fin|ex c e'=>rw[e]at fin;exact λF h H hL ok=>fin σ F h H hL ok|ok d e'=>
  rw[e]at fin;intro v F1 hr hE h' H1 av od j aq;dsimp only[Mr.bind]at fin;split at fin
  rotate_left
  ·exact fin.elim
  rename_i ho
  obtain⟨ns,ys,ea⟩:=zip_ ho;obtain⟨w,k1,k2,hw,jk,oc⟩:=zf2_ av ea;rw[zik_ hw];obtain⟨c1,ec,cx⟩:=ctx1 av hw (zfi_ od) j aq (zfR_ fin);cases ea.symm.trans ec;obtain⟨a,rfl,r⟩:=znc_ cx;exact r
def setIM (G:Gi)(i:Nat)(k x:X)(env:Env):Mr Env Fl:=match atS env i with
 |some _=>(evG G env [x,k]).bind λds e=>dropM (call1 setIF i ds e)|none=>.no
theorem zna_ (g0:G.Ok K)(i:Nat)(k x:X):EvS K (tAsg (x.den K G E) (gSub (mVar i) (k.den K G E) rSetA)) E ws env (setIM G i k x env):=by
 intro F0 H0 σ F h H N hL ok fin;unfold setIM at fin;split at fin
 rotate_left
 ·exact fin.elim
 rename_i c ec
 obtain⟨v,k1,k2,hv,jk,oc⟩:=zf2_ hL ec;have e:(tAsg (x.den K G E) (gSub (mVar i) (k.den K G E) rSetA)) N σ H=X.dens K G E [x,k] σ H λvs H2=>match vs with |[y,i]=>rSetA v i y H2 (N.nx σ)|_=>False:=by
  show(x.den K G E) σ H (λy H1=>mVar i σ H1 _)=_
  simp only[zik_ hv];rfl
 rw[e];refine zeJ_ g0 [x,k] env F0 H0 σ F h H _ hL ok ?_;cases e:evG G env [x,k]with
 |no=>rw[e]at fin;exact fin|ex c e'=>rw[e]at fin;exact λF h H hL ok=>fin σ F h H hL ok|ok ds e'=>
  rw[e]at fin;intro vs F1 hA hE h1 H1 av ag j aq _;obtain⟨c,_,cx⟩:=ctx1 av hv ag j aq (zfR_ fin);obtain⟨F,h,a⟩:=cx;obtain⟨y,k,rfl,r⟩:=zpW_ ⟨F,h,_,a⟩;exact r
def isK (T:String)(c:D):Bool:=match c with |.nd .lst _=>T=="list" |.nd (.dct _) _=>T=="dict" |_=>xk
theorem zoL_ {T:String}(h0:isK T c=xj)(oc:OD K c u F k)(sF:Same F H)(sk:Same k H):tyV K T u H:=by
 unfold isK at h0;split at h0
 ·obtain⟨p,us,c0,hc,rfl,cl,jc,_⟩:=znw_ oc
  have e0:c0=one p (.lst us):=cl;subst e0;have:T="list":=by simpa using h0
  exact .inl ⟨this,us,.of (sk _ _ (jc.l _ _ zB_))⟩
 ·obtain⟨p,us,c0,hc,rfl,cl,jc,_⟩:=znw_ oc
  obtain⟨e0,_⟩:=cl;subst e0;have:T="dict":=by simpa using h0
  exact .inr (.inr (.inl ⟨this,.inl ⟨_,sk _ _ (jc.l _ _ zB_)⟩⟩))
 ·cases h0
def onS (T:String)(env:Env)(i:Nat)(m:Mr Env D):Mr Env D:=match atS env i with |some c=>if isK T c=xj then m else .no |none=>.no
theorem ee_on {T:String}{m:Mr Env D}{ty:V->Hp->Prop}{t:V->TE}(gV:∀{c v F k H},isK T c=xj->OD K c v F k->Same F H->Same k H->ty v H)(hm:∀v,EvE K (λσ H Q=>σ[i]?=xg (xg v)->t v σ H Q) E ws env m):EvE K (λσ H Q=>mVar i σ H λv H1=>ty v H1/\t v σ H1 Q) E ws env (onS T env i m):=by
 intro F0 H0 σ F h H Q hL ok fin;unfold onS at fin;split at fin
 rotate_left
 ·exact fin.elim
 rename_i c ec
 split at fin
 rotate_left
 ·exact fin.elim
 rename_i hk
 obtain⟨v,k1,k2,hv,jk,oc⟩:=zf2_ hL ec;show mVar i σ H _
 rw[zik_ hv];exact⟨gV hk oc ok.1.2.1 (jk.l.trans ok.2.2.1),hm v F0 H0 σ F h H Q hL ok fin hv⟩
theorem ee_c1 {r:V->List V->Hp->VK->Prop}(g0:G.Ok K)(b:BmOk K r f)(as:List X)(v:V):EvE K (λσ H Q=>σ[i]?=xg (xg v)->X.dens K G E as σ H λxs H2=>r v xs H2 Q) E ws env ((evG G env as).bind λds e=>call1 f i ds e):=by
 intro F0 H0 σ F h H Q hL ok fin hv;refine zeJ_ g0 as env F0 H0 σ F h H _ hL ok ?_;cases e:evG G env as with
 |no=>rw[e]at fin;exact fin|ex x e'=>rw[e]at fin;exact fin|ok ds e'=>
  rw[e]at fin;intro vs F1 hA hE h1 H1 av ag j aq _;obtain⟨c,_,F,h,a⟩:=ctx1 av hv ag j aq fin;exact b v vs H1 Q E ⟨F,h,_,a⟩
theorem ee_bm (g0:G.Ok K){T:String}{r:V->List V->Hp->VK->Prop}(b:BmOk K r f)(i:Nat)(as:List X):EvE K (tBM K T r (mVar i) (X.dens K G E as)) E ws env (onS T env i ((evG G env as).bind λds e=>call1 f i ds e)):=ee_on zoL_ λv=>ee_c1 g0 b as v
def setdF:Fn:=λds=>l3 ds λc key v=>match c with
 | .nd (.dct ks) ys=>if v.cold then(match keyD key with
   |some k'=>if kIx ks k'<ks.length then(match ys[kIx ks k']? with |some y=>if y.cold then .ok y [.nd (.dct ks) ys,key,v]else .no |none=>.no)
    else if ys.length<oh then .ok v [.nd (.dct (ks++[k'])) (ys++[v]),key,v]else .no
   |none=>.no)else .no
 |_=>.no
def rSetd:V->List V->Hp->VK->Prop:=λx xs H Q=>match xs with
 |[y,z]=>atD x y H λa kvs k=>match valV kvs k with |some v=>Q v H |none=>kvs.length<oh/\Q z (upd H a (.dK (putK kvs k z)))
 |_=>False
theorem zih_ {ks:List Key}{us:List V}{k:Key}(hk:k∉ks):valV (ks.zip us) k=xh:=by
 unfold valV;rw[List.find?_eq_none.mpr]
 ·rfl
 ·intro q hq z
  exact hk (by have:=(qO (a:=q.1) (b:=q.2) hq).1;simp at z;rw[<- z];exact this)
theorem zl5_:BmOk K rSetd setdF:=by
 rintro x xs H Q E ⟨F,h,ds,hs,dj,sh,os,fin⟩;have nt:=zep_ os;have ke:=os;obtain⟨c,key,v0,rfl,f1⟩:=l3_of fin;clear fin;have fin:=f1;split at fin
 rotate_left
 ·exact fin.elim
 rename_i ks ys
 split at fin
 rotate_left
 ·exact fin.elim
 rename_i hc
 obtain⟨p,us,h0,dG,ha,a,rfl,cl,jb,ja,oc,oa⟩:=recv1 os;obtain⟨e0,el,nd⟩:=cl;subst e0;obtain⟨y,z,rfl,oy,oz,rz⟩:=args2 hc oa;cases ek:keyD key with
 |none=>rw[ek]at fin;exact fin.elim|some k'=>
  rw[ek]at fin;dsimp only at fin;obtain⟨n,ry⟩:=OD.cold (zfP_ ek) oy;cases znr_ (a:=h) ja n;cases funext n;unfold rSetd;refine zmg_ rfl (zmD_ ek ry).1 (sh _ _ (jb.l _ _ zB_)) ?_;split at fin
  ·rename_i hk
   cases ey:ys[kIx ks k']? with
   |none=>rw[ey]at fin;exact fin.elim|some w=>
    rw[ey]at fin;dsimp only at fin;split at fin
    rotate_left
    ·exact fin.elim
    rename_i hy
    obtain⟨u,k1,k2,eu,jk,ow,g⟩:=ODs.focus oc ey;rw[zhY_ eu hk];rw[funext (OD.cold hy ow).1]at ow;exact fin u F h H (λ_=>xh) h (zcu_ hs dj sh nt) (no_l _ λ_=>rfl) ow ke
  ·rename_i hk
   split at fin
   rotate_left
   ·exact fin.elim
   rename_i hl
   have cj:k'∉ks:=λz=>hk (zgG_.mpr z)
   rw[zih_ cj];refine⟨by rw[qk,el,rm,<- ODs.len oc];exact hl,?_⟩
   rw[zfz_ cj el];exact chg hs dj sh nt jb zdE_ zbF_ (λxs z=>by cases z) (Same.refl _) oz (λm' j=>zb2_ (ziv_ (by simp[el]) (zmv_ nd cj)) (ODs.app oc (zfi_ oz) (no_r _ λ_=>rfl)) (by unfold ODs;exact⟨y,[z],λ_=>xh,λ_=>xh,rfl,no_r _ λ_=>rfl,oy,zfi_ oz⟩) (no_r _ λ_=>rfl) j) fin
theorem zk0_ (g0:G.Ok K)(i:Nat)(k v:X):EvE K (mSetD (mVar i) (k.den K G E) (v.den K G E)) E ws env (onS "dict" env i ((evG G env [k,v]).bind λds e=>call1 setdF i ds e)):=
 ee_on (ty:=λx H=>match x with |.ref a=>∃kvs,H a=xg (.dK kvs)|_=>False) (t:=λw σ H Q=>X.dens K G E [k,v] σ H λxs H2=>rSetd w xs H2 Q) (λhk oc _ sk=>by
  unfold isK at hk;split at hk
  ·cases hk
  ·obtain⟨p,us,c0,hc,rfl,cl,jc,_⟩:=znw_ oc
   obtain⟨e0,_⟩:=cl;subst e0;exact⟨_,sk _ _ (jc.l _ _ zB_)⟩
  ·cases hk) λw=>ee_c1 g0 zl5_ [k,v] w
end
inductive Bm where
 |append |extend
noncomputable def Bm.ty:Bm->String
 |_ => "list"
def Bm.r:Bm->V->List V->Hp->VK->Prop
 |.append=>rAppend |.extend=>rExtend
def Bm.f:Bm->Fn
 |.append=>appendF |.extend=>extendF
theorem bm_ok {K:oK}(o:Bm):BmOk K o.r o.f:=by
 cases o with
 |append=>exact zgy_|extend=>exact zhb_
section
variable {K:pE}{E:XK}{F F0 H0 h H:Hp}{env:Env}{ws:Ws}{σ:L2.St}{i:Nat}
theorem zM_ {o:Option D}:LofW K ws (o::env)=slotW K (ws 0) o::LofW K (λi=>ws (i+1)) env:=by
 show List.mapIdx _ _=_
 rw[List.mapIdx_cons]
theorem zaX_:∀{env:Env}{ws:Ws}{σ:L2.St}{h:Hp}(i:Nat),Hold (LofW K ws env) σ F h->Hold (LofW K ws (env.set i xh)) (σ.set i xh) F h
 |[],_,σ,_,_,q=>by cases σ with |nil=>exact q |cons=>exact q.elim
 |o::env,ws,[],_,i,q=>by rw[zM_]at q;exact q.elim
 |o::env,ws,a::σ,h,0,q=>by
  rw[zM_]at q;rw[qq,qq,zM_];obtain⟨h1,h2,j,p,r⟩:=q;exact⟨h1,h2,j,trivial,r⟩
 |o::env,ws,a::σ,h,i+1,q=>by
  rw[zM_]at q;rw[qr,qr,zM_];obtain⟨h1,h2,j,p,r⟩:=q;exact⟨h1,h2,j,p,zaX_ i r⟩
def goneM (i:Nat)(r:Mr Env Fl):Mr Env Fl:=match r with |.ok o e=>.ok o (e.set i xh)|_=>.no
theorem zgu_ {r:Mr Env Fl}{N:Ends}(fin:FinS K (goneM i r) E ws F0 H0 N):FinS K r E0 ws F0 H0 (gone i N):=by
 cases r with
 |no=>exact fin|ex c e=>exact fin.elim|ok o e=>
  cases o with
  |nx=>exact λσ F h H q ok=>fin _ F h H (zaX_ i q) ok|ct=>exact λσ F h H q ok=>fin _ F h H (zaX_ i q) ok|bk=>exact λσ F h H q ok=>fin _ F h H (zaX_ i q) ok|rt d=>exact λv σ F hr h2 h H q od j ok=>fin v _ F hr h2 h H (zaX_ i q) od j ok
def tryM (pn:Nat->Bool)(tb:List (String×Bool))(i:Nat)(env:Env)(f:Fn)(ra:Mo (List D))(hr:String->Mr Env Fl):Mr Env Fl:=match ra with
 |.ok ds=>(match f (ds.map .vw)with
  |.ok _ _=>.ok .nx env|.ex (.pl c) _=>if tb.lookup c=xg xj/\pn i=xk/\i<env.length then goneM i (hr c)else .no
  |_=>.no)
 |_=>.no
theorem zkV_ {E1:XK}{pn:Nat->Bool}{f:Fn}{ta:TA}{ra:Mo (List D)}{cl:String}{tb:List (String×Bool)}{th:TS}{hr:String->Mr Env Fl}(hp:∀i,pn i=xk->ws i=xh)(hT:CatT K cl tb)(ha:EvAs K ta E1 env ra)(hh:∀c,EvS K th E0 ws (env.set i (xg (.fz (.nd (.exc c) [])))) (hr c)):EvS K (tTryH (tDropX (CtG K f) ta) (tHAs K (gA K cl) i th tH0)) E ws env (tryM pn tb i env f ra hr):=by
 intro F0 H0 σ F h H N hL ok fin;refine zfq_ ha σ (un F h) H _ (zdU_ (hL.froz ok.2.1)) ok.thaw ?_;cases ra with
 |no=>exact fin|ex c=>exact fin.elim|ok ds=>
  intro F1 H1 x1 vs cA;rw[pW];refine zds_ x1.2.1 cA ?_;unfold tryM at fin;dsimp only at fin;unfold Fn.val;cases e:f (ds.map D.vw)with
  |no=>rw[e]at fin;exact fin|ok d ds'=>
   rw[e]at fin;intro F2 H2 x2 v k _ _ _ _;obtain⟨o,hsF,ht⟩:=ok.back (x1.trans x2);exact fin σ _ h H2 (hL.mono hsF) o
  |ex x ds'=>
   rw[e]at fin;cases x with
   |«at» c as=>exact fin.elim|pl c=>
    dsimp only at fin;split at fin
    rotate_left
    ·exact fin.elim
    rename_i z
    intro F2 H2 x2;obtain⟨o,hsF,ht⟩:=ok.back (x1.trans x2);refine⟨_,rfl,?_⟩;have zk:catK K (gA K c) (gA K cl)=xj:=hT _ (zbY_ z.1);unfold tHAs;rw[if_pos zk];intro p hq;have y:=Ext.new (o:=XO p (gA K c) xh) o.1.2.1 hq;refine hh c F0 H0 _ _ h _ (gone i N) (zdB_ (hp i z.2.1) z.2.2 (hL.mono (hsF.trans y.1)) (v:=.ref p) (hr:=λ_=>xh) ?_ (no_l _ λ_=>rfl)) (o.cold y) (zgu_ fin)
    unfold OD;refine⟨λ_=>rfl,?_⟩
    unfold DR DR;exact⟨p,[],rfl,⟨rfl,xh,ze_⟩,by unfold DRs;rfl⟩
end
noncomputable abbrev Ix:=List (String×Bool)×List (String×Bool)
def hX (i j:Nat):Bool->List (List Ix)->List (Nat×X)
 |_,[]=>[]|b,g::gs=>(j,bif b then .lst (g.map λq=>.isx (.v i) q.1 q.2)else .bin .add (.v j) (.lst (g.map λq=>.isx (.v i) q.1 q.2)))::hX i j xk gs
def hDen (K:oK)(G:Gi):List (Nat×X)->TS
 |[]=>tNext|q::r=>tSeq (tAsg (q.2.den K G E0) (gName q.1)) (hDen K G r)
def hRun (G:Gi)(pn:Nat->Bool):List (Nat×X)->Env->Mr Env Fl
 |[],e=>.ok .nx e|q::r,e=>seqM (asgM pn q.1 (stX G e q.2)) (hRun G pn r)
theorem zhT_ {K:oK}{G:Gi}{ws:Ws}{pn:Nat->Bool}(g0:G.Ok K)(hp:∀i,pn i=xk->ws i=xh):∀(l:List (Nat×X)) (env:Env),EvS K (hDen K G l) E0 ws env (hRun G pn l env)
 |[],env=>zfM_|q::r,env=>zjp_ (zme_ hp (ee_x g0 q.2)) λe=>zhT_ g0 hp r e
inductive Y where
 |pu (x:X)|mv (i:Nat)
 |bm (o:Bm) (p:Nat) (as:List X)
 |bin (o:Bo) (y z:Y)
 |sd (p:Nat) (k v:X)
 |not (y:Y)
 |or (y z:Y)|and (y z:Y)
inductive S where
 |asg (i:Nat) (y:Y)|asgT (tg:Tg) (x:X)|asg5 (is:List Nat) (x:X)
 |setF (p:Nat) (n:Str) (x:X)|setI (p:Nat) (k x:X)
 |ex (y:Y)|ret (y:Y)|retN
 |if_ (c:X) (a b:List S)|ifY (c:Y) (a b:List S)|ifL (c:X) (a b:List S)
 |for_ (ik:Ik) (src:List X) (tg:Tg) (b:List S)
 |raise (c:String) (as:List X)
 |tryC (f:Fn) (x:Str) (as:List X) (cl:String) (tb:List (String×Bool)) (i j:Nat) (gs:List (List Ix))
 |pass |never
 |try0 (b bx:List S)
section
variable (K:pE)(G:Gi)
def Y.den (E:XK):Y->TE
 |.pu x=>x.den K G E|.mv i=>mVar i|.bm o p as=>tBM K o.ty o.r (mVar p) (X.dens K G E as)|.bin o y z=>tOp (o.r K) (y.den E) (z.den E)|.sd p k v=>mSetD (mVar p) (k.den K G E) (v.den K G E)|.not y=>mNotV (y.den E)|.or y z=>mOrV (y.den E) (z.den E)|.and y z=>mAndV (y.den E) (z.den E)
mutual
def S.den (E:XK):S->TS
 |.asg i y=>tAsg (y.den K G E) (gName i)|.asgT tg x=>tAsg (x.den K G E) (tgT K tg)|.asg5 is x=>tAsg (x.den K G E) (gLst5 K (tgS is))|.setF p n x=>tSFldA K G.cs (mVar p) (x.den K G E) n|.setI p k x=>tAsg (x.den K G E) (gSub (mVar p) (k.den K G E) rSetA)|.ex y=>tDrop (y.den K G E)|.ret y=>tRet (y.den K G E)|.retN=>tRetN|.if_ c a b=>mIfS (mTest (c.den K G E)) (S.dens E a) (S.dens E b)|.ifY c a b=>mIfS (mTest (c.den K G E)) (S.dens E a) (S.dens E b)|.ifL c a b=>mIfS (mTrL K (c.den K G E)) (S.dens E a) (S.dens E b)|.for_ ik src tg b=>tFor (ik.t K (X.dens K G E src)) (tgT K tg) (S.dens E b)|.raise c as=>tRaise (gA K c) E (X.dens K G E as)|.tryC f _ as cl _ i j gs=>tTryH (tDropX (CtG K f) (X.dens K G E0 as)) (tHAs K (gA K cl) i (hDen K G (hX i j xj gs)) tH0)|.pass=>tNext|.never=>tNever|.try0 b bx=>tSeq (S.dens E0 b) (S.dens E bx)
def S.dens (E:XK):List S->TS
 |[]=>tNext|s::ss=>tSeq (s.den E) (S.dens E ss)
end
end
def trD (d:D):Mo Bool:=match d.un with |.bl b=>.ok b |.nd .lst xs=>.ok (!xs.isEmpty)|_=>.no
theorem zpp_ {K:oK}{E:XK}{env:Env}{t:TE}{r:Mo D}(h:EvX K t E env r):EvT K (mTrL K t) E (Lof K env) (r.bind trD):=by
 intro σ F H Q hL hs q;refine ex_v h σ F H _ hL hs (q.bind.imp λa F1 H1 x1 k1 v1 aK=>?_)
 have ha:=DR.un aK;unfold trD at k1;split at k1
 ·rename_i b e;rw[e]at ha;cases ha.bl;exact k1.ok x1.2.1
 ·rename_i xs e;rw[e]at ha;obtain⟨p,us,rfl,n,r⟩:=ha.nd
  refine⟨us,.of (x1.2.1 _ _ n),?_⟩;rw[show us.isEmpty=xs.isEmpty from by have:=r.len;cases us<;>cases xs<;>first |rfl |cases this]
  exact k1.ok x1.2.1
 ·exact k1.elim
def moTo {α:Type}(m:Mo α)(e:Env):Mr Env α:=match m with |.ok a=>.ok a e |.ex c=>.ex c e |.no=>.no
section
variable (G:Gi)
def mvM (env:Env)(i:Nat):Mr Env D:=match env[i]? with |some (xg d)=>.ok d (env.set i xh)|_=>.no
def boY (w:Bool)(d:D)(e:Env)(r:Mr Env D):Mr Env D:=match blD d with |.ok b=>if b=w then .ok (.bl w) e else r |_=>.no
def Y.ev:Y->Env->Mr Env D
 |.pu x,env=>stX G env x|.mv i,env=>mvM env i|.bm o p as,env=>onS o.ty env p ((evG G env as).bind λds e=>call1 o.f p ds e)|.bin o y z,env=>(y.ev env).bind λd e=>(z.ev e).bind λd2 e2=>moTo (o.f d d2) e2|.sd p k v,env=>onS "dict" env p ((evG G env [k,v]).bind λds e=>call1 setdF p ds e)|.not y,env=>(y.ev env).bind λd e=>moTo ((blD d).bind λb=>.ok (.bl (!b))) e|.or y z,env=>(y.ev env).bind λd e=>boY xj d e (z.ev e)|.and y z,env=>(y.ev env).bind λd e=>boY xk d e (z.ev e)
def asg5M (pn:Nat->Bool)(is:List Nat)(r:Mr Env D):Mr Env Fl:=r.bind λd e=>match d.un with
 |.nd .lst [a,b,c,x,y]=>if is.length=5 then(match setG pn e is [a,b,c,x,y]with |some e'=>.ok .nx e' |none=>.no)else .no
 |_=>.no
def asgTM (pn:Nat->Bool)(tg:Tg)(r:Mr Env D):Mr Env Fl:=r.bind λd e=>match tgD tg d with
 |some ds=>(match setG pn e tg.is ds with |some e'=>.ok .nx e' |none=>.no)|none=>.no
mutual
def S.run:(Nat->Bool)->S->Env->Mr Env Fl
 |pn,.asg i y,env=>asgM pn i (y.ev G env)|pn,.asgT tg x,env=>asgTM pn tg (stX G env x)|pn,.asg5 is x,env=>asg5M pn is (stX G env x)|pn,.setF p n x,env=>setFM G n p x env|pn,.setI p k x,env=>setIM G p k x env|pn,.ex y,env=>dropM (y.ev G env)|pn,.ret y,env=>retM (y.ev G env)|pn,.retN,env=>.ok (.rt .non) env|pn,.if_ c a b,env=>ifM env ((c.ev G env).bind blD) (S.runs pn a env) (S.runs pn b env)|pn,.ifY c a b,env=>(c.ev G env).bind λd e=>ifM e (blD d) (S.runs pn a e) (S.runs pn b e)|pn,.ifL c a b,env=>ifM env ((c.ev G env).bind trD) (S.runs pn a env) (S.runs pn b env)|pn,.for_ ik src tg b,env=>forS pn ik tg (evG G env src) (λe=>S.runs pn b e)|pn,.raise c as,env=>raiseM c (evG G env as)|pn,.tryC f _ as cl tb i j gs,env=>if(cl,tb)∈G.ct then tryM pn tb i env f (X.evs G env as) (λc=>hRun G pn (hX i j xj gs) (env.set i (xg (.fz (.nd (.exc c) [])))))else .no
 |pn,.pass,env=>.ok .nx env|pn,.never,env=>.no|pn,.try0 b bx,env=>seqM (noEx (S.runs pn b env)) λe=>S.runs pn bx e
def S.runs:(Nat->Bool)->List S->Env->Mr Env Fl
 |pn,[],env=>.ok .nx env|pn,s::ss,env=>seqM (S.run pn s env) (λe=>S.runs pn ss e)
end
end
section
variable {K:pE}{E:XK}{F F0 H0 h H:Hp}{env:Env}{t:TE}{ws:Ws}{G:Gi}{i:Nat}{pn:Nat->Bool}{s1 s2:TS}
theorem ee_mv:EvE K (mVar i) E ws env (mvM env i):=by
 intro F0 H0 σ F h H Q hL ok fin;unfold mvM at fin;split at fin
 ·rename_i d hd
  obtain⟨o,k1,k2,e1,j,pp,g⟩:=Hold.atG hL (zaL_ hd);obtain⟨v,rfl,hv,od⟩:=zce_ pp;unfold mVar;rw[e1];refine fin v F k1 k2 h H ?_ od j ok;have:=g (slotW K (ws i) xh) (xg v) F (λ_=>xh) k2 (Same.refl _) trivial (no_l _ λ_=>rfl)
  rw[zcw_,zdy_ e1]at this;exact this
 ·exact fin.elim
theorem zhB_ {m:Mo D}{e:Env}{σ:L2.St}{Q:VK}{hE:Hp}(hL:Hold (LofW K ws e) σ F hE)(ok:Okk F0 H0 F hE H)(fin:FinE K (moTo m e) E ws σ F0 H0 Q):After K m E F H (OwnK (owD K) H Q):=by
 cases m with
 |no=>exact fin|ex c=>exact λF' H' x=>Tell.up ok.1.2.2.1 (fin F' hE H' (hL.mono x.1) (ok.cold x))|ok d=>
  intro F' H' x v hn fresh dj s o;have o1:=ok.cold x;have dh:Dj hn hE:=ziP_ ok.2.2.1 fresh;refine fin v F' hn hE (un hn hE) H' (hL.mono x.1) o (zcF_ dh) ⟨o1.1,λp=>?_,λp o e=>?_,λp z=>?_,λp xs z=>?_⟩
  ·unfold un
   cases z:hn p with
   |some w=>
    rcases dj p with y |y
    ·exact .inl y
    ·rw[y]at z;cases z
   |none=>exact o1.2.1 p
  ·unfold un at e
   cases z:hn p with
   |some w=>rw[z]at e;cases e;exact s _ _ z|none=>rw[z]at e;exact o1.2.2.1 _ _ e
  ·unfold un at z
   cases y:hn p with
   |some w=>exact ok.1.2.2.1.free (fresh p (by rw[y];exact sN _))|none=>rw[y]at z;exact ok.2.2.2.1 p z
  ·unfold un at z
   cases y:hn p with
   |some w=>rw[y]at z;cases z;exact OD.notup o p xs y|none=>rw[y]at z;exact ok.2.2.2.2 p xs z
theorem zdu_ {d:D}{v:V}{hr hE:Hp}(od:OD K d v F hr)(j:Jn hr hE h)(ok:Okk F0 H0 F h H):DR K d v (un F hr)/\Same F (un F hr)/\Okk F0 H0 (un F hr) hE H:=by
 obtain⟨a,b,c⟩:=zh9_ (ds:=[d]) (vs:=[v]) (by unfold ODs;exact⟨v,[],hr,λ_=>xh,rfl,no_r _ λ_=>rfl,od,zcm_⟩) j ok
 obtain⟨v',e,r⟩:=DRs.one a;cases e;exact⟨r,b,c⟩
theorem zpP_ {o:Bo}{r:Mr Env D}{g:Env->Mr Env D}{t2:TE}(h1:EvE K t E ws env r)(h2:∀e,EvE K t2 E ws e (g e)):EvE K (tOp (o.r K) t t2) E ws env (r.bind λd e=>(g e).bind λd2 e2=>moTo (o.f d d2) e2):=by
 intro F0 H0 σ F h H Q hL ok fin;refine h1 F0 H0 σ F h H _ hL ok ?_;cases r with
 |no=>exact fin|ex c e=>exact fin|ok d e=>
  intro v F1 hr hE h' H1 av od j aq;obtain⟨dr,sF,az⟩:=zdu_ od j aq;have gg:Jn (λ_=>xh) hE hE:=no_l _ λ_=>rfl
  have ob:=zeH_ az gg;have iL:∀x:Hp,un (λ_=>xh) x=x:=λx=>rfl
  refine h2 e _ (less H1 hE) σ _ hE H1 _ (av.mono sF) ob ?_;dsimp only[Mr.bind]at fin;cases e2:g e with
  |no=>rw[e2]at fin;exact fin|ex c e'=>
   rw[e2]at fin;intro F2 h2 H2 dJ bF;obtain⟨s,_,ok4⟩:=za8_ az gg bF;rw[iL]at ok4;exact zdd_ az gg (fin F2 h2 H2 dJ ok4)
  |ok d2 e'=>
   rw[e2]at fin;intro v2 F2 nD jF cp H2 dJ f6 j2 bF;obtain⟨s,_,ok4⟩:=za8_ az gg bF;rw[iL]at ok4;obtain⟨mY,sF2,ok5⟩:=zdu_ f6 j2 ok4;exact zjN_ o d d2 v v2 _ H2 Q ok5.1.2.1 (dr.mono (s.trans sF2)) mY (zhB_ (dJ.mono sF2) ok5 fin)
theorem zpo_ {r:Mr Env D}(h1:EvE K t E ws env r):EvE K (mNotV t) E ws env (r.bind λd e=>moTo ((blD d).bind λb=>.ok (.bl (!b))) e):=by
 intro F0 H0 σ F h H Q hL ok fin;refine h1 F0 H0 σ F h H _ hL ok ?_;cases r with
 |no=>exact fin|ex c e=>exact fin|ok d e=>
  intro v F1 hr hE h' H1 av od j aq;obtain⟨dr,sF,az⟩:=zdu_ od j aq;have k1:=zhB_ (m:=(blD d).bind λb=>.ok (.bl (!b))) (av.mono sF) az fin
  have ha:=DR.un dr;unfold blD at k1;split at k1
  ·rename_i b e2;rw[e2]at ha;cases ha.bl;exact gotB k1 az.1.2.1
  ·exact k1.elim
theorem ee_bo {w:Bool}{r:Mr Env D}{g:Env->Mr Env D}{t2:TE}(h1:EvE K t E ws env r)(h2:∀e,EvE K t2 E ws e (g e)):EvE K (match w with |true=>mOrV t t2 |false=>mAndV t t2) E ws env (r.bind λd e=>boY w d e (g e)):=by
 intro F0 H0 σ F h H Q hL ok fin;have key:t σ H (λx H1=>match x with |.bl c=>br (c == w) (Q (.bl w) H1) (t2 σ H1 Q)|_=>False):=by
  refine h1 F0 H0 σ F h H _ hL ok ?_;cases r with
  |no=>exact fin|ex c e=>exact fin|ok d e=>
   intro v F1 hr hE h' H1 av od j aq;obtain⟨dr,sF,az⟩:=zdu_ od j aq;have ha:=DR.un dr;have fin:FinE K (boY w d e (g e)) E ws σ F0 H0 Q:=fin;unfold boY blD at fin;split at fin
   ·rename_i b eb
    split at eb
    ·rename_i e2
     cases eb;rw[e2]at ha;cases ha.bl;refine⟨λz=>?_,λz=>?_⟩
     ·rw[if_pos (eq_of_beq z)]at fin
      exact fin (.bl w) _ (λ_=>xh) hE hE H1 (av.mono sF) (by unfold OD;exact⟨λ_=>rfl,by unfold DR;rfl⟩) (no_l _ λ_=>rfl) az
     ·rw[if_neg (ne_of_beq_false z)]at fin
      exact h2 e F0 H0 σ _ hE H1 Q (av.mono sF) az fin
    ·cases eb
   ·exact fin.elim
 cases w with
 |true=>
  refine(show mOrV t t2 σ H Q from ?_)
  refine(show t σ H (λx H1=>match x with |.bl c=>br c (Q (.bl xj) H1) (t2 σ H1 Q)|_=>False)from ?_)
  have e:(λ(x:V) (H1:Hp)=>(match x with |.bl c=>br c (Q (.bl xj) H1) (t2 σ H1 Q)|_=>False:Prop))=λx H1=>match x with |.bl c=>br (c == xj) (Q (.bl xj) H1) (t2 σ H1 Q)|_=>False:=by
   funext x H1;cases x<;>first |rfl |(rename_i c;cases c<;>rfl)
  rw[e];exact key
 |false=>
  refine(show t σ H (λx H1=>match x with |.bl c=>br c (t2 σ H1 Q) (Q (.bl xk) H1)|_=>False)from ?_)
  have e:(λ(x:V) (H1:Hp)=>(match x with |.bl c=>br c (t2 σ H1 Q) (Q (.bl xk) H1)|_=>False:Prop))=λx H1=>match x with |.bl c=>br (c == xk) (Q (.bl xk) H1) (t2 σ H1 Q)|_=>False:=by
   funext x H1;cases x<;>first |rfl |(rename_i c;unfold br;cases c<;>simp)
  rw[e];exact key
theorem Y.sound (g0:G.Ok K):∀(y:Y) (env:Env),EvE K (y.den K G E) E ws env (y.ev G env)
 |.pu x,env=>ee_x g0 x|.mv i,env=>ee_mv|.bm o p as,env=>ee_bm g0 (bm_ok o) p as|.bin o y z,env=>zpP_ (Y.sound g0 y env) λe=>Y.sound g0 z e|.sd p k v,env=>zk0_ g0 p k v|.not y,env=>zpo_ (Y.sound g0 y env)|.or y z,env=>ee_bo (w:=xj) (Y.sound g0 y env) λe=>Y.sound g0 z e|.and y z,env=>ee_bo (w:=xk) (Y.sound g0 y env) λe=>Y.sound g0 z e
theorem zlH_ {tg:Tg}{r:Mr Env D}(hp:∀i,pn i=xk->ws i=xh)(he:EvE K t E ws env r):EvS K (tAsg t (tgT K tg)) E ws env (asgTM pn tg r):=by
 intro F0 H0 σ F h H N hL ok fin;refine he F0 H0 σ F h H _ hL ok ?_;cases r with
 |no=>exact fin|ex c e=>exact λF h H hL ok=>fin σ F h H hL ok|ok d e=>
  intro v F1 hr hE h1 H1 av od j aq;obtain⟨dr,sF,az⟩:=zdu_ od j aq
  have fin:FinS K (match tgD tg d with
   |some ds=>(match setG pn e tg.is ds with |some e'=>.ok .nx e' |none=>.no)|none=>.no) E ws F0 H0 N:=fin
  cases e1:tgD tg d with
  |none=>rw[e1]at fin;exact fin.elim|some ds=>
   rw[e1]at fin;dsimp only at fin;cases e2:setG pn e tg.is ds with
   |none=>rw[e2]at fin;exact fin.elim|some e'=>
    rw[e2]at fin;exact tg_R tg ds v σ _ H1 _ az.1.2.1 (zpU_ e1 dr) λvs pl=>fin _ _ hE H1 (zbv_ hp e2 pl (av.mono sF)) az
theorem zlJ_ {is:List Nat}{r:Mr Env D}(hp:∀i,pn i=xk->ws i=xh)(he:EvE K t E ws env r):EvS K (tAsg t (gLst5 K (tgS is))) E ws env (asg5M pn is r):=by
 intro F0 H0 σ F h H N hL ok fin;refine he F0 H0 σ F h H _ hL ok ?_;cases r with
 |no=>exact fin|ex c e=>exact λF h H hL ok=>fin σ F h H hL ok|ok d e=>
  intro v F1 hr hE h1 H1 av od j aq;obtain⟨dr,sF,az⟩:=zdu_ od j aq;have dr:=DR.un dr;unfold asg5M at fin;dsimp only[Mr.bind]at fin;split at fin
  rotate_left
  ·exact fin.elim
  rename_i a b c x y ed
  split at fin
  rotate_left
  ·exact fin.elim
  rename_i hl
  rw[ed]at dr;obtain⟨p,us,rfl,n,r⟩:=dr.nd;obtain⟨u1,u2,u3,u4,u5,rfl⟩:∃u1 u2 u3 u4 u5,us=[u1,u2,u3,u4,u5]:=by
   have:=r.len
   match us,this with
   |[u1,u2,u3,u4,u5],_=>exact⟨u1,u2,u3,u4,u5,rfl⟩
  cases e2:setG pn e is [a,b,c,x,y]with
  |none=>rw[e2]at fin;exact fin.elim|some e'=>
   rw[e2]at fin;exact⟨u1,u2,u3,u4,u5,.of (az.1.2.1 _ _ n),zpH_ (by rw[hl];rfl) r λvs pl=>fin _ _ hE H1 (zbv_ hp e2 pl (av.mono sF)) az⟩
theorem zoO_ {r:Mr Env D}{g1 g2:Env->Mr Env Fl}(he:EvE K t E ws env r)(eY:∀e,EvS K s1 E ws e (g1 e))(aY:∀e,EvS K s2 E ws e (g2 e)):EvS K (mIfS (mTest t) s1 s2) E ws env (r.bind λd e=>ifM e (blD d) (g1 e) (g2 e)):=by
 intro F0 H0 σ F h H N hL ok fin;refine he F0 H0 σ F h H _ hL ok ?_;cases r with
 |no=>exact fin|ex c e=>exact λF h H hL ok=>fin σ F h H hL ok|ok d e=>
  intro v F1 hr hE h1 H1 av od j aq;obtain⟨dr,sF,az⟩:=zdu_ od j aq;have ha:=DR.un dr;have fin:FinS K (ifM e (blD d) (g1 e) (g2 e)) E ws F0 H0 N:=fin;unfold blD at fin;split at fin
  ·rename_i b e2
   rw[e2]at ha;cases ha.bl;refine⟨λz=>?_,λz=>?_⟩
   ·subst z;exact eY e F0 H0 σ _ hE H1 N (av.mono sF) az fin
   ·subst z;exact aY e F0 H0 σ _ hE H1 N (av.mono sF) az fin
  ·exact fin.elim
theorem zk1_ {t:TS}{r:Mr Env Fl}(h:EvS K t E0 ws env r):EvS K t E ws env (noEx r):=by
 intro F0 H0 σ F h0 H N hL ok fin;refine h F0 H0 σ F h0 H N hL ok ?_;cases r with
 |no=>exact fin|ex c e=>exact fin.elim|ok a e=>cases a<;>exact fin
mutual
theorem S.sound (g0:G.Ok K):∀(s:S) {pn:Nat->Bool}{ws:Ws}(hp:∀i,pn i=xk->ws i=xh) {E:XK}(env:Env),EvS K (s.den K G E) E ws env (S.run G pn s env)
 |.asg i y,pn,ws,hp,E,env=>zme_ hp (Y.sound g0 y env)|.asgT tg x,pn,ws,hp,E,env=>zlH_ hp (ee_x g0 x)|.asg5 is x,pn,ws,hp,E,env=>zlJ_ hp (ee_x g0 x)|.setF p n x,pn,ws,hp,E,env=>zkZ_ g0 n p x|.setI p k x,pn,ws,hp,E,env=>zna_ g0 p k x|.ex y,pn,ws,hp,E,env=>zkR_ (Y.sound g0 y env)|.ret y,pn,ws,hp,E,env=>zoG_ (Y.sound g0 y env)|.retN,pn,ws,hp,E,env=>zmx_|.if_ c a b,pn,ws,hp,E,env=>es_if (zfI_ (X.sound g0 c E env)) (S.sounds g0 a hp env) (S.sounds g0 b hp env)|.ifL c a b,pn,ws,hp,E,env=>es_if (zpp_ (X.sound g0 c E env)) (S.sounds g0 a hp env) (S.sounds g0 b hp env)|.ifY c a b,pn,ws,hp,E,env=>zoO_ (Y.sound g0 c env) (λe=>S.sounds g0 a hp e) λe=>S.sounds g0 b hp e|.for_ ik src tg b,pn,ws,hp,E,env=>zo0_ hp (zeJ_ g0 src env) λe=>S.sounds g0 b hp e|.raise c as,pn,ws,hp,E,env=>zim_ (zeJ_ g0 as env)|.tryC f x as cl tb i j gs,pn,ws,hp,E,env=>by
  show EvS K (tTryH (tDropX (CtG K f) (X.dens K G E0 as)) (tHAs K (gA K cl) i (hDen K G (hX i j xj gs)) tH0)) E ws env (if(cl,tb)∈G.ct then _ else _)
  split
  ·rename_i hm;exact zkV_ hp (g0.ct _ hm) (X.sounds g0 as E0 env) λc=>zhT_ g0 hp _ _
  ·exact es_no
 |.pass,pn,ws,hp,E,env=>zfM_|.never,pn,ws,hp,E,env=>λF0 H0 σ F h H N hL ok fin=>fin.elim|.try0 b bx,pn,ws,hp,E,env=>by
  show EvS K (tSeq (S.dens K G E0 b) (S.dens K G E bx)) E ws env (seqM (noEx (S.runs G pn b env)) λe=>S.runs G pn bx e)
  exact zjp_ (zk1_ (S.sounds g0 b hp env)) λe=>S.sounds g0 bx hp e
theorem S.sounds (g0:G.Ok K):∀(ss:List S) {pn:Nat->Bool}{ws:Ws}(hp:∀i,pn i=xk->ws i=xh) {E:XK}(env:Env),EvS K (S.dens K G E ss) E ws env (S.runs G pn ss env)
 |[],pn,ws,hp,E,env=>zfM_|s::ss,pn,ws,hp,E,env=>zjp_ (S.sound g0 s hp env) λe=>S.sounds g0 ss hp e
end
end
def pins (ds:List D)(i:Nat):Bool:=match ds[i]? with |some d=>!d.cold |none=>xk
def outs:List D->Env->List D
 |[],_=>[]|d::ds,o::env=>(if d.cold then d else match o with |some d'=>d' |none=>.gone)::outs ds env|d::ds,[]=>(if d.cold then d else .gone)::outs ds []
def fnOf (G:Gi)(n m:Nat)(body:List S):Fn:=λds=>if ds.length=n then(match S.runs G (pins ds) body (ds.map xg++ou m xh)with
 |.ok (.rt d) env=>.ok d (outs ds env)|.ok .nx env=>.ok .non (outs ds env)|.ex c env=>.ex c (outs ds env)|_=>.no)else .no
section
variable {K:pE}{E:XK}{F F' h H:Hp}{env:Env}{ws:Ws}{G:Gi}{σ:L2.St}
theorem zde_:∀(m:Nat) {ws:Ws}{h:Hp},Hold (LofW K ws (ou m xh)) (ou m xh) F h
 |0,ws,h=>trivial|m+1,ws,h=>by
  rw[pR,pR,zM_];exact⟨λ_=>xh,h,no_l _ λ_=>rfl,trivial,zde_ m⟩
def wsOf (ds:List D)(vs:List V):Ws:=λi=>if pins ds i then vs[i]? else xh
theorem zdR_ (m:Nat):∀{ds:List D}{vs:List V}{h:Hp}{ws:Ws},(∀(i:Nat) u,ws i=xg u->vs[i]?=xg u)->ODs K ds vs F h->Hold (LofW K ws (ds.map xg++ou m xh)) (vs.map xg++ou m xh) F h
 |[],_,h,ws,hw,q=>by
  unfold ODs at q;rw[q.1];exact zde_ m
 |d::ds,_,h,ws,hw,q=>by
  unfold ODs at q;obtain⟨v,vs,h1,h2,rfl,j,o,r⟩:=q;rw[nS,nS,qa,qa,zM_];exact⟨h1,h2,j,zcx_ (λu z=>by have:=hw 0 u z;simpa using this) o,zdR_ m (λi u z=>by have:=hw (i+1) u z;simpa using this) r⟩
theorem za5_:∀{ds:List D}{vs:List V}{env:Env}{σ:L2.St}{h h0:Hp}{ws:Ws},(∀(i:Nat) d,ds[i]?=xg d->d.cold=xk->ws i=vs[i]?)->ODs K ds vs F h0->Same F F'->Hold (LofW K ws env) σ F' h->∃h3,Same h3 h/\ODs K (outs ds env) vs F' h3
 |[],_,env,σ,h,h0,ws,hw,q,s,hL=>by
  unfold ODs at q;rw[q.1];refine⟨λ_=>xh,(λp o z=>by cases z),?_⟩
  unfold outs ODs;exact⟨rfl,λ_=>rfl⟩
 |d::ds,_,[],σ,h,h0,ws,hw,q,s,hL=>by
  unfold ODs at q;obtain⟨v,vs,h1,h2,rfl,j,od,r⟩:=q;obtain⟨h3,s3,os⟩:=za5_ (env:=[]) (σ:=σ) (h:=h) (ws:=λi=>ws (i+1)) (λi d' e c=>by have:=hw (i+1) d' (by simpa using e) c;simpa using this) r s hL
  refine⟨h3,s3,?_⟩;unfold outs ODs;refine⟨v,vs,λ_=>xh,h3,rfl,no_l _ λ_=>rfl,?_,os⟩
  by_cases hc:d.cold=xj
  ·rw[if_pos hc]
   have:=od.mono s;obtain⟨n,_⟩:=OD.cold hc this;have e:h1=λ_=>xh:=funext n
   rw[e]at this;exact this
  ·rw[if_neg hc];exact zbl_ λ_=>rfl
 |d::ds,_,o::env,[],h,h0,ws,hw,q,s,hL=>by rw[zM_]at hL;exact hL.elim
 |d::ds,_,o::env,x::σ,h,h0,ws,hw,q,s,hL=>by
  unfold ODs at q;obtain⟨v,vs,h1,h2,rfl,j,od,r⟩:=q;rw[zM_]at hL;obtain⟨k1,k2,jk,pp,hL⟩:=hL;obtain⟨h3,s3,os⟩:=za5_ (ws:=λi=>ws (i+1)) (λi d' e c=>by have:=hw (i+1) d' (by simpa using e) c;simpa using this) r s hL
  have d1:∀{m:Hp},Same m k1->Dj m h3:=λ{m} sm p=>by
   rcases jk.dj p with z |z
   ·exact .inl (sm.free z)
   ·exact .inr (s3.free z)
  have key:∃c m,Same m k1/\(if d.cold then d else match o with |some d'=>d' |none=>.gone)=c/\OD K c v F' m:=by
   by_cases hc:d.cold=xj
   ·obtain⟨_,dr⟩:=OD.cold hc od
    refine⟨d,λ_=>xh,(λp o z=>by cases z),by rw[if_pos hc],?_⟩
    have:=od.mono s;obtain⟨n,_⟩:=OD.cold hc this;have e:h1=λ_=>xh:=funext n
    rw[e]at this;exact this
   ·have hf:d.cold=xk:=by simpa using hc
    rw[if_neg hc];cases o with
    |none=>exact⟨.gone,λ_=>xh,(λp o z=>by cases z),rfl,zbl_ λ_=>rfl⟩|some d'=>
     obtain⟨v',e1,e2,o'⟩:=zce_ pp;have:ws 0=xg v:=by have:=hw 0 d (by simp) hf;simpa using this
     have:=e2 v this;subst this;exact⟨d',k1,Same.refl _,rfl,o'⟩
  obtain⟨c,m,sm,ec,oc⟩:=key;refine⟨un m h3,λp o z=>?_,?_⟩
  ·unfold un at z
   cases y:m p with
   |some w=>rw[y]at z;cases z;exact jk.l _ _ (sm _ _ y)|none=>rw[y]at z;exact jk.r _ _ (s3 _ _ z)
  ·unfold outs;rw[ec]
   unfold ODs;exact⟨v,vs,m,h3,rfl,zcF_ (d1 sm),oc,os⟩
theorem zlW_ (g0:G.Ok K){N:List Str}{n m:Nat}{body:List S}(hN:N.length=n+m):
  ∀vs H Q E,CtG K (fnOf G n m body) vs H Q E->S.dens K G E body {nx:=λ_ H'=>Q .non H',rt:=Q} (L2.start N vs) H:=by
 rintro vs H Q E ⟨F,h,ds,hs,dj,sh,os,fin⟩;have nt:=zep_ os;have ln:=ODs.len os;unfold fnOf at fin;split at fin
 rotate_left
 ·exact fin.elim
 rename_i hd
 have da:L2.start N vs=vs.map xg++ou m xh:=by unfold L2.start;rw[hN,<- ln,hd,Nat.add_sub_cancel_left]
 rw[da];have hw:∀(i:Nat) u,wsOf ds vs i=xg u->vs[i]?=xg u:=λi u z=>by
  unfold wsOf at z;split at z
  ·exact z
  ·cases z
 have hp:∀i,pins ds i=xk->wsOf ds vs i=xh:=λi z=>by unfold wsOf;rw[z];rfl
 have cZ:∀(i:Nat) d,ds[i]?=xg d->d.cold=xk->wsOf ds vs i=vs[i]?:=λi d e c=>by
  unfold wsOf pins;rw[e];simp[c]
 refine S.sounds g0 body hp _ F (less H h) _ F h H _ (zdR_ m hw os) (zcu_ hs dj sh nt) ?_;cases e:S.runs G (pins ds) body (ds.map xg++ou m xh)with
 |no=>rw[e]at fin;exact fin|ex c env=>
  rw[e]at fin;intro σ F' h' H' hL ok;obtain⟨h3,s3,os'⟩:=za5_ cZ os ok.1.1 hL;exact fin F' h3 H' (zeh_ ok s3) os'
 |ok o env=>
  rw[e]at fin;cases o with
  |nx=>
   intro σ F' h' H' hL ok;obtain⟨h3,s3,os'⟩:=za5_ cZ os ok.1.1 hL;exact fin .non F' h3 H' (λ_=>xh) h3 (zeh_ ok s3) (no_l _ λ_=>rfl) (zcG_ λ_=>rfl) os'
  |rt d=>
   intro v σ F' hr h2 h' H' hL od j ok;obtain⟨h3,s3,os'⟩:=za5_ cZ os ok.1.1 hL;have dd:Dj hr h3:=λp=>by rcases j.dj p with z |z;exact .inl z;exact .inr (s3.free z)
   refine fin v F' (un hr h3) H' hr h3 (zeh_ ok λp o z=>?_) (zcF_ dd) od os'
   unfold un at z;cases y:hr p with
   |some w=>rw[y]at z;cases z;exact j.l _ _ y|none=>rw[y]at z;exact j.r _ _ (s3 _ _ z)
  |ct=>exact fin.elim|bk=>exact fin.elim
end
noncomputable def noStar (e:oq):Bool:=e.ctorIdx != 22
noncomputable def noSup:oq->Bool
 |.Call (.Name x _) [] [] _=>x != "super" |_=>xj
noncomputable def noIf (e:oq):Bool:=e.ctorIdx != 5
noncomputable def noSl (e:oq):Bool:=e.ctorIdx != 26
noncomputable def noSet (e:oq):Bool:=e.ctorIdx != 7
noncomputable def noCmp (e:oq):Bool:=e.ctorIdx<8 ||10<e.ctorIdx
noncomputable def noTup (e:oq):Bool:=e.ctorIdx != 25
section
variable {env:PySem.Env}{e o:oq}{es:List oq}{pos:Pos}{m:Str}
theorem zc_ (h:noStar e=xj):oN (e::es) env=(xk,eval e env)::oN es env:=by
 cases e<;>first |rfl |cases h
theorem zbc_:∀{es:List oq},es.all noStar=xj->oN es env=es.map λe=>(xk,eval e env)
 |[],_=>rfl|e::es,h=>by
  rw[pK,aW]at h;rw[zc_ h.1,zbc_ h.2];rfl
theorem zO_ (h:es.all noStar=xj):((qJ pos (oN es env)).any λx=>x.1)=xk:=by
 rw[zbc_ h];unfold qJ;simp
theorem zje_ (h:es.all noStar=xj):((qJ pos (oN es env)).all λx=>!x.1)=xj:=by
 rw[zbc_ h];unfold qJ;simp
theorem zeQ_ (h:noSup o=xj):attributeBase o m env (eval o env)=eval o env:=by
 cases o with
 |Call f es ks q=>cases f with
  |Name id p=>cases es with
   |nil=>cases ks with
    |nil=>
     have h:(id != "super")=xj:=h;unfold attributeBase;dsimp only;rw[h];rfl
    |cons=>rfl
   |cons=>rfl
  |_=>rfl
 |_=>rfl
theorem zlo_ (h:es.all noStar=xj)(hl:es.length<29):methodCallForm (es.length+([]:List Keyword).length) (qJ pos (oN es env)) (uL pos (tw [] env))=xj:=by
 unfold methodCallForm;rw[zje_ h];simp[tw,uL];lia
theorem zm9_ (h:es.all noStar=xj)(hl:es.length<29):((((qJ pos (oN es env)).all λx=>!x.fst) && (uL pos (tw [] env)).all λx=>x.fst.isSome) && decide ((es.length+([]:List Keyword).length+if([]:List Keyword).isEmpty=xj then 0 else 1)<30))=xj:=zlo_ h hl
theorem zjc_ (h:noSl e=xj):PlainIx e:=λ_ _=>by
 cases e<;>first |rfl |cases h
theorem zaz_ {op:CmpOp}(h:noSet e=xj):behindInMarks op e=xk:=by
 cases e<;>first |rfl |cases h
theorem zcn_ (h:noSet e=xj)(x:nI):foldedSetIterable e env x=pure x:=by
 cases e<;>first |rfl |cases h
theorem zbO_ (h:noCmp e=xj)(t:Option oq)(n:Nat):swapsWith e t n env=pure xk:=by
 cases e<;>first |rfl |cases h
theorem zd0_ {tg:oq}(h:noTup e=xj):swappedStores [tg] e env=pure xh:=by
 cases tg<;>first |rfl |(cases e<;>first |rfl |cases h)
theorem ze9_ {o i:oq}{p:Pos}:swappedStores [.Subscript o i p] e env=pure xh:=by
 unfold swappedStores;rfl
noncomputable def plainT:oq->Bool
 |.UnaryOp .Not ..=>xk |.BoolOp ..=>xk |.IfExp ..=>xk |.Compare ..=>xk |_=>xj
theorem zda_ (h:plainT e=xj)(whole:Sem nI):isTrue e env whole=(do let v <- whole;standAt e.pos;holding [v] (truthy v)):=by
 cases e with
 |UnaryOp op a p=>cases op<;>first |rfl |cases h
 |_=>first |rfl |cases h
end
structure Ck where
 N:List Str
 nm:List (Str×qG)
structure Ft where
 bs:List Str
 at_:List Str
 gc:List (Str×V)
structure Ft.Ok (T:Ft)(G:Gi)(K:oK)(mg:Str->Option nI):Prop where
 bs:∀x∈T.bs,mg x=xh
 cls:∀c∈G.cs,Cls K (gA K c)
 at_:∀c∈G.cs,∀a∈T.at_,NoAttr K (gA K c) a
 gc:∀q∈T.gc,Gc mg q.1 q.2
 kt:∀q∈G.kt,Gc mg q.1 (.ref (gA K q.1))
 ex:∀x∈G.ex,Gc mg x (.ref (gA K x))
inductive Fc where
 |call (f:Fn) (x:Str)|make (f:Fn) (c:Str)|exc (c:Str)|cls (f:Fn) (c m:Str)
def Fc.H (P:oH)(w:oV)(K:oK)(mg:Str->Option nI)(base:Heap)(k:Nat):Fc->Prop
 |.call f x=>∃ps j,j<=k/\Gd P w K mg base (CXx P w) j x ps (CtG K f)|.make f c=>∃ps j,j+1<=k/\Gk P w K mg base (CXx P w) j c (gA K c) ps (CtG K f)|.cls f c m=>∃ps j,j<=k/\Gs P w K mg base (CXx P w) j c m ps (CtG K f)|.exc c=>excK K (gA K c)=xj/\mg c=xg (.ref (gA K c))
mutual
def X.fcs:X->List Fc
 |.v _=>[]|.k _=>[]|.g _ _=>[]|.gt _ _=>[]
 |.bin _ a b=>a.fcs++b.fcs|.ch _ _ a b c=>a.fcs++(b.fcs++c.fcs)|.and a b=>a.fcs++b.fcs|.or a b=>a.fcs++b.fcs|.not a=>a.fcs|.neg a=>a.fcs|.ifx c a b=>c.fcs++(a.fcs++b.fcs)|.sl a lo hi=>a.fcs++(X.fcsO lo++X.fcsO hi)|.tup as=>X.fcss as|.lst as=>X.fcss as|.fld a _=>a.fcs|.call f x as=>.call f x::X.fcss as|.bf _ as=>X.fcss as|.comp _ _ _ src _ c e=>X.fcss src++(X.fcsO c++e.fcs)|.make f c as=>.make f c::X.fcss as|.lr a b=>a.fcs++b.fcs|.isa a _=>a.fcs|.isx a _ _=>a.fcs|.ds2 a0 b0 c0 d0=>a0.fcs++(b0.fcs++(c0.fcs++d0.fcs))|.ds3 a0 b0 c0 d0 e0 f0=>a0.fcs++(b0.fcs++(c0.fcs++(d0.fcs++(e0.fcs++f0.fcs))))|.dct0=>[]|.ch3 _ _ _ a b c d=>(a.fcs++b.fcs)++(c.fcs++d.fcs)
def X.fcss:List X->List Fc
 |[]=>[]|a::as=>a.fcs++X.fcss as
def X.fcsO:Option X->List Fc
 |none=>[]|some a=>a.fcs
end
noncomputable def visB:Option qG->Bool
 |some .local=>xj |some .cell=>xj |some .free=>xj |_=>xk
noncomputable def locB:Option qG->Bool
 |some .local=>xj |some .cell=>xj |_=>xk
noncomputable def nmOk (x:Str):Bool:=!(x=="__debug__") && !(x=="__classdict__")
def glB (c:Ck)(x:Str):Bool:=c.nm.lookup x==xg .globalImplicit && !(x=="__debug__")
def constB (d:D):Const->Bool
 |.int i=>(match d with |.int j=>i == j |_=>xk)|.bool b=>(match d with |.bl c=>b == c |_=>xk)|.none=>(match d with |.non=>xj |_=>xk)|.str x=>(match d with |.str l=>x.cps.toList == l |_=>xk)|_=>xk
noncomputable def Bo.op:Bo->Option Operator
 |.add=>xg .Add |.sub=>xg .Sub |.mul=>xg .Mult |.mod=>xg .Mod |.div=>xg .FloorDiv |_=>xh
noncomputable def Bo.cmp:Bo->Option CmpOp
 |.lt=>xg .Lt |.le=>xg .LtE |.gt=>xg .Gt |.eq=>xg .Eq |.ne=>xg .NotEq |.is=>xg .Is |.isn=>xg .IsNot |.inn=>xg .In |_=>xh
noncomputable def Bo.isIx:Bo->Bool
 |.ix=>xj |_=>xk
noncomputable def Bf.nm:Bf->Str
 |.len => "len" |.list => "list" |.min => "min" |.all => "all" |.sorted => "sorted"
noncomputable def tyNm:String->Option Str
 |"int" => xg "int" |"bool" => xg "bool" |"str" => xg "str" |"list" => xg "list" |"tuple" => xg "tuple" |"dict" => xg "dict" |_=>xh
def relab (nm names:List (Str×qG)):List (Str×qG):=names.map λ(n,k)=>if k == .free && nm.lookup n == xg .cell then(n,.cell)else(n,k)
def tgB (c:Ck)(i:Nat):oq->Bool
 |.Name x _=>c.N[i]? == xg x && locB (c.nm.lookup x)|_=>xk
def tgsB (c:Ck):List Nat->List oq->Bool
 |[],[]=>xj|i::is,e::es=>tgB c i e && tgsB c is es|_,_=>xk
def tgOk (c:Ck)(g:Tg)(e:oq):Bool:=match g.tup,e with
 |true,.Tuple es _ _=>tgsB c g.is es|false,e=>g.is.length == 1 && tgB c (g.is.headD 0) e|_,_=>xk
def locals? (c:Ck)(g:Tg):Bool:=g.is.all λi=>match c.N[i]? with |some x=>c.nm.lookup x == xg .local |none=>xk
def scB (c:Ck)(sc:Scope)(lv:List Str)(fr:List (Str×Nat)):Bool:=
 sc.names.all (λy=>y.2 != .cell && (y.2 != .free ||c.nm.lookup y.1 == xg .cell ||c.nm.lookup y.1 == xg .free) && (y.2 != .local ||sc.names.lookup y.1 == xg .local)) && sc.kind == .function &&
 fr.all (λq=>c.N[q.2]? == xg q.1 && sc.names.contains (q.1,NameKind.free) && (c.nm.lookup q.1 == xg .cell ||c.nm.lookup q.1 == xg .free) && ((relab c.nm sc.names).lookup q.1 == xg .cell ||(relab c.nm sc.names).lookup q.1 == xg .free)) && decide (cN lv fr).Nodup
noncomputable def kc:List oq->(oq->List oq->Bool)->Bool
 |a::l,k=>k a l |[],_=>xk
noncomputable def kco:List (Option oq)->(oq->List (Option oq)->Bool)->Bool
 |some a::l,k=>k a l |_,_=>xk
def elB {p:Prop}[Decidable p](f:p->Bool):Bool:=if h:p then f h else xk
theorem elB_ {p:Prop}[Decidable p]{f:p->Bool}{C:Prop}(h:elB f=xj)(H:p->C):C:=by
 unfold elB at h;split at h
 ·exact H ‹_›
 ·cases h
def kN (e:oq)(k:Str->Bool):Bool:=elB λi=>Expr.Name.elim e i λx _=>k x
def kC (e:oq)(k:oq->List oq->Pos->Bool):Bool:=elB λi=>Expr.Call.elim e i λf es ks q=>ks.isEmpty && k f es q
def kA (e:oq)(k:oq->Str->Pos->Bool):Bool:=elB λi=>Expr.Attribute.elim e i λo m p=>k o m p
def kB (e:oq)(k:oq->Operator->oq->Bool):Bool:=elB λi=>Expr.BinOp.elim e i λl o r _=>k l o r
def kM (e:oq)(k:oq->List CmpOp->List oq->Bool):Bool:=elB λi=>Expr.Compare.elim e i λl o r _=>k l o r
def kS (e:oq)(k:oq->oq->Bool):Bool:=elB λi=>Expr.Subscript.elim e i λl r _=>k l r
def kL (e:oq)(k:Option oq->Option oq->Option oq->Bool):Bool:=elB λi=>Expr.Slice.elim e i λa b c _=>k a b c
def kU (e:oq)(k:UnaryOp->oq->Bool):Bool:=elB λi=>Expr.UnaryOp.elim e i λo x _=>k o x
def kI (e:oq)(k:oq->oq->oq->Bool):Bool:=elB λi=>Expr.IfExp.elim e i λt x y _=>k t x y
def kT (e:oq)(k:List oq->Bool):Bool:=elB λi=>Expr.Tuple.elim e i λes _ _=>k es
def kW (e:oq)(k:List oq->Bool):Bool:=elB λi=>Expr.List.elim e i λes _=>k es
def kK (e:oq)(k:Const->Bool):Bool:=elB λi=>Expr.Constant.elim e i λc _ _=>k c
def kG (e:oq)(k:oq->List Comprehension->Scope->Bool):Bool:=elB λi=>Expr.ListComp.elim e i λx g s _=>k x g s
def kDi (e:oq):Bool:=elB λi=>Expr.Dict.elim e i λa b _=>a.isEmpty && b.isEmpty
def kDd (e:oq)(k:List (Option oq)->List oq->Bool):Bool:=elB λi=>Expr.Dict.elim e i λa b _=>k a b
def kO (o:BoolOp)(e:oq)(k:oq->oq->Bool->Bool):Bool:=elB λi=>Expr.BoolOp.elim e i λo' es p=>o' == o && kc es λx es=>kc es λy l=>k x (bif l.isEmpty then y else .BoolOp o (y::l) p) l.isEmpty
section
variable {e:oq}{C:oq->Prop}
theorem kc_ {l:List oq}{C:List oq->Prop}{k}(h:kc l k=xj)(H:∀a t,k a t=xj->C (a::t)):C l:=by cases l with |nil=>cases h |cons a t=>exact H a t h
theorem kco_ {l:List (Option oq)}{C:List (Option oq)->Prop}{k}(h:kco l k=xj)(H:∀a t,k a t=xj->C (xg a::t)):C l:=by
 cases l with
 |nil=>cases h|cons a t=>cases a with |none=>cases h |some a=>exact H a t h
theorem kN_ {k}(h:kN e k=xj)(H:∀x p,k x=xj->C (.Name x p)):C e:=elB_ h λi=>Expr.Name.elim (motive_1:=λe=>kN e k=xj->C e) e i H h
theorem kC_ {k}(h:kC e k=xj)(H:∀f es q,k f es q=xj->C (.Call f es [] q)):C e:=elB_ h λi=>Expr.Call.elim (motive_1:=λe=>kC e k=xj->C e) e i (λf es ks q h=>by cases ks with |nil=>exact H f es q h |cons=>cases h) h
theorem kA_ {k}(h:kA e k=xj)(H:∀o m p,k o m p=xj->C (.Attribute o m p)):C e:=elB_ h λi=>Expr.Attribute.elim (motive_1:=λe=>kA e k=xj->C e) e i H h
theorem kB_ {k}(h:kB e k=xj)(H:∀l o r p,k l o r=xj->C (.BinOp l o r p)):C e:=elB_ h λi=>Expr.BinOp.elim (motive_1:=λe=>kB e k=xj->C e) e i H h
theorem kM_ {k}(h:kM e k=xj)(H:∀l o r p,k l o r=xj->C (.Compare l o r p)):C e:=elB_ h λi=>Expr.Compare.elim (motive_1:=λe=>kM e k=xj->C e) e i H h
theorem kS_ {k}(h:kS e k=xj)(H:∀l r p,k l r=xj->C (.Subscript l r p)):C e:=elB_ h λi=>Expr.Subscript.elim (motive_1:=λe=>kS e k=xj->C e) e i H h
theorem kL_ {k}(h:kL e k=xj)(H:∀a b c p,k a b c=xj->C (.Slice a b c p)):C e:=elB_ h λi=>Expr.Slice.elim (motive_1:=λe=>kL e k=xj->C e) e i H h
theorem kU_ {k}(h:kU e k=xj)(H:∀o x p,k o x=xj->C (.UnaryOp o x p)):C e:=elB_ h λi=>Expr.UnaryOp.elim (motive_1:=λe=>kU e k=xj->C e) e i H h
theorem kI_ {k}(h:kI e k=xj)(H:∀t x y p,k t x y=xj->C (.IfExp t x y p)):C e:=elB_ h λi=>Expr.IfExp.elim (motive_1:=λe=>kI e k=xj->C e) e i H h
theorem kT_ {k}(h:kT e k=xj)(H:∀es n p,k es=xj->C (.Tuple es n p)):C e:=elB_ h λi=>Expr.Tuple.elim (motive_1:=λe=>kT e k=xj->C e) e i H h
theorem kW_ {k}(h:kW e k=xj)(H:∀es p,k es=xj->C (.List es p)):C e:=elB_ h λi=>Expr.List.elim (motive_1:=λe=>kW e k=xj->C e) e i H h
theorem kK_ {k}(h:kK e k=xj)(H:∀c n p,k c=xj->C (.Constant c n p)):C e:=elB_ h λi=>Expr.Constant.elim (motive_1:=λe=>kK e k=xj->C e) e i H h
theorem kG_ {k}(h:kG e k=xj)(H:∀x g s p,k x g s=xj->C (.ListComp x g s p)):C e:=elB_ h λi=>Expr.ListComp.elim (motive_1:=λe=>kG e k=xj->C e) e i H h
theorem kDi_ (h:kDi e=xj)(H:∀p,C (.Dict [] [] p)):C e:=elB_ h λi=>Expr.Dict.elim (motive_1:=λe=>kDi e=xj->C e) e i (λa b p h=>by cases a<;>cases b<;>first |exact H p |cases h) h
theorem kDd_ {k}(h:kDd e k=xj)(H:∀a b p,k a b=xj->C (.Dict a b p)):C e:=elB_ h λi=>Expr.Dict.elim (motive_1:=λe=>kDd e k=xj->C e) e i H h
theorem kO_ {o:BoolOp}{k}(h:kO o e k=xj)(H:∀x y l p,k x (bif l.isEmpty then y else .BoolOp o (y::l) p) l.isEmpty=xj->C (.BoolOp o (x::y::l) p)):C e:=elB_ h λi=>Expr.BoolOp.elim (motive_1:=λe=>kO o e k=xj->C e) e i (λo' es p h=>by
 have h:=pj.mp h;cases eq_of_beq h.1;exact kc_ (C:=λl=>C (.BoolOp o l p)) h.2 λx t h=>kc_ (C:=λl=>C (.BoolOp o (x::l) p)) h λy l h=>H x y l p h) h
end
noncomputable def Ik.isAny:Ik->Bool
 |.any=>xj |_=>xk
noncomputable def Ik.nm:Ik->Str
 |.en => "enumerate" |.zip => "zip" |_ => "range"
noncomputable def Ik.ar:Ik->Nat
 |.zip=>2 |_=>1
noncomputable def Ik.tp:Ik->Bool
 |.en=>xj |.zip=>xj |_=>xk
section
variable (T:Ft)(G:Gi)
def srcB (c:Ck)(ik:Ik)(tg:Tg)(it:oq)(k1:Bool)(ks:List oq->Bool):Bool:=bif ik.isAny then k1 else
 kC it λf es _=>kN f λy=>y == ik.nm && es.length == ik.ar && glB c y && T.bs.contains y && (tg.tup || !ik.tp) && ks es
def varB (c:Ck)(i:Nat)(e:oq):Bool:=kN e λx=>c.N[i]? == xg x && visB (c.nm.lookup x) && nmOk x
def nmB (c:Ck)(q:String×Bool)(z:oq):Bool:=kN z λn=>n==q.1 && glB c n && (bif q.2 then G.ex.contains n else q.1=="ValueError" && T.bs.contains n)
def nmsB (c:Ck):List (String×Bool)->List oq->Bool
 |[],[]=>xj|q::qs,z::zs=>nmB T G c q z && nmsB c qs zs|_,_=>xk
def clsB (c:Ck)(ns:List (String×Bool))(z:oq):Bool:=match ns with |[q]=>nmB T G c q z |ns=>kT z (nmsB T G c ns)
mutual
def chkE:Ck->X->oq->Bool
 |c,.v i,e=>kN e λx=>c.N[i]? == xg x && visB (c.nm.lookup x) && nmOk x|c,.k d,e=>kK e (constB d)|c,.g x d,e=>kN e λy=>x == y && glB c x && (d.flat?).any λv=>T.gc.contains (x,v)|c,.gt x ls,e=>kN e λy=>x == y && glB c x && G.kt.any (λq=>q.1 == x)| c,.bin o a b,e=>kB e (λl op r=>o.op == xg op && chkE c a l && chkE c b r)||
   (kM e (λl os rs=>kc rs λr t=>os.map xg == [o.cmp] && t.isEmpty && noSet r && chkE c a l && chkE c b r)||
   kS e (λl r=>o.isIx && noSl r && chkE c a l && chkE c b r))
 |c,.ch o o' a b d,e=>kM e λl os rs=>kc rs λr t=>kc t λr' t'=>os.map xg == [o.cmp,o'.cmp] && t'.isEmpty && noSet r' && chkE c a l && chkE c b r && chkE c d r'|c,.and a b,e=>kO .And e λx y l=>noIf x && (!l ||noIf y) && chkE c a x && chkE c b y|c,.or a b,e=>kO .Or e λx y l=>noIf x && (!l ||noIf y) && chkE c a x && chkE c b y|c,.not a,e=>kU e λo x=>o == .Not && noIf x && chkE c a x|c,.neg a,e=>kU e λo x=>o == .USub && chkE c a x|c,.ifx d a b,e=>kI e λt x y=>noIf t && chkE c d t && chkE c a x && chkE c b y|c,.sl a lo hi,e=>kS e λl r=>kL r λl1 l2 l3=>l3.isNone && chkE c a l && chkO c lo l1 && chkO c hi l2|c,.tup as,e=>kT e (chkEs c as)|c,.lst as,e=>kW e (chkEs c as)|c,.fld a f,e=>kA e λo f' _=>f == f' && T.at_.contains f && noSup o && chkE c a o|c,.call f x as,e=>kC e λy es _=>kN y λy=>x == y && glB c x && chkEs c as es|c,.bf o as,e=>kC e λy es _=>kN y λy=>y == o.nm && glB c y && T.bs.contains y && !as.isEmpty && chkEs c as es| c,.comp lv fr ik src tg d x,e=>kG e λelt gs sc=>gs.length == 1 && gs.all λq=>q.is_async == 0 && scB c sc lv fr && tgOk ⟨cN lv fr,relab c.nm sc.names⟩ tg q.target && locals? ⟨cN lv fr,relab c.nm sc.names⟩ tg && noSet q.iter &&
   srcB T c ik tg q.iter (chk1 c src q.iter) (λes=>chkEs c src es) && chkIf ⟨cN lv fr,relab c.nm sc.names⟩ d q.ifs && chkE ⟨cN lv fr,relab c.nm sc.names⟩ x elt
 |c,.make f k as,e=>kC e λy es _=>kN y λy=>k == y && glB c y && chkEs c as es|c,.lr a b,e=>kC e λy es _=>kN y λy=>kc es λr t=>kC r λz xs _=>kN z λz=>kc xs λx t1=>kc t1 λw t2=>y=="list" && z=="range" && t.isEmpty && t2.isEmpty && glB c y && glB c z && T.bs.contains y && T.bs.contains z && noStar x && noStar w && chkE c a x && chkE c b w|c,.isx a ns _,e=>kC e λy es _=>kN y λy=>kc es λx t=>kc t λz t2=>y=="isinstance" && t2.isEmpty && glB c y && T.bs.contains y && noStar x && clsB T G c ns z && chkE c a x|c,.isa a n,e=>kC e λy es _=>kN y λy=>kc es λx t=>kc t λz t2=>kN z λz=>y=="isinstance" && t2.isEmpty && glB c y && T.bs.contains y && noStar x && tyNm n==xg z && glB c z && T.bs.contains z && chkE c a x|c,.ds3 a b d f m u,e=>kDd e λks vs=>kco ks λk kt=>kco kt λl lt=>kco lt λn nt=>kc vs λv vt=>kc vt λw wt=>kc wt λz zt=>nt.isEmpty && zt.isEmpty && chkE c a k && chkE c b v && chkE c d l && chkE c f w && chkE c m n && chkE c u z|c,.ds2 a b d f,e=>kDd e λks vs=>kco ks λk kt=>kco kt λl lt=>kc vs λv vt=>kc vt λw wt=>lt.isEmpty && wt.isEmpty && chkE c a k && chkE c b v && chkE c d l && chkE c f w|_,.dct0,e=>kDi e|c,.ch3 o o' aI a b d f,e=>kM e λl os rs=>kc rs λr t=>kc t λr' t'=>kc t' λbp iR=>os.map xg == [o.cmp,o'.cmp,aI.cmp] && iR.isEmpty && noSet bp && chkE c a l && chkE c b r && chkE c d r' && chkE c f bp
def chk1:Ck->List X->oq->Bool
 |_,[],_=>xk|c,a::as,e=>as.isEmpty && chkE c a e
def chkEs:Ck->List X->List oq->Bool
 |_,[],es=>es.isEmpty|c,a::as,es=>kc es λe es=>noStar e && chkE c a e && chkEs c as es
def chkO:Ck->Option X->Option oq->Bool
 |_,xh,e=>e.isNone|c,xg a,e=>e.any (chkE c a)
def chkIf:Ck->Option X->List oq->Bool
 |_,xh,es=>es.isEmpty|c,xg a,es=>kc es λe t=>t.isEmpty && noIf e && chkE c a e
end
end
structure Ch (Z:Cx)(c:Ck):Prop where
 N:Z.N=c.N
 nm:Z.env.scope.names=c.nm
 kind:Z.env.scope.kind=.function
structure Cg (Z:Cx)(c:Ck)(k:Nat)(E:XK):Prop extends Ch Z c where
 calm:Z.calm=xj
 room:Room k Z.A
 pass:Passes (CXx Z.prog Z.w) Z E
 cells:∀x,(c.nm.lookup x=xg .cell\/c.nm.lookup x=xg .free)->∃a,Z.env.cells.lookup x=xg a
section
variable {Z:Cx}{c:Ck}{k:Nat}{E:XK}{x:Str}{e:oq}{es:List oq}{t:TE}{ta:TA}{p pos:Pos}
theorem Cg.units (g:Cg Z c k E):Z.A.units+60<cLine:=by have:=g.room.un;lia
theorem zk6_ (g:Ch Z c)(h:visB (c.nm.lookup x)=xj):Vis Z.env.scope x:=by
 unfold Vis;rw[g.nm]
 revert h;cases c.nm.lookup x with
 |none=>intro h;cases h
 |some k=>cases k<;>intro h<;>first |exact .inl rfl |exact .inr (.inl rfl)|exact .inr (.inr rfl)|cases h
theorem zjx_ (g:Ch Z c)(h:locB (c.nm.lookup x)=xj):L2.Loc Z.env.scope x:=by
 unfold L2.Loc;rw[g.nm]
 revert h;cases c.nm.lookup x with
 |none=>intro h;cases h
 |some k=>cases k<;>intro h<;>first |exact .inl rfl |exact .inr rfl |cases h
theorem zdr_ (g:Ch Z c)(h:glB c x=xj):Gl Z x/\(x==("__debug__":Str))=xk:=by
 unfold glB at h;rw[aW]at h;refine⟨?_,by simpa using h.2⟩
 unfold Gl tR;rw[g.nm];exact eq_of_beq h.1
structure Rd (Z:Cx)(e:oq)(t:TE):Prop where
 pe:PE Z e t
 pt:noIf e=xj->PT Z e (mTest t)
 pw:∀op vs p,e=.BoolOp op vs p->PW Z e (mTest t)
theorem zh_ (h:PE Z e t)(hp:plainT e=xj):Rd Z e t:=⟨h,λ_=>zlq_ h (zda_ hp),λop vs p z=>by rw[z]at hp;cases hp⟩
theorem rd_if (h:PE Z e t)(hp:noIf e=xk):Rd Z e t:=⟨h,(λz=>by rw[hp]at z;cases z),(λop vs p z=>by rw[z]at hp;cases hp)⟩
theorem zmj_ {a b:oq}{t1 t2:TE}{op:CmpOp}{r:R2}(ho:OpR Z (oQ op) r)(ha:Rd Z a t1)(hb:Rd Z b t2)(hs:noSet b=xj):Rd Z (.Compare a [op] [b] pos) (tOp r t1 t2):=
 ⟨zld_ ho ha.pe hb.pe (zaz_ hs),λ_=>zkf_ ho ha.pe hb.pe (zaz_ hs),λ_ _ _ z=>by cases z⟩
theorem zia_ {a b d:oq}{t1 t2 t3:TE}{op aE:CmpOp}{r r':R2}(ho:OpR Z (oQ op) r)(aL:OpR Z (oQ aE) r')(ha:Rd Z a t1)(hb:Rd Z b t2)(hd:Rd Z d t3)(hs:noSet d=xj):Rd Z (.Compare a [op,aE] [b,d] pos) (mChain r r' t1 t2 t3):=
 ⟨zgS_ ho aL ha.pe hb.pe hd.pe (zaz_ hs),λ_=>zhq_ ho aL ha.pe hb.pe hd.pe (zaz_ hs),λ_ _ _ z=>by cases z⟩
theorem zeB_ (t1 t2:TE):mTest (mAndV t1 t2)=mAnd (mTest t1) (mTest t2):=by
 funext σ H Q;exact congrArg (t1 σ H) (funext λx=>funext λH1=>by cases x<;>rfl)
theorem zhC_ (t1 t2:TE):mTest (mOrV t1 t2)=mOr (mTest t1) (mTest t2):=by
 funext σ H Q;exact congrArg (t1 σ H) (funext λx=>funext λH1=>by cases x<;>rfl)
theorem zi1_ (t1:TE):mTest (mNotV t1)=tNot (mTest t1):=by
 funext σ H Q;exact congrArg (t1 σ H) (funext λx=>funext λH1=>by cases x<;>rfl)
theorem zd9_ {op:BoolOp}{vs:List oq}(h:PE Z (.BoolOp op vs pos) t)(h2:PW Z (.BoolOp op vs pos) (mTest t)):Rd Z (.BoolOp op vs pos) t:=⟨h,λ_=>h2.pt,λ_ _ _ _=>h2⟩
theorem zhv_ {a b:oq}{t1 t2:TE}(ha:Rd Z a t1)(hb:Rd Z b t2)(na:noIf a=xj)(nb:noIf b=xj):Rd Z (.BoolOp .And [a,b] pos) (mAndV t1 t2):=
 zd9_ (zhU_ ha.pe (zml_ hb.pe)) (by rw[zeB_];exact zhF_ (ha.pt na) (zkK_ (hb.pt nb)))
theorem zkY_ {a b d:oq}{r:List oq}{t1 t2:TE}(ha:Rd Z a t1)(hb:Rd Z (.BoolOp .And (b::d::r) pos) t2)(na:noIf a=xj):Rd Z (.BoolOp .And (a::b::d::r) pos) (mAndV t1 t2):=
 zd9_ (zhU_ ha.pe hb.pe) (by rw[zeB_];exact zhF_ (ha.pt na) (hb.pw _ _ _ rfl))
theorem zmT_ {a b:oq}{t1 t2:TE}(ha:Rd Z a t1)(hb:Rd Z b t2)(na:noIf a=xj)(nb:noIf b=xj):Rd Z (.BoolOp .Or [a,b] pos) (mOrV t1 t2):=
 zd9_ (zmE_ ha.pe (zml_ hb.pe)) (by rw[zhC_];exact zkW_ (ha.pt na) (zn8_ (hb.pt nb)))
theorem rd_or {a b d:oq}{r:List oq}{t1 t2:TE}(ha:Rd Z a t1)(hb:Rd Z (.BoolOp .Or (b::d::r) pos) t2)(na:noIf a=xj):Rd Z (.BoolOp .Or (a::b::d::r) pos) (mOrV t1 t2):=
 zd9_ (zmE_ ha.pe hb.pe) (by rw[zhC_];exact zkW_ (ha.pt na) (hb.pw _ _ _ rfl))
theorem zmq_ {a:oq}{t1:TE}(ha:Rd Z a t1)(na:noIf a=xj):Rd Z (.UnaryOp .Not a pos) (mNotV t1):=
 ⟨zlp_ ha.pe,λ_=>by rw[zi1_];exact zoN_ (ha.pt na),λ_ _ _ z=>by cases z⟩
theorem zpT_ {b:Bo}{op:Operator}(h:b.op=xg op):OpR Z (qy op) (b.r Z.K):=by
 cases b<;>cases h
 ·exact zmr_
 ·exact zmw_
 ·exact zmZ_
 ·exact zlI_
 ·exact zmz_
theorem zdm_ (hu:Z.A.units+60<cLine){b:Bo}{op:CmpOp}(h:b.cmp=xg op):OpR Z (oQ op) (b.r Z.K):=by
 cases b<;>cases h
 ·exact zn1_
 ·exact zp5_
 ·exact zoK_
 ·exact znQ_ hu
 ·exact zo8_ hu
 ·exact zpj_
 ·exact zgT_
 ·exact zpb_ hu
theorem ziB_ {d:D}{kc:Const}{j:Nat}(h:constB d kc=xj):PE Z (.Constant kc j pos) (tC (d.flat?.getD .non)):=by
 cases kc with
 |int i=>cases d<;>first |(cases eq_of_beq h;exact znG_)|cases h
 |bool b=>cases d<;>first |(cases eq_of_beq h;exact pe_bl)|cases h
 |none=>cases d<;>first |exact zpt_ |cases h
 |str z=>cases d<;>first |(have h:=eq_of_beq h;subst h;exact znZ_ (by cases z;rfl))|cases h
 |_=>cases h
theorem zjj_ {sp:Sp}{ps:List Str}{j:Nat}(F:Gd Z.prog Z.w Z.K Z.mg Z.base (CXx Z.prog Z.w) j x ps sp)(hr:Room j Z.A)(hx:Passes (CXx Z.prog Z.w) Z E)(ha:PA Z es ta)(hs:es.all noStar=xj)(hg:Gl Z x)(hd:(x==("__debug__":Str))=xk)(h0:es=[]->ta=tNil):
  PE Z (.Call (.Name x p) es [] pos) (tCall sp [] E ta):=by
 cases es with
 |nil=>
  rw[h0 rfl];obtain⟨f,fd,F,hm,hk,hb⟩:=F;exact zjk_ F hr hg hm hk hb .nil hx hd
 |cons e es=>
  rw[pK,aW]at hs;obtain⟨f,fd,F,hm,hk,hb⟩:=F;exact zk7_ F hr hg hm hk hb .nil hx ha hd (zc_ hs.1) (zO_ hs.2)
theorem ziy_ {sp:Sp}{ps:List Str}{j:Nat}{C:nR}(F:Gk Z.prog Z.w Z.K Z.mg Z.base (CXx Z.prog Z.w) j x C ps sp)(hr:Room (j+1) Z.A)(hx:Passes (CXx Z.prog Z.w) Z E)(ha:PA Z es ta)(hs:es.all noStar=xj)(hg:Gl Z x)(hd:(x==("__debug__":Str))=xk)(h0:es=[]->ta=tNil):
  PE Z (.Call (.Name x p) es [] pos) (tMake C sp [] E ta):=by
 cases es with
 |nil=>
  rw[h0 rfl];obtain⟨f,fd,F,M,hm,hb⟩:=F;exact zjV_ M F hr hg hm hb .nil hx hd
 |cons e es=>
  rw[pK,aW]at hs;obtain⟨f,fd,F,M,hm,hb⟩:=F;exact zk9_ M F hr hg hm hb .nil hx ha hd (zc_ hs.1) (zO_ hs.2)
theorem bf_pe (g:Cg Z c k E){b:Bf}(hm:Z.mg b.nm=xh)(ha:PA Z es ta)(hs:es.all noStar=xj)(h0:es≠[])(hg:glB c b.nm=xj):PE Z (.Call (.Name b.nm p) es [] pos) (tCB (b.r Z.K) ta):=by
 obtain⟨g1,g2⟩:=zdr_ g.toCh hg;cases es with
 |nil=>exact absurd rfl h0|cons e es=>
  rw[pK,aW]at hs;have s1:=zc_ (env:=Z.env) (es:=es) hs.1;have s2:=zO_ (env:=Z.env) (pos:=pos) hs.2;cases b with
  |len=>exact zjt_ zhn_ hm ha g1 rfl (by decide) g2 s1 s2|list=>exact zo7_ "list" (zfW_ g.calm) hm ha g1 rfl (by decide) g2 s1 s2|min=>exact zjt_ (zgl_ g.calm) hm ha g1 rfl (by decide) g2 s1 s2|all=>exact zjt_ (zg7_ g.calm) hm ha g1 rfl (by decide) g2 s1 s2|sorted=>exact zjt_ (zf1_ g.calm) hm ha g1 rfl (by decide) g2 s1 s2
variable {m:Str}{T:Ft}{G:Gi}{o:oq}
theorem zbZ_ {cells:List (Str×nR)}:∀(names:List (Str×qG)) (acc:List (Str×nR)),(∀y∈names,y.2=.free->∃a,cells.lookup y.1=xg a)->∃cl,closeL cells names acc=xg cl
 |[],acc,_=>⟨acc,rfl⟩|(n,k)::r,acc,h=>by
  unfold closeL;split
  ·rename_i hk
   obtain⟨a,ha⟩:=h (n,k) (nV ..) (eq_of_beq hk);rw[show cells.lookup n=xg a from ha]
   exact zbZ_ r _ λy hy=>h y (nY _ hy)
  ·exact zbZ_ r _ λy hy=>h y (nY _ hy)
theorem zdA_ (g:Cg Z c k E){sc:Scope}:(relabel sc Z.env).names=relab c.nm sc.names:=by
 unfold relabel relab tR;rw[g.kind,g.nm];simp
theorem zfK_ (g:Cg Z c k E){sc:Scope}{lv:List Str}{fr:List (Str×Nat)}(h:scB c sc lv fr=xj):
  (cN lv fr).Nodup/\∃cl,CScope Z sc cl lv fr/\∀C fp s2 H2,Cg (cxComp Z sc cl C (cN lv fr) fp s2 H2) ⟨cN lv fr,relab c.nm sc.names⟩ k E0:=by
 unfold scB at h;rw[aW,aW,aW]at h;obtain⟨⟨⟨h1,h2⟩,h3⟩,h4⟩:=h;have h1:=pQ.mp h1;have h3:=pQ.mp h3;have h2:sc.kind=.function:=eq_of_beq h2;have hc:∀y∈sc.names,y.2≠.cell:=λy hy=>by have:=h1 y hy;simp at this;exact this.1.1
 have hf:∀y∈sc.names,y.2=.free->c.nm.lookup y.1=xg .cell\/c.nm.lookup y.1=xg .free:=λy hy z=>by
  have:=h1 y hy;simp[z]at this;exact this
 obtain⟨cl,aT⟩:=zbZ_ (cells:=Z.env.cells) sc.names [] λy hy z=>g.cells _ (hf y hy z)
 refine⟨of_decide_eq_true h4,cl,⟨aT,hc,h2,λz hz e=>?_,λq hq=>?_⟩,λC fp s2 H2=>⟨⟨rfl,zdA_ g,h2⟩,g.calm,g.room,passX0,λx hx=>?_⟩⟩
 ·have:=h1 z hz;simp[e]at this;exact this
 ·have:=h3 q hq
  simp at this;obtain⟨⟨⟨a,b⟩,d⟩,e⟩:=this;unfold tR;rw[g.N,g.nm,zdA_ g];exact⟨a,b,d,e⟩
 ·have hx:(relabel sc Z.env).names.lookup x=xg .cell\/(relabel sc Z.env).names.lookup x=xg .free:=by rw[zdA_ g];exact hx
  have hm:(x,NameKind.free)∈sc.names:=hx.elim (λz=>zaD_ z (.inl rfl) hc) λz=>zaD_ z (.inr rfl) hc
  exact zba_ sc.names [] cl aT x (.inl hm)
theorem zg0_ (g:Ch Z c)(nd:c.N.Nodup){i:Nat}(hf:(∀x,Z.fn x=xj)\/∀x,c.N[i]?=xg x->c.nm.lookup x=xg .local)(h:tgB c i e=xj):PG Z e (gName i)/\∃x p,e=.Name x p:=by
 unfold tgB at h;split at h
 ·rename_i x p
  rw[aW]at h;have hi:c.N[i]?=xg x:=eq_of_beq h.1;exact⟨zkT_ (by rw[g.N];exact nd) (by rw[g.N];exact hi) (zjx_ g h.2) (hf.elim (λz=>.inl (z x)) λz=>.inr (by rw[g.nm];exact z x hi)),x,p,rfl⟩
 ·cases h
theorem zjF_ (g:Cg Z c k E)(nd:c.N.Nodup):∀{is:List Nat}{es:List oq},((∀x,Z.fn x=xj)\/∀i∈is,∀x,c.N[i]?=xg x->c.nm.lookup x=xg .local)->tgsB c is es=xj->PGs Z es (tgS is)/\(p7 es Z.env).length=is.length/\(p7 es Z.env).findIdx? (·.1)=xh
 |[],[],_,_=>⟨zjP_,rfl,rfl⟩|[],_::_,_,h=>by cases h
 |_::_,[],_,h=>by cases h
 |i::is,e::es,hf,h=>by
  unfold tgsB at h;rw[aW]at h;obtain⟨h1,x,p,rfl⟩:=zg0_ g.toCh nd (i:=i) (hf.imp id λz=>z i (nV ..)) h.1
  obtain⟨a,b,d⟩:=zjF_ g nd (is:=is) (es:=es) (hf.imp id λz j hj=>z j (nY _ hj)) h.2
  refine⟨zgR_ h1 a,?_,?_⟩
  ·show(p7 es Z.env).length+1=_;rw[b];rfl
  ·show List.findIdx? _ ((xk,_)::p7 es Z.env)=xh
   rw[List.findIdx?_cons];simp[d]
theorem zp8_ (g:Cg Z c k E)(nd:c.N.Nodup){tg:Tg}(hf:(∀x,Z.fn x=xj)\/locals? c tg=xj)(h:tgOk c tg e=xj):PG Z e (tgT Z.K tg):=by
 have hf:(∀x,Z.fn x=xj)\/∀i∈tg.is,∀x,c.N[i]?=xg x->c.nm.lookup x=xg .local:=hf.imp id λz i hi x hx=>by
  have:=pQ.mp z i hi;rw[hx]at this;exact eq_of_beq this
 unfold tgOk at h;unfold tgT;split at h
 ·rename_i es _ _ ht
  rw[if_pos ht];obtain⟨a,b,d⟩:=zjF_ g nd hf h;exact zmk_ g.calm a b d
 ·rename_i ht
  rw[if_neg (by rw[ht];decide)]
  rw[aW]at h;refine(zg0_ g.toCh nd (hf.imp id λz=>?_) h.2).1
  have hl:=eq_of_beq h.1;cases hi:tg.is with
  |nil=>rw[hi]at hl;cases hl|cons i r=>rw[hi]at z;exact z i (nV ..)
 ·cases h
theorem zlP_ {f:Str}(hc:∀d∈G.cs,Cls Z.K (gA Z.K d)/\NoAttr Z.K (gA Z.K d) f)(he:PE Z e t)(hb:noSup e=xj):PE Z (.Attribute e f pos) (tFld Z.K G.cs t f):=by
 intro pins s σ H Q I h;obtain⟨d,hd,h⟩:=h;exact znh_ (hc d hd).1 (hc d hd).2 he (zeQ_ hb) pins s σ H Q I h
theorem zn7_ (g:Cg Z c k E){n:String}{y:Str}{p1 p2:Pos}(ha:PE Z e t)(he:noStar e=xj)(h1:glB c "isinstance"=xj)(h2:Z.mg "isinstance"=xh)(hn:tyNm n=xg y)(h3:glB c y=xj)(h4:Z.mg y=xh):PE Z (.Call (.Name "isinstance" p1) [e,.Name y p2] [] pos) (tCB (mIsaV Z.K) (tCons t (tCons (tC (.ty n)) tNil))):=by
 obtain⟨g1,g2⟩:=zdr_ g.toCh h1;obtain⟨g3,g4⟩:=zdr_ g.toCh h3;have hb:qA y=xg (.type n)/\y ≠ "__name__":=by
  unfold tyNm at hn;split at hn<;>cases hn<;>exact⟨rfl,by decide⟩
 exact zjt_ zgt_ h2 (zal_ ha (zal_ (pe_ty n h4 g3 hb.1 hb.2 g4) zc6_ (zc_ rfl)) (zc_ he)) g1 rfl (by decide) g2 (zc_ he) (zO_ rfl)
theorem nm_pe (fo:T.Ok G Z.K Z.mg)(g:Ch Z c){q:String×Bool}{z:oq}(h:nmB T G c q z=xj):PE Z z (tC (clV Z.K q))/\noStar z=xj:=by
 unfold nmB at h;apply kN_ h;intro n p h;simp only[aW]at h;obtain⟨⟨h1,h2⟩,h3⟩:=h;obtain⟨g1,g2⟩:=zdr_ g h2;refine⟨?_,rfl⟩;obtain⟨m,b⟩:=q;cases eq_of_beq h1;cases b with
 |true=>exact zpB_ (fo.ex _ (by simpa using h3)) g1 g2|false=>
  have h3:=pj.mp h3;have hn:m="ValueError":=eq_of_beq h3.1;subst hn;exact pe_ty "ValueError" (fo.bs _ (by simpa using h3.2)) g1 rfl (by decide) g2
theorem zmF_ (fo:T.Ok G Z.K Z.mg)(g:Ch Z c):∀{ns:List (String×Bool)}{es:List oq},nmsB T G c ns es=xj->PA Z es (tCsts (ns.map (clV Z.K)))
 |[],[],_=>zc6_|q::ns,z::es,h=>by
  obtain⟨h1,h2⟩:=pj.mp h;obtain⟨a,b⟩:=nm_pe fo g h1;exact zal_ a (zmF_ fo g h2) (zc_ b)
theorem zkv_ (fo:T.Ok G Z.K Z.mg)(g:Ch Z c){ns:List (String×Bool)}{z:oq}{p1:Pos}(ha:PE Z e t)(he:noStar e=xj)(h1:glB c "isinstance"=xj)(h2:Z.mg "isinstance"=xh)(h:clsB T G c ns z=xj):PE Z (.Call (.Name "isinstance" p1) [e,z] [] pos) (tIsx Z.K ns t):=by
 obtain⟨g1,g2⟩:=zdr_ g h1;have tu:∀ns,kT z (nmsB T G c ns)=xj->PE Z (.Call (.Name "isinstance" p1) [e,z] [] pos) (tCB (mIsaXT Z.K ns) (tCons t (tCons (tTup (tCsts (ns.map (clV Z.K)))) tNil))):=λns h=>by
  apply kT_ h;intro es n p h;exact zjt_ (zf8_ ns) h2 (zal_ ha (zal_ (zko_ (zmF_ fo g h)) zc6_ (zc_ rfl)) (zc_ he)) g1 rfl (by decide) g2 (zc_ he) (zO_ rfl)
 match ns,h with
 |[q],h=>
  obtain⟨a,b⟩:=nm_pe fo g h;exact zjt_ zg6_ h2 (zal_ ha (zal_ a zc6_ (zc_ b)) (zc_ he)) g1 rfl (by decide) g2 (zc_ he) (zO_ (by rw[pK,b];rfl))
 |[],h=>exact tu [] h|q::q'::ns,h=>exact tu (q::q'::ns) h
theorem zfp_ {a b c d:oq}{ta tb tc td:TE}{op aE aD:CmpOp}{r r' bp:R2}(ho:OpR Z (oQ op) r)(aL:OpR Z (oQ aE) r')(bB:OpR Z (oQ aD) bp)(ha:PE Z a ta)(hb:PE Z b tb)(hc:PE Z c tc)(hd:PE Z d td)
  (hm:lastMarks [op,aE,aD] [b,c,d]=xk):PT Z (.Compare a [op,aE,aD] [b,c,d] pos) (mTest (mChain3 r r' bp ta tb tc td)):=by
 intro pins s σ H Q I h;refine isTrue_chain (thn (ha pins s σ H _ I h) λv s1 ⟨x,H1,I1,r1,q1⟩=>test_link (thn (hb pins s1 σ H1 _ I1 q1) λu s2 ⟨y,H2,I2,r2,q2⟩=>
  thn (ho pins s2 σ H2 x y v u _ I2 r1 r2 q2) λd s3 ⟨z,H3,I3,r3,q3⟩=>?_)) hm
 cases z with
 |bl k=>
  cases r3;refine pd ?_;cases k with
  |false=>exact ite_ff ⟨H3,I3,q3.2 rfl⟩|true=>
   refine ite_tt (test_link (thn (hc pins s3 σ H3 _ I3 (q3.1 rfl)) λw' s4 ⟨z',H4,I4,r4,q4⟩=>thn (aL pins s4 σ H4 y z' u w' _ I4 r2 r4 q4) λd' s5 af=>?_))
   obtain⟨z2,H5,I5,r5,q5⟩:=af;cases z2 with
   |bl k2=>
    cases r5;refine pd ?_;cases k2 with
    |false=>exact ite_ff ⟨H5,I5,q5.2 rfl⟩|true=>
     refine ite_tt (test_last (thn (hd pins s5 σ H5 _ I5 (q5.1 rfl)) λw2 s6 ⟨z3,H6,I6,r6,q6⟩=>thn (bB pins s6 σ H6 z' z3 w' w2 _ I6 r4 r6 q6) λd' s7 af=>?_))
     obtain⟨z4,H7,I7,r7,q7⟩:=af;cases z4 with
     |bl k4=>cases r7;exact pd ⟨H7,I7,q7⟩|_=>exact q7.elim
   |_=>exact q5.elim
 |_=>exact q3.elim
theorem zoV_ {a b d f:oq}{t1 t2 t3 t4:TE}{op aE aD:CmpOp}{r r' bp:R2}(ho:OpR Z (oQ op) r)(aL:OpR Z (oQ aE) r')(bB:OpR Z (oQ aD) bp)(ha:Rd Z a t1)(hb:Rd Z b t2)(hd:Rd Z d t3)(hf:Rd Z f t4)(hs:noSet f=xj):Rd Z (.Compare a [op,aE,aD] [b,d,f] pos) (mChain3 r r' bp t1 t2 t3 t4):=
 ⟨ze1_ ho aL bB ha.pe hb.pe hd.pe hf.pe (zaz_ hs),λ_=>zfp_ ho aL bB ha.pe hb.pe hd.pe hf.pe (zaz_ hs),λ_ _ _ z=>by cases z⟩
theorem os1 {os:List CmpOp}{a:Option CmpOp}(h:[a]=os.map xg):∃x,a=xg x/\os=[x]:=by
 cases os with
 |nil=>cases h|cons x l=>cases l with |nil=>cases h;exact⟨x,rfl,rfl⟩|cons=>cases h
theorem os2 {os:List CmpOp}{a b:Option CmpOp}(h:[a,b]=os.map xg):∃x y,a=xg x/\b=xg y/\os=[x,y]:=by
 cases os with
 |nil=>cases h|cons x l=>
  obtain⟨y,rfl,rfl⟩:=os1 (tI h).2;exact⟨x,y,(tI h).1,rfl,rfl⟩
theorem os3 {os:List CmpOp}{a b d:Option CmpOp}(h:[a,b,d]=os.map xg):∃x y z,a=xg x/\b=xg y/\d=xg z/\os=[x,y,z]:=by
 cases os with
 |nil=>cases h|cons x l=>
  obtain⟨y,z,rfl,rfl,rfl⟩:=os2 (tI h).2;exact⟨x,y,z,(tI h).1,rfl,rfl,rfl⟩
theorem zp_:∀{as:List X}{es:List oq},chkEs T G c as es=xj->es.all noStar=xj/\(es=[]↔as=[])
 |[],es,h=>by
  unfold chkEs at h;rw[oM.mp h];exact⟨rfl,Iff.rfl.trans ⟨λ_=>rfl,λ_=>rfl⟩⟩
 |a::as,es,h=>by
  apply kc_ h;intro e es h;simp only[aW]at h;exact⟨by rw[pK,h.1.1,(zp_ h.2).1];rfl,(λz=>by cases z),(λz=>by cases z)⟩
theorem zeX_ {K:oK}{as:List X}(h:chkEs T G c as es=xj)(h0:es=[]):X.dens K G E as=tNil:=by rw[(zp_ h).2.mp h0,X.dens]
theorem zjw_ {as:List X}(h:chkEs T G c as es=xj)(h0:(!as.isEmpty)=xj):es≠[]:=λz=>by
 rw[(zp_ h).2.mp z]at h0;cases h0
theorem zge_ {os:List CmpOp}{l:List (Option CmpOp)}(h:(os.map xg == l)=xj):l=os.map xg:=(eq_of_beq h).symm
abbrev AllH (Z:Cx)(k:Nat)(l:List Fc):Prop:=∀φ∈l,φ.H Z.prog Z.w Z.K Z.mg Z.base k
theorem AllH.l {a b:List Fc}(h:AllH Z k (a++b)):AllH Z k a:=λφ bS=>h φ (qQ _ bS)
theorem AllH.r {a b:List Fc}(h:AllH Z k (a++b)):AllH Z k b:=λφ bS=>h φ (oj _ bS)
theorem ziK_ {tg:Tg}(h:tgOk c tg e=xj)(ht:tg.tup=xj):∃es k p,e=.Tuple es k p:=by
 unfold tgOk at h;split at h
 ·exact⟨_,_,_,rfl⟩
 ·rename_i z;rw[z]at ht;cases ht
 ·cases h
theorem zj5_ {ik:Ik}{src:List X}{tg:Tg}{t it:oq}{k1:Bool}{ks:List oq->Bool}(fo:T.Ok G Z.K Z.mg)(g:Cg Z c k E)(h3:tg.tup=xj->∃es k p,t=.Tuple es k p)(h:srcB T c ik tg it k1 ks=xj)
  (H0:k1=xj->∃s,src=[s]/\PE Z it (s.den Z.K G E)) (H1:∀es,ks es=xj->PA Z es (X.dens Z.K G E src)/\es.all noStar=xj):PI Z t it (ik.t Z.K (X.dens Z.K G E src)):=by
 unfold srcB at h;cases ha:ik.isAny with
 |true=>
  rw[ha,cond_true]at h;obtain⟨s,rfl,hs⟩:=H0 h;cases ik<;>first |exact zoR_ hs |cases ha
 |false=>
  rw[ha,cond_false]at h;apply kC_ h;intro f es q h;apply kN_ h;intro y p h;simp only[aW]at h;obtain⟨⟨⟨⟨⟨h1,h2⟩,h4⟩,h5⟩,h6⟩,h7⟩:=h;obtain⟨pa,st⟩:=H1 es h7;have b:=fo.bs y (by simpa using h5)
  have gl:=(zdr_ g.toCh h4).1;have hy:=eq_of_beq h1;have hl:=eq_of_beq h2;have tp:ik.tp=xj->∃es k p,t=.Tuple es k p:=λz=>h3 (by rw[z]at h6;simpa using h6)
  have sm:=zbc_ (env:=Z.env) st;cases ik with
  |any=>cases ha|r1=>obtain⟨a,rfl⟩:=qC.mp hl;cases hy;exact ziN_ b pa gl sm|en=>obtain⟨a,rfl⟩:=qC.mp hl;cases hy;obtain⟨_,_,_,rfl⟩:=tp rfl;exact zjD_ gl b pa sm|zip=>match es,hl with |[a,d],_=>cases hy;obtain⟨_,_,_,rfl⟩:=tp rfl;exact zlA_ b pa gl sm (zbc_ (by rw[pK,aW]at st;exact st.2))
theorem zh1_ (lv:List Str)(fr:List (Str×Nat))(ik:Ik)(src:List X)(tg:Tg)(d:Option X)(x:X)
  (H0:∀{Z:Cx}{c:Ck}{E:XK}{e:oq},T.Ok G Z.K Z.mg->Cg Z c k E->AllH Z k (X.fcss src)->chk1 T G c src e=xj->∃s,src=[s]/\PE Z e (s.den Z.K G E))
  (H1:∀{Z:Cx}{c:Ck}{E:XK}{es:List oq},T.Ok G Z.K Z.mg->Cg Z c k E->AllH Z k (X.fcss src)->chkEs T G c src es=xj->PA Z es (X.dens Z.K G E src))
  (H2:∀{Z:Cx}{c:Ck}{E:XK}{es:List oq},T.Ok G Z.K Z.mg->Cg Z c k E->AllH Z k (X.fcsO d)->chkIf T G c d es=xj->PIf Z es (X.denT Z.K G E d))
  (H3:∀{Z:Cx}{c:Ck}{E:XK}{e:oq},T.Ok G Z.K Z.mg->Cg Z c k E->AllH Z k x.fcs->chkE T G c x e=xj->Rd Z e (x.den Z.K G E)):∀{Z:Cx}{c:Ck}{E:XK}{e:oq},T.Ok G Z.K Z.mg->Cg Z c k E->AllH Z k (X.comp lv fr ik src tg d x).fcs->chkE T G c (.comp lv fr ik src tg d x) e=xj ->
  ∃t it ifs elt sc pos,e=.ListComp elt [⟨t,it,ifs,0⟩] sc pos/\∃cl,CScope Z sc cl lv fr/\PI Z t it (ik.t Z.K (X.dens Z.K G E src))/\(∀C fp s2 H2,PG (cxComp Z sc cl C (cN lv fr) fp s2 H2) t (tgT Z.K tg)) /\
   (∀C fp s2 H2,PIf (cxComp Z sc cl C (cN lv fr) fp s2 H2) ifs (X.denT Z.K G E0 d))/\(∀C fp s2 H2,PE (cxComp Z sc cl C (cN lv fr) fp s2 H2) elt (x.den Z.K G E0))/\noSet it=xj:=by
 intro Z c E e fo g fs h;apply kG_ h;intro elt gs sc pos h;rw[aW]at h;obtain⟨⟨t,it,ifs,as⟩,rfl⟩:=qC.mp (eq_of_beq h.1);have h:=h.2;rw[pK,List.all_nil,tJ]at h;simp only[aW]at h;obtain⟨⟨⟨⟨⟨⟨⟨h1,h2⟩,h3⟩,h4⟩,h5⟩,h6⟩,h7⟩,h8⟩:=h;cases eq_of_beq h1;obtain⟨nd,cl,S,cg⟩:=zfK_ g h2
 exact⟨t,it,ifs,elt,sc,pos,rfl,cl,S,zj5_ fo g (ziK_ h3) h6 (H0 fo g fs.l) λes z=>⟨H1 fo g fs.l z,(zp_ z).1⟩,λC fp s2 H2=>zp8_ (Z:=cxComp Z sc cl C (cN lv fr) fp s2 H2) (cg C fp s2 H2) nd (.inr h4) h3,λC fp s2 jW=>H2 (Z:=cxComp Z sc cl C (cN lv fr) fp s2 jW) fo (cg C fp s2 jW) fs.r.l h7,
   λC fp s2 H2=>(H3 (Z:=cxComp Z sc cl C (cN lv fr) fp s2 H2) fo (cg C fp s2 H2) fs.r.r h8).pe,h5⟩
mutual
theorem za_:∀(x:X) {Z:Cx}{c:Ck}{E:XK}{e:oq},T.Ok G Z.K Z.mg->Cg Z c k E->AllH Z k x.fcs->chkE T G c x e=xj->Rd Z e (x.den Z.K G E)
 |.v i,Z,c,E,e,fo,g,fs,h=>by
  apply kN_ h;intro x p h;rw[aW,aW]at h;have h3:=h.2;unfold nmOk at h3;rw[aW]at h3;exact zh_ (zh5_ i (by rw[g.N];exact eq_of_beq h.1.1) (zk6_ g.toCh h.1.2) (by simpa using h3.1) (by simpa using h3.2)) rfl
 |.k d,Z,c,E,e,fo,g,fs,h=>by
  apply kK_ h;intro x n p h;exact zh_ (ziB_ h) rfl
 |.g x d,Z,c,E,e,fo,g,fs,h=>by
  show Rd Z e (tC (d.flat?.getD .non))
  apply kN_ h;intro y p h;rw[aW,aW]at h;cases eq_of_beq h.1.1;obtain⟨g1,g2⟩:=zdr_ g.toCh h.1.2;have h2:=h.2;cases hv:d.flat? with
  |none=>rw[hv]at h2;cases h2|some v=>rw[hv]at h2;exact zh_ (zpB_ (fo.gc _ (by simpa using h2)) g1 g2) rfl
 |.gt x ls,Z,c,E,e,fo,g,fs,h=>by
  apply kN_ h;intro y p h;rw[aW,aW]at h;cases eq_of_beq h.1.1;obtain⟨g1,g2⟩:=zdr_ g.toCh h.1.2;obtain⟨q,hq,e⟩:=tQ.mp h.2;have:=fo.kt q hq;rw[eq_of_beq e]at this;exact zh_ (zpB_ this g1 g2) rfl
 |.bin o a b,Z,c,E,e,fo,g,fs,h=>by
  rcases(ql _ _).mp h with h |h
  rotate_left
  rcases(ql _ _).mp h with h |h
  rotate_right
  ·apply kB_ h;intro l op r p h
   simp only[aW]at h;exact zh_ (zot_ (zpT_ (eq_of_beq h.1.1)) (za_ a fo g fs.l h.1.2).pe (za_ b fo g fs.r h.2).pe) rfl
  ·apply kM_ h;intro l os rs p h
   apply kc_ h;intro r t h;simp only[aW]at h;cases oM.mp h.1.1.1.2;obtain⟨op,ho,rfl⟩:=os1 (zge_ h.1.1.1.1);exact zmj_ (zdm_ g.units ho) (za_ a fo g fs.l h.1.2) (za_ b fo g fs.r h.2) h.1.1.2
  ·apply kS_ h;intro l r p h
   simp only[aW]at h;have ho:o=.ix:=by
    have:=h.1.1.1;cases o<;>first |rfl |cases this
   subst ho;exact zh_ (pe_ix (ix_A g.units) (za_ a fo g fs.l h.1.2).pe (za_ b fo g fs.r h.2).pe (zjc_ h.1.1.2)) rfl
 |.ch o o' a b d,Z,c,E,e,fo,g,fs,h=>by
  apply kM_ h;intro l os rs p h;apply kc_ h;intro r t h;apply kc_ h;intro r' t' h;simp only[aW]at h;cases oM.mp h.1.1.1.1.2;obtain⟨op,aE,h1,h2,rfl⟩:=os2 (zge_ h.1.1.1.1.1);exact zia_ (zdm_ g.units h1) (zdm_ g.units h2) (za_ a fo g fs.l h.1.1.2) (za_ b fo g fs.r.l h.1.2) (za_ d fo g fs.r.r h.2) h.1.1.1.2
 |.and a b,Z,c,E,e,fo,g,fs,h=>by
  apply kO_ h;intro x y l p h;simp only[aW]at h;cases l with
  |nil=>exact zhv_ (za_ a fo g fs.l h.1.2) (za_ b fo g fs.r h.2) h.1.1.1 h.1.1.2|cons z l=>exact zkY_ (za_ a fo g fs.l h.1.2) (za_ b fo g fs.r h.2) h.1.1.1
 |.or a b,Z,c,E,e,fo,g,fs,h=>by
  apply kO_ h;intro x y l p h;simp only[aW]at h;cases l with
  |nil=>exact zmT_ (za_ a fo g fs.l h.1.2) (za_ b fo g fs.r h.2) h.1.1.1 h.1.1.2|cons z l=>exact rd_or (za_ a fo g fs.l h.1.2) (za_ b fo g fs.r h.2) h.1.1.1
 |.not a,Z,c,E,e,fo,g,fs,h=>by
  apply kU_ h;intro o x p h;simp only[aW]at h;cases eq_of_beq h.1.1;exact zmq_ (za_ a fo g fs h.2) h.1.2
 |.neg a,Z,c,E,e,fo,g,fs,h=>by
  apply kU_ h;intro o x p h;rw[aW]at h;cases eq_of_beq h.1;exact zh_ (zob_ (za_ a fo g fs h.2).pe) rfl
 |.ifx d a b,Z,c,E,e,fo,g,fs,h=>by
  apply kI_ h;intro t x y p h;simp only[aW]at h;exact rd_if (zps_ ((za_ d fo g fs.l h.1.1.2).pt h.1.1.1) (za_ a fo g fs.r.l h.1.2).pe (za_ b fo g fs.r.r h.2).pe) rfl
 |.sl a lo hi,Z,c,E,e,fo,g,fs,h=>by
  apply kS_ h;intro l r p h;apply kL_ h;intro l1 l2 l3 q h;simp only[aW]at h;cases qL.mp h.1.1.1;exact zh_ (zid_ sl_A (za_ a fo g fs.l h.1.1.2).pe (zhM_ lo fo g fs.r.l h.1.2) (zhM_ hi fo g fs.r.r h.2)) rfl
 |.tup as,Z,c,E,e,fo,g,fs,h=>by
  apply kT_ h;intro es n p h;exact zh_ (zko_ (zJ_ as fo g fs h)) rfl
 |.lst as,Z,c,E,e,fo,g,fs,h=>by
  apply kW_ h;intro es p h;exact zh_ (zjK_ (zJ_ as fo g fs h)) rfl
 |.fld a f,Z,c,E,e,fo,g,fs,h=>by
  apply kA_ h;intro o f' p h;simp only[aW]at h;cases eq_of_beq h.1.1.1;exact zh_ (zlP_ (λd hd=>⟨fo.cls d hd,fo.at_ d hd _ (by simpa using h.1.1.2)⟩) (za_ a fo g fs h.2).pe h.1.2) rfl
 |.call f x as,Z,c,E,e,fo,g,fs,h=>by
  apply kC_ h;intro y es q h;apply kN_ h;intro y p h;simp only[aW]at h;cases eq_of_beq h.1.1;obtain⟨g1,g2⟩:=zdr_ g.toCh h.1.2;obtain⟨ps,j,hj,F⟩:=fs _ (nV ..);exact zh_ (zjj_ F (g.room.mono hj) g.pass (zJ_ as fo g (λφ bS=>fs φ (nY _ bS)) h.2) (zp_ h.2).1 g1 g2 (zeX_ h.2)) rfl
 |.bf o as,Z,c,E,e,fo,g,fs,h=>by
  apply kC_ h;intro y es q h;apply kN_ h;intro y p h;simp only[aW]at h;cases eq_of_beq h.1.1.1.1;exact zh_ (bf_pe g (fo.bs _ (by simpa using h.1.1.2)) (zJ_ as fo g fs h.2) (zp_ h.2).1 (zjw_ h.2 h.1.2) h.1.1.1.2) rfl
 |.comp lv fr ik src tg d x,Z,c,E,e,fo,g,fs,h=>by
  obtain⟨t,it,ifs,elt,sc,pos,rfl,cl,S,q1,q2,q3,q4,q5⟩:=zh1_ lv fr ik src tg d x (zgb_ src) (zJ_ src) (zeK_ d) (za_ x) fo g fs h;exact zh_ (zkX_ g.calm S q1 q2 q3 q4 (zcn_ q5)) rfl
 |.make f d as,Z,c,E,e,fo,g,fs,h=>by
  apply kC_ h;intro y es q h;apply kN_ h;intro y p h;simp only[aW]at h;cases eq_of_beq h.1.1;obtain⟨g1,g2⟩:=zdr_ g.toCh h.1.2;obtain⟨ps,j,hj,F⟩:=fs _ (nV ..);exact zh_ (ziy_ F (g.room.mono hj) g.pass (zJ_ as fo g (λφ bS=>fs φ (nY _ bS)) h.2) (zp_ h.2).1 g1 g2 (zeX_ h.2)) rfl
 |.lr a b,Z,c,E,e,fo,g,fs,h=>by
  apply kC_ h;intro y es q h;apply kN_ h;intro y p h;apply kc_ h;intro r t h;apply kC_ h;intro z xs q2 h;apply kN_ h;intro z p2 h;apply kc_ h;intro x t1 h;apply kc_ h;intro w t2 h;simp only[aW]at h;obtain⟨⟨⟨⟨⟨⟨⟨⟨⟨⟨⟨h1,h2⟩,ht⟩,ht2⟩,h3⟩,h4⟩,h5⟩,h6⟩,h7⟩,h8⟩,h9⟩,cH⟩:=h;cases eq_of_beq h1;cases eq_of_beq h2;cases oM.mp ht;cases oM.mp ht2;obtain⟨g1,g2⟩:=zdr_ g.toCh h3;obtain⟨g3,g4⟩:=zdr_ g.toCh h4;exact zh_ (zo7_ "list" (zdh_ g.calm) (fo.bs _ (by simpa using h5)) (zal_ (zo7_ "range" zeu_ (fo.bs _ (by simpa using h6)) (zal_ (za_ a fo g fs.l h9).pe (zal_ (za_ b fo g fs.r cH).pe zc6_ (zc_ h8)) (zc_ h7)) g3 rfl (by decide) g4 (zc_ h7) (zO_ (by simp[h8]))) zc6_ (zc_ rfl)) g1 rfl (by decide) g2 (zc_ rfl) (zO_ rfl)) rfl
 |.isx a ns tb,Z,c,E,e,fo,g,fs,h=>by
  apply kC_ h;intro y es q h;apply kN_ h;intro y p h;apply kc_ h;intro x t h;apply kc_ h;intro z t2 h;simp only[aW]at h;obtain⟨⟨⟨⟨⟨⟨h1,ht⟩,h2⟩,h3⟩,h4⟩,h5⟩,h8⟩:=h;cases eq_of_beq h1;cases oM.mp ht;exact zh_ (zkv_ fo g.toCh (za_ a fo g fs h8).pe h4 h2 (fo.bs _ (by simpa using h3)) h5) rfl
 |.isa a n,Z,c,E,e,fo,g,fs,h=>by
  apply kC_ h;intro y es q h;apply kN_ h;intro y p h;apply kc_ h;intro x t h;apply kc_ h;intro z t2 h;apply kN_ h;intro z p2 h;simp only[aW]at h;obtain⟨⟨⟨⟨⟨⟨⟨⟨h1,ht⟩,h2⟩,h3⟩,h4⟩,h5⟩,h6⟩,h7⟩,h8⟩:=h;cases eq_of_beq h1;cases oM.mp ht;exact zh_ (zn7_ g (za_ a fo g fs h8).pe h4 h2 (fo.bs _ (by simpa using h3)) (eq_of_beq h5) h6 (fo.bs _ (by simpa using h7))) rfl
 |.ds3 a b d f m u,Z,c,E,e,fo,g,fs,h=>by
  apply kDd_ h;intro ks vs p h;apply kco_ h;intro k kt h;apply kco_ h;intro l lt h;apply kco_ h;intro n nt h;apply kc_ h;intro v vt h;apply kc_ h;intro w wt h;apply kc_ h;intro z zt h;simp only[aW]at h;obtain⟨⟨⟨⟨⟨⟨⟨h1,h2⟩,h3⟩,h4⟩,h5⟩,h6⟩,h7⟩,h8⟩:=h;cases oM.mp h1;cases oM.mp h2;exact zh_ (zhI_ (zbQ_ (za_ a fo g fs.l h3).pe (za_ b fo g fs.r.l h4).pe (zbQ_ (za_ d fo g fs.r.r.l h5).pe (za_ f fo g fs.r.r.r.l h6).pe (zbQ_ (za_ m fo g fs.r.r.r.r.l h7).pe (za_ u fo g fs.r.r.r.r.r h8).pe zhE_))) rfl rfl (λz=>by cases z) (r9 rfl)) rfl
 |.ds2 a b d f,Z,c,E,e,fo,g,fs,h=>by
  apply kDd_ h;intro ks vs p h;apply kco_ h;intro k kt h;apply kco_ h;intro l lt h;apply kc_ h;intro v vt h;apply kc_ h;intro w wt h;simp only[aW]at h;obtain⟨⟨⟨⟨⟨h1,h2⟩,h3⟩,h4⟩,h5⟩,h6⟩:=h;cases oM.mp h1;cases oM.mp h2;exact zh_ (zhI_ (zbQ_ (za_ a fo g fs.l h3).pe (za_ b fo g fs.r.l h4).pe (zbQ_ (za_ d fo g fs.r.r.l h5).pe (za_ f fo g fs.r.r.r h6).pe zhE_)) rfl rfl (λz=>by cases z) (r9 rfl)) rfl
 |.dct0,Z,c,E,e,fo,g,fs,h=>by
  apply kDi_ h;intro p;exact zh_ zji_ rfl
 |.ch3 o o' aI a b d f,Z,c,E,e,fo,g,fs,h=>by
  apply kM_ h;intro l os rs p h;apply kc_ h;intro r t h;apply kc_ h;intro r' t' h;apply kc_ h;intro bp iR h;simp only[aW]at h;obtain⟨⟨⟨⟨⟨⟨h1,ht⟩,h4⟩,h5⟩,h6⟩,h7⟩,h8⟩:=h;cases oM.mp ht;obtain⟨op,aE,aD,g1,g2,g3,rfl⟩:=os3 (zge_ h1);exact zoV_ (zdm_ g.units g1) (zdm_ g.units g2) (zdm_ g.units g3) (za_ a fo g fs.l.l h5) (za_ b fo g fs.l.r h6) (za_ d fo g fs.r.l h7) (za_ f fo g fs.r.r h8) h4
theorem zgb_:∀(as:List X) {Z:Cx}{c:Ck}{E:XK}{e:oq},T.Ok G Z.K Z.mg->Cg Z c k E->AllH Z k (X.fcss as)->chk1 T G c as e=xj->∃s,as=[s]/\PE Z e (s.den Z.K G E)
 |[],Z,c,E,e,fo,g,fs,h=>by unfold chk1 at h;cases h
 |s::as,Z,c,E,e,fo,g,fs,h=>by
  have h:=pj.mp h;cases oM.mp h.1;exact⟨s,rfl,(za_ s fo g fs.l h.2).pe⟩
theorem zJ_:∀(as:List X) {Z:Cx}{c:Ck}{E:XK}{es:List oq},T.Ok G Z.K Z.mg->Cg Z c k E->AllH Z k (X.fcss as)->chkEs T G c as es=xj->PA Z es (X.dens Z.K G E as)
 |[],Z,c,E,es,fo,g,fs,h=>by
  show PA Z es tNil;rw[oM.mp h]
  exact zc6_
 |a::as,Z,c,E,es,fo,g,fs,h=>by
  apply kc_ h;intro e t h;simp only[aW]at h;exact zal_ (za_ a fo g fs.l h.1.2).pe (zJ_ as fo g fs.r h.2) (zc_ h.1.1)
theorem zhM_:∀(a:Option X) {Z:Cx}{c:Ck}{E:XK}{e:Option oq},T.Ok G Z.K Z.mg->Cg Z c k E->AllH Z k (X.fcsO a)->chkO T G c a e=xj->PO Z e (X.denO Z.K G E a)
 |none,Z,c,E,e,fo,g,fs,h=>by
  show PO Z e tNoPart;rw[qL.mp h]
  exact zkz_
 |some a,Z,c,E,e,fo,g,fs,h=>by
  cases e with
  |none=>cases h|some e=>exact po_M (za_ a fo g fs h).pe
theorem zeK_:∀(a:Option X) {Z:Cx}{c:Ck}{E:XK}{es:List oq},T.Ok G Z.K Z.mg->Cg Z c k E->AllH Z k (X.fcsO a)->chkIf T G c a es=xj->PIf Z es (X.denT Z.K G E a)
 |none,Z,c,E,es,fo,g,fs,h=>by
  show PIf Z es tTrue;rw[oM.mp h]
  exact zlh_
 |some a,Z,c,E,es,fo,g,fs,h=>by
  apply kc_ h;intro e t h;simp only[aW]at h;cases oM.mp h.1.1;exact zmn_ ((za_ a fo g fs h.2).pt h.1.2)
end
end
structure Cq (Z:Cx)(c:Ck)(k:Nat)(E:XK):Prop extends Cg Z c k E where
 fn:∀x,Z.fn x=xj
 nd:c.N.Nodup
 own:PassesOwn (model Z.prog Z.w) Z.A Z.env Z.xe
 takes:Takes Z E
 ex:Z.ex=[]
 stack:Z.stack=Z.env::Z.outer/\Z.env.frame=xg Z.env.locals
noncomputable def Y.isC:Y->Bool
 |.pu (.comp ..)=>xj |_=>xk
noncomputable def Bm.nm:Bm->Str
 |.append => "append" |.extend => "extend"
def Y.fcs:Y->List Fc
 |.pu x=>x.fcs|.mv i=>[]|.bm _ p as=>X.fcss as|.bin _ y z=>y.fcs++z.fcs|.sd p k v=>k.fcs++v.fcs|.not y=>y.fcs|.or y z=>y.fcs++z.fcs|.and y z=>y.fcs++z.fcs
mutual
def S.fcs:S->List Fc
 |.asg _ y=>y.fcs|.asgT _ x=>x.fcs|.asg5 _ x=>x.fcs|.setF p _ x=>x.fcs|.setI p k x=>k.fcs++x.fcs|.ex y=>y.fcs|.ret y=>y.fcs|.retN=>[]|.if_ c a b=>c.fcs++(S.fcss a++S.fcss b)|.ifY c a b=>c.fcs++(S.fcss a++S.fcss b)|.ifL c a b=>c.fcs++(S.fcss a++S.fcss b)|.for_ _ src _ b=>X.fcss src++S.fcss b|.raise c as=>.exc c::X.fcss as|.tryC f x as _ _ _ _ _=>.call f x::X.fcss as|.pass=>[]|.never=>[]|.try0 b bx=>S.fcss b++S.fcss bx
def S.fcss:List S->List Fc
 |[]=>[]|s::ss=>s.fcs++S.fcss ss
end
section
variable (T:Ft)(G:Gi)
def chkY (c:Ck):Y->oq->Bool
 |.pu x,e=>chkE T G c x e|.mv i,e=>chkE T G c (.v i) e|.bm o p as,e=>kC e λr es q=>kA r λr m ap=>m == o.nm && noSup r && ap.endLine == q.line && decide (es.length<29) && !es.isEmpty && chkE T G c (.v p) r && chkEs T G c as es| .bin o y z,e=>kB e (λl op r=>o.op == xg op && chkY c y l && chkY c z r)||
   kM e (λl os rs=>kc rs λr t=>os.map xg == [o.cmp] && t.isEmpty && noSet r && chkY c y l && chkY c z r)
 |.sd p k v,e=>kC e λr es q=>kA r λr m ap=>kc es λa t=>kc t λb t=>m=="setdefault" && t.isEmpty && noSup r && ap.endLine==q.line && noStar a && noStar b && chkE T G c (.v p) r && chkE T G c k a && chkE T G c v b|.not y,e=>kU e λo x=>o == .Not && noIf x && chkY c y x|.or y z,e=>kO .Or e λa b l=>noIf a && (!l ||noIf b) && chkY c y a && chkY c z b|.and y z,e=>kO .And e λa b l=>noIf a && (!l ||noIf b) && chkY c y a && chkY c z b
def sA (s:pM)(k:oq->oq->Bool):Bool:=elB λi=>Stmt.Assign.elim s i λgs e _=>kc gs λg t=>t.isEmpty && k g e
def sE (s:pM)(k:oq->Bool):Bool:=elB λi=>Stmt.Expr.elim s i λe _=>k e
def sR (s:pM)(k:Option oq->Bool):Bool:=elB λi=>Stmt.Return.elim s i λe _=>k e
def sI (s:pM)(k:oq->List pM->List pM->Bool):Bool:=elB λi=>Stmt.If.elim s i λe a b _=>k e a b
def sF (s:pM)(k:oq->oq->List pM->Bool):Bool:=elB λz=>Stmt.For.elim s z λt i b l _=>l.isEmpty && k t i b
def sX (s:pM)(k:oq->Bool):Bool:=elB λi=>Stmt.Raise.elim s i λe c _=>c.isNone && e.any k
def sT (s:pM)(k:List pM->List pM->Bool):Bool:=elB λi=>Stmt.Try.elim s i λb hs l f _=>!hs.isEmpty && (f.isEmpty && k b l)
def sh:List ExceptHandler->(oq->Str->List pM->Bool)->Bool
 |[.ExceptHandler (xg t) (xg n) b _],k=>k t n b |_,_=>xk
def sK (s:pM)(k:List pM->oq->Str->List pM->Bool):Bool:=elB λi=>Stmt.Try.elim s i λb hs l f _=>l.isEmpty && (f.isEmpty && sh hs λt n r=>!r.isEmpty && k b t n r)
def sP (s:pM):Bool:=elB λi=>Stmt.Pass.elim s i λ_=>xj
section
variable {s:pM}{C:pM->Prop}
theorem sA_ {k}(h:sA s k=xj)(H:∀g e q,k g e=xj->C (.Assign [g] e q)):C s:=elB_ h λi=>Stmt.Assign.elim (motive_2:=λs=>sA s k=xj->C s) s i (λgs e q h=>kc_ (C:=λgs=>C (.Assign gs e q)) h λg t h=>by cases t with |nil=>exact H g e q h |cons=>cases h) h
theorem sE_ {k}(h:sE s k=xj)(H:∀e q,k e=xj->C (.Expr e q)):C s:=elB_ h λi=>Stmt.Expr.elim (motive_2:=λs=>sE s k=xj->C s) s i H h
theorem sR_ {k}(h:sR s k=xj)(H:∀e q,k e=xj->C (.Return e q)):C s:=elB_ h λi=>Stmt.Return.elim (motive_2:=λs=>sR s k=xj->C s) s i H h
theorem sI_ {k}(h:sI s k=xj)(H:∀e a b q,k e a b=xj->C (.If e a b q)):C s:=elB_ h λi=>Stmt.If.elim (motive_2:=λs=>sI s k=xj->C s) s i H h
theorem sF_ {k}(h:sF s k=xj)(H:∀t i b q,k t i b=xj->C (.For t i b [] q)):C s:=elB_ h λi=>Stmt.For.elim (motive_2:=λs=>sF s k=xj->C s) s i (λt i b l q h=>by cases l with |nil=>exact H t i b q h |cons=>cases h) h
theorem sX_ {k}(h:sX s k=xj)(H:∀e q,k e=xj->C (.Raise (xg e) xh q)):C s:=elB_ h λi=>Stmt.Raise.elim (motive_2:=λs=>sX s k=xj->C s) s i (λe c q h=>by cases c<;>cases e<;>first |exact H _ q h |cases h) h
theorem sT_ {k}(h:sT s k=xj)(H:∀b a r l q,k b l=xj->C (.Try b (a::r) l [] q)):C s:=elB_ h λi=>Stmt.Try.elim (motive_2:=λs=>sT s k=xj->C s) s i (λb hs l f q h=>by cases hs<;>cases f<;>first |exact H b _ _ l q h |cases h) h
theorem sh_ {l:List ExceptHandler}{C:List ExceptHandler->Prop}{k}(h:sh l k=xj)(H:∀t n b p,k t n b=xj->C [.ExceptHandler (xg t) (xg n) b p]):C l:=by
 cases l with
 |nil=>cases h|cons a l=>cases a with |ExceptHandler t n b p=>cases t<;>cases n<;>cases l<;>first |exact H _ _ b p h |cases h
theorem sK_ {k}(h:sK s k=xj)(H:∀b t n a r p q,k b t n (a::r)=xj->C (.Try b [.ExceptHandler (xg t) (xg n) (a::r) p] [] [] q)):C s:=elB_ h λi=>Stmt.Try.elim (motive_2:=λs=>sK s k=xj->C s) s i (λb hs l f q h=>by
 cases l with
 |cons=>cases h|nil=>cases f with
  |cons=>cases h|nil=>exact sh_ (C:=λhs=>C (.Try b hs [] [] q)) h λt n r p h=>by cases r with |nil=>cases h |cons=>exact H b t n _ _ p q h) h
theorem sP_ (h:sP s=xj)(H:∀q,C (.Pass q)):C s:=elB_ h λi=>Stmt.Pass.elim (motive_2:=λs=>C s) s i H
end
noncomputable def sc:List pM->(pM->List pM->Bool)->Bool
 |a::l,k=>k a l |[],_=>xk
theorem sc_ {l:List pM}{C:List pM->Prop}{k}(h:sc l k=xj)(H:∀a t,k a t=xj->C (a::t)):C l:=by cases l with |nil=>cases h |cons a t=>exact H a t h
noncomputable def isStr:Const->Bool
 |.str _=>xj |_=>xk
def isxB (c:Ck)(i:Nat)(ns:List (String×Bool))(e:oq):Bool:=kC e λy es _=>kN y λy=>kc es λx t=>kc t λz t2=>y=="isinstance" && t2.isEmpty && glB c y && T.bs.contains y && noStar x && clsB T G c ns z && varB c i x
def isxs (c:Ck)(i:Nat):List Ix->List oq->Bool
 |[],es=>es.isEmpty|q::qs,es=>kc es λe es=>noStar e && isxB T G c i q.1 e && isxs c i qs es
def chkG (c:Ck)(i j:Nat):Bool->List (List Ix)->List pM->Bool
 |_,[],ss=>ss.isEmpty|b,g::gs,ss=>sc ss λs ss=>sA s (λo e=>tgB c j o && noCmp e && bif b then kW e (isxs T G c i g)else kB e λl op r=>Bo.add.op == xg op && varB c j l && kW r (isxs T G c i g)) && chkG c i j xk gs ss
mutual
def chkS (c:Ck):S->pM->Bool
 |.asg i y,s=>sA s λg e=>tgB c i g && (noCmp e ||y.isC) && chkY T G c y e|.asg5 is x,s=>sA s λg e=>kT g λes=>noCmp e && noTup e && is.length == 5 && tgsB c is es && chkE T G c x e|.asgT tg x,s=>sA s λg e=>noCmp e && noTup e && tg.tup && tgOk c tg g && chkE T G c x e|.setF p n x,s=>sA s λg e=>kA g λo f _=>n == f && T.at_.contains n && chkE T G c (.v p) o && chkE T G c x e|.setI p k x,s=>sA s λg e=>kS g λo i=>noSl i && chkE T G c (.v p) o && chkE T G c k i && chkE T G c x e|.ex y,s=>sE s λe=>noCmp e && chkY T G c y e|.ret y,s=>sR s λe=>e.any (chkY T G c y)|.retN,s=>sR s λe=>e.isNone|.if_ d a b,s=>sI s λe x y=>noIf e && chkE T G c d e && chkSs c a x && chkSs c b y|.ifL d a b,s=>sI s λe x y=>plainT e && chkE T G c d e && chkSs c a x && chkSs c b y|.ifY d a b,s=>sI s λe x y=>noIf e && chkY T G c d e && chkSs c a x && chkSs c b y|.for_ ik src tg b,s=>sF s λt it x=>noSet it && tgOk c tg t && srcB T c ik tg it (chk1 T G c src it) (chkEs T G c src) && chkSs c b x|.raise d as,s=>sX s λe=>kC e λy es _=>kN y λy=>y == d && glB c y && !as.isEmpty && chkEs T G c as es|.tryC f x as cl _ i j gs,s=>sK s λb t n ss=>(sc b λs r=>r.isEmpty && sE s λe=>kC e λy es _=>kN y λy=>y == x && glB c x && !as.isEmpty && chkEs T G c as es) && kN t (λm=>m == cl && glB c m && G.ex.contains m) && c.N[i]? == xg n && c.nm.lookup n == xg .local && chkG T G c i j xj gs ss|.pass,s=>sP s ||sE s λe=>kK e isStr
 |.never,_=>xj|.try0 b bx,s=>sT s λx y=>chkSs c b x && chkSs c bx y
def chkSs (c:Ck):List S->List pM->Bool
 |[],ss=>ss.isEmpty|a::as,ss=>sc ss λs ss=>chkS c a s && chkSs c as ss
end
end
section
variable {Z:Cx}{c:Ck}{k:Nat}{E:XK}{T:Ft}{G:Gi}{e o:oq}{es:List oq}{t:TE}{ta:TA}{p pos apos:Pos}
theorem zkL_ {i:Nat}:AllH Z k (X.v i).fcs:=λ_ z=>by cases z
theorem bm_pe {b:Bm}(ho:PE Z o t)(ha:PA Z es ta)(hs:es.all noStar=xj)(hb:noSup o=xj)(hl:(apos.endLine == pos.line)=xj)(hn:es.length<29)(h0:(!es.isEmpty)=xj):PE Z (.Call (.Attribute o b.nm apos) es [] pos) (tBM Z.K b.ty b.r t ta):=by
 have b0:=λn=>zeQ_ (env:=Z.env) (m:=n) hb
 cases es with
 |nil=>cases h0|cons e es=>
  have f:=zm9_ (env:=Z.env) (pos:=pos) hs hn;rw[pK,aW]at hs;have s1:=zc_ (env:=Z.env) (es:=es) hs.1;have s2:=zO_ (env:=Z.env) (pos:=pos) hs.2;cases b with
  |append=>exact pe_bm zhs_ zcl_ zcN_ zeg_ ho ha (b0 _) f hl s1 s2|extend=>exact pe_bm zhs_ zcv_ zck_ zgH_ ho ha (b0 _) f hl s1 s2
theorem zH_:∀(y:Y) {e:oq},T.Ok G Z.K Z.mg->Cg Z c k E->AllH Z k y.fcs->chkY T G c y e=xj->Rd Z e (y.den Z.K G E)
 |.pu x,e,fo,g,fs,h=>za_ x fo g fs h|.mv i,e,fo,g,fs,h=>by
  exact za_ (.v i) fo g zkL_ h
 |.bm b p as,e,fo,g,fs,h=>by
  apply kC_ h;intro r es q h;apply kA_ h;intro r m ap h;simp only[aW]at h;cases eq_of_beq h.1.1.1.1.1.1;exact zh_ (bm_pe (b:=b) (za_ (.v p) fo g zkL_ h.1.2).pe (zJ_ _ fo g fs h.2) (zp_ h.2).1 h.1.1.1.1.1.2 h.1.1.1.1.2 (of_decide_eq_true h.1.1.1.2) h.1.1.2) rfl
 |.bin o y z,e,fo,g,fs,h=>by
  rcases(ql _ _).mp h with h |h
  ·apply kB_ h;intro l op r p h
   simp only[aW]at h;exact zh_ (zot_ (zpT_ (eq_of_beq h.1.1)) (zH_ y fo g fs.l h.1.2).pe (zH_ z fo g fs.r h.2).pe) rfl
  ·apply kM_ h;intro l os rs p h
   apply kc_ h;intro r t h;simp only[aW]at h;cases oM.mp h.1.1.1.2;obtain⟨op,ho,rfl⟩:=os1 (zge_ h.1.1.1.1);exact zmj_ (zdm_ g.units ho) (zH_ y fo g fs.l h.1.2) (zH_ z fo g fs.r h.2) h.1.1.2
 |.sd p k v,e,fo,g,fs,h=>by
  apply kC_ h;intro r es q h;apply kA_ h;intro r m ap h;apply kc_ h;intro a t h;apply kc_ h;intro b t h;simp only[aW]at h;obtain⟨⟨⟨⟨⟨⟨⟨⟨h1,ht⟩,h2⟩,h3⟩,h4⟩,h5⟩,h6⟩,h7⟩,h8⟩:=h;cases eq_of_beq h1;cases oM.mp ht;have st:[a,b].all noStar=xj:=by simp[h4,h5]
  exact zh_ (zjI_ g.units (za_ (.v p) fo g zkL_ h6).pe (za_ k fo g fs.l h7).pe (za_ v fo g fs.r h8).pe ⟨zeQ_ h2,zm9_ st (show 2<29 by decide),h3,by rw[zbc_ st];rfl⟩) rfl
 |.not y,e,fo,g,fs,h=>by
  apply kU_ h;intro o x p h;simp only[aW]at h;cases eq_of_beq h.1.1;exact zmq_ (zH_ y fo g fs h.2) h.1.2
 |.or y z,e,fo,g,fs,h=>by
  apply kO_ h;intro a b l p h;simp only[aW]at h;cases l with
  |nil=>exact zmT_ (zH_ y fo g fs.l h.1.2) (zH_ z fo g fs.r h.2) h.1.1.1 h.1.1.2|cons q l=>exact rd_or (zH_ y fo g fs.l h.1.2) (zH_ z fo g fs.r h.2) h.1.1.1
 |.and y z,e,fo,g,fs,h=>by
  apply kO_ h;intro a b l p h;simp only[aW]at h;cases l with
  |nil=>exact zhv_ (zH_ y fo g fs.l h.1.2) (zH_ z fo g fs.r h.2) h.1.1.1 h.1.1.2|cons q l=>exact zkY_ (zH_ y fo g fs.l h.1.2) (zH_ z fo g fs.r h.2) h.1.1.1
theorem zfT_ {elt:oq}{gs:List Comprehension}{sc:Scope}{x:Str}{p:Pos}{env:PySem.Env}{n:Nat}:∃b,swapsWith (.ListComp elt gs sc pos) (xg (.Name x p)) n env=pure b:=⟨_,rfl⟩
theorem zf6_ {f:Str}{n:Nat}:swapsWith e (xg (.Attribute o f p)) n Z.env=pure xk:=by cases e<;>rfl
theorem zgI_ {i:oq}{n:Nat}:swapsWithSole [.Subscript o i p] e n Z.env=pure xk:=by cases e<;>rfl
theorem zc8_ {tg:oq}{n:Nat}(h:noCmp e=xj):swapsWithSole [tg] e n Z.env=pure xk:=zbO_ h (xg tg) n
theorem zpv_ {i:oq}(h:noSl i=xj)(v:nI):assign (.Subscript o i p) Z.env v=(do
   let ov <- holding [v] (eval o Z.env)
   let iv <- holding [v,ov] (eval i Z.env)
   standAt p
   holding [v,ov,iv] (setItem ov iv v)
   release [v,ov,iv] []):=by
 cases i<;>first |rfl |cases h
theorem zpA_ (fo:T.Ok G Z.K Z.mg)(g:Cq Z c k E){i:Nat}{y:Y}{q:Pos}(fs:AllH Z k y.fcs)(h1:tgB c i o=xj)(h2:(noCmp e ||y.isC)=xj)(h3:chkY T G c y e=xj):
  PS Z (.Assign [o] e q) (tAsg (y.den Z.K G E) (gName i)):=by
 have hv:=(zH_ y fo g.toCg fs h3).pe;obtain⟨kE,x,p,rfl⟩:=zg0_ g.toCh g.nd (.inl g.fn) h1;unfold tgB at h1;rw[aW]at h1;have hi:Z.N[i]?=xg x:=by rw[g.N];exact eq_of_beq h1.1
 have hn:Z.N.Nodup:=by rw[g.N];exact g.nd
 have hl:=zjx_ g.toCh h1.2;by_cases hc:noCmp e=xj
 ·exact zjX_ hn hi hl hv (zbO_ hc _ _) (.inl (g.fn x))
 ·have hc:noCmp e=xk:=by simpa using hc
  rw[hc,vB]at h2;unfold Y.isC at h2;split at h2
  ·rename_i lv fr ik src tg d z
   obtain⟨t,it,ifs,elt,sc,pos,rfl,cl,S,q1,q2,q3,q4,q5⟩:=zh1_ lv fr ik src tg d z (zgb_ src) (zJ_ src) (zeK_ d) (za_ z) fo g.toCg fs h3;obtain⟨b,hb⟩:=zfT_ (elt:=elt) (gs:=[⟨t,it,ifs,0⟩]) (sc:=sc) (pos:=pos) (x:=x) (p:=p) (env:=Z.env) (n:=q.line);cases b with
   |true=>
    exact zeI_ g.calm S q1 q2 q3 q4 kE hb (zcn_ q5)
   |false=>exact zjX_ hn hi hl hv hb (.inl (g.fn x))
  ·cases h2
theorem Cq.nox (g:Cq Z c k E):Cq Z.nox c k E0 where
 N:=g.N
 nm:=g.nm
 kind:=g.kind
 calm:=g.calm
 room:=g.room
 pass:=passX0
 cells:=g.cells
 fn:=g.fn
 nd:=g.nd
 own:=PassesOwn.never
 takes:=λ_ _ _ _ _ _ _ _ _ _ _ _ _ _ _ _ _ _ h=>h.elim
 ex:=g.ex
 stack:=g.stack
theorem zj3_ (g:Ch Z c){i:Nat}{e:oq}(h:varB c i e=xj):PE Z e (mVar i):=by
 unfold varB at h;apply kN_ h;intro x p h;rw[aW,aW]at h;have h3:=h.2;unfold nmOk at h3;rw[aW]at h3;exact zh5_ i (by rw[g.N];exact eq_of_beq h.1.1) (zk6_ g h.1.2) (by simpa using h3.1) (by simpa using h3.2)
theorem zfE_ (fo:T.Ok G Z.K Z.mg)(g:Ch Z c){i:Nat}:∀(qs:List Ix) {es:List oq},isxs T G c i qs es=xj->PA Z es (X.dens Z.K G E (qs.map λq=>.isx (.v i) q.1 q.2))
 |[],es,h=>by
  show PA Z es tNil;rw[oM.mp h]
  exact zc6_
 |q::qs,es,h=>by
  apply kc_ h;intro e t h;simp only[aW]at h;refine zal_ ?_ (zfE_ fo g qs h.2) (zc_ h.1.1);have h:=h.1.2;unfold isxB at h;apply kC_ h;intro y es q h;apply kN_ h;intro y p h;apply kc_ h;intro x t h;apply kc_ h;intro z t2 h;simp only[aW]at h;obtain⟨⟨⟨⟨⟨⟨h1,ht⟩,h2⟩,h3⟩,h4⟩,h5⟩,h8⟩:=h;cases eq_of_beq h1;cases oM.mp ht;exact zkv_ fo g (zj3_ g h8) h4 h2 (fo.bs _ (by simpa using h3)) h5
theorem zhV_ (fo:T.Ok G Z.K Z.mg)(g:Ch Z c)(nd:c.N.Nodup)(fn:∀x,Z.fn x=xj){i j:Nat}:∀(b:Bool) (gs:List (List Ix)) {st:List pM},chkG T G c i j b gs st=xj->PSs Z st (hDen Z.K G (hX i j b gs))
 |b,[],st,h=>by
  unfold chkG at h;rw[hX,hDen,oM.mp h];exact zh0_
 |b,q::gs,st,h=>by
  apply sc_ h;intro a t h;rw[aW]at h;refine zeO_ ?_ (zhV_ fo g nd fn xk gs h.2);apply sA_ h.1;intro o e r h;rw[aW,aW]at h;obtain⟨⟨h1,h2⟩,h3⟩:=h;obtain⟨_,y,p,rfl⟩:=zg0_ g nd (.inl fn) h1;rw[tgB,aW]at h1;refine zjX_ (by rw[g.N];exact nd) (by rw[g.N];exact eq_of_beq h1.1) (zjx_ g h1.2) ?_ (zbO_ h2 _ _) (.inl (fn y))
  cases b with
  |true=>apply kW_ h3;intro es p h;exact zjK_ (zfE_ fo g q h)
  |false=>
   apply kB_ h3;intro l op r p h;simp only[aW]at h;refine zot_ (zpT_ (eq_of_beq h.1.1)) (zj3_ g h.1.2) ?_;apply kW_ h.2;intro es p h;exact zjK_ (zfE_ fo g q h)
theorem zmL_ {iU:List pM}{t:TS}(h:PSs Z.nox iU t):PSsx Z iU (λD _ σ H=>t D σ H):=λpins s σ H D W I hw=>
 pN (h pins s σ H D (I.wish _) hw) (λ_ _ q=>q.unwish) λ_ _ z=>oS z
mutual
theorem zlj_:∀{Z:Cx}{E:XK}(fo:T.Ok G Z.K Z.mg) (g:Cq Z c k E) (s:S) {st:pM},AllH Z k s.fcs->chkS T G c s st=xj->PS Z st (s.den Z.K G E)
 |Z,E,fo,g,.asg i y,st,fs,h=>by
  apply sA_ h;intro o e q h;simp only[aW]at h;exact zpA_ fo g fs h.1.1 h.1.2 h.2
 |Z,E,fo,g,.asg5 is x,st,fs,h=>by
  apply sA_ h;intro o e q h;apply kT_ h;intro es n p h;simp only[aW]at h;obtain⟨⟨⟨⟨h1,h2⟩,h3⟩,h4⟩,h5⟩:=h;obtain⟨a,b,d⟩:=zjF_ g.toCg g.nd (.inl g.fn) h4;exact zjr_ (za_ x fo g.toCg fs h5).pe (zlm_ g.calm a (b.trans (eq_of_beq h3)) d) (zc8_ h1) (zd0_ h2)
 |Z,E,fo,g,.asgT tg x,st,fs,h=>by
  apply sA_ h;intro o e q h;simp only[aW]at h;obtain⟨_,_,_,rfl⟩:=ziK_ h.1.2 h.1.1.2;exact zjr_ (za_ x fo g.toCg fs h.2).pe (zp8_ g.toCg g.nd (.inl g.fn) h.1.2) (zc8_ h.1.1.1.1) (zd0_ h.1.1.1.2)
 |Z,E,fo,g,.setF p n x,st,fs,h=>by
  apply sA_ h;intro o e q h;apply kA_ h;intro o f r h;simp only[aW]at h;cases eq_of_beq h.1.1.1;have ha:=(za_ (.v p) fo g.toCg zkL_ h.1.2).pe;have hv:=(za_ x fo g.toCg fs h.2).pe;intro pins s σ H D I q;obtain⟨d,hd,q⟩:=q;exact zke_ (fo.cls d hd) (fo.at_ d hd _ (by simpa using h.1.1.2)) ha hv zf6_ pins s σ H D I q
 |Z,E,fo,g,.setI p k x,st,fs,h=>by
  apply sA_ h;intro o e q h;apply kS_ h;intro o i r h;simp only[aW]at h;exact zjr_ (za_ x fo g.toCg fs.r h.2).pe (zpz_ (za_ (.v p) fo g.toCg zkL_ h.1.1.2).pe (za_ k fo g.toCg fs.l h.1.2).pe (set_A g.units) (zpv_ h.1.1.1)) zgI_ ze9_
 |Z,E,fo,g,.ex y,st,fs,h=>by
  apply sE_ h;intro e q h;simp only[aW]at h;exact zmi_ (zH_ y fo g.toCg fs h.2).pe (zbO_ h.1 _ _)
 |Z,E,fo,g,.ret y,st,fs,h=>by
  apply sR_ h;intro e q h;cases e with
  |none=>cases h|some e=>exact zop_ (zH_ y fo g.toCg fs h).pe
 |Z,E,fo,g,.retN,st,fs,h=>by
  apply sR_ h;intro e q h;cases qL.mp h;exact zkP_
 |Z,E,fo,g,.if_ d a b,st,fs,h=>by
  apply sI_ h;intro e x y q h;simp only[aW]at h;exact zi7_ ((za_ d fo g.toCg fs.l h.1.1.2).pt h.1.1.1) (zI_ fo g a fs.r.l h.1.2) (zI_ fo g b fs.r.r h.2)
 |Z,E,fo,g,.ifL d a b,st,fs,h=>by
  apply sI_ h;intro e x y q h;simp only[aW]at h;exact zi7_ (zo3_ (za_ d fo g.toCg fs.l h.1.1.2).pe (zda_ h.1.1.1)) (zI_ fo g a fs.r.l h.1.2) (zI_ fo g b fs.r.r h.2)
 |Z,E,fo,g,.ifY d a b,st,fs,h=>by
  apply sI_ h;intro e x y q h;simp only[aW]at h;exact zi7_ ((zH_ d fo g.toCg fs.l h.1.1.2).pt h.1.1.1) (zI_ fo g a fs.r.l h.1.2) (zI_ fo g b fs.r.r h.2)
 |Z,E,fo,g,.for_ ik src tg b,st,fs,h=>by
  apply sF_ h;intro t it x q h;simp only[aW]at h;exact zoH_ g.own g.calm (zj5_ fo g.toCg (ziK_ h.1.1.2) h.1.2 (zgb_ src fo g.toCg fs.l) λes z=>⟨zJ_ src fo g.toCg fs.l z,(zp_ z).1⟩) (zp8_ g.toCg g.nd (.inl g.fn) h.1.1.2) (zI_ fo g b fs.r h.2) (zcn_ h.1.1.1)
 |Z,E,fo,g,.raise d as,st,fs,h=>by
  apply sX_ h;intro e q h;apply kC_ h;intro y es q h;apply kN_ h;intro y p h;simp only[aW]at h;obtain⟨g1,g2⟩:=zdr_ g.toCh h.1.1.2;have hy:=eq_of_beq h.1.1.1;obtain⟨f1,f2⟩:=fs _ (nV ..);have ha:=zJ_ as fo g.toCg (λφ bS=>fs φ (nY _ bS)) h.2
  have hs:=(zp_ h.2).1;have h0:=zjw_ h.2 h.1.2;cases es with
  |nil=>exact absurd rfl h0|cons e es=>
   rw[pK,aW]at hs;exact zir_ g.takes g.calm f1 (by rw[hy];exact f2) ha g1 g2 (zc_ hs.1) (zO_ hs.2) g.ex
 |Z,E,fo,g,.tryC f x as cl tb i j gs,st,fs,h=>by
  apply sK_ h;intro b t n a r p q h;simp only[aW]at h;obtain⟨⟨⟨⟨h1,h2⟩,h3⟩,h4⟩,h5⟩:=h;have hi:Z.N[i]?=xg n:=by rw[g.N];exact eq_of_beq h3
  have hl:Z.env.scope.names.lookup n=xg .local:=by rw[g.nm];exact eq_of_beq h4
  have hN:Z.N.Nodup:=by rw[g.N];exact g.nd
  have c_:∀x,PSs (Z.inX x) (a::r) (hDen Z.K G (hX i j xj gs)):=λx=>zhV_ (Z:=Z.inX x) fo ⟨g.N,g.nm,g.kind⟩ g.nd g.fn xj gs h5
  have eC:PSsx Z b (tDropX (CtG Z.K f) (X.dens Z.K G E0 as)):=by
   apply sc_ h1;intro s' r' h1;rw[aW]at h1;cases oM.mp h1.1;apply sE_ h1.2;intro e q' h1;apply kC_ h1;intro y es q2 h1;apply kN_ h1;intro y p2 h1;simp only[aW]at h1;cases eq_of_beq h1.1.1.1;obtain⟨g1,g2⟩:=zdr_ g.toCh h1.1.1.2;obtain⟨ps,j,hj,F⟩:=fs _ (nV ..);have ha:=zJ_ as (Z:=Z.nox) fo g.nox.toCg (λφ bS=>fs φ (nY _ bS)) h1.2
   have hs:=(zp_ h1.2).1;have h0:=zjw_ h1.2 h1.1.2;cases es with
   |nil=>exact absurd rfl h0|cons e es=>
    rw[pK,aW]at hs;exact ziF_ (zja_ F (g.room.mono hj) ha g1 g2 (zc_ hs.1) (zO_ hs.2) (zbO_ rfl _ _))
  apply kN_ h2;intro m p3 h2;simp only[aW]at h2;cases eq_of_beq h2.1.1;obtain⟨g1,g2⟩:=zdr_ g.toCh h2.1.2;obtain⟨u,hu,ru⟩:=fo.ex _ (by simpa using h2.2)
  cases ru;exact zl3_ g.stack.1 g.stack.2 eC (ph_as hu hN hi hl c_ zoU_ g1 g2)
 |Z,E,fo,g,.pass,st,fs,h=>by
  rcases(ql _ _).mp h with h |h
  ·apply sP_ h;intro q;exact zlC_
  ·apply sE_ h;intro e q h
   apply kK_ h;intro d n p h;cases d<;>first |exact zp6_ |cases h
 |Z,E,fo,g,.never,st,fs,h=>ziX_|Z,E,fo,g,.try0 b bx,st,fs,h=>by
  apply sT_ h;intro x a r y q h;simp only[aW]at h;have hb:=zI_ (Z:=Z.nox) (E:=E0) fo g.nox b fs.l h.1;have hl:=zI_ fo g bx fs.r h.2;exact zjn_ g.stack.1 g.stack.2 (zmL_ hb) hl ziV_
theorem zI_:∀{Z:Cx}{E:XK}(fo:T.Ok G Z.K Z.mg) (g:Cq Z c k E) (ss:List S) {st:List pM},AllH Z k (S.fcss ss)->chkSs T G c ss st=xj->PSs Z st (S.dens Z.K G E ss)
 |Z,E,fo,g,[],st,fs,h=>by
  unfold chkSs at h;rw[S.dens,oM.mp h];exact zh0_
 |Z,E,fo,g,s::ss,st,fs,h=>by
  apply sc_ h;intro a t h;simp only[aW]at h;exact zeO_ (zlj_ fo g s fs.l h.1) (zI_ fo g ss fs.r h.2)
end
end
theorem am_nil {α:Type}{p:α->Prop}:∀x∈([]:List α),p x:=λ_ h=>by cases h
theorem am_cons {α:Type}{p:α->Prop}{a:α}{l:List α}(h:p a)(t:∀x∈l,p x):∀x∈a::l,p x:=λx hx=>by
 rcases og.mp hx with rfl |hx
 ·exact h
 ·exact t x hx
theorem ftt_u {K:oK}{x:Str}{xs:List (List Nat)}(h:FtT K x xs):SqU K (gA K x) (xs.map tx):=by
 rcases h (λ_=>xh)with h |h
 ·rcases h with h |⟨_,h⟩<;>cases h
 ·exact h
noncomputable def AllF (Φ:Fc->Prop):List Fc->Prop
 |[]=>True|φ::l=>Φ φ/\AllF Φ l
theorem AllF.mem {Φ:Fc->Prop}:∀{l:List Fc},AllF Φ l->∀φ∈l,Φ φ
 |[],_,_,h=>by cases h
 |ψ::l,h,φ,hm=>by
  rcases og.mp hm with rfl |hm
  ·exact h.1
  ·exact AllF.mem h.2 φ hm
section
variable {P:oH}{w:oV}{K:pE}{mg:Str->Option nI}{base:Heap}{x q:Str}{st:pM}{N ps:List Str}{k:Nat}{T:Ft}{G:Gi}{body:List S}
theorem cq_of (S:FnScope N ps (defScope st)){f:nR}{ai:nI}{A:ph}{outer:List PySem.Env}{s:nO}{H:Hp}{E:XK}(hr:Room k (A.deeper (envOfC q (defScope st) s.heap.objs.size f ai))):
  Cq (cxOf (CXx P w) P w K mg base N q (defScope st) f ai A outer s H E) ⟨N,(defScope st).names⟩ k E where
 N:=rfl
 nm:=rfl
 kind:=S.kind
 calm:=rfl
 room:=hr
 pass:=zgs_
 cells:=λx hx=>by
  rcases hx with hx |hx
  ·exact zdL_ hx
  ·exact absurd rfl (S.nofree _ (qj hx))
 fn:=λ_=>rfl
 nd:=S.nd
 own:=PassesOwn.leaving
 takes:=ziq_
 ex:=rfl
 stack:=⟨rfl,rfl⟩
theorem zh4_ {n m:Nat}{vs:List V}{H:Hp}{Q:VK}{E:XK}(h:CtG K (fnOf G n m body) vs H Q E):vs.length=n:=by
 obtain⟨F,h,ds,hs,dj,sh,os,fin⟩:=h;unfold fnOf at fin;split at fin
 ·rename_i hd
  rw[<- ODs.len os,hd]
 ·exact fin.elim
theorem okV {n m:Nat}(g0:G.Ok K)(fo:T.Ok G K mg)(fs:AllF (Fc.H P w K mg base k) (S.fcss body))(hc:chkSs T G ⟨N,(defScope st).names⟩ body (defBody st)=xj)
  (S:FnScope N ps (defScope st)) (b:Bnd K x q st ps) (hp:ps.length=n) (hm:N.length=n+m):OkF P w K mg base (CXx P w) (k+1) x q st ps (CtG K (fnOf G n m body)):=λf fd F=>
 ⟨F.okX S (λvs H Q E h=>(zh4_ h).trans hp.symm) λai A outer s H vs Q E hr h=>⟨VI.S.dens K G E body,zI_ fo (cq_of S hr) body fs.mem hc,zlW_ g0 hm vs H Q E h⟩,b f fd F⟩
theorem okVD {n m:Nat}(g0:G.Ok K)(fo:T.Ok G K mg)(fs:AllF (Fc.H P w K mg base k) (S.fcss body))(hc:chkSs T G ⟨N,(defScope st).names⟩ body (defBody st)=xj)
  (S:FnScope N ps (defScope st)) (hp:ps.length=n) (hm:N.length=n+m):OkFD P w K mg base (CXx P w) (k+1) x q st ps (CtG K (fnOf G n m body)):=λT f fd F=>
 F.okX S (λvs H Q E h=>(zh4_ h).trans hp.symm) λai A outer s H vs Q E hr h=>⟨VI.S.dens K G E body,zI_ fo (cq_of S hr) body fs.mem hc,zlW_ g0 hm vs H Q E h⟩
noncomputable abbrev X.n (i:Int):X:=.k (.int i)
abbrev X.i (a:X)(n:Int):X:=.bin .ix a (.k (.int n))
abbrev GG (P:oH)(w:oV)(K:oK)(mg:Str->Option nI)(base:Heap)(k:Nat)(x:Str)(ps:List Str)(f:Fn):Prop:=Gd P w K mg base (CXx P w) k x ps (CtG K f)
theorem fkc {j:Nat}{f:Fn}(g:GG P w K mg base j x ps f)(h:j<=k:=by decide):Fc.H P w K mg base k (.call f x):=⟨ps,j,h,g⟩
theorem fkk {j:Nat}{f:Fn}(g:Gk P w K mg base (CXx P w) j x (gA K x) ps (CtG K f))(h:j+1<=k:=by decide):Fc.H P w K mg base k (.make f x):=⟨ps,j,h,g⟩
def lN (st:pM):List Str:=(defScope st).names.filterMap λq=>match q.2 with |.local=>xg q.1 |.cell=>xg q.1 |_=>xh
structure Ec (T:Ft)(G:Gi)(K:oK):Prop where
 b:∀x∈T.bs,L2.Fb K x
 c:∀c∈G.cs,L2.Fc K c
 a:∀c∈G.cs,∀a∈T.at_,L2.Fa K c a
 v:∀q∈T.gc,L2.Fv K q.1 q.2
 k:∀q∈G.kt,L2.Fk K q.1
 t:∀q∈G.kt,L2.FtT K q.1 q.2
 x:∀x∈G.ex,L2.Fk K x
theorem Ec.ft (e:Ec T G K)(m:Mgo K mg):T.Ok G K mg:=⟨λx h=>m.gb (e.b x h),λc h=>(e.c c h).cls,λc h a h'=>(e.a c h a h').no,λq h=>m.gv (e.v q h),λq h=>m.gkc (e.k q h),λx h=>m.gkc (e.x x h)⟩
structure Eo (P:oH)(w:oV)(base:Heap)(T:Ft)(G:Gi)(K:oK)(mg:Str->Option nI):Prop where
 m:Mgo K mg
 g:G.Ok K
 t:T.Ok G K mg
theorem gdT (k:Nat){n m:Nat}{f:Fn}(e:Eo P w base T G K mg)(hf:f=fnOf G n m body)(F:Fg K x st)(fs:AllF (Fc.H P w K mg base k) (S.fcss body))(hc:chkSs T G ⟨lN st,(defScope st).names⟩ body (defBody st)=xj:=by decide +kernel)
  (S:FnScope (lN st) ((lN st).take n) (defScope st):=by exact⟨rfl,rfl,rfl,by decide +kernel,by decide +kernel,by decide +kernel,by decide +kernel⟩)
  (b:Bnd K x x st ((lN st).take n):=by first |exact λ_ _ F=>Fun.binds1 rfl F (by intros;rfl)|exact λ_ _ F=>Fun.binds2 rfl F (by intros;rfl)|exact λ_ _ F=>Fun.binds3 rfl F (by intros;rfl)|exact λ_ _ F=>Fun.binds4 rfl F (by intros;rfl)|exact λ_ _ F=>Fun.binds5 rfl F (by intros;rfl))
  (hp:((lN st).take n).length=n:=by decide +kernel) (hm:(lN st).length=n+m:=by decide +kernel):GG P w K mg base (k+1) x ((lN st).take n) f:=by subst hf;exact gd_of e.m F (okV e.g e.t fs hc S b hp hm)
theorem zk3_ {CX:CXT}{C:nR}{sp:Sp}(F:GkD P w K mg base CX k x C ps [] sp):Gk P w K mg base CX k x C ps sp:=by
 obtain⟨f,fd,ds,F,M,hm,hv,hb⟩:=F;cases hv;exact⟨f,fd,F,M,hm,hb⟩
theorem bnd10 {T f:nR}{fd:pL}{arr:Array nI}{n:Nat}{oc:nI}{od:Option nR}{ao:Array (Option nI)}(hp:ps.length=10)(F:FunD K T x q st f fd)(lT:K.lookup T=xg ⟨oc,od,.seq arr n,ao⟩)(hl:arr.toList.length=5)
  (h:∀(d0 d1 d2 d3 d4:nI) (kV doc pm:nI) (an:Option nR) (ai ct:nI) (u0 u1 u2 u3 u4 u5 u6 u7 u8 u9:nI) (s:nO),(∃o,s.heap.get? T=xg o/\o.data=.seq #[d0,d1,d2,d3,d4] n)->BindsTo s (W.fnOf x q (defArgs st) (defBody st) (defScope st) (.ref T) kV doc pm an ai ct) ⟨[u0,u1,u2,u3,u4,u5,u6,u7,u8,u9],[]⟩ (ps.zip [u0,u1,u2,u3,u4,u5,u6,u7,u8,u9])):Binds K fd ps (arr.toList.drop 5):=by
 obtain⟨d0,d1,d2,d3,d4,rfl⟩:=arr5 hl;exact zil_ hp F lT (h d0 d1 d2 d3 d4)
theorem FnOk.cx0 {f:nR}{fd:pL}{sp iV:Sp}(F:FnOk P w K mg base (CXx P w) k f fd ps sp)(h:∀vs H Q E,iV vs H Q E->sp vs H Q E0):FnOk P w K mg base CX0 k f fd ps iV:=by
 refine⟨λvs H Q E q=>F.len _ _ _ _ (h _ _ _ _ q),λA outer s H args us vs Q E hr e0 hb r q=>codeAny_mono (F.run A outer s H args us vs Q E0 hr e0 hb r (h _ _ _ _ q)) λr s' z=>?_⟩
 cases r with
 |ok fl=>cases fl<;>exact z
 |error e=>
  obtain⟨_,_,_,_,_,_,_,_,_,_,_,h⟩:=z;exact h.elim
theorem ze8_:∀(ns:List Int) {H:Hp},DRs K (ns.map D.int) (ns.map V.int) H
 |[],_=>by unfold DRs;rfl
 |n::ns,H=>by rw[nS,nS];unfold DRs;exact⟨_,_,rfl,by unfold DR;rfl,ze8_ ns⟩
noncomputable def scr (ns:List Int):D:=.fz (.nd .scr (ns.map .int))
theorem zlz_ {f:Fn}(hf:∀ns:List Int,ns.length<=63->BitsOk ns->f.val [scr ns]=.ok (.bl xj)):∀vs H Q E,spL K vs H Q E->CtG K f vs H Q E0:=by
 rintro vs H Q E ⟨a,ns,rfl,hS,hl,hb,q⟩;refine zds_ (ds:=[.nd .scr (ns.map .int)]) (Same.refl H) ?_ ?_
 ·unfold DRs;exact⟨_,_,rfl,by unfold DR;exact⟨a,_,rfl,hS,ze8_ ns⟩,by unfold DRs;rfl⟩
 ·have:[D.nd .scr (ns.map .int)].map D.vw=[scr ns]:=by
   unfold D.vw scr D.imm;rfl
  rw[this,hf ns hl hb];rintro F' H' x v h fresh d s o;have o:(∀p,h p=xh)/\DR K (.bl xj) v F':=by
   have o:OD K (.bl xj) v F' h:=o;unfold OD at o;exact o
  cases o.2.bl;exact q H'
theorem okLV {fa:nR}{fd:pL}{f:Fn}(F:FnOk P w K mg base (CXx P w) k fa fd ps (CtG K f))(hf:∀ns:List Int,ns.length<=63->BitsOk ns->f.val [scr ns]=.ok (.bl xj)):FnOk P w K mg base CX0 k fa fd ps (spL K):=FnOk.cx0 F (zlz_ hf)
end
section
variable {G:Gi}{pn:Nat->Bool}{env e:Env}{ss a b:List S}{y:Y}{c:X}{d:D}{i:Nat}{ds:List D}
theorem rf_ {α:Type}{a:α}:a=a:=of_eq_true (eq_self a)
theorem ze5_ (r:Mr Env Fl)(f g:Env->Mr Env Fl):seqM (seqM r f) g=seqM r λe=>seqM (f e) g:=by
 cases r with
 |ok o e=>cases o<;>rfl
 |ex c e=>rfl|no=>rfl
theorem zhl_:∀(a:List S) (env:Env),seqM (S.runs G pn a env) (λe=>S.runs G pn b e)=S.runs G pn (a++b) env
 |[],env=>by rw[S.runs];rfl
 |s::a,env=>by
  rw[qa,S.runs,S.runs,ze5_];congr 1;funext e;exact zhl_ a e
theorem zmm_ (h:y.ev G env=.ok d e)(hp:pn i=xk)(hi:i<e.length):S.runs G pn (.asg i y::ss) env=S.runs G pn ss (e.set i (xg d)):=by
 rw[S.runs,S.run,h];show seqM (if pn i=xk/\i<e.length then .ok .nx (e.set i (xg d))else .no) _=_
 rw[if_pos ⟨hp,hi⟩];rfl
theorem rs_ex (h:y.ev G env=.ok d e):S.runs G pn (.ex y::ss) env=S.runs G pn ss e:=by
 rw[S.runs,S.run,h];rfl
theorem zpy_ (h:(c.ev G env).bind blD=.ok xj):S.runs G pn (.if_ c a b::ss) env=S.runs G pn (a++ss) env:=by
 rw[S.runs,S.run,h,<- zhl_];rfl
theorem zoJ_ (h:(c.ev G env).bind blD=.ok xk):S.runs G pn (.if_ c a b::ss) env=S.runs G pn (b++ss) env:=by
 rw[S.runs,S.run,h,<- zhl_];rfl
theorem za1_ (h:D.colds ds=xj)(i:Nat):pins ds i=xk:=by
 unfold pins;induction ds generalizing i with
 |nil=>rfl|cons d ds ih=>
  unfold D.colds at h;rw[aW]at h;cases i with
  |zero=>show(!d.cold)=xk;rw[h.1];rfl|succ i=>exact ih h.2 i
theorem za4_:∀{ds:List D}{env:Env},D.colds ds=xj->outs ds env=ds
 |[],_,_=>by unfold outs;rfl
 |d::ds,[],h=>by
  unfold D.colds at h;rw[aW]at h;unfold outs;rw[if_pos h.1,za4_ h.2]
 |d::ds,o::env,h=>by
  unfold D.colds at h;rw[aW]at h;unfold outs;rw[if_pos h.1,za4_ h.2]
theorem zfB_ {f:Fn}{ds':List D}(h:f ds=.ok d ds'):f.val ds=.ok d:=by unfold Fn.val;rw[h]
theorem zcI_ (ns:List Int):(scr ns).vw=scr ns:=by unfold scr D.vw D.imm;rfl
theorem zka_ (i:Int):(D.int i).vw=.int i:=rfl
theorem zmt_ (l:List Nat):(D.str l).vw=.str l:=rfl
theorem bl_vw (b:Bool):(D.bl b).vw=.bl b:=rfl
theorem znP_:D.non.vw=.non:=rfl
theorem zeF_ (ns:List Int):lenA [scr ns]=.ok (.int ns.length):=by
 show Mo.ok (D.int ((ns.map D.int).length:Nat))=_
 rw[nN]
theorem atI_nn {α:Type}{l:List α}{i:Int}{a:α}(h0:0<=i)(h:l[i.toNat]?=xg a):atI l i=xg a:=by
 have hi:=(oA.mp h).1;unfold atI ixN;rw[if_pos h0,if_pos (by omega)]
 exact h
section
variable (i j:Int)
theorem vd_lt:ltD (.int i) (.int j)=.ok (.bl (decide (i<j))):=rfl
theorem zjA_:leD (.int i) (.int j)=.ok (.bl (decide (i<=j))):=rfl
theorem vd_gt:gtD (.int i) (.int j)=.ok (.bl (decide (j<i))):=rfl
theorem zqa_:addA (.int i) (.int j)=.ok (.int (i+j)):=rfl
theorem zpG_:subD (.int i) (.int j)=.ok (.int (i-j)):=rfl
theorem zo4_:negD (.int i)=.ok (.int (-i)):=rfl
theorem vd_bl (b:Bool):blD (.bl b)=.ok b:=rfl
theorem vd_int:intD (.int i)=.ok i:=rfl
end
theorem vd_mod {i j:Int}(h:0<j):modD (.int i) (.int j)=.ok (.int (i % j)):=by
 show Mo.grd _ _=_
 exact if_pos h
theorem zpq_ {i j:Int}(h:CDivG i j):divD (.int i) (.int j)=.ok (.int (i / j)):=by
 show Mo.grd _ _=_
 exact if_pos h
theorem zmN_ {i j:Int}(h:IntMulOk i j):mulD (.int i) (.int j)=.ok (.int (i*j)):=by
 show Mo.grd _ _=_
 exact if_pos h
theorem vd_ix {ns:List Int}{k:Int}(h0:0<=k)(h:k<ns.length):ixA (scr ns) (.int k)=.ok (.int (ns.getD k.toNat 0)):=by
 show Mo.opt ((atI (ns.map D.int) k).map D.vw)=_
 have hk:k.toNat<ns.length:=by lia
 rw[atI_nn h0 (a:=.int (ns.getD k.toNat 0)) (by rw[om,nU hk];simp[pT,hk])]
 rfl
end
section
variable {α β s:Type}{G:Gi}{pn:Nat->Bool}{env e:Env}{d x y:D}
theorem zcP_ (g:Env->Mr Env Fl):seqM (.ok .nx e) g=g e:=of_eq_true (eq_self _)
theorem zoi_ (g:Env->Mr Env Fl):seqM (.ok (.rt d) e) g=.ok (.rt d) e:=of_eq_true (eq_self _)
theorem zhi_ (a:α)(t:s)(k:α->s->Mr s β):(Mr.ok a t).bind k=k a t:=of_eq_true (eq_self _)
theorem zbb_ (a:α)(k:α->Mo β):(Mo.ok a).bind k=k a:=of_eq_true (eq_self _)
theorem zmY_ (a:α):Mo.opt (xg a)=.ok a:=of_eq_true (eq_self _)
theorem zg8_ (r1 r2:Mr Env Fl):ifM env (.ok xj) r1 r2=r1:=of_eq_true (eq_self _)
theorem zle_ (r1 r2:Mr Env Fl):ifM env (.ok xk) r1 r2=r2:=of_eq_true (eq_self _)
theorem and_t (r:Mo D):andD (.bl xj) r=r:=of_eq_true (eq_self _)
theorem and_f (r:Mo D):andD (.bl xk) r=.ok (.bl xk):=of_eq_true (eq_self _)
theorem noE (o:Fl):noEx (.ok o e)=.ok o e:=of_eq_true (eq_self _)
theorem zmJ_ (i:Nat)(hp:pn i=xk)(hi:i<e.length):asgM pn i (.ok d e)=.ok .nx (e.set i (xg d)):=by
 unfold asgM;rw[zhi_,if_pos ⟨hp,hi⟩]
theorem zl7_:dropM (.ok d e)=.ok .nx e:=of_eq_true (eq_self _)
theorem zpg_:retM (.ok d e)=.ok (.rt d) e:=of_eq_true (eq_self _)
theorem get_0 (l:Env):getE (xg d::l) 0=.ok d.vw:=of_eq_true (eq_self _)
theorem get_s (o:Option D)(l:Env)(n:Nat):getE (o::l) (n+1)=getE l n:=of_eq_true (eq_self _)
theorem mv_0 (l:Env):mvM (xg d::l) 0=.ok d (xh::l):=of_eq_true (eq_self _)
theorem mv_s (o:Option D)(l:Env)(n:Nat):mvM (o::l) (n+1)=match mvM l n with |.ok d e=>.ok d (o::e)|.ex c e=>.ex c (o::e)|.no=>.no:=by
 unfold mvM;rw[p9]
 match l[n]? with
 |some (xg d)=>rfl
 |some xh=>rfl|none=>rfl
def keep (m:Mo D)(env:Env)(u:List Nat):Mr Env D:=match m with
 |.ok d=>if d.new then .ok d env else .ok d (frzE env u)
 |.ex c=>.ex c env|.no=>.no
theorem zfv_ (x:X):stX G env x=keep (x.ev G env) env x.uses:=rfl
theorem zap_ (u:List Nat)(hn:d.new=xj):keep (.ok d) env u=.ok d env:=if_pos hn
theorem zaV_ (u:List Nat)(hn:d.new=xk):keep (.ok d) env u=.ok d (frzE env u):=if_neg (by rw[hn];decide)
section
variable (neg:Bool)(lo hi:Option Int)
theorem fz_ix:ixA (.fz d) x=ixA d x:=of_eq_true (eq_self _)
theorem fz_in:inA neg x (.fz d)=inA neg x d:=of_eq_true (eq_self _)
theorem znH_:lenA [.fz d]=lenA [d]:=of_eq_true (eq_self _)
theorem zlD_:addA (.fz d) x=addA d x:=of_eq_true (eq_self _)
theorem zng_:addA x (.fz d)=addA x d:=of_eq_true (eq_self _)
theorem fz_sl:slA (.fz d) lo hi=slA d lo hi:=of_eq_true (eq_self _)
theorem zof_ (cs:List Str)(f:Str):fldD cs f (.fz d)=fldD cs f d:=of_eq_true (eq_self _)
theorem zkq_:listA [.fz d]=listA [d]:=of_eq_true (eq_self _)
theorem zm8_:walkA [.fz d]=walkA [d]:=of_eq_true (eq_self _)
theorem zj2_:sortI [.fz d]=sortI [d]:=of_eq_true (eq_self _)
theorem fz_is:isD neg (.fz d) x=isD neg d x:=of_eq_true (eq_self _)
theorem zne_:enumD [.fz d]=enumD [d]:=of_eq_true (eq_self _)
theorem zp3_ (n:Nat):eqT n (.fz d) x=eqT n d x:=by cases n<;>rfl
theorem znd_ (n:Nat):eqT n x (.fz d)=eqT n x d:=by cases n<;>rfl
theorem fz_eq:eqD neg (.fz d) x=eqD neg d x:=by unfold eqD;rw[zp3_]
theorem znE_:eqD neg x (.fz d)=eqD neg x d:=by unfold eqD;rw[znd_]
theorem zok_ (h:d.imm=xk):(D.fz d).vw=.fz d:=by unfold D.vw;rw[if_neg];rw[show(D.fz d).imm=d.imm from by rw[D.imm]];rw[h];decide
end
theorem zpC_ (i:Int):X.ev G env (.k (.int i))=.ok (.int i):=rf_
theorem zoh_ (l:List Nat):X.ev G env (.k (.str l))=.ok (.str l):=rf_
theorem xk_bl (b:Bool):X.ev G env (.k (.bl b))=.ok (.bl b):=rf_
theorem znN_:X.ev G env (.k .non)=.ok .non:=rf_
theorem znU_ (n:Str)(i:Int):X.ev G env (.g n (.int i))=.ok (.int i):=rf_
theorem zov_ (n:Str)(l:List Nat):X.ev G env (.g n (.str l))=.ok (.str l):=rf_
theorem or_b (a b:Bool):orD (.bl a) (.ok (.bl b))=.ok (.bl (a ||b)):=by cases a<;>rfl
theorem and_b (a b:Bool):andD (.bl a) (.ok (.bl b))=.ok (.bl (a && b)):=by cases a<;>rfl
theorem min_i (i j:Int):minD [.int i,.int j]=.ok (.int (min i j)):=of_eq_true (eq_self _)
theorem zcb_ {i j:Int}(h0:0<j)(h1:j<1073741824):divD (.int i) (.int j)=.ok (.int (i / j)):=zpq_ (znf_ h0 (by lia))
theorem zcR_ {i j:Int}(h0 : -18446744073709551616<i)(h1:i<18446744073709551616):mulD (.int i) (.int j)=.ok (.int (i*j)):=zmN_ (zc4_ (.inl ⟨by lia,by lia⟩))
theorem zlc_ {i j:Int}(h0 : -18446744073709551616<j)(h1:j<18446744073709551616):mulD (.int i) (.int j)=.ok (.int (i*j)):=zmN_ (zc4_ (.inr ⟨by lia,by lia⟩))
theorem zgD_ (i:Int):(D.int i).new=xj:=by rw[D.new]<;>simp
theorem zgX_ (l:List Nat):(D.str l).new=xj:=by rw[D.new]<;>simp
theorem zol_:D.non.new=xj:=by rw[D.new]<;>simp
theorem zno_ (k:Nd)(ds:List D):(D.nd k ds).new=D.news ds:=by rw[D.new]
theorem nw_c (d:D)(ds:List D):D.news (d::ds)=(d.new && D.news ds):=by rw[D.news]
theorem nw_0:D.news []=xj:=by rw[D.news]
section
variable (a b c x:X)(as:List X)
theorem xv_v (i:Nat):X.ev G env (.v i)=getE env i:=rf_
theorem xv_gt (n:Str)(ls:List (List Nat))(h:(n,ls)∈G.kt):X.ev G env (.gt n ls)=.ok (.nd .ktup (ls.map .str)):=if_pos h
theorem zcV_ (o:Bo):X.ev G env (.bin o a b)=(a.ev G env).bind λx=>(b.ev G env).bind λy=>o.f x y:=rf_
theorem xv_ch (o o':Bo):X.ev G env (.ch o o' a b c)=(a.ev G env).bind λx=>(b.ev G env).bind λy=>chD o o' x y (c.ev G env):=rf_
theorem zo1_ (o o' aI:Bo):X.ev G env (.ch3 o o' aI a b c x)=(a.ev G env).bind λu=>(b.ev G env).bind λy=>ch3D o o' aI u y (c.ev G env) (x.ev G env):=rf_
theorem zog_:X.ev G env (.and a b)=(a.ev G env).bind λx=>andD x (b.ev G env):=rf_
theorem xv_or:X.ev G env (.or a b)=(a.ev G env).bind λx=>orD x (b.ev G env):=rf_
theorem zpf_:X.ev G env (.not a)=(a.ev G env).bind λx=>(blD x).bind λb=>.ok (.bl (!b)):=rf_
theorem zo2_:X.ev G env (.neg a)=(a.ev G env).bind negD:=rf_
theorem zoE_:X.ev G env (.ifx c a b)=((c.ev G env).bind blD).bind λt=>if t=xj then a.ev G env else b.ev G env:=rf_
theorem xv_sl (lo hi:Option X):X.ev G env (.sl a lo hi)=(a.ev G env).bind λx=>(X.evO G env lo).bind λl=>(X.evO G env hi).bind λh=>slA x l h:=rf_
theorem znO_:X.ev G env (.tup as)=(X.evs G env as).bind λds=>.lim ds.length (.ok (.nd .tup ds)):=rf_
theorem zpe_:X.ev G env (.lst as)=(X.evs G env as).bind λds=>.lim ds.length (.ok (.nd .lst ds)):=rf_
theorem zpk_ (f:Str):X.ev G env (.fld a f)=(a.ev G env).bind (fldD G.cs f):=rf_
theorem zhS_ (f:Fn)(n:Str):X.ev G env (.call f n as)=(X.evs G env as).bind λds=>f.val (ds.map .vw):=rf_
theorem xv_bf (o:Bf):X.ev G env (.bf o as)=(X.evs G env as).bind o.f:=rf_
theorem zms_ (f:Fn)(n:Str):X.ev G env (.make f n as)=(X.evs G env as).bind (makeD f n):=rf_
theorem zoX_ {c d e f:X}:X.ev G env (.ds3 a b c d e f)=(a.ev G env).bind λx=>(b.ev G env).bind λy=>(c.ev G env).bind λz=>(d.ev G env).bind λw=>(e.ev G env).bind λu=>(f.ev G env).bind λv=>dspD [x,y,z,w,u,v]:=rf_
theorem zoo_ {c d:X}:X.ev G env (.ds2 a b c d)=(a.ev G env).bind λx=>(b.ev G env).bind λy=>(c.ev G env).bind λz=>(d.ev G env).bind λw=>dspD [x,y,z,w]:=rf_
theorem xv_lr:X.ev G env (.lr a b)=(a.ev G env).bind λx=>(b.ev G env).bind λy=>lrD x y:=rf_
theorem zi4_ (ns tb:List (String×Bool))(h:(ns,tb)∈G.ix):X.ev G env (.isx a ns tb)=(a.ev G env).bind (isxD tb):=if_pos h
theorem zpX_ (n:String):X.ev G env (.isa a n)=(a.ev G env).bind (isaD n):=rf_
theorem zlR_:X.ev G env .dct0=.ok (.nd (.dct []) []):=rf_
theorem xs_0:X.evs G env []=.ok []:=rf_
theorem xs_c:X.evs G env (a::as)=(a.ev G env).bind λd=>(X.evs G env as).bind λds=>.ok (d::ds):=rf_
theorem xo_0:X.evO G env xh=.ok xh:=rf_
theorem xo_s:X.evO G env (xg a)=(a.ev G env).bind λd=>(intD d).bind λi=>.ok (xg i):=rf_
theorem xt_0:X.evT G env xh=.ok xj:=rf_
theorem xt_s:X.evT G env (xg a)=(a.ev G env).bind blD:=rf_
theorem znm_ {o o':Bo}{x y:D}{r:Mo D}(h:o.f x y=.ok (.bl xj)):chD o o' x y r=r.bind λw=>o'.f y w:=by unfold chD;rw[h];rfl
theorem chD_f {o o':Bo}{x y:D}{r:Mo D}(h:o.f x y=.ok (.bl xk)):chD o o' x y r=.ok (.bl xk):=by unfold chD;rw[h];rfl
end
def En (r:Mr Env Fl)(Q:Fl->Env->Prop):Prop:=∃o e,r=.ok o e/\Q o e
theorem zcT_ {l:List β}{enc:β->List D}{is:List Nat}{body k:Env->Mr Env Fl}{Q:Fl->Env->Prop}(P:List β->Env->Prop)(h0:P [] env)
  (hs:∀d x r e,l=d++x::r->P d e->∃e',setG pn e is (enc x)=xg e'/\En (body e') λo bJ=>((o=.nx\/o=.ct)/\P (d++[x]) bJ)\/((∃v,o=.rt v)/\Q o bJ))
  (hk:∀e,P l e->En (k e) Q):En (seqM (forM (λe x=>match setG pn e is x with |some e'=>body e' |none=>.no) (l.map enc) env) k) Q:=by
 suffices main:∀(r d:List β) (e:Env),l=d++r->P d e->En (forM (λe x=>match setG pn e is x with |some e'=>body e' |none=>.no) (r.map enc) e) (λo e=>(o=.nx/\P l e)\/((∃v,o=.rt v)/\Q o e)) by
  obtain⟨o,e,h,q⟩:=main l [] env rfl h0;rw[h];rcases q with⟨rfl,q⟩|⟨⟨v,rfl⟩,q⟩
  ·rw[zcP_];exact hk e q
  ·rw[zoi_];exact⟨_,_,rfl,q⟩
 intro r;induction r with
 |nil=>intro d e hl hp;rw[pW]at hl;subst hl;exact⟨.nx,e,rfl,.inl ⟨rfl,hp⟩⟩
 |cons x r ih=>
  intro d e hl hp;obtain⟨e',h1,o,bJ,h2,q⟩:=hs d x r e hl hp;rw[nS];unfold forM;simp only[h1,h2];rcases q with⟨h |h,q⟩|⟨⟨v,h⟩,q⟩
  ·subst h;exact ih (d++[x]) bJ (by rw[hl,pD];rfl) q
  ·subst h;exact ih (d++[x]) bJ (by rw[hl,pD];rfl) q
  ·subst h;exact⟨_,_,rfl,.inr ⟨⟨v,rfl⟩,q⟩⟩
theorem zkU_ {l:List β}{enc:β->List D}{ik:Ik}{x:X}{tg:Tg}{b ss:List S}{Q:Fl->Env->Prop}{e1:Env}{items:List D}(P:List β->Env->Prop)(hg:keep (x.ev G env) env x.uses=.ok d e1)(hi:ik.f [d]=.ok items)(ht:tgsD tg items=xg (l.map enc))(h0:P [] e1)
  (hs:∀d x r e,l=d++x::r->P d e->∃e',setG pn e tg.is (enc x)=xg e'/\En (S.runs G pn b e') λo bJ=>((o=.nx\/o=.ct)/\P (d++[x]) bJ)\/((∃v,o=.rt v)/\Q o bJ))
  (hk:∀e,P l e->En (S.runs G pn ss e) Q):En (S.runs G pn (.for_ ik [x] tg b::ss) env) Q:=by
 have e0:evG G env [x]=.ok [d] e1:=by
  show((stX G env x).bind λd e=>(evG G e []).bind λgs e'=>.ok (d::gs) e')=_
  rw[zfv_,hg];rfl
 rw[S.runs,S.run,e0];have e1:forS pn ik tg (.ok [d] e1) (λe=>S.runs G pn b e)=forM (λe x=>match setG pn e tg.is x with |some e'=>S.runs G pn b e' |none=>.no) (l.map enc) e1:=by
  unfold forS;show(match ik.f [d]with |.ok items=>_ |_=>_)=_
  rw[hi];show(match tgsD tg items with |some xs=>_ |none=>_)=_
  rw[ht]<;>rfl
 rw[e1];exact zcT_ P h0 hs hk
theorem zcH_ {y:Y}{i:Nat}{ss:List S}(h:y.ev G env=.ok d env)(hp:pn i=xk)(hi:Nat.ble (i+1) env.length=xj:=by rfl):S.runs G pn (.asg i y::ss) env=S.runs G pn ss (env.set i (xg d)):=zmm_ h hp (r9 hi)
theorem zcX_ {l:List β}{enc:β->List D}{ik:Ik}{x:X}{tg:Tg}{b ss:List S}{Q:Fl->Env->Prop}{items:List D}(P:List β->Env->Prop)(hg:keep (x.ev G env) env x.uses=.ok d env)(hi:ik.f [d]=.ok items)(ht:tgsD tg items=xg (l.map enc))(h0:P [] env)
  (hs:∀d x r e,l=d++x::r->P d e->∃e',setG pn e tg.is (enc x)=xg e'/\En (S.runs G pn b e') λo bJ=>((o=.nx\/o=.ct)/\P (d++[x]) bJ)\/((∃v,o=.rt v)/\Q o bJ))
  (hk:∀e,P l e->En (S.runs G pn ss e) Q):En (S.runs G pn (.for_ ik [x] tg b::ss) env) Q:=zkU_ P hg hi ht h0 hs hk
theorem zc9_ {l:List β}{enc:β->D}{i:Nat}{a:Env}{b:Env}{o:Option D}{body k:Env->Mr Env Fl}{Q:Fl->Env->Prop}(hi:a.length=i)(hp:pn i=xk)
  (hs:∀x∈l,En (body (a++xg (enc x).vw::b)) λo e=>o=.nx/\e=a++xg (enc x).vw::b)
  (hk:∀o,En (k (a++o::b)) Q):En (seqM (forM (λe x=>match setG pn e [i] x with |some e'=>body e' |none=>.no) (l.map λx=>[enc x]) (a++o::b)) k) Q:=by
 refine zcT_ (enc:=λx=>[enc x]) (λ_ e=>∃o,e=a++o::b) ⟨o,rfl⟩ (λd x r e hl he=>?_) (λe he=>?_)
 ·obtain⟨o,rfl⟩:=he
  refine⟨a++xg (enc x).vw::b,?_,?_⟩
  ·unfold setG
   rw[if_pos ⟨hp,by rw[nK,n6];lia⟩]
   unfold setG;rw[<- hi,List.set_append_right _ _ (nZ _),uh,qq]
  ·obtain⟨o',e',h1,rfl,rfl⟩:=hs x (by rw[hl];simp)
   exact⟨_,_,h1,.inl ⟨.inl rfl,_,rfl⟩⟩
 ·obtain⟨o,rfl⟩:=he;exact hk o
theorem frz_0 (l:Env):frz1 (xg d::l) 0=xg d.vw::l:=of_eq_true (eq_self _)
theorem frz_s (o:Option D)(l:Env)(n:Nat):frz1 (o::l) (n+1)=o::frz1 l n:=by
 unfold frz1;rw[p9]
 match l[n]? with
 |some (xg d)=>rfl
 |some xh=>rfl|none=>rfl
theorem atS_0 (o:Option D)(l:Env):atS (o::l) 0=o:=of_eq_true (eq_self _)
theorem atS_s (o:Option D)(l:Env)(n:Nat):atS (o::l) (n+1)=atS l n:=by unfold atS;rw[p9]
theorem zdz_ {f:Fn}{i:Nat}{ds ds':List D}{c c' r:D}(h:atS e i=xg c)(hf:f (c::ds)=.ok r (c'::ds')):call1 f i ds e=.ok r (e.set i (xg c')):=by
 unfold call1;rw[h];simp only[hf]
theorem bm_v (o:Bm)(i:Nat)(x:X):Y.ev G (.bm o i [x]) env=onS o.ty env i ((keep (x.ev G env) env x.uses).bind λd e=>call1 o.f i [d] e):=by
 rw[Y.ev,<- zfv_];show onS _ _ _ (Mr.bind (Mr.bind (stX G env x) _) _)=_
 cases stX G env x<;>rfl
theorem sd_v (i:Nat)(k v:X):Y.ev G (.sd i k v) env=onS "dict" env i ((keep (k.ev G env) env k.uses).bind λa e=>(keep (v.ev G e) e v.uses).bind λd e'=>call1 setdF i [a,d] e'):=by
 rw[Y.ev,<- zfv_];show onS _ _ _ (Mr.bind (Mr.bind (stX G env k) _) _)=_
 cases stX G env k with
 |ok a e=>
  rw[zhi_,zhi_,<- zfv_];show onS _ _ _ (Mr.bind (Mr.bind (Mr.bind (stX G e v) _) _) _)=_
  cases stX G e v<;>rfl
 |ex c e=>rfl|no=>rfl
theorem zgd_ (x:X):Y.ev G (.pu x) env=keep (x.ev G env) env x.uses:=by rw[Y.ev,zfv_]
theorem ye_mv (i:Nat):Y.ev G (.mv i) env=mvM env i:=by rw[Y.ev]
theorem znC_ (o:Bo)(y z:Y):Y.ev G (.bin o y z) env=(y.ev G env).bind λd e=>(z.ev G e).bind λd2 e2=>moTo (o.f d d2) e2:=by rw[Y.ev]
theorem to_ok (a:α):moTo (.ok a) e=.ok a e:=of_eq_true (eq_self _)
theorem zo5_ {i:Nat}{k x:X}{d a c c' r d' a':D}(hx:x.ev G env=.ok d)(hd:d.new=xj)(hk:k.ev G env=.ok a)(ha:a.new=xj)(hc:atS env i=xg c)(hf:setIF [c,d,a]=.ok r [c',d',a']):setIM G i k x env=.ok .nx (env.set i (xg c')):=by
 have e1:evG G env [x,k]=.ok [d,a] env:=by
  unfold evG;rw[zfv_,hx,zap_ _ hd,zhi_];unfold evG;rw[zfv_,hk,zap_ _ ha];rfl
 unfold setIM;rw[hc,e1];show dropM (call1 setIF i [d,a] env)=_
 rw[zdz_ hc hf];rfl
theorem zcq_ {i:Nat}{x:X}{d:D}{n C:Str}{ns:List Str}{xs:List D}(hx:x.ev G env=.ok d)(hd:d.new=xj)(hc:atS env i=xg (.nd (.obj C ns) xs))(hC:C∈G.cs)(hl:ns.length<1000)(hn:n∉ns):setFM G n i x env=.ok .nx (env.set i (xg (.nd (.obj C (ns++[n])) (xs++[d])))):=by
 unfold setFM;have e3:clsAt env i=xg C:=by unfold clsAt;rw[hc]
 rw[e3];dsimp only;rw[if_pos hC,zfv_,hx,zap_ _ hd,zhi_,hc,if_pos (show isObj C (xg (.nd (.obj C ns) xs))=xj from beq_self_eq_true C),zdz_ hc (r:=.non) (c':=.nd (.obj C (ns++[n])) (xs++[d])) (ds':=[.gone]) (by unfold setFF;simp only[if_pos hl,if_neg hn])]
 rfl
theorem fn_en {ds:List D}{n m:Nat}{body:List S}(hl:ds.length=n)(hc:D.colds ds=xj)(h:∀pn,(∀i,pn i=xk)->En (S.runs G pn body (ds.map xg++ou m xh)) λo _=>o=.rt d\/(o=.nx/\d=.non)):fnOf G n m body ds=.ok d ds:=by
 obtain⟨o,e,h,q⟩:=h _ (za1_ hc);unfold fnOf;rw[if_pos hl,h];rcases q with rfl |⟨rfl,rfl⟩
 ·show Mr.ok d (outs ds e)=_;rw[za4_ hc]
 ·show Mr.ok D.non (outs ds e)=_;rw[za4_ hc]
theorem zD_ {ds:List D}{n m:Nat}{body:List S}(hl:ds.length=n)(hc:D.colds ds=xj)(h:∀pn,(∀i,pn i=xk)->En (S.runs G pn body (ds.map xg++ou m xh)) λo _=>o=.rt d\/(o=.nx/\d=.non)):(fnOf G n m body).val ds=.ok d:=zfB_ (fn_en hl hc h)
theorem zoF_ {ds:List D}{n m:Nat}{body:List S}(hl:ds.length=n)(h:S.runs G (pins ds) body (ds.map xg++ou m xh)=.ok .nx e):fnOf G n m body ds=.ok .non (outs ds e):=by
 unfold fnOf;rw[if_pos hl,h]
end
class Im {α:Type}(g:α->D):Prop where
 im:∀x,(g x).imm=xj
section
variable {α:Type}{g:α->D}[Im g]{l:List α}{x:α}
theorem znq_ (x:α):(g x).vw=g x:=by unfold D.vw;rw[if_pos (Im.im x)]
theorem zfY_ (l:List α):D.imms (l.map g)=xj:=by
 induction l with
 |nil=>rw[qg,D.imms]|cons x l ih=>rw[nS,D.imms,Im.im x,ih];rfl
theorem zfx_ (l:List α):(l.map g).map D.vw=l.map g:=by
 rw[pF];exact qz λx _=>znq_ x
mutual
theorem zbr_:∀(d:D),d.imm=xj->d.new=xj
 |.non,_=>by rw[D.new]<;>simp
 |.bl _,_=>by rw[D.new]<;>simp
 |.int _,_=>by rw[D.new]<;>simp
 |.str _,_=>by rw[D.new]<;>simp
 |.nd .tup ds,h=>by rw[D.imm]at h;rw[D.new];exact zbV_ ds h
 |.nd .ktup ds,h=>by rw[D.imm]at h;rw[D.new];exact zbV_ ds h
 |.nd .lst _,h=>by simp[D.imm]at h
 |.nd .scr _,h=>by simp[D.imm]at h
 |.nd (.exc _) _,h=>by simp[D.imm]at h
 |.nd (.dct _) _,h=>by simp[D.imm]at h
 |.nd (.obj _ _) _,h=>by simp[D.imm]at h
 |.fz d,h=>by rw[D.imm]at h;rw[D.new];exact h
 |.pin _,h=>by simp[D.imm]at h
 |.gone,h=>by simp[D.imm]at h
theorem zbV_:∀(ds:List D),D.imms ds=xj->D.news ds=xj
 |[],_=>by rw[D.news]
 |d::ds,h=>by rw[D.imms,aW]at h;rw[D.news,zbr_ d h.1,zbV_ ds h.2];rfl
end
theorem zkA_ (x:α):(g x).new=xj:=zbr_ _ (Im.im x)
theorem zht_ (x:α):(g x).cold=xj:=zdw_ (Im.im x)
instance:Im D.int:=⟨λ_=>rfl⟩
instance:Im D.str:=⟨λ_=>rfl⟩
instance:Im D.bl:=⟨λ_=>rfl⟩
noncomputable def LS (g:α->D)(l:List α):D:=.nd .lst (l.map g)
theorem ls_vw:(LS g l).vw=.fz (LS g l):=rfl
theorem zhR_:(D.fz (LS g l)).vw=.fz (LS g l):=zok_ rfl
theorem za9_:(LS g l).new=xj:=by unfold LS;rw[D.new];exact zbV_ _ (zfY_ l)
theorem zdK_:(D.fz (LS g l)).new=xk:=by rw[D.new];rfl
theorem zkD_:lenA [LS g l]=.ok (.int l.length):=by
 show Mo.ok (D.int ((l.map g).length:Nat))=_;rw[nN]
theorem ls_ix:ixA (LS g l) (.int i)=.opt ((atI l i).map g):=by
 show Mo.opt ((atI (l.map g) i).map D.vw)=_
 unfold atI;rw[nN];cases ixN l.length i with
 |none=>rfl|some k=>
  show Mo.opt (((l.map g)[k]?).map D.vw)=_
  rw[om,Option.map_map];show _=Mo.opt ((l[k]?).map g)
  congr 2;funext x;exact znq_ x
theorem zfj_ (lo hi:Option Int)(l:List α)(g:α->β):cutG (l.map g) lo hi=(cutG l lo hi).map g:=by
 unfold cutG;rw[nN,<- List.map_drop,<- List.map_take]
theorem ls_sl (lo hi:Option Int):slA (LS g l) lo hi=.ok (LS g (cutG l lo hi)):=by
 show Mo.ok (D.nd .lst ((cutG (l.map g) lo hi).map .vw))=_
 rw[zfj_,zfx_];rfl
theorem zew_ (h:a.length+b.length<=100000):addA (LS g a) (LS g b)=.ok (LS g (a++b)):=by
 show Mo.lim ((a.map g).length+(b.map g).length) (Mo.ok (D.nd .lst ((a.map g++b.map g).map .vw)))=_
 rw[Mo.lim_ok (by rw[nN,nN];exact h),<- oG,zfx_,LS]
theorem ze0_:listA [LS g l]=.ok (LS g l):=by
 show Mo.ok (D.nd .lst ((l.map g).map .vw))=_;rw[zfx_];rfl
theorem zkn_:walkA [LS g l]=.ok (l.map g):=of_eq_true (eq_self _)
theorem znV_:isK "list" (LS g l)=xj:=rfl
theorem ziA_ (h:l.length<100000):appendF [LS g l,g x]=.ok .non [LS g (l++[x]),.gone]:=by
 have h2:l.length<oh:=by have:=zan_ (n:=l.length+1) (by lia);lia
 show(if(l.map g).length<oh then _ else _)=_
 rw[nN,if_pos h2];unfold LS;rw[oG];rfl
theorem zjH_ (h:a.length+b.length<=100000):extendF [LS g a,LS g b]=.ok .non [LS g (a++b),.nd .lst (b.map λ_=>.gone)]:=by
 show(if(a.map g).length+(b.map g).length<=oh then Mr.ok D.non [D.nd .lst (a.map g++b.map g),D.nd .lst ((b.map g).map λ_=>D.gone)]else _)=_
 rw[nN,nN,if_pos (zan_ h),pF];unfold LS;rw[oG];rfl
theorem zgO_:∀(l:List Int),flats (l.map .int)=xg (l.map .int)
 |[]=>rfl|i::l=>by rw[nS,flats,zgO_ l];rfl
theorem zmR_ (i:Int):∀(l:List Int),inV (.int i) (l.map .int)=decide (i∈l)
 |[]=>rfl|j::l=>by
  have:=zmR_ i l;unfold inV at this ⊢;rw[nS,rq,this];by_cases h:i=j
  ·subst h;simp[eqV]
  ·simp[eqV,h,rA h]
end
section
variable {β γ:Type}{G:Gi}{env:Env}{lv:List Str}{fr:List (Str×Nat)}{ik:Ik}{src:List X}{tg:Tg}{p:β->Bool}{f:β->γ}{o:γ->D}
theorem zfn_ {F:List D->Mo (Option D)}{T:β->List D}:∀{l:List β}{acc:List D},(∀b∈l,F (T b)=.ok (if p b=xj then xg (o (f b))else xh))->acc.length+l.length<=100000->compM F (l.map T) acc=.ok (acc++((l.filter p).map f).map o)
 |[],acc,_,_=>by rw[qg];unfold compM;simp
 |b::l,acc,h,hl=>by
  rw[n6]at hl;rw[nS];unfold compM;rw[h b nV,zbb_,uX];cases e:p b with
  |false=>
   rw[if_neg (by decide),if_neg (by decide)]
   exact zfn_ (λy hy=>h y (nY _ hy)) (by lia)
  |true=>
   rw[if_pos rfl,if_pos rfl];show Mo.lim _ _=_
   rw[Mo.lim_ok (by lia),zfn_ (λy hy=>h y (nY _ hy)) (by rw[nK,um];lia)]
   simp
theorem xcomp {c:Option X}{e:X}{items:List D}{T:β->List D}(l:List β)(hi:tg.is.all (·<lv.length)=xj)(hs:(X.evs G env src).bind ik.f=.ok items)(ht:tgsD tg items=xg (l.map T))(hc:∀b∈l,X.evT G (setE (cE lv fr env) tg.is (T b)) c=.ok (p b))(he:∀b∈l,p b=xj->X.ev G (setE (cE lv fr env) tg.is (T b)) e=.ok (o (f b)))(hl:l.length<=100000):X.ev G env (.comp lv fr ik src tg c e)=.ok (LS o ((l.filter p).map f)):=by
 show(if tg.is.all (·<lv.length)then(((X.evs G env src).bind ik.f).bind λl=>.opt (tgsD tg l)).bind λxs=>(compM (λx=>cond1 (X.evT G (setE (cE lv fr env) tg.is x) c) (e.ev G (setE (cE lv fr env) tg.is x))) xs []).bind λys=>Mo.ok (D.nd .lst ys)else .no)=_
 rw[if_pos hi,hs,zbb_,ht,zmY_,zbb_,zfn_ (p:=p) (f:=f) (o:=o) (λb hb=>?_) (by rw[pf,wj];exact hl),zbb_]
 ·rfl
 ·unfold cond1
  rw[hc b hb,zbb_];cases eC:p b with
  |false=>rfl|true=>rw[if_pos rfl,if_pos rfl,he b hb eC];rfl
theorem xcompN {e:X}{items:List D}{T:β->List D}(l:List β)(hi:tg.is.all (·<lv.length)=xj)(hs:(X.evs G env src).bind ik.f=.ok items)(ht:tgsD tg items=xg (l.map T))(he:∀b∈l,X.ev G (setE (cE lv fr env) tg.is (T b)) e=.ok (o (f b)))(hl:l.length<=100000):X.ev G env (.comp lv fr ik src tg xh e)=.ok (LS o (l.map f)):=by
 rw[xcomp (p:=λ_=>xj) l hi hs ht (λ_ _=>xt_0) (λb hb _=>he b hb) hl]
 rw[uB.mpr λ_ _=>rfl]
theorem tgs_1 (ds:List D)(i:Nat):tgsD ⟨xk,[i]⟩ ds=xg (ds.map λd=>[d]):=by
 induction ds with
 |nil=>rw[tgsD];rfl|cons d ds ih=>rw[tgsD,ih];rfl
theorem zao_ {g:β->D}(l:List β)(i:Nat):tgsD ⟨xk,[i]⟩ (l.map g)=xg (l.map λd=>[g d]):=by rw[tgs_1,pF];rfl
theorem zlu_ {g h:β->D}(l:List β)(i j:Nat):tgsD ⟨xj,[i,j]⟩ (l.map λb=>.nd .tup [g b,h b])=xg (l.map λb=>[g b,h b]):=by
 induction l with
 |nil=>rw[qg,tgsD];rfl|cons d ds ih=>rw[nS,tgsD,ih];rfl
end
noncomputable def DI {α:Type}(g:α->D)(m:List (Int×α)):D:=.nd (.dct (m.map λq=>.inl q.1)) (m.map λq=>g q.2)
def dgt {α:Type}:List (Int×α)->Int->Option α
 |[],_=>xh|q::m,i=>if q.1=i then xg q.2 else dgt m i
def dput {α:Type}:List (Int×α)->Int->α->List (Int×α)
 |[],i,v=>[(i,v)]|q::m,i,v=>if q.1=i then(i,v)::m else q::dput m i v
section
variable {α:Type}{g:α->D}[Im g]{m:List (Int×α)}{i:Int}{v w:α}{neg:Bool}
theorem zev_ {i j:Int}:((tU i:Key)=.inl j)↔i=j:=⟨λh=>by cases h;rfl,λh=>by rw[h]⟩
theorem zlx_ (m:List (Int×α)):valD (m.map λq=>.inl q.1) (m.map λq=>g q.2) (.inl i)=(dgt m i).map g:=by
 unfold valD;induction m with
 |nil=>rfl|cons q m ih=>
  rw[nS,nS,oZ,qx,dgt];by_cases h:q.1=i
  ·rw[decide_eq_true (zev_.mpr h),if_pos h];rfl
  ·rw[decide_eq_false (λz=>h (zev_.mp z)),if_neg h];exact ih
theorem di_vw:(DI g m).vw=.fz (DI g m):=rfl
theorem zkk_:isK "dict" (DI g m)=xj:=rfl
theorem zlO_:(DI g m).new=xj:=by
 unfold DI;rw[D.new];refine zbV_ _ ?_;exact@zfY_ _ (λq:Int×α=>g q.2) ⟨λq=>Im.im q.2⟩ m
theorem di_ix:ixA (DI g m) (.int i)=.opt ((dgt m i).map g):=by
 show Mo.opt ((valD (m.map λq=>.inl q.1) (m.map λq=>g q.2) (.inl i)).map D.vw)=_
 rw[zlx_];cases dgt m i with
 |none=>rfl|some v=>show Mo.ok (g v).vw=_;rw[znq_];rfl
theorem di_in:inA neg (.int i) (DI g m)=.ok (.bl (if neg=xj then !(dgt m i).isSome else(dgt m i).isSome)):=by
 show Mo.ok (D.bl (if neg=xj then !(valD (m.map λq=>.inl q.1) (m.map λq=>g q.2) (.inl i)).isSome else(valD (m.map λq=>.inl q.1) (m.map λq=>g q.2) (.inl i)).isSome))=_
 rw[zlx_,tD]
theorem zgh_ (m:List (Int×α)):(dgt m i=xh->¬kIx (m.map λq=>(.inl q.1:Key)) (.inl i)<m.length)/\(∀w,dgt m i=xg w->kIx (m.map λq=>(.inl q.1:Key)) (.inl i)<m.length/\(m.map λq=>g q.2)[kIx (m.map λq=>(.inl q.1:Key)) (.inl i)]?=xg (g w)):=by
 induction m with
 |nil=>exact⟨λ_=>by simp,λw h=>by cases h⟩|cons q m ih=>
  rw[nS,kIx,dgt,n6];by_cases h:q.1=i
  ·rw[if_pos h,if_pos (zev_.mpr h)]
   exact⟨λz=>(nomatch z),λw z=>by cases z;exact⟨by lia,by simp⟩⟩
  ·rw[if_neg h,if_neg (λz=>h (zev_.mp z))]
   refine⟨λz=>by have:=ih.1 z;lia,λw z=>?_⟩
   have:=ih.2 w z;exact⟨by lia,by rw[nS,p9];exact this.2⟩
theorem zoM_ (i:Int):keyD (.int i)=xg (.inl i):=rfl
theorem zdj_ {n:Nat}(h:n<100000):n<oh:=by have:=zan_ (n:=n+1) (by lia);lia
theorem zm4_ (h:dgt m i=xh)(hl:m.length<100000):setdF [DI g m,.int i,g v]=.ok (g v) [DI g (m++[(i,v)]),.int i,g v]:=by
 have k:=(zgh_ (g:=g) m).1 h;unfold DI setdF l3;simp only[zht_,if_true,zoM_,nN,if_neg k,if_pos (zdj_ hl),oG];rfl
theorem zkF_ (h:dgt m i=xg w):setdF [DI g m,.int i,g v]=.ok (g w) [DI g m,.int i,g v]:=by
 have k:=(zgh_ (g:=g) m).2 w h;unfold DI setdF l3;simp only[zht_,if_true,zoM_,nN,if_pos k.1,k.2]
theorem zei_ (m:List (Int×α)):(dgt m i=xh->dput m i v=m++[(i,v)])/\(∀w,dgt m i=xg w->(m.map λq=>g q.2).set (kIx (m.map λq=>(.inl q.1:Key)) (.inl i)) (g v)=(dput m i v).map (λq=>g q.2)/\(dput m i v).map (λq=>(.inl q.1:Key))=m.map λq=>.inl q.1):=by
 induction m with
 |nil=>exact⟨λ_=>rfl,λw h=>by cases h⟩|cons q m ih=>
  rw[nS,nS,kIx,dgt,dput];by_cases h:q.1=i
  ·rw[if_pos h,if_pos h,if_pos (zev_.mpr h)]
   exact⟨λz=>(nomatch z),λw z=>⟨by rw[qq,nS],by rw[nS,h]⟩⟩
  ·rw[if_neg h,if_neg h,if_neg (λz=>h (zev_.mp z))]
   refine⟨λz=>by rw[ih.1 z];rfl,λw z=>?_⟩
   have:=ih.2 w z;exact⟨by rw[qr,this.1,nS],by rw[nS,this.2]⟩
theorem zoY_ (hl:m.length<100000):setIF [DI g m,g v,.int i]=.ok .non [DI g (dput m i v),.gone,.int i]:=by
 unfold DI setIF l3;simp only[zoM_,nN,if_pos (zdj_ hl)];cases h:dgt m i with
 |none=>rw[if_neg ((zgh_ (g:=g) m).1 h),(zei_ (g:=g) m).1 h,oG,oG];rfl|some w=>rw[if_pos ((zgh_ (g:=g) m).2 w h).1,((zei_ m).2 w h).1,((zei_ (g:=g) (v:=v) m).2 w h).2]
theorem zin_ (m:List (Int×α)):keysI (m.map λq=>.inl q.1)=xg (m.map (·.1)):=by
 induction m with
 |nil=>rfl|cons q m ih=>rw[nS,keysI,ih];rfl
theorem zlb_:sortI [DI g m]=srtI (m.map (·.1)):=by
 show(match keysI (m.map λq=>(.inl q.1:Key))with |some is=>srtI is |none=>_)=_
 rw[zin_]
theorem zer_ (n:Nat)(i j:Int):eqT n (.int i) (.int j)=xg (decide (i=j)):=by
 cases n with
 |zero=>show xg (eqV (.int i) (.int j))=_;rfl|succ n=>show xg (eqV (.int i) (.int j))=_;rfl
theorem zfu_ (n:Nat)(a b:List Nat):eqT n (.str a) (.str b)=xg (decide (a=b)):=by
 have:eqV (tx a) (tx b)=decide (a=b):=by
  by_cases h:a=b
  ·subst h;simp[tx,eqV]
  ·rw[decide_eq_false h]
   show(_ == _)=xk
   refine beq_eq_false_iff_ne.mpr λz=>h ?_
   injection z with z;exact List.toArray_inj z
 cases n with
 |zero=>show xg (eqV (tx a) (tx b))=_;rw[this]|succ n=>show xg (eqV (tx a) (tx b))=_;rw[this]
theorem ze4_ {f:D->D->Option Bool}[DecidableEq α]{g:α->D}(h:∀x y,f (g x) (g y)=xg (decide (x=y))):∀(a b:List α),a.length=b.length->allT f (a.map g) (b.map g)=xg (decide (a=b))
 |[],[],_=>by simp[allT]
 |x::a,y::b,hl=>by
  rw[nS,nS,allT,h,ze4_ h a b (by simpa using hl)]
  simp
theorem eq_ls [DecidableEq α]{g:α->D}{n:Nat}(h:∀x y,eqT n (g x) (g y)=xg (decide (x=y)))(a b:List α):eqT (n+1) (LS g a) (LS g b)=xg (decide (a=b)):=by
 show(if(a.map g).length=(b.map g).length then allT (eqT n) (a.map g) (b.map g)else xg xk)=_
 rw[nN,nN];by_cases hl:a.length=b.length
 ·rw[if_pos hl,ze4_ h a b hl]
 ·rw[if_neg hl,decide_eq_false (λz=>hl (by rw[z]))]
theorem zco_ {a b:D}{c:Bool}(h:eqT 12 a b=xg c):eqD neg a b=.ok (.bl (if neg=xj then !c else c)):=by
 unfold eqD;rw[h];rfl
theorem zP_ (a b:Int):eqD neg (.int a) (.int b)=.ok (.bl (if neg=xj then !decide (a=b)else decide (a=b))):=zco_ (zer_ 12 a b)
theorem zcg_ (a b:List Nat):eqD neg (.str a) (.str b)=.ok (.bl (if neg=xj then !decide (a=b)else decide (a=b))):=zco_ (zfu_ 12 a b)
theorem ziZ_ {f:D->D->Option Bool}:∀(ds:List D),(∀d∈ds,f d d=xg xj)->allT f ds ds=xg xj
 |[],_=>by simp[allT]
 |d::ds,h=>by rw[allT,h d nV,ziZ_ ds λx hx=>h x (nY _ hx)];rfl
theorem zpS_ {n:Nat}{ds:List D}(h:∀d∈ds,eqT n d d=xg xj):eqT (n+1) (.nd .lst ds) (.nd .lst ds)=xg xj:=by
 show(if ds.length=ds.length then allT (eqT n) ds ds else xg xk)=_
 rw[if_pos rfl,ziZ_ ds h]
theorem zoe_ {n:Nat}{ds:List D}(h:∀d∈ds,eqT n d d=xg xj):eqT (n+1) (.nd .tup ds) (.nd .tup ds)=xg xj:=by
 show(allT (eqT n) ds ds).map (λb=>b && ds.length == ds.length)=_
 rw[ziZ_ ds h];simp
end
noncomputable abbrev X.ad (a b:X):X:=.bin .add a b
noncomputable abbrev X.sb (a b:X):X:=.bin .sub a b
noncomputable abbrev X.mu (a b:X):X:=.bin .mul a b
noncomputable abbrev X.mo (a b:X):X:=.bin .mod a b
noncomputable abbrev X.dv (a b:X):X:=.bin .div a b
noncomputable abbrev X.lT (a b:X):X:=.bin .lt a b
noncomputable abbrev X.lE (a b:X):X:=.bin .le a b
noncomputable abbrev X.gT (a b:X):X:=.bin .gt a b
noncomputable abbrev X.eQ (a b:X):X:=.bin .eq a b
noncomputable abbrev X.nE (a b:X):X:=.bin .ne a b
noncomputable abbrev X.iS (a b:X):X:=.bin .is a b
noncomputable abbrev X.io (a b:X):X:=.bin .isn a b
noncomputable abbrev X.iN (a b:X):X:=.bin .inn a b
abbrev S.as (i:Nat)(x:X):S:=.asg i (.pu x)
noncomputable abbrev S.rp (x:X):S:=.ret (.pu x)
noncomputable abbrev X.a0:X:=.v 0
noncomputable abbrev X.a1:X:=.v 1
noncomputable abbrev X.a2:X:=.v 2
noncomputable abbrev X.a3:X:=.v 3
noncomputable abbrev X.a4:X:=.v 4
noncomputable abbrev X.a5:X:=.v 5
noncomputable abbrev X.a6:X:=.v 6
noncomputable abbrev X.a7:X:=.v 7
noncomputable abbrev X.a8:X:=.v 8
noncomputable abbrev X.a9:X:=.v 9
noncomputable abbrev X.a10:X:=.v 10
noncomputable abbrev X.a11:X:=.v 11
noncomputable abbrev X.a12:X:=.v 12
noncomputable abbrev X.a13:X:=.v 13
abbrev X.n0:X:=.n 0
abbrev X.n1:X:=.n 1
abbrev X.n2:X:=.n 2
abbrev X.n3:X:=.n 3
abbrev X.n4:X:=.n 4
abbrev X.n5:X:=.n 5
abbrev X.n36:X:=.n 36
abbrev X.n37:X:=.n 37
noncomputable abbrev X.s0:X:=.k (.str [100,101,97,108])
noncomputable abbrev X.s1:X:=.k (.str [102,105,114,115,116])
noncomputable abbrev X.s2:X:=.k (.str [108,101,115,115])
noncomputable abbrev X.s3:X:=.k (.str [109,97,116,101,115])
noncomputable abbrev X.s4:X:=.k (.str [109,97,116,101])
noncomputable abbrev X.s5:X:=.k (.str [112,105,99,107])
noncomputable abbrev X.s6:X:=.k (.str [112,108,117,115])
noncomputable abbrev X.s7:X:=.k (.str [112,117,110,99,104])
noncomputable abbrev X.s8:X:=.k (.str [116,105,109,101,115])
noncomputable abbrev X.s9:X:=.k (.str [119,105,116,104,111,117,116])
end VI
namespace K65
open PySem PySem.Spec PyProof.Rows L2 VI
open Mo renaming bind→Mb,ok→Mq
open Sl renaming fz→Zf,dead→Zd,ow→Zo
noncomputable abbrev Jx:=List Nat
abbrev Jy:=List Jx
noncomputable abbrev Qm0:List Nat:=[32,48,49,50,51,52,53,54,55,56,57,65,66,67,68,69,70,71,72,73,74,75,76,77,78,79,80,81,82,83,84,85,86,87,88,89,90]
noncomputable abbrev Qm1:List Nat:=[97,98,99,100,101,102,103,104,105,106,107,108,109,110,111,112,113,114,115,116,117,118,119,120,121,122]
noncomputable abbrev Qm2:List Nat:=[97,98,99,100,101,102,103,104,105,106,107,108,109,110,111,112,113,114,115,116,117,118,119,120,121]
noncomputable def gi:Gi:={cs:=["Asking"],kt:=[("MATING_WORDS",[[109,97,116,101,115],[119,105,116,104,111,117,116]]),("WORK_WORDS",[[112,108,117,115],[108,101,115,115],[116,105,109,101,115]])],ex:=["Meet", "NoAsking", "NoBoard", "NoCard", "NoField", "NoOrder", "NoPlan", "NoRow", "NoTray", "ShopError"],ix:=[([("NoPlan",xj)],[("NoPlan",xj)]),([("ValueError",xk)],[("NoPlan",xj)]),([("NoCard",xj),("NoField",xj),("NoOrder",xj),("NoBoard",xj),("Meet",xj),("NoAsking",xj),("NoTray",xj),("NoRow",xj)],[("NoPlan",xk)])],ct:=[("ShopError",[("NoPlan",xj)])]}
def zaB_:List S:=[.if_ (.lT .a1 (.bf .len [.a0])) [.rp (.bin .ix .a0 .a1)] [],.as 2 (.ad (.mu .a1 (.n 7919)) .n5),.if_ (.gT (.bf .len [.a0]) .n0) [.as 2 (.mo (.ad (.mu (.bin .ix .a0 (.mo (.mu .a1 (.n 7)) (.bf .len [.a0]))) (.n 48271)) (.mu .a1 (.n 7919))) (.n 2147483647))] [],.rp (.mo (.mu .a2 .a2) (.n 2147483629))]
def zb_:Fn:=fnOf gi 2 1 zaB_
noncomputable abbrev zd_:=X.call zb_ "_law_cell"
def zbX_:List S:=[.as 1 (.k (.str Qm0)),.as 2 (.mo .a0 .n37),.as 3 (.mo (.ad (.ad .a2 .n1) (.mo (.dv .a0 .n37) .n36)) .n37),.rp (.lst [(.bin .ix .a1 .a2),(.bin .ix .a1 .a3),(.bin .ix .a1 (.mo (.ad (.ad .a3 .n1) (.mo (.dv .a0 (.n 1332)) .n36)) .n37))])]
def zaO_:Fn:=fnOf gi 1 3 zbX_
def zaN_:List S:=[.as 1 (.k (.str Qm2)),.as 2 (.sl .a1 (xg (.mo .a0 (.n 22))) (xg (.ad (.ad (.mo .a0 (.n 22)) .n1) (.mo (.dv .a0 (.n 22)) .n4)))),.as 3 (.mo (.dv .a0 (.n 88)) (.bf .len [.a2])),.as 4 (.ad (.ad (.sl .a2 xh (xg .a3)) (.k (.str [122]))) (.sl .a2 (xg (.ad .a3 .n1)) xh)),.if_ (.eQ (.mo (.dv .a0 (.n 352)) .n2) .n1) [.rp (.lst [.a4,.a2])] [],.rp (.lst [.a2,.a4])]
def zad_:Fn:=fnOf gi 1 4 zaN_
def zbH_:List S:=[.as 2 (.mo .a0 .n5),.rp (.tup [(.ad .a1 .a2),(.ad (.ad .a1 .a2) (.mo (.dv .a0 .n5) (.bf .min [.n3,(.sb .n5 .a2)])))])]
def zU_:Fn:=fnOf gi 2 1 zbH_
noncomputable abbrev zE_:=X.call zU_ "_law_field"
def z2_:List S:=[.as 3 (zd_ [.a0,.n4]),.as 4 (zE_ [(.dv .a3 .n4),.a1]),.as 5 (.sb (.i .a4 1) (.i .a4 0)),.as 6 (.ad .n1 (.mo (zd_ [.a0,.n5]) (.sb .n36 .a5))),.if_ (.eQ (.mo .a3 .n4) .n0) [.rp (.k .non)] [],.if_ (.eQ (.mo .a3 .n4) .n1) [.rp (.tup [.s1,.a4])] [],.rp (.tup [(.bin .ix (.lst [.s3,.s9]) (.sb (.mo .a3 .n4) .n2)),.a2,.a4,(.tup [.a6,(.ad .a6 .a5)])])]
def zav_:Fn:=fnOf gi 3 4 z2_
def zab_:List S:=[.as 3 .dct0,.as 4 (.lst []),.for_ .r1 [(.mo (zd_ [.a0,.n1]) .n3)] ⟨xk,[5]⟩ [.as 6 (zd_ [.a0,(.ad .n2 .a5)]),.as 7 (zE_ [.a6,.a1]),.as 8 (.k (.str [])),.for_ .r1 [(.ad (.sb (.i .a7 1) (.i .a7 0)) .n1)] ⟨xk,[9]⟩ [.asg 8 (.bin .add (.pu .a8) (.sd 3 (.ad (.i .a7 0) .a9) (.bin .ix .a2 (.mo (.dv .a6 (.bin .ix (.lst [(.n 15),(.n 45),(.n 135)]) .a9)) .n3))))],.ex (.bm .append 4 [(.tup [.a7,.a8])])],.ret (.mv 4)]
def zV_:Fn:=fnOf gi 3 7 zab_
def zy_:List S:=[.as 2 (zd_ [.a0,(.n 11)]),.as 3 (.lst [(.tup [.n1,.n2]),(.tup [.n3,.n4])]),.if_ (.lT .a1 (.n 28)) [.as 3 (.lst [(.tup [(.n 33),(.n 34)]),(.tup [(.n 35),.n36])])] [],.as 4 (.lst []),.for_ .r1 [(.mo .a2 .n3)] ⟨xk,[5]⟩ [.as 6 (zE_ [(.dv (.dv .a2 (.n 45)) (.ad .n1 .a5)),.a1]),.if_ (.and (.eQ .a5 .n1) (.eQ (.mo (.dv .a2 .n3) .n2) .n1)) [.as 6 (.i .a3 0)] [],.as 7 (.bin .ix (.lst [.s6,.s2,.s8]) (.mo (.dv (.dv .a2 (.n 9)) (.ad .n1 .a5)) .n3)),.ex (.bm .append 4 [(.tup [(.bin .ix .a3 .a5),(zE_ [(.dv (.dv .a2 (.n 7)) (.ad .n1 .a5)),.a1]),.a7,.a6])])],.ret (.mv 4)]
def zaa_:Fn:=fnOf gi 2 6 zy_
def zX_:List S:=[.as 1 (.ad .n1 (.mo (zd_ [.a0,.n0]) (.n 32))),.as 2 (.call zaO_ "_law_signs" [(.dv (zd_ [.a0,.n0]) (.n 32))]),.as 3 (.call zad_ "_law_names" [(zd_ [.a0,(.n 13)])]),.as 4 (.comp ["_law_k"] [("_law_base",1),("_law_script",0)] .r1 [(.mo (zd_ [.a0,(.n 6)]) .n4)] ⟨xk,[0]⟩ xh (zE_ [(zd_ [.a2,(.ad (.n 7) .a0)]),.a1])),.as 5 (.mo (zd_ [.a0,(.n 10)]) (.ad (.bf .min [.n3,(.bf .len [.a4])]) .n1)),.as 6 (zd_ [.a0,(.n 12)]),.as 7 (.comp ["_law_k"] [("_law_base",1),("_law_cell_here",6)] .r1 [(.mo .a6 .n3)] ⟨xk,[0]⟩ xh (zE_ [(.dv .a2 (.ad .n3 .a0)),.a1])),.as 6 (zd_ [.a0,(.n 14)]),.as 8 (.comp ["_law_k"] [("_law_cell_here",6)] .r1 [(.mo .a6 .n5)] ⟨xk,[0]⟩ xh (.tup [(.ad .n1 (.mo (.ad (.dv .a1 .n5) (.mu (.n 11) .a0)) (.n 40))),(.ad .n2 (.mu .n3 .a0))])),.as 9 (.call zav_ "_law_middle" [.a0,.a1,(.i .a3 1)]),.as 10 (.call zV_ "_law_picks" [.a0,.a1,.a2]),.rp (.lst [(.i .a3 0),.a10,.a9,.a4,(.call zaa_ "_law_works" [.a0,.a1]),.a5,.a7,(.ad .n1 (.mo (.dv .a6 (.n 60)) (.n 12))),.a8])]
def zay_:Fn:=fnOf gi 1 10 zX_
def zcW_:List S:=[.rp (.ifx (.iS .a0 (.k .non)) (.lst []) (.bf .list [.a0]))]
def zbK_:Fn:=fnOf gi 1 0 zcW_
noncomputable abbrev zbB_:=X.call zbK_ "own_list"
def zg3_:List S:=[.if_ (.not .a0) [.never] []]
def zcs_:Fn:=fnOf gi 2 0 zg3_
noncomputable abbrev zi_:=X.call zcs_ "ask_for"
def zaJ_:List S:=[.ex (.pu (zi_ [(.lE (.bf .len [(.fld .a0 "picks")]) (.g "MOST_PICKS" (.int 8))),(.k (.str [97,110,32,97,115,107,105,110,103,32,104,97,115,32,56,32,112,105,99,107,115,32,97,116,32,109,111,115,116]))])),.ex (.pu (zi_ [(.lE (.bf .len [(.fld .a0 "order")]) (.g "MOST_KEYS" (.int 6))),(.k (.str [97,110,32,97,115,107,105,110,103,32,104,97,115,32,54,32,107,101,121,115,32,97,116,32,109,111,115,116]))])),.ex (.pu (zi_ [(.lE (.bf .len [(.fld .a0 "works")]) (.g "MOST_WORKS" (.int 4))),(.k (.str [97,110,32,97,115,107,105,110,103,32,104,97,115,32,52,32,119,111,114,107,115,32,97,116,32,109,111,115,116]))])),.ex (.pu (zi_ [(.lE (.bf .len [(.fld .a0 "sums")]) (.g "MOST_SUMS" (.int 4))),(.k (.str [97,110,32,97,115,107,105,110,103,32,104,97,115,32,52,32,115,117,109,115,32,97,116,32,109,111,115,116]))]))]
def z5_:Fn:=fnOf gi 1 0 zaJ_
def zfc_:List S:=[.rp (.and (.io (.fld .a0 "middle") (.k .non)) (.iN (.i (.fld .a0 "middle") 0) (.gt "MATING_WORDS" [[109,97,116,101,115],[119,105,116,104,111,117,116]])))]
def zbC_:Fn:=fnOf gi 1 0 zfc_
noncomputable abbrev zaT_:=X.call zbC_ "mates_by"
def zaW_:List S:=[.if_ (.iS (.fld .a0 "middle") (.k .non)) [.retN] [],.as 1 (.bf .len [(.fld .a0 "middle")]),.ex (.pu (zi_ [(.and (.gT .a1 .n0) (.or (zaT_ [.a0]) (.eQ (.i (.fld .a0 "middle") 0) .s1))),(.k (.str [97,32,109,105,100,100,108,101,32,104,97,115,32,111,110,101,32,111,102,32,116,104,114,101,101,32,119,111,114,100,115]))])),.ex (.pu (zi_ [(.eQ .a1 (.ifx (zaT_ [.a0]) .n4 .n2)),(.k (.str [97,32,109,105,100,100,108,101,32,104,97,115,32,119,104,97,116,32,105,116,115,32,119,111,114,100,32,119,97,110,116,115]))]))]
def zA_:Fn:=fnOf gi 1 1 zaW_
def zeY_:List S:=[.rp (.ifx (zaT_ [.a0]) (.lst [(.fld .a0 "deck"),(.i (.fld .a0 "middle") 1)]) (.lst [(.fld .a0 "deck")]))]
def z9_:Fn:=fnOf gi 1 0 zeY_
def zd1_:List S:=[.rp (.and (.ch .le .le .n1 (.bf .len [.a0]) (.g "LONGEST_NAME" (.int 8))) (.bf .all [(.comp ["letter"] [] .any [.a0] ⟨xk,[0]⟩ xh (.iN .a0 (.g "SMALL_LETTERS" (.str Qm1))))]))]
def zcD_:Fn:=fnOf gi 1 0 zd1_
def zbg_:List S:=[.as 1 (.call z9_ "names_of" [.a0]),.for_ .any [.a1] ⟨xk,[2]⟩ [.ex (.pu (zi_ [(.call zcD_ "is_name" [.a2]),(.k (.str [97,32,110,97,109,101,32,104,97,115,32,111,110,101,32,116,111,32,101,105,103,104,116,32,115,109,97,108,108,32,108,101,116,116,101,114,115]))]))],.ex (.pu (zi_ [(.or (.nE (.i .a1 0) (.bin .ix .a1 (.neg .n1))) (.eQ (.bf .len [.a1]) .n1)),(.k (.str [116,104,101,32,116,119,111,32,110,97,109,101,115,32,97,114,101,32,117,110,108,105,107,101]))]))]
def zZ_:Fn:=fnOf gi 1 2 zbg_
def zb6_:List S:=[.if_ (.iS (.fld .a0 "middle") (.k .non)) [.rp (.lst [])] [],.rp (.ifx (zaT_ [.a0]) (.bf .list [(.sl (.fld .a0 "middle") (xg .n2) xh)]) (.lst [(.i (.fld .a0 "middle") 1)]))]
def z6_:Fn:=fnOf gi 1 0 zb6_
noncomputable abbrev zF_:=X.call z6_ "middle_fields"
def zbN_:List S:=[.as 1 (.ad (.ad (.ad (.comp ["pick"] [] .any [(.fld .a0 "picks")] ⟨xk,[0]⟩ xh (.i .a0 0)) (zF_ [.a0])) (.fld .a0 "order")) (.fld .a0 "sums")),.for_ .any [(.fld .a0 "works")] ⟨xk,[2]⟩ [.ex (.bm .extend 1 [(.lst [(.i .a2 0),(.i .a2 1),(.i .a2 3)])])],.ret (.mv 1)]
def zaP_:Fn:=fnOf gi 1 2 zbN_
def zfo_:List S:=[.rp (.and (.isa .a0 "int") (.not (.isa .a0 "bool")))]
def zbD_:Fn:=fnOf gi 1 0 zfo_
noncomputable abbrev zaw_:=X.call zbD_ "is_whole"
def zdf_:List S:=[.rp (.and (zaw_ [.a0]) (.and (zaw_ [.a1]) (.ch3 .le .le .le .n1 .a0 .a1 (.g "BODY_WIDTH" (.int 36)))))]
def zb1_:Fn:=fnOf gi 2 0 zdf_
def zeV_:List S:=[.rp (.ad (.sb (.i .a0 1) (.i .a0 0)) .n1)]
def zbG_:Fn:=fnOf gi 1 0 zeV_
noncomputable abbrev zbJ_:=X.call zbG_ "width_of"
def zb7_:List S:=[.rp (.bf .all [(.comp ["sign"] [] .any [.a0] ⟨xk,[0]⟩ xh (.iN .a0 (.g "SIGNS" (.str Qm0))))])]
def zaG_:Fn:=fnOf gi 1 0 zb7_
def za6_:List S:=[.as 1 .dct0,.for_ .any [.a0] ⟨xk,[2]⟩ [.if_ (.eQ (.i .a2 0) .s5) [.ifY (.bin .ne (.sd 1 (.i .a2 1) (.i .a2 2)) (.pu (.i .a2 2))) [.rp (.k .non)] []] []],.ret (.mv 1)]
def zL_:Fn:=fnOf gi 1 2 za6_
def zbA_:List S:=[.rp (.lr (.i .a0 0) (.ad (.i .a0 1) .n1))]
def zaQ_:Fn:=fnOf gi 1 0 zbA_
def zbp_:List S:=[.as 1 (.lst []),.for_ .any [(.fld .a0 "picks")] ⟨xk,[2]⟩ [.ex (.bm .extend 1 [(.comp ["column", "sign"] [] .zip [(.call zaQ_ "columns_of" [(.i .a2 0)]),(.i .a2 1)] ⟨xj,[0,1]⟩ xh (.tup [.s5,.a0,.a1]))])],.ret (.mv 1)]
def zar_:Fn:=fnOf gi 1 2 zbp_
def zbj_:List S:=[.for_ .any [(.fld .a0 "picks")] ⟨xk,[1]⟩ [.ex (.pu (zi_ [(.eQ (.bf .len [(.i .a1 1)]) (zbJ_ [(.i .a1 0)])),(.k (.str [97,32,112,105,99,107,39,115,32,116,101,120,116,32,105,115,32,97,115,32,119,105,100,101,32,97,115,32,105,116,115,32,102,105,101,108,100]))])),.ex (.pu (zi_ [(.call zaG_ "are_signs" [(.i .a1 1)]),(.k (.str [97,32,112,105,99,107,39,115,32,116,101,120,116,32,105,115,32,111,102,32,115,105,103,110,115]))]))],.ex (.pu (zi_ [(.io (.call zL_ "picked_signs" [(.call zar_ "pick_passes" [.a0])]) (.k .non)),(.k (.str [116,119,111,32,112,105,99,107,115,32,119,97,110,116,32,117,110,108,105,107,101,32,115,105,103,110,115,32,111,102,32,111,110,101,32,99,111,108,117,109,110]))]))]
def zaq_:Fn:=fnOf gi 1 1 zbj_
def zl_:List S:=[.as 1 (zF_ [.a0]),.ifL .a1 [.ex (.pu (zi_ [(.eQ (zbJ_ [(.i .a1 0)]) (zbJ_ [(.bin .ix .a1 (.neg .n1))])),(.k (.str [116,104,101,32,109,105,100,100,108,101,39,115,32,102,105,101,108,100,115,32,97,114,101,32,111,102,32,111,110,101,32,119,105,100,116,104]))]))] []]
def zs_:Fn:=fnOf gi 1 1 zl_
def zb8_:List S:=[.rp (.and (zaw_ [.a0]) (.ch .le .le .n1 .a0 .a1))]
def zaC_:Fn:=fnOf gi 2 0 zb8_
def zbP_:List S:=[.for_ .any [.a0] ⟨xk,[1]⟩ [.if_ (.or (.not (.call zaC_ "is_column" [(.i .a1 0),(.g "CARD_WIDTH" (.int 40))])) (.not (.call zaC_ "is_column" [(.i .a1 1),(.g "BODY_WIDTH" (.int 36))]))) [.never] []],.as 2 .dct0,.for_ .any [.a0] ⟨xk,[1]⟩ [.if_ (.iN (.i .a1 1) .a2) [.never] [],.setI 2 (.i .a1 1) .a1],.rp (.comp ["column"] [("leading",2)] .any [(.bf .sorted [.a2])] ⟨xk,[0]⟩ xh (.bin .ix .a1 .a0))]
def zaM_:Fn:=fnOf gi 1 2 zbP_
def zc3_:List S:=[.try0 [.as 1 (.call zaM_ "make_board" [.a0])] [],.rp (.eQ .a1 .a0)]
def zbM_:Fn:=fnOf gi 1 1 zc3_
def zas_:List S:=[.ex (.pu (zi_ [(.and (zaw_ [(.fld .a0 "breaks")]) (.ch .le .le .n0 (.fld .a0 "breaks") (.g "MOST_BREAKS" (.int 3)))),(.k (.str [116,104,101,114,101,32,97,114,101,32,48,32,116,111,32,51,32,98,114,101,97,107,115]))])),.ex (.pu (zi_ [(.lE (.fld .a0 "breaks") (.bf .len [(.fld .a0 "order")])),(.k (.str [116,104,101,114,101,32,97,114,101,32,110,111,32,109,111,114,101,32,98,114,101,97,107,115,32,116,104,97,110,32,107,101,121,115]))])),.ex (.pu (zi_ [(.and (zaw_ [(.fld .a0 "figures")]) (.ch .le .le .n1 (.fld .a0 "figures") (.g "MOST_FIGURES" (.int 12)))),(.k (.str [119,104,101,101,108,115,32,104,97,118,101,32,49,32,116,111,32,49,50,32,102,105,103,117,114,101,115]))])),.ex (.pu (zi_ [(.call zbM_ "is_board" [(.fld .a0 "board")]),(.k (.str [116,104,101,32,98,111,97,114,100,32,105,115,32,110,111,110,101,44,32,111,114,32,110,111,116,32,115,111,114,116,101,100]))]))]
def zW_:Fn:=fnOf gi 1 0 zas_
def zbs_:List S:=[.as 2 (.ad (.ad (.comp ["pick"] [] .any [(.fld .a0 "picks")] ⟨xk,[0]⟩ xh (.i .a0 0)) (.sl (zF_ [.a0]) xh (xg .n1))) (.fld .a0 "order")),.for_ .en [(.fld .a0 "works")] ⟨xj,[3,4]⟩ [.if_ (.nE .a3 .a1) [.ex (.bm .append 2 [(.i .a4 0)])] [],.if_ (.lE .a3 .a1) [.ex (.bm .extend 2 [(.lst [(.i .a4 1),(.i .a4 3)])])] []],.ret (.mv 2)]
def zau_:Fn:=fnOf gi 2 3 zbs_
def zca_:List S:=[.rp (.or (.lT (.i .a0 1) (.i .a1 0)) (.lT (.i .a1 1) (.i .a0 0)))]
def zbd_:Fn:=fnOf gi 2 0 zca_
def zbt_:List S:=[.for_ .en [(.fld .a0 "works")] ⟨xj,[1,2]⟩ [.ex (.pu (zi_ [(.iN (.i .a2 2) (.gt "WORK_WORDS" [[112,108,117,115],[108,101,115,115],[116,105,109,101,115]])),(.k (.str [97,32,119,111,114,107,32,104,97,115,32,111,110,101,32,111,102,32,116,104,114,101,101,32,119,111,114,100,115]))])),.for_ .any [(.call zau_ "fields_kept" [.a0,.a1])] ⟨xk,[3]⟩ [.ex (.pu (zi_ [(.call zbd_ "are_apart" [(.i .a2 0),.a3]),(.k (.str [97,32,119,111,114,107,32,112,117,110,99,104,101,115,32,105,110,116,111,32,97,32,102,105,101,108,100,32,116,104,97,116,32,105,116,32,109,117,115,116,32,98,101,32,97,112,97,114,116,32,102,114,111,109]))]))]]]
def zat_:Fn:=fnOf gi 1 3 zbt_
def za2_:List S:=[.ex (.pu (.call z5_ "check_lengths" [.a0])),.ex (.pu (.call zA_ "check_middle_word" [.a0])),.ex (.pu (.call zZ_ "check_names" [.a0])),.for_ .any [(.call zaP_ "fields_due" [.a0])] ⟨xk,[1]⟩ [.ex (.pu (zi_ [(.call zb1_ "is_field" [(.i .a1 0),(.i .a1 1)]),(.k (.str [97,32,102,105,101,108,100,32,103,111,101,115,32,102,114,111,109,32,97,32,102,105,114,115,116,32,116,111,32,97,32,108,97,115,116,32,99,111,108,117,109,110,44,32,102,114,111,109,32,49,32,116,111,32,51,54]))]))],.ex (.pu (.call zaq_ "check_picks" [.a0])),.ex (.pu (.call zs_ "check_middle_widths" [.a0])),.ex (.pu (.call zW_ "check_counting" [.a0])),.ex (.pu (.call zat_ "check_works" [.a0]))]
def zac_:Fn:=fnOf gi 1 1 za2_
def zn_:List S:=[.setF 0 "deck" .a1,.setF 0 "picks" (.bf .list [.a2]),.setF 0 "middle" .a3,.setF 0 "order" (.bf .list [.a4]),.setF 0 "works" (zbB_ [.a5]),.setF 0 "breaks" .a6,.setF 0 "sums" (zbB_ [.a7]),.setF 0 "figures" .a8,.setF 0 "board" (zbB_ [.a9]),.ex (.pu (.call zac_ "check_asking" [.a0]))]
def zu_:Fn:=fnOf gi 10 0 zn_
def zci_:List S:=[.rp (.make zu_ "Asking" [(.i .a0 0),(.bf .list [(.i .a0 1)]),(.i .a0 2),(.bf .list [(.i .a0 3)]),(.bf .list [(.i .a0 4)]),(.i .a0 5),(.bf .list [(.i .a0 6)]),(.i .a0 7),(.bf .list [(.i .a0 8)])])]
def zbf_:Fn:=fnOf gi 1 0 zci_
def z3_:List S:=[.as 3 (.lst []),.for_ .any [(.sl .a0 (xg (.n 15)) (xg (.n 39)))] ⟨xk,[4]⟩ [.as 5 (.ad .n1 (.mo (.dv .a4 .n4) .n36)),.if_ (.and (.eQ (.mo .a4 .n4) .n2) (.eQ .a2 .n0)) [.ex (.bm .append 3 [(.tup [.s5,(.i .a1 0),.a5,(.bin .ix (.k (.str [48,65,90,32,57])) (.mo (.dv .a4 (.n 144)) .n5))])])] [.if_ (.and (.eQ (.mo .a4 .n4) .n3) (.and (.eQ .a2 .n1) (.and (.io (.i .a1 2) (.k .non)) (.nE (.i (.i .a1 2) 0) .s1)))) [.ex (.bm .append 3 [(.tup [.s0,(.i (.i .a1 2) 1),.a5])])] [.if_ (.and (.eQ (.mo .a4 .n4) .n1) (.eQ .a2 .n2)) [.ex (.bm .append 3 [(.tup [.s0,(.i .a1 0),.a5])])] [.if_ (.and (.eQ (.mo .a4 .n4) .n0) (.eQ .a2 .n0)) [.ex (.bm .append 3 [(.tup [.s0,(.i .a1 0),.a5])])] []]]]],.ret (.mv 3)]
def z0_:Fn:=fnOf gi 3 3 z3_
noncomputable abbrev z1_:=X.call z0_ "_law_passes"
def zc7_:List S:=[.as 1 (.mo .a1 (.ad (.bf .len [.a0]) .n1)),.rp (.ad (.ad (.sl .a0 xh (xg .a1)) (.lst [.a2])) (.sl .a0 (xg .a1) xh))]
def zaZ_:Fn:=fnOf gi 3 0 zc7_
noncomputable abbrev zG_:=X.call zaZ_ "_law_put"
def zaS_:List S:=[.if_ (.iS (.i .a0 2) (.k .non)) [.rp (.lst [])] [],.if_ (.eQ (.i (.i .a0 2) 0) .s1) [.rp (.lst [(.tup [.s1,(.i .a0 0),(.i (.i .a0 2) 1)])])] [],.rp (.lst [(.tup [.s4,(.i .a0 0),(.i (.i .a0 2) 1),(.i (.i .a0 2) 2),(.i (.i .a0 2) 3),(.i (.i .a0 2) 0)])])]
def zv_:Fn:=fnOf gi 1 0 zaS_
def zdN_:List S:=[.rp (.iN (.i .a0 0) (.tup [.s0,.s5]))]
def zak_:Fn:=fnOf gi 1 0 zdN_
def zfA_:List S:=[.rp (.and (.io (.fld .a0 "middle") (.k .non)) (.eQ (.i (.fld .a0 "middle") 0) .s1))]
def zbI_:Fn:=fnOf gi 1 0 zfA_
def zb4_:List S:=[.if_ (.iS (.fld .a0 "middle") (.k .non)) [.rp (.lst [])] [],.as 1 (zF_ [.a0]),.if_ (.call zbI_ "is_first" [.a0]) [.rp (.lst [(.tup [.s1,(.fld .a0 "deck"),(.i .a1 0)])])] [],.rp (.lst [(.tup [.s4,(.fld .a0 "deck"),(.i (.fld .a0 "middle") 1),(.i .a1 0),(.i .a1 1),(.i (.fld .a0 "middle") 0)])])]
def zt_:Fn:=fnOf gi 1 1 zb4_
def za0_:List S:=[.rp (.sl (.fld .a0 "order") xh (xg (.fld .a0 "breaks")))]
def zah_:Fn:=fnOf gi 1 0 za0_
def zbm_:List S:=[.as 1 (.comp ["work"] [("asking",0)] .any [(.fld .a0 "works")] ⟨xk,[0]⟩ xh (.tup [.s7,(.fld .a1 "deck"),.a0])),.ex (.bm .append 1 [(.tup [(.k (.str [99,111,117,110,116])),(.fld .a0 "deck"),(.call zah_ "break_fields" [.a0]),(.bf .list [(.fld .a0 "sums")]),(.fld .a0 "figures"),(.bf .list [(.fld .a0 "board")])])]),.ret (.mv 1)]
def z4_:Fn:=fnOf gi 1 1 zbm_
def zaf_:List S:=[.if_ (.not (.ch .le .le .n1 (.i .a1 2) (.g "BODY_WIDTH" (.int 36)))) [.rp (.k (.bl xk))] [],.if_ (.and (.eQ (.i .a1 0) .s0) (.eQ (.i .a1 1) (.fld .a0 "deck"))) [.rp (.lE .a2 (.bf .len [(.call zt_ "middle_goings" [.a0])]))] [],.as 3 (.ifx (.eQ (.i .a1 0) .s0) (.sl (.call z9_ "names_of" [.a0]) (xg .n1) xh) (.lst [(.fld .a0 "deck")])),.rp (.and (.iN (.i .a1 1) .a3) (.eQ .a2 .n0))]
def zK_:Fn:=fnOf gi 3 1 zaf_
def zcM_:List S:=[.if_ (.nE (.comp ["going"] [] .any [.a1] ⟨xk,[0]⟩ (xg (.not (.call zak_ "is_pass" [.a0]))) .a0) (.ad (.call zt_ "middle_goings" [.a0]) (.call z4_ "last_goings" [.a0]))) [.rp (.k (.bl xk))] [],.as 2 .n0,.for_ .any [.a1] ⟨xk,[3]⟩ [.if_ (.not (.call zak_ "is_pass" [.a3])) [.as 2 (.ad .a2 .n1)] [.if_ (.not (.call zK_ "is_told_pass" [.a0,.a3,.a2])) [.rp (.k (.bl xk))] []]],.rp (.k (.bl xj))]
def zaI_:Fn:=fnOf gi 2 2 zcM_
noncomputable abbrev za3_:=X.call zaI_ "is_plan"
def zcc_:List S:=[.if_ (.gT (.i .a0 0) .n1) [.rp (.tup [(.sb (.i .a0 0) .n1),(.sb (.i .a0 1) .n1)])] [],.rp (.tup [(.ad (.i .a0 0) .n1),(.ad (.i .a0 1) .n1)])]
def zbe_:Fn:=fnOf gi 1 0 zcc_
noncomputable abbrev zaH_:=X.call zbe_ "_law_next"
def zf_:List S:=[.as 2 (.i .a0 0),.if_ (.eQ .a2 .s1) [.rp (.ad (.sl .a0 xh (xg .n2)) (.tup [(zaH_ [(.i .a0 2)])]))] [],.if_ (.eQ .a2 .s4) [.if_ (.eQ (.mo .a1 .n4) .n0) [.rp (.ad (.ad (.sl .a0 xh (xg .n2)) (.tup [(.ad (.i .a0 2) (.k (.str [113])))])) (.sl .a0 (xg .n3) xh))] [],.if_ (.eQ (.mo .a1 .n4) .n1) [.rp (.ad (.ad (.sl .a0 xh (xg .n3)) (.tup [(zaH_ [(.i .a0 3)])])) (.sl .a0 (xg .n4) xh))] [],.if_ (.eQ (.mo .a1 .n4) .n2) [.rp (.ad (.sl .a0 xh (xg .n4)) (.tup [(zaH_ [(.i .a0 4)]),(.i .a0 5)]))] [],.rp (.ad (.sl .a0 xh (xg .n5)) (.tup [(.bin .ix (.ds2 .s3 .s9 .s9 .s3) (.i .a0 5))]))] [],.if_ (.eQ .a2 .s7) [.asgT ⟨xj,[3,4,5,6]⟩ (.i .a0 2),.if_ (.eQ (.mo .a1 .n2) .n0) [.as 5 (.bin .ix (.ds3 .s6 .s2 .s2 .s8 .s8 .s6) .a5),.rp (.ad (.sl .a0 xh (xg .n2)) (.tup [(.tup [.a3,.a4,.a5,.a6])]))] [],.rp (.ad (.sl .a0 xh (xg .n2)) (.tup [(.tup [.a3,(zaH_ [.a4]),.a5,.a6])]))] [],.if_ (.and (.eQ (.mo .a1 .n4) .n0) (.eQ (.bf .len [(.i .a0 2)]) .n3)) [.rp (.ad (.ad (.sl .a0 xh (xg .n2)) (.tup [(.sl (.i .a0 2) xh (xg .n2))])) (.sl .a0 (xg .n3) xh))] [],.if_ (.eQ (.mo .a1 .n4) .n0) [.rp (.ad (.ad (.sl .a0 xh (xg .n2)) (.tup [(.ad (.i .a0 2) (.lst [(.tup [.n1,.n1])]))])) (.sl .a0 (xg .n3) xh))] [],.if_ (.eQ (.mo .a1 .n4) .n1) [.rp (.ad (.ad (.sl .a0 xh (xg .n3)) (.tup [(.ad (.i .a0 3) (.lst [(.tup [.n1,.n1])]))])) (.sl .a0 (xg .n4) xh))] [],.if_ (.eQ (.mo .a1 .n4) .n2) [.rp (.ad (.sl .a0 xh (xg .n4)) (.tup [(.ad (.mo (.i .a0 4) (.n 12)) .n1),(.i .a0 5)]))] [],.rp (.ad (.sl .a0 xh (xg .n5)) (.tup [(.ad (.i .a0 5) (.lst [(.tup [.n1,.n36])]))]))]
def zae_:Fn:=fnOf gi 2 5 zf_
noncomputable abbrev zag_:=X.call zae_ "_law_other"
def zj_:List S:=[.as 5 (.ad .n1 (.mo .a4 .n36)),.if_ (.eQ .a3 (.n 10)) [.rp (.ad (.mu .a1 (.mu .n2 (.mo .a4 .n2))) .a2)] [],.if_ (.eQ .a3 (.n 11)) [.rp (.ad .a1 (zG_ [.a2,.a4,(.tup [.s5,(.i .a0 0),.a5,(.k (.str [48]))])]))] [],.if_ (.and (.eQ .a3 (.n 12)) (.nE (.i (.i .a0 2) 0) .s1)) [.rp (.ad (.ad (.lst [(.tup [.s5,(.i (.i .a0 2) 1),.a5,(.k (.str [48]))])]) .a1) .a2)] [],.if_ (.and (.eQ .a3 (.n 13)) (.nE (.i (.i .a0 2) 0) .s1)) [.rp (.ad .a1 (zG_ [.a2,.a4,(.tup [.s0,(.i (.i .a0 2) 1),.a5])]))] [],.rp (.ad (.lst [(zag_ [(.i .a1 0),.a4])]) .a2)]
def zx_:Fn:=fnOf gi 5 1 zj_
def zz_:List S:=[.asg5 [4,5,6,7,8] .a1,.as 9 (.ad .n1 (.mo .a3 .n36)),.if_ (.eQ .a2 .n0) [.as 6 (zG_ [.a6,.a3,(.tup [.s0,(.i .a0 0),(.mu .n37 (.mo .a3 .n2))])])] [.if_ (.eQ .a2 .n1) [.as 4 (zG_ [.a4,.a3,(.tup [.s0,(.ad (.i .a0 0) (.k (.str [113]))),.a9])])] [.if_ (.eQ .a2 .n2) [.as 7 (zG_ [.a7,.a3,(.tup [.s0,(.i .a0 0),.a9])]),.if_ (.eQ (.i .a7 0) (.tup [.s0,(.i .a0 0),.a9])) [.as 8 (.ad .a8 (.lst [(.i .a7 0)]))] []] [.if_ (.eQ .a2 .n3) [.as 8 (.lst [])] [.if_ (.or (.eQ .a2 .n4) (.eQ .a2 .n5)) [.as 8 (.lst [(zag_ [(.i .a8 0),.a3])])] [.if_ (.eQ .a2 (.n 6)) [.as 4 (zG_ [.a4,.a3,(.tup [.s5,(.i .a0 0),(.mu .n37 (.mo .a3 .n2)),(.k (.str [65]))])])] [.if_ (.and (.lT .a2 (.n 10)) (.gT (.bf .len [.a7]) .n0)) [.as 10 (.mo .a3 (.bf .len [.a7])),.if_ (.eQ .a2 (.n 7)) [.as 7 (.ad (.sl .a7 xh (xg .a10)) (.sl .a7 (xg (.ad .a10 .n1)) xh))] [.if_ (.and (.eQ .a2 (.n 8)) (.gT (.bf .len [.a7]) .n1)) [.as 7 (.lst [(.i .a7 1),(.i .a7 0)])] [.as 7 (.ad (.ad (.sl .a7 xh (xg .a10)) (.lst [(zag_ [(.bin .ix .a7 .a10),(.dv .a3 .n2)])])) (.sl .a7 (xg (.ad .a10 .n1)) xh))]]] [.if_ (.and (.gT .a2 (.n 9)) (.gT (.bf .len [.a5]) .n0)) [.rp (.ad (.ad (.ad .a4 (.call zx_ "_law_middle_spoilt" [.a0,.a5,.a6,.a2,.a3])) .a7) .a8)] [.as 8 (.ad .a8 .a8)]]]]]]]],.rp (.ad (.ad (.ad (.ad .a4 .a5) .a6) .a7) .a8)]
def zY_:Fn:=fnOf gi 4 7 zz_
def zaE_:List S:=[.if_ (.not (za3_ [.a0,.a1])) [.raise "NoPlan" [(.k (.str [116,104,101,32,103,111,105,110,103,115,32,97,114,101,32,110,111,32,112,108,97,110,32,111,102,32,116,104,101,32,116,111,108,100,32,107,105,110,100,115,32,102,111,114,32,116,104,101,32,97,115,107,105,110,103]))]] [],.never,.if_ (.iS .a2 (.k .non)) [.never] [],.if_ (.iS .a2 (.k .non)) [.never] [],.if_ (.iS .a2 (.k .non)) [.never] [],.ret (.mv 2)]
def z8_:Fn:=fnOf gi 2 1 zaE_
def za7_:List S:=[.as 2 (.bf .list [.a1]),.as 3 (.lst []),.tryC z8_ "parted_at" [.a0,.a2] "ShopError" [("NoPlan",xj)] 4 3 [[([("NoPlan",xj)],[("NoPlan",xj)]),([("ValueError",xk)],[("NoPlan",xj)])],[([("NoCard",xj),("NoField",xj),("NoOrder",xj),("NoBoard",xj),("Meet",xj),("NoAsking",xj),("NoTray",xj),("NoRow",xj)],[("NoPlan",xk)])]],.rp (.and (.eQ .a3 (.lst [(.k (.bl xj)),(.k (.bl xj)),(.k (.bl xk))])) (.eQ .a2 .a1))]
def zai_:Fn:=fnOf gi 2 3 za7_
def znI_:List S:=[.as 1 (.call zay_ "_law_asking" [.a0]),.as 2 (.call zbf_ "_law_made" [.a1]),.as 3 (z1_ [.a0,.a1,.n0]),.as 4 (zd_ [.a0,(.n 15)]),.for_ .any [(z1_ [.a0,.a1,.n1])] ⟨xk,[5]⟩ [.as 3 (zG_ [.a3,.a4,.a5])],.as 6 (z1_ [.a0,.a1,.n2]),.as 7 (.call zv_ "_law_middle_goings" [.a1]),.if_ (.eQ .a7 (.lst [])) [.as 6 (.lst [])] [],.as 8 (.comp ["_law_work"] [("_law_a",1)] .any [(.i .a1 4)] ⟨xk,[0]⟩ xh (.tup [.s7,(.i .a1 0),.a0])),.as 9 (.lst [(.tup [(.k (.str [99,111,117,110,116])),(.i .a1 0),(.sl (.i .a1 3) xh (xg (.i .a1 5))),(.bf .list [(.i .a1 6)]),(.i .a1 7),(.bf .list [(.i .a1 8)])])]),.as 10 (.ad (.ad (.ad (.ad .a3 .a7) .a6) .a8) .a9),.as 11 (.bf .list [.a10]),.as 12 (za3_ [.a2,.a11]),.if_ (.or (.io .a12 (.k (.bl xj))) (.nE .a11 .a10)) [.rp (.k (.bl xk))] [],.as 13 (.call zY_ "_law_spoilt" [.a1,(.lst [.a3,.a7,.a6,.a8,.a9]),(.mo (zd_ [.a0,(.n 16)]) (.n 16)),(zd_ [.a0,(.n 17)])]),.if_ (.eQ .a13 .a10) [.rp (.k (.bl xk))] [],.if_ (.or (.io (za3_ [.a2,.a13]) (.k (.bl xk))) (.not (.call zai_ "_law_no_plan" [.a2,.a13]))) [.rp (.k (.bl xk))] [],.rp (.iS (za3_ [.a2,.a11]) (.k (.bl xj)))]
def f_law:Fn:=fnOf gi 1 13 znI_
local macro_rules|`(tactic|exists $ts,*)=>do
 let f (t:String)(g:Lean.Ident->Lean.MacroM (Lean.TSyntax `Lean.Parser.Tactic.simpLemma)):=(t.splitOn " ").toArray.mapM fun s=>g (Lean.mkIdent s.toName)
 let a<-f "S.runs S.run trD zgd_ ye_mv znC_ to_ok bm_v sd_v onS call1 atS_0 atS_s Bm.ty Bm.f znV_ zkk_ zcP_ zoi_ zhi_ zbb_ zmY_ zg8_ zle_ and_t and_f noE or_b and_b min_i vd_mod zcb_ zlc_ zgD_ zgX_ zol_ zno_ nw_c nw_0 Bool.and_true Mo.lim_ok zmJ_ zl7_ zpg_ get_0 get_s mv_0 mv_s zfv_ zap_ zaV_ zdK_ frzE List.foldl_cons List.foldl_nil frz_0 frz_s X.uses X.usesL X.usesO zao_ zlu_ xv_v zcV_ xv_ch zo1_ zog_ xv_or zpf_ zo2_ zoE_ xv_sl znO_ zpe_ zpk_ zhS_ xv_bf zms_ xv_lr zpX_ zlR_ xs_0 xs_c xo_0 xo_s xt_0 xt_s zpC_ zoh_ xk_bl znN_ znU_ zov_ fz_ix fz_in znH_ zlD_ zng_ fz_sl zof_ zkq_ zm8_ zj2_ fz_is zne_ fz_eq znE_ Bo.f Bf.f Ik.f forS evG List.map_cons List.map_nil List.length_cons List.length_nil List.set_cons_zero List.set_cons_succ List.replicate_succ List.replicate_zero List.cons_append List.nil_append zka_ zmt_ bl_vw znP_ znq_ zkA_ ls_vw zhR_ za9_ zkD_ ls_ix ls_sl ze0_ zkn_ di_vw zlO_ di_ix di_in zlb_ zP_ zcg_ vd_lt zjA_ vd_gt zqa_ zpG_ zo4_ vd_bl vd_int Bool.not_true Bool.not_false if_true if_false Bool.false_eq_true Bool.true_eq_false Option.map_some Option.map_none Nat.reduceAdd Nat.reduceLT Nat.reduceLeDiff Int.reduceLT Int.reduceLE Int.reduceNeg Int.reduceAdd Int.reduceSub Nat.lt_add_one Nat.zero_lt_succ Nat.zero_add setE cE List.getElem?_cons_succ List.getElem?_cons_zero Option.join_some setG true_and Int.toNat_natCast zcI_" fun i=>`(Lean.Parser.Tactic.simpLemma|$i:term)
 let b<-f "zcP_ zoi_ zhi_ zbb_" fun i=>`(Lean.Parser.Tactic.simpLemma|↓$i:term)
 `(tactic|first |simp only[$[$a:simpLemma],*,$[$b:simpLemma],*,$[$ts:term],*]|skip)
set_option hygiene false in
local macro_rules | `(tactic|fail "q") => `(tactic|first |exact⟨_, _, rfl, .inl rfl⟩|exact⟨_, _, rfl, .inr ⟨rfl, rfl⟩⟩|exact⟨_, _, rfl, .inr ⟨rfl, trivial⟩⟩)
noncomputable abbrev Fd:=Int×Int
def F2 (f:Fd):D:=.nd .tup [.int f.1,.int f.2]
instance:Im F2:=⟨λ_=>rfl⟩
abbrev Pk:=Fd×List Nat
def PK (p:Pk):D:=.nd .tup [F2 p.1,.str p.2]
instance:Im PK:=⟨λ_=>rfl⟩
abbrev Wk:=Fd×Fd×List Nat×Fd
def WK (w:Wk):D:=.nd .tup [F2 w.1,F2 w.2.1,.str w.2.2.1,F2 w.2.2.2]
instance:Im WK:=⟨λ_=>rfl⟩
theorem F2_0 (f:Fd):ixA (F2 f) (.int 0)=.ok (.int f.1):=rfl
theorem F2_1 (f:Fd):ixA (F2 f) (.int 1)=.ok (.int f.2):=rfl
theorem PK_0 (f:Pk):ixA (PK f) (.int 0)=.ok (F2 f.1):=rfl
theorem PK_1 (f:Pk):ixA (PK f) (.int 1)=.ok (.str f.2):=rfl
theorem WK_0 (f:Wk):ixA (WK f) (.int 0)=.ok (F2 f.1):=rfl
theorem WK_1 (f:Wk):ixA (WK f) (.int 1)=.ok (F2 f.2.1):=rfl
theorem WK_2 (f:Wk):ixA (WK f) (.int 2)=.ok (.str f.2.2.1):=rfl
theorem WK_3 (f:Wk):ixA (WK f) (.int 3)=.ok (F2 f.2.2.2):=rfl
theorem zbn_ (f:Fd):(F2 f).vw=F2 f:=rfl
theorem zn0_ (f:Pk):(PK f).vw=PK f:=rfl
theorem ziT_ (f:Wk):(WK f).vw=WK f:=rfl
theorem zd6_ (f:Fd):(F2 f).new=xj:=zkA_ f
noncomputable def WFi:List Nat:=[102,105,114,115,116]
noncomputable def WMa:List Nat:=[109,97,116,101,115]
noncomputable def WWi:List Nat:=[119,105,116,104,111,117,116]
inductive Md where
 |no |fi (f:Fd)|ma (w n:Jx) (f g:Fd)
def MD:Md->D
 |.no=>.non|.fi f=>.nd .tup [.str WFi,F2 f]|.ma w n f g=>.nd .tup [.str w,.str n,F2 f,F2 g]
structure Ak where
 dk:List Nat
 pk:List Pk
 md:Md
 od:List Fd
 wk:List Wk
 br:Int
 su:List Fd
 fg:Int
 bd:List Fd
def aFs (A:Ak):List D:=[.str A.dk,LS PK A.pk,MD A.md,LS F2 A.od,LS WK A.wk,.int A.br,LS F2 A.su,.int A.fg,LS F2 A.bd]
def AO (A:Ak):D:=.nd (.obj "Asking" ["deck", "picks", "middle", "order", "works", "breaks", "sums", "figures", "board"]) (aFs A)
section
variable (A:Ak)
theorem zdb_:fldD gi.cs "deck" (AO A)=.ok (.str A.dk):=rfl
theorem zbz_:fldD gi.cs "picks" (AO A)=.ok (.fz (LS PK A.pk)):=rfl
theorem znl_:fldD gi.cs "middle" (AO A)=.ok (MD A.md):=by cases h:A.md<;>· show Mq (MD A.md).vw=_;rw[h];rfl
theorem zbT_:fldD gi.cs "order" (AO A)=.ok (.fz (LS F2 A.od)):=rfl
theorem zbE_:fldD gi.cs "works" (AO A)=.ok (.fz (LS WK A.wk)):=rfl
theorem zd5_:fldD gi.cs "breaks" (AO A)=.ok (.int A.br):=rfl
theorem zfk_:fldD gi.cs "sums" (AO A)=.ok (.fz (LS F2 A.su)):=rfl
theorem zc5_:fldD gi.cs "figures" (AO A)=.ok (.int A.fg):=rfl
theorem zf4_:fldD gi.cs "board" (AO A)=.ok (.fz (LS F2 A.bd)):=rfl
theorem AO_vw:(AO A).vw=.fz (AO A):=rfl
theorem zq_:(D.fz (AO A)).vw=.fz (AO A):=rfl
end
def OkFd (f:Fd):Prop:=1<=f.1/\f.1<=f.2/\f.2<=36
def SG:List Nat:=Qm0
def LT:List Nat:=Qm1
def OkN (n:Jx):Prop:=1<=n.length/\n.length<=8/\∀c∈n,c∈LT
def OkK (sg:Int->Nat)(p:Pk):Prop:=OkFd p.1/\p.2=(rngI p.1.1 (p.1.2+1-p.1.1).toNat).map sg
def OkM (d:Jx):Md->Prop
 |.no=>True|.fi f=>OkFd f|.ma w n f g=>(w=WMa\/w=WWi)/\OkN n/\n≠d/\OkFd f/\OkFd g/\f.2-f.1=g.2-g.1
def WWo:Jy:=[[112,108,117,115],[108,101,115,115],[116,105,109,101,115]]
def OkW (w:Wk):Prop:=OkFd w.1/\OkFd w.2.1/\OkFd w.2.2.2/\w.2.2.1∈WWo
def apt (a b:Fd):Bool:=decide (a.2<b.1)||decide (b.2<a.1)
def midF:Md->List Fd
 |.no=>[]|.fi f=>[f]|.ma _ _ f g=>[f,g]
def gk (k:Int)(q:Int×Wk):List Fd:=(if q.1=k then[]else[q.2.1])++(if q.1<=k then[q.2.2.1,q.2.2.2.2]else[])
def kp (A:Ak)(k:Int):List Fd:=A.pk.map (·.1)++(midF A.md).take 1++A.od++(enumL A.wk).flatMap (gk k)
structure OkA (A:Ak):Prop where
 nm:OkN A.dk
 pl:A.pk.length<=8
 pk:∃sg:Int->Nat,(∀c,sg c∈SG)/\∀p∈A.pk,OkK sg p
 md:OkM A.dk A.md
 ol:A.od.length<=6
 od:∀f∈A.od,OkFd f
 wl:A.wk.length<=4
 wk:∀w∈A.wk,OkW w
 br:0<=A.br/\A.br<=3/\A.br<=A.od.length
 sl:A.su.length<=4
 su:∀f∈A.su,OkFd f
 fg:1<=A.fg/\A.fg<=12
 bl:A.bd.length<=9
 bd:(∀w∈A.bd,1<=w.1/\w.1<=40/\1<=w.2/\w.2<=36)/\A.bd.Pairwise λa b=>a.2<b.2
 ft:∀q∈enumL A.wk,∀f∈kp A q.1,apt q.2.1 f=xj
theorem zi6_ (a b:Fd):zbd_.val [F2 a,F2 b]=.ok (.bl (apt a b)):=by
 refine zD_ rfl rfl λpn hp=>?_
 unfold zca_
 exists hp,F2_0,F2_1
 fail "q"
theorem zdH_ (f:Fd):zbG_.val [F2 f]=.ok (.int (f.2-f.1+1)):=rfl
theorem zfU_ (w:Jx):zcs_.val [.bl xj,.str w]=.ok .non:=rfl
theorem zdn_ (i:Int):zbD_.val [.int i]=.ok (.bl xj):=rfl
theorem fieldb {f:Fd}(h:OkFd f):zb1_.val [.int f.1,.int f.2]=.ok (.bl xj):=by
 obtain⟨h1,h2,h3⟩:=h;refine zD_ rfl rfl λpn hp=>?_
 unfold zdf_
 exists hp,zdn_,ch3D,chD,decide_eq_true h1,decide_eq_true h2,decide_eq_true h3
 fail "q"
theorem zm0_ {f:Fd}(h:OkFd f):zaQ_.val [F2 f]=.ok (LS .int (rngI f.1 (f.2+1-f.1).toNat)):=by
 obtain⟨h1,h2,h3⟩:=h;refine zD_ rfl rfl λpn hp=>?_
 unfold zbA_;have e:lrD (.int f.1) (.int (f.2+1))=.ok (LS .int (rngI f.1 (f.2+1-f.1).toNat)):=by
  show Mo.grd _ (Mq (D.nd .lst (((rngI f.1 (f.2+1-f.1).toNat).map D.int).map .vw)))=_
  rw[Mo.grd_ok (by lia),zfx_];rfl
 exists hp,F2_0,F2_1,e
 fail "q"
theorem zon_ {A:Ak}(h:OkM A.dk A.md):zbC_.val [.fz (AO A)]=.ok (.bl (match A.md with |.ma _ _ _ _=>xj |_=>xk)):=by
 obtain⟨a,b,m,r⟩:=A;cases m with
 |no=>rfl|fi=>rfl|ma w n f g=>rcases h.1 with rfl |rfl<;>rfl
theorem zoj_ {A:Ak}(h:OkM A.dk A.md):zbI_.val [.fz (AO A)]=.ok (.bl (match A.md with |.fi _=>xj |_=>xk)):=by
 obtain⟨a,b,m,r⟩:=A;cases m with
 |no=>rfl|fi=>rfl|ma w n f g=>rcases h.1 with rfl |rfl<;>rfl
theorem zfG_ {A:Ak}(h:OkM A.dk A.md):z9_.val [.fz (AO A)]=.ok (LS .str (match A.md with |.ma _ n _ _=>[A.dk,n]|_=>[A.dk])):=by
 obtain⟨a,b,m,r⟩:=A;cases m with
 |no=>rfl|fi=>rfl|ma w n f g=>rcases h.1 with rfl |rfl<;>rfl
theorem zju_ {A:Ak}(h:OkM A.dk A.md):z6_.val [.fz (AO A)]=.ok (LS F2 (midF A.md)):=by
 obtain⟨a,b,m,r⟩:=A;cases m with
 |no=>rfl|fi=>rfl|ma w n f g=>rcases h.1 with rfl |rfl<;>rfl
theorem zkl_ {A:Ak}(h:OkM A.dk A.md):zA_.val [.fz (AO A)]=.ok .non:=by
 obtain⟨a,b,m,r⟩:=A;cases m with
 |no=>rfl|fi=>rfl|ma w n f g=>rcases h.1 with rfl |rfl<;>rfl
theorem zm7_ {A:Ak}(h:OkA A):z5_.val [.fz (AO A)]=.ok .non:=by
 have h1:=h.pl;have h2:=h.ol;have h3:=h.wl;have h4:=h.sl;refine zD_ rfl rfl λpn hp=>?_
 unfold zaJ_
 exists hp,zq_,zbz_,zbT_,zbE_,zfk_,decide_eq_true (show(A.pk.length:Int)<=8 by lia),decide_eq_true (show(A.od.length:Int)<=6 by lia),decide_eq_true (show(A.wk.length:Int)<=4 by lia),decide_eq_true (show(A.su.length:Int)<=4 by lia),zfU_
 fail "q"
theorem lt_in {c:Nat}(h:c∈LT):inA xk (.str [c]) (.str LT)=.ok (.bl xj):=by
 show Mq (D.bl (decide (c∈LT)))=_
 rw[decide_eq_true h]
theorem sg_in {c:Nat}(h:c∈SG):inA xk (.str [c]) (.str SG)=.ok (.bl xj):=by
 show Mq (D.bl (decide (c∈SG)))=_
 rw[decide_eq_true h]
theorem bls_t:∀(l:List Bool),blsD (l.map .bl)=xg l
 |[]=>rfl|b::l=>by rw[nS,blsD,bls_t l];rfl
theorem zpZ_ (l:List Bool):allD [LS .bl l]=.ok (.bl (l.all id)):=by
 show(match blsD (l.map .bl)with |some bs=>Mq (D.bl (bs.all id))|none=>.no)=_
 rw[bls_t]
theorem zkw_ {α:Type}{p:α->Bool}(l:List α)(h:∀x∈l,p x=xj):allD [LS .bl (l.map p)]=.ok (.bl xj):=by
 rw[zpZ_,wg,pQ.mpr];intro x hx;exact h x hx
theorem lnS_ {l:List Nat}(h:l.length<=100000):lenA [.str l]=.ok (.int l.length):=by
 show Mo.lim _ _=_
 rw[Mo.lim_ok h]
theorem zfZ_ (l:Jx):walkA [.str l]=.ok (l.map λc=>.str [c]):=rfl
theorem zlK_ {n:List Nat}(h:OkN n):zcD_.val [.str n]=.ok (.bl xj):=by
 obtain⟨h1,h2,h3⟩:=h;refine zD_ rfl rfl λpn hp=>?_
 unfold zd1_
 exists hp,chD,lnS_ (show n.length<=100000 by lia),decide_eq_true (show(1:Int)<=n.length by lia),decide_eq_true (show(n.length:Int)<=8 by lia)
 rw[xcompN (f:=λ_:Nat=>xj) (o:=.bl) n rfl (by exists zfZ_;rfl) (zao_ _ _) (λc hc=>by exact lt_in (h3 c hc)) (by lia)]
 exists zkw_ n (p:=λ_=>xj) (λ_ _=>rfl)
 fail "q"
theorem zjs_ {n:List Nat}(hl:n.length<=100000)(h:∀c∈n,c∈SG):zaG_.val [.str n]=.ok (.bl xj):=by
 refine zD_ rfl rfl λpn hp=>?_
 unfold zb7_
 exists hp
 rw[xcompN (f:=λ_:Nat=>xj) (o:=.bl) n rfl (by exists zfZ_;rfl) (zao_ _ _) (λc hc=>by exact sg_in (h c hc)) hl]
 exists zkw_ n (p:=λ_=>xj) (λ_ _=>rfl)
 fail "q"
theorem zhf_ {A:Ak}(h:OkA A):zZ_.val [.fz (AO A)]=.ok .non:=by
 have key:∀(ns:Jy) (c:Bool),z9_.val [.fz (AO A)]=.ok (LS .str ns)->(∀n∈ns,OkN n)->eqD xj (.str (ns.headD [])) (.str (ns.getLastD []))=.ok (.bl c)->ixA (LS .str ns) (.int 0)=.ok (.str (ns.headD []))->ixA (LS .str ns) (.int (-1))=.ok (.str (ns.getLastD []))->(c ||decide ((ns.length:Int)=1))=xj->zZ_.val [.fz (AO A)]=.ok .non:=λns c e gj hc h0 h1 fG=>by
  refine zD_ rfl rfl λpn hp=>?_
  unfold zbg_
  exists hp,zq_,e
  refine zc9_ (a:=[_,_]) (b:=[]) rfl (hp _) (λn hn=>?_) (λo=>?_)
  ·exists hp,zlK_ (gj n hn),zfU_
   exact⟨_,_,rfl,rfl,rfl⟩
  ·exists hp,h0,h1,hc,fG,zfU_
   fail "q"
 have e:=zfG_ h.md;have hm:=h.md
 revert e hm
 cases A.md with
 |no=>exact λe _=>key _ xk e (λn hn=>by rw[oE.mp hn];exact h.nm) (by rw[zcg_];simp) rfl rfl rfl|fi=>exact λe _=>key _ xk e (λn hn=>by rw[oE.mp hn];exact h.nm) (by rw[zcg_];simp) rfl rfl rfl|ma w n f g=>
  intro e hm;refine key _ xj e (λx hx=>?_) ?_ rfl rfl rfl
  ·rcases og.mp hx with rfl |hx
   ·exact h.nm
   ·rw[oE.mp hx];exact hm.2.1
  ·rw[zcg_]
   show Mq (D.bl (if xj=xj then !decide (A.dk=n)else _))=_
   rw[if_pos rfl,decide_eq_false (λz=>hm.2.2.1 z.symm)];rfl
theorem flen {α β:Type}{n:Nat}{f:α->List β}:∀(l:List α),(∀x,(f x).length<=n)->(l.flatMap f).length<=n*l.length
 |[],_=>by simp
 |x::l,h=>by rw[tE,nK,n6,wV];have:=flen l h;have:=h x;lia
theorem zpV_ {A:Ak}(h:OkA A):zaP_.val [.fz (AO A)]=.ok (LS F2 (A.pk.map (·.1)++midF A.md++A.od++A.su++A.wk.flatMap λw=>[w.1,w.2.1,w.2.2.2])):=by
 have h1:=h.pl;have h2:=h.ol;have h3:=h.wl;have h4:=h.sl;have h5:(midF A.md).length<=2:=by unfold midF;split<;>simp
 refine zD_ rfl rfl λpn hp=>?_
 unfold zbN_
 exists hp,zq_
 rw[xcompN (f:=λp:Pk=>p.1) (o:=F2) A.pk rfl (by exists zq_,zbz_;rfl) (zao_ _ _) (λc hc=>rfl) (by lia)]
 exists hp,zq_,zju_ h.md,zbT_,zfk_,zbE_,zew_ (g:=F2) (a:=A.pk.map (·.1)) (b:=midF A.md) (by rw[nN];lia),zew_ (g:=F2) (a:=A.pk.map (·.1)++midF A.md) (b:=A.od) (by rw[nK,nN];lia),zew_ (g:=F2) (a:=A.pk.map (·.1)++midF A.md++A.od) (b:=A.su) (by rw[nK,nK,nN];lia)
 generalize hs:A.pk.map (·.1)++midF A.md++A.od++A.su=s
 have d9:s.length<=20:=by rw[<- hs];simp;lia
 refine zcT_ (l:=A.wk) (enc:=λw=>[WK w]) (λd e=>∃o,e=[xg (.fz (AO A)),xg (LS F2 (s++d.flatMap λw=>[w.1,w.2.1,w.2.2.2])),o]) ⟨_,by rw[tS,pW]⟩ (λd x r e hl he=>?_) (λe he=>?_)
 ·obtain⟨o,rfl⟩:=he
  refine⟨_,by exists hp;rfl,?_⟩
  have e:extendF [LS F2 (s++d.flatMap λw=>[w.1,w.2.1,w.2.2.2]),.nd .lst [F2 x.1,F2 x.2.1,F2 x.2.2.2]]=.ok .non [_,_]:=zjH_ (b:=[x.1,x.2.1,x.2.2.2]) (by
   have:=flen (n:=3) (f:=λw:Wk=>[w.1,w.2.1,w.2.2.2]) d (λ_=>by simp)
   rw[hl]at h3;rw[nK]at h3 ⊢;simp only[n6,pf];lia)
  exists hp,ziT_,WK_0,WK_1,WK_3,zd6_,e
  exact⟨_,_,rfl,.inl ⟨.inl rfl,xg (WK x),by rw[sL];simp⟩⟩
 ·obtain⟨o,rfl⟩:=he
  exists hp
  fail "q"
theorem cpicks1 {A:Ak}(h:OkA A){sg:Int->Nat}(hs:∀c,sg c∈SG){p:Pk}(hk:OkK sg p):zaG_.val [.str p.2]=.ok (.bl xj)/\lenA [.str p.2]=.ok (.int (p.1.2-p.1.1+1)):=by
 obtain⟨⟨f1,f2,f3⟩,e⟩:=hk;have el:p.2.length=(p.1.2+1-p.1.1).toNat:=by rw[e,nN,zdI_]
 refine⟨zjs_ (by lia) (λc hc=>?_),?_⟩
 ·rw[e]at hc
  obtain⟨x,_,rfl⟩:=pJ.mp hc;exact hs x
 ·rw[lnS_ (by lia),el];congr 2;lia
def cl (f:Fd):List Int:=rngI f.1 (f.2+1-f.1).toNat
def PP (sg:Int->Nat)(c:Int):D:=.nd .tup [.str [112,105,99,107],.int c,.str [sg c]]
def KD (sg:Int->Nat)(ks:List Int):D:=DI .str (ks.map λc=>(c,[sg c]))
def adp (m:List Int)(c:Int):List Int:=if c∈m then m else m++[c]
def ddp (l:List Int):List Int:=l.foldl adp []
section
variable {sg:Int->Nat}
instance:Im (PP sg):=⟨λ_=>rfl⟩
theorem PP_0 (c:Int):ixA (PP sg c) (.int 0)=.ok (.str [112,105,99,107]):=rfl
theorem PP_1 (c:Int):ixA (PP sg c) (.int 1)=.ok (.int c):=rfl
theorem PP_2 (c:Int):ixA (PP sg c) (.int 2)=.ok (.str [sg c]):=rfl
theorem PP_vw (c:Int):(PP sg c).vw=PP sg c:=rfl
theorem zm3_ (ks:List Int)(c:Int):dgt (ks.map λc=>(c,[sg c])) c=if c∈ks then xg [sg c]else xh:=by
 induction ks with
 |nil=>rfl|cons k ks ih=>
  rw[nS,dgt];by_cases h:k=c
  ·subst h;rw[if_pos rfl,if_pos (by simp)]
  ·rw[if_neg h,ih]
   simp[rA h]
theorem ziC_ (l:List Int)(c:Int):ddp (l++[c])=adp (ddp l) c:=by unfold ddp;rw[List.foldl_append];rfl
theorem zks_ (m:List Int)(c:Int):(adp m c).length<=m.length+1:=by unfold adp;split<;>simp
theorem zeG_:∀(l m:List Int),(l.foldl adp m).length<=m.length+l.length
 |[],m=>by simp
 |c::l,m=>by have:=zeG_ l (adp m c);have:=zks_ m c;rw[uj,n6];lia
theorem zmc_ (l:List Int):(ddp l).length<=l.length:=by have:=zeG_ l [];rw[pf,wj]at this;exact this
theorem ziD_ {f:Fd}(h:OkFd f):(cl f).length<=36:=by unfold cl;rw[zdI_];obtain⟨a,b,c⟩:=h;lia
theorem flenM {α β:Type}{n:Nat}{f:α->List β}:∀(l:List α),(∀x∈l,(f x).length<=n)->(l.flatMap f).length<=n*l.length
 |[],_=>by simp
 |x::l,h=>by rw[tE,nK,n6,wV];have:=flenM l λy hy=>h y (nY _ hy);have:=h x nV;lia
theorem zkx_ (l:List Int):zipD [LS .int l,.str (l.map sg)]=.ok (l.map λc=>.nd .tup [.int c,.str [sg c]]):=by
 show Mq (((l.map D.int).zip (l.map sg)).map λq=>D.nd .tup [q.1,.str [q.2]])=_
 rw[List.zip_map',pF];rfl
theorem zha_ {A:Ak}(gm:A.pk.length<=8)(hk:∀p∈A.pk,OkK sg p):zar_.val [.fz (AO A)]=.ok (LS (PP sg) (A.pk.flatMap λp=>cl p.1)):=by
 refine zD_ rfl rfl λpn hp=>?_
 unfold zbp_
 exists hp,zq_,zbz_
 refine zcT_ (l:=A.pk) (enc:=λw=>[PK w]) (λd e=>∃o,e=[xg (.fz (AO A)),xg (LS (PP sg) (d.flatMap λp=>cl p.1)),o]) ⟨xh,rfl⟩ (λd x r e hl he=>?_) (λe he=>?_)
 ·obtain⟨o,rfl⟩:=he
  refine⟨_,by exists hp;rfl,?_⟩
  have hx:=hk x (by rw[hl];simp)
  have e1:x.2=(cl x.1).map sg:=hx.2;have hlen:(d.flatMap λp=>cl p.1).length<=36*d.length:=flenM d λy hy=>ziD_ (hk y (by rw[hl];simp[hy])).1
  have nF:=ziD_ hx.1;rw[hl,nK]at gm
  exists hp,zn0_
  rw[xcompN (f:=λc:Int=>c) (o:=PP sg) (T:=λc=>[.int c,.str [sg c]]) (cl x.1) rfl (by exists zn0_,PK_0,PK_1,zbn_,zm0_ hx.1,e1,zkx_;exact zkx_ _) (zlu_ _ _ _) (λc hc=>rfl) (by lia)]
  exists hp,sS,zjH_ (g:=PP sg) (a:=d.flatMap λp=>cl p.1) (b:=cl x.1) (by lia)
  exact⟨_,_,rfl,.inl ⟨.inl rfl,xg (PK x),by rw[sL];simp⟩⟩
 ·obtain⟨o,rfl⟩:=he
  exists hp
  fail "q"
theorem zgJ_ (cs:List Int)(hl:cs.length<=1000):zL_.val [.fz (LS (PP sg) cs)]=.ok (KD sg (ddp cs)):=by
 refine zD_ rfl rfl λpn hp=>?_
 unfold za6_
 exists hp
 refine zcT_ (l:=cs) (enc:=λw=>[PP sg w]) (λd e=>∃o,e=[xg (.fz (LS (PP sg) cs)),xg (KD sg (ddp d)),o]) ⟨xh,rfl⟩ (λd x r e cF he=>?_) (λe he=>?_)
 ·obtain⟨o,rfl⟩:=he
  refine⟨_,by exists hp;rfl,?_⟩
  have hlen:=zmc_ d;rw[cF,nK]at hl;rw[ziC_];have ek:eqD xj (.str [sg x]) (.str [sg x])=.ok (.bl xk):=by rw[zcg_];simp
  have ep:eqD xk (.str [112,105,99,107]) (.str [112,105,99,107])=.ok (.bl xj):=by rw[zcg_];simp
  by_cases hc:x∈ddp d
  ·have es:setdF [KD sg (ddp d),.int x,.str [sg x]]=_:=zkF_ (g:=.str) (v:=[sg x]) (w:=[sg x]) (by rw[zm3_,if_pos hc])
   rw[show adp (ddp d) x=ddp d from if_pos hc]
   have ik:isK "dict" (KD sg (ddp d))=xj:=rfl
   exists hp,PP_vw,PP_0,PP_1,PP_2,ep,es,ik,ek
   exact⟨_,_,rfl,.inl ⟨.inl rfl,xg (PP sg x),rfl⟩⟩
  ·have es:setdF [KD sg (ddp d),.int x,.str [sg x]]=_:=zm4_ (g:=.str) (v:=[sg x]) (by rw[zm3_,if_neg hc]) (by rw[nN];lia)
   have ik:isK "dict" (KD sg (ddp d))=xj:=rfl
   exists hp,PP_vw,PP_0,PP_1,PP_2,ep,es,ik,ek
   exact⟨_,_,rfl,.inl ⟨.inl rfl,xg (PP sg x),by unfold KD adp;rw[if_neg hc,oG];rfl⟩⟩
 ·obtain⟨o,rfl⟩:=he
  exists hp
  fail "q"
end
theorem KD_vw {sg:Int->Nat}(ks:List Int):(KD sg ks).vw=.fz (KD sg ks):=rfl
theorem zqb_ {sg:Int->Nat}(ks:List Int):isD xj (KD sg ks) .non=.ok (.bl xj):=rfl
theorem zgY_ {A:Ak}{sg:Int->Nat}(gm:A.pk.length<=8)(hk:∀p∈A.pk,OkK sg p):zL_.val [.fz (LS (PP sg) (A.pk.flatMap λp=>cl p.1))]=.ok (KD sg (ddp (A.pk.flatMap λp=>cl p.1))):=
 zgJ_ _ (by have:(A.pk.flatMap λp=>cl p.1).length<=36*A.pk.length:=flenM A.pk λy hy=>ziD_ (hk y hy).1;lia)
theorem zhd_ {A:Ak}(h:OkA A):zaq_.val [.fz (AO A)]=.ok .non:=by
 obtain⟨sg,hs,hk⟩:=h.pk;refine zD_ rfl rfl λpn hp=>?_
 unfold zbj_
 exists hp,zq_,zbz_
 refine zc9_ (a:=[_]) (b:=[]) rfl (hp _) (λp gX=>?_) (λo=>?_)
 ·obtain⟨e1,e2⟩:=cpicks1 h hs (hk p gX)
  exists hp,zn0_,PK_0,PK_1,zbn_,e1,e2,zdH_,zP_,decide_true,zfU_
  exact⟨_,_,rfl,rfl,rfl⟩
 ·exists hp,zq_,zha_ h.pl hk,zgY_ h.pl hk,zqb_,zfU_
  fail "q"
theorem zkE_ {A:Ak}(h:OkA A):zs_.val [.fz (AO A)]=.ok .non:=by
 have e:=zju_ h.md;have hm:=h.md
 revert e hm
 cases A.md with
 |no=>
  intro e _;refine zD_ rfl rfl λpn hp=>?_
  unfold zl_;have e0:trD (LS F2 [])=.ok xk:=rfl
  exists hp,zq_,e,midF
  have:trD (.fz (LS F2 []))=.ok xk:=rfl;exact⟨_,_,rfl,.inr ⟨rfl,by first |rfl |trivial⟩⟩
 |fi f=>
  intro e _;refine zD_ rfl rfl λpn hp=>?_
  unfold zl_;have e0:ixA (LS F2 [f]) (.int 0)=.ok (F2 f):=rfl;have e1:ixA (LS F2 [f]) (.int (-1))=.ok (F2 f):=rfl
  exists hp,zq_,e,midF,e0,e1,zbn_,zdH_,zP_,decide_true,zfU_
  exact⟨_,_,rfl,.inr ⟨rfl,by first |rfl |trivial⟩⟩
 |ma w n f g=>
  intro e hm;refine zD_ rfl rfl λpn hp=>?_
  unfold zl_;have e0:ixA (LS F2 [f,g]) (.int 0)=.ok (F2 f):=rfl;have e1:ixA (LS F2 [f,g]) (.int (-1))=.ok (F2 g):=rfl
  exists hp,zq_,e,midF,e0,e1,zbn_,zdH_,zP_,decide_eq_true (show f.2-f.1+1=g.2-g.1+1 by have:=hm.2.2.2.2.2;lia),zfU_
  exact⟨_,_,rfl,.inr ⟨rfl,by first |rfl |trivial⟩⟩
theorem zk4_ {v m:Int}(h:1<=v/\v<=m):zaC_.val [.int v,.int m]=.ok (.bl xj):=by
 refine zD_ rfl rfl λpn hp=>?_
 unfold zb8_
 exists hp,zdn_,chD,decide_eq_true h.1,decide_eq_true h.2
 fail "q"
def ld (ws:List Fd):List (Int×Fd):=ws.map λw=>(w.2,w)
theorem zmC_ {ws:List Fd}{i:Int}(h:∀w∈ws,w.2≠i):dgt (ld ws) i=xh:=by
 induction ws with
 |nil=>rfl|cons w ws ih=>unfold ld at ih ⊢;rw[nS,dgt,if_neg (h w nV)];exact ih λx hx=>h x (nY _ hx)
theorem zmK_ {ws:List Fd}(hp:ws.Pairwise λa b=>a.2<b.2){w:Fd}(h:w∈ws):dgt (ld ws) w.2=xg w:=by
 induction ws with
 |nil=>cases h|cons x ws ih=>
  rw[tj]at hp;unfold ld at ih ⊢;rw[nS,dgt];rcases og.mp h with rfl |h
  ·rw[if_pos rfl]
  ·rw[if_neg (by have:=hp.1 w h;lia)];exact ih hp.2 h
theorem ziR_ {ws:List Fd}(hl:ws.length<=9)(h1:∀w∈ws,1<=w.1/\w.1<=40/\1<=w.2/\w.2<=36)(h2:ws.Pairwise λa b=>a.2<b.2):zaM_.val [.fz (LS F2 ws)]=.ok (LS F2 ws):=by
 refine zD_ rfl rfl λpn hp=>?_
 unfold zbP_
 exists hp
 refine zc9_ (a:=[_]) (b:=[_]) rfl (hp _) (λw hw=>?_) (λo=>?_)
 ·obtain⟨a1,a2,a3,a4⟩:=h1 w hw
  exists hp,zbn_,F2_0,F2_1,zk4_ ⟨a1,a2⟩,zk4_ ⟨a3,a4⟩
  exact⟨_,_,rfl,rfl,rfl⟩
 ·exists hp
  refine zcT_ (l:=ws) (enc:=λw=>[F2 w]) (λd e=>∃o,e=[xg (.fz (LS F2 ws)),o,xg (DI F2 (ld d))]) ⟨_,rfl⟩ (λd x r e cF he=>?_) (λe he=>?_)
  ·obtain⟨o,rfl⟩:=he
   refine⟨_,by exists hp;rfl,?_⟩
   have hn:dgt (ld d) x.2=xh:=zmC_ λw hw=>by
    rw[cF,List.pairwise_append]at h2;have:=h2.2.2 w hw x nV;lia
   rw[cF,nK]at hl
   exists hp,zbn_,F2_1,hn,Option.isSome_none
   rw[zo5_ (d:=F2 x) (a:=.int x.2) rfl (zd6_ x) rfl rfl rfl (zoY_ (g:=F2) (m:=ld d) (i:=x.2) (v:=x) (by unfold ld;rw[nN];lia))]
   exists hp
   refine⟨_,_,rfl,.inl ⟨.inl rfl,xg (F2 x),?_⟩⟩;rw[(zei_ (g:=F2) (ld d)).1 hn];unfold ld;rw[oG];rfl
  ·obtain⟨o,rfl⟩:=he
   exists hp
   have es:srtI ((ld ws).map (·.1))=.ok (.nd .lst (ws.map λw=>.int w.2)):=by
    have e0:(ld ws).map (·.1)=ws.map (·.2):=by unfold ld;rw[pF];rfl
    unfold srtI;rw[e0,Mo.grd_ok (by rw[nN];lia),<- zee_ zmp_ (ws:=ws.map (·.2)) (List.Perm.refl _) ?_,pF]
    ·rfl
    ·rw[uO]
     exact h2.imp λ{a b} h=>by show decide _=xk;exact decide_eq_false (by lia)
   rw[xcompN (f:=λw:Fd=>w) (o:=F2) (T:=λw=>[.int w.2]) (items:=ws.map λw=>.int w.2) ws rfl (by exists es;rfl) (zao_ _ _) (λc hc=>?_) (by lia)]
   ·exists hp,sS
    fail "q"
   ·show ixA (.fz (DI F2 (ld ws))) (.int c.2)=_
    rw[fz_ix,di_ix,zmK_ h2 hc];rfl
theorem rf_F2 (n:Nat)(w:Fd):eqT (n+1) (F2 w) (F2 w)=xg xj:=zoe_ λd hd=>by
 rcases og.mp hd with rfl |hd
 ·rw[zer_,decide_eq_true rfl]
 ·rw[oE.mp hd,zer_,decide_eq_true rfl]
theorem zpL_ {ws:List Fd}(hl:ws.length<=9)(h1:∀w∈ws,1<=w.1/\w.1<=40/\1<=w.2/\w.2<=36)(h2:ws.Pairwise λa b=>a.2<b.2):zbM_.val [.fz (LS F2 ws)]=.ok (.bl xj):=by
 refine zD_ rfl rfl λpn hp=>?_
 unfold zc3_;have e:eqD xk (LS F2 ws) (LS F2 ws)=.ok (.bl xj):=zco_ (c:=xj) (zpS_ (n:=11) λd hd=>by obtain⟨w,_,rfl⟩:=pJ.mp hd;exact rf_F2 10 w)
 exists hp,ziR_ hl h1 h2,e
 fail "q"
theorem zl1_ {A:Ak}(h:OkA A):zW_.val [.fz (AO A)]=.ok .non:=by
 obtain⟨b1,b2,b3⟩:=h.br;obtain⟨g1,g2⟩:=h.fg;refine zD_ rfl rfl λpn hp=>?_
 unfold zas_
 exists hp,zq_,zd5_,zbT_,zc5_,zf4_,zdn_,chD,decide_eq_true b1,decide_eq_true b2,decide_eq_true b3,decide_eq_true g1,decide_eq_true g2,zpL_ h.bl h.bd.1 h.bd.2,zfU_
 fail "q"
theorem zhw_ (l:List Wk):enumD [LS WK l]=.ok ((enumL l).map λq=>.nd .tup [.int q.1,WK q.2]):=by
 show Mq ((enumL (l.map WK)).map λq=>D.nd .tup [.int q.1,q.2])=_
 unfold enumL;rw[nN,List.zip_map_right,pF,pF,pF];rfl
theorem zk2_ {A:Ak}(h:OkA A)(k:Int):zau_.val [.fz (AO A),.int k]=.ok (LS F2 (kp A k)):=by
 have h1:=h.pl;have h2:=h.ol;have h3:=h.wl;have h5:((midF A.md).take 1).length<=1:=by rw[oJ];lia
 refine zD_ rfl rfl λpn hp=>?_
 unfold zbs_
 exists hp,zq_
 rw[xcompN (f:=λp:Pk=>p.1) (o:=F2) A.pk rfl (by exists zq_,zbz_;rfl) (zao_ _ _) (λc hc=>rfl) (by lia)]
 exists hp,zq_,zju_ h.md,zbT_,zbE_,zbR_ (show(0:Int)<=1 by lia),show(1:Int).toNat=1 from rfl,zew_ (g:=F2) (a:=A.pk.map (·.1)) (b:=(midF A.md).take 1) (by rw[nN];lia),zew_ (g:=F2) (a:=A.pk.map (·.1)++(midF A.md).take 1) (b:=A.od) (by rw[nK,nN];lia),zhw_
 unfold kp
 generalize hs:A.pk.map (·.1)++(midF A.md).take 1++A.od=s
 have d9:s.length<=15:=by rw[<- hs];simp;lia
 refine zcT_ (l:=enumL A.wk) (enc:=λq=>[.int q.1,WK q.2]) (λd e=>∃o o',e=[xg (.fz (AO A)),xg (.int k),xg (LS F2 (s++d.flatMap (gk k))),o,o']) ⟨xh,xh,by rw[tS,pW]⟩ (λd x r e hl he=>?_) (λe he=>?_)
 ·obtain⟨o,o',rfl⟩:=he
  refine⟨_,by exists hp;rfl,?_⟩
  have hlen:(d.flatMap (gk k)).length<=3*d.length:=flenM d λq _=>by unfold gk;split<;>split<;>simp
  have hle:d.length<=4:=by have:=zbu_ A.wk;rw[hl,nK]at this;lia
  generalize hd:s++d.flatMap (gk k)=m
  have eB:m.length<=30:=by rw[<- hd,nK];lia
  rw[sL,<- pD,hd,tE,tS,pW];have ea:appendF [LS F2 m,F2 x.2.1]=_:=ziA_ (g:=F2) (l:=m) (x:=x.2.1) (by lia)
  have eb:∀m:List Fd,m.length<=31->extendF [LS F2 m,.nd .lst [F2 x.2.2.1,F2 x.2.2.2.2]]=.ok .non [LS F2 (m++[x.2.2.1,x.2.2.2.2]),_]:=λm hm=>zjH_ (b:=[x.2.2.1,x.2.2.2.2]) (by simp only[n6,pf];lia)
  unfold gk;by_cases c1:x.1=k
  ·have c2:x.1<=k:=by lia
   rw[if_pos c1,if_pos c2]
   exists hp,ziT_,WK_0,WK_1,WK_3,zbn_,zd6_,zP_,decide_eq_true c1,decide_eq_true c2,eb m (by lia)
   exact⟨_,_,rfl,.inl ⟨.inl rfl,xg (.int x.1),xg (WK x.2),rfl⟩⟩
  ·rw[if_neg c1]
   by_cases c2:x.1<=k
   ·rw[if_pos c2]
    exists hp,ziT_,WK_0,WK_1,WK_3,zbn_,zd6_,zP_,decide_eq_false c1,decide_eq_true c2,ea,eb (m++[x.2.1]) (by simp;lia)
    exact⟨_,_,rfl,.inl ⟨.inl rfl,xg (.int x.1),xg (WK x.2),by simp⟩⟩
   ·rw[if_neg c2]
    exists hp,ziT_,WK_0,WK_1,WK_3,zbn_,zd6_,zP_,decide_eq_false c1,decide_eq_false c2,ea
    exact⟨_,_,rfl,.inl ⟨.inl rfl,xg (.int x.1),xg (WK x.2),by simp⟩⟩
 ·obtain⟨o,o',rfl⟩:=he
  exists hp
  fail "q"
theorem ziH_ {w:List Nat}(h:w∈WWo):inA xk (.str w) (.nd .ktup (WWo.map .str))=.ok (.bl xj):=by
 unfold WWo at h;simp only[og,pZ,or_false]at h;rcases h with rfl |rfl |rfl<;>rfl
theorem zlS_ {A:Ak}(h:OkA A):zat_.val [.fz (AO A)]=.ok .non:=by
 refine zD_ rfl rfl λpn hp=>?_
 unfold zbt_
 exists hp,zq_,zbE_,zhw_
 refine zcT_ (l:=enumL A.wk) (enc:=λq=>[.int q.1,WK q.2]) (λd e=>∃a b o,e=[xg (.fz (AO A)),a,b,o]) ⟨xh,xh,xh,rfl⟩ (λd x r e hl he=>?_) (λe he=>?_)
 ·obtain⟨o1,o2,o3,rfl⟩:=he
  refine⟨_,by exists hp;rfl,?_⟩
  have hx:x∈enumL A.wk:=by rw[hl];simp
  have hw:x.2∈A.wk:=by obtain⟨i,_,_,e2⟩:=zcL_ hx;exact p8 e2
  have ew:∀env,X.ev gi env (.gt "WORK_WORDS" WWo)=.ok (.nd .ktup (WWo.map .str)):=λenv=>xv_gt _ _ (by decide)
  have e2:=ziH_ (h.wk x.2 hw).2.2.2;unfold WWo at ew e2;simp only[nS,qg]at e2
  exists hp,ziT_,WK_2,zq_,zk2_ h,ew,e2,zfU_
  refine zc9_ (a:=[_,_,_]) (b:=[]) rfl (hp _) (λf hf=>?_) (λo=>?_)
  ·exists hp,ziT_,WK_0,zbn_,zi6_,h.ft x hx f hf,zfU_
   exact⟨_,_,rfl,rfl,rfl⟩
  ·exists hp
   exact⟨_,_,rfl,.inl ⟨.inl rfl,_,_,_,rfl⟩⟩
 ·obtain⟨a,b,o,rfl⟩:=he
  exists hp
  fail "q"
theorem zjv_ {A:Ak}(h:OkA A):zac_.val [.fz (AO A)]=.ok .non:=by
 refine zD_ rfl rfl λpn hp=>?_
 unfold za2_
 exists hp,zq_,zm7_ h,zkl_ h.md,zhf_ h,zpV_ h
 refine zc9_ (a:=[_]) (b:=[]) rfl (hp _) (λf hf=>?_) (λo=>?_)
 ·have hF:OkFd f:=by
   obtain⟨sg,_,hk⟩:=h.pk;have hm:=h.md;rcases oP.mp hf with hf |hf
   ·rcases oP.mp hf with hf |hf
    ·rcases oP.mp hf with hf |hf
     ·rcases oP.mp hf with hf |hf
      ·obtain⟨p,hp,rfl⟩:=pJ.mp hf;exact(hk p hp).1
      ·revert hm hf
       cases A.md with
       |no=>intro _ hf;cases hf
       |fi g=>intro hm hf;rw[oE.mp hf];exact hm
       |ma w n f g=>
        intro hm hf;rcases og.mp hf with rfl |hf
        ·exact hm.2.2.2.1
        ·rw[oE.mp hf];exact hm.2.2.2.2.1
     ·exact h.od f hf
    ·exact h.su f hf
   ·obtain⟨w,hw,hf⟩:=uY.mp hf
    obtain⟨a,b,c,_⟩:=h.wk w hw;simp only[og,pZ,or_false]at hf;rcases hf with rfl |rfl |rfl
    ·exact a
    ·exact b
    ·exact c
  exists hp,zbn_,F2_0,F2_1,fieldb hF,zfU_
  exact⟨_,_,rfl,rfl,rfl⟩
 ·exists hp,zq_,zhd_ h,zkE_ h,zl1_ h,zlS_ h
  fail "q"
theorem zjE_ {α:Type}{g:α->D}[Im g](l:List α):zbK_.val [.fz (LS g l)]=.ok (LS g l):=by
 refine zD_ rfl rfl λpn hp=>?_
 unfold zcW_;have e:isD xk (LS g l) .non=.ok (.bl xk):=rfl
 exists hp,e
 fail "q"
def AL (A:Ak):D:=.nd .lst [.str A.dk,.fz (LS PK A.pk),MD A.md,.fz (LS F2 A.od),LS WK A.wk,.int A.br,.fz (LS F2 A.su),.int A.fg,.fz (LS F2 A.bd)]
theorem zkd_ (m:Md):(MD m).imm=xj:=by cases m<;>rfl
theorem znp_ (m:Md):(MD m).vw=MD m:=by unfold D.vw;rw[zkd_];rfl
theorem znx_ (m:Md):(MD m).new=xj:=zbr_ _ (zkd_ m)
theorem zlG_ {A:Ak}(h:OkA A):∃ds,zu_ [.nd (.obj "Asking" []) [],.str A.dk,.fz (LS PK A.pk),MD A.md,.fz (LS F2 A.od),.fz (LS WK A.wk),.int A.br,.fz (LS F2 A.su),.int A.fg,.fz (LS F2 A.bd)]=.ok .non (AO A::ds):=by
 have mv:(MD A.md).vw=MD A.md:=znp_ _;have mn:(MD A.md).new=xj:=znx_ _;have main:∀pn:Nat->Bool,∃e,S.runs gi pn zn_ [xg (.nd (.obj "Asking" []) []),xg (.str A.dk),xg (.fz (LS PK A.pk)),xg (MD A.md),xg (.fz (LS F2 A.od)),xg (.fz (LS WK A.wk)),xg (.int A.br),xg (.fz (LS F2 A.su)),xg (.int A.fg),xg (.fz (LS F2 A.bd))]=.ok .nx (xg (AO A)::e):=λpn=>by
  unfold zn_;rw[S.runs,S.run,zcq_ (d:=.str A.dk) rfl rfl rfl (by decide) (by decide) (by decide),zcP_]
  rw[S.runs,S.run,zcq_ (d:=LS PK A.pk) (by exists ze0_) za9_ rfl (by decide) (by decide) (by decide),zcP_]
  rw[S.runs,S.run,zcq_ (d:=MD A.md) (by exists mv) mn rfl (by decide) (by decide) (by decide),zcP_]
  rw[S.runs,S.run,zcq_ (d:=LS F2 A.od) (by exists ze0_) za9_ rfl (by decide) (by decide) (by decide),zcP_]
  rw[S.runs,S.run,zcq_ (d:=LS WK A.wk) (by exists zjE_) za9_ rfl (by decide) (by decide) (by decide),zcP_]
  rw[S.runs,S.run,zcq_ (d:=.int A.br) rfl rfl rfl (by decide) (by decide) (by decide),zcP_]
  rw[S.runs,S.run,zcq_ (d:=LS F2 A.su) (by exists zjE_) za9_ rfl (by decide) (by decide) (by decide),zcP_]
  rw[S.runs,S.run,zcq_ (d:=.int A.fg) rfl rfl rfl (by decide) (by decide) (by decide),zcP_]
  rw[S.runs,S.run,zcq_ (d:=LS F2 A.bd) (by exists zjE_) za9_ rfl (by decide) (by decide) (by decide),zcP_]
  have e0:∀l,getE (xg (D.nd (.obj "Asking" ["deck", "picks", "middle", "order", "works", "breaks", "sums", "figures", "board"]) (aFs A))::l) 0=.ok (.fz (AO A)):=λl=>rfl
  unfold aFs at e0
  exists e0,zq_,zjv_ h
  exact⟨_,rfl⟩
 obtain⟨e,he⟩:=main (pins [.nd (.obj "Asking" []) [],.str A.dk,.fz (LS PK A.pk),MD A.md,.fz (LS F2 A.od),.fz (LS WK A.wk),.int A.br,.fz (LS F2 A.su),.int A.fg,.fz (LS F2 A.bd)]);exact⟨_,zoF_ (G:=gi) (n:=10) (m:=0) (body:=zn_) (ds:=[.nd (.obj "Asking" []) [],.str A.dk,.fz (LS PK A.pk),MD A.md,.fz (LS F2 A.od),.fz (LS WK A.wk),.int A.br,.fz (LS F2 A.su),.int A.fg,.fz (LS F2 A.bd)]) rfl he⟩
theorem AL_2v (A:Ak):ixA (AL A) (.int 2)=.ok (MD A.md).vw:=rfl
theorem zm6_ {A:Ak}(h:OkA A):zbf_.val [.fz (AL A)]=.ok (AO A):=by
 refine zD_ rfl rfl λpn hp=>?_
 obtain⟨ds,hi⟩:=zlG_ h;have mv:(MD A.md).vw=MD A.md:=znp_ _;have e2:ixA (AL A) (.int 2)=.ok (MD A.md):=by rw[AL_2v,mv]
 have em:makeD zu_ "Asking" [.str A.dk,LS PK A.pk,MD A.md,LS F2 A.od,LS WK A.wk,.int A.br,LS F2 A.su,.int A.fg,LS F2 A.bd]=.ok (AO A):=by
  unfold makeD;simp only[nS,qg,ls_vw,zmt_,zka_,mv,hi]
 have ew:(D.fz (AL A)).vw=.fz (AL A):=rfl;have en:(AO A).new=xj:=by
  show D.news (aFs A)=xj
  unfold aFs;simp only[nw_c,nw_0,zgX_,zgD_,za9_,znx_,tJ]
 have e0:ixA (AL A) (.int 0)=.ok (.str A.dk):=rfl;have e1:ixA (AL A) (.int 1)=.ok (.fz (LS PK A.pk)):=rfl;have e3:ixA (AL A) (.int 3)=.ok (.fz (LS F2 A.od)):=rfl;have e4:ixA (AL A) (.int 4)=.ok (.fz (LS WK A.wk)):=rfl;have e5:ixA (AL A) (.int 5)=.ok (.int A.br):=rfl;have e6:ixA (AL A) (.int 6)=.ok (.fz (LS F2 A.su)):=rfl;have e7:ixA (AL A) (.int 7)=.ok (.int A.fg):=rfl;have e8:ixA (AL A) (.int 8)=.ok (.fz (LS F2 A.bd)):=rfl;unfold zci_
 exists hp,ew,e0,e1,e2,e3,e4,e5,e6,e7,e8,em,en
 fail "q"
theorem rg1 {j:Int}(h0:0<=j)(h:j<=100000):rng1D [D.int j]=Mq ((oU j.toNat).map λi:Nat=>D.int (0+(i:Int))):=by
 unfold rng1D;dsimp only;rw[VI.vd_int,zbb_,Mo.grd_ok ⟨by lia,by lia⟩]
 unfold rngI;rw[pF];rfl
section
variable (ns:List Int)
theorem zlT_ {k:Int}(h0:0<=k)(h1:k<=1000):∃c,zb_.val [scr ns,.int k]=.ok (.int c):=by
 by_cases hk:k<(ns.length:Int)
 ·refine⟨ns.getD k.toNat 0,zD_ rfl rfl λpn hp=>?_⟩
  unfold zaB_
  exists hp,zeF_,decide_eq_true hk,VI.vd_ix h0 hk
  fail "q"
 ·by_cases hl:(0:Int)<(ns.length:Int)
  ·have m0:=qm (k*7) (show(ns.length:Int)≠0 by lia)
   have m1:=pU (k*7) hl
   generalize hx:ns.getD (k*7 % (ns.length:Int)).toNat 0=x
   refine⟨(x*48271+k*7919) % 2147483647*((x*48271+k*7919) % 2147483647) % 2147483629,zD_ rfl rfl λpn hp=>?_⟩
   unfold zaB_;have e1:ixA (scr ns) (.int (k*7 % (ns.length:Int)))=.ok (.int x):=by rw[VI.vd_ix m0 m1,hx]
   have e2:modD (.int (k*7)) (.int (ns.length:Int))=.ok (.int (k*7 % (ns.length:Int))):=VI.vd_mod hl
   generalize hy:(x*48271+k*7919) % 2147483647=y
   exists hp,zeF_,decide_eq_false hk,decide_eq_true hl,e1,e2,hy,zcR_ (i:=y) (j:=y) (by lia) (by lia)
   fail "q"
  ·refine⟨(k*7919+5)*(k*7919+5) % 2147483629,zD_ rfl rfl λpn hp=>?_⟩
   unfold zaB_
   exists hp,zeF_,decide_eq_false hk,decide_eq_false hl,zcR_ (i:=k*7919+5) (j:=k*7919+5) (by lia) (by lia)
   fail "q"
def cel (k:Int):Int:=match zb_.val [scr ns,.int k]with |.ok (.int c)=>c |_=>0
theorem zQ_ {k:Int}(h0:0<=k)(h1:k<=1000):zb_.val [scr ns,.int k]=.ok (.int (cel ns k)):=by
 obtain⟨c,e⟩:=zlT_ ns h0 h1;unfold cel;rw[e]
end
theorem zaR_ (c b:Int):∃f:Fd,zU_.val [.int c,.int b]=.ok (F2 f)/\b<=f.1/\f.1<=f.2/\f.2<=b+4/\f.2<=f.1+2:=by
 have hm:0<min 3 (5-c % 5):=by lia
 have k0:=qm (c / 5) (show min 3 (5-c % 5)≠0 by lia)
 have k1:=pU (c / 5) hm;refine⟨(b+c % 5,b+c % 5+c / 5 % min 3 (5-c % 5)),zD_ rfl rfl λpn hp=>?_,by show b<=b+c % 5;lia,by show b+c % 5<=b+c % 5+_;lia,by show b+c % 5+_<=b+4;lia,by show b+c % 5+_<=b+c % 5+2;lia⟩
 unfold zbH_
 exists hp,VI.vd_mod hm
 fail "q"
theorem zpn_ {i:Int}(h0:0<=i)(h1:i<37):∃s,s∈SG/\ixA (.str SG) (.int i)=.ok (.str [s]):=by
 obtain⟨s,e,hs⟩:=zdJ_ (xs:=SG) h0 (show i<(SG.length:Int)from h1)
 refine⟨s,hs,?_⟩;show Mo.lim SG.length (Mo.opt ((atI SG i).map λc=>D.str [c]))=_
 rw[Mo.lim_ok (by decide),e];rfl
theorem zjo_ (x:Int):∃a b c:Nat,zaO_.val [.int x]=.ok (LS .str [[a],[b],[c]])/\a∈SG/\b∈SG/\c∈SG:=by
 obtain⟨a,ha,ea⟩:=zpn_ (i:=x % 37) (by lia) (by lia)
 obtain⟨b,hb,eb⟩:=zpn_ (i:=(x % 37+1+x / 37 % 36) % 37) (by lia) (by lia)
 obtain⟨c,hc,ec⟩:=zpn_ (i:=((x % 37+1+x / 37 % 36) % 37+1+x / 1332 % 36) % 37) (by lia) (by lia)
 refine⟨a,b,c,zD_ rfl rfl λpn hp=>?_,ha,hb,hc⟩
 unfold zbX_;unfold SG at ea eb ec
 exists hp,ea,eb,ec
 fail "q"
theorem zjh_ {α:Type}(xs:List α)(i k:Nat)(h:i<=xs.length):cutG xs (xg (i:Int)) (xg ((i:Int)+k))=(xs.drop i).take k:=by
 have e:cutG xs (xg (i:Int)) (xg ((i:Int)+k))=(xs.drop i).take (min (i+k) xs.length-i):=by
  unfold cutG HT.sIx;simp only[];rw[if_neg (by lia),if_neg (by lia),show min ((i:Int)+k).toNat xs.length=min (i+k) xs.length by lia,show min (i:Int).toNat xs.length=i by lia]
 rw[e];by_cases z:i+k<=xs.length
 ·congr 1;lia
 ·rw[rg (by rw[pz];lia),rg (by rw[pz];lia)]
def LY:List Nat:=Qm2
theorem zd8_ (x:Int):∃a b:List Nat,zad_.val [.int x]=.ok (LS .str [a,b])/\OkN a/\OkN b/\b≠a/\b.length=a.length:=by
 obtain⟨i,hi⟩:=q9 (show 0<=x % 22 by lia)
 obtain⟨j,hj⟩:=q9 (show 0<=x / 22 % 4 by lia)
 generalize ho:(LY.drop i).take (1+j)=one
 have gY:one.length=1+j:=by rw[<- ho,oJ,pz];show min (1+j) (25-i)=_;lia
 have gp:∀c∈one,c∈LY:=λc hc=>by rw[<- ho]at hc;exact qv (pV hc)
 have s1:slA (.str LY) (xg (x % 22)) (xg (x % 22+1+x / 22 % 4))=.ok (.str one):=by
  show Mo.lim LY.length (Mq (D.str (cutG LY _ _)))=_
  rw[Mo.lim_ok (by decide),hi,hj,show((i:Int)+1+j)=(i:Int)+((1+j:Nat):Int) by lia,zjh_ LY i (1+j) (by show i<=25;lia),ho]
 have jo:(0:Int)<(one.length:Int):=by lia
 have a0:=qm (x / 88) (show(one.length:Int)≠0 by lia)
 have a1:=pU (x / 88) jo;obtain⟨t,ht⟩:=q9 a0;have d7:t<one.length:=by lia
 have e2:modD (.int (x / 88)) (.int (one.length:Int))=.ok (.int (x / 88 % (one.length:Int))):=VI.vd_mod jo;have s2:slA (.str one) xh (xg (t:Int))=.ok (.str (one.take t)):=by
  show Mo.lim one.length (Mq (D.str (cutG one _ _)))=_
  rw[Mo.lim_ok (by lia),zbR_ (by lia),Int.toNat_natCast]
 have s3:slA (.str one) (xg ((t:Int)+1)) xh=.ok (.str (one.drop (t+1))):=by
  show Mo.lim one.length (Mq (D.str (cutG one _ _)))=_
  rw[Mo.lim_ok (by lia),zcK_ (by lia),show((t:Int)+1).toNat=t+1 by lia]
 have s4:addA (.str (one.take t)) (.str [122])=.ok (.str (one.take t++[122])):=by
  show Mo.lim _ _=_
  rw[Mo.lim_ok (by rw[oJ];simp;lia)]
 have s5:addA (.str (one.take t++[122])) (.str (one.drop (t+1)))=.ok (.str (one.take t++[122]++one.drop (t+1))):=by
  show Mo.lim _ _=_
  rw[Mo.lim_ok (by simp;lia)]
 have lM:∀c∈LY,c∈LT:=by decide
 have h1:OkN one:=⟨by lia,by lia,λc hc=>lM c (gp c hc)⟩
 have h2:OkN (one.take t++[122]++one.drop (t+1)):=⟨by simp;lia,by simp;lia,λc hc=>by
  rcases oP.mp hc with hc |hc
  ·rcases oP.mp hc with hc |hc
   ·exact h1.2.2 c (pV hc)
   ·rw[oE.mp hc];decide
  ·exact h1.2.2 c (qv hc)⟩
 have aP:one.take t++[122]++one.drop (t+1)≠one:=λz=>by
  have e1:(one.take t++[122]++one.drop (t+1))[t]?=xg 122:=by
   rw[pD,oX (by rw[oJ];lia),oJ,ve (by lia),uh];rfl
  rw[z]at e1;have:=gp 122 (p8 e1);exact absurd this (by decide)
 have hle:(one.take t++[122]++one.drop (t+1)).length=one.length:=by simp;lia
 unfold LY at s1;by_cases c:x / 352 % 2=1
 ·refine⟨one.take t++[122]++one.drop (t+1),one,zD_ rfl rfl λpn hp=>?_,h2,h1,aP.symm,hle.symm⟩
  unfold zaN_
  exists hp,s1,lnS_ (show one.length<=100000 by lia),e2,ht,s2,s3,s4,s5,zP_,decide_eq_true c
  fail "q"
 ·refine⟨one,one.take t++[122]++one.drop (t+1),zD_ rfl rfl λpn hp=>?_,h1,h2,aP,hle⟩
  unfold zaN_
  exists hp,s1,lnS_ (show one.length<=100000 by lia),e2,ht,s2,s3,s4,s5,zP_,decide_eq_false c
  fail "q"
theorem znL_ (x:Int):∃a b:List Nat,zad_.val [.int x]=.ok (LS .str [a,b])/\OkN a/\OkN b/\b≠a:=let⟨a,b,e,h1,h2,h3,_⟩:=zd8_ x;⟨a,b,e,h1,h2,h3⟩
theorem zgU_ {n m:Nat}{body:List S}{ds:List D}{d:D}{e:VI.Env}(hl:ds.length=n)(hc:D.colds ds=xj)(h:S.runs gi (pins ds) body (ds.map xg++ou m xh)=.ok (.rt d) e):fnOf gi n m body ds=.ok d ds:=by
 unfold fnOf;rw[if_pos hl,h];show Mr.ok d (outs ds e)=_
 rw[za4_ hc]
def GM (m:List (Int×List Nat)):Prop:=∀q∈m,∃s,s∈SG/\q.2=[s]
def Has (m:List (Int×List Nat))(f:Int)(t:Jx):Prop:=∀(i:Nat) s,t[i]?=xg s->dgt m (f+(i:Int))=xg [s]
def Le (m m':List (Int×List Nat)):Prop:=∀i v,dgt m i=xg v->dgt m' i=xg v
theorem zfF_:∀{m:List (Int×List Nat)}{i:Int}{v:List Nat},dgt m i=xg v->(i,v)∈m
 |q::m,i,v,h=>by
  rw[dgt]at h;split at h
  ·rename_i e;cases h;rw[<- e];exact nV
  ·exact nY _ (zfF_ h)
theorem zhK_ {m:List (Int×List Nat)}{i k:Int}{v w:List Nat}(h:dgt m i=xg v):dgt (m++[(k,w)]) i=xg v:=by
 induction m with
 |nil=>cases h|cons q m ih=>
  rw[dgt]at h;rw[qa,dgt];split
  ·rename_i e;rw[if_pos e]at h;exact h
  ·rename_i e;rw[if_neg e]at h;exact ih h
theorem zlB_ {m:List (Int×List Nat)}{k:Int}{w:List Nat}(h:dgt m k=xh):dgt (m++[(k,w)]) k=xg w:=by
 induction m with
 |nil=>simp[dgt]|cons q m ih=>
  rw[dgt]at h;rw[qa,dgt];split
  ·rename_i e;rw[if_pos e]at h;cases h
  ·rename_i e;rw[if_neg e]at h;exact ih h
theorem Has.le {m m':List (Int×List Nat)}{f:Int}{t:List Nat}(h:Has m f t)(l:Le m m'):Has m' f t:=λi s e=>l _ _ (h i s e)
theorem zlY_ {m:List (Int×List Nat)}{f:Int}{t:List Nat}{s:Nat}(g:GM m)(hs:s∈SG)(h:Has m f t)(hl:m.length<1000):∃m' s',setdF [DI .str m,.int (f+(t.length:Int)),.str [s]]=.ok (.str [s']) [DI .str m',.int (f+(t.length:Int)),.str [s]]/\GM m'/\Le m m'/\Has m' f (t++[s'])/\m'.length<=m.length+1:=by
 have fin:∀{m':List (Int×List Nat)}{s':Nat},Le m m'->dgt m' (f+(t.length:Int))=xg [s']->Has m' f (t++[s']):=λ{m' s'} l e i u hu=>by
  by_cases hi:i<t.length
  ·rw[pG hi]at hu;exact l _ _ (h i u hu)
  ·have:i=t.length:=by have:=(oA.mp hu).1;simp at this;lia
   subst this;rw[oX (nZ _),uh]at hu;cases hu;exact e
 cases e:dgt m (f+(t.length:Int))with
 |none=>
  refine⟨m++[(_,[s])],s,zm4_ (g:=.str) (v:=[s]) e (by lia),λq hq=>?_,λi v hv=>zhK_ hv,fin (λi v hv=>zhK_ hv) (zlB_ e),by simp⟩
  rcases oP.mp hq with hq |hq
  ·exact g q hq
  ·rw[oE.mp hq];exact⟨s,hs,rfl⟩
 |some v=>
  obtain⟨s',cP,e'⟩:=g _ (zfF_ e);have e':v=[s']:=e';subst e';exact⟨m,s',zkF_ (g:=.str) (v:=[s]) e,g,λ_ _ h=>h,fin (λ_ _ h=>h) e,by lia⟩
theorem sg3 {a b c:Nat}(ha:a∈SG)(hb:b∈SG)(hc:c∈SG)(y:Int):∃s,s∈SG/\ixA (LS .str [[a],[b],[c]]) (.int (y % 3))=.ok (.str [s]):=by
 obtain⟨x,e,hx⟩:=zdJ_ (xs:=[[a],[b],[c]]) (by lia) (show y % 3<((3:Nat):Int) by lia)
 have:∃s,s∈SG/\x=[s]:=by
  simp only[og,pZ,or_false]at hx;rcases hx with rfl |rfl |rfl
  ·exact⟨a,ha,rfl⟩
  ·exact⟨b,hb,rfl⟩
  ·exact⟨c,hc,rfl⟩
 obtain⟨s,hs,rfl⟩:=this;exact⟨s,hs,by rw[ls_ix,e];rfl⟩
theorem zoA_ {j:Nat}(h:j<3):∃q:Int,0<q/\q<1000/\ixA (.nd .lst [.int 15,.int 45,.int 135]) (.int (0+(j:Int)))=.ok (.int q):=by
 rcases(show j=0\/j=1\/j=2 by lia)with rfl |rfl |rfl
 ·exact⟨15,by lia,by lia,rfl⟩
 ·exact⟨45,by lia,by lia,rfl⟩
 ·exact⟨135,by lia,by lia,rfl⟩
def PkH (lo hi:Int)(m:List (Int×List Nat))(p:Pk):Prop:=OkFd p.1/\Has m p.1.1 p.2/\p.2.length=(cl p.1).length/\lo<=p.1.1/\p.1.2<=hi/\(cl p.1).length<=3
def PkR (lo hi:Int)(sg:Int->Nat)(ps:List Pk):Prop:=(∀c,sg c∈SG)/\∀p∈ps,OkK sg p/\lo<=p.1.1/\p.1.2<=hi/\(cl p.1).length<=3
theorem zoD_ {lo hi:Int}{m:List (Int×List Nat)}{ps:List Pk}(g:GM m)(h:∀p∈ps,PkH lo hi m p):∃sg,PkR lo hi sg ps:=by
 refine⟨λc=>match dgt m c with |some [s]=>s |_=>32,λc=>?_,λp hp=>?_⟩
 ·cases e:dgt m c with
  |none=>simp only[e];decide|some v=>
   obtain⟨s,hs,e'⟩:=g _ (zfF_ e);have e':v=[s]:=e';subst e';simp only[e];exact hs
 ·obtain⟨h1,h2,h3,h4,h5,h6⟩:=h p hp
  refine⟨⟨h1,?_⟩,h4,h5,h6⟩;show p.2=(cl p.1).map _
  refine List.ext_getElem (by rw[nN,h3]) λi i1 i2=>?_
  rw[List.getElem_map];have hc:(cl p.1)[i]'(by rw[nN]at i2;exact i2)=p.1.1+(i:Int):=by unfold cl rngI;simp
  rw[hc];have:=h2 i _ (nU i1);simp only[this]
theorem zjS_ (ns:List Int){b:Int}(hb:1<=b/\b<=32){x y z:Nat}(hx:x∈SG)(hy:y∈SG)(hz:z∈SG):∃ps sg,zV_.val [scr ns,.int b,.fz (LS .str [[x],[y],[z]])]=.ok (LS PK ps)/\ps.length<=2/\PkR b (b+4) sg ps:=by
 suffices main:∃ps m,zV_.val [scr ns,.int b,.fz (LS .str [[x],[y],[z]])]=.ok (LS PK ps)/\ps.length<=2/\GM m/\∀p∈ps,PkH b (b+4) m p by
  obtain⟨ps,m,h1,h2,h3,h4⟩:=main;obtain⟨sg,h5⟩:=zoD_ h3 h4;exact⟨ps,sg,h1,h2,h5⟩
 have key:∀pn:Nat->Bool,(∀i,pn i=xk)->En (S.runs gi pn zab_ ([scr ns,.int b,.fz (LS .str [[x],[y],[z]])].map xg++ou 7 xh)) λo _=>∃ps m,o=.rt (LS PK ps)/\ps.length<=2/\GM m/\∀p∈ps,PkH b (b+4) m p:=λpn hp=>by
  unfold zab_;rw[zcH_ (d:=DI .str []) (by rw[zgd_,zlR_];exact zap_ (d:=DI .str []) _ zlO_) (hp _)]
  rw[zcH_ (d:=LS PK []) (by rw[zgd_];exact zap_ (d:=LS PK []) _ za9_) (hp _)]
  have er:rng1D [.int (cel ns 1 % 3)]=_:=rg1 (by lia) (by lia)
  refine zcX_ (l:=oU (cel ns 1 % 3).toNat) (enc:=λi:Nat=>[.int (0+(i:Int))]) (d:=.int (cel ns 1 % 3)) (λd e=>∃ps m o5 o6 o7 o8 o9,e=[xg (scr ns),xg (.int b),xg (.fz (LS .str [[x],[y],[z]])),xg (DI .str m),xg (LS PK ps),o5,o6,o7,o8,o9]/\ps.length=d.length/\m.length<=3*d.length/\GM m/\∀p∈ps,PkH b (b+4) m p) (by exists zQ_ ns (show(0:Int)<=1 by lia) (by lia)) er (zao_ _ _) ⟨[],[],xh,xh,xh,xh,xh,rfl,rfl,qS _,(λq hq=>by cases hq),λp hp=>by cases hp⟩ (λd k r e hl he=>?_) (λe he=>?_)
  ·obtain⟨ps,m,o5,o6,o7,o8,o9,rfl,ax,eB,hg,bt⟩:=he
   have lB:d.length+1<=2:=by have:=congrArg pS hl;simp at this;lia
   have lj:k<2:=by
    have:k∈oU (cel ns 1 % 3).toNat:=by rw[hl];simp
    have:=pP.mp this;lia
   refine⟨[xg (scr ns),xg (.int b),xg (.fz (LS .str [[x],[y],[z]])),xg (DI .str m),xg (LS PK ps),xg (.int (0+(k:Int))),o6,o7,o8,o9],(by exists hp),?_⟩
   generalize hc:cel ns (2+(0+(k:Int)))=c
   obtain⟨f,ef,f1,f2,f3,f4⟩:=zaR_ c b;rw[zcH_ (d:=.int c) (by exists zQ_ ns (show(0:Int)<=2+(0+(k:Int)) by lia) (by lia),hc) (hp _)]
   rw[zcH_ (d:=F2 f) (by exists ef,zd6_) (hp _)]
   rw[zcH_ (d:=.str []) (by exists hp) (hp _)]
   have hF:OkFd f:=⟨by lia,f2,by lia⟩
   have jt:(cl f).length=(f.2-f.1+1).toNat:=by unfold cl;rw[zdI_];lia
   have mP:rng1D [.int (f.2-f.1+1)]=_:=rg1 (by lia) (by lia)
   refine zcX_ (l:=oU (f.2-f.1+1).toNat) (enc:=λi:Nat=>[.int (0+(i:Int))]) (d:=.int (f.2-f.1+1)) (λd2 e=>∃m2 t o9,e=[xg (scr ns),xg (.int b),xg (.fz (LS .str [[x],[y],[z]])),xg (DI .str m2),xg (LS PK ps),xg (.int (0+(k:Int))),xg (.int c),xg (F2 f),xg (.str t),o9]/\GM m2/\Le m m2/\Has m2 f.1 t/\t.length=d2.length/\m2.length<=m.length+d2.length) (by exists zbn_,F2_0,F2_1) mP (zao_ _ _) ⟨m,[],o9,rfl,hg,λ_ _ h=>h,(λi s e=>by simp at e),rfl,by simp⟩ (λd2 j r2 e dz he=>?_) (λe he=>?_)
   ·obtain⟨m2,t,o9,rfl,dC,hle,bC,d7,hm2⟩:=he
    have hj:j=d2.length:=by
     have:=congrArg (λl=>l[d2.length]?) dz
     simp at this;have aM:d2.length<(f.2-f.1+1).toNat:=by have:=congrArg pS dz;simp at this;lia
     rw[nU (by simpa using aM)]at this
     simpa using this.symm
    have lu:j<3:=by
     have:j∈oU (f.2-f.1+1).toNat:=by rw[dz];simp
     have:=pP.mp this;lia
    refine⟨[xg (scr ns),xg (.int b),xg (.fz (LS .str [[x],[y],[z]])),xg (DI .str m2),xg (LS PK ps),xg (.int (0+(k:Int))),xg (.int c),xg (F2 f),xg (.str t),xg (.int (0+(j:Int)))],(by exists hp),?_⟩
    obtain⟨q,q0,q1,eq⟩:=zoA_ lu;obtain⟨s,hs,es⟩:=sg3 hx hy hz (c / q);obtain⟨m3,s',e3,g3,l3,h3,n3⟩:=zlY_ dC hs bC (by lia)
    have iE:f.1+(0+(j:Int))=f.1+(t.length:Int):=by rw[d7,hj];lia
    have mW:addA (.str t) (.str [s'])=.ok (.str (t++[s'])):=by show Mo.lim _ _=_;rw[Mo.lim_ok (by simp;lia)]
    have mV:divD (.int c) (.int q)=.ok (.int (c / q)):=zcb_ q0 (by lia)
    rw[zmm_ (d:=.str (t++[s'])) (e:=[xg (scr ns),xg (.int b),xg (.fz (LS .str [[x],[y],[z]])),xg (DI .str m3),xg (LS PK ps),xg (.int (0+(k:Int))),xg (.int c),xg (F2 f),xg (.str t),xg (.int (0+(j:Int)))]) (by exists zbn_,F2_0,eq,mV,es,iE,e3,mW,zkk_) (hp _) (show 8<10 by decide),S.runs]
    exact⟨_,_,rfl,.inl ⟨.inl rfl,m3,t++[s'],_,rfl,g3,λi v hv=>l3 i v (hle i v hv),h3,by rw[nK,nK,d7];rfl,by rw[nK];simp;lia⟩⟩
   ·obtain⟨m2,t,o9,rfl,dC,hle,bC,d7,hm2⟩:=he
    rw[oW]at d7 hm2;have ea:appendF [LS PK ps,.nd .tup [F2 f,.str t]]=_:=ziA_ (g:=PK) (l:=ps) (x:=(f,t)) (by lia)
    rw[rs_ex (d:=.non) (e:=[xg (scr ns),xg (.int b),xg (.fz (LS .str [[x],[y],[z]])),xg (DI .str m2),xg (LS PK (ps++[(f,t)])),xg (.int (0+(k:Int))),xg (.int c),xg (F2 f),xg (.str t),o9]) (by exists zbn_,zd6_,ea),S.runs]
    refine⟨_,_,rfl,.inl ⟨.inl rfl,ps++[(f,t)],m2,_,_,_,_,_,rfl,by rw[nK,nK,ax];rfl,by rw[nK];simp;lia,dC,λp hp=>?_⟩⟩
    rcases oP.mp hp with hp |hp
    ·obtain⟨a1,a2,a3,a4⟩:=bt p hp
     exact⟨a1,a2.le hle,a3,a4⟩
    ·rw[oE.mp hp]
     exact⟨hF,bC,by rw[d7,jt],f1,f3,by rw[jt];lia⟩
  ·obtain⟨ps,m,o5,o6,o7,o8,o9,rfl,ax,eB,hg,bt⟩:=he
   exists hp
   rw[oW]at ax;exact⟨_,_,rfl,ps,m,rfl,by lia,hg,bt⟩
 have hf:zV_=fnOf gi 3 7 zab_:=rfl;obtain⟨o,e,h1,ps,m,rfl,h2,h3,h4⟩:=key (pins [scr ns,.int b,.fz (LS .str [[x],[y],[z]])]) (za1_ rfl);exact⟨ps,m,by rw[hf];exact zfB_ (zgU_ rfl rfl h1),h2,h3,h4⟩
theorem ix_124 (y:Int):∃q:Int,0<=q/\q<=4/\ixA (.nd .lst [.int 0,.int 0,.int 1,.int 2,.int 4]) (.int (y % 5))=.ok (.int q):=by
 obtain⟨j,hj⟩:=q9 (show 0<=y % 5 by lia)
 rw[hj];rcases(show j=0\/j=1\/j=2\/j=3\/j=4 by lia)with rfl |rfl |rfl |rfl |rfl
 ·exact⟨0,by lia,by lia,rfl⟩
 ·exact⟨0,by lia,by lia,rfl⟩
 ·exact⟨1,by lia,by lia,rfl⟩
 ·exact⟨2,by lia,by lia,rfl⟩
 ·exact⟨4,by lia,by lia,rfl⟩
def InB (lo hi:Int)(f:Fd):Prop:=lo<=f.1/\f.1<=f.2/\f.2<=hi
def MdR (lo hi:Int)(n:Jx):Md->Prop
 |.no=>True|.fi f=>InB lo hi f|.ma w m f g=>(w=WMa\/w=WWi)/\m=n/\InB lo hi f/\OkFd g/\f.2-f.1=g.2-g.1
theorem zkp_ {y:Int}(h0:y % 4≠0)(h1:y % 4≠1):∃w,(w=WMa\/w=WWi)/\ixA (.nd .lst [.str [109,97,116,101,115],.str [119,105,116,104,111,117,116]]) (.int (y % 4-2))=.ok (.str w):=by
 rcases(show y % 4=2\/y % 4=3 by lia)with e |e
 ·exact⟨WMa,.inl rfl,by rw[e];rfl⟩
 ·exact⟨WWi,.inr rfl,by rw[e];rfl⟩
theorem zhh_ (ns:List Int){b:Int}(hb:1<=b/\b<=32)(n:Jx):∃m,zav_.val [scr ns,.int b,.str n]=.ok (MD m)/\MdR b (b+4) n m:=by
 generalize hc:cel ns 4=c
 obtain⟨f,ef,f1,f2,f3,f4⟩:=zaR_ (c / 4) b;have bg:(0:Int)<36-(f.2-f.1):=by lia
 generalize hg:1+cel ns 5 % (36-(f.2-f.1))=low
 have l0:=qm (cel ns 5) (show(36-(f.2-f.1))≠0 by lia)
 have l1:=pU (cel ns 5) bg;have c4:zb_.val [scr ns,.int 4]=.ok (.int c):=by rw[<- hc];exact zQ_ ns (by lia) (by lia)
 have c5:zb_.val [scr ns,.int 5]=.ok (.int (cel ns 5)):=zQ_ ns (by lia) (by lia)
 have em:modD (.int (cel ns 5)) (.int (36-(f.2-f.1)))=.ok (.int (cel ns 5 % (36-(f.2-f.1)))):=VI.vd_mod bg;by_cases h0:c % 4=0
 ·refine⟨.no,zD_ rfl rfl λpn hp=>?_,trivial⟩
  unfold z2_
  exists hp,c4,c5,ef,zbn_,zd6_,F2_0,F2_1,em,hg,zP_,decide_eq_true h0
  fail "q"
 ·by_cases h1:c % 4=1
  ·refine⟨.fi f,zD_ rfl rfl λpn hp=>?_,⟨f1,f2,f3⟩⟩
   unfold z2_
   exists hp,c4,c5,ef,zbn_,zd6_,F2_0,F2_1,em,hg,zP_,decide_eq_false h0,decide_eq_true h1
   fail "q"
  ·obtain⟨w,hw,ew⟩:=zkp_ h0 h1
   refine⟨.ma w n f (low,low+(f.2-f.1)),zD_ rfl rfl λpn hp=>?_,hw,rfl,⟨f1,f2,f3⟩,⟨by show 1<=low;lia,by show low<=low+(f.2-f.1);lia,by show low+(f.2-f.1)<=36;lia⟩,by show f.2-f.1=low+(f.2-f.1)-low;lia⟩
   unfold z2_
   exists hp,c4,c5,ef,zbn_,zd6_,F2_0,F2_1,em,hg,zP_,decide_eq_false h0,decide_eq_false h1,ew
   fail "q"
def WkR (pl:Nat->Fd)(lo hi:Int)(ws:List Wk):Prop:=∀(i:Nat) w,ws[i]?=xg w->w.1=pl i/\InB lo hi w.2.1/\(InB lo hi w.2.2.2\/∃j,j<i/\w.2.2.2=pl j)/\w.2.2.1∈WWo
theorem zkN_ {pl:Nat->Fd}{lo hi:Int}{ws:List Wk}{w:Wk}(h:WkR pl lo hi ws)(hw:w.1=pl ws.length/\InB lo hi w.2.1/\(InB lo hi w.2.2.2\/∃j,j<ws.length/\w.2.2.2=pl j)/\w.2.2.1∈WWo):WkR pl lo hi (ws++[w]):=λi u hu=>by
 by_cases hi:i<ws.length
 ·rw[pG hi]at hu;exact h i u hu
 ·have:i=ws.length:=by have:=(oA.mp hu).1;simp at this;lia
  subst this;rw[oX (nZ _),uh]at hu;cases hu;exact hw
theorem ix_wo (y:Int):∃w,w∈WWo/\ixA (.nd .lst [.str [112,108,117,115],.str [108,101,115,115],.str [116,105,109,101,115]]) (.int (y % 3))=.ok (.str w):=by
 rcases(show y % 3=0\/y % 3=1\/y % 3=2 by lia)with e |e |e
 ·exact⟨[112,108,117,115],by decide,by rw[e];rfl⟩
 ·exact⟨[108,101,115,115],by decide,by rw[e];rfl⟩
 ·exact⟨[116,105,109,101,115],by decide,by rw[e];rfl⟩
def plN (b:Int)(i:Nat):Fd:=if b<28 then(33+2*(i:Int),34+2*(i:Int))else(1+2*(i:Int),2+2*(i:Int))
def plF (i:Nat):Fd:=(25+3*(i:Int),27+3*(i:Int))
theorem zfh_ {N:Nat}{d r:List Nat}{k:Nat}(h:oU N=d++k::r):k=d.length/\d.length<N:=by
 have aM:d.length<N:=by have:=congrArg pS h;simp at this;lia
 refine⟨?_,aM⟩;have:=congrArg (λl=>l[d.length]?) h
 simp at this;rw[nU (by simpa using aM)]at this
 simpa using this.symm
theorem zie_ (ns:List Int){b:Int}(hb:1<=b/\b<=32):∃ws,zaa_.val [scr ns,.int b]=.ok (LS WK ws)/\ws.length<=2/\WkR (plN b) b (b+4) ws:=by
 generalize hc:cel ns 11=c
 have nh:zb_.val [scr ns,.int 11]=.ok (.int c):=by rw[<- hc];exact zQ_ ns (by lia) (by lia)
 have key:∀pn:Nat->Bool,(∀i,pn i=xk)->En (S.runs gi pn zy_ ([scr ns,.int b].map xg++ou 6 xh)) λo _=>∃ws,o=.rt (LS WK ws)/\ws.length<=2/\WkR (plN b) b (b+4) ws:=λpn hp=>by
  have r1:S.runs gi pn zy_ ([scr ns,.int b].map xg++ou 6 xh)=S.runs gi pn (zy_.drop 4) [xg (scr ns),xg (.int b),xg (.int c),xg (LS F2 [plN b 0,plN b 1]),xg (LS WK []),xh,xh,xh]:=by
   unfold zy_;rw[zcH_ (d:=.int c) (by exists nh) (hp _)]
   rw[zcH_ (d:=LS F2 [(1,2),(3,4)]) (by rw[zgd_];exact zap_ (d:=LS F2 [(1,2),(3,4)]) _ za9_) (hp _)]
   by_cases h28:b<28
   ·rw[zpy_ (by exists decide_eq_true h28)]
    show S.runs gi pn (S.asg _ _::_) _=_
    rw[zcH_ (d:=LS F2 [(33,34),(35,36)]) (by rw[zgd_];exact zap_ (d:=LS F2 [(33,34),(35,36)]) _ za9_) (hp _)]
    show S.runs gi pn (S.asg _ _::_) _=_
    rw[zcH_ (d:=LS WK []) (by rw[zgd_];exact zap_ (d:=LS WK []) _ za9_) (hp _)]
    rw[show plN b 0=(33,34)from if_pos h28,show plN b 1=(35,36)from if_pos h28]
    rfl
   ·rw[zoJ_ (by exists decide_eq_false h28)]
    show S.runs gi pn (S.asg _ _::_) _=_
    rw[zcH_ (d:=LS WK []) (by rw[zgd_];exact zap_ (d:=LS WK []) _ za9_) (hp _)]
    rw[show plN b 0=(1,2)from if_neg h28,show plN b 1=(3,4)from if_neg h28]
    rfl
  rw[r1];unfold zy_;simp only[sM,rW];have er:rng1D [.int (c % 3)]=_:=rg1 (by lia) (by lia)
  refine zcX_ (l:=oU (c % 3).toNat) (enc:=λi:Nat=>[.int (0+(i:Int))]) (d:=.int (c % 3)) (λd e=>∃ws o5 o6 o7,e=[xg (scr ns),xg (.int b),xg (.int c),xg (LS F2 [plN b 0,plN b 1]),xg (LS WK ws),o5,o6,o7]/\ws.length=d.length/\WkR (plN b) b (b+4) ws) (by exists hp) er (zao_ _ _) ⟨[],xh,xh,xh,rfl,rfl,λi w h=>by simp at h⟩ (λd k r e hl he=>?_) (λe he=>?_)
  ·obtain⟨ws,o5,o6,o7,rfl,bA,hw⟩:=he
   obtain⟨hk,hd⟩:=zfh_ hl;have lj:k<2:=by lia
   refine⟨[xg (scr ns),xg (.int b),xg (.int c),xg (LS F2 [plN b 0,plN b 1]),xg (LS WK ws),xg (.int (0+(k:Int))),o6,o7],(by exists hp),?_⟩
   have hZ:(0:Int)<1+(0+(k:Int)):=by lia
   have d1:divD (.int (c / 45)) (.int (1+(0+(k:Int))))=.ok (.int (c / 45 / (1+(0+(k:Int))))):=zcb_ hZ (by lia)
   have d2:divD (.int (c / 9)) (.int (1+(0+(k:Int))))=.ok (.int (c / 9 / (1+(0+(k:Int))))):=zcb_ hZ (by lia)
   have d3:divD (.int (c / 7)) (.int (1+(0+(k:Int))))=.ok (.int (c / 7 / (1+(0+(k:Int))))):=zcb_ hZ (by lia)
   obtain⟨f,ef,f1,f2,f3,_⟩:=zaR_ (c / 45 / (1+(0+(k:Int)))) b;obtain⟨g,eg,g1,g2,g3,_⟩:=zaR_ (c / 7 / (1+(0+(k:Int)))) b;obtain⟨u,hu,eu⟩:=ix_wo (c / 9 / (1+(0+(k:Int))));have ep:ixA (LS F2 [plN b 0,plN b 1]) (.int (0+(k:Int)))=.ok (F2 (plN b k)):=by
    rcases(show k=0\/k=1 by lia)with e |e
    ·rw[e];rfl
    ·rw[e];rfl
   have mR:ixA (LS F2 [plN b 0,plN b 1]) (.int 0)=.ok (F2 (plN b 0)):=rfl;obtain⟨o,eo,ho⟩:∃o:Fd,S.runs gi pn [.asg 6 (.pu (.call zU_ "_law_field" [(.bin .div (.bin .div (.v 2) (.k (.int 45))) (.bin .add (.k (.int 1)) (.v 5))),(.v 1)])),.if_ (.and (.bin .eq (.v 5) (.k (.int 1))) (.bin .eq (.bin .mod (.bin .div (.v 2) (.k (.int 3))) (.k (.int 2))) (.k (.int 1)))) [.asg 6 (.pu (.bin .ix (.v 3) (.k (.int 0))))] []] [xg (scr ns),xg (.int b),xg (.int c),xg (LS F2 [plN b 0,plN b 1]),xg (LS WK ws),xg (.int (0+(k:Int))),o6,o7]=.ok .nx [xg (scr ns),xg (.int b),xg (.int c),xg (LS F2 [plN b 0,plN b 1]),xg (LS WK ws),xg (.int (0+(k:Int))),xg (F2 o),o7]/\(InB b (b+4) o\/∃j,j<k/\o=plN b j):=by
    by_cases z:(0+(k:Int))=1/\c / 3 % 2=1
    ·refine⟨plN b 0,?_,.inr ⟨0,by lia,rfl⟩⟩
     exists hp,d1,ef,zd6_,zP_,decide_eq_true z.1,decide_eq_true z.2,mR
    ·refine⟨f,?_,.inl ⟨f1,f2,f3⟩⟩
     by_cases z1:(0+(k:Int))=1
     ·have z2:¬c / 3 % 2=1:=λy=>z ⟨z1,y⟩
      exists hp,d1,ef,zd6_,zP_,decide_eq_true z1,decide_eq_false z2,rF
     ·exists hp,d1,ef,zd6_,zP_,decide_eq_false z1,sU
   show En (S.runs gi pn ([_,_]++_) _) _
   rw[<- zhl_,eo,zcP_];have ea:appendF [LS WK ws,.nd .tup [F2 (plN b k),F2 g,.str u,F2 o]]=_:=ziA_ (g:=WK) (l:=ws) (x:=(plN b k,g,u,o)) (by lia)
   exists hp,d2,d3,eu,ep,eg,zbn_,zd6_,ea
   exact⟨_,_,rfl,.inl ⟨.inl rfl,ws++[(plN b k,g,u,o)],_,_,_,rfl,by rw[nK,nK,bA];rfl,zkN_ hw ⟨by rw[bA,<- hk],⟨g1,g2,g3⟩,by rw[bA,<- hk];exact ho,hu⟩⟩⟩
  ·obtain⟨ws,o5,o6,o7,rfl,bA,hw⟩:=he
   exists hp
   rw[oW]at bA;exact⟨_,_,rfl,ws,rfl,by lia,hw⟩
 have hf:zaa_=fnOf gi 2 6 zy_:=rfl;obtain⟨o,e,h1,ws,rfl,h2,h3⟩:=key (pins [scr ns,.int b]) (za1_ rfl);exact⟨ws,by rw[hf];exact zfB_ (zgU_ rfl rfl h1),h2,h3⟩
inductive Gg where
 |deal (n:Jx) (c:Int)|pick (n:Jx) (c:Int) (s:Jx)|mate (n k:Jx) (f g:Fd) (w:Jx)|first (n:Jx) (f:Fd)|punch (n:Jx) (w:Wk)|count (z:Bool) (n:Jx) (b s:List Fd) (fg:Int) (d:List Fd)
 deriving DecidableEq
noncomputable def WDe:List Nat:=[100,101,97,108]
noncomputable def WPi:List Nat:=[112,105,99,107]
noncomputable def WMt:List Nat:=[109,97,116,101]
noncomputable def WPu:List Nat:=[112,117,110,99,104]
noncomputable def WCo:List Nat:=[99,111,117,110,116]
def hdG:Gg->List Nat
 |.deal ..=>WDe |.pick ..=>WPi |.mate ..=>WMt |.first ..=>WFi |.punch ..=>WPu |.count ..=>WCo
def fzl (z:Bool)(l:List Fd):D:=bif z then .fz (LS F2 l)else LS F2 l
def tlG:Gg->List D
 |.deal n c=>[.str n,.int c]|.pick n c s=>[.str n,.int c,.str s]|.mate n k f g w=>[.str n,.str k,F2 f,F2 g,.str w]|.first n f=>[.str n,F2 f]|.punch n w=>[.str n,WK w]|.count z n b s fg d=>[.str n,fzl z b,fzl z s,.int fg,fzl z d]
def GD (g:Gg):D:=.nd .tup (.str (hdG g)::tlG g)
def GV (g:Gg):D:=match g with |.count ..=>.fz (GD g)|_=>GD g
def er:Gg->Gg
 |.count _ n b s fg d=>.count xk n b s fg d|g=>g
theorem zb3_ (g:Gg):(GD g).vw=GV g:=by cases g with |count z=>cases z<;>rfl |_=>rfl
theorem zN_ (g:Gg):(GV g).vw=GV g:=by cases g with |count z=>cases z<;>rfl |_=>rfl
theorem GV_un (g:Gg):(GV g).un=GD g:=by cases g<;>rfl
theorem zis_ (n:Nat)(a b:D):eqT n a b=eqT n a.un b.un:=by
 have u:∀d:D,d.un.un=d.un:=λd=>by
  induction d using D.un.induct with
  |case1 d ih=>show d.un.un=d.un;exact ih|case2 d h=>cases d<;>first |rfl |exact absurd rfl (h _)
 cases n with
 |zero=>show(a.un.flat?.bind λx=>b.un.flat?.map λy=>eqV x y)=(a.un.un.flat?.bind λx=>b.un.un.flat?.map λy=>eqV x y);rw[u,u]|succ n=>show eqS (eqT n) a.un b.un=eqS (eqT n) a.un.un b.un.un;rw[u,u]
def Pu:Nat->D->Prop
 |0,d=>∃v,d.flat?=xg v|n+1,d=>(∃v,d.flat?=xg v)\/∃xs,(d=.nd .tup xs\/d=.nd .lst xs)/\∀x∈xs,Pu n x
theorem znj_:∀{n:Nat}{d:D},Pu n d->d.un=d
 |0,d,q_=>by obtain⟨v,h⟩:=q_;cases d<;>first |rfl |cases h
 |n+1,d,.inl q_=>by obtain⟨v,h⟩:=q_;cases d<;>first |rfl |cases h
 |n+1,d,.inr q_=>by obtain⟨xs,h,_⟩:=q_;rcases h with rfl |rfl<;>rfl
theorem zeR_ {f:D->D->Option Bool}:∀{as bs:List D},(∀a∈as,∀b∈bs,∃c,f a b=xg c)->∃c,allT f as bs=xg c
 |[],bs,_=>⟨xj,by cases bs<;>rfl⟩|a::as,[],_=>⟨xj,rfl⟩|a::as,b::bs,h=>by
  obtain⟨c,e⟩:=h a nV b nV;obtain⟨c',e'⟩:=zeR_ (as:=as) (bs:=bs) λx hx y hy=>h x (nY _ hx) y (nY _ hy)
  exact⟨c && c',by rw[allT,e,e'];rfl⟩
theorem zkt_:∀{n:Nat}{a b:D},Pu n a->Pu n b->∃c,eqT n a b=xg c
 |0,a,b,ha,hb=>by
  have ua:=znj_ ha;have ub:=znj_ hb;obtain⟨v,hv⟩:=ha;obtain⟨w,hw⟩:=hb;exact⟨eqV v w,by show(a.un.flat?.bind λx=>b.un.flat?.map λy=>eqV x y)=_;rw[ua,ub,hv,hw];rfl⟩
 |n+1,a,b,ha,hb=>by
  show∃c,eqS (eqT n) a.un b.un=xg c
  rw[znj_ ha,znj_ hb];have fl:∀d v,D.flat? d=xg v->sqT d=xh:=λd v h=>by cases d<;>first |rfl |cases h
  rcases ha with⟨v,hv⟩|⟨xs,hx,ha⟩
  ·rcases hb with⟨w,hw⟩|⟨ys,hy,hb⟩
   ·exact⟨eqV v w,by unfold eqS;rw[fl a v hv,fl b w hw,hv,hw];rfl⟩
   ·refine⟨xk,?_⟩
    unfold eqS;rw[fl a v hv,hv];rcases hy with rfl |rfl<;>rfl
  ·rcases hb with⟨w,hw⟩|⟨ys,hy,hb⟩
   ·refine⟨xk,?_⟩
    unfold eqS;rw[fl b w hw,hw];rcases hx with rfl |rfl<;>rfl
   ·obtain⟨c,hc⟩:=zeR_ (f:=eqT n) (as:=xs) (bs:=ys) λx hx y hy=>zkt_ (ha x hx) (hb y hy)
    rcases hx with rfl |rfl<;>rcases hy with rfl |rfl
    ·exact⟨c && xs.length == ys.length,by show(allT (eqT n) xs ys).map _=_;rw[hc];rfl⟩
    ·exact⟨xk,rfl⟩
    ·exact⟨xk,rfl⟩
    ·by_cases hl:xs.length=ys.length
     ·exact⟨c,by show(if xs.length=ys.length then allT (eqT n) xs ys else xg xk)=_;rw[if_pos hl,hc]⟩
     ·exact⟨xk,by show(if xs.length=ys.length then allT (eqT n) xs ys else xg xk)=_;rw[if_neg hl]⟩
theorem eF2 (n:Nat)(f g:Fd):eqT (n+1) (F2 f) (F2 g)=xg (decide (f=g)):=by
 show((eqT n (.int f.1) (.int g.1)).bind λx=>((eqT n (.int f.2) (.int g.2)).bind λx=>(xg xj).map λy=>x && y).map λy=>x && y).map (λb=>b && xj)=_
 rw[zer_,zer_];simp[wm,sH]
theorem eWK (n:Nat)(w v:Wk):eqT (n+2) (WK w) (WK v)=xg (decide (w=v)):=by
 show((eqT (n+1) (F2 w.1) (F2 v.1)).bind λx=>((eqT (n+1) (F2 w.2.1) (F2 v.2.1)).bind λx=>((eqT (n+1) (.str w.2.2.1) (.str v.2.2.1)).bind λx=>((eqT (n+1) (F2 w.2.2.2) (F2 v.2.2.2)).bind λx=>(xg xj).map λy=>x && y).map λy=>x && y).map λy=>x && y).map λy=>x && y).map (λb=>b && xj)=_
 rw[eF2,eF2,eF2,zfu_];simp[wm,sH]
theorem zjZ_ (n:Nat)(f:Fd):Pu (n+1) (F2 f):=.inr ⟨_,.inl rfl,λx hx=>by
 rcases og.mp hx with rfl |hx
 ·cases n<;>first |exact⟨_,rfl⟩|exact .inl ⟨_,rfl⟩
 ·rw[oE.mp hx];cases n<;>first |exact⟨_,rfl⟩|exact .inl ⟨_,rfl⟩⟩
theorem pu_tl (n:Nat)(g:Gg):∀d∈tlG g,Pu (n+3) d.un:=by
 have fs:∀(z:Bool) (l:List Fd),Pu (n+3) (fzl z l).un:=λz l=>(show(fzl z l).un=LS F2 l by cases z<;>rfl) ▸ show Pu (n+3) (LS F2 l)from .inr ⟨_,.inr rfl,λx hx=>by obtain⟨f,_,rfl⟩:=pJ.mp hx;exact zjZ_ (n+1) f⟩
 have st:∀l,Pu (n+3) (.str l):=λl=>.inl ⟨_,rfl⟩
 have it:∀l,Pu (n+3) (.int l):=λl=>.inl ⟨_,rfl⟩
 have wk:∀w,Pu (n+3) (WK w):=λw=>.inr ⟨_,.inl rfl,λx hx=>by
  simp only[og,pZ,or_false]at hx;rcases hx with rfl |rfl |rfl |rfl
  ·exact zjZ_ (n+1) _
  ·exact zjZ_ (n+1) _
  ·exact .inl ⟨_,rfl⟩
  ·exact zjZ_ (n+1) _⟩
 intro d hd;cases g<;>simp only[tlG,og,pZ,or_false]at hd
 ·rcases hd with rfl |rfl<;>first |exact st _ |exact it _
 ·rcases hd with rfl |rfl |rfl<;>first |exact st _ |exact it _
 ·rcases hd with rfl |rfl |rfl |rfl |rfl<;>first |exact st _ |exact zjZ_ (n+2) _
 ·rcases hd with rfl |rfl<;>first |exact st _ |exact zjZ_ (n+2) _
 ·rcases hd with rfl |rfl<;>first |exact st _ |exact wk _
 ·rcases hd with rfl |rfl |rfl |rfl |rfl<;>first |exact st _ |exact it _ |exact fs _ _
theorem efz (n:Nat)(z z':Bool)(a b:List Fd):eqT (n+2) (fzl z a) (fzl z' b)=xg (decide (a=b)):=by
 rw[zis_,show(fzl z a).un=LS F2 a by cases z<;>rfl,show(fzl z' b).un=LS F2 b by cases z'<;>rfl]
 exact eq_ls (eF2 n) a b
theorem eq_G (n:Nat)(x y:Gg):eqT (n+4) (GV x) (GV y)=xg (decide (er x=er y)):=by
 rw[zis_,GV_un,GV_un];show((eqT (n+3) (.str (hdG x)) (.str (hdG y))).bind λa=>(allT (eqT (n+3)) (tlG x) (tlG y)).map λb=>a && b).map (λb=>b && (tlG x).length+1 == (tlG y).length+1)=_
 rw[zfu_];by_cases h:hdG x=hdG y
 ·rw[decide_eq_true h]
  cases x<;>cases y<;>first |(have h2:=h;simp[hdG,WDe,WPi,WMt,WFi,WPu,WCo]at h2;done)|skip
  all_goals simp only[tlG,allT,zfu_,zer_,eF2,eWK (n+1),efz (n+1),er,Option.bind_some,vh]
  all_goals simp[sH]
 ·obtain⟨c,hc⟩:=zeR_ (f:=eqT (n+3)) (as:=tlG x) (bs:=tlG y) λa ha b hb=>by rw[zis_];exact zkt_ (pu_tl n x a ha) (pu_tl n y b hb)
  have e:∀g,hdG (er g)=hdG g:=λg=>by cases g<;>rfl
  have aP:¬er x=er y:=λz=>h (by rw[<- e x,z,e])
  rw[decide_eq_false h,hc,decide_eq_false aP];rfl
theorem zl8_ (a b:List Gg):eqT 12 (.nd .lst (a.map GV)) (.nd .lst (b.map GV))=xg (decide (a.map er=b.map er)):=by
 show(if(a.map GV).length=(b.map GV).length then allT (eqT 11) (a.map GV) (b.map GV)else xg xk)=_
 rw[nN,nN];by_cases hl:a.length=b.length
 ·rw[if_pos hl]
  have key:∀a b:List Gg,a.length=b.length->allT (eqT 11) (a.map GV) (b.map GV)=xg (decide (a.map er=b.map er)):=λa=>by
   induction a with
   |nil=>intro b hb;cases b with |nil=>simp[allT]|cons=>cases hb
   |cons x a ih=>
    intro b hb;cases b with
    |nil=>cases hb|cons y b=>rw[nS,nS,allT,show eqT 11 (GV x) (GV y)=_ from eq_G 7 x y,ih b (by simpa using hb),nS,nS];simp[sH]
  exact key a b hl
 ·rw[if_neg hl,decide_eq_false λz=>hl (by have:=congrArg pS z;simpa using this)]
section
variable {A:Ak}
def PG (n:Jx)(w:Wk):D:=.nd .tup [.str [112,117,110,99,104],.str n,WK w]
instance (n:Jx):Im (PG n):=⟨λ_=>rfl⟩
theorem zkH_ {xs:List D}{d:D}(h:xs.length<100000):appendF [.nd .lst xs,d]=.ok .non [.nd .lst (xs++[d]),.gone]:=by
 show(if xs.length<oh then _ else _)=_
 rw[if_pos (zdj_ h)]
def mgo (A:Ak):List D:=match A.md with
 |.no=>[]|.fi f=>[.nd .tup [.str WFi,.str A.dk,F2 f]]|.ma w n f g=>[.nd .tup [.str [109,97,116,101],.str A.dk,.str n,F2 f,F2 g,.str w]]
theorem zmV_ (h:OkM A.dk A.md):zt_.val [.fz (AO A)]=.ok (.nd .lst (mgo A)):=by
 obtain⟨a,b,m,r⟩:=A;cases m with
 |no=>rfl|fi=>rfl|ma w n f g=>rcases h.1 with rfl |rfl<;>rfl
def CN (A:Ak):D:=.nd .tup [.str [99,111,117,110,116],.str A.dk,LS F2 (A.od.take A.br.toNat),LS F2 A.su,.int A.fg,LS F2 A.bd]
theorem CN_nw:(CN A).new=xj:=by unfold CN;simp only[zno_,nw_c,nw_0,zgX_,zgD_,za9_,tJ]
theorem zkj_ (h:OkA A):z4_.val [.fz (AO A)]=.ok (.nd .lst (A.wk.map (PG A.dk)++[CN A])):=by
 have h1:=h.wl;have eb:zah_.val [.fz (AO A)]=.ok (LS F2 (A.od.take A.br.toNat)):=by
  refine zD_ rfl rfl λpn hp=>?_
  unfold za0_
  exists hp,zq_,zbT_,zd5_,zbR_ h.br.1
  fail "q"
 refine zD_ rfl rfl λpn hp=>?_
 unfold zbm_
 exists hp,zq_
 rw[xcompN (f:=λx:Wk=>x) (o:=PG A.dk) (T:=λx=>[WK x]) A.wk rfl (by exists hp,zq_,zbE_) (zao_ _ _) (λx hx=>rfl) (by lia),sS]
 have ea:appendF [LS (PG A.dk) A.wk,CN A]=_:=zkH_ (by rw[nN];lia)
 have en:=CN_nw (A:=A);unfold CN at ea en
 exists hp,zq_,zdb_,zfk_,zc5_,zf4_,eb,ea,en
 fail "q"
end
theorem rn_i {env e1:VI.Env}{q:Nat->Bool}{s:S}{ss:List S}(h:S.run gi q s env=.ok .nx e1):S.runs gi q (s::ss) env=S.runs gi q ss e1:=by rw[S.runs,h,zcP_]
def mgG (A:Ak):List Gg:=match A.md with
 |.no=>[]|.fi f=>[.first A.dk f]|.ma w n f g=>[.mate A.dk n f g w]
noncomputable def lgG (A:Ak):List Gg:=A.wk.map (.punch A.dk)++[(.count xk A.dk (A.od.take A.br.toNat) A.su A.fg A.bd)]
theorem mgo_G (A:Ak):mgo A=(mgG A).map GV:=by unfold mgo mgG;cases A.md<;>rfl
theorem lgo_G (A:Ak):(A.wk.map (PG A.dk)++[CN A])=(lgG A).map GD:=by
 unfold lgG;rw[oG,pF];rfl
theorem er_ml (A:Ak):(mgG A++lgG A).map er=mgG A++lgG A:=by
 have h1:(mgG A).map er=mgG A:=by unfold mgG;cases A.md<;>rfl
 have h2:(A.wk.map (Gg.punch A.dk)).map er=A.wk.map (.punch A.dk):=by rw[pF];rfl
 unfold lgG;rw[oG,oG,h1,h2];rfl
noncomputable def isPs:Gg->Bool
 |.deal ..=>xj |.pick ..=>xj |_=>xk
def nmt (A:Ak):Jy:=match A.md with |.ma _ n _ _=>[n]|_=>[]
def told (A:Ak)(a:Int):Gg->Bool
 |.deal n c=>decide (1<=c) && decide (c<=36) && (if n=A.dk then decide (a<=(mgG A).length)else decide (n∈nmt A) && decide (a=0))|.pick n c _=>decide (1<=c) && decide (c<=36) && (decide (n=A.dk) && decide (a=0))|_=>xk
def okl (A:Ak):Int->List Gg->Bool
 |_,[]=>xj|a,g::r=>bif isPs g then told A a g && okl A a r else okl A (a+1) r
def isPl (A:Ak)(gs:List Gg):Bool:=decide ((gs.filter λg=>!isPs g).map er=mgG A++lgG A) && okl A 0 gs
theorem zg4_ {xs ys:List D}(h:xs.length+ys.length<=100000):addA (.nd .lst xs) (.nd .lst ys)=.ok (.nd .lst ((xs++ys).map .vw)):=by
 show Mo.lim _ _=_;rw[Mo.lim_ok h]
theorem zb0_ (gs:List Gg):(gs.map GV).map D.vw=gs.map GV:=by rw[pF];exact qz λg _=>zN_ g
theorem zmA_ (gs:List Gg):(gs.map GD).map D.vw=gs.map GV:=by rw[pF];exact qz λg _=>zb3_ g
theorem g_ix0 (g:Gg):ixA (GV g) (.int 0)=.ok (.str (hdG g)):=by cases g<;>rfl
theorem g_vwS (g:Gg):(D.str (hdG g)).vw=.str (hdG g):=rfl
theorem zbL_:∀(l:Jy),flats (l.map D.str)=xg (l.map tx)
 |[]=>rfl|c::l=>by rw[nS];unfold flats;rw[zbL_ l];rfl
theorem zfS_ (c:Jx):∀(l:Jy),inV (tx c) (l.map tx)=decide (c∈l)
 |[]=>rfl|j::l=>by
  have:=zfS_ c l;unfold inV at this ⊢;rw[nS,rq,this];have e:∀a b:List Nat,eqV (tx a) (tx b)=decide (a=b):=λa b=>by
   have:=zfu_ 0 a b;exact pC this
  rw[e];by_cases h:c=j
  ·subst h;simp
  ·simp[h,rA h]
theorem in_ls (c:Jx)(l:Jy):inA xk (.str c) (.nd .lst (l.map .str))=.ok (.bl (decide (c∈l))):=by
 show inSeq xk (.str c) (l.map .str)=_
 unfold inSeq;rw[zbL_];show Mq (D.bl (inV (tx c) (l.map tx)))=_
 rw[zfS_]
theorem in_tp (c:Jx)(l:Jy):inA xk (.str c) (.nd .tup (l.map .str))=.ok (.bl (decide (c∈l))):=by
 show inSeq xk (.str c) (l.map .str)=_
 unfold inSeq;rw[zbL_];show Mq (D.bl (inV (tx c) (l.map tx)))=_
 rw[zfS_]
theorem coldG (g:Gg):(GV g).cold=xj:=by cases g<;>rfl
theorem cl1 {d:D}(h:d.cold=xj):D.colds [d]=xj:=by show(d.cold && xj)=xj;rw[h];rfl
theorem znu_ (g:Gg):zak_.val [GV g]=.ok (.bl (isPs g)):=by
 refine zD_ rfl (cl1 (coldG g)) λpn hp=>?_
 unfold zdN_;have e:inA xk (.str (hdG g)) (.nd .tup [.str [100,101,97,108],.str [112,105,99,107]])=.ok (.bl (isPs g)):=by
  have:=in_tp (hdG g) [WDe,WPi];cases g<;>exact this
 exists hp,zN_,g_ix0,e
 fail "q"
theorem ziu_ {A:Ak}(h:OkM A.dk A.md)(g:Gg)(hg:isPs g=xj)(a:Int):zK_.val [.fz (AO A),GV g,.int a]=.ok (.bl (told A a g)):=by
 have hc:D.colds [.fz (AO A),GV g,.int a]=xj:=by show(xj && ((GV g).cold && xj))=xj;rw[coldG];rfl
 have hm:=zmV_ h;obtain⟨nn,hn,cR⟩:∃nn,z9_.val [.fz (AO A)]=.ok (LS .str nn)/\cutG nn (xg 1) xh=nmt A:=⟨_,zfG_ h,by unfold nmt;cases A.md<;>rfl⟩
 have ml:(mgo A).length=(mgG A).length:=by rw[mgo_G,nN]
 have lm:lenA [.nd .lst (mgo A)]=.ok (.int ((mgG A).length:Nat)):=by show Mq (D.int ((mgo A).length:Nat))=_;rw[ml]
 cases g with
 |deal n c=>
  have i2:ixA (GV (.deal n c)) (.int 2)=.ok (.int c):=rfl;have i1:ixA (GV (.deal n c)) (.int 1)=.ok (.str n):=rfl;have i0:ixA (GV (.deal n c)) (.int 0)=.ok (.str WDe):=rfl;refine zD_ rfl hc λpn hp=>?_
  unfold zaf_;show En (S.runs gi pn _ [xg (.fz (AO A)),xg (GV (.deal n c)),xg (.int a),xh]) _
  by_cases h1:1<=c/\c<=36
  ·have ch:=znm_ (o:=.le) (o':=.le) (x:=.int 1) (y:=.int c) (r:=.ok (.int 36)) (show leD (.int 1) (.int c)=_ by rw[zjA_,decide_eq_true h1.1])
   rw[rn_i (e1:=[xg (.fz (AO A)),xg (GV (.deal n c)),xg (.int a),xh]) (by exists hp,zN_,i2,ch,decide_eq_true h1.2)]
   by_cases hd:n=A.dk
   ·have et:told A a (.deal n c)=decide (a<=(mgG A).length):=by show(decide (1<=c) && decide (c<=36) && (if n=A.dk then decide (a<=(mgG A).length)else decide (n∈nmt A) && decide (a=0)))=_;rw[decide_eq_true h1.1,decide_eq_true h1.2,if_pos hd];rfl
    rw[et]
    exists hp,zN_,i0,i1,zq_,zdb_,show decide (WDe=[100,101,97,108])=xj from rfl,decide_eq_true hd,hm,lm
    fail "q"
   ·have et:told A a (.deal n c)=(decide (n∈nmt A) && decide (a=0)):=by show(decide (1<=c) && decide (c<=36) && (if n=A.dk then decide (a<=(mgG A).length)else decide (n∈nmt A) && decide (a=0)))=_;rw[decide_eq_true h1.1,decide_eq_true h1.2,if_neg hd];rfl
    rw[et,rn_i (by exists hp,zN_,i0,i1,zq_,zdb_,show decide (WDe=[100,101,97,108])=xj from rfl,decide_eq_false hd;rfl)]
    have hi:=in_ls n (nmt A);have hi:inA xk (.str n) (LS .str (nmt A))=_:=hi
    exists hp,zN_,i0,i1,zq_,zdb_,show decide (WDe=[100,101,97,108])=xj from rfl,hn,cR,zhR_,hi
    fail "q"
  ·have et:told A a (.deal n c)=xk:=by
    show(decide (1<=c) && decide (c<=36) && (if n=A.dk then decide (a<=(mgG A).length)else decide (n∈nmt A) && decide (a=0)))=_
    by_cases z:1<=c
    ·rw[decide_eq_false (show¬c<=36 from λy=>h1 ⟨z,y⟩)];simp
    ·rw[decide_eq_false z];rfl
   rw[et];by_cases z:1<=c
   ·have ch:=znm_ (o:=.le) (o':=.le) (x:=.int 1) (y:=.int c) (r:=.ok (.int 36)) (show leD (.int 1) (.int c)=_ by rw[zjA_,decide_eq_true z])
    exists hp,zN_,i2,ch,decide_eq_false (show¬c<=36 from λy=>h1 ⟨z,y⟩)
    fail "q"
   ·have ch:=chD_f (o:=.le) (o':=.le) (x:=.int 1) (y:=.int c) (r:=.ok (.int 36)) (show leD (.int 1) (.int c)=_ by rw[zjA_,decide_eq_false z])
    exists hp,zN_,i2,ch
    fail "q"
 |pick n c s=>
  have i2:ixA (GV (.pick n c s)) (.int 2)=.ok (.int c):=rfl;have i1:ixA (GV (.pick n c s)) (.int 1)=.ok (.str n):=rfl;have i0:ixA (GV (.pick n c s)) (.int 0)=.ok (.str WPi):=rfl;refine zD_ rfl hc λpn hp=>?_
  unfold zaf_;show En (S.runs gi pn _ [xg (.fz (AO A)),xg (GV (.pick n c s)),xg (.int a),xh]) _
  by_cases h1:1<=c/\c<=36
  ·have ch:=znm_ (o:=.le) (o':=.le) (x:=.int 1) (y:=.int c) (r:=.ok (.int 36)) (show leD (.int 1) (.int c)=_ by rw[zjA_,decide_eq_true h1.1])
   rw[rn_i (e1:=[xg (.fz (AO A)),xg (GV (.pick n c s)),xg (.int a),xh]) (by exists hp,zN_,i2,ch,decide_eq_true h1.2)]
   have et:told A a (.pick n c s)=(decide (n=A.dk) && decide (a=0)):=by show(decide (1<=c) && decide (c<=36) && (decide (n=A.dk) && decide (a=0)))=_;rw[decide_eq_true h1.1,decide_eq_true h1.2];rfl
   rw[et,rn_i (e1:=[xg (.fz (AO A)),xg (GV (.pick n c s)),xg (.int a),xh]) (by exists hp,zN_,i0,show decide (WPi=[100,101,97,108])=xk from rfl)]
   have hi:=in_ls n [A.dk];have hi:inA xk (.str n) (.nd .lst [.str A.dk])=.ok (.bl (decide (n=A.dk))):=by rw[show decide (n=A.dk)=decide (n∈[A.dk]) by simp];exact hi
   have v1:(D.nd .lst [D.str A.dk]).vw=.fz (.nd .lst [.str A.dk]):=rfl
   exists hp,zN_,i0,i1,zq_,zdb_,show decide (WPi=[100,101,97,108])=xk from rfl,v1,hi
   fail "q"
  ·have et:told A a (.pick n c s)=xk:=by
    show(decide (1<=c) && decide (c<=36) && (decide (n=A.dk) && decide (a=0)))=_
    by_cases z:1<=c
    ·rw[decide_eq_false (show¬c<=36 from λy=>h1 ⟨z,y⟩)];simp
    ·rw[decide_eq_false z];rfl
   rw[et];by_cases z:1<=c
   ·have ch:=znm_ (o:=.le) (o':=.le) (x:=.int 1) (y:=.int c) (r:=.ok (.int 36)) (show leD (.int 1) (.int c)=_ by rw[zjA_,decide_eq_true z])
    exists hp,zN_,i2,ch,decide_eq_false (show¬c<=36 from λy=>h1 ⟨z,y⟩)
    fail "q"
   ·have ch:=chD_f (o:=.le) (o':=.le) (x:=.int 1) (y:=.int c) (r:=.ok (.int 36)) (show leD (.int 1) (.int c)=_ by rw[zjA_,decide_eq_false z])
    exists hp,zN_,i2,ch
    fail "q"
 |_=>cases hg
noncomputable abbrev PB:List S:=[.if_ (.not (.call zak_ "is_pass" [(.v 3)])) [.asg 2 (.pu (.bin .add (.v 2) (.n 1)))] [.if_ (.not (.call zK_ "is_told_pass" [(.v 0),(.v 3),(.v 2)])) [.ret (.pu (.k (.bl xk)))] []]]
abbrev PF (A:Ak)(gs:List Gg)(x y:Option D):VI.Env:=[xg (.fz (AO A)),xg (.fz (.nd .lst (gs.map GV))),x,y]
theorem zfd_ {A:Ak}(h:OkA A){gs:List Gg}(hl:gs.length<=1000):zaI_.val [.fz (AO A),.fz (.nd .lst (gs.map GV))]=.ok (.bl (isPl A gs)):=by
 have hm:=zmV_ h.md;have hw:=h.wl;refine zD_ rfl rfl λpn hp=>?_
 unfold zcM_;show En (S.runs gi pn _ (PF A gs xh xh)) _
 have v1:(D.fz (.nd .lst (gs.map GV))).vw=.fz (.nd .lst (gs.map GV)):=rfl;have wk:walkA [.nd .lst (gs.map GV)]=.ok (gs.map GV):=rfl;have x1:=xcomp (G:=gi) (env:=(PF A gs xh xh)) (lv:=["going"]) (fr:=[]) (ik:=.any) (src:=[.v 1]) (tg:=⟨xk,[0]⟩) (p:=λg=>!isPs g) (f:=λg:Gg=>g) (o:=GV) (c:=xg (.not (.call zak_ "is_pass" [(.v 0)]))) (e:=.v 0) (items:=gs.map GV) (T:=λx=>[GV x]) gs rfl (by exists v1,wk) (zao_ _ _) (λg hg=>by
  have e0:getE (setE (cE ["going"] [] (PF A gs xh xh)) [0] [GV g]) 0=.ok (GV g):=by show Mq (GV g).vw.vw=_;rw[zN_,zN_]
  exists e0,zN_,znu_) (λg hg _=>by show Mq (GV g).vw.vw=_;rw[zN_,zN_]) (by lia)
 rw[sS]at x1;have ml:(mgo A).length<=1:=by unfold mgo;cases A.md<;>simp
 have x2:addA (.nd .lst (mgo A)) (.nd .lst (A.wk.map (PG A.dk)++[CN A]))=.ok (.nd .lst ((mgG A++lgG A).map GV)):=by
  rw[zg4_ (by rw[nK,nN];simp;lia),lgo_G,mgo_G,oG,zb0_,zmA_,<- oG]
 have x3:X.ev gi (PF A gs xh xh) (.bin .ne (.comp ["going"] [] .any [(.v 1)] ⟨xk,[0]⟩ (xg (.not (.call zak_ "is_pass" [(.v 0)]))) (.v 0)) (.bin .add (.call zt_ "middle_goings" [(.v 0)]) (.call z4_ "last_goings" [(.v 0)])))=.ok (.bl (!decide ((gs.filter λg=>!isPs g).map er=mgG A++lgG A))):=by
  rw[zcV_,x1,zbb_]
  exists zq_,hm,zkj_ h,x2
  have:=zco_ (neg:=xj) (zl8_ (gs.filter λg=>!isPs g) (mgG A++lgG A))
  rw[er_ml]at this;exact this
 by_cases he:(gs.filter λg=>!isPs g).map er=mgG A++lgG A
 ·rw [decide_eq_true he]at x3
  rw[rn_i (e1:=(PF A gs xh xh)) (by rw[S.run,x3];rfl)]
  have ei:isPl A gs=okl A 0 gs:=by unfold isPl;rw[decide_eq_true he];rfl
  rw[ei,zcH_ (d:=.int 0) (by exists hp) (hp _)]
  show En (S.runs gi pn _ (PF A gs (xg (.int 0)) xh)) _
  suffices main:∀(r d:List Gg),gs=d++r->∀(a:Int) (o:Option D),En (seqM (forM (λe x=>match setG pn e [3] x with |some e'=>S.runs gi pn PB e' |none=>.no) (r.map λg=>[GV g]) (PF A gs (xg (.int a)) o)) λe=>S.runs gi pn [.ret (.pu (.k (.bl xj)))] e) λo _=>o=.rt (.bl (okl A a r))\/(o=.nx/\D.bl (okl A a r)=.non) by
   have:=main gs [] rfl 0 xh;rw[S.runs,S.run];have e0:evG gi (PF A gs (xg (.int 0)) xh) [X.v 1]=.ok [.fz (.nd .lst (gs.map GV))] (PF A gs (xg (.int 0)) xh):=by
    show((stX gi _ (.v 1)).bind λd e=>(evG gi e []).bind λgs e'=>.ok (d::gs) e')=_
    have hk:keep (X.ev gi (PF A gs (xg (.int 0)) xh) (.v 1)) (PF A gs (xg (.int 0)) xh) (X.uses (.v 1))=.ok (.fz (.nd .lst (gs.map GV))) (PF A gs (xg (.int 0)) xh):=by
     have:(D.fz (.nd .lst (gs.map GV))).new=xk:=by rw[D.new];rfl
     show keep (.ok (.fz (.nd .lst (gs.map GV)))) _ _=_
     rw[zaV_ _ this];rfl
    rw[zfv_,hk];rfl
   rw[e0];unfold forS;have ht:tgsD ⟨xk,[3]⟩ (gs.map GV)=xg (gs.map λg=>[GV g]):=zao_ _ _
   show En (seqM (match tgsD ⟨xk,[3]⟩ (gs.map GV)with |some xs=>_ |none=>_) _) _
   rw[ht];exact this
  intro r;induction r with
  |nil=>
   intro d hd a o
   exists hp
   fail "q"
  |cons g r ih=>
   intro d hd a o;have st:setG pn (PF A gs (xg (.int a)) o) [3] [GV g]=xg (PF A gs (xg (.int a)) (xg (GV g))):=by exists hp,zN_
   rw[nS];unfold VI.forM;simp only[st];cases hg:isPs g with
   |false=>
    have eo:okl A a (g::r)=okl A (a+1) r:=by show(bif isPs g then _ else _)=_;rw[hg];rfl
    have b1:S.runs gi pn PB (PF A gs (xg (.int a)) (xg (GV g)))=.ok .nx [xg (.fz (AO A)),xg (.fz (.nd .lst (gs.map GV))),xg (.int (a+1)),xg (GV g)]:=by
     exists hp,zN_,znu_,hg
    rw[b1,eo];exact ih (d++[g]) (by rw[hd,pD];rfl) (a+1) (xg (GV g))
   |true=>
    have eo:okl A a (g::r)=(told A a g && okl A a r):=by show(bif isPs g then _ else _)=_;rw[hg];rfl
    have tp:=ziu_ h.md g hg a;rw[eo];cases ht:told A a g with
    |true=>
     have b1:S.runs gi pn PB (PF A gs (xg (.int a)) (xg (GV g)))=.ok .nx (PF A gs (xg (.int a)) (xg (GV g))):=by
      exists hp,zN_,znu_,hg,zq_,tp,ht
     rw[b1,vD];exact ih (d++[g]) (by rw[hd,pD];rfl) a (xg (GV g))
    |false=>
     have b1:S.runs gi pn PB (PF A gs (xg (.int a)) (xg (GV g)))=.ok (.rt (.bl xk)) (PF A gs (xg (.int a)) (xg (GV g))):=by
      exists hp,zN_,znu_,hg,zq_,tp,ht
     rw[b1,sU];exact⟨_,_,rfl,.inl rfl⟩
 ·rw[decide_eq_false he]at x3
  have ei:isPl A gs=xk:=by unfold isPl;rw[decide_eq_false he];rfl
  rw[ei,S.runs,S.run,x3];exact⟨_,_,rfl,.inl rfl⟩
theorem zi0_ (A:Ak):∀(gs:List Gg) (a:Int),okl A a (gs.map er)=okl A a gs
 |[],a=>rfl|g::gs,a=>by
  have e1:isPs (er g)=isPs g:=by cases g<;>rfl
  have e2:told A a (er g)=told A a g:=by cases g<;>rfl
  show(bif isPs (er g)then told A a (er g) && okl A a (gs.map er)else okl A (a+1) (gs.map er))=(bif isPs g then told A a g && okl A a gs else okl A (a+1) gs)
  rw[e1,e2,zi0_ A gs a,zi0_ A gs (a+1)]
theorem zkr_ {A:Ak}{a b:List Gg}(h:a.map er=b.map er):isPl A a=isPl A b:=by
 have key:∀gs:List Gg,isPl A gs=(decide ((gs.map er).filter (λg=>!isPs g)=mgG A++lgG A) && okl A 0 (gs.map er)):=λgs=>by
  unfold isPl;rw[zi0_];congr 2;have:(gs.map er).filter (λg=>!isPs g)=(gs.filter λg=>!isPs g).map er:=by
   rw[List.filter_map];congr 2;funext g;cases g<;>rfl
  rw[this]
 rw[key,key,h]
theorem zen_ {lo hi:Int}{f:Fd}(h1:1<=lo)(h2:hi<=36)(h:InB lo hi f):OkFd f:=⟨by have:=h.1;lia,h.2.1,by have:=h.2.2;lia⟩
theorem mk_ok {lo hi:Int}{pl:Nat->Fd}{N:Nat}{A:Ak}{nm:List Nat}{sg:Int->Nat}(h1:1<=lo)(h2:hi<=36)(hn:OkN A.dk)(k_:OkN nm)(aP:nm≠A.dk)(hp:PkR lo hi sg A.pk)(ax:A.pk.length<=4)(hm:MdR lo hi nm A.md)(ho:∀f∈A.od,InB lo hi f)(gY:A.od.length<=6)(hw:WkR pl lo hi A.wk)(bA:A.wk.length<=N)(hN:N<=4)(jf:∀i,i<N->OkFd (pl i))(fb:∀i,i<N->∀f,InB lo hi f->apt (pl i) f=xj)(je:∀i j,i<N->j<N->i≠j->apt (pl i) (pl j)=xj)(hb:0<=A.br/\A.br<=3/\A.br<=A.od.length)(hs:∀f∈A.su,InB lo hi f)(d9:A.su.length<=4)(hf:1<=A.fg/\A.fg<=12)(jv:A.bd.length<=9)(fJ:(∀w∈A.bd,1<=w.1/\w.1<=40/\1<=w.2/\w.2<=36)/\A.bd.Pairwise λa b=>a.2<b.2):OkA A:=by
 have gX:∀p∈A.pk,OkK sg p:=λp hq=>(hp.2 p hq).1
 have cT:∀(i:Nat) w,A.wk[i]?=xg w->i<N:=λi w e=>by have:=(oA.mp e).1;lia
 have bj:OkM A.dk A.md:=by
  revert hm
  cases A.md with
  |no=>exact λ_=>trivial|fi f=>exact λhm=>zen_ h1 h2 hm|ma w n f g=>exact λhm=>⟨hm.1,by rw[hm.2.1];exact k_,by rw[hm.2.1];exact aP,zen_ h1 h2 hm.2.2.1,hm.2.2.2.1,hm.2.2.2.2⟩
 have lg:∀f∈(midF A.md).take 1,InB lo hi f:=by
  revert hm
  cases A.md with
  |no=>intro _ f hf;cases hf
  |fi g=>intro hm f hf;rw[oE.mp hf];exact hm
  |ma w n g k=>intro hm f hf;rw[oE.mp hf];exact hm.2.2.1
 refine⟨hn,by lia,⟨sg,hp.1,gX⟩,bj,gY,λf hf=>zen_ h1 h2 (ho f hf),by lia,λw hq=>?_,hb,d9,λf hf=>zen_ h1 h2 (hs f hf),hf,jv,fJ,λq hq f hf=>?_⟩
 ·obtain⟨i,hi,e⟩:=sJ hq
  have e':A.wk[i]?=xg w:=by rw[nU hi,e]
  obtain⟨a,b,c,d⟩:=hw i w e';refine⟨by rw[a];exact jf i (cT i w e'),zen_ h1 h2 b,?_,d⟩
  rcases c with c |⟨j,hj,c⟩
  ·exact zen_ h1 h2 c
  ·rw[c];exact jf j (by have:=cT i w e';lia)
 ·obtain⟨i,hi,e1,e2⟩:=zcL_ hq
  have dB:=cT i _ e2;obtain⟨a,_⟩:=hw i _ e2;rw[a];unfold kp at hf;rcases oP.mp hf with hf |hf
  ·rcases oP.mp hf with hf |hf
   ·rcases oP.mp hf with hf |hf
    ·obtain⟨p,hq,rfl⟩:=pJ.mp hf
     obtain⟨⟨z1,_⟩,z2,z3,_⟩:=hp.2 p hq;exact fb i dB _ ⟨z2,z1.2.1,z3⟩
    ·exact fb i dB _ (lg f hf)
   ·exact fb i dB _ (ho f hf)
  ·obtain⟨u,hu,hf⟩:=uY.mp hf
   obtain⟨j,hj,e3,e4⟩:=zcL_ hu;have lq:=cT j _ e4;obtain⟨b1,b2,b3,_⟩:=hw j _ e4;unfold gk at hf;rcases oP.mp hf with hf |hf
   ·split at hf
    ·cases hf
    ·rename_i aP
     rw[oE.mp hf,b1];exact je i j dB lq λz=>aP (by rw[e3,e1,z])
   ·split at hf
    ·rename_i hle
     rw[e3,e1]at hle;have hle:j<=i:=by lia
     simp only[og,pZ,or_false]at hf;rcases hf with rfl |rfl
     ·exact fb i dB _ b2
     ·rcases b3 with b3 |⟨j',fw,b3⟩
      ·exact fb i dB _ b3
      ·rw[b3];exact je i j' dB (by lia) (by lia)
    ·cases hf
def fl (c b:Int):Fd:=(zaR_ c b).choose
theorem fl_eq (c b:Int):zU_.val [.int c,.int b]=.ok (F2 (fl c b)):=(zaR_ c b).choose_spec.1
theorem fl_in (c b:Int):InB b (b+4) (fl c b):=let h:=(zaR_ c b).choose_spec;⟨h.2.1,h.2.2.1,h.2.2.2.1⟩
theorem bd_ok {N:Nat}{g:Nat->Int}{a s:Int}(hN:N<=9)(hg:∀i,0<=g i/\g i<40)(ha:1<=a)(hs:0<s)(hx:a+s*8<=36\/(a+s*4<=36/\N<=5)):(∀w∈(oU N).map λi:Nat=>((1+g i,a+s*(0+(i:Int))):Fd),1<=w.1/\w.1<=40/\1<=w.2/\w.2<=36)/\((oU N).map λi:Nat=>((1+g i,a+s*(0+(i:Int))):Fd)).Pairwise λa b=>a.2<b.2:=by
 have mono:∀i j:Nat,i<j->s*(0+(i:Int))<s*(0+(j:Int)):=λi j h=>Int.mul_lt_mul_of_pos_left (by lia) hs
 have bO:∀i j:Nat,i<=j->s*(0+(i:Int))<=s*(0+(j:Int)):=λi j h=>Int.mul_le_mul_of_nonneg_left (by lia) (by lia)
 refine⟨λw hw=>?_,?_⟩
 ·obtain⟨i,hi,rfl⟩:=pJ.mp hw
  have hi:=pP.mp hi;have:=hg i;have m1:=bO 0 i (by lia)
  have z:s*(0+((0:Nat):Int))=0:=by simp
  refine⟨by show 1<=1+g i;lia,by show 1+g i<=40;lia,by show 1<=a+s*_;lia,?_⟩
  show a+s*(0+(i:Int))<=36
  rcases hx with hx |⟨hx,hN5⟩
  ·have:=bO i 8 (by lia)
   have e:s*(0+((8:Nat):Int))=s*8:=by simp
   lia
  ·have:=bO i 4 (by lia)
   have e:s*(0+((4:Nat):Int))=s*4:=by simp
   lia
 ·rw[uO]
  refine List.pairwise_lt_range.imp λ{i j} h=>?_
  show a+s*_<a+s*_
  have:=mono i j h;lia
section
variable {A:Ak}
theorem AL_nw:(AL A).new=xk:=by
 unfold AL;have:∀l:List Pk,(D.fz (LS PK l)).new=xk:=λl=>zdK_
 simp only[zno_,nw_c,this,sU,rF]
theorem AO_nw:(AO A).new=xj:=by
 show D.news (aFs A)=xj
 unfold aFs;simp only[nw_c,nw_0,zgX_,zgD_,za9_,znx_,tJ]
theorem zdX_:(D.fz (AL A)).vw=.fz (AL A):=rfl
theorem AL_0:ixA (AL A) (.int 0)=.ok (.str A.dk):=rfl
theorem AL_1:ixA (AL A) (.int 1)=.ok (.fz (LS PK A.pk)):=rfl
theorem AL_2:ixA (AL A) (.int 2)=.ok (MD A.md):=by rw[AL_2v,znp_]
theorem AL_3:ixA (AL A) (.int 3)=.ok (.fz (LS F2 A.od)):=rfl
theorem AL_4:ixA (AL A) (.int 4)=.ok (.fz (LS WK A.wk)):=rfl
theorem AL_5:ixA (AL A) (.int 5)=.ok (.int A.br):=rfl
theorem AL_6:ixA (AL A) (.int 6)=.ok (.fz (LS F2 A.su)):=rfl
theorem AL_7:ixA (AL A) (.int 7)=.ok (.int A.fg):=rfl
theorem AL_8:ixA (AL A) (.int 8)=.ok (.fz (LS F2 A.bd)):=rfl
end
theorem narrow5 (ns:List Int){b:Int}(hb:1<=b/\b<=32){x y z:Nat}(hx:x∈SG)(hy:y∈SG)(hz:z∈SG){n1 n2:List Nat}(h1:OkN n1)(h2:OkN n2)(aP:n2≠n1):∃A,(OkA A/\(∀k∈nmt A,k=n2)/\A.dk=n1/\∃pl:Nat->Fd,(∀i j,i≠j->pl i≠pl j)/\∀(i:Nat) w,A.wk[i]?=xg w->w.1=pl i)/\∀pn:Nat->Bool,(∀i,pn i=xk)->En (S.runs gi pn (zX_.drop 3) [xg (scr ns),xg (.int b),xg (LS .str [[x],[y],[z]]),xg (LS .str [n1,n2]),xh,xh,xh,xh,xh,xh,xh]) λo _=>o=.rt (AL A):=by
 obtain⟨md,emd,bj⟩:=zhh_ ns hb n2;obtain⟨ps,sg,eps,ax,bt⟩:=zjS_ ns hb hx hy hz;obtain⟨ws,ews,bA,hws⟩:=zie_ ns hb;have c6:zb_.val [scr ns,.int 6]=.ok (.int (cel ns 6)):=zQ_ ns (by lia) (by lia)
 have ni:zb_.val [scr ns,.int 10]=.ok (.int (cel ns 10)):=zQ_ ns (by lia) (by lia)
 have ng:zb_.val [scr ns,.int 12]=.ok (.int (cel ns 12)):=zQ_ ns (by lia) (by lia)
 have m_:zb_.val [scr ns,.int 14]=.ok (.int (cel ns 14)):=zQ_ ns (by lia) (by lia)
 obtain⟨od,hod⟩:∃od,od=(oU (cel ns 6 % 4).toNat).map λi:Nat=>fl (cel ns (7+(0+(i:Int)))) b:=⟨_,rfl⟩
 obtain⟨su,c_⟩:∃su,su=(oU (cel ns 12 % 3).toNat).map λi:Nat=>fl (cel ns 12 / (3+(0+(i:Int)))) b:=⟨_,rfl⟩
 obtain⟨bd,fJ⟩:∃bd,bd=(oU (cel ns 14 % 5).toNat).map λi:Nat=>((1+(cel ns 14 / 5+11*(0+(i:Int))) % 40,2+3*(0+(i:Int))):Fd):=⟨_,rfl⟩
 have gY:od.length=(cel ns 6 % 4).toNat:=by rw[hod,nN,oW]
 have d9:su.length=(cel ns 12 % 3).toNat:=by rw[c_,nN,oW]
 have jv:bd.length=(cel ns 14 % 5).toNat:=by rw[fJ,nN,oW]
 have ju:(0:Int)<min 3 (od.length:Int)+1:=by lia
 have b0:=qm (cel ns 10) (show min 3 (od.length:Int)+1≠0 by lia)
 have b1:=pU (cel ns 10) ju;refine⟨⟨n1,ps,md,od,ws,cel ns 10 % (min 3 (od.length:Int)+1),su,1+cel ns 14 / 60 % 12,bd⟩,⟨mk_ok (lo:=b) (hi:=b+4) (pl:=plN b) (N:=2) (nm:=n2) hb.1 (by lia) h1 h2 aP bt (by show ps.length<=4;lia) bj (λf hf=>?_) (by show od.length<=6;lia) hws bA (by lia) (λi hi=>?_) (λi hi f hf=>?_) (λi j hi hj ib=>?_) ⟨b0,by show cel ns 10 % (min 3 (od.length:Int)+1)<=3;lia,by show cel ns 10 % (min 3 (od.length:Int)+1)<=(od.length:Int);lia⟩ (λf hf=>?_) (by show su.length<=4;lia) ⟨by show 1<=1+_;lia,by show 1+_<=12;lia⟩ (by show bd.length<=9;lia) ?_,?_,rfl,plN b,λi j h=>?_,λi w e=>(hws i w e).1⟩,λpn hp=>?_⟩
 ·have hf:f∈od:=hf
  rw[hod]at hf;obtain⟨i,_,rfl⟩:=pJ.mp hf;exact fl_in _ _
 ·unfold plN;split
  ·exact⟨by show 1<=33+2*(i:Int);lia,by show 33+2*(i:Int)<=34+2*(i:Int);lia,by show 34+2*(i:Int)<=36;lia⟩
  ·exact⟨by show 1<=1+2*(i:Int);lia,by show 1+2*(i:Int)<=2+2*(i:Int);lia,by show 2+2*(i:Int)<=36;lia⟩
 ·obtain⟨q1,q2,q3⟩:=hf
  unfold plN apt;split
  ·rw[ql];right;exact decide_eq_true (by show f.2<33+2*(i:Int);lia)
  ·rw[ql];left;exact decide_eq_true (by show 2+2*(i:Int)<f.1;lia)
 ·unfold plN apt;split
  ·rw[ql]
   rcases wo i j with q |q
   ·left;exact decide_eq_true (by show 34+2*(i:Int)<33+2*(j:Int);lia)
   ·right;exact decide_eq_true (by show 34+2*(j:Int)<33+2*(i:Int);lia)
  ·rw[ql]
   rcases wo i j with q |q
   ·left;exact decide_eq_true (by show 2+2*(i:Int)<1+2*(j:Int);lia)
   ·right;exact decide_eq_true (by show 2+2*(j:Int)<1+2*(i:Int);lia)
 ·have hf:f∈su:=hf
  rw[c_]at hf;obtain⟨i,_,rfl⟩:=pJ.mp hf;exact fl_in _ _
 ·show(∀w∈bd,_)/\bd.Pairwise _
  rw[fJ];exact bd_ok (g:=λi:Nat=>(cel ns 14 / 5+11*(0+(i:Int))) % 40) (a:=2) (s:=3) (by lia) (λi=>⟨qm _ (by lia),pU _ (by lia)⟩) (by lia) (by lia) (.inl (by lia))
 ·show∀k∈(match md with |.ma _ n _ _=>[n]|_=>[]),k=n2
  cases md with
  |ma w n f g=>intro k hk;rw[oE.mp hk];exact bj.2.1
  |_=>intro k hk;cases hk
 ·unfold plN
  split<;>· intro z;have:=congrArg Prod.fst z;simp only at this;lia
 ·unfold zX_
  simp only[sM,rW];have e1:rng1D [.int (cel ns 6 % 4)]=_:=rg1 (by lia) (by lia)
  have e2:rng1D [.int (cel ns 12 % 3)]=_:=rg1 (by lia) (by lia)
  have e3:rng1D [.int (cel ns 14 % 5)]=_:=rg1 (by lia) (by lia)
  exists hp
  rw[xcompN (f:=λi:Nat=>fl (cel ns (7+(0+(i:Int)))) b) (o:=F2) (T:=λi:Nat=>[.int (0+(i:Int))]) (oU (cel ns 6 % 4).toNat) rfl (by exists c6,e1) (zao_ _ _) (λi hi=>by
   have hi:=pP.mp hi
   exists zQ_ ns (show(0:Int)<=7+(0+(i:Int)) by lia) (by lia),fl_eq) (by rw[oW];lia),<- hod]
  have em:modD (.int (cel ns 10)) (.int (min 3 (od.length:Int)+1))=.ok (.int (cel ns 10 % (min 3 (od.length:Int)+1))):=VI.vd_mod ju
  exists hp,ni,ng,em
  rw[xcompN (f:=λi:Nat=>fl (cel ns 12 / (3+(0+(i:Int)))) b) (o:=F2) (T:=λi:Nat=>[.int (0+(i:Int))]) (oU (cel ns 12 % 3).toNat) rfl (by exists e2) (zao_ _ _) (λi hi=>by
   have hi:=pP.mp hi;have ed:divD (.int (cel ns 12)) (.int (3+(0+(i:Int))))=.ok (.int (cel ns 12 / (3+(0+(i:Int))))):=zcb_ (by lia) (by lia)
   exists ed,fl_eq) (by rw[oW];lia),<- c_]
  exists hp,m_
  rw[xcompN (f:=λi:Nat=>((1+(cel ns 14 / 5+11*(0+(i:Int))) % 40,2+3*(0+(i:Int))):Fd)) (o:=F2) (T:=λi:Nat=>[.int (0+(i:Int))]) (oU (cel ns 14 % 5).toNat) rfl (by exists e3) (zao_ _ _) (λi hi=>by
   have hi:=pP.mp hi;have mT:mulD (.int 11) (.int (0+(i:Int)))=.ok (.int (11*(0+(i:Int)))):=zcR_ (by lia) (by lia)
   have fP:mulD (.int 3) (.int (0+(i:Int)))=.ok (.int (3*(0+(i:Int)))):=zcR_ (by lia) (by lia)
   exists mT,fP
   rfl) (by rw[oW];lia),<- fJ]
  have i0:ixA (LS .str [n1,n2]) (.int 0)=.ok (.str n1):=rfl;have i1:ixA (LS .str [n1,n2]) (.int 1)=.ok (.str n2):=rfl;have mv:(MD md).vw=MD md:=znp_ _;have mn:(MD md).new=xj:=znx_ _
  exists hp,i0,i1,emd,eps,ews,mv,mn
  have nn:=AL_nw (A:=⟨n1,ps,md,od,ws,cel ns 10 % (min 3 (od.length:Int)+1),su,1+cel ns 14 / 60 % 12,bd⟩);unfold AL at nn ⊢
  exists zaV_ _ nn
  exact⟨_,_,rfl,rfl⟩
theorem zgP_ (ns:List Int):∃A,(OkA A/\(∀k∈nmt A,k≠A.dk/\k.length=A.dk.length)/\∃pl:Nat->Fd,(∀i j,i≠j->pl i≠pl j)/\∀(i:Nat) w,A.wk[i]?=xg w->w.1=pl i)/\zay_.val [scr ns]=.ok (AL A):=by
 have c0:zb_.val [scr ns,.int 0]=.ok (.int (cel ns 0)):=zQ_ ns (by lia) (by lia)
 have nc:zb_.val [scr ns,.int 13]=.ok (.int (cel ns 13)):=zQ_ ns (by lia) (by lia)
 obtain⟨x,y,z,es,hx,hy,hz⟩:=zjo_ (cel ns 0 / 32);obtain⟨n1,n2,en,h1,h2,aP,hle⟩:=zd8_ (cel ns 13);obtain⟨A,⟨hA,hk,hd,hp⟩,ea⟩:=narrow5 ns (b:=1+cel ns 0 % 32) ⟨by lia,by lia⟩ hx hy hz h1 h2 aP
 refine⟨A,⟨hA,λk h=>by rw[hk k h,hd];exact⟨aP,hle⟩,hp⟩,zD_ rfl rfl λpn hp=>?_⟩
 obtain⟨o,e,e1,e2⟩:=ea pn hp;refine⟨o,e,?_,.inl e2⟩;rw[<- e1];unfold zX_;rw[zcH_ (d:=.int (1+cel ns 0 % 32)) (by exists c0) (hp _)]
 rw[zcH_ (d:=LS .str [[x],[y],[z]]) (by exists c0,es) (hp _)]
 rw[zcH_ (d:=LS .str [n1,n2]) (by exists nc,en) (hp _)]
 rfl
def GL (gs:List Gg):D:=.nd .lst (gs.map GV)
theorem GL_vw (gs:List Gg):(GL gs).vw=.fz (GL gs):=rfl
theorem zcO_ (gs:List Gg):(D.fz (GL gs)).vw=.fz (GL gs):=rfl
theorem ziE_ (gs:List Gg):lenA [GL gs]=.ok (.int (gs.length:Nat)):=by show Mq (D.int ((gs.map GV).length:Nat))=_;rw[nN]
theorem zax_ {a b:List Gg}(h:a.length+b.length<=1000):addA (GL a) (GL b)=.ok (GL (a++b)):=by
 unfold GL;rw[zg4_ (by rw[nN,nN];lia),<- oG,zb0_]
theorem zoS_ (gs:List Gg)(lo hi:Option Int):slA (GL gs) lo hi=.ok (GL (cutG gs lo hi)):=by
 show Mq (D.nd .lst ((cutG (gs.map GV) lo hi).map .vw))=_
 rw[zfj_,zb0_];rfl
theorem zj0_ {gs:List Gg}{i:Int}{g:Gg}(h0:0<=i)(h:gs[i.toNat]?=xg g):ixA (GL gs) (.int i)=.ok (GV g):=by
 show Mo.opt ((atI (gs.map GV) i).map D.vw)=_
 rw[VI.atI_nn (a:=GV g) h0 (by rw[om,h];rfl)]
 show Mq (GV g).vw=_;rw[zN_]
theorem GL_1 (g:Gg):D.nd .lst [GD g]=.nd .lst [GD g]:=rfl
theorem znk_ {a:List Gg}{d:D}{g:Gg}(hd:d.vw=GV g)(h:a.length<=1000):addA (GL a) (.nd .lst [d])=.ok (GL (a++[g])):=by
 unfold GL;rw[zg4_ (by rw[nN];simp;lia),oG,zb0_,oG]
 show Mq (D.nd .lst (a.map GV++[d.vw]))=_
 rw[hd];rfl
theorem zhN_ {b:List Gg}{d:D}{g:Gg}(hd:d.vw=GV g)(h:b.length<=1000):addA (.nd .lst [d]) (GL b)=.ok (GL (g::b)):=by
 unfold GL;rw[zg4_ (by rw[nN];simp;lia),oG,zb0_]
 show Mq (D.nd .lst ([d.vw]++b.map GV))=_
 rw[hd];rfl
theorem zqc_ {gs:List Gg}(h:∀g∈gs,(GV g).new=xj):(GL gs).new=xj:=by
 unfold GL;rw[D.new];induction gs with
 |nil=>rw[qg,D.news]|cons g gs ih=>rw[nS,D.news,h g nV,ih λx hx=>h x (nY _ hx)];rfl
noncomputable def putG (gs:List Gg)(a:Int)(g:Gg):List Gg:=gs.take (a % ((gs.length:Int)+1)).toNat++g::gs.drop (a % ((gs.length:Int)+1)).toNat
theorem zek_ {α:Type}(xs:List α){k:Int}(h:0<=k):cutG xs xh (xg k)=xs.take k.toNat:=zbR_ h
theorem zdk_ {gs:List Gg}(hl:gs.length<=900)(a:Int)(g:Gg){env:VI.Env}{x y z:X}(hx:x.ev gi env=.ok (.fz (GL gs)))(hy:y.ev gi env=.ok (.int a)){d:D}(hz:z.ev gi env=.ok d)(hd:d.vw=GV g):X.ev gi env (zG_ [x,y,z])=.ok (GL (putG gs a g)):=by
 have key:zaZ_.val [.fz (GL gs),.int a,GV g]=.ok (GL (putG gs a g)):=by
  have hc:D.colds [.fz (GL gs),.int a,GV g]=xj:=by show(xj && (xj && ((GV g).cold && xj)))=xj;rw[coldG];rfl
  have jg:(0:Int)<(gs.length:Int)+1:=by lia
  have m0:=qm a (show(gs.length:Int)+1≠0 by lia)
  have m1:=pU a jg;refine zD_ rfl hc λpn hp=>?_
  unfold zc7_;show En (S.runs gi pn _ [xg (.fz (GL gs)),xg (.int a),xg (GV g)]) _
  have em:modD (.int a) (.int ((gs.length:Int)+1))=.ok (.int (a % ((gs.length:Int)+1))):=VI.vd_mod jg;unfold putG
  generalize a % ((gs.length:Int)+1)=k at em m0 m1 ⊢
  rw[zcH_ (d:=.int k) (by exists hp,zcO_,ziE_,em) (hp _)]
  show En (S.runs gi pn _ [xg (.fz (GL gs)),xg (.int k),xg (GV g)]) _
  have e1:=znk_ (a:=gs.take k.toNat) (d:=GV g) (g:=g) (zN_ g) (by rw[oJ];lia)
  have e2:=zax_ (a:=gs.take k.toNat++[g]) (b:=gs.drop k.toNat) (by simp;lia)
  have e3:gs.take k.toNat++[g]++gs.drop k.toNat=gs.take k.toNat++g::gs.drop k.toNat:=by simp
  rw[e3]at e2;have xe:X.ev gi [xg (.fz (GL gs)),xg (.int k),xg (GV g)] (.bin .add (.bin .add (.sl (.v 0) xh (xg (.v 1))) (.lst [(.v 2)])) (.sl (.v 0) (xg (.v 1)) xh))=.ok (GL (gs.take k.toNat++g::gs.drop k.toNat)):=by
   exists zcO_,zoS_,zN_,zek_ gs m0,zcK_ m0,e1,e2
  rw[S.runs,S.run,zgd_,xe];unfold keep;dsimp only;split<;>exact⟨_,_,rfl,.inl rfl⟩
 rw[zhS_,xs_c,hx,zbb_,xs_c,hy,zbb_,xs_c,hz,zbb_,xs_0,zbb_,zbb_,zbb_,zbb_];show zaZ_.val [.fz (GL gs),.int a,d.vw]=_
 rw[hd];exact key
def Pw (A:Ak)(w:Int)(g:Gg):Prop:=∃c:Int,1<=c/\c<=36/\((w=0/\(g=.deal A.dk c\/∃s,g=.pick A.dk c s))\/(w=1/\∃k∈nmt A,g=.deal k c)\/(w=2/\g=.deal A.dk c))
theorem ix5 (y:Int):∃s,ixA (.str [48,65,90,32,57]) (.int (y % 5))=.ok (.str s):=by
 obtain⟨s,e,_⟩:=zdJ_ (xs:=[48,65,90,32,57]) (by lia) (show y % 5<((5:Nat):Int) by lia)
 refine⟨[s],?_⟩;show Mo.lim 5 (Mo.opt ((atI [48,65,90,32,57] (y % 5)).map λc=>D.str [c]))=_
 rw[Mo.lim_ok (by lia),e];rfl
theorem zp4_ (ns:List Int)(lo hi:Option Int):slA (scr ns) lo hi=.ok (LS .int (cutG ns lo hi)):=by
 show Mq (D.nd .lst ((cutG (ns.map D.int) lo hi).map .vw))=_
 rw[zfj_,zfx_];rfl
abbrev FR (ns:List Int)(A:Ak)(w:Int)(gs:List Gg)(c cc:Int):VI.Env:=[xg (scr ns),xg (.fz (AL A)),xg (.int w),xg (GL gs),xg (.int c),xg (.int cc)]
abbrev PI (ns:List Int)(A:Ak)(w:Int)(d:List Int)(e:VI.Env):Prop:=∃gs x y,e=[xg (scr ns),xg (.fz (AL A)),xg (.int w),xg (GL gs),x,y]/\gs.length<=d.length/\∀g∈gs,Pw A w g
theorem zct_ (ns:List Int){A:Ak}(hm:OkM A.dk A.md)(w:Int):∃gs:List Gg,z0_.val [scr ns,.fz (AL A),.int w]=.ok (GL gs)/\gs.length<=24/\∀g∈gs,Pw A w g:=by
 have key:∀pn:Nat->Bool,(∀i,pn i=xk)->En (S.runs gi pn z3_ ([scr ns,.fz (AL A),.int w].map xg++ou 3 xh)) λo _=>∃gs:List Gg,o=.rt (GL gs)/\gs.length<=24/\∀g∈gs,Pw A w g:=λpn hp=>by
  unfold z3_;show En (S.runs gi pn _ [xg (scr ns),xg (.fz (AL A)),xg (.int w),xh,xh,xh]) _
  rw[zcH_ (d:=GL []) (by exists hp;rfl) (hp _)]
  show En (S.runs gi pn _ [xg (scr ns),xg (.fz (AL A)),xg (.int w),xg (GL []),xh,xh]) _
  have aT:(cutG ns (xg 15) (xg 39)).length<=24:=pX (List.length_take_le _ _) (by show min 39 ns.length-min 15 ns.length<=24;lia)
  refine zcX_ (l:=cutG ns (xg 15) (xg 39)) (enc:=λc=>[.int c]) (d:=LS .int (cutG ns (xg 15) (xg 39))) (PI ns A w) (by exists zcI_,zp4_) rfl (zao_ _ _) ⟨[],xh,xh,rfl,nZ _,λ_ h=>by cases h⟩ (λd c r e hl he=>?_) λe he=>?_
  ·obtain⟨gs,x,y,rfl,hgl,hP⟩:=he
   have lB:d.length<24:=by have:=congrArg pS hl;simp at this;lia
   refine⟨[xg (scr ns),xg (.fz (AL A)),xg (.int w),xg (GL gs),xg (.int c),y],(by exists hp),?_⟩
   rw[zcH_ (d:=.int (1+c / 4 % 36)) (by exists hp) (hp _)]
   show En (S.runs gi pn _ [xg (scr ns),xg (.fz (AL A)),xg (.int w),xg (GL gs),xg (.int c),xg (.int (1+c / 4 % 36))]) _
   have col:1<=1+c / 4 % 36/\1+c / 4 % 36<=36:=by lia
   generalize 1+c / 4 % 36=cc at col ⊢
   have fin:∀(g:Gg),isPs g=xj->Pw A w g->∀{xx:X},keep (xx.ev gi (FR ns A w gs c cc)) (FR ns A w gs c cc) xx.uses=.ok (GD g) (FR ns A w gs c cc)->En (S.runs gi pn [.ex (.bm .append 3 [xx])] (FR ns A w gs c cc)) λo e=>o=.nx/\PI ns A w (d++[c]) e:=λg hg kR xx hx=>by
    have lx:GD g=GV g:=by cases g<;>first |rfl |cases hg
    have y1:Y.ev gi (.bm .append 3 [xx]) (FR ns A w gs c cc)=.ok .non [xg (scr ns),xg (.fz (AL A)),xg (.int w),xg (GL (gs++[g])),xg (.int c),xg (.int cc)]:=by
     rw[bm_v];show(keep _ _ _).bind _=_
     rw[hx,zhi_];show call1 appendF 3 [GD g] _=_
     rw[zdz_ (c:=GL gs) (c':=GL (gs++[g])) (r:=.non) (ds':=[.gone]) rfl (by
      have:=zkH_ (xs:=gs.map GV) (d:=GD g) (by rw[nN];lia)
      unfold GL;rw[oG,this,lx];rfl)]
     rfl
    rw[S.runs,S.run,y1,zl7_,zcP_];refine⟨_,_,rfl,rfl,_,_,_,rfl,by rw[nK,nK];simp;lia,λx hx=>?_⟩
    rcases oP.mp hx with hx |hx
    ·exact hP x hx
    ·rw[oE.mp hx];exact kR
   have skip:∀{o e},o=Fl.nx->e=(FR ns A w gs c cc)->(o=.nx/\PI ns A w (d++[c]) e):=λho he=>⟨ho,gs,_,_,he,by rw[nK];lia,hP⟩
   have done:∀{r:Mr VI.Env Fl},(En r λo e=>o=.nx/\PI ns A w (d++[c]) e)->En (seqM r λe=>S.runs gi pn [] e) λo e=>((o=.nx\/o=.ct)/\PI ns A w (d++[c]) e)\/((∃v,o=.rt v)/\∃gs,o=.rt (GL gs)/\gs.length<=24/\∀g∈gs,Pw A w g):=λ{r} h=>by
    obtain⟨o,e,rfl,rfl,h⟩:=h;exact⟨_,_,rfl,.inl ⟨.inl rfl,h⟩⟩
   have aV:∀{r:Mr VI.Env Fl},(En r λo e=>o=.nx/\PI ns A w (d++[c]) e)->En (seqM r λe=>S.runs gi pn [] e) λo e=>o=.nx/\PI ns A w (d++[c]) e:=λ{r} h=>by
    obtain⟨o,e,rfl,rfl,h⟩:=h;exact⟨_,_,rfl,rfl,h⟩
   obtain⟨s,es⟩:=ix5 (c / 144);rw[S.runs,S.run];by_cases a1:c % 4=2/\w=0
   ·have x1:(X.ev gi (FR ns A w gs c cc) (.and (.bin .eq (.bin .mod (.v 4) (.n 4)) (.n 2)) (.bin .eq (.v 2) (.n 0)))).bind blD=.ok xj:=by
     exists decide_eq_true a1.1,decide_eq_true a1.2
    rw[x1,zg8_];refine done (fin (.pick A.dk cc s) rfl ⟨cc,col.1,col.2,.inl ⟨a1.2,.inr ⟨s,rfl⟩⟩⟩ ?_)
    exists zdX_,AL_0,es
    rfl
   ·have x1:(X.ev gi (FR ns A w gs c cc) (.and (.bin .eq (.bin .mod (.v 4) (.n 4)) (.n 2)) (.bin .eq (.v 2) (.n 0)))).bind blD=.ok xk:=by
     have:(decide (c % 4=2) && decide (w=0))=xk:=by rw[<- tT,aW,decide_eq_true_eq,decide_eq_true_eq];exact a1
     exists this
    rw[x1,zle_];refine done ?_;rw[S.runs,S.run];by_cases a2:(c % 4=3/\w=1)/\nmt A≠[]
    ·obtain⟨ww,k,f,g,bj⟩:∃ww k f g,A.md=.ma ww k f g:=by
      have:=a2.2;unfold nmt at this;cases h:A.md with
      |ma ww k f g=>exact⟨_,_,_,_,rfl⟩|_=>rw[h]at this;exact absurd rfl this
     have gS:ww≠WFi:=by
      rw[bj]at hm;rcases hm.1 with h |h<;>rw[h]<;>decide
     have bK:ixA (AL A) (.int 2)=.ok (MD (.ma ww k f g)):=by rw[AL_2,bj]
     have i0:ixA (MD (.ma ww k f g)) (.int 0)=.ok (.str ww):=rfl;have i1:ixA (MD (.ma ww k f g)) (.int 1)=.ok (.str k):=rfl;have iz:isD xj (MD (.ma ww k f g)) .non=.ok (.bl xj):=rfl;have cZ:decide (ww=[102,105,114,115,116])=xk:=decide_eq_false gS;have x2:(X.ev gi (FR ns A w gs c cc) (.and (.bin .eq (.bin .mod (.v 4) (.n 4)) (.n 3)) (.and (.bin .eq (.v 2) (.n 1)) (.and (.bin .isn (.i (.v 1) 2) (.k .non)) (.bin .ne (.i (.i (.v 1) 2) 0) (.k (.str [102,105,114,115,116]))))))).bind blD=.ok xj:=by
      exists decide_eq_true a2.1.1,decide_eq_true a2.1.2,zdX_,bK,i0,iz,cZ
      all_goals rfl
     rw[x2,zg8_];refine aV (fin (.deal k cc) rfl ⟨cc,col.1,col.2,.inr (.inl ⟨a2.1.2,k,by unfold nmt;rw[bj];exact oE.mpr rfl,rfl⟩)⟩ ?_)
     exists zdX_,bK,i1
     rfl
    ·have x2:(X.ev gi (FR ns A w gs c cc) (.and (.bin .eq (.bin .mod (.v 4) (.n 4)) (.n 3)) (.and (.bin .eq (.v 2) (.n 1)) (.and (.bin .isn (.i (.v 1) 2) (.k .non)) (.bin .ne (.i (.i (.v 1) 2) 0) (.k (.str [102,105,114,115,116]))))))).bind blD=.ok xk:=by
      by_cases b1:c % 4=3
      ·by_cases b2:w=1
       ·have hn:nmt A=[]:=Classical.byContradiction λz=>a2 ⟨⟨b1,b2⟩,z⟩
        unfold nmt at hn;cases bj:A.md with
        |no=>
         have bK:ixA (AL A) (.int 2)=.ok .non:=by rw[AL_2,bj];rfl
         have iz:isD xj .non .non=.ok (.bl xk):=rfl
         exists decide_eq_true b1,decide_eq_true b2,zdX_,bK,iz
         all_goals rfl
        |fi f=>
         have bK:ixA (AL A) (.int 2)=.ok (MD (.fi f)):=by rw[AL_2,bj]
         have i0:ixA (MD (.fi f)) (.int 0)=.ok (.str WFi):=rfl;have iz:isD xj (MD (.fi f)) .non=.ok (.bl xj):=rfl
         exists decide_eq_true b1,decide_eq_true b2,zdX_,bK,i0,iz,show decide (WFi=[102,105,114,115,116])=xj from rfl
         all_goals rfl
        |ma ww k f g=>rw[bj]at hn;cases hn
       ·exists decide_eq_true b1,decide_eq_false b2
        all_goals rfl
      ·exists decide_eq_false b1
     rw[x2,zle_];refine aV ?_;rw[S.runs,S.run];by_cases a3:c % 4=1/\w=2
     ·have x3:(X.ev gi (FR ns A w gs c cc) (.and (.bin .eq (.bin .mod (.v 4) (.n 4)) (.n 1)) (.bin .eq (.v 2) (.n 2)))).bind blD=.ok xj:=by
       exists decide_eq_true a3.1,decide_eq_true a3.2
      rw[x3,zg8_];refine aV (fin (.deal A.dk cc) rfl ⟨cc,col.1,col.2,.inr (.inr ⟨a3.2,rfl⟩)⟩ ?_)
      exists zdX_,AL_0
      rfl
     ·have x3:(X.ev gi (FR ns A w gs c cc) (.and (.bin .eq (.bin .mod (.v 4) (.n 4)) (.n 1)) (.bin .eq (.v 2) (.n 2)))).bind blD=.ok xk:=by
       have:(decide (c % 4=1) && decide (w=2))=xk:=by rw[<- tT,aW,decide_eq_true_eq,decide_eq_true_eq];exact a3
       exists this
      rw[x3,zle_];refine aV ?_;rw[S.runs,S.run];by_cases a4:c % 4=0/\w=0
      ·have x4:(X.ev gi (FR ns A w gs c cc) (.and (.bin .eq (.bin .mod (.v 4) (.n 4)) (.n 0)) (.bin .eq (.v 2) (.n 0)))).bind blD=.ok xj:=by
        exists decide_eq_true a4.1,decide_eq_true a4.2
       rw[x4,zg8_];refine aV (fin (.deal A.dk cc) rfl ⟨cc,col.1,col.2,.inl ⟨a4.2,.inl rfl⟩⟩ ?_)
       exists zdX_,AL_0
       rfl
      ·have x4:(X.ev gi (FR ns A w gs c cc) (.and (.bin .eq (.bin .mod (.v 4) (.n 4)) (.n 0)) (.bin .eq (.v 2) (.n 0)))).bind blD=.ok xk:=by
        have:(decide (c % 4=0) && decide (w=0))=xk:=by rw[<- tT,aW,decide_eq_true_eq,decide_eq_true_eq];exact a4
        exists this
       rw[x4,zle_,S.runs,zcP_,S.runs];exact⟨_,_,rfl,skip rfl rfl⟩
  ·obtain⟨gs,x,y,rfl,hgl,hP⟩:=he
   exists hp
   exact⟨_,_,rfl,gs,rfl,by lia,hP⟩
 have hf:z0_=fnOf gi 3 3 z3_:=rfl;obtain⟨o,e,h1,l,rfl,h2⟩:=key (pins [scr ns,.fz (AL A),.int w]) (za1_ rfl);exact⟨l,by rw[hf];exact zfB_ (zgU_ rfl rfl h1),h2⟩
theorem zm5_ {A:Ak}(h:OkM A.dk A.md):zv_.val [.fz (AL A)]=.ok (GL (mgG A)):=by
 obtain⟨a,b,m,r⟩:=A;cases m with
 |no=>rfl|fi=>rfl|ma w n f g=>rcases h.1 with rfl |rfl<;>rfl
def nxF (f:Fd):Fd:=if 1<f.1 then(f.1-1,f.2-1)else(f.1+1,f.2+1)
theorem znv_ (f:Fd):nxF f≠f:=λz=>by
 have:=congrArg Prod.fst z;unfold nxF at this;split at this<;>simp only at this<;>lia
theorem zd7_ (f:Fd):zbe_.val [F2 f]=.ok (F2 (nxF f)):=by
 refine zD_ rfl rfl λpn hp=>?_
 unfold zcc_ nxF;by_cases h:1<f.1
 ·rw[if_pos h]
  exists hp,zbn_,F2_0,F2_1,decide_eq_true h
  fail "q"
 ·rw[if_neg h]
  exists hp,zbn_,F2_0,F2_1,decide_eq_false h
  fail "q"
theorem tadd {xs ys:List D}(hx:xs≠[])(hy:ys≠[])(h:xs.length+ys.length<=1000):addA (.nd .tup xs) (.nd .tup ys)=.ok (.nd .tup ((xs++ys).map .vw)):=by
 cases xs with
 |nil=>exact absurd rfl hx|cons a xs=>cases ys with
  |nil=>exact absurd rfl hy|cons b ys=>show Mo.lim ((a::xs).length+(b::ys).length) _=_;rw[Mo.lim_ok (by lia)]
theorem ad_s {a b:List Nat}(h:a.length+b.length<=1000):addA (.str a) (.str b)=.ok (.str (a++b)):=by
 show Mo.lim _ _=_;rw[Mo.lim_ok (by lia)]
def swW (w:Jx):List Nat:=if w=WMa then WWi else WMa
def nxO (w:Jx):List Nat:=if w=[112,108,117,115]then[108,101,115,115]else if w=[108,101,115,115]then[116,105,109,101,115]else[112,108,117,115]
structure Ot (g:Gg)(c:Int)(g':Gg):Prop where
 ev:∃d,zae_.val [GV g,.int c]=.ok d/\d.vw=GV g'
 ps:isPs g'=xk
 ne:er g'≠er g
theorem c4 (c:Int):c % 4=0\/c % 4=1\/c % 4=2\/c % 4=3:=by lia
theorem dI (a b:Int)(h:¬a=b):decide (a=b)=xk:=decide_eq_false h
section
variable {pn:Nat->Bool}
theorem wf_1:decide (WFi=[102,105,114,115,116])=xj:=rfl
theorem wm_0:decide (WMt=[102,105,114,115,116])=xk:=rfl
theorem wm_1:decide (WMt=[109,97,116,101])=xj:=rfl
theorem wp_0:decide (WPu=[102,105,114,115,116])=xk:=rfl
theorem wp_1:decide (WPu=[109,97,116,101])=xk:=rfl
theorem wp_2:decide (WPu=[112,117,110,99,104])=xj:=rfl
theorem wc_0:decide (WCo=[102,105,114,115,116])=xk:=rfl
theorem wc_1:decide (WCo=[109,97,116,101])=xk:=rfl
theorem wc_2:decide (WCo=[112,117,110,99,104])=xk:=rfl
theorem hd_vw (g:Gg):(D.str (hdG g)).vw=.str (hdG g):=rfl
theorem ziS_ (n:Jx)(f:Fd)(c:Int):Ot (.first n f) c (.first n (nxF f)):=by
 refine⟨⟨GD (.first n (nxF f)),zD_ rfl (by show((GV (.first n f)).cold && xj)=xj;rw[coldG];rfl) λpn hp=>?_,zb3_ _⟩,rfl,λz=>znv_ f (by injection z)⟩
 unfold zf_;have i0:ixA (GV (.first n f)) (.int 0)=.ok (.str WFi):=rfl;have i2:ixA (GV (.first n f)) (.int 2)=.ok (F2 f):=rfl;have s2:slA (GV (.first n f)) xh (xg 2)=.ok (.nd .tup [.str WFi,.str n]):=rfl;have t1:addA (.nd .tup [.str WFi,.str n]) (.nd .tup [F2 (nxF f)])=.ok (GD (.first n (nxF f))):=tadd (by simp) (by simp) (by simp)
 have nw:(GD (.first n (nxF f))).new=xj:=zbr_ _ rfl
 exists hp,zN_,i0,i2,wf_1,s2,zd7_,zbn_,t1,nw
 fail "q"
theorem zmW_ {w:List Nat}(hw:w=WMa\/w=WWi)(n:Jx){k:List Nat}(hk:k.length<=100)(f g:Fd)(c:Int):∃g',Ot (.mate n k f g w) c g':=by
 have i0:ixA (GV (.mate n k f g w)) (.int 0)=.ok (.str WMt):=rfl;have i2:ixA (GV (.mate n k f g w)) (.int 2)=.ok (.str k):=rfl;have i3:ixA (GV (.mate n k f g w)) (.int 3)=.ok (F2 f):=rfl;have i4:ixA (GV (.mate n k f g w)) (.int 4)=.ok (F2 g):=rfl;have i5:ixA (GV (.mate n k f g w)) (.int 5)=.ok (.str w):=rfl;have hc:D.colds [GV (.mate n k f g w),.int c]=xj:=rfl;have nw:∀k f g w,(GD (.mate n k f g w)).new=xj:=λ_ _ _ _=>zbr_ _ rfl
 rcases c4 c with h |h |h |h
 ·refine⟨.mate n (k++[113]) f g w,⟨GD (.mate n (k++[113]) f g w),zD_ rfl hc λpn hp=>?_,zb3_ _⟩,rfl,λz=>?_⟩
  ·unfold zf_
   have s2:slA (GV (.mate n k f g w)) xh (xg 2)=.ok (.nd .tup [.str WMt,.str n]):=rfl;have s3:slA (GV (.mate n k f g w)) (xg 3) xh=.ok (.nd .tup [F2 f,F2 g,.str w]):=rfl;have a1:=ad_s (a:=k) (b:=[113]) (by simp;lia)
   have t1:addA (.nd .tup [.str WMt,.str n]) (.nd .tup [.str (k++[113])])=.ok (.nd .tup [.str WMt,.str n,.str (k++[113])]):=tadd (by simp) (by simp) (by simp)
   have t2:addA (.nd .tup [.str WMt,.str n,.str (k++[113])]) (.nd .tup [F2 f,F2 g,.str w])=.ok (GD (.mate n (k++[113]) f g w)):=tadd (by simp) (by simp) (by simp)
   exists hp,zN_,i0,i2,wm_0,wm_1,h,decide_true,s2,s3,a1,t1,t2,nw
   fail "q"
  ·injection z with _ z;have:=congrArg pS z;simp at this
 ·refine⟨.mate n k (nxF f) g w,⟨GD (.mate n k (nxF f) g w),zD_ rfl hc λpn hp=>?_,zb3_ _⟩,rfl,λz=>?_⟩
  ·unfold zf_
   have s2:slA (GV (.mate n k f g w)) xh (xg 3)=.ok (.nd .tup [.str WMt,.str n,.str k]):=rfl;have s3:slA (GV (.mate n k f g w)) (xg 4) xh=.ok (.nd .tup [F2 g,.str w]):=rfl;have t1:addA (.nd .tup [.str WMt,.str n,.str k]) (.nd .tup [F2 (nxF f)])=.ok (.nd .tup [.str WMt,.str n,.str k,F2 (nxF f)]):=tadd (by simp) (by simp) (by simp)
   have t2:addA (.nd .tup [.str WMt,.str n,.str k,F2 (nxF f)]) (.nd .tup [F2 g,.str w])=.ok (GD (.mate n k (nxF f) g w)):=tadd (by simp) (by simp) (by simp)
   exists hp,zN_,i0,i3,wm_0,wm_1,h,dI 1 0 (by lia),decide_true,s2,s3,zd7_,zbn_,t1,t2,nw
   fail "q"
  ·injection z with _ _ z;exact znv_ f z
 ·refine⟨.mate n k f (nxF g) w,⟨GD (.mate n k f (nxF g) w),zD_ rfl hc λpn hp=>?_,zb3_ _⟩,rfl,λz=>?_⟩
  ·unfold zf_
   have s2:slA (GV (.mate n k f g w)) xh (xg 4)=.ok (.nd .tup [.str WMt,.str n,.str k,F2 f]):=rfl;have t1:addA (.nd .tup [.str WMt,.str n,.str k,F2 f]) (.nd .tup [F2 (nxF g),.str w])=.ok (GD (.mate n k f (nxF g) w)):=tadd (by simp) (by simp) (by simp)
   exists hp,zN_,i0,i4,i5,wm_0,wm_1,h,dI 2 0 (by lia),dI 2 1 (by lia),decide_true,s2,zd7_,zbn_,t1,nw
   fail "q"
  ·injection z with _ _ _ z;exact znv_ g z
 ·refine⟨.mate n k f g (swW w),⟨GD (.mate n k f g (swW w)),zD_ rfl hc λpn hp=>?_,zb3_ _⟩,rfl,λz=>?_⟩
  ·unfold zf_
   have s2:slA (GV (.mate n k f g w)) xh (xg 5)=.ok (.nd .tup [.str WMt,.str n,.str k,F2 f,F2 g]):=rfl;have t1:addA (.nd .tup [.str WMt,.str n,.str k,F2 f,F2 g]) (.nd .tup [.str (swW w)])=.ok (GD (.mate n k f g (swW w))):=tadd (by simp) (by simp) (by simp)
   have dd:∃q,dspD [.str [109,97,116,101,115],.str [119,105,116,104,111,117,116],.str [119,105,116,104,111,117,116],.str [109,97,116,101,115]]=.ok q/\ixA q (.str w)=.ok (.str (swW w)):=by
    rcases hw with rfl |rfl<;>exact⟨_,rfl,rfl⟩
   obtain⟨q,d1,d2⟩:=dd
   exists hp,zN_,i0,i5,wm_0,wm_1,h,dI 3 0 (by lia),dI 3 1 (by lia),dI 3 2 (by lia),s2,zoo_,d1,d2,t1,nw
   fail "q"
  ·injection z with _ _ _ _ z
   rcases hw with rfl |rfl
   ·exact absurd z (by decide)
   ·exact absurd z (by decide)
abbrev PU (n:Jx)(to one:Fd)(sn:Jx)(aj:Fd)(c:Int):VI.Env:=[xg (GV (.punch n (to,one,sn,aj))),xg (.int c),xg (.str WPu),xh,xh,xh,xh]
theorem zjG_ (n:Jx){w:Wk}(hw:w.2.2.1∈WWo)(c:Int):∃g',Ot (.punch n w) c g':=by
 have i0:ixA (GV (.punch n w)) (.int 0)=.ok (.str WPu):=rfl;have i2:ixA (GV (.punch n w)) (.int 2)=.ok (WK w):=rfl;have hc:D.colds [GV (.punch n w),.int c]=xj:=rfl;have nw:∀w,(GD (.punch n w)).new=xj:=λ_=>zbr_ _ rfl
 have s2:slA (GV (.punch n w)) xh (xg 2)=.ok (.nd .tup [.str WPu,.str n]):=rfl;obtain⟨to,one,sn,aj⟩:=w;have tk:tgD ⟨xj,[3,4,5,6]⟩ (WK (to,one,sn,aj))=xg [F2 to,F2 one,.str sn,F2 aj]:=rfl;have kw:(WK (to,one,sn,aj)).new=xj:=zbr_ _ rfl;have t1:∀to one sn aj,addA (.nd .tup [.str WPu,.str n]) (.nd .tup [.nd .tup [F2 to,F2 one,.str sn,F2 aj]])=.ok (GD (.punch n (to,one,sn,aj))):=λto one sn aj=>tadd (by simp) (by simp) (by simp)
 have jV:∀pn:Nat->Bool,(∀i,pn i=xk)->∀ss,S.runs gi pn (.asgT ⟨xj,[3,4,5,6]⟩ (.i (.v 0) 2)::ss) (PU n to one sn aj c)=S.runs gi pn ss [xg (GV (.punch n (to,one,sn,aj))),xg (.int c),xg (.str WPu),xg (F2 to),xg (F2 one),xg (.str sn),xg (F2 aj)]:=λpn hp ss=>by
  have x1:stX gi (PU n to one sn aj c) (.i (.v 0) 2)=.ok (WK (to,one,sn,aj)) (PU n to one sn aj c):=by
   rw[zfv_]
   exists zN_,i2,ziT_,kw
  rw[S.runs,S.run,x1];unfold asgTM;rw[zhi_,tk];have:setG pn (PU n to one sn aj c) [3,4,5,6] [F2 to,F2 one,.str sn,F2 aj]=xg [xg (GV (.punch n (to,one,sn,aj))),xg (.int c),xg (.str WPu),xg (F2 to),xg (F2 one),xg (.str sn),xg (F2 aj)]:=by
   exists hp,zbn_
  dsimp only;rw[this];dsimp only;rw[zcP_]
 by_cases h:c % 2=0
 ·refine⟨.punch n (to,one,nxO sn,aj),⟨GD (.punch n (to,one,nxO sn,aj)),zD_ rfl hc λpn hp=>?_,zb3_ _⟩,rfl,λz=>?_⟩
  ·unfold zf_
   show En (S.runs gi pn _ [xg (GV (.punch n (to,one,sn,aj))),xg (.int c),xh,xh,xh,xh,xh]) _
   rw[zcH_ (d:=.str WPu) (by exists hp,zN_,i0) (hp _)]
   show En (S.runs gi pn _ (PU n to one sn aj c)) _
   rw[rn_i (e1:=(PU n to one sn aj c)) (by exists hp,wp_0),rn_i (e1:=(PU n to one sn aj c)) (by exists hp,wp_1)]
   rw[S.runs,S.run,(show(X.ev gi (PU n to one sn aj c) (.bin .eq (.v 2) (.k (.str [112,117,110,99,104])))).bind blD=.ok xj by exists wp_2),zg8_,jV pn hp]
   have dd:∃q,dspD [.str [112,108,117,115],.str [108,101,115,115],.str [108,101,115,115],.str [116,105,109,101,115],.str [116,105,109,101,115],.str [112,108,117,115]]=.ok q/\ixA q (.str sn)=.ok (.str (nxO sn)):=by
    have hw:sn∈WWo:=hw;simp only[WWo,og,pZ,or_false]at hw;rcases hw with rfl |rfl |rfl<;>exact⟨_,rfl,rfl⟩
   obtain⟨q,d1,d2⟩:=dd
   exists hp,h,decide_true,zoX_,d1,d2,zN_,s2,zbn_,t1,nw
   exact⟨_,_,rfl,.inl rfl⟩
  ·injection z with _ z
   have z:nxO sn=sn:=by injection z with _ z;injection z with _ z;injection z
   have hw:sn∈WWo:=hw;simp only[WWo,og,pZ,or_false]at hw;rcases hw with rfl |rfl |rfl<;>exact absurd z (by decide)
 ·refine⟨.punch n (to,nxF one,sn,aj),⟨GD (.punch n (to,nxF one,sn,aj)),zD_ rfl hc λpn hp=>?_,zb3_ _⟩,rfl,λz=>?_⟩
  ·unfold zf_
   show En (S.runs gi pn _ [xg (GV (.punch n (to,one,sn,aj))),xg (.int c),xh,xh,xh,xh,xh]) _
   rw[zcH_ (d:=.str WPu) (by exists hp,zN_,i0) (hp _)]
   show En (S.runs gi pn _ (PU n to one sn aj c)) _
   rw[rn_i (e1:=(PU n to one sn aj c)) (by exists hp,wp_0),rn_i (e1:=(PU n to one sn aj c)) (by exists hp,wp_1)]
   rw[S.runs,S.run,(show(X.ev gi (PU n to one sn aj c) (.bin .eq (.v 2) (.k (.str [112,117,110,99,104])))).bind blD=.ok xj by exists wp_2),zg8_,jV pn hp]
   exists hp,decide_eq_false h,zd7_,zN_,s2,zbn_,t1,nw
   exact⟨_,_,rfl,.inl rfl⟩
  ·injection z with _ z
   injection z with _ z;injection z with z;exact znv_ one z
theorem zjg_ {a b:List Fd}(h:a.length+b.length<=1000):addA (LS F2 a) (LS F2 b)=.ok (LS F2 (a++b)):=zew_ (by lia)
theorem ziJ_ (n:Jx){b s d:List Fd}{fg:Int}(hb:b.length<=100)(hs:s.length<=100)(hd:d.length<=100)(c:Int)(hf:1<=fg/\fg<=12):∃g',Ot (.count xk n b s fg d) c g':=by
 have i0:ixA (GV (.count xk n b s fg d)) (.int 0)=.ok (.str WCo):=rfl;have i2:ixA (GV (.count xk n b s fg d)) (.int 2)=.ok (.fz (LS F2 b)):=rfl;have i3:ixA (GV (.count xk n b s fg d)) (.int 3)=.ok (.fz (LS F2 s)):=rfl;have i4:ixA (GV (.count xk n b s fg d)) (.int 4)=.ok (.int fg):=rfl;have i5:ixA (GV (.count xk n b s fg d)) (.int 5)=.ok (.fz (LS F2 d)):=rfl;have hc:D.colds [GV (.count xk n b s fg d),.int c]=xj:=rfl;have lb:lenA [LS F2 b]=.ok (.int (b.length:Nat)):=zkD_;have nw:∀b s fg d,(GD (.count xj n b s fg d)).new=xk:=λb s fg d=>by
  show(D.nd .tup [.str WCo,.str n,.fz (LS F2 b),.fz (LS F2 s),.int fg,.fz (LS F2 d)]).new=xk
  have:(D.fz (LS F2 b)).new=xk:=zdK_;rw[zno_,nw_c,nw_c,nw_c,this];simp
 have fin:∀{env:VI.Env}{u:List Nat}{g':Gg}{pn:Nat->Bool},En (retM (keep (.ok (GD g')) env u)) λo _=>o=.rt (GD g')\/(o=.nx/\GD g'=.non):=λ{env u g' pn}=>by
  unfold keep;dsimp only;split<;>exact⟨_,_,rfl,.inl rfl⟩
 by_cases h:c % 4=0
 ·by_cases hl:b.length=3
  ·refine⟨.count xj n (b.take 2) s fg d,⟨GD (.count xj n (b.take 2) s fg d),zD_ rfl hc λpn hp=>?_,zb3_ _⟩,rfl,λz=>?_⟩
   ·unfold zf_
    have s2:slA (GV (.count xk n b s fg d)) xh (xg 2)=.ok (.nd .tup [.str WCo,.str n]):=rfl;have s3:slA (GV (.count xk n b s fg d)) (xg 3) xh=.ok (.nd .tup [.fz (LS F2 s),.int fg,.fz (LS F2 d)]):=rfl;have sb:slA (LS F2 b) xh (xg 2)=.ok (LS F2 (b.take 2)):=by rw[ls_sl,zbR_ (by lia)];rfl
    have t1:addA (.nd .tup [.str WCo,.str n]) (.nd .tup [LS F2 (b.take 2)])=.ok (.nd .tup [.str WCo,.str n,.fz (LS F2 (b.take 2))]):=tadd (by simp) (by simp) (by simp)
    have t2:addA (.nd .tup [.str WCo,.str n,.fz (LS F2 (b.take 2))]) (.nd .tup [.fz (LS F2 s),.int fg,.fz (LS F2 d)])=.ok (GD (.count xj n (b.take 2) s fg d)):=tadd (by simp) (by simp) (by simp)
    exists hp,zN_,i0,i2,wc_0,wc_1,wc_2,h,decide_true,lb,show decide (((b.length:Nat):Int)=3)=xj from decide_eq_true (by lia),s2,s3,sb,t1,t2,zaV_ _ (nw _ _ _ _)
    exact⟨_,_,rfl,.inl rfl⟩
   ·injection z with _ _ z;have:=congrArg pS z;rw[oJ]at this;lia
  ·refine⟨.count xj n (b++[(1,1)]) s fg d,⟨GD (.count xj n (b++[(1,1)]) s fg d),zD_ rfl hc λpn hp=>?_,zb3_ _⟩,rfl,λz=>?_⟩
   ·unfold zf_
    have s2:slA (GV (.count xk n b s fg d)) xh (xg 2)=.ok (.nd .tup [.str WCo,.str n]):=rfl;have s3:slA (GV (.count xk n b s fg d)) (xg 3) xh=.ok (.nd .tup [.fz (LS F2 s),.int fg,.fz (LS F2 d)]):=rfl;have sb:addA (LS F2 b) (.nd .lst [.nd .tup [.int 1,.int 1]])=.ok (LS F2 (b++[(1,1)])):=zjg_ (b:=[(1,1)]) (by simp;lia)
    have t1:addA (.nd .tup [.str WCo,.str n]) (.nd .tup [LS F2 (b++[(1,1)])])=.ok (.nd .tup [.str WCo,.str n,.fz (LS F2 (b++[(1,1)]))]):=tadd (by simp) (by simp) (by simp)
    have t2:addA (.nd .tup [.str WCo,.str n,.fz (LS F2 (b++[(1,1)]))]) (.nd .tup [.fz (LS F2 s),.int fg,.fz (LS F2 d)])=.ok (GD (.count xj n (b++[(1,1)]) s fg d)):=tadd (by simp) (by simp) (by simp)
    exists hp,zN_,i0,i2,wc_0,wc_1,wc_2,h,decide_true,lb,show decide (((b.length:Nat):Int)=3)=xk from decide_eq_false (by lia),rF,s2,s3,sb,t1,t2,zaV_ _ (nw _ _ _ _)
    exact⟨_,_,rfl,.inl rfl⟩
   ·injection z with _ _ z;have:=congrArg pS z;simp at this
 ·by_cases h1:c % 4=1
  ·refine⟨.count xj n b (s++[(1,1)]) fg d,⟨GD (.count xj n b (s++[(1,1)]) fg d),zD_ rfl hc λpn hp=>?_,zb3_ _⟩,rfl,λz=>?_⟩
   ·unfold zf_
    have s2:slA (GV (.count xk n b s fg d)) xh (xg 3)=.ok (.nd .tup [.str WCo,.str n,.fz (LS F2 b)]):=rfl;have s3:slA (GV (.count xk n b s fg d)) (xg 4) xh=.ok (.nd .tup [.int fg,.fz (LS F2 d)]):=rfl;have sb:addA (LS F2 s) (.nd .lst [.nd .tup [.int 1,.int 1]])=.ok (LS F2 (s++[(1,1)])):=zjg_ (b:=[(1,1)]) (by simp;lia)
    have t1:addA (.nd .tup [.str WCo,.str n,.fz (LS F2 b)]) (.nd .tup [LS F2 (s++[(1,1)])])=.ok (.nd .tup [.str WCo,.str n,.fz (LS F2 b),.fz (LS F2 (s++[(1,1)]))]):=tadd (by simp) (by simp) (by simp)
    have t2:addA (.nd .tup [.str WCo,.str n,.fz (LS F2 b),.fz (LS F2 (s++[(1,1)]))]) (.nd .tup [.int fg,.fz (LS F2 d)])=.ok (GD (.count xj n b (s++[(1,1)]) fg d)):=tadd (by simp) (by simp) (by simp)
    exists hp,zN_,i0,i3,wc_0,wc_1,wc_2,h1,dI 1 0 (by lia),decide_true,s2,s3,sb,t1,t2,zaV_ _ (nw _ _ _ _)
    exact⟨_,_,rfl,.inl rfl⟩
   ·injection z with _ _ _ z;have:=congrArg pS z;simp at this
  ·by_cases h2:c % 4=2
   ·refine⟨.count xj n b s (fg % 12+1) d,⟨GD (.count xj n b s (fg % 12+1) d),zD_ rfl hc λpn hp=>?_,zb3_ _⟩,rfl,λz=>?_⟩
    ·unfold zf_
     have s2:slA (GV (.count xk n b s fg d)) xh (xg 4)=.ok (.nd .tup [.str WCo,.str n,.fz (LS F2 b),.fz (LS F2 s)]):=rfl;have t1:addA (.nd .tup [.str WCo,.str n,.fz (LS F2 b),.fz (LS F2 s)]) (.nd .tup [.int (fg % 12+1),.fz (LS F2 d)])=.ok (GD (.count xj n b s (fg % 12+1) d)):=tadd (by simp) (by simp) (by simp)
     exists hp,zN_,i0,i4,i5,wc_0,wc_1,wc_2,h2,dI 2 0 (by lia),dI 2 1 (by lia),decide_true,s2,t1,zaV_ _ (nw _ _ _ _)
     exact⟨_,_,rfl,.inl rfl⟩
    ·injection z with _ _ _ _ z;lia
   ·refine⟨.count xj n b s fg (d++[(1,36)]),⟨GD (.count xj n b s fg (d++[(1,36)])),zD_ rfl hc λpn hp=>?_,zb3_ _⟩,rfl,λz=>?_⟩
    ·unfold zf_
     have s2:slA (GV (.count xk n b s fg d)) xh (xg 5)=.ok (.nd .tup [.str WCo,.str n,.fz (LS F2 b),.fz (LS F2 s),.int fg]):=rfl;have sb:addA (LS F2 d) (.nd .lst [.nd .tup [.int 1,.int 36]])=.ok (LS F2 (d++[(1,36)])):=zjg_ (b:=[(1,36)]) (by simp;lia)
     have t1:addA (.nd .tup [.str WCo,.str n,.fz (LS F2 b),.fz (LS F2 s),.int fg]) (.nd .tup [LS F2 (d++[(1,36)])])=.ok (GD (.count xj n b s fg (d++[(1,36)]))):=tadd (by simp) (by simp) (by simp)
     exists hp,zN_,i0,i5,wc_0,wc_1,wc_2,decide_eq_false h,decide_eq_false h1,decide_eq_false h2,s2,sb,t1,zaV_ _ (nw _ _ _ _)
     exact⟨_,_,rfl,.inl rfl⟩
    ·injection z with _ _ _ _ _ z;have:=congrArg pS z;simp at this
end
def np (gs:List Gg):List Gg:=gs.filter λg=>!isPs g
theorem zr_ (a b:List Gg):np (a++b)=np a++np b:=List.filter_append ..
theorem np_0 {gs:List Gg}(h:∀g∈gs,isPs g=xj):np gs=[]:=List.filter_eq_nil_iff.mpr λg hg=>by rw[h g hg];decide
theorem np_s {gs:List Gg}(h:∀g∈gs,isPs g=xk):np gs=gs:=uB.mpr λg hg=>by rw[h g hg];rfl
theorem zcd_ (A:Ak):∀(xs ys:List Gg) (a:Int),okl A a (xs++ys)=(okl A a xs && okl A (a+(np xs).length) ys)
 |[],ys,a=>by show okl A a ys=(xj && okl A (a+((0:Nat):Int)) ys);rw[vD,show a+((0:Nat):Int)=a by lia]
 |x::xs,ys,a=>by
  show(bif isPs x then told A a x && okl A a (xs++ys)else okl A (a+1) (xs++ys))=((bif isPs x then told A a x && okl A a xs else okl A (a+1) xs) && _)
  rw[zcd_ A xs ys a,zcd_ A xs ys (a+1)];have e:np (x::xs)=bif isPs x then np xs else x::np xs:=by
   unfold np;rw[uX];cases isPs x<;>rfl
  rw[e];cases isPs x
  ·show(okl A (a+1) xs && okl A (a+1+(np xs).length) ys)=(okl A (a+1) xs && okl A (a+((np xs).length+1:Nat)) ys)
   rw[show a+1+((np xs).length:Int)=a+((np xs).length+1:Nat) by lia]
  ·exact(Bool.and_assoc ..).symm
theorem zhm_ {A:Ak}{xs ys:List Gg}{g:Gg}(hg:isPs g=xj)(h:told A (np xs).length g=xk):isPl A (xs++g::ys)=xk:=by
 unfold isPl;rw[zcd_,show okl A (0+((np xs).length:Int)) (g::ys)=xk by
  show(bif isPs g then told A _ g && _ else _)=xk
  rw[hg,Int.zero_add,h];rfl,rF,rF]
theorem zd4_ {A:Ak}{gs:List Gg}{g:Gg}(hg:isPs g=xj)(h:∀a,told A a g=xk)(hm:g∈gs):isPl A gs=xk:=by
 obtain⟨xs,ys,rfl⟩:=List.append_of_mem hm;exact zhm_ hg (h _)
theorem zgo_ {A:Ak}{gs:List Gg}(h:(np gs).map er≠mgG A++lgG A):isPl A gs=xk:=by
 unfold np at h;unfold isPl;rw[decide_eq_false h];rfl
theorem zhy_ {A:Ak}{gs:List Gg}(h:(np gs).length≠(mgG A).length+A.wk.length+1):isPl A gs=xk:=zgo_ λz=>h (by
 have:=congrArg pS z;unfold lgG at this;simp only[nN,nK,n6,pf]at this;lia)
theorem zf0_ (gs:List Gg)(a:Int)(g:Gg):g∈putG gs a g:=by unfold putG;simp
theorem zbo_ (gs:List Gg)(a:Int)(g:Gg):(putG gs a g).length=gs.length+1:=by
 unfold putG;rw[nK,n6,oJ,pz];lia
noncomputable def pgs (A:Ak):List Gg:=A.wk.map (.punch A.dk)
noncomputable def cnt (A:Ak):Gg:=.count xk A.dk (A.od.take A.br.toNat) A.su A.fg A.bd
theorem lg_p (A:Ak):lgG A=pgs A++[cnt A]:=rfl
theorem np_m (A:Ak):np (mgG A)=mgG A:=by unfold mgG;cases A.md<;>rfl
theorem np_g (A:Ak):np (pgs A)=pgs A:=np_s λg hg=>by obtain⟨w,_,rfl⟩:=pJ.mp hg;rfl
theorem er_m (A:Ak):(mgG A).map er=mgG A:=by unfold mgG;cases A.md<;>rfl
theorem er_g (A:Ak):(pgs A).map er=pgs A:=by unfold pgs;rw[pF];rfl
theorem bad_c {c:Int}:¬(1<=37*(c % 2)/\37*(c % 2)<=36):=by lia
theorem zlF_ (c:Int):1<=1+c % 36/\1+c % 36<=36:=by lia
section
variable {pn:Nat->Bool}{e:VI.Env}{Q:Fl->VI.Env->Prop}
theorem zod_ (d:D):d.vw.vw=d.vw:=by
 by_cases h:d.imm=xj
 ·have:d.vw=d:=by unfold D.vw;rw[if_pos h]
  rw[this,this]
 ·cases d<;>first |rfl |exact absurd rfl h |skip
  ·rename_i k ds
   have:(D.nd k ds).vw=.fz (.nd k ds):=by unfold D.vw;rw[if_neg h]
   rw[this];exact zok_ (by simpa using h)
  ·rename_i d
   have e:(D.fz d).imm=d.imm:=by rw[D.imm]
   rw[e]at h;have:(D.fz d).vw=.fz d:=zok_ (by simpa using h)
   rw[this,this]
theorem zit_ (e:VI.Env)(i j:Nat):getE (frz1 e i) j=getE e j/\(frz1 e i).length=e.length:=by
 unfold frz1;split
 ·rename_i d h
  refine⟨?_,pH⟩;unfold getE;rw[oY];by_cases ib:i=j
  ·subst ib
   rw[if_pos rfl,if_pos (oA.mp h).1,h];show Mq d.vw.vw=.ok d.vw
   rw[zod_]
  ·rw[if_neg ib]
 ·exact⟨rfl,rfl⟩
theorem zeN_ (u:Jx):∀(e:VI.Env) (j:Nat),getE (frzE e u) j=getE e j/\(frzE e u).length=e.length:=by
 induction u with
 |nil=>exact λe j=>⟨rfl,rfl⟩|cons i u ih=>
  intro e j;obtain⟨a,b⟩:=ih (frz1 e i) j;obtain⟨c,d⟩:=zit_ e i j;exact⟨a.trans c,b.trans d⟩
theorem zaK_ {x:X}{i:Nat}{ss:List S}{d:D}(hx:x.ev gi e=.ok d)(hp:pn i=xk)(hi:i<e.length)(k:∀e':VI.Env,e'.length=e.length->getE e' i=.ok d.vw->(∀{j r},getE e j=r->(h:j≠i:=by decide)->getE e' j=r)->En (S.runs gi pn ss e') Q):En (S.runs gi pn (.asg i (.pu x)::ss) e) Q:=by
 obtain⟨e1,h1,h2,h3⟩:∃e1,keep (.ok d) e x.uses=.ok d e1/\e1.length=e.length/\∀j,getE e1 j=getE e j:=by
  unfold keep;dsimp only;split
  ·exact⟨e,rfl,rfl,λ_=>rfl⟩
  ·exact⟨_,rfl,(zeN_ _ e 0).2,λj=>(zeN_ _ e j).1⟩
 have h4:S.run gi pn (.asg i (.pu x)) e=.ok .nx (e1.set i (xg d)):=by
  rw[S.run,zgd_,hx,h1];show(if pn i=xk/\i<e1.length then _ else _)=_
  rw[if_pos ⟨hp,by lia⟩]
 rw[rn_i h4];refine k _ (by rw[pH,h2]) ?_ λ{j r} hr hj=>?_
 ·unfold getE;rw[oY,if_pos rfl,if_pos (by lia)]
 ·rw[<- hr,<- h3 j];unfold getE;rw[oY,if_neg λz=>hj z.symm]
theorem run1 (s:S):S.runs gi pn [s] e=S.run gi pn s e:=by
 rw[S.runs];cases S.run gi pn s e with
 |ok o e'=>cases o<;>rfl
 |_=>rfl
theorem el_t {x:X}{a b:List S}(h:(x.ev gi e).bind blD=.ok xj)(k:En (S.runs gi pn a e) Q):En (S.runs gi pn [.if_ x a b] e) Q:=by
 rw[run1,S.run,h];exact k
theorem el_f {x:X}{a b:List S}(h:(x.ev gi e).bind blD=.ok xk)(k:En (S.runs gi pn b e) Q):En (S.runs gi pn [.if_ x a b] e) Q:=by
 rw[run1,S.run,h];exact k
theorem zjY_ {x:X}{d:D}(hx:x.ev gi e=.ok d)(h:∀e,Q (.rt d) e):En (S.runs gi pn [.ret (.pu x)] e) Q:=by
 rw[run1,S.run,zgd_,hx];unfold keep;dsimp only;split<;>exact⟨_,_,rfl,h _⟩
end
section
variable {A:Ak}{E L:List Gg}
structure Sc (A:Ak)(E L:List Gg):Prop where
 ok:OkA A
 nm:∀k∈nmt A,k≠A.dk/\k.length=A.dk.length
 pl:∃pl:Nat->Fd,(∀i j,i≠j->pl i≠pl j)/\∀(i:Nat) w,A.wk[i]?=xg w->w.1=pl i
 e:∀g∈E,isPs g=xj
 l:∀g∈L,isPs g=xj
 el:E.length<=100
 ll:L.length<=24
theorem ml1 (A:Ak):(mgG A).length<=1:=by unfold mgG;cases A.md<;>simp
theorem zgq_ (A:Ak):(pgs A).length=A.wk.length:=nN ..
theorem zpN_ {g:Gg}(h:isPs g=xk):np [g]=[g]:=np_s λx hx=>by rw[oE.mp hx];exact h
theorem np_c (A:Ak):np [cnt A]=[cnt A]:=rfl
theorem zmI_ (h:OkM A.dk A.md){m:Gg}(hm:mgG A=[m])(c:Int):∃m',Ot m c m':=by
 unfold mgG at hm;cases hd:A.md with
 |no=>rw[hd]at hm;cases hm|fi f=>rw[hd]at hm;cases hm;exact⟨_,ziS_ _ _ _⟩|ma w n f g=>rw[hd]at hm h;cases hm;exact zmW_ h.1 _ (by have:=h.2.1.2.1;lia) f g c
theorem md_k (h:nmt A≠[]):∃w k f g,A.md=.ma w k f g/\nmt A=[k]:=by
 unfold nmt at h ⊢;cases hd:A.md with
 |ma w k f g=>exact⟨w,k,f,g,rfl,rfl⟩|_=>rw[hd]at h;exact absurd rfl h
theorem ms_ex (h:Sc A E L){m:Gg}(hm:mgG A=[m])(w c:Int):∃ms:List Gg,zx_.val [.fz (AL A),.fz (GL (mgG A)),.fz (GL L),.int w,.int c]=.ok (GL ms)/\ms.length<=50/\isPl A (E++ms++pgs A++[cnt A])=xk:=by
 have lh:=h.ll;have nL:=np_0 h.l;have nE:=np_0 h.e;have col:=zlF_ c
 suffices main:∃ms:List Gg,(ms.length<=50/\isPl A (E++ms++pgs A++[cnt A])=xk)/\∀pn:Nat->Bool,(∀i,pn i=xk)->En (S.runs gi pn zj_ [xg (.fz (AL A)),xg (.fz (GL (mgG A))),xg (.fz (GL L)),xg (.int w),xg (.int c),xh]) λo _=>o=.rt (GL ms) by
  obtain⟨ms,h1,h2⟩:=main;refine⟨ms,zD_ rfl rfl λpn hp=>?_,h1⟩
  obtain⟨o,e,a,b⟩:=h2 pn hp;exact⟨o,e,a,.inl b⟩
 suffices main:∃ms:List Gg,(ms.length<=50/\isPl A (E++ms++pgs A++[cnt A])=xk)/\∀(pn:Nat->Bool) (e:VI.Env),getE e 0=.ok (.fz (AL A))->getE e 1=.ok (.fz (GL [m]))->getE e 2=.ok (.fz (GL L))->getE e 3=.ok (.int w)->getE e 4=.ok (.int c)->getE e 5=.ok (.int (1+c % 36))->En (S.runs gi pn (zj_.drop 1) e) λo _=>o=.rt (GL ms) by
  obtain⟨ms,h1,h2⟩:=main;refine⟨ms,h1,λpn hp=>?_⟩
  rw[hm];unfold zj_;refine zaK_ (d:=.int (1+c % 36)) (by exists hp) (hp _) (by show 5<6;lia) λe' _ h5 hj=>?_
  exact h2 pn e' (hj rfl) (hj rfl) (hj rfl) (hj rfl) (hj rfl) h5
 unfold zj_;simp only[sM,rW];have nx:∀{pn:Nat->Bool}{e:VI.Env}{x:X}{a ss:List S}{Q:Fl->VI.Env->Prop},(x.ev gi e).bind blD=.ok xk->En (S.runs gi pn ss e) Q->En (S.runs gi pn (.if_ x a []::ss) e) Q:=λ{pn e x a ss Q} h k=>by
  rw[rn_i (e1:=e) (by rw[S.run,h];rfl)];exact k
 have tk:∀{pn:Nat->Bool}{e:VI.Env}{x y:X}{ss:List S}{d:D},(x.ev gi e).bind blD=.ok xj->y.ev gi e=.ok d->En (S.runs gi pn (.if_ x [.ret (.pu y)] []::ss) e) λo _=>o=.rt d:=λ{pn e x y ss d} h k=>by
  rw[S.runs,S.run,h,zg8_];obtain⟨o,e',a,b⟩:=zjY_ (pn:=pn) (Q:=λo _=>o=.rt d) k λ_=>rfl
  rw[a,b];exact⟨_,_,rfl,rfl⟩
 by_cases w0:w=10
 ·rcases(show c % 2=0\/c % 2=1 by lia)with hc |hc
  ·refine⟨L,⟨by lia,zhy_ (by rw[zr_,zr_,zr_,nE,nL,np_g,np_c,nK,nK,zgq_,hm];simp)⟩,λpn e g0 g1 g2 g3 g4 g5=>tk (by exists g3,decide_eq_true w0) ?_⟩
   have em:mulD (.int 2) (.int (c % 2))=.ok (.int 0):=by rw[hc];rfl
   have fP:mulD (GL [m]) (.int 0)=.ok (GL []):=rfl;have ea:addA (GL []) (GL L)=.ok (GL L):=zax_ (by simp;lia)
   have fm:∀x,mulD (.fz (GL [m])) x=mulD (GL [m]) x:=λ_=>rfl
   exists g1,g2,g4,em,fm,fP,ea
  ·refine⟨m::m::L,⟨by simp;lia,zhy_ (by
    have hJ:np [m]=[m]:=by rw[<- hm];exact np_m A
    rw[zr_,zr_,zr_,nE,show m::m::L=[m]++([m]++L)from rfl,zr_,zr_,hJ,nL,np_g,np_c,nK,nK,zgq_,hm];simp)⟩,λpn e g0 g1 g2 g3 g4 g5=>tk (by exists g3,decide_eq_true w0) ?_⟩
   have em:mulD (.int 2) (.int (c % 2))=.ok (.int 2):=by rw[hc];rfl
   have fP:mulD (GL [m]) (.int 2)=.ok (GL [m,m]):=by
    show Mq (D.nd .lst [(GV m).vw,(GV m).vw])=_;rw[zN_];rfl
   have ea:addA (GL [m,m]) (GL L)=.ok (GL (m::m::L)):=zax_ (by simp;lia)
   have fm:∀x,mulD (.fz (GL [m])) x=mulD (GL [m]) x:=λ_=>rfl
   exists g1,g2,g4,em,fm,fP,ea
 have put:∀g:Gg,isPs g=xj->told A 1 g=xk->((m::putG L c g).length<=50/\isPl A (E++(m::putG L c g)++pgs A++[cnt A])=xk):=λg hg ht=>by
  refine⟨by rw[n6,zbo_];lia,?_⟩
  have hJ:np [m]=[m]:=by rw[<- hm];exact np_m A
  have:E++(m::putG L c g)++pgs A++[cnt A]=(E++([m]++L.take (c % ((L.length:Int)+1)).toNat))++g::(L.drop (c % ((L.length:Int)+1)).toNat++pgs A++[cnt A]):=by unfold putG;simp
  rw[this];refine zhm_ hg ?_;rw[zr_,zr_,nE,hJ,np_0 λx hx=>h.l x (pV hx)]
  exact ht
 by_cases w1:w=11
 ·have ht:told A 1 (.pick A.dk (1+c % 36) [48])=xk:=by show(_ && (_ && decide ((1:Int)=0)))=xk;simp
  refine⟨m::putG L c (.pick A.dk (1+c % 36) [48]),put _ rfl ht,λpn e g0 g1 g2 g3 g4 g5=>nx (by exists g3,decide_eq_false w0) (tk (by exists g3,decide_eq_true w1) ?_)⟩
  have hx:=zdk_ (gs:=L) (by lia) c (.pick A.dk (1+c % 36) [48]) (env:=e) (x:=.v 2) (y:=.v 4) (z:=.tup [(.k (.str [112,105,99,107])),(.i (.v 0) 0),(.v 5),(.k (.str [48]))]) (by rw[xv_v,g2]) (by rw[xv_v,g4]) (by exists g0,g5,AL_0;rfl) (zb3_ _)
  have ea:addA (GL [m]) (GL (putG L c (.pick A.dk (1+c % 36) [48])))=.ok (GL (m::putG L c (.pick A.dk (1+c % 36) [48]))):=zax_ (by rw[zbo_];simp;lia)
  rw[zcV_,xv_v,g1,zbb_,hx,zbb_];exact ea
 have aj:∀(m':Gg),Ot m c m'->((m'::L).length<=50/\isPl A (E++(m'::L)++pgs A++[cnt A])=xk)/\∀(pn:Nat->Bool) (e:VI.Env),getE e 1=.ok (.fz (GL [m]))->getE e 2=.ok (.fz (GL L))->getE e 4=.ok (.int c)->En (S.runs gi pn [.ret (.pu (.bin .add (.lst [(zag_ [(.i (.v 1) 0),(.v 4)])]) (.v 2)))] e) λo _=>o=.rt (GL (m'::L)):=λm' dw=>by
  refine⟨⟨by rw[n6];lia,zgo_ ?_⟩,λpn e g1 g2 g4=>?_⟩
  ·rw[zr_,zr_,zr_,nE,show m'::L=[m']++L from rfl,zr_,zpN_ dw.ps,nL,np_g,np_c,hm]
   intro z;have:=dw.ne;have e1:er m=m:=by have:=er_m A;rw[hm]at this;injection this
   simp at z;exact this (by rw[z.1,e1])
  ·obtain⟨d,ed,dv⟩:=dw.ev
   refine zjY_ ?_ λ_=>rfl
   have i0:ixA (GL [m]) (.int 0)=.ok (GV m):=zj0_ (i:=0) (by lia) rfl
   have ea:=zhN_ (b:=L) dv (by lia)
   exists g1,g2,g4,i0,zN_,ed,ea
 by_cases hn:nmt A=[]
 ·obtain⟨m',dw⟩:=zmI_ h.ok.md hm c
  obtain⟨o1,o2⟩:=aj m' dw;obtain⟨f,hf⟩:∃f,A.md=.fi f:=by
   unfold nmt at hn;unfold mgG at hm;cases hd:A.md with
   |fi f=>exact⟨f,rfl⟩|no=>rw[hd]at hm;cases hm|ma w k f g=>rw[hd]at hn;cases hn
  have bK:ixA (AL A) (.int 2)=.ok (MD (.fi f)):=by rw[AL_2,hf]
  have i0:ixA (MD (.fi f)) (.int 0)=.ok (.str WFi):=rfl;have hw:decide (WFi=[102,105,114,115,116])=xj:=rfl;have fR:∀(n:Int) (e:VI.Env),getE e 0=.ok (.fz (AL A))->getE e 3=.ok (.int w)->(X.ev gi e (.and (.bin .eq (.v 3) (.n n)) (.bin .ne (.i (.i (.v 0) 2) 0) (.k (.str [102,105,114,115,116]))))).bind blD=.ok xk:=λn e g0 g3=>by
   by_cases dY:w=n
   ·exists g3,decide_eq_true dY,g0,bK,i0,hw
    all_goals rfl
   ·exists g3,decide_eq_false dY
    all_goals rfl
  exact⟨_,o1,λpn e g0 g1 g2 g3 g4 g5=>nx (by exists g3,decide_eq_false w0) (nx (by exists g3,decide_eq_false w1) (nx (fR 12 e g0 g3) (nx (fR 13 e g0 g3) (o2 pn e g1 g2 g4))))⟩
 obtain⟨ww,k,f,g,bj,hk⟩:=md_k hn;have ji:=h.nm k (by rw[hk];exact oE.mpr rfl)
 have gS:ww≠WFi:=by
  have:=h.ok.md;rw[bj]at this;rcases this.1 with h |h<;>rw[h]<;>decide
 have bK:ixA (AL A) (.int 2)=.ok (MD (.ma ww k f g)):=by rw[AL_2,bj]
 have i0:ixA (MD (.ma ww k f g)) (.int 0)=.ok (.str ww):=rfl;have i1:ixA (MD (.ma ww k f g)) (.int 1)=.ok (.str k):=rfl;have cZ:decide (ww=[102,105,114,115,116])=xk:=decide_eq_false gS;have cnf:∀(n:Int) (e:VI.Env),¬w=n->getE e 3=.ok (.int w)->(X.ev gi e (.and (.bin .eq (.v 3) (.n n)) (.bin .ne (.i (.i (.v 0) 2) 0) (.k (.str [102,105,114,115,116]))))).bind blD=.ok xk:=λn e dY g3=>by
  exists g3,decide_eq_false dY
  all_goals rfl
 have fQ:∀(n:Int) (e:VI.Env),w=n->getE e 0=.ok (.fz (AL A))->getE e 3=.ok (.int w)->(X.ev gi e (.and (.bin .eq (.v 3) (.n n)) (.bin .ne (.i (.i (.v 0) 2) 0) (.k (.str [102,105,114,115,116]))))).bind blD=.ok xj:=λn e dY g0 g3=>by
  exists g3,decide_eq_true dY,g0,bK,i0,cZ
  all_goals rfl
 by_cases w2:w=12
 ·refine⟨.pick k (1+c % 36) [48]::m::L,⟨by simp;lia,zd4_ (g:=.pick k (1+c % 36) [48]) rfl (λa=>?_) (by simp)⟩,λpn e g0 g1 g2 g3 g4 g5=>nx (by exists g3,decide_eq_false w0) (nx (by exists g3,decide_eq_false w1) (tk (fQ 12 e w2 g0 g3) ?_))⟩
  ·show(_ && (decide (k=A.dk) && _))=xk
   rw[decide_eq_false ji.1];simp
  ·have e1:addA (.nd .lst [GD (.pick k (1+c % 36) [48])]) (GL [m])=.ok (GL (.pick k (1+c % 36) [48]::[m])):=zhN_ (zb3_ _) (by simp)
   have e2:addA (GL (.pick k (1+c % 36) [48]::[m])) (GL L)=.ok (GL (.pick k (1+c % 36) [48]::m::L)):=zax_ (by simp;lia)
   have v1:(D.nd .tup [D.str [112,105,99,107],D.str k,D.int (1+c % 36),D.str [48]]).vw=GV (.pick k (1+c % 36) [48]):=rfl;have xl:X.ev gi e (.lst [(.tup [(.k (.str [112,105,99,107])),(.i (.i (.v 0) 2) 1),(.v 5),(.k (.str [48]))])])=.ok (.nd .lst [GD (.pick k (1+c % 36) [48])]):=by
    exists g0,g5,bK,i1
    rfl
   have e1:Bo.f .add (.nd .lst [GD (.pick k (1+c % 36) [48])]) (.fz (GL [m]))=_:=e1;rw[zcV_,zcV_,xl,zbb_,xv_v,g1,zbb_,e1,zbb_,xv_v,g2,zbb_];exact e2
 by_cases w3:w=13
 ·have ht:told A 1 (.deal k (1+c % 36))=xk:=by show(_ && (if k=A.dk then _ else(_ && decide ((1:Int)=0))))=xk;rw[if_neg ji.1];simp
  refine⟨m::putG L c (.deal k (1+c % 36)),put _ rfl ht,λpn e g0 g1 g2 g3 g4 g5=>nx (by exists g3,decide_eq_false w0) (nx (by exists g3,decide_eq_false w1) (nx (cnf 12 e w2 g3) (tk (fQ 13 e w3 g0 g3) ?_)))⟩
  have hx:=zdk_ (gs:=L) (by lia) c (.deal k (1+c % 36)) (env:=e) (x:=.v 2) (y:=.v 4) (z:=.tup [(.k (.str [100,101,97,108])),(.i (.i (.v 0) 2) 1),(.v 5)]) (by rw[xv_v,g2]) (by rw[xv_v,g4]) (by exists g0,g5,bK,i1;rfl) (zb3_ _)
  have ea:addA (GL [m]) (GL (putG L c (.deal k (1+c % 36))))=.ok (GL (m::putG L c (.deal k (1+c % 36)))):=zax_ (by rw[zbo_];simp;lia)
  rw[zcV_,xv_v,g1,zbb_,hx,zbb_];exact ea
 obtain⟨m',dw⟩:=zmI_ h.ok.md hm c;obtain⟨o1,o2⟩:=aj m' dw;exact⟨_,o1,λpn e g0 g1 g2 g3 g4 g5=>nx (by exists g3,decide_eq_false w0) (nx (by exists g3,decide_eq_false w1) (nx (cnf 12 e w2 g3) (nx (cnf 13 e w3 g3) (o2 pn e g1 g2 g4))))⟩
def CL (A:Ak):D:=.nd .lst [GD (cnt A)]
theorem zdC_ {a:List Gg}(h:a.length<=900):addA (GL a) (.fz (CL A))=.ok (GL (a++[cnt A])):=znk_ (zb3_ _) (by lia)
theorem zjd_ {a b:List Gg}(h:a.length<=900)(hb:b.length<=10):addA (GL a) (.fz (GL b))=.ok (GL (a++b)):=zax_ (by lia)
def Rs (A:Ak)(o:Fl)(e:VI.Env):Prop:=(o=.nx/\∃(E M L P:List Gg) (c:D) (cs:List Gg),(getE e 4=.ok (.fz (GL E))/\getE e 5=.ok (.fz (GL M))/\getE e 6=.ok (.fz (GL L))/\getE e 7=.ok (.fz (GL P))/\getE e 8=.ok c/\∀a:List Gg,a.length<=900->addA (GL a) c=.ok (GL (a++cs)))/\(E++M++L++P++cs).length<=300/\isPl A (E++M++L++P++cs)=xk)\/∃sp,o=.rt (GL sp)/\sp.length<=300/\isPl A sp=xk
theorem znn_ {gs:List Gg}(h:∀g∈gs,g∈pgs A):np gs=gs:=np_s λg hg=>by obtain⟨w,_,rfl⟩:=pJ.mp (h g hg);rfl
theorem er_in {gs:List Gg}(h:∀g∈gs,g∈pgs A):gs.map er=gs:=by
 have:gs.map er=gs.map id:=qz λg hg=>by obtain⟨w,_,rfl⟩:=pJ.mp (h g hg);rfl
 rw[this,wU]
theorem ldeal {A:Ak}{a c:Int}(h:¬a<=(mgG A).length):told A a (.deal A.dk c)=xk:=by
 show(_ && (if A.dk=A.dk then decide (a<=(mgG A).length)else _))=xk
 rw[if_pos rfl,decide_eq_false h];simp
theorem zjy_ (h:Sc A E L)(w c:Int){pn:Nat->Bool}(hp:∀i,pn i=xk){e:VI.Env}(hl:e.length=11)(g0:getE e 0=.ok (.fz (AL A)))(g2:getE e 2=.ok (.int w))(g3:getE e 3=.ok (.int c))(g4:getE e 4=.ok (.fz (GL E)))(g5:getE e 5=.ok (.fz (GL (mgG A))))(g6:getE e 6=.ok (.fz (GL L)))(g7:getE e 7=.ok (.fz (GL (pgs A))))(g8:getE e 8=.ok (.fz (CL A)))(g9:getE e 9=.ok (.int (1+c % 36))):En (S.runs gi pn [zz_[2]] e) (Rs A):=by
 have jr:=h.el;have lh:=h.ll;have ax:=h.ok.wl;have eB:=ml1 A;have cQ:=zgq_ A;have nL:=np_0 h.l;have nE:=np_0 h.e;have nM:=np_m A;have nP:=np_g A;have nC:=np_c A;have col:=zlF_ c;show En (S.runs gi pn [.if_ _ _ _] e) (Rs A)
 have nr:∀n,told A n (.deal A.dk (37*(c % 2)))=xk:=λn=>by
  show(decide _ && decide _ && _)=xk
  have:=bad_c (c:=c);by_cases z:1<=37*(c % 2)
  ·rw[decide_eq_false λy=>this ⟨z,y⟩];simp
  ·rw[decide_eq_false z];rfl
 have nq:∀n,told A n (.pick A.dk (37*(c % 2)) [65])=xk:=λn=>by
  show(decide _ && decide _ && _)=xk
  have:=bad_c (c:=c);by_cases z:1<=37*(c % 2)
  ·rw[decide_eq_false λy=>this ⟨z,y⟩];simp
  ·rw[decide_eq_false z];rfl
 have em:mulD (.int 37) (.int (c % 2))=.ok (.int (37*(c % 2))):=zcR_ (by lia) (by lia)
 by_cases w0:w=0
 ·have hx:=zdk_ (gs:=L) (by lia) c (.deal A.dk (37*(c % 2))) (env:=e) (x:=.v 6) (y:=.v 3) (z:=.tup [(.k (.str [100,101,97,108])),(.i (.v 0) 0),(.bin .mul (.n 37) (.bin .mod (.v 3) (.n 2)))]) (by rw[xv_v,g6]) (by rw[xv_v,g3]) (by exists g0,g3,AL_0,em;rfl) (zb3_ _)
  refine el_t (by exists g2,decide_eq_true w0) (zaK_ hx (hp _) (by lia) λe' _ h6 hj=>⟨_,_,rfl,.inl ⟨rfl,E,mgG A,_,pgs A,_,_,⟨hj g4,hj g5,h6,hj g7,hj g8,λ_=>zdC_⟩,by simp only[nK,zbo_,cQ,n6,pf];lia,zd4_ rfl nr (by simp[zf0_])⟩⟩)
 refine el_f (by exists g2,decide_eq_false w0) ?_
 by_cases w1:w=1
 ·have hn:∀n,told A n (.deal (A.dk++[113]) (1+c % 36))=xk:=λn=>by
   show(_ && (if A.dk++[113]=A.dk then _ else(decide (A.dk++[113]∈nmt A) && _)))=xk
   rw[if_neg (λz=>by have:=congrArg pS z;simp at this),decide_eq_false (show¬A.dk++[113]∈nmt A from λz=>by have:=(h.nm _ z).2;simp at this)];simp
  have ea:=ad_s (a:=A.dk) (b:=[113]) (by have:=h.ok.nm.2.1;simp;lia)
  have hx:=zdk_ (gs:=E) (by lia) c (.deal (A.dk++[113]) (1+c % 36)) (env:=e) (x:=.v 4) (y:=.v 3) (z:=.tup [(.k (.str [100,101,97,108])),(.bin .add (.i (.v 0) 0) (.k (.str [113]))),(.v 9)]) (by rw[xv_v,g4]) (by rw[xv_v,g3]) (by exists g0,g9,AL_0,ea;rfl) (zb3_ _)
  refine el_t (by exists g2,decide_eq_true w1) (zaK_ hx (hp _) (by lia) λe' _ h4 hj=>⟨_,_,rfl,.inl ⟨rfl,_,mgG A,L,pgs A,_,_,⟨h4,hj g5,hj g6,hj g7,hj g8,λ_=>zdC_⟩,by simp only[nK,zbo_,cQ,n6,pf];lia,zd4_ rfl hn (by simp[zf0_])⟩⟩)
 refine el_f (by exists g2,decide_eq_false w1) ?_
 by_cases w2:w=2
 ·have hx:=zdk_ (gs:=pgs A) (by lia) c (.deal A.dk (1+c % 36)) (env:=e) (x:=.v 7) (y:=.v 3) (z:=.tup [(.k (.str [100,101,97,108])),(.i (.v 0) 0),(.v 9)]) (by rw[xv_v,g7]) (by rw[xv_v,g3]) (by exists g0,g9,AL_0;rfl) (zb3_ _)
  refine el_t (by exists g2,decide_eq_true w2) (zaK_ hx (hp _) (by lia) λe' cF h7 hj=>?_)
  have mM:=hj g0;have lR:=hj g9;have jM:=hj g8;have fR:∀x:Gg,(putG (pgs A) c (.deal A.dk (1+c % 36)))[0]?=xg x->X.ev gi e' (.bin .eq (.i (.v 7) 0) (.tup [(.k (.str [100,101,97,108])),(.i (.v 0) 0),(.v 9)]))=.ok (.bl (decide (er x=.deal A.dk (1+c % 36)))):=λx hx=>by
   have i0:=zj0_ (gs:=putG (pgs A) c (.deal A.dk (1+c % 36))) (i:=0) (by lia) hx
   have xt:X.ev gi e' (.tup [(.k (.str [100,101,97,108])),(.i (.v 0) 0),(.v 9)])=.ok (GV (.deal A.dk (1+c % 36))):=by
    exists mM,lR,AL_0
    rfl
   have x7:X.ev gi e' (.i (.v 7) 0)=.ok (GV x):=by
    exists h7,i0,GL_vw
   rw[zcV_,x7,zbb_,xt,zbb_];exact zco_ (neg:=xk) (eq_G 8 x (.deal A.dk (1+c % 36)))
  have m0:=qm c (show((pgs A).length:Int)+1≠0 by lia)
  have m1:=pU c (show(0:Int)<((pgs A).length:Int)+1 by lia)
  have pe:putG (pgs A) c (.deal A.dk (1+c % 36))=(pgs A).take (c % (((pgs A).length:Int)+1)).toNat++.deal A.dk (1+c % 36)::(pgs A).drop (c % (((pgs A).length:Int)+1)).toNat:=rfl
  generalize (c % (((pgs A).length:Int)+1))=k at pe m0 m1
  by_cases hk:k=0
  ·subst hk
   have pe:putG (pgs A) c (.deal A.dk (1+c % 36))=.deal A.dk (1+c % 36)::pgs A:=pe;rw[pe]at h7;have i0:=zj0_ (gs:=.deal A.dk (1+c % 36)::pgs A) (i:=0) (by lia) rfl
   have ea:addA (CL A) (.nd .lst [GV (.deal A.dk (1+c % 36))])=.ok (GL [cnt A,.deal A.dk (1+c % 36)]):=rfl;refine el_t (by rw[fR (.deal A.dk (1+c % 36)) (by rw[pe];rfl),decide_eq_true (show er (.deal A.dk (1+c % 36))=.deal A.dk (1+c % 36)from rfl)];rfl) (zaK_ (d:=GL [cnt A,.deal A.dk (1+c % 36)]) (by exists h7,GL_vw,jM,i0,zN_,ea) (hp _) (by lia) λbJ _ h8 fw=>⟨_,_,rfl,.inl ⟨rfl,E,mgG A,L,_,_,[cnt A,.deal A.dk (1+c % 36)],⟨fw (hj g4),fw (hj g5),fw (hj g6),fw h7,h8,λa ha=>zjd_ ha (by simp)⟩,by simp only[nK,cQ,n6,pf];lia,?_⟩⟩)
   rw[show E++mgG A++L++.deal A.dk (1+c % 36)::pgs A++[cnt A,.deal A.dk (1+c % 36)]=(E++mgG A++L++.deal A.dk (1+c % 36)::pgs A++[cnt A])++.deal A.dk (1+c % 36)::[] by simp]
   refine zhm_ rfl (ldeal ?_);rw[zr_,zr_,zr_,zr_,nE,nM,nL,nC,nK,nK,nK,nK];simp only[n6,pf];lia
  ·obtain⟨p,ps,bt⟩:∃p ps,pgs A=p::ps:=by
    cases hq:pgs A with
    |nil=>rw[hq]at m1;simp at m1;lia|cons p ps=>exact⟨p,ps,rfl⟩
   obtain⟨k',rfl⟩:∃k':Nat,k=k'+1:=⟨k.toNat-1,by lia⟩
   have f0:(putG (pgs A) c (.deal A.dk (1+c % 36)))[0]?=xg p:=by rw[pe,bt];rfl
   have kX:er p≠.deal A.dk (1+c % 36):=by
    obtain⟨x,_,rfl⟩:=pJ.mp (show p∈pgs A by rw[bt];exact nV)
    exact λz=>by cases z
   refine el_f (by rw[fR p f0,decide_eq_false kX];rfl) ⟨_,_,rfl,.inl ⟨rfl,E,mgG A,L,_,_,_,⟨hj g4,hj g5,hj g6,h7,jM,λ_=>zdC_⟩,by simp only[nK,zbo_,cQ,n6,pf];lia,?_⟩⟩
   rw[pe,show E++mgG A++L++((pgs A).take ((k':Int)+1).toNat++.deal A.dk (1+c % 36)::(pgs A).drop ((k':Int)+1).toNat)++[cnt A]=(E++mgG A++L++(pgs A).take ((k':Int)+1).toNat)++.deal A.dk (1+c % 36)::((pgs A).drop ((k':Int)+1).toNat++[cnt A]) by simp]
   refine zhm_ rfl (ldeal ?_);rw[zr_,zr_,zr_,nE,nM,nL,znn_ (A:=A) λg hg=>pV hg,nK,nK,nK,oJ]
   simp only[pf];lia
 refine el_f (by exists g2,decide_eq_false w2) ?_
 have iI:∀{e':VI.Env}{d:D}(cs:List Gg),getE e' 8=.ok d.vw->(∀{j r},getE e j=r->(h:j≠8:=by decide)->getE e' j=r)->(∀a:List Gg,a.length<=900->addA (GL a) d.vw=.ok (GL (a++cs)))->cs.length<=10->((np cs).map er≠[cnt A])->En (S.runs gi pn [] e') (Rs A):=λ{e' d} cs h8 hj ha aT gr=>by
  refine⟨_,_,rfl,.inl ⟨rfl,E,mgG A,L,pgs A,_,cs,⟨hj g4,hj g5,hj g6,hj g7,h8,ha⟩,by simp only[nK,cQ];lia,zgo_ ?_⟩⟩
  rw[zr_,zr_,zr_,zr_,nE,nM,nL,nP,lg_p,oG,oG,oG,oG,er_m,er_g]
  simpa using gr
 by_cases w3:w=3
 ·exact el_t (by exists g2,decide_eq_true w3) (zaK_ (d:=GL []) rfl (hp _) (by lia) λe' _ h8 hj=>iI [] h8 @hj (λa ha=>zjd_ ha (by simp)) (by simp) λz=>by cases z)
 refine el_f (by exists g2,decide_eq_false w3) ?_
 by_cases w4:w=4\/w=5
 ·obtain⟨g',hg⟩:=ziJ_ A.dk (b:=A.od.take A.br.toNat) (s:=A.su) (d:=A.bd) (by have:=h.ok.ol;rw[oJ];lia) (by have:=h.ok.sl;lia) (by have:=h.ok.bl;lia) c h.ok.fg
  obtain⟨d,ed,dv⟩:=hg.ev;have hg:Ot (cnt A) c g':=hg;have i0:ixA (CL A) (.int 0)=.ok (GV (cnt A)):=rfl;have ed:zae_.val [GV (cnt A),.int c]=.ok d:=ed;have cd:(X.ev gi e (.or (.bin .eq (.v 2) (.n 4)) (.bin .eq (.v 2) (.n 5)))).bind blD=.ok xj:=by
   by_cases w4':w=4
   ·exists g2,decide_eq_true w4'
    all_goals rfl
   ·exists g2,decide_eq_false w4',decide_eq_true (w4.resolve_left w4')
    all_goals rfl
  refine el_t cd (zaK_ (d:=.nd .lst [d]) (by exists g8,g3,i0,zN_,ed) (hp _) (by lia) λe' _ h8 hj=>iI [g'] h8 @hj (λa ha=>znk_ dv (by lia)) (by simp) λz=>?_)
  rw[zpN_ hg.ps]at z;exact hg.ne (by injection z)
 have cd:(X.ev gi e (.or (.bin .eq (.v 2) (.n 4)) (.bin .eq (.v 2) (.n 5)))).bind blD=.ok xk:=by
  exists g2,decide_eq_false (λz=>w4 (.inl z)),decide_eq_false (λz=>w4 (.inr z))
  all_goals rfl
 refine el_f cd ?_;by_cases w6:w=6
 ·have hx:=zdk_ (gs:=E) (by lia) c (.pick A.dk (37*(c % 2)) [65]) (env:=e) (x:=.v 4) (y:=.v 3) (z:=.tup [(.k (.str [112,105,99,107])),(.i (.v 0) 0),(.bin .mul (.n 37) (.bin .mod (.v 3) (.n 2))),(.k (.str [65]))]) (by rw[xv_v,g4]) (by rw[xv_v,g3]) (by exists g0,g3,AL_0,em;rfl) (zb3_ _)
  refine el_t (by exists g2,decide_eq_true w6) (zaK_ hx (hp _) (by lia) λe' _ h4 hj=>⟨_,_,rfl,.inl ⟨rfl,_,mgG A,L,pgs A,_,_,⟨h4,hj g5,hj g6,hj g7,hj g8,λ_=>zdC_⟩,by simp only[nK,zbo_,cQ,n6,pf];lia,zd4_ rfl nq (by simp[zf0_])⟩⟩)
 refine el_f (by exists g2,decide_eq_false w6) ?_
 have fL:lenA [GL (pgs A)]=.ok (.int ((pgs A).length:Nat)):=ziE_ _;have jL:lenA [GL (mgG A)]=.ok (.int ((mgG A).length:Nat)):=ziE_ _;by_cases w7:w<10/\(0:Int)<((pgs A).length:Nat)
 ·have cd:(X.ev gi e (.and (.bin .lt (.v 2) (.n 10)) (.bin .gt (.bf .len [(.v 7)]) (.n 0)))).bind blD=.ok xj:=by
   exists g2,g7,fL,decide_eq_true w7.1,decide_eq_true w7.2
   all_goals rfl
  have m0:=qm c (show((pgs A).length:Int)≠0 by lia)
  have m1:=pU c w7.2;have ex:modD (.int c) (.int ((pgs A).length:Nat))=.ok (.int (c % ((pgs A).length:Nat))):=VI.vd_mod w7.2;refine el_t cd (zaK_ (d:=.int (c % ((pgs A).length:Nat))) (by exists g3,g7,fL,ex) (hp _) (by lia) λe1 fk cH dA=>?_)
  generalize c % (((pgs A).length:Nat):Int)=k at m0 m1 cH
  have k2:=dA g2;have k3:=dA g3;have k7:=dA g7;have cH:getE e1 10=.ok (.int k):=cH;have done:∀{e':VI.Env}{d:D}(ps:List Gg),getE e' 7=.ok (.fz (GL ps))->(∀{j r},getE e1 j=r->(h:j≠7:=by decide)->getE e' j=r)->ps.length<=10->((np ps).map er≠pgs A)->En (S.runs gi pn [] e') (Rs A):=λ{e' d} ps h7 hj cC bt=>by
   refine⟨_,_,rfl,.inl ⟨rfl,E,mgG A,L,ps,_,[cnt A],⟨hj (dA g4),hj (dA g5),hj (dA g6),h7,hj (dA g8),λ_=>zdC_⟩,by simp only[nK,n6,pf];lia,zgo_ ?_⟩⟩
   rw[zr_,zr_,zr_,zr_,nE,nM,nL,nC,lg_p,oG,oG,oG,oG,er_m];simp only[qP,qg,pW];intro z;rw[pD]at z;exact bt (List.append_cancel_right (List.append_cancel_left z))
  have c1:cutG (pgs A) xh (xg k)=(pgs A).take k.toNat:=zbR_ m0;have c2:cutG (pgs A) (xg (k+1)) xh=(pgs A).drop (k+1).toNat:=zcK_ (by lia)
  by_cases w8:w=7
  ·have ea:addA (GL ((pgs A).take k.toNat)) (GL ((pgs A).drop (k+1).toNat))=.ok (GL ((pgs A).take k.toNat++(pgs A).drop (k+1).toNat)):=zax_ (by rw[oJ,pz];lia)
   refine el_t (by exists k2,decide_eq_true w8) (zaK_ (d:=GL ((pgs A).take k.toNat++(pgs A).drop (k+1).toNat)) (by exists k7,cH,zoS_,c1,c2,ea) (hp _) (by lia) λe' _ h7 hj=>done (d:=.non) _ h7 @hj (by rw[nK,oJ,pz];lia) λz=>?_)
   have:=congrArg pS z;rw[znn_ (A:=A) λg hg=>(oP.mp hg).elim pV qv,nN,nK,oJ,pz]at this
   lia
  refine el_f (by exists k2,decide_eq_false w8) ?_
  by_cases w9:w=8/\(1:Int)<((pgs A).length:Nat)
  ·have cd:(X.ev gi e1 (.and (.bin .eq (.v 2) (.n 8)) (.bin .gt (.bf .len [(.v 7)]) (.n 1)))).bind blD=.ok xj:=by
    exists k2,k7,fL,decide_eq_true w9.1,decide_eq_true w9.2
    all_goals rfl
   obtain⟨p0,p1,ps,bt⟩:∃p0 p1 ps,A.wk=p0::p1::ps:=by
    have:=w9.2;rw[cQ]at this;cases hq:A.wk with
    |nil=>rw[hq]at this;simp at this|cons p r=>cases r with
     |nil=>rw[hq]at this;simp at this|cons q r=>exact⟨p,q,r,rfl⟩
   have dg:pgs A=.punch A.dk p0::.punch A.dk p1::ps.map (.punch A.dk):=by unfold pgs;rw[bt];rfl
   have i0:=zj0_ (gs:=pgs A) (i:=0) (g:=.punch A.dk p0) (by lia) (by rw[dg];rfl)
   have i1:=zj0_ (gs:=pgs A) (i:=1) (g:=.punch A.dk p1) (by lia) (by rw[dg];rfl)
   refine el_t cd (zaK_ (d:=GL [.punch A.dk p1,.punch A.dk p0]) (by exists k7,i0,i1,zN_;rfl) (hp _) (by lia) λe' _ h7 hj=>done (d:=.non) _ h7 @hj (by simp) λz=>?_)
   obtain⟨pl,q1,q2⟩:=h.pl;rw[dg]at z;have z:p1=p0:=by injection z with z;injection z
   have a0:=q2 0 p0 (by rw[bt];rfl)
   have a1:=q2 1 p1 (by rw[bt];rfl)
   exact q1 0 1 (by lia) (by rw[<- a0,<- a1,z])
  have cd:(X.ev gi e1 (.and (.bin .eq (.v 2) (.n 8)) (.bin .gt (.bf .len [(.v 7)]) (.n 1)))).bind blD=.ok xk:=by
   by_cases z:w=8
   ·exists k2,k7,fL,decide_eq_true z,decide_eq_false (λy=>w9 ⟨z,y⟩)
    all_goals rfl
   ·exists k2,decide_eq_false z
    all_goals rfl
  refine el_f cd ?_;obtain⟨x,hxk⟩:∃x,A.wk[k.toNat]?=xg x:=⟨A.wk[k.toNat]'(by lia),nU _⟩
  obtain⟨g',hg⟩:=zjG_ A.dk (w:=x) (h.ok.wk x (p8 hxk)).2.2.2 (c / 2);obtain⟨d,ed,dv⟩:=hg.ev;have ix:=zj0_ (gs:=pgs A) (i:=k) (g:=.punch A.dk x) m0 (by unfold pgs;rw[om,hxk];rfl)
  have bI:=znk_ (a:=(pgs A).take k.toNat) dv (by rw[oJ];lia)
  have e2:addA (GL ((pgs A).take k.toNat++[g'])) (GL ((pgs A).drop (k+1).toNat))=.ok (GL ((pgs A).take k.toNat++[g']++(pgs A).drop (k+1).toNat)):=zax_ (by rw[nK,oJ,pz];simp;lia)
  refine zaK_ (d:=GL ((pgs A).take k.toNat++[g']++(pgs A).drop (k+1).toNat)) (by exists k7,k3,cH,zoS_,c1,c2,ix,zN_,ed,bI,e2) (hp _) (by lia) λe' _ h7 hj=>done (d:=.non) _ h7 @hj (by rw[nK,nK,oJ,pz];simp;lia) λz=>?_
  rw[zr_,zr_,znn_ (A:=A) λg hg=>pV hg,zpN_ hg.ps,znn_ (A:=A) λg hg=>qv hg,oG,oG,er_in (A:=A) λg hg=>pV hg,er_in (A:=A) λg hg=>qv hg]at z
  have:=congrArg (λl=>l[k.toNat]?) z
  rw[pD,oX (by rw[oJ];lia),oJ,show k.toNat-min k.toNat (pgs A).length=0 by lia]at this
  have hq:(pgs A)[k.toNat]?=xg (.punch A.dk x):=by unfold pgs;rw[om,hxk];rfl
  rw[hq]at this;exact hg.ne (by injection this)
 have cd:(X.ev gi e (.and (.bin .lt (.v 2) (.n 10)) (.bin .gt (.bf .len [(.v 7)]) (.n 0)))).bind blD=.ok xk:=by
  by_cases z:w<10
  ·exists g2,g7,fL,decide_eq_true z,decide_eq_false (λy=>w7 ⟨z,y⟩)
   all_goals rfl
  ·exists g2,decide_eq_false z
   all_goals rfl
 refine el_f cd ?_;by_cases w10:9<w/\(0:Int)<((mgG A).length:Nat)
 ·have cd:(X.ev gi e (.and (.bin .gt (.v 2) (.n 9)) (.bin .gt (.bf .len [(.v 5)]) (.n 0)))).bind blD=.ok xj:=by
   exists g2,g5,jL,decide_eq_true w10.1,decide_eq_true w10.2
   all_goals rfl
  obtain⟨m,hm⟩:∃m,mgG A=[m]:=by
   cases hq:mgG A with
   |nil=>rw[hq]at w10;simp at w10|cons m r=>cases r with
    |nil=>exact⟨m,rfl⟩|cons q r=>rw[hq]at eB;simp at eB
  obtain⟨ms,e1,e2,e3⟩:=ms_ex h hm w c;have a1:addA (GL E) (GL ms)=.ok (GL (E++ms)):=zax_ (by lia)
  have a2:addA (GL (E++ms)) (GL (pgs A))=.ok (GL (E++ms++pgs A)):=zax_ (by rw[nK];lia)
  have a3:addA (GL (E++ms++pgs A)) (CL A)=.ok (GL (E++ms++pgs A++[cnt A])):=zdC_ (by rw[nK,nK];lia)
  exact el_t cd (zjY_ (d:=GL (E++ms++pgs A++[cnt A])) (by exists g0,g2,g3,g4,g5,g6,g7,g8,zdX_,zcO_,e1,a1,a2,a3) λ_=>.inr ⟨_,rfl,by simp only[nK,n6,pf];lia,e3⟩)
 have cd:(X.ev gi e (.and (.bin .gt (.v 2) (.n 9)) (.bin .gt (.bf .len [(.v 5)]) (.n 0)))).bind blD=.ok xk:=by
  by_cases z:9<w
  ·exists g2,g5,jL,decide_eq_true z,decide_eq_false (λy=>w10 ⟨z,y⟩)
   all_goals rfl
  ·exists g2,decide_eq_false z
   all_goals rfl
 refine el_f cd ?_;have ea:addA (CL A) (CL A)=.ok (GL [cnt A,cnt A]):=rfl;exact zaK_ (d:=GL [cnt A,cnt A]) (by exists g8,ea) (hp _) (by lia) λe' _ h8 hj=>iI [cnt A,cnt A] h8 @hj (λa ha=>zjd_ ha (by simp)) (by simp) λz=>by cases z
abbrev PT (A:Ak)(E L:List Gg):D:=.nd .lst [.fz (GL E),.fz (GL (mgG A)),.fz (GL L),.fz (GL (pgs A)),.fz (CL A)]
theorem zgW_ (h:Sc A E L)(w c:Int):∃sp:List Gg,zY_.val [.fz (AL A),.fz (PT A E L),.int w,.int c]=.ok (GL sp)/\sp.length<=300/\isPl A sp=xk:=by
 have key:∀pn:Nat->Bool,(∀i,pn i=xk)->En (S.runs gi pn zz_ ([.fz (AL A),.fz (PT A E L),.int w,.int c].map xg++ou 7 xh)) λo _=>∃sp:List Gg,o=.rt (GL sp)/\sp.length<=300/\isPl A sp=xk:=λpn hp=>by
  unfold zz_;show En (S.runs gi pn _ [xg (.fz (AL A)),xg (.fz (PT A E L)),xg (.int w),xg (.int c),xh,xh,xh,xh,xh,xh,xh]) _
  rw[rn_i (e1:=[xg (.fz (AL A)),xg (.fz (PT A E L)),xg (.int w),xg (.int c),xg (.fz (GL E)),xg (.fz (GL (mgG A))),xg (.fz (GL L)),xg (.fz (GL (pgs A))),xg (.fz (CL A)),xh,xh]) (by
   rw[S.run];show asg5M pn _ (keep (.ok (.fz (PT A E L))) _ [1])=_
   rw[zaV_ _ (by rw[D.new];rfl)]
   show(match setG pn _ [4,5,6,7,8] _ with |some e'=>Mr.ok Fl.nx e' |none=>.no)=_
   rw[show setG pn (frzE [xg (.fz (AL A)),xg (.fz (PT A E L)),xg (.int w),xg (.int c),xh,xh,xh,xh,xh,xh,xh] [1]) [4,5,6,7,8] [.fz (GL E),.fz (GL (mgG A)),.fz (GL L),.fz (GL (pgs A)),.fz (CL A)]=xg [xg (.fz (AL A)),xg (.fz (PT A E L)),xg (.int w),xg (.int c),xg (.fz (GL E)),xg (.fz (GL (mgG A))),xg (.fz (GL L)),xg (.fz (GL (pgs A))),xg (.fz (CL A)),xh,xh] by
    exists hp,zcO_
    rfl])]
  refine zaK_ (d:=.int (1+c % 36)) (by exists hp) (hp _) (by show 9<11;lia) λe' hl h9 hj=>?_
  obtain⟨o,e2,a,b⟩:=zjy_ h w c hp (e:=e') hl (hj rfl) (hj rfl) (hj rfl) (hj rfl) (hj rfl) (hj rfl) (hj rfl) (hj rfl) h9;rw[run1]at a;rw[S.runs];show En (seqM (S.run gi pn zz_[2] e') _) _
  rw[a];rcases b with⟨rfl,E',M',L',P',cd,cs,⟨g4,g5,g6,g7,g8,ha⟩,hlen,hbad⟩|⟨sp,rfl,hlen,hbad⟩
  ·rw[zcP_]
   simp only[nK]at hlen;have a1:addA (GL E') (GL M')=.ok (GL (E'++M')):=zax_ (by lia)
   have a2:addA (GL (E'++M')) (GL L')=.ok (GL (E'++M'++L')):=zax_ (by rw[nK];lia)
   have a3:addA (GL (E'++M'++L')) (GL P')=.ok (GL (E'++M'++L'++P')):=zax_ (by rw[nK,nK];lia)
   have a4:=ha (E'++M'++L'++P') (by rw[nK,nK,nK];lia)
   exact zjY_ (d:=GL (E'++M'++L'++P'++cs)) (by exists g4,g5,g6,g7,g8,a1,a2,a3,a4) λ_=>⟨_,rfl,by simp only[nK];lia,hbad⟩
  ·exact⟨_,_,rfl,sp,rfl,hlen,hbad⟩
 have hf:zY_=fnOf gi 4 7 zz_:=rfl;obtain⟨o,e,h1,sp,rfl,h2⟩:=key (pins [.fz (AL A),.fz (PT A E L),.int w,.int c]) (za1_ rfl);exact⟨sp,by rw[hf];exact zfB_ (zgU_ rfl rfl h1),h2⟩
theorem zgn_ (h:OkA A){sp:List Gg}(hl:sp.length<=300)(hb:isPl A sp=xk):∃q,z8_ [.fz (AO A),.fz (GL sp)]=.ex (.pl "NoPlan") q:=by
 have ep:=zfd_ h (gs:=sp) (by lia)
 have hf:z8_=fnOf gi 2 1 zaE_:=rfl;have ec:(X.ev gi [xg (.fz (AO A)),xg (.fz (GL sp)),xh] (.not (za3_ [(.v 0),(.v 1)]))).bind blD=.ok xj:=by
  have ep:zaI_.val [.fz (AO A),.fz (GL sp)]=_:=ep
  exists zq_,zcO_,ep,hb
 have e1:∀pn,S.runs gi pn zaE_ ([.fz (AO A),.fz (GL sp)].map xg++ou 1 xh)=.ex (.pl "NoPlan") [xg (.fz (AO A)),xg (.fz (GL sp)),xh]:=λpn=>by
  unfold zaE_;show S.runs gi pn _ [xg (.fz (AO A)),xg (.fz (GL sp)),xh]=_
  rw[S.runs,S.run,ec,zg8_];rfl
 rw[hf];unfold fnOf;rw[if_pos (show[D.fz (AO A),.fz (GL sp)].length=2 from rfl),e1]
 exact⟨_,rfl⟩
theorem eq_GL (a:List Gg):eqD xk (GL a) (GL a)=.ok (.bl xj):=by
 have:=zco_ (neg:=xk) (zl8_ a a);rw[decide_eq_true rfl]at this;exact this
theorem zhu_ {pn:Nat->Bool}:∀(l:List (Nat×X)) (e:VI.Env),hRun gi pn l e=S.runs gi pn (l.map λq=>.asg q.1 (.pu q.2)) e
 |[],e=>by rw[qg,S.runs];rfl
 |q::l,e=>by
  rw[nS,S.runs,S.run];show seqM (asgM pn q.1 (stX gi e q.2)) (hRun gi pn l)=seqM (asgM pn q.1 (stX gi e q.2)) λe=>_
  rw[show hRun gi pn l=_ from funext (zhu_ l)]
theorem zoy_ (h:OkA A){sp:List Gg}(hl:sp.length<=300)(hb:isPl A sp=xk):zai_.val [.fz (AO A),.fz (GL sp)]=.ok (.bl xj):=by
 obtain⟨q,hq⟩:=zgn_ h hl hb;refine zD_ rfl rfl λpn hp=>?_
 unfold za7_;have el:listA [GL sp]=.ok (GL sp):=by show Mq (D.nd .lst ((sp.map GV).map .vw))=_;rw[zb0_];rfl
 refine zaK_ (d:=GL sp) (by exists zcO_,el) (hp _) (by show 2<5;lia) λe1 l1 h2 j1=>zaK_ (d:=.nd .lst []) rfl (hp _) (by rw[l1];show 3<5;lia) λe2 l2 h3 j2=>?_
 have k2:getE e2 2=.ok (.fz (GL sp)):=j2 h2;have k0:getE e2 0=.ok (.fz (AO A)):=j2 (j1 rfl);have k1:getE e2 1=.ok (.fz (GL sp)):=j2 (j1 rfl);have dz:e2.length=5:=by rw[l2,l1];rfl
 obtain⟨e3,he3⟩:∃e3,e3=e2.set 4 (xg (.fz (.nd (.exc "NoPlan") []))):=⟨_,rfl⟩;have l3:e3.length=5:=by rw[he3,pH,dz]
 have x4:getE e3 4=.ok (.fz (.nd (.exc "NoPlan") [])):=by unfold getE;rw[he3,oY,if_pos rfl,if_pos (by lia)];rfl
 have x1:getE e3 1=.ok (.fz (GL sp)):=by rw[<- k1,he3];unfold getE;rw[oY,if_neg (by lia)]
 have x2:getE e3 2=.ok (.fz (GL sp)):=by rw[<- k2,he3];unfold getE;rw[oY,if_neg (by lia)]
 obtain⟨o,e5,h5,rfl,y1,y2,y3⟩:En (hRun gi pn (hX 4 3 xj [[([("NoPlan",xj)],[("NoPlan",xj)]),([("ValueError",xk)],[("NoPlan",xj)])],[([("NoCard",xj),("NoField",xj),("NoOrder",xj),("NoBoard",xj),("Meet",xj),("NoAsking",xj),("NoTray",xj),("NoRow",xj)],[("NoPlan",xk)])]]) e3) λo e=>o=.nx/\getE e 1=.ok (.fz (GL sp))/\getE e 2=.ok (.fz (GL sp))/\getE e 3=.ok (.fz (.nd .lst [.bl xj,.bl xj,.bl xk])):=by
  rw[zhu_];have km:isxD [("NoPlan",xj)] (.fz (.nd (.exc "NoPlan") []))=.ok (.bl xj):=by
   show Mo.opt ((qR "NoPlan" [("NoPlan",xj)]).map _)=_
   rw[se];rfl
  have kl:isxD [("NoPlan",xk)] (.fz (.nd (.exc "NoPlan") []))=.ok (.bl xk):=by
   show Mo.opt ((qR "NoPlan" [("NoPlan",xk)]).map _)=_
   rw[se];rfl
  refine zaK_ (d:=.nd .lst [.bl xj,.bl xj]) ?_ (hp _) (by lia) λe4 l4 h3 j3=>zaK_ (d:=.nd .lst [.bl xj,.bl xj,.bl xk]) ?_ (hp _) (by lia) λe5 l5 h5 j4=>⟨_,_,rfl,rfl,j4 (j3 x1),j4 (j3 x2),h5⟩
  ·show X.ev gi e3 (.lst [.isx (.v 4) [("NoPlan",xj)] [("NoPlan",xj)],.isx (.v 4) [("ValueError",xk)] [("NoPlan",xj)]])=_
   have i1:=zi4_ (G:=gi) (a:=.v 4) (env:=e3) [("NoPlan",xj)] [("NoPlan",xj)] (vE _);have i2:=zi4_ (G:=gi) (a:=.v 4) (env:=e3) [("ValueError",xk)] [("NoPlan",xj)] (vF _ (.head _))
   exists i1,i2,x4,km
  ·have z4:=j3 x4
   have h3:getE e4 3=.ok (.fz (.nd .lst [.bl xj,.bl xj])):=h3;have ea:addA (.nd .lst [.bl xj,.bl xj]) (.nd .lst [.bl xk])=.ok (.nd .lst [.bl xj,.bl xj,.bl xk]):=rfl;show X.ev gi e4 (.bin .add (.v 3) (.lst [.isx (.v 4) [("NoCard",xj),("NoField",xj),("NoOrder",xj),("NoBoard",xj),("Meet",xj),("NoAsking",xj),("NoTray",xj),("NoRow",xj)] [("NoPlan",xk)]]))=_
   have i1:=zi4_ (G:=gi) (a:=.v 4) (env:=e4) [("NoCard",xj),("NoField",xj),("NoOrder",xj),("NoBoard",xj),("Meet",xj),("NoAsking",xj),("NoTray",xj),("NoRow",xj)] [("NoPlan",xk)] (vF _ (.tail _ (.head _)))
   exists i1,z4,kl,h3,ea
 obtain⟨e6,he6⟩:∃e6,e6=e5.set 4 xh:=⟨_,rfl⟩;have gs:∀j,j≠4->getE e6 j=getE e5 j:=λj hj=>by rw[he6];unfold getE;rw[oY,if_neg λz=>hj z.symm]
 rw[rn_i (e1:=e6) (by
  rw[S.run,if_pos (show("ShopError",[("NoPlan",xj)])∈gi.ct from vE _)]
  have ev:X.evs gi e2 [.v 0,.v 2]=.ok [.fz (AO A),.fz (GL sp)]:=by
   exists k0,k2
  unfold tryM;rw[ev];show(match z8_ [.fz (AO A),.fz (GL sp)]with |.ok _ _=>_ |.ex (.pl c) _=>_ |_=>_)=_
  rw[hq];show(if qR "NoPlan" [("NoPlan",xj)]=xg xj/\pn 4=xk/\4<e2.length then _ else _)=_
  rw[if_pos ⟨se,hp 4,by lia⟩]
  show goneM 4 (hRun gi pn _ (e2.set 4 (xg (.fz (.nd (.exc "NoPlan") [])))))=_
  rw[<- he3,h5,he6];rfl)]
 refine zjY_ (d:=.bl xj) ?_ λ_=>.inl rfl
 have w1:=(gs 1 (by lia)).trans y1
 have w2:=(gs 2 (by lia)).trans y2
 have w3:=(gs 3 (by lia)).trans y3
 have q1:eqD xk (.nd .lst [.bl xj,.bl xj,.bl xk]) (.nd .lst [.bl xj,.bl xj,.bl xk])=.ok (.bl xj):=rfl
 exists w1,w2,w3,q1,eq_GL
end
section
variable {A:Ak}
theorem okl_t {gs:List Gg}{a:Int}(h:∀g∈gs,isPs g=xj/\told A a g=xj):okl A a gs=xj:=by
 induction gs with
 |nil=>rfl|cons g gs ih=>
  show(bif isPs g then told A a g && okl A a gs else _)=xj
  rw[(h g nV).1,(h g nV).2,ih λx hx=>h x (nY _ hx)];rfl
theorem zpi_:∀{gs:List Gg}{a:Int},(∀g∈gs,isPs g=xk)->okl A a gs=xj
 |[],_,_=>rfl|g::gs,a,h=>by
  show(bif isPs g then _ else okl A (a+1) gs)=xj
  rw[h g nV];exact zpi_ λx hx=>h x (nY _ hx)
theorem zho_ {w:Int}{g:Gg}(h:Pw A w g):isPs g=xj:=by
 obtain⟨c,_,_,⟨_,rfl |⟨s,rfl⟩⟩|⟨_,k,_,rfl⟩|⟨_,rfl⟩⟩:=h<;>rfl
theorem zkh_ (hn:∀k∈nmt A,k≠A.dk){g:Gg}(h:Pw A 0 g\/Pw A 1 g):told A 0 g=xj:=by
 have key:∀w,w≠2->Pw A w g->told A 0 g=xj:=λw hw h=>by
  obtain⟨c,h1,h2,⟨_,rfl |⟨s,rfl⟩⟩|⟨_,k,hk,rfl⟩|⟨z,_⟩⟩:=h
  ·show(decide (1<=c) && decide (c<=36) && (if A.dk=A.dk then decide ((0:Int)<=(mgG A).length)else _))=xj
   rw[if_pos rfl];simp[h1,h2]
  ·show(decide (1<=c) && decide (c<=36) && (decide (A.dk=A.dk) && decide ((0:Int)=0)))=xj
   simp[h1,h2]
  ·show(decide (1<=c) && decide (c<=36) && (if k=A.dk then _ else decide (k∈nmt A) && decide ((0:Int)=0)))=xj
   rw[if_neg (hn k hk)];simp[h1,h2,hk]
  ·exact absurd z hw
 exact h.elim (key 0 (by lia)) (key 1 (by lia))
theorem zlw_ (hn:∀k∈nmt A,k≠A.dk){E L:List Gg}(he:∀g∈E,Pw A 0 g\/Pw A 1 g)(hl:∀g∈L,Pw A 2 g):isPl A (E++mgG A++L++pgs A++[cnt A])=xj:=by
 have nE:=np_0 (gs:=E) λg hg=>(he g hg).elim zho_ zho_
 have nL:=np_0 (gs:=L) λg hg=>zho_ (hl g hg)
 have nM:∀g∈mgG A,isPs g=xk:=by unfold mgG;cases A.md<;>simp[isPs]
 have nP:∀g∈pgs A++[cnt A],isPs g=xk:=λg hg=>by
  rcases oP.mp hg with hg |hg
  ·obtain⟨w,_,rfl⟩:=pJ.mp hg;rfl
  ·rw[oE.mp hg];rfl
 have h1:((E++mgG A++L++pgs A++[cnt A]).filter λg=>!isPs g).map er=mgG A++lgG A:=by
  show(np (E++mgG A++L++pgs A++[cnt A])).map er=_
  rw[pD,zr_,zr_,zr_,nE,nL,np_s nM,np_s nP,qP,pW,<- lg_p,er_ml]
 have aq:okl A 0 E=xj:=okl_t λg hg=>⟨(he g hg).elim zho_ zho_,zkh_ hn (he g hg)⟩
 have h2:okl A 0 (E++mgG A++L++pgs A++[cnt A])=xj:=by
  rw[pD,zcd_,zcd_,zcd_,aq,zpi_ nM,zpi_ nP,zr_,nE,np_s nM];show(xj && xj && okl A _ L && xj)=xj
  rw[okl_t λg hg=>⟨zho_ (hl g hg),?_⟩]
  ·rfl
  ·obtain⟨c,h1,h2,⟨z,_⟩|⟨z,_⟩|⟨_,rfl⟩⟩:=hl g hg
   ·lia
   ·lia
   ·show(decide (1<=c) && decide (c<=36) && (if A.dk=A.dk then decide (_<=((mgG A).length:Int))else _))=xj
    rw[if_pos rfl];simp[h1,h2]
 unfold isPl;rw[decide_eq_true h1,h2];rfl
end
theorem ziz_:∀ns:List Int,ns.length<=63->BitsOk ns->f_law.val [scr ns]=.ok (.bl xj):=by
 intro ns _ _;obtain⟨A,⟨hA,hn,ax⟩,ea⟩:=zgP_ ns;obtain⟨E0,ee0,le0,he0⟩:=zct_ ns hA.md 0;obtain⟨E1,ee1,le1,he1⟩:=zct_ ns hA.md 1;obtain⟨L0,el0,ll0,hl0⟩:=zct_ ns hA.md 2;have em:=zm5_ hA.md;have m9:zb_.val [scr ns,.int 15]=.ok (.int (cel ns 15)):=zQ_ ns (by lia) (by lia)
 have m8:zb_.val [scr ns,.int 16]=.ok (.int (cel ns 16)):=zQ_ ns (by lia) (by lia)
 have m7:zb_.val [scr ns,.int 17]=.ok (.int (cel ns 17)):=zQ_ ns (by lia) (by lia)
 have bA:=hA.wl;have eB:=ml1 A;have cQ:=zgq_ A;refine zD_ rfl rfl λpn hp=>?_
 unfold znI_;have nf:∀{e e':VI.Env}{d:Option D},e'=e.set 5 d->∀{j r},getE e j=r->(h:j≠5:=by decide)->getE e' j=r:=λ{e e' d} h {j r} hr hj=>by rw[<- hr,h];unfold getE;rw[oY,if_neg λz=>hj z.symm]
 refine zaK_ (d:=AL A) (by exists zcI_,ea) (hp _) (by show 1<14;lia) λe1 l1 s1 j1=>?_
 have s0:getE e1 0=.ok (scr ns):=j1 (by show Mq (scr ns).vw=_;rw[zcI_])
 have s1:getE e1 1=.ok (.fz (AL A)):=s1;have l1:e1.length=14:=l1;clear j1;refine zaK_ (d:=AO A) (by exists s1,zdX_,zm6_ hA) (hp _) (by lia) λe2 l2 s2 j2=>?_
 have t0:=j2 s0;have t1:=j2 s1;have s2:getE e2 2=.ok (.fz (AO A)):=s2;have l2:e2.length=14:=l2.trans l1;clear j2 s0 s1 l1;refine zaK_ (d:=GL E0) (by exists t0,t1,zcI_,zdX_,ee0) (hp _) (by lia) λe3 l3 s3 j3=>?_
 have s0:=j3 t0;have s1:=j3 t1;have u2:=j3 s2;have l3:e3.length=14:=l3.trans l2;clear j3 t0 t1 s2 l2;refine zaK_ (d:=.int (cel ns 15)) (by exists s0,zcI_,m9) (hp _) (by lia) λe4 l4 s4 j4=>?_
 have t0:=j4 s0;have t1:=j4 s1;have t2:=j4 u2;have t3:getE e4 3=.ok (.fz (GL E0)):=j4 s3;have s4:getE e4 4=.ok (.int (cel ns 15)):=s4;have l4:e4.length=14:=l4.trans l3;clear j4 s0 s1 u2 s3 l3;have cz:X.ev gi e4 (z1_ [(.v 0),(.v 1),(.n 1)])=.ok (GL E1):=by exists t0,t1,zcI_,zdX_,ee1
 have n1:(GL E1).new=xj:=zqc_ λg hg=>by
  obtain⟨c,_,_,⟨_,rfl |⟨s,rfl⟩⟩|⟨_,k,_,rfl⟩|⟨_,rfl⟩⟩:=he1 g hg<;>exact zbr_ _ rfl
 refine zcX_ (l:=E1) (enc:=λg=>[GV g]) (d:=GL E1) (λd e=>e.length=14/\getE e 0=.ok (scr ns)/\getE e 1=.ok (.fz (AL A))/\getE e 2=.ok (.fz (AO A))/\getE e 4=.ok (.int (cel ns 15))/\∃E,getE e 3=.ok (.fz (GL E))/\E.length<=24+d.length/\∀g∈E,Pw A 0 g\/Pw A 1 g) (by rw[cz];exact zap_ _ n1) rfl (zao_ _ _) ⟨l4,t0,t1,t2,s4,E0,t3,by lia,λg hg=>.inl (he0 g hg)⟩ (λd g r e hd he=>?_) λe he=>?_
 ·obtain⟨le,h0,h1,h2,h4,E,h3,hE,hP⟩:=he
  have lC:d.length<24:=by have:=congrArg pS hd;simp at this;lia
  obtain⟨e',dE⟩:∃e',e'=e.set 5 (xg (GV g).vw):=⟨_,rfl⟩;have nn:=@nf _ _ _ dE;refine⟨e',by show(if pn 5=xk/\5<e.length then _ else _)=_;rw[if_pos ⟨hp 5,by lia⟩,dE];rfl,?_⟩
  have h5:getE e' 5=.ok (GV g):=by unfold getE;rw[dE,oY,if_pos rfl,if_pos (by lia)];show Mq (GV g).vw.vw=_;rw[zN_,zN_]
  have hx:=zdk_ (gs:=E) (by lia) (cel ns 15) g (env:=e') (x:=.v 3) (y:=.v 4) (z:=.v 5) (by rw[xv_v,nn h3]) (by rw[xv_v,nn h4]) (by rw[xv_v,h5]) (zN_ g)
  refine zaK_ hx (hp _) (by rw[dE,pH];lia) λe2 l2 k3 jj=>⟨_,_,rfl,.inl ⟨.inl rfl,by rw[l2,dE,pH,le],jj (nn h0),jj (nn h1),jj (nn h2),jj (nn h4),_,k3,by rw[zbo_,nK];simp;lia,λx hx=>?_⟩⟩
  unfold putG at hx;rcases oP.mp hx with hx |hx
  ·exact hP x (pV hx)
  ·rcases og.mp hx with rfl |hx
   ·exact .inr (he1 x (by rw[hd];simp))
   ·exact hP x (qv hx)
 clear t0 t1 t2 t3 s4 l4 cz;obtain⟨l4,s0,s1,s2,_,E,s3,hE,hP⟩:=he;have hE:E.length<=48:=by lia
 refine zaK_ (d:=GL L0) (by exists s0,s1,zcI_,zdX_,el0) (hp _) (by lia) λe6 l6 s6 j6=>?_
 have t0:=j6 s0;have t1:=j6 s1;have t2:=j6 s2;have t3:=j6 s3;have s6:getE e6 6=.ok (.fz (GL L0)):=s6;have l6:e6.length=14:=l6.trans l4;clear j6 s0 s1 s2 s3 l4;refine zaK_ (d:=GL (mgG A)) (by exists t1,zdX_,em) (hp _) (by lia) λe7 l7 s7 j7=>?_
 have s0:=j7 t0;have s1:=j7 t1;have s2:=j7 t2;have s3:=j7 t3;have u6:=j7 s6;have s7:getE e7 7=.ok (.fz (GL (mgG A))):=s7;have l7:e7.length=14:=l7.trans l6;clear j7 t0 t1 t2 t3 s6 l6;have q7:X.ev gi e7 (.bin .eq (.v 7) (.lst []))=.ok (.bl (decide ((mgG A).map er=([]:List Gg).map er))):=by
  have:=zco_ (neg:=xk) (zl8_ (mgG A) []);have x0:X.ev gi e7 (.lst [])=.ok (.nd .lst []):=rfl;rw[zcV_,xv_v,s7,zbb_,x0,zbb_];exact this
 obtain⟨e8,L,h8,l8,t6,hL,hLl,j8⟩:∃e8 L,S.run gi pn (.if_ (.bin .eq (.v 7) (.lst [])) [.asg 6 (.pu (.lst []))] []) e7=.ok .nx e8/\e8.length=14/\getE e8 6=.ok (.fz (GL L))/\(∀g∈L,Pw A 2 g)/\L.length<=24/\∀{j r},getE e7 j=r->(h:j≠6:=by decide)->getE e8 j=r:=by
  by_cases hm:(mgG A).map er=([]:List Gg).map er
  ·rw[decide_eq_true hm]at q7
   have:=zaK_ (pn:=pn) (e:=e7) (x:=.lst []) (i:=6) (ss:=[]) (d:=GL []) (Q:=λo e=>o=.nx/\e.length=14/\getE e 6=.ok (.fz (GL []))/\∀{j r},getE e7 j=r->(h:j≠6:=by decide)->getE e j=r) rfl (hp _) (by lia) λe l k j=>⟨_,_,rfl,rfl,l.trans l7,k,@j⟩
   obtain⟨o,e8,a,rfl,b,c,d⟩:=this;exact⟨e8,[],by rw[S.run,q7];exact a,b,c,(λ_ h=>nomatch h),qS _,@d⟩
  ·rw[decide_eq_false hm]at q7
   exact⟨e7,L0,by rw[S.run,q7];rfl,l7,u6,hl0,ll0,λh _=>h⟩
 rw[rn_i h8];have t0:=j8 s0;have t1:=j8 s1;have t2:=j8 s2;have t3:=j8 s3;have t7:=j8 s7;clear j8 s0 s1 s2 s3 s7 u6 q7 h8;have x8:X.ev gi e8 (.comp ["_law_work"] [("_law_a",1)] .any [(.i (.v 1) 4)] ⟨xk,[0]⟩ xh (.tup [(.k (.str [112,117,110,99,104])),(.i (.v 1) 0),(.v 0)]))=.ok (GL (pgs A)):=by
  have c1:getE [(e8[1]?).join] 0=.ok (.fz (AL A)):=by
   rw[<- t1];unfold getE;cases e8[1]? with
   |none=>rfl|some o=>cases o<;>rfl
  have:=xcompN (G:=gi) (env:=e8) (lv:=["_law_work"]) (fr:=[("_law_a",1)]) (ik:=.any) (src:=[.i (.v 1) 4]) (tg:=⟨xk,[0]⟩) (f:=λx:Wk=>x) (o:=PG A.dk) (e:=.tup [(.k (.str [112,117,110,99,104])),(.i (.v 1) 0),(.v 0)]) (items:=A.wk.map WK) (T:=λx:Wk=>[WK x]) A.wk rfl (by exists t1,AL_4) (zao_ _ _) (λx hx=>by
   exists c1,AL_0
   rfl) (by lia)
  rw[this,sS];show Mq (D.nd .lst (A.wk.map (PG A.dk)))=.ok (.nd .lst ((A.wk.map (.punch A.dk)).map GV))
  rw[pF];rfl
 refine zaK_ x8 (hp _) (by lia) λe9 l9 s8 j9=>?_
 have s0:=j9 t0;have s1:=j9 t1;have s2:=j9 t2;have s3:=j9 t3;have s6:=j9 t6;have s7:=j9 t7;have s8:getE e9 8=.ok (.fz (GL (pgs A))):=s8;have l9:e9.length=14:=l9.trans l8;clear j9 t0 t1 t2 t3 t6 t7 l8 x8;have x9:X.ev gi e9 (.lst [(.tup [(.k (.str [99,111,117,110,116])),(.i (.v 1) 0),(.sl (.i (.v 1) 3) xh (xg (.i (.v 1) 5))),(.bf .list [(.i (.v 1) 6)]),(.i (.v 1) 7),(.bf .list [(.i (.v 1) 8)])])])=.ok (CL A):=by
  exists s1,AL_0,AL_3,AL_5,AL_6,AL_7,AL_8,zbR_ hA.br.1
  rfl
 refine zaK_ x9 (hp _) (by lia) λiF gf t9 cO=>?_
 have t0:=cO s0;have t1:=cO s1;have t2:=cO s2;have t3:=cO s3;have t6:=cO s6;have t7:=cO s7;have t8:=cO s8;have t9:getE iF 9=.ok (.fz (CL A)):=t9;have gf:iF.length=14:=gf.trans l9;clear cO s0 s1 s2 s3 s6 s7 s8 l9 x9;obtain⟨pl,cC⟩:∃pl,pl=E++mgG A++L++pgs A++[cnt A]:=⟨_,rfl⟩;have kY:pl.length<=100:=by rw[cC];simp only[nK,n6,pf];lia
 have e_:isPl A pl=xj:=by rw[cC];exact zlw_ (λk hk=>(hn k hk).1) hP hL
 have iK:X.ev gi iF (.bin .add (.bin .add (.bin .add (.bin .add (.v 3) (.v 7)) (.v 6)) (.v 8)) (.v 9))=.ok (GL pl):=by
  have a1:addA (GL E) (GL (mgG A))=.ok (GL (E++mgG A)):=zax_ (by lia)
  have a2:addA (GL (E++mgG A)) (GL L)=.ok (GL (E++mgG A++L)):=zax_ (by rw[nK];lia)
  have a3:addA (GL (E++mgG A++L)) (GL (pgs A))=.ok (GL (E++mgG A++L++pgs A)):=zax_ (by rw[nK,nK];lia)
  have a4:addA (GL (E++mgG A++L++pgs A)) (CL A)=.ok (GL pl):=by rw[cC];exact zdC_ (by rw[nK,nK,nK];lia)
  exists t3,t7,t6,t8,t9,a1,a2,a3,a4
 refine zaK_ iK (hp _) (by lia) λjU gd cJ cy=>?_
 have s0:=cy t0;have s1:=cy t1;have s2:=cy t2;have s3:=cy t3;have s6:=cy t6;have s7:=cy t7;have s8:=cy t8;have s9:=cy t9;have cJ:getE jU 10=.ok (.fz (GL pl)):=cJ;have gd:jU.length=14:=gd.trans gf;clear cy t0 t1 t2 t3 t6 t7 t8 t9 gf iK;have mU:listA [GL pl]=.ok (GL pl):=by show Mq (D.nd .lst ((pl.map GV).map .vw))=_;rw[zb0_];rfl
 refine zaK_ (d:=GL pl) (by exists cJ,mU) (hp _) (by lia) λjT f_ cY cb=>?_
 have t0:=cb s0;have t1:=cb s1;have t2:=cb s2;have t3:=cb s3;have t6:=cb s6;have t7:=cb s7;have t8:=cb s8;have t9:=cb s9;have eD:=cb cJ;have cY:getE jT 11=.ok (.fz (GL pl)):=cY;have f_:jT.length=14:=f_.trans gd;clear cb s0 s1 s2 s3 s6 s7 s8 s9 cJ gd;have ep:zaI_.val [.fz (AO A),.fz (GL pl)]=.ok (.bl xj):=by rw[<- e_];exact zfd_ hA (by lia)
 refine zaK_ (d:=.bl xj) (by exists t2,cY,zq_,zcO_,ep) (hp _) (by lia) λjS i9 gE bP=>?_
 have s0:=bP t0;have s1:=bP t1;have s2:=bP t2;have s3:=bP t3;have s6:=bP t6;have s7:=bP t7;have s8:=bP t8;have s9:=bP t9;have cJ:=bP eD;have iW:=bP cY;have gE:getE jS 12=.ok (.bl xj):=gE;have i9:jS.length=14:=i9.trans f_;clear bP t0 t1 t2 t3 t6 t7 t8 t9 eD cY f_;have nx:∀{e:VI.Env}{x:X}{a ss:List S}{Q:Fl->VI.Env->Prop},(x.ev gi e).bind blD=.ok xk->En (S.runs gi pn ss e) Q->En (S.runs gi pn (.if_ x a []::ss) e) Q:=λ{e x a ss Q} h k=>by
  rw[rn_i (e1:=e) (by rw[S.run,h];rfl)];exact k
 have ne1:eqD xj (GL pl) (GL pl)=.ok (.bl xk):=by
  have:=zco_ (neg:=xj) (zl8_ pl pl);rw[decide_eq_true rfl]at this;exact this
 have i1:isD xj (.bl xj) (.bl xj)=.ok (.bl xk):=rfl;refine nx (by exists gE,iW,cJ,i1,ne1;all_goals rfl) ?_
 have hS:Sc A E L:=⟨hA,hn,ax,λg hg=>(hP g hg).elim zho_ zho_,λg hg=>zho_ (hL g hg),by lia,hLl⟩
 obtain⟨sp,esp,d9,hbad⟩:=zgW_ hS (cel ns 16 % 16) (cel ns 17);have v5:(PT A E L).vw=.fz (PT A E L):=rfl;refine zaK_ (d:=GL sp) (by exists s0,s1,s3,s7,s6,s8,s9,zcI_,zdX_,m8,m7,v5,esp) (hp _) (by lia) λmX nz fZ gM=>?_
 have t2:=gM s2;have eD:=gM cJ;have cY:=gM iW;have fZ:getE mX 13=.ok (.fz (GL sp)):=fZ;have qe:eqD xk (GL sp) (GL pl)=.ok (.bl xk):=by
  have:=zco_ (neg:=xk) (zl8_ sp pl);rw[decide_eq_false λz=>by have:=zkr_ (A:=A) z;rw[hbad,e_]at this;cases this]at this
  exact this
 have mQ:zaI_.val [.fz (AO A),.fz (GL sp)]=.ok (.bl xk):=by rw[<- hbad];exact zfd_ hA (by lia)
 have mS:=zoy_ hA d9 hbad;have i2:isD xj (.bl xk) (.bl xk)=.ok (.bl xk):=rfl;have i3:isD xk (.bl xj) (.bl xj)=.ok (.bl xj):=rfl;refine nx (by exists fZ,eD,qe) (nx (by exists t2,fZ,zq_,zcO_,mQ,mS,i2;all_goals rfl) (zjY_ (d:=.bl xj) (by exists t2,cY,zq_,zcO_,ep,i3) λ_=>.inl rfl))
def top (i:Nat):pM:=PySem.Challenge.pw_cardshop_k65_kinds_of_plans.main.body.getD i (.Pass ⟨0,0,0,0⟩)
abbrev zam_:pM:=inClass (top 42) 0
def ft:Ft:={bs:=["ValueError", "all", "bool", "enumerate", "int", "isinstance", "len", "list", "min", "range", "sorted", "zip"],at_:=["board", "breaks", "deck", "figures", "middle", "order", "picks", "sums", "works"],gc:=[("BODY_WIDTH",(.int 36)),("CARD_WIDTH",(.int 40)),("LONGEST_NAME",(.int 8)),("MOST_BREAKS",(.int 3)),("MOST_FIGURES",(.int 12)),("MOST_KEYS",(.int 6)),("MOST_PICKS",(.int 8)),("MOST_SUMS",(.int 4)),("MOST_WORKS",(.int 4)),("SIGNS",(tx Qm0)),("SMALL_LETTERS",(tx Qm1))]}
structure Ek (K:Fgg):Prop where
 ec:Ec ft gi K
 u0:Fg K "_law_cell" (top 100)
 u1:Fg K "_law_signs" (top 102)
 u2:Fg K "_law_names" (top 103)
 u3:Fg K "_law_field" (top 101)
 u4:Fg K "_law_middle" (top 105)
 u5:Fg K "_law_picks" (top 104)
 u6:Fg K "_law_works" (top 106)
 u7:Fg K "_law_asking" (top 107)
 u8:Fg K "own_list" (top 43)
 u9:Fg K "ask_for" (top 51)
 u10:Fg K "check_lengths" (top 53)
 u11:Fg K "mates_by" (top 44)
 u12:Fg K "check_middle_word" (top 54)
 u13:Fg K "names_of" (top 45)
 u14:Fg K "is_name" (top 49)
 u15:Fg K "check_names" (top 55)
 u16:Fg K "middle_fields" (top 46)
 u17:Fg K "fields_due" (top 56)
 u18:Fg K "is_whole" (top 18)
 u19:Fg K "is_field" (top 23)
 u20:Fg K "width_of" (top 24)
 u21:Fg K "are_signs" (top 15)
 u22:Fg K "picked_signs" (top 29)
 u23:Fg K "columns_of" (top 25)
 u24:Fg K "pick_passes" (top 48)
 u25:Fg K "check_picks" (top 57)
 u26:Fg K "check_middle_widths" (top 58)
 u27:Fg K "is_column" (top 20)
 u28:Fg K "make_board" (top 21)
 u29:Fg K "is_board" (top 50)
 u30:Fg K "check_counting" (top 59)
 u31:Fg K "fields_kept" (top 61)
 u32:Fg K "are_apart" (top 26)
 u33:Fg K "check_works" (top 60)
 u34:Fg K "check_asking" (top 52)
 u35:Fg K "_law_made" (top 108)
 u36:Fg K "_law_passes" (top 109)
 u37:Fg K "_law_put" (top 111)
 u38:Fg K "_law_middle_goings" (top 110)
 u39:Fg K "is_pass" (top 71)
 u40:Fg K "is_first" (top 66)
 u41:Fg K "middle_goings" (top 69)
 u42:Fg K "break_fields" (top 47)
 u43:Fg K "last_goings" (top 70)
 u44:Fg K "is_told_pass" (top 73)
 u45:Fg K "is_plan" (top 72)
 u46:Fg K "_law_next" (top 112)
 u47:Fg K "_law_other" (top 113)
 u48:Fg K "_law_middle_spoilt" (top 115)
 u49:Fg K "_law_spoilt" (top 114)
 u50:Fg K "parted_at" (top 98)
 u51:Fg K "_law_no_plan" (top 116)
 u52:Fg K "law" (top 117)
 u53:FmD K "Asking" "__init__" "Asking.__init__" zam_ [.non,(.int 0),.non,(.int 6),.non]
 u55:Fk K "NoPlan"
 u56:Fe1 K "NoPlan" λv=>excK K v=xj
 u57:Fe2 K "NoPlan" "NoPlan" λv w=>isaK K v (.ref w)=xg xj
 u58:Fe1 K "NoPlan" λv=>isaK K v (.type "ValueError")=xg xj
 u59:Fe2 K "NoPlan" "NoCard" λv w=>isaK K v (.ref w)=xg xk
 u60:Fe2 K "NoPlan" "NoField" λv w=>isaK K v (.ref w)=xg xk
 u61:Fe2 K "NoPlan" "NoOrder" λv w=>isaK K v (.ref w)=xg xk
 u62:Fe2 K "NoPlan" "NoBoard" λv w=>isaK K v (.ref w)=xg xk
 u63:Fe2 K "NoPlan" "Meet" λv w=>isaK K v (.ref w)=xg xk
 u64:Fe2 K "NoPlan" "NoAsking" λv w=>isaK K v (.ref w)=xg xk
 u65:Fe2 K "NoPlan" "NoTray" λv w=>isaK K v (.ref w)=xg xk
 u66:Fe2 K "NoPlan" "NoRow" λv w=>isaK K v (.ref w)=xg xk
 u67:Fe2 K "NoPlan" "ShopError" λv w=>catK K v w=xj
structure En (K:Fgg)(mg:Str->Option nI):Prop extends Ek K where
 m:Mgo K mg
theorem gok {K:Fgg}(e:Ek K):gi.Ok K:=⟨by decide,λq h=>ftt_u (e.ec.t q h),(am_cons (am_cons ⟨e.u57.g,by decide⟩ am_nil) (am_cons (am_cons ⟨e.u58.g,by decide⟩ am_nil) (am_cons (am_cons ⟨(zbk_ e.u59.g (zbk_ e.u60.g (zbk_ e.u61.g (zbk_ e.u62.g (zbk_ e.u63.g (zbk_ e.u64.g (zbk_ e.u65.g (zbk_ e.u66.g (zmG_ e.u59.g))))))))),by decide⟩ am_nil) am_nil))),(am_cons (am_cons e.u67.g am_nil) am_nil)⟩
theorem lawOk {P:oH}{w:oV}{K:Fgg}{mg:Str->Option nI}{base:Heap}(e:En K mg):OkF P w K mg base (CXx P w) 10 "law" "law" (top 117) ["_law_script"] (CtG K f_law):=by
 have c:Eo P w base ft gi K mg:=⟨e.m,gok e.toEk,e.ec.ft e.m⟩;have g0:=gdT 0 c (f:=zb_) rfl e.u0 trivial;have g1:=gdT 0 c (f:=zaO_) rfl e.u1 trivial;have g2:=gdT 0 c (f:=zad_) rfl e.u2 trivial;have g3:=gdT 0 c (f:=zU_) rfl e.u3 trivial;have g4:=gdT 1 c (f:=zav_) rfl e.u4 ⟨fkc g0,fkc g3,fkc g0,trivial⟩;have g5:=gdT 1 c (f:=zV_) rfl e.u5 ⟨fkc g0,fkc g0,fkc g3,trivial⟩;have g6:=gdT 1 c (f:=zaa_) rfl e.u6 ⟨fkc g0,fkc g3,fkc g3,trivial⟩;have g7:=gdT 2 c (f:=zay_) rfl e.u7 ⟨fkc g0,fkc g1,fkc g0,fkc g2,fkc g0,fkc g0,fkc g3,fkc g0,fkc g0,fkc g0,fkc g3,fkc g0,fkc g4,fkc g5,fkc g6,trivial⟩;have g8:=gdT 0 c (f:=zbK_) rfl e.u8 trivial;have g9:=gdT 0 c (f:=zcs_) rfl e.u9 trivial;have mL:=gdT 1 c (f:=z5_) rfl e.u10 ⟨fkc g9,fkc g9,fkc g9,fkc g9,trivial⟩;have gB:=gdT 0 c (f:=zbC_) rfl e.u11 trivial;have mK:=gdT 1 c (f:=zA_) rfl e.u12 ⟨fkc g9,fkc gB,fkc g9,fkc gB,trivial⟩;have jQ:=gdT 1 c (f:=z9_) rfl e.u13 ⟨fkc gB,trivial⟩;have mJ:=gdT 0 c (f:=zcD_) rfl e.u14 trivial;have mH:=gdT 2 c (f:=zZ_) rfl e.u15 ⟨fkc jQ,fkc g9,fkc mJ,fkc g9,trivial⟩;have gz:=gdT 1 c (f:=z6_) rfl e.u16 ⟨fkc gB,trivial⟩;have mG:=gdT 2 c (f:=zaP_) rfl e.u17 ⟨fkc gz,trivial⟩;have fM:=gdT 0 c (f:=zbD_) rfl e.u18 trivial;have mF:=gdT 1 c (f:=zb1_) rfl e.u19 ⟨fkc fM,fkc fM,trivial⟩;have iC:=gdT 0 c (f:=zbG_) rfl e.u20 trivial;have mE:=gdT 0 c (f:=zaG_) rfl e.u21 trivial;have mD:=gdT 0 c (f:=zL_) rfl e.u22 trivial;have mC:=gdT 0 c (f:=zaQ_) rfl e.u23 trivial;have mB:=gdT 1 c (f:=zar_) rfl e.u24 ⟨fkc mC,trivial⟩;have mz:=gdT 2 c (f:=zaq_) rfl e.u25 ⟨fkc g9,fkc iC,fkc g9,fkc mE,fkc g9,fkc mD,fkc mB,trivial⟩;have my:=gdT 2 c (f:=zs_) rfl e.u26 ⟨fkc gz,fkc g9,fkc iC,fkc iC,trivial⟩;have jP:=gdT 1 c (f:=zaC_) rfl e.u27 ⟨fkc fM,trivial⟩;have mx:=gdT 2 c (f:=zaM_) rfl e.u28 ⟨fkc jP,fkc jP,trivial⟩;have mw:=gdT 3 c (f:=zbM_) rfl e.u29 ⟨fkc mx,trivial⟩;have mr:=gdT 4 c (f:=zW_) rfl e.u30 ⟨fkc g9,fkc fM,fkc g9,fkc g9,fkc fM,fkc g9,fkc mw,trivial⟩;have mq:=gdT 2 c (f:=zau_) rfl e.u31 ⟨fkc gz,trivial⟩;have mm:=gdT 0 c (f:=zbd_) rfl e.u32 trivial;have mj:=gdT 3 c (f:=zat_) rfl e.u33 ⟨fkc g9,fkc mq,fkc g9,fkc mm,trivial⟩;have mi:=gdT 5 c (f:=zac_) rfl e.u34 ⟨fkc mL,fkc mK,fkc mH,fkc mG,fkc g9,fkc mF,fkc mz,fkc my,fkc mr,fkc mj,trivial⟩;have mh:Gk P w K mg base (CXx P w) 7 "Asking" (gA K "Asking") ["self", "deck", "picks", "middle", "order", "works", "breaks", "sums", "figures", "board"] (CtG K zu_):=zk3_ (znY_ 5 e.m (e.ec.c _ (by decide)) e.u53 (λT f fd arr n oc od ao F lT hl=>bnd10 rfl F lT hl λd0 d1 d2 d3 d4 kV doc pm an ai ct u0 u1 u2 u3 u4 u5 u6 u7 u8 u9 s ⟨o,ho,hd⟩=>BindsTo.of_defaults rfl ho hd rfl rfl) (okVD (k:=6) (ps:=["self", "deck", "picks", "middle", "order", "works", "breaks", "sums", "figures", "board"]) (st:=zam_) (N:=["self", "deck", "picks", "middle", "order", "works", "breaks", "sums", "figures", "board"]) (body:=zn_) (n:=10) (m:=0) c.g c.t ⟨fkc g8,fkc g8,fkc g8,fkc mi,trivial⟩ (by decide +kernel) ⟨rfl,rfl,rfl,by decide +kernel,rfl,by decide +kernel,by decide +kernel⟩ rfl rfl))
 have mf:=gdT 8 c (f:=zbf_) rfl e.u35 ⟨fkk mh,trivial⟩;have iB:=gdT 0 c (f:=z0_) rfl e.u36 trivial;have dM:=gdT 0 c (f:=zaZ_) rfl e.u37 trivial;have me:=gdT 0 c (f:=zv_) rfl e.u38 trivial;have jO:=gdT 0 c (f:=zak_) rfl e.u39 trivial;have l_:=gdT 0 c (f:=zbI_) rfl e.u40 trivial;have jN:=gdT 2 c (f:=zt_) rfl e.u41 ⟨fkc gz,fkc l_,trivial⟩;have lZ:=gdT 0 c (f:=zah_) rfl e.u42 trivial;have lY:=gdT 1 c (f:=z4_) rfl e.u43 ⟨fkc lZ,trivial⟩;have lX:=gdT 3 c (f:=zK_) rfl e.u44 ⟨fkc jN,fkc jQ,trivial⟩;have gy:GG P w K mg base 5 "is_plan" ["asking", "plan"] zaI_:=gd_of e.m e.u45 (okV (st:=(top 72)) (N:=["asking", "plan", "ahead", "going"]) (body:=zcM_) (n:=2) (m:=2) c.g c.t ⟨fkc jO,fkc jN,fkc lY,fkc jO,fkc lX,trivial⟩ (by decide +kernel) ⟨rfl,rfl,rfl,by decide +kernel,rfl,by decide +kernel,by decide +kernel⟩ (λ_ _ F=>Fun.binds2 rfl F λ_ _ _ _ _ _ _ _=>rfl) rfl rfl)
 have gw:=gdT 0 c (f:=zbe_) rfl e.u46 trivial;have iA:=gdT 1 c (f:=zae_) rfl e.u47 ⟨fkc gw,fkc gw,fkc gw,fkc gw,trivial⟩;have lW:=gdT 2 c (f:=zx_) rfl e.u48 ⟨fkc dM,fkc dM,fkc iA,trivial⟩;have lV:=gdT 3 c (f:=zY_) rfl e.u49 ⟨fkc dM,fkc dM,fkc dM,fkc iA,fkc dM,fkc iA,fkc lW,trivial⟩;have lU:=gdT 5 c (f:=z8_) rfl e.u50 ⟨fkc gy,⟨e.u56.g,e.m.gk e.u55⟩,trivial⟩;have lS:=gdT 6 c (f:=zai_) rfl e.u51 ⟨fkc lU,trivial⟩;exact okV (st:=(top 117)) (N:=["_law_script", "_law_a", "_law_asking_here", "_law_early", "_law_cell_here", "_law_going", "_law_late", "_law_middle_here", "_law_punches", "_law_count", "_law_plan", "_law_handed", "_law_found", "_law_spoilt_here"]) (body:=znI_) (n:=1) (m:=13) c.g c.t ⟨fkc g7,fkc mf,fkc iB,fkc g0,fkc iB,fkc dM,fkc iB,fkc me,fkc gy,fkc lV,fkc g0,fkc g0,fkc gy,fkc lS,fkc gy,trivial⟩ (by decide +kernel) ⟨rfl,rfl,rfl,by decide +kernel,rfl,by decide +kernel,by decide +kernel⟩ (λ_ _ F=>Fun.binds1 rfl F λ_ _ _ _ _ _ _=>rfl) rfl rfl
theorem all_mk {l:vI}{w:oV}{K:Fgg}{h:Heap}{mg:Str->Option nI}{fa:nR}(X:K.In h)(G:h.Ns oI mg)(il:mg "law"=xg (.ref fa))(k:Ek K):
  ∃fd:pL,(∀(s:nO) (v:nI),BindsTo s fd ⟨[v],[]⟩ [("_law_script",v)])/\∀base:Heap,K.In base->base.Ns oI mg->FnOk l.prog w K mg base CX0 10 fa fd ["_law_script"] (spL K):=by
 have e:En K mg:=⟨k,_,X,G⟩;refine okLaw e.m e.u52 il (λ_ _ _ _ _ _ _ _=>rfl) λbase f fd F=>?_
 exact okLV (lawOk (P:=l.prog) (w:=w) (base:=base) e f fd F).1 ziz_
theorem walk {l:vI}{q:oH}{loose:List Str}{XP:(Str->Option nI)->Heap->Prop}{YP:oV->Heap->Prop}{d:DefRec}{K:Params->Fgg}(hn:l.most=xg 63)(fE:d.params.defaults=[])(dy:∀p,L2.lamOk q (K p)=xj)
  (hY:∀(w:oV) (h:Heap),YP w h->(K w.params).In h)
  (F:∀(w:oV) (mg:Str->Option nI) (fa:nR) (h:Heap),(K w.params).In h->h.Ns oI mg->mg d.name=xg (.ref fa) ->
   ∃fd:pL,(∀(s:nO) (u:nI),BindsTo s fd ⟨[u],[]⟩ [("_law_script",u)])/\∀base:Heap,(K w.params).In base->base.Ns oI mg->FnOk l.prog w (K w.params) mg base CX0 10 fa fd ["_law_script"] (spL (K w.params))):
  W.WalkO q loose XP YP l.row.toRowW d [] (λf vs=>vq f vs):=
 L2.zif_ (n:=63) (k:=10) (x:="_law_script") (CX:=λ_=>CX0) (sp:=λw=>spL (K w.params)) hn (by decide) fE ⟨rfl,by decide,by decide⟩ dy hY F (λ_ _ a ns hl hb _ hS=>⟨a,ns,rfl,hS,hl,hb,λ_=>rfl⟩) λ_ _ _ _ _ z=>z
end K65
open PySem PySem.W PyProof.Rows
set_option maxRecDepth 100000 in
set_option maxHeartbeats 0 in
theorem PySem.Challenge.cw_cardshop_k65_kinds_of_plans_holds : PySem.Challenge.rw_cardshop_k65_kinds_of_plans.Holds := by
 w_on;o_law;k_head;(case hw=>w_witness2)
 k_fill
 refine K65.walk (l:=PySem.Challenge.rw_cardshop_k65_kinds_of_plans) rfl rfl ?L (λw h Y=>W.kIn_of Y) ?F
 case L=>intro p;kernel_rfl!
 case F=>
  intro w mg fa h KX G fe;refine K65.all_mk KX G fe ?_;constructor
  case' ec=>constructor<;>repeat' first |exact VI.am_nil |refine VI.am_cons ?_ ?_
  all_goals first |(refine' L2.Fl.mk_ ?x0 ?x1 ?x2 ?x3 ?x4 ?x5 ?x6 ?x7 ?x8;(case x0=>k_is);(case x1=>k_is);(case x2=>rfl);(case x3=>k_is);(case x4=>rfl);(case x5=>rfl);(case x6=>rfl);(case x7=>rfl);(case x8=>rfl))|(refine' L2.FmD.mk_ ?x0 ?x1 ?x2 ?x3 ?x4 ?x5 ?x6 ?x7;(case x0=>k_is);(case x1=>k_is);(case x2=>k_is);(case x3=>k_is);(case x4=>k_is);(case x5=>k_is);(case x6=>k_is);(case x7=>(show _=_;kernel_rfl!)))|(refine' L2.Fg.mk_ ?x0 ?x1 ?x2 ?x3;(case x0=>k_is);(case x1=>k_is);(case x2=>k_is);(case x3=>k_is))|(refine' L2.Fm.mk_ ?x0 ?x1 ?x2 ?x3 ?x4 ?x5;(case x0=>k_is);(case x1=>k_is);(case x2=>k_is);(case x3=>k_is);(case x4=>k_is);(case x5=>k_is))|(refine' L2.Fs.mk_ ?x0 ?x1 ?x2 ?x3 ?x4 ?x5 ?x6;(case x0=>k_is);(case x1=>k_is);(case x2=>k_is);(case x3=>k_is);(case x4=>k_is);(case x5=>k_is);(case x6=>k_is))|(refine' L2.Fc.mk_ ?x0 ?x1 ?x2 ?x3 ?x4 ?x5 ?x6;(case x0=>k_is);(case x1=>k_is);(case x2=>k_is);(case x3=>k_is);(case x4=>k_is);(case x5=>k_is);(case x6=>k_is))|(refine' L2.Fa.mk_ ?x0 ?x1;(case x0=>k_is);(case x1=>k_is))|(delta L2.Fb;k_is)|(refine' L2.Fv.mk_ ?x0 ?x1;(case x0=>k_is);(case x1=>first |exact⟨_,rfl⟩|rfl))|(refine' L2.Fk.mk_ ?x0;(case x0=>k_is))|(refine' L2.Fe2.mk_ ?x0 ?x1 ?x2;(case x0=>k_is);(case x1=>k_is);(case x2=>(show _=_;kernel_rfl!)))|(refine' L2.Fe1.mk_ ?x0 ?x1;(case x0=>k_is);(case x1=>(show _=_;kernel_rfl!)))|(refine' L2.FtT.mk_ ?x0 ?x1 ?x2 ?x3;(case x0=>k_is);(case x1=>k_is);(case x2=>(show _=_;kernel_rfl!));(case x3=>decide))
#print axioms PySem.Challenge.cw_cardshop_k65_kinds_of_plans_holds
