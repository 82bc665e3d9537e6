import PyProof.Rows.All
import Wide.All
import OpenK.AllK
import Wide.FinOn
import Lean
import PyProof.EqAt
import PyProof.EqKinds
import PyProof.TupleCall
import PyProof.StrLawsRepr
import PyProof.NeKinds
import KE.KTryMore
import PyProof.Rows.TupIter
import PyProof.InstStoreFacts
import PyProof.ExcInit
import KE.KEqDict
import KE.KDictOf
import KE.KPairComp
import PySem.Challenge.RW_cardshop_k64_the_plan_told
set_option Elab.async false
set_option compiler.extract_closed false
set_option linter.all false
set_option maxRecDepth 100000
set_option maxHeartbeats 4000000
namespace PySem.W.Fast
def tw17197742158257629600:=()
def tw14772615291716723895:=()
def tw12391064189099061420:=()
def tw12604335921076909378:=()
def tw4757571744312505202:=()
def tw2119855870613303134:=()
def tw8809204023849635538:=()
def tw2957232891780918294:=()
def tw11117297615702320572:=()
def tw17229701576638081482:=()
def tw16763106418186108368:=()
def tw12507731070672008271:=()
def tw5619259108199188527:=()
def tw5688147917443391484:=()
def tw16679632851118127210:=()
def tw13933593484729883672:=()
def tw3595751857720115787:=()
def tw3484670958046190140:=()
def tw15181661497607848354:=()
def tw10983419453373670678:=()
def tw1157248822644885964:=()
def tw11145242873150667812:=()
def tw10455176360100550295:=()
def tw14542368359593450121:=()
def tw9269444513848020647:=()
def tw1693477155342356199:=()
def tw13358534360436162266:=()
def tw16542016627676489930:=()
def tw7863058842143795069:=()
def tw17458452645607147132:=()
def tw11429750261811739227:=()
def tw3202572369091079811:=()
def tw17742149559139947178:=()
def tw10128198965178334781:=()
def tw10980747815559304128:=()
def tw16845247173662846529:=()
def tw14959678559891981302:=()
def tw17087062398699286330:=()
def tw5040467160237734446:=()
def tw15268487252332681201:=()
def tw17838523352458515896:=()
def tw12615890668345023338:=()
def tw13803228050809857241:=()
def tw9602628303929737416:=()
def tw373817709264442487:=()
def tw4701026222482617782:=()
def tw5279578930640819833:=()
def tw6212743408848498916:=()
def tw1058256793063846082:=()
def tw17630716010827020470:=()
def tw15216424787127935226:=()
def tw9557303202334992745:=()
def tw12716288926626079786:=()
def tw17798717490070816638:=()
def tw5032131310502986107:=()
def tw7093255845010332869:=()
def tw15988130977299416195:=()
def tw12031266004887811537:=()
def tw3592804391317176136:=()
def tw7614657893901408545:=()
def tw15954330547229264660:=()
def tw5272164833287378475:=()
def tw10167903037161302773:=()
def tw8300434254407411715:=()
def tw13914357362415695228:=()
def tw8842834281300138173:=()
def tw4286554275855001270:=()
def tw8528309287722965620:=()
def tw2658464147167434812:=()
def tw12710285439967805483:=()
def tw16952706298042643080:=()
def tw5593709593861673167:=()
def tw10931957197298955712:=()
def tw15581857121153963266:=()
def tw16123005994930731320:=()
def tw16408269508945905659:=()
def tw1325359616622610787:=()
def tw14503765347945687094:=()
def tw3638587480429052055:=()
def tw14430089784983513932:=()
def tw2945922855822116561:=()
def tw13977217711542660926:=()
def tw5876627569299595195:=()
def tw8233813424058090636:=()
def tw12802349374619026525:=()
def tw10616355520495655539:=()
def tw2870994763643527959:=()
def tw7582478767963876998:=()
def tw4418061340417238268:=()
def tw13712964209326638549:=()
def tw5160600939923114044:=()
def tw4166093364005775215:=()
def tw5275029261253692061:=()
def tw15768247931635702550:=()
def tw14792093171327799531:=()
def tw9237620382660551012:=()
def tw6545294467117014162:=()
def tw168623283253310868:=()
def tw16704569364286379323:=()
def tw13437701053223255690:=()
def tw17673660659833815484:=()
def tw18211961329266005493:=()
def tw3455120770668631992:=()
def tw16605855447987150052:=()
def tw18123816646067266205:=()
def tw9733913789216378871:=()
def tw9805208359652106825:=()
def tw14396417718166510882:=()
def tw15622501641806563551:=()
def tw1672711143986345783:=()
def tw5782984335230188462:=()
def tw5026539872551576099:=()
def tw5597221934878193042:=()
def tw7144724208956772905:=()
def tw8533460862063880142:=()
def tw12243448611749613670:=()
def tw2451872776282675548:=()
def tw8576272448672212666:=()
def tw13046698862843667726:=()
def tw4621533461574571322:=()
def tw10917527381881454440:=()
def tw5372256059830076197:=()
def tw686338607650240591:=()
def tw14778825982217924129:=()
def tw11463149753051089562:=()
def tw3991439695963058351:=()
def tw1295338420572745863:=()
def tw5023116650658667283:=()
def tw7888864113878656186:=()
def tw151502919261122971:=()
def tw6577255993521467965:=()
def tw17428919017744319103:=()
def tw3001595971444482112:=()
def tw798507840324063980:=()
def tw16890318514541057711:=()
def tw10713150140162461363:=()
def tw9362475987877007583:=()
def tw5362889180567220919:=()
def tw5789179452700734557:=()
def tw11022861246129275725:=()
def tw17990548649039730777:=()
def tw16757115828456324602:=()
def tw17923820070490467903:=()
def tw6925274453510071873:=()
def tw15298969013703637933:=()
def tw14205421167488259712:=()
def tw6384617129193219999:=()
def tw5728348488880166892:=()
def tw12496632579085487351:=()
def tw3430674655915076442:=()
def tw10648283776188077862:=()
def tw7142054629055283750:=()
def tw6800721802966155308:=()
def tw8391987541342346438:=()
def tw1566613883854863975:=()
def tw13755066739292403259:=()
def tw17758639264635812421:=()
def tw15302218230881431593:=()
def tw2121180412937065679:=()
def tw8058080263654274211:=()
def tw9009121640242475074:=()
def tw786560588222213935:=()
def tw773043448477945099:=()
def tw18417242804152226283:=()
def tw16136246558697001426:=()
def tw12252819620485888944:=()
def tw11816955783853864266:=()
def tw695464926277958664:=()
def tw13698599370330587707:=()
def tw10562328416869179111:=()
def tw6229826211180650602:=()
def tw9739731115101317314:=()
def tw12133818532052817587:=()
def tw9534294094235745419:=()
def tw1185479659596124644:=()
def tw9821054701924371390:=()
def tw5272353781854499468:=()
def tw7173777779751726676:=()
def tw4519884588582417212:=()
def tw8900329540743320676:=()
def tw4498258344733927049:=()
def tw12734964132310656084:=()
def tw12958520784339438081:=()
def tw6296176236046319457:=()
def tw13187078087184734807:=()
def tw3367073230976547211:=()
def tw17204840986641589538:=()
def tw13148678013535776977:=()
def tw3040874510444242731:=()
def tw3943931987265913326:=()
def tw15086821933994272495:=()
def tw17182518158741644799:=()
def tw8085557120404980251:=()
def tw6515840610807538172:=()
def tw2252080472202148386:=()
def tw2957273230729163678:=()
def tw12323448042196094608:=()
def tw7756475036389842262:=()
def tw13213801698837607198:=()
def tw10889329368432450608:=()
def tw16707803641214599787:=()
def tw13446870590266423802:=()
def tw4682625727560121306:=()
def tw4700262935786633184:=()
def tw5614034203860509302:=()
def tw9594960140001764666:=()
def tw4615778564099409780:=()
def tw2191498093190551533:=()
def tw5357428888700341305:=()
def tw13565418707332278902:=()
def tw1458650775650165546:=()
def tw2407117281108044576:=()
def tw9720224772040072227:=()
end PySem.W.Fast
set_option genSizeOf false
set_option genSizeOfSpec false
set_option bootstrap.genMatcherCode false
noncomputable section
open PySem renaming Value→aT,wpAny_bind→lg,Shared→ll,Addr→lu,sizeLine→lE,wpAny_pure→lK,Expr→lN,mainGlobals→lS,wpAny→lU,compareOp→lX,Program→lY,starEach→l7,Stmt→me,strIterType→mi,World→mq,wpAny_truthy_bool→mr,Around→mG,FuncData→mW,wpAny_mono→nq,mem_of_lookup→nu,assignEach→nD,binaryOp→nR,bootBuiltins→nS,wpAny_field→nT,wpAny_Call_Name_kw→n6,NameKind→og,wpAny_setField_rec→oh,IsPair→om,wpAny_passesOwn→ot,backTo→oP,keywordEach→qf,Within→qx,backToKw→rp,call→sr,Builtin→tm,Obj→tP
open List renaming length_map→k8,length_append→lb,getElem?_eq_getElem→lj,map_cons→lq,size_toArray→lx,length_cons→ly,getElem?_map→lB,mem_cons→lC,getElem?_eq_some_iff→lD,replicate→lF,range→lH,length_range→lJ,mem_singleton→lO,mem_cons_of_mem→lQ,mem_cons_self→lR,mem_append_right→lV,getElem?_set_ne→lW,mem_append→lZ,length_take→l5,cons_append→l6,length_reverse→l8,mem_range→mf,zip_cons_cons→mh,length_eq_zero_iff→ml,drop_succ_cons→mw,getElem?_append_right→my,length_drop→mz,exists_cons_of_length_eq_add_one→mB,map_map→mC,isEmpty_iff→mE,mem_map→mF,replicate_succ→mH,getElem?_append_left→mJ,all_eq_true→mL,drop_zero→mM,map_id'→mN,getD_eq_getElem?_getD→mQ,not_mem_nil→mR,append_nil→mU,all_cons→mV,map_append→mX,take_of_length_le→mY,length_eq_one_iff→m4,foldl_cons→m6,length_nil→m7,set_cons_zero→m8,getElem?_cons_succ→m9,getElem?_set_self→nj,flatMap_append→nv,length_set→nz,length_zip→nA,set_cons_succ→nE,map_nil→nF,mem_of_getElem?→nG,getElem?_set→nJ,foldl_append→nL,nil_append→nO,find?_cons→nQ,of_mem_zip→ou,flatten_cons→ox,append_assoc→oy,getElem?_mapIdx→oA,filterMap_cons→oG,length→oO,find?_cons_of_neg→oT,filter_append→oU,length_singleton→oW,mem_append_left→pb,take_length→pz,getElem?_zip_eq_some→pB,map_congr_left→pE,any_cons→pG,nodup_cons→pH,filterMap_map→pI,getElem_range→pJ,length_mapIdx→pK,lookup→pM,reverse_cons→pO,set_set→pP,filter_eq_nil_iff→pQ,length_filter_le→pR,lookup_cons→pT,drop_length→pU,mem_of_mem_take→pY,take_append_of_le_length→pZ,mem_filter→p0,getElem_of_mem→p7,pairwise_cons→qc,drop_eq_getElem_cons→qd,flatMap_cons→qh,ext_getElem→qo,getElem_map→qp,any_eq_true→qr,map_reverse→qu,flatMap_nil→qv,foldl→qE,forIn_cons→qI,getElem?_eq_none→qK,getElem?_toArray→qL,set_append_right→qN,mem_of_mem_drop→qQ,foldl_nil→qR,getElem?_range→qU,replicate_zero→qV,take_nil→qW,mem_filterMap→rb,all_map→rA,nodup_append→rB,pairwise_map→rD,getElem_mem→rM,zipIdx_cons→rN,map_snd_zip→rP,filter_cons→rQ,mem_flatMap→rR,zipIdx_nil→r9,idxOf_cons→se,forIn_nil→sv,drop_nil→sG,set_comm→sJ,map_id→uu
open Bool renaming and_eq_true→k9,and_eq_true_iff→mj,or_eq_true→mK,false_ne_true→mO,false_and→nU,and_false→pd,and_true→pW,false_or→qj,true_and→qX,eq_false_iff→rE,true→uF,false→uG
open PySem.Heap renaming get?_push_of_some→lh,get?_push_size→lI,lt_size→lL,size_push→nY,ExtBut→oz,SameBut→pf,get?_update_other→qC,get?_push_cases→qP
open Nat renaming le_refl→lp,lt_of_lt_of_le→l9,ne_of_lt→mm,le_trans→ni,zero_le→ny,le_succ→oN,min_self→oS,ne_of_gt→ph,lt_succ_self→pj,lt_irrefl→pF,le_of_lt→p8,sub_self→p9,lt_or_ge→qa,lt_succ_of_lt→qg,le_of_eq→qz,le_antisymm→qH,le_of_not_lt→rL,min_eq_left→rY,reduceAdd→sL,mul_comm→tj,zero_add→tM,reduceLT→tN,mul_add→uv
open Int renaming emod_lt_of_pos→lA,emod_nonneg→lG,toNat_natCast→nI,eq_ofNat_of_zero_le→oJ,ediv_one→rj,zero_add→tO
open Option renaming bind_eq_some_iff→lM,map_eq_some_iff→lP,isNone_iff_eq_none→nC,isSome_map→pN,map_some→qJ,isSome_some→rf,getD_none→rJ,none→uk,some→uD,none→uE
open PySem.W renaming Frag→l4,Frag→mT,nsIn→nP,findIn→nW,keepIn→oI,emptyDict→oM,kia_one→oV,instObj→pS,codeIn→pX,hasDictIn→qe,plainGet→qy,plainOver→qO,makesIn→rF,cellsFrom_some→rG,methodObj→rT,specialIn→rV,callWith_K0→sD,takerIn→sM,OpenLaw→sQ,callWith_K→sY,isFn→sZ,mg_of→tq,lookIn→ui,kitOne→uj
open False renaming elim→mx
open Option.some renaming inj→mD
open PyProof.Rows renaming callWith_type1→mP,slot_tuple_getitem→oF,callWith_builtin1→rH
open PySem.Value renaming ref→mS,bool→oY,str→pL,int→ql,none→q9,float→rS,isStrOf→sy,isInt→ug,bytes→uh,type→uy
open Nat.succ renaming inj→mZ
open PySem.Builtin.SmallTypes renaming ownedTupleIsFree→m5,nextOf→oq,ownedTupleHandOut→pD
open PySem.Builtin.Str renaming strSliceIndices→nh,occurrences→oH,tooLong→ux
open Array renaming length_toList→nr,getD_eq_getD_getElem?→oX,getElem?_toList→qM,toList→rg
open PySem.Builtin.Range renaming rangeSize→nH,small→qT,rangeFitsLong→sf
open PySem.Str renaming length→nM,ofString→rm,empty→sO
open True renaming intro→nX
open PySem.Builtin.Slice renaming slicePlaces→oj,sliceAdjust→pA,sliceApplied→qb,slicePartIndex→rW,sliceFields→sx
open PySem.Builtin.Tuple renaming tupleExact→oB,tupleItemsOf→sj
open PySem.Builtin.List renaming listTooLong→oE,listExtendWith→si
open PySem.SeqAt renaming RcAt→oQ,RcNeAt→pq,ne_of_list_tuple→qF,EqAt→so
open PySem.Builtin.Int renaming intBits→pC
open Ne renaming symm→pV
open PySem.Builtin renaming divisionGoesByPylong→p4
open PySem.F renaming slot_zip_next→p5,slot_dict_setdefault→p6,args_tuple_add_2→qi,entry_tuple_add→qm,plain_list_iadd→qq,slot_tuple_add→qA,args_zip_next_1→rq,entry_zip_next→rO,slot_int_rmul→rX
open List.cons renaming inj→qk
open PySem.Env renaming kindOf→qt
open Sum renaming inl→qw,inr→qS
open PySem.Obj renaming mapSeq→qB
open PySem.SeqAt.EqAt renaming same→qG,int_str→qY,str_int→qZ
open PySem.Heap.IsSliceOf renaming new→rd
open PySem.SeqAt.RcNeAt renaming lists_lengths→sq,tuple_none→sS,tuple_bool→sU,none_tuple→sV,bool_tuple→sX,none_none→tu,none_bool→tw,bool_none→tB,bool_bool→tD,list_none→tE,list_bool→tF,none_list→tG,bool_list→tH,tuple_int→tI,tuple_str→tJ,int_tuple→tK,str_tuple→tL,none_int→tQ,none_str→tR,bool_int→tS,bool_str→tT,int_none→tU,int_bool→tV,str_none→tW,str_bool→tX,list_int→tY,list_str→tZ,int_list→ue,str_list→uf,int_int→um,int_str→uo,str_int→uq,str_str→ur,tuples→uw,lists→uz
open PySem.Within renaming cons→uA
open List.Pairwise renaming nil→uB
open PySem.Heap.DictOf renaming new→uC
namespace L2
open PySem PySem.Spec PyProof.Rows
theorem sN.{u}{α:Type u}(a:α):uD a≠uE:=Option.some_ne_none a
noncomputable abbrev Fgg:=l4
noncomputable abbrev Pnn:=List (lu×tP)
noncomputable abbrev Key:=Sum Int Str
def keyIs:Key->aT->Bool
 |.inl k,v=>ug k v
 |.inr x,v=>sy x v
def keyH (w:mq):Key->Int
 |.inl k=>hashInt k
 |.inr x=>hashStr w x
theorem zu_:∀{k:Key}{v:aT},keyIs k v=uF->(∃i t,k=qw i/\v=ql i t)\/(∃x t,k=qS x/\v=pL x t)
 |.inl i,v,h=>by
  obtain⟨t,e⟩:=Value.isInt_shape (k:=i) (v:=v) h;exact .inl ⟨i,t,rfl,e⟩
 |.inr x,v,h=>by
  obtain⟨t,e⟩:=Value.isStrOf_shape (x:=x) (v:=v) h;exact .inr ⟨x,t,rfl,e⟩
theorem ziA_ (i:Int)(t:Tok):keyIs (.inl i) (.int i t)=uF:=by simp[keyIs,ug]
theorem zin_ (x:Str)(t:Tok):keyIs (.inr x) (.str x t)=uF:=by simp[keyIs,sy]
theorem zq1_ (a b:Int):decide ((qw a:Key)=qw b)=(a == b):=by
 by_cases e:a=b
 ·subst e;simp
 ·have h:¬(qw a:Key)=qw b:=λq=>e (Sum.inl.inj q)
  rw[decide_eq_false h];exact(beq_eq_false_iff_ne.mpr e).symm
theorem zq7_ (a b:Str):decide ((qS a:Key)=qS b)=decide (a=b):=by
 by_cases e:a=b
 ·subst e;simp
 ·have h:¬(qS a:Key)=qS b:=λq=>e (Sum.inr.inj q)
  rw[decide_eq_false h,decide_eq_false e]
theorem zrh_ (a:Int)(b:Str):decide ((qw a:Key)=qS b)=uG:=decide_eq_false (λq=>nomatch q)
theorem zo8_ (a:Str)(b:Int):decide ((qS a:Key)=qw b)=uG:=decide_eq_false (λq=>nomatch q)
def mixKind (prog:lY)(w:mq):PySem.KeyKind prog w Key where
 is:=keyIs
 hash:=keyH w
 inj:=λv a b ha hb=>by
  rcases zu_ ha with⟨i,t,rfl,rfl⟩|⟨x,t,rfl,rfl⟩
  ·rcases zu_ hb with⟨j,u,rfl,e⟩|⟨y,u,rfl,e⟩
   ·injection e with e1 _;rw[e1]
   ·exact nomatch e
  ·rcases zu_ hb with⟨j,u,rfl,e⟩|⟨y,u,rfl,e⟩
   ·exact nomatch e
   ·injection e with e1 _;rw[e1]
 byValue:=λk v h=>by
  rcases zu_ h with⟨i,t,rfl,rfl⟩|⟨x,t,rfl,rfl⟩<;>rfl
 pyHash:=λhv h=>by
  rcases zu_ hv with⟨i,t,rfl,rfl⟩|⟨x,t,rfl,rfl⟩
  ·exact wpAny_pyHash_int h
  ·exact wpAny_pyHash_str h
 eqBool:=λhu hv h=>by
  rcases zu_ hu with⟨i,t,rfl,rfl⟩|⟨x,t,rfl,rfl⟩
  ·rcases zu_ hv with⟨j,u,rfl,rfl⟩|⟨y,u,rfl,rfl⟩
   ·rw[zq1_]at h;exact wpAny_eqBool_int h
   ·rw[zrh_]at h;exact qY i t y u _ _ _ _ h
  ·rcases zu_ hv with⟨j,u,rfl,rfl⟩|⟨y,u,rfl,rfl⟩
   ·rw[zo8_]at h;exact qZ x t j u _ _ _ _ h
   ·rw[zq7_]at h;exact wpAny_eqBool_str h
 «strs»:=λk x t v h=>by
  rcases zu_ h with⟨i,u,rfl,e⟩|⟨y,u,rfl,e⟩
  ·exact nomatch e
  ·injection e with e1 _
   subst e1;cases v<;>rfl
theorem zgJ_ (prog:lY)(w:mq)(k:Key)(v:aT):(mixKind prog w).is k v=keyIs k v:=rfl
theorem zfX_ (prog:lY)(w:mq)(i:Int)(t:Tok):(mixKind prog w).is (.inl i) (.int i t)=uF:=ziA_ i t
theorem zf1_ (prog:lY)(w:mq)(x:Str)(t:Tok):(mixKind prog w).is (.inr x) (.str x t)=uF:=zin_ x t
inductive V where
 |non |bl (b:Bool)|int (i:Int)|str (x:Str)|byt (b:Array UInt8)|flt (b:UInt64)|ref (a:lu)|ty (n:String)
 deriving DecidableEq
noncomputable def RelV:V->aT->Prop
 |.non,u=>u=q9
 |.bl b,u=>u=oY b
 |.int i,u=>∃t,u=ql i t
 |.str x,u=>∃t,u=pL x t
 |.byt b,u=>∃t,u=uh b t
 |.flt b,u=>∃t,u=rS b t
 |.ref a,u=>u=mS a
 |.ty n,u=>u=uy n
abbrev Vals:List V->List aT->Prop:=Paired RelV
theorem Vals.length {xs:List V}{us:List aT}(r:Vals xs us):xs.length=us.length:=Paired.length r
theorem Vals.get:∀{xs:List V}{us:List aT}{i:Nat}{x:V},Vals xs us->xs[i]?=uD x->∃u,us[i]?=uD u/\RelV x u
 |_,_,_,_,.nil,e=>by simp at e
 |_,_,0,_,.cons r _,e=>by simp at e;subst e;exact⟨_,rfl,r⟩
 |_,_,i+1,x,.cons _ t,e=>by
  obtain⟨u,h1,h2⟩:=Vals.get (i:=i) (x:=x) t (by simpa using e)
  exact⟨u,by simpa using h1,h2⟩
theorem Vals.set {x:V}{u:aT}(r:RelV x u):∀{xs:List V}{us:List aT}(i:Nat),Vals xs us->Vals (xs.set i x) (us.set i u)
 |_,_,_,.nil=>.nil
 |_,_,0,.cons _ t=>.cons r t
 |_,_,i+1,.cons q t=>.cons q (Vals.set r i t)
theorem Vals.append:∀{xs ys:List V}{us ws:List aT},Vals xs us->Vals ys ws->Vals (xs++ys) (us++ws)
 |_,_,_,_,.nil,s=>s
 |_,_,_,_,.cons r t,s=>.cons r (Vals.append t s)
theorem Vals.take:∀{xs:List V}{us:List aT}(n:Nat),Vals xs us->Vals (xs.take n) (us.take n)
 |_,_,0,_=>.nil
 |_,_,_+1,.nil=>.nil
 |_,_,n+1,.cons r t=>.cons r (Vals.take n t)
theorem Vals.drop:∀{xs:List V}{us:List aT}(n:Nat),Vals xs us->Vals (xs.drop n) (us.drop n)
 |_,_,0,r=>r
 |_,_,_+1,.nil=>.nil
 |_,_,n+1,.cons _ t=>Vals.drop n t
def RelO:Option V->Option aT->Prop
 |some v,uD u=>RelV v u
 |none,uE=>True
 |_,_=>False
def KV {κ:Type}:List (κ×V)->List (κ×aT)->Prop:=Paired λ(p:κ×V) (q:κ×aT)=>p.1=q.1/\RelV p.2 q.2
def kV:Key->V
 |.inl i=>.int i
 |.inr x=>.str x
inductive HO where
 |lst (xs:List V)
 |tup (xs:List V)
 |dK (kvs:List (Key×V))|dT (kvs:List (List Key×V))
 |set (S:Int->Bool) (n:Nat)
 |ins (C dx:lu) (fs:List (Str×V))
 |own (x:lu)
 |xd (fs:List (Str×V))
 |met (f x:lu)
 |rng (lo hi:Int)
 |frz (o:tP) (u:HO)
 |tbl (ps:Array aT)
 |ext (φ:Heap->Prop)
noncomputable abbrev Hp:=lu->Option HO
def upd (H:Hp)(a:lu)(o:HO):Hp:=λb=>if b=a then uD o else H b
theorem zH_ {H:Hp}{a:lu}{o:HO}:upd H a o a=uD o:=by unfold upd;rw[if_pos rfl]
theorem zR_ {H:Hp}{a b:lu}{o:HO}(h:b≠a):upd H a o b=H b:=by unfold upd;rw[if_neg h]
theorem ne_of {H:Hp}{a b:lu}{o u:HO}(h:H a=uD o)(h':H b=uD u)(d:o≠u):a≠b:=by
 intro e;subst e;rw[h]at h';exact d (mD h')
theorem zar_ {H:Hp}{a b:lu}{o:HO}(h:H a=uD o)(h':H b=uE):a≠b:=by
 intro e;subst e;rw[h]at h';cases h'
section
variable (P:lY)(w:mq)
def ObjOk (H:Hp)(h:Heap)(a:lu):HO->Prop
 |.lst xs=>xs.length<=lE/\∃(aa:List aT) (n:Nat),Vals xs aa/\h.get? a=uD {cls:=.type "list",data:=.seq aa.toArray n}
 |.tup xs=>xs.length<=lE/\∃aa:List aT,Vals xs aa/\IsTup h a aa.toArray
 |.dK kvs=>kvs.length<=lE/\(a == sysModules)=uG/\∃vs,KV kvs vs/\h.DictOf (mixKind P w) a vs
 | .dT kvs=>kvs.length<=lE/\(a == sysModules)=uG/\∃xs:List (List Key×lu×aT),
   Paired (λ(p:List Key×V) (q:List Key×lu×aT)=>p.1=q.1/\H q.2.1=uD (.tup (p.1.map kV))/\RelV p.2 q.2.2) kvs xs /\
   ∃o es ep,h.get? a=uD o/\o.ExactDict/\o.data=.dict es ep/\es.toList=xs.map (entryOfKey (tupleKind (mixKind P w)))/\(xs.map (·.1)).Nodup
 |.set S n=>h.SetOf (intKind P w) a S n
 | .ins C dx fs=>H dx=uD (.own a)/\fs.length<=1000/\dx≠a/\h.get? a=uD (pS C dx) /\
   ∃mA,h.Ns1 dx mA/\(∀f,RelO (fs.lookup f) (mA f))/\qx mA (fs.map (·.1))
 |.own _=>∃o,h.get? a=uD o
 |.xd fs=>∃mA,h.Ns1 a mA/\∀f,RelO (fs.lookup f) (mA f)
 |.rng lo hi=>∃t u v,h.get? a=uD {cls:=.type "range",data:=.fields #[.int lo t,.int hi u,.int 1 v]}
 |.frz o u=>h.get? a=uD o/\ObjOk H h a u
 |.tbl ps=>h.get? a=uD {cls:=.none,data:=.fields ps}
 |.met f x=>h.get? a=uD (rT (.ref f) (.ref x))
 |.ext φ=>φ h/\(∃o,h.get? a=uD o)/\∀h1 h2:Heap,φ h1->(∀o,h1.get? a=uD o->h2.get? a=uD o)->φ h2
def HOk (H:Hp)(h:Heap):Prop:=∀a o,H a=uD o->ObjOk P w H h a o
end
section
variable {P:lY}{w:mq}{H H':Hp}{h h':Heap}{a:lu}{o:HO}
theorem ObjOk.lt (x:ObjOk P w H h a o):a<h.objs.size:=by
 cases o with
 |lst xs=>obtain⟨_,_,_,_,e⟩:=x;exact lL e
 |tup xs=>obtain⟨_,_,_,p⟩:=x;exact p.lt
 |dK kvs=>obtain⟨_,_,_,_,o,_,_,e,_⟩:=x;exact lL e
 |dT kvs=>obtain⟨_,_,_,_,o,_,_,e,_⟩:=x;exact lL e
 |set S n=>obtain⟨o,_,_,_,e,_⟩:=x;exact lL e
 |ins C dx fs=>obtain⟨_,_,_,e,_⟩:=x;exact lL e
 |own y=>obtain⟨_,e⟩:=x;exact lL e
 |xd fs=>obtain⟨_,⟨_,_,_,e,_⟩,_⟩:=x;exact lL e
 |rng lo hi=>obtain⟨_,_,_,e⟩:=x;exact lL e
 |frz ob u=>obtain⟨e,_⟩:=x;exact lL e
 |tbl ps=>exact lL (show h.get? a=uD _ from x)
 |met f y=>exact lL (show h.get? a=uD _ from x)
 |ext φ=>obtain⟨_,⟨_,e⟩,_⟩:=x;exact lL e
theorem Paired.mapP {α β:Type}{F G:α->β->Prop}:∀{dS:List α}{dR:List β},Paired F dS dR->(∀a b,F a b->G a b)->Paired G dS dR
 |_,_,.nil,_=>.nil
 |_,_,.cons r t,f=>.cons (f _ _ r) (Paired.mapP t f)
theorem ObjOk.stay (x:ObjOk P w H h a o)(k:∀b u,(b=a\/H b=uD (.own a))->h.get? b=uD u->h'.get? b=uD u)
  (ho:∀b,H b=uD (.own a)->H' b=uD (.own a)) (ht:∀b xs,H b=uD (.tup xs)->H' b=uD (.tup xs)):ObjOk P w H' h' a o:=by
 induction o with
 |lst xs=>obtain⟨z,aa,n,r,e⟩:=x;exact⟨z,aa,n,r,k _ _ (.inl rfl) e⟩
 |tup xs=>obtain⟨z,aa,r,ob,e,c⟩:=x;exact⟨z,aa,r,ob,k _ _ (.inl rfl) e,c⟩
 |dK kvs=>obtain⟨z,y,vs,r,ob,es,ep,e,c⟩:=x;exact⟨z,y,vs,r,ob,es,ep,k _ _ (.inl rfl) e,c⟩
 |dT kvs=>
  obtain⟨z,y,xs,r,ob,es,ep,e,c⟩:=x;exact⟨z,y,xs,Paired.mapP r λp q z=>⟨z.1,ht _ _ z.2.1,z.2.2⟩,ob,es,ep,k _ _ (.inl rfl) e,c⟩
 |set S n=>obtain⟨ob,es,ep,t,e,c⟩:=x;exact⟨ob,es,ep,t,k _ _ (.inl rfl) e,c⟩
 |ins C dx fs=>
  obtain⟨d,z,ne,e,mA,⟨od,es,ep,e2,c⟩,r⟩:=x;exact⟨ho _ d,z,ne,k _ _ (.inl rfl) e,mA,⟨od,es,ep,k _ _ (.inr d) e2,c⟩,r⟩
 |own y=>obtain⟨ob,e⟩:=x;exact⟨ob,k _ _ (.inl rfl) e⟩
 |xd fs=>obtain⟨mA,⟨od,es,ep,e,c⟩,r⟩:=x;exact⟨mA,⟨od,es,ep,k _ _ (.inl rfl) e,c⟩,r⟩
 |rng lo hi=>obtain⟨t,u,v,e⟩:=x;exact⟨t,u,v,k _ _ (.inl rfl) e⟩
 |frz ob u ih=>obtain⟨e,q⟩:=x;exact⟨k _ _ (.inl rfl) e,ih q⟩
 |tbl ps=>
  have e:h.get? a=uD {cls:=.none,data:=.fields ps}:=x;show h'.get? a=uD {cls:=.none,data:=.fields ps}
  exact k a _ (.inl rfl) e
 |met f y=>
  have e:h.get? a=uD (rT (.ref f) (.ref y)):=x;show h'.get? a=uD (rT (.ref f) (.ref y))
  exact k a _ (.inl rfl) e
 |ext φ=>obtain⟨p,⟨o,e⟩,st⟩:=x;exact⟨st _ _ p λo q=>k _ _ (.inl rfl) q,⟨o,k _ _ (.inl rfl) e⟩,st⟩
theorem HOk.lt (x:HOk P w H h)(e:H a=uD o):a<h.objs.size:=(x a o e).lt
theorem HOk.fresh (x:HOk P w H h)(e:h.objs.size<=a):H a=uE:=by
 cases q:H a with
 |none=>rfl
 |some u=>exact absurd (l9 (x.lt q) e) (pF _)
theorem HOk.kept (x:HOk P w H h)(k:∀b u,h.get? b=uD u->h'.get? b=uD u):HOk P w H h':=λa o e=>
 (x a o e).stay (λb u _ q=>k b u q) (λ_ q=>q) λ_ _ q=>q
theorem HOk.laid (x:HOk P w H h)(k:∀b u,h.get? b=uD u->h'.get? b=uD u)(hp:h.objs.size<=a)(new:ObjOk P w (upd H a o) h' a o):HOk P w (upd H a o) h':=λb u e=>by
 have hn:=x.fresh hp;by_cases hb:b=a
 ·subst hb;rw[zH_]at e;cases e;exact new
 ·rw[zR_ hb]at e
  exact(x b u e).stay (λc v _ q=>k c v q) (λc q=>by rw[zR_ (zar_ q hn)];exact q) λc xs q=>by rw[zR_ (zar_ q hn)];exact q
end
def Rd (H:Hp)(a:lu)(u:HO):Prop:=H a=uD u\/∃o,H a=uD (.frz o u)
theorem Rd.ok {P:lY}{w:mq}{H:Hp}{h:Heap}{a:lu}{u:HO}(r:Rd H a u)(x:HOk P w H h):ObjOk P w H h a u:=by
 rcases r with r |⟨o,r⟩
 ·exact x a u r
 ·obtain⟨_,q⟩:=x a _ r
  exact q
noncomputable def Mut:Option HO->Prop
 |some (.lst _)=>True
 |some (.dK _)=>True
 |some (.dT _)=>True
 |some (.set _ _)=>True
 |some (.ins _ _ _)=>True
 |some (.ext _)=>True
 |_=>False
section
variable {P:lY}{w:mq}{H:Hp}{h h':Heap}{x e:lu}{o':HO}
theorem HOk.write (ok:HOk P w H h)(mu:Mut (H x))(he:e=x\/H e=uD (.own x))(k:∀b u,b≠e->h.get? b=uD u->h'.get? b=uD u)(bD:∃u,h'.get? e=uD u)
  (new:ObjOk P w (upd H x o') h' x o'):HOk P w (upd H x o') h':=λb u q=>by
 have dN:∀c y,H c=uD (.own y)->c≠x:=λc y r z=>by subst z;rw[r]at mu;exact mu
 have fT:∀c xs,H c=uD (.tup xs)->c≠x:=λc xs r z=>by subst z;rw[r]at mu;exact mu
 by_cases hb:b=x
 ·subst hb;rw[zH_]at q;cases q;exact new
 ·rw[zR_ hb]at q
  by_cases hbe:b=e
  ·have q':H b=uD (.own x):=by
    rcases he with z |z
    ·exact absurd (hbe.trans z) hb
    ·rw[hbe];exact z
   rw[q]at q';cases q';obtain⟨v,hv⟩:=bD;exact⟨v,by rw[hbe];exact hv⟩
  ·refine(ok b u q).stay (λc v hc r=>k c v ?_ r) (λc r=>by rw[zR_ (dN c b r)];exact r) λc xs r=>by rw[zR_ (fT c xs r)];exact r
   rcases hc with rfl |hc
   ·exact hbe
   ·rintro rfl
    rcases he with z |z
    ·exact dN c b hc z
    ·rw[hc]at z;cases z;exact hb rfl
end
structure Un (fs ex:List lu)(H H':Hp)(h h':Heap):Prop where
 keep:∀b o,h.get? b=uD o->H b=uE->b∉fs->b∉ex->h'.get? b=uD o
 slot:∀b o,h.get? b=uD o->H b=uE->b∈fs->b∉ex->∃sl,h'.get? b=uD {o with slots:=sl}
 free:∀b o,h.get? b=uD o->H b=uE->b∉ex->H' b=uE
 there:∀b o,h.get? b=uD o->b∉ex->∃o',h'.get? b=uD o'
 tups:∀b xs,H b=uD (.tup xs)->H' b=uD (.tup xs)
 frzs:∀b o u,H b=uD (.frz o u)->H' b=uD (.frz o u)
 tbls:∀b ps,H b=uD (.tbl ps)->∃more,H' b=uD (.tbl (ps++more))
section
variable {fs ex:List lu}{H H1:Hp}{h h1 h':Heap}{a x e:lu}{o:HO}
theorem Un.any (u:Un fs ex H H1 h h1){b:lu}{ob:tP}(q:h.get? b=uD ob)(n:H b=uE)(hx:b∉ex):∃sl,h1.get? b=uD {ob with slots:=sl}:=by
 by_cases hb:b∈fs
 ·exact u.slot b ob q n hb hx
 ·exact⟨ob.slots,u.keep b ob q n hb hx⟩
theorem Un.kept (k:∀b u,h.get? b=uD u->h'.get? b=uD u):Un fs ex H H h h':=
 ⟨λb ob q _ _ _=>k b ob q,λb ob q _ _ _=>⟨ob.slots,k b ob q⟩,λ_ _ _ n _=>n,λb ob q _=>⟨ob,k b ob q⟩,λ_ _ q=>q,λ_ _ _ q=>q,λ_ ps q=>⟨#[],by rw[q];simp⟩⟩
theorem Un.refl:Un fs ex H H h h:=Un.kept λ_ _ q=>q
theorem Un.laid (k:∀b u,h.get? b=uD u->h'.get? b=uD u)(hp:h.objs.size<=a)(hn:H a=uE):Un fs ex H (upd H a o) h h' where
 keep:=λb u q _ _ _=>k b u q
 slot:=λb u q _ _ _=>⟨u.slots,k b u q⟩
 free:=λb u q n _=>by rw[zR_ (mm (l9 (lL q) hp))];exact n
 there:=λb u q _=>⟨u,k b u q⟩
 tups:=λb xs q=>by rw[zR_ (zar_ q hn)];exact q
 frzs:=λb u xs q=>by rw[zR_ (zar_ q hn)];exact q
 tbls:=λb ps q=>⟨#[],by rw[zR_ (zar_ q hn),q];simp⟩
theorem Un.write (mu:Mut (H x))(he:e=x\/H e=uD (.own x))(k:∀b u,b≠e->h.get? b=uD u->h'.get? b=uD u)(bD:∃u,h'.get? e=uD u):Un fs ex H (upd H x o) h h':=by
 have hx:∀b,H b=uE->b≠x:=λb n z=>by subst z;rw[n]at mu;exact mu
 have hb:∀b,H b=uE->b≠e:=λb n z=>by
  subst z;rcases he with r |r
  ·exact hx b n r
  ·rw[n]at r;cases r
 have hm:∀b u,H b=uD u->¬Mut (uD u)->b≠x:=λb u q nm z=>by subst z;rw[q]at mu;exact nm mu
 refine⟨λb u q n _ _=>k b u (hb b n) q,λb u q n _ _=>⟨u.slots,k b u (hb b n) q⟩,λb u q n _=>by rw[zR_ (hx b n)];exact n,λb u q _=>?_,
  λb xs q=>by rw[zR_ (hm b _ q λz=>z)];exact q,λb u xs q=>by rw[zR_ (hm b _ q λz=>z)];exact q,λb ps q=>⟨#[],by rw[zR_ (hm b _ q λz=>z),q];simp⟩⟩
 by_cases hbe:b=e
 ·subst hbe;exact bD
 ·exact⟨u,k b u hbe q⟩
end
def trk (h:Heap)(H:Hp):List lu:=(lH h.objs.size).filter λa=>(H a).isSome
def hidT (h:Heap)(H:Hp):Heap:=W.hideAll h (trk h H)
theorem zio_ (h:Heap)(H:Hp):(hidT h H).objs.size=h.objs.size:=W.hideAll_size _ _
theorem zkj_ {h:Heap}{H:Hp}{b:lu}{o:tP}(e:h.get? b=uD o)(n:H b=uE):(hidT h H).get? b=uD o:=
 W.hideAll_get _ e λhm=>by
  have q:(H b).isSome=uF:=(p0.mp hm).2;rw[n]at q;simp at q
theorem zmP_ {h:Heap}{H:Hp}{b:lu}{o:tP}(e:(hidT h H).get? b=uD o):h.get? b=uD o/\H b=uE:=by
 have e':h.get? b=uD o:=W.of_hideAll (trk h H) e;refine⟨e',?_⟩;cases q:H b with
 |none=>rfl
 |some x=>
  have hm:b∈trk h H:=p0.mpr ⟨mf.mpr (lL e'),by simp[q]⟩
  have z:(hidT h H).get? b=uE:=W.hideAll_none (trk h H) hm;rw[z]at e;cases e
structure Mod (K:Fgg)(mg:Str->Option aT)(base:Heap):Prop where
 kin:K.In base
 glob:base.Ns lS mg
 blt:∃mb,base.Ns builtinsNs mb/\∀x:Str,x ≠ "__name__" -> mb x=nS x
 nolimit:base.NoLimit
structure Cx where
 prog:lY
 w:mq
 K:Fgg
 mg:Str->Option aT
 base:Heap
 A:mG
 N:List Str
 s₀:ll
 H₀:Hp
 env:Env
 outer:List Env
 stack:List Env
 ex:List lu
 fn:Str->Bool
 calm:Bool
 pn:Pnn
 xe:aT->ll->Prop
noncomputable def frs (l:List Env):List lu:=l.filterMap (·.frame)
abbrev Cx.fs (X:Cx):List lu:=frs X.outer
def Vis (sc:Scope)(x:Str):Prop:=sc.names.lookup x=uD .local\/sc.names.lookup x=uD .cell\/sc.names.lookup x=uD .free
def Loc (sc:Scope)(x:Str):Prop:=sc.names.lookup x=uD .local\/sc.names.lookup x=uD .cell
def Look (env:Env)(h:Heap)(m:Str->Option aT)(x:Str)(u:aT):Prop:=
 (env.kindOf x=uD .local/\m x=uD u)\/((env.kindOf x=uD .cell\/env.kindOf x=uD .free)/\∃c,env.cells.lookup x=uD c/\h.IsCell c (uD u))
structure Cx.Ok (X:Cx):Prop where
 mod:Mod X.K X.mg X.base
 kind:X.env.scope.kind=.function
 glob:X.env.globals=lS
 blt:X.env.builtins=builtinsNs
 above:X.s₀.heap.objs.size<=X.env.locals
 inj:∀x y c,X.env.cells.lookup x=uD c->X.env.cells.lookup y=uD c->x=y
 has:∀x,(X.env.kindOf x=uD .cell\/X.env.kindOf x=uD .free)->∃c,X.env.cells.lookup x=uD c
 cab:∀x c,X.fn x=uF->X.env.cells.lookup x=uD c->X.s₀.heap.objs.size<=c
 hd:X.calm=uF->X.A.handled=uE
 frames:X.A.frames=uD X.stack
 stk:X.stack=X.outer\/(X.stack=X.env::X.outer/\X.env.frame=uD X.env.locals)
 exf:∀b∈X.ex,b≠X.env.locals/\∀x c,X.env.cells.lookup x=uD c->c≠b
 bs:∀b o,X.base.get? b=uD o->X.s₀.heap.get? b=uD o/\X.H₀ b=uE
 bsz:X.base.objs.size<=X.s₀.heap.objs.size
 noex:∀b o,X.base.get? b=uD o->b∉X.ex
 exfs:∀b∈X.ex,b∉X.fs
 funs:X.s₀.heap.FunFrames X.base X.outer
 frf:∀b∈X.fs,X.H₀ b=uE
structure Inv (X:Cx)(pins:Pnn)(σ:List (Option V))(H:Hp)(s:ll):Prop where
 ok:X.Ok
 os:s.os=X.s₀.os
 bare:AllBare s.gens
 base:Un X.fs X.ex X.H₀ H X.s₀.heap s.heap
 loc:∃m,s.heap.Ns X.env.locals m/\∀(i:Nat) (x:Str) (v:V),X.N[i]?=uD x->σ[i]?=uD (uD v)->Vis X.env.scope x->∃u,RelV v u/\Look X.env s.heap m x u
 cell:∀x c,X.env.cells.lookup x=uD c->∃v,s.heap.IsCell c v
 free:H X.env.locals=uE
 freeC:∀x c,X.env.cells.lookup x=uD c->H c=uE
 pin:∀p∈X.pn++pins,s.heap.get? p.1=uD p.2/\H p.1=uE/\p.1≠X.env.locals/\p.1∉X.fs/\∀v,p.2.data≠.cell v
 hok:HOk X.prog X.w H s.heap
 len:σ.length=X.N.length
section
variable {X:Cx}{pins:Pnn}{σ:List (Option V)}{H H':Hp}{s:ll}{h':Heap}
theorem Cx.Ok.nofr (ok:X.Ok){b:lu}{o:tP}(e:X.base.get? b=uD o):b∉X.fs:=λhb=>by
 have:=(ok.funs.mem hb).1;rw[e]at this;cases this
theorem Inv.bs (I:Inv X pins σ H s):∀b o,X.base.get? b=uD o->s.heap.get? b=uD o/\H b=uE:=λb o e=>
 ⟨I.base.keep b o (I.ok.bs b o e).1 (I.ok.bs b o e).2 (I.ok.nofr e) (I.ok.noex b o e),I.base.free b o (I.ok.bs b o e).1 (I.ok.bs b o e).2 (I.ok.noex b o e)⟩
theorem Inv.bk (I:Inv X pins σ H s):∀b o,X.base.get? b=uD o->s.heap.get? b=uD o:=λb o e=>(I.bs b o e).1
theorem Inv.mod (I:Inv X pins σ H s):Mod X.K X.mg X.base:=I.ok.mod
theorem Inv.kIn (I:Inv X pins σ H s):X.K.In s.heap:=I.ok.mod.kin.keeps I.bk
theorem Inv.lt (I:Inv X pins σ H s):X.env.locals<s.heap.objs.size:=let⟨_,hn,_⟩:=I.loc;hn.lt
theorem Inv.sz (I:Inv X pins σ H s):X.s₀.heap.objs.size<=s.heap.objs.size:=ni I.ok.above (p8 I.lt)
theorem Inv.nofs (I:Inv X pins σ H s){a:lu}(h:s.heap.objs.size<=a):a∉X.fs:=λhb=>by
 obtain⟨_,o,ho,_⟩:=I.ok.funs.mem hb;exact absurd (l9 (lL ho) (ni I.sz h)) (pF _)
theorem Inv.cne (I:Inv X pins σ H s):∀x c,X.env.cells.lookup x=uD c->c≠X.env.locals:=λx c e z=>by
 obtain⟨v,o,ho,hd⟩:=I.cell x c e;obtain⟨m,⟨o',es,ep,aI,hd',_⟩,_⟩:=I.loc;rw[z,aI]at ho;cases ho;rw[hd']at hd;cases hd
theorem Inv.funs (I:Inv X pins σ H s):s.heap.FunFrames X.base X.outer:=by
 have all:∀(l:List Env),(∀b∈frs l,b∈X.fs)->X.s₀.heap.FunFrames X.base l->s.heap.FunFrames X.base l:=by
  intro l;induction l with
  |nil=>intro _ _;trivial
  |cons env r ih=>
   intro hs hl;obtain⟨hk,⟨L,o,hf,hn,ho,hd⟩,hr⟩:=hl;have hL:L∈X.fs:=hs L (by unfold frs;rw[oG,hf];exact lR)
   obtain⟨sl,e⟩:=I.base.slot L o ho (I.ok.frf L hL) hL λz=>I.ok.exfs L z hL
   exact⟨hk,⟨L,_,hf,hn,e,hd⟩,ih (λb hb=>hs b (by unfold frs;rw[oG,hf];exact lQ _ hb)) hr⟩
 exact all X.outer (λ_ hb=>hb) I.ok.funs
theorem Inv.stack (I:Inv X pins σ H s):s.heap.FunFrames X.base X.stack:=by
 rcases I.ok.stk with e |⟨e,hf⟩
 ·rw[e];exact I.funs
 ·rw[e]
  obtain⟨m,hn,_⟩:=I.loc;refine .cons (by rw[I.ok.kind];decide) hf hn ?_ I.funs
  exact Heap.get?_none_of_le (ni I.ok.bsz I.ok.above)
theorem Inv.stkSub (I:Inv X pins σ H s):∀b∈frs X.stack,b∈X.env.locals::X.fs:=λb hb=>by
 rcases I.ok.stk with e |⟨e,hf⟩
 ·rw[e]at hb;exact lQ _ hb
 ·rw[e]at hb
  unfold frs at hb;rw[oG,hf]at hb;exact hb
theorem Inv.stkFree (I:Inv X pins σ H s):∀b∈frs X.stack,H b=uE:=λb hb=>by
 rcases lC.mp (I.stkSub b hb)with e |hb
 ·rw[e];exact I.free
 ·obtain⟨_,o,ho,_⟩:=I.ok.funs.mem hb
  exact I.base.free b o ho (I.ok.frf b hb) λz=>I.ok.exfs b z hb
theorem Inv.step {g':Array GenState}{t':Nat}{d':Drawn}{ch:List lu}(I:Inv X pins σ H s)
  (bZ:∀b∈ch,(b∈X.ex\/X.s₀.heap.objs.size<=b)/\b≠X.env.locals/\(∀x c,X.env.cells.lookup x=uD c->c≠b)/\∀p∈X.pn++pins,p.1≠b)
  (keep:∀b o,b≠X.env.locals->b∉X.fs->b∉ch->s.heap.get? b=uD o->H b=uE->h'.get? b=uD o)
  (slot:∀b o,b≠X.env.locals->b∈X.fs->b∉ch->s.heap.get? b=uD o->H b=uE->∃sl,h'.get? b=uD {o with slots:=sl}) (free:∀b o,b∉ch->s.heap.get? b=uD o->H b=uE->H' b=uE)
  (there:∀b o,b∉ch->s.heap.get? b=uD o->∃o',h'.get? b=uD o')
  (tups:∀b xs,H b=uD (.tup xs)->H' b=uD (.tup xs)) (frzs:∀b o u,H b=uD (.frz o u)->H' b=uD (.frz o u)) (tbls:∀b ps,H b=uD (.tbl ps)->∃more,H' b=uD (.tbl (ps++more)))
  (ns:∀m,s.heap.Ns X.env.locals m->h'.Ns X.env.locals m) (hok:HOk X.prog X.w H' h') (hg:AllBare g'):
  Inv X pins σ H' {s with heap:=h',gens:=g',drawn:=d',toks:=t'}:=by
 have il:∀b o,X.s₀.heap.get? b=uD o->b≠X.env.locals:=λb o e=>mm (l9 (lL e) I.ok.above)
 have fA:∀b o,X.s₀.heap.get? b=uD o->b∉X.ex->b∉ch:=λb o e hx hb=>by
  rcases(bZ b hb).1 with z |z
  ·exact hx z
  ·exact absurd (l9 (lL e) z) (pF _)
 have cellK:∀x c,X.env.cells.lookup x=uD c->∀v,s.heap.IsCell c v->h'.IsCell c v:=λx c e v ⟨o,ho,hd⟩=>by
  have dQ:c∉ch:=λz=>(bZ c z).2.2.1 x c e rfl
  by_cases hc:c∈X.fs
  ·obtain⟨sl,q⟩:=slot c o (I.cne x c e) hc dQ ho (I.freeC x c e)
   exact⟨_,q,hd⟩
  ·exact⟨o,keep c o (I.cne x c e) hc dQ ho (I.freeC x c e),hd⟩
 refine⟨I.ok,I.os,hg,⟨λb o e n hb hx=>?_,λb o e n hb hx=>?_,λb o e n hx=>?_,λb o e hx=>?_,λb xs e=>tups b xs (I.base.tups b xs e),λb o xs e=>frzs b o xs (I.base.frzs b o xs e),λb ps e=>?_⟩,?_,λx c e=>?_,?_,λx c e=>?_,λp hp=>?_,hok,I.len⟩
 ·exact keep b o (il b o e) hb (fA b o e hx) (I.base.keep b o e n hb hx) (I.base.free b o e n hx)
 ·obtain⟨sl,e1⟩:=I.base.slot b o e n hb hx
  obtain⟨iY,e2⟩:=slot b _ (il b o e) hb (fA b o e hx) e1 (I.base.free b o e n hx);exact⟨iY,e2⟩
 ·obtain⟨o',e1⟩:=I.base.there b o e hx
  exact free b o' (fA b o e hx) e1 (I.base.free b o e n hx)
 ·obtain⟨o',e1⟩:=I.base.there b o e hx
  exact there b o' (fA b o e hx) e1
 ·obtain⟨m1,e1⟩:=I.base.tbls b ps e
  obtain⟨m2,e2⟩:=tbls b _ e1;exact⟨m1++m2,by rw[e2,Array.append_assoc]⟩
 ·obtain⟨m,hn,hl⟩:=I.loc
  refine⟨m,ns m hn,λi x v e1 e2 e3=>?_⟩
  obtain⟨u,r,l⟩:=hl i x v e1 e2 e3;refine⟨u,r,?_⟩;rcases l with l |⟨k,c,e,z⟩
  ·exact .inl l
  ·exact .inr ⟨k,c,e,cellK x c e _ z⟩
 ·obtain⟨v,z⟩:=I.cell x c e
  exact⟨v,cellK x c e v z⟩
 ·obtain⟨m,⟨o,_,_,ho,_⟩,_⟩:=I.loc
  exact free _ o (λz=>(bZ _ z).2.1 rfl) ho I.free
 ·obtain⟨v,o,ho,hd⟩:=I.cell x c e
  exact free c o (λz=>(bZ c z).2.2.1 x c e rfl) ho (I.freeC x c e)
 ·obtain⟨e,n,ne,nf,d⟩:=I.pin p hp
  have dQ:p.1∉ch:=λz=>(bZ p.1 z).2.2.2 p hp rfl
  exact⟨keep p.1 p.2 ne nf dQ e n,free p.1 p.2 dQ e n,ne,nf,d⟩
theorem Inv.un {t':Nat}(I:Inv X pins σ H s)(u:Un X.fs [] H H' s.heap h')(hok:HOk X.prog X.w H' h'):Inv X pins σ H' {s with heap:=h',toks:=t'}:=by
 obtain⟨m,⟨o,es,ep,ho,r⟩,_⟩:=id I.loc;obtain⟨sl,hL⟩:=u.any ho I.free (by simp)
 exact I.step (g':=s.gens) (d':=s.drawn) (ch:=[]) (λ_ z=>nomatch z) (λb o _ hb _ e n=>u.keep b o e n hb (by simp)) (λb o _ hb _ e n=>u.slot b o e n hb (by simp)) (λb o _ e n=>u.free b o e n (by simp)) (λb o _ e=>u.there b o e (by simp)) u.tups u.frzs u.tbls (λm' hm=>by
  obtain⟨o',es',ep',aI,r'⟩:=hm;rw[ho]at aI;cases aI;exact⟨_,es',ep',hL,r'⟩) hok I.bare
theorem Inv.call {g':Array GenState}{t':Nat}{d':Drawn}{ch:List lu}(I:Inv X pins σ H s)(u:Un (frs X.stack) ch H H' s.heap h')(hok:HOk X.prog X.w H' h')(hg:AllBare g')
  (bZ:∀b∈ch,(b∈X.ex\/X.s₀.heap.objs.size<=b)/\b≠X.env.locals/\(∀x c,X.env.cells.lookup x=uD c->c≠b)/\∀p∈X.pn++pins,p.1≠b):
  Inv X pins σ H' {s with heap:=h',gens:=g',drawn:=d',toks:=t'}:=by
 obtain⟨m,⟨o,es,ep,ho,r⟩,_⟩:=id I.loc;obtain⟨sl,hL⟩:=u.any ho I.free λz=>(bZ _ z).2.1 rfl
 exact I.step (ch:=ch) bZ (λb o hL hb hc e n=>u.keep b o e n (λz=>(lC.mp (I.stkSub b z)).elim hL hb) hc) (λb o _ _ hc e n=>u.any e n hc) (λb o hc e n=>u.free b o e n hc) (λb o hc e=>u.there b o e hc) u.tups u.frzs u.tbls (λm' hm=>by
  obtain⟨o',es',ep',aI,r'⟩:=hm;rw[ho]at aI;cases aI;exact⟨_,es',ep',hL,r'⟩) hok hg
theorem Inv.turned {t':Nat}{it:lu}(I:Inv X pins σ H s)(k:∀b o,b≠it->s.heap.get? b=uD o->h'.get? b=uD o)(hn:H it=uE)(hL:it≠X.env.locals)
  (h1:it∈X.ex\/X.s₀.heap.objs.size<=it) (h2:∀x c,X.env.cells.lookup x=uD c->c≠it) (h3:∀p∈X.pn++pins,p.1≠it):Inv X pins σ H {s with heap:=h',toks:=t'}:=by
 have dP:∀b u,H b=uD u->b≠it:=λb u e z=>by rw[z,hn]at e;cases e
 refine I.step (g':=s.gens) (d':=s.drawn) (ch:=[it]) (λb hb=>?_) (λb o _ _ hc e _=>k b o (λz=>hc (by simp[z])) e) (λb o _ _ hc e _=>⟨o.slots,k b o (λz=>hc (by simp[z])) e⟩) (λ_ _ _ _ n=>n)
  (λb o hc e=>⟨o,k b o (λz=>hc (by simp[z])) e⟩) (λ_ _ e=>e) (λ_ _ _ e=>e) (λb ps e=>⟨#[],by rw[e];simp⟩) (λm hm=>?_) (λb u e=>?_) I.bare
 ·have e:b=it:=by simpa using hb
  subst e;exact⟨h1,hL,h2,h3⟩
 ·obtain⟨o,es,ep,ho,r⟩:=hm
  exact⟨o,es,ep,k _ o (pV hL) ho,r⟩
 ·refine(I.hok b u e).stay (λc v hc q=>k c v ?_ q) (λ_ q=>q) λ_ _ q=>q
  rcases hc with z |z
  ·rw[z];exact dP b u e
  ·exact dP c _ z
theorem Inv.tok (I:Inv X pins σ H s)(t:Nat):Inv X pins σ H {s with toks:=t}:=I.un (h':=s.heap) (t':=t) Un.refl I.hok
theorem Inv.kept {t':Nat}(I:Inv X pins σ H s)(k:∀b u,s.heap.get? b=uD u->h'.get? b=uD u):Inv X pins σ H {s with heap:=h',toks:=t'}:=I.un (Un.kept k) (I.hok.kept k)
theorem Inv.laid {a:lu}{o:HO}{t':Nat}(I:Inv X pins σ H s)(k:∀b u,s.heap.get? b=uD u->h'.get? b=uD u)(hp:s.heap.objs.size<=a)(new:ObjOk X.prog X.w (upd H a o) h' a o):
  Inv X pins σ (upd H a o) {s with heap:=h',toks:=t'}:=I.un (Un.laid k hp (I.hok.fresh hp)) (I.hok.laid k hp new)
theorem Inv.write {x e:lu}{o:HO}{t':Nat}(I:Inv X pins σ H s)(mu:Mut (H x))(he:e=x\/H e=uD (.own x))(k:∀b u,b≠e->s.heap.get? b=uD u->h'.get? b=uD u)(bD:∃u,h'.get? e=uD u)
  (new:ObjOk X.prog X.w (upd H x o) h' x o):Inv X pins σ (upd H x o) {s with heap:=h',toks:=t'}:=I.un (Un.write mu he k bD) (I.hok.write mu he k bD new)
theorem Inv.pins_of {cu:Pnn}(I:Inv X pins σ H s)(h:∀p∈cu,s.heap.get? p.1=uD p.2/\H p.1=uE/\p.1≠X.env.locals/\p.1∉X.fs/\∀v,p.2.data≠.cell v):Inv X cu σ H s:=
 ⟨I.ok,I.os,I.bare,I.base,I.loc,I.cell,I.free,I.freeC,λp hp=>(lZ.mp hp).elim (λz=>I.pin p (pb _ z)) (h p),I.hok,I.len⟩
theorem zgz_ {N:List Str}(hN:N.Nodup){i j:Nat}{x:Str}(a:N[i]?=uD x)(b:N[j]?=uD x):i=j:=by
 obtain⟨h1,e1⟩:=lD.mp a;obtain⟨h2,e2⟩:=lD.mp b;exact(List.getElem_inj hN).mp (e1.trans e2.symm)
theorem ziV_ {M:Model}{A:mG}{E:aT->ll->Prop}{i:Nat}{x:Str}{v:V}{u:aT}{Q:Unit->ll->Prop}(I:Inv X pins σ H s)(hN:X.N.Nodup)(hi:X.N[i]?=uD x)(hx:Loc X.env.scope x)(r:RelV v u)
  (h:∀s',Inv X pins (σ.set i (uD v)) H s'->(∃a,pf a s.heap s'.heap/\(a=X.env.locals\/X.env.cells.lookup x=uD a))->Q () s') (hf:X.fn x=uF\/X.env.scope.names.lookup x=uD .local:=by first |exact .inl rfl |exact .inr rfl |assumption):lU M A (storeName X.env x u) Q E s:=by
 obtain⟨m,hn,hl⟩:=id I.loc;have gI:(X.env.scope.kind == .class ||(X.env.scope.kind == .module && X.env.locals != X.env.globals))=uG:=by rw[I.ok.kind];rfl
 have eE:i<σ.length:=by rw[I.len];exact(lD.mp hi).1
 have cne:=I.cne;have tracked:∀{a:lu}{h':Heap},(∃o,s.heap.get? a=uD o/\H a=uE)->pf a s.heap h'->HOk X.prog X.w H h':=λ{a h'} ha hs b ob e=>by
  obtain⟨_,_,hfree⟩:=ha;refine(I.hok b ob e).stay (λc w' hc q=>(hs.2 c ?_).trans q) (λ_ q=>q) λ_ _ q=>q
  rintro rfl;rcases hc with rfl |hc
  ·rw[hfree]at e;cases e
  ·rw[hfree]at hc;cases hc
 rcases hx with hk |hk
 ·refine wpAny_storeName_local hk hn (λh' gr hs=>?_) gI
  obtain⟨oL,_,_,d8,_⟩:=id hn;refine h _ ⟨I.ok,I.os,I.bare,⟨λb o e n hb hx=>?_,λb o e n hb hx=>?_,I.base.free,λb o e hx=>?_,I.base.tups,I.base.frzs,I.base.tbls⟩,⟨_,gr,λj y v' e1 e2 e3=>?_⟩,λy c e=>?_,I.free,I.freeC,λp hp=>?_,tracked ⟨oL,d8,I.free⟩ hs,by simpa using I.len⟩ ⟨_,hs,.inl rfl⟩
  ·exact(hs.2 b (mm (l9 (lL e) I.ok.above))).trans (I.base.keep b o e n hb hx)
  ·obtain⟨sl,e1⟩:=I.base.slot b o e n hb hx
   exact⟨sl,(hs.2 b (mm (l9 (lL e) I.ok.above))).trans e1⟩
  ·obtain⟨o',e1⟩:=I.base.there b o e hx
   exact⟨o',(hs.2 b (mm (l9 (lL e) I.ok.above))).trans e1⟩
  ·by_cases hj:j=i
   ·subst hj
    rw[hi]at e1;cases e1;rw[nj eE]at e2;cases e2;exact⟨u,r,.inl ⟨hk,by simp⟩⟩
   ·rw[lW (pV hj)]at e2
    obtain⟨u',r',q⟩:=hl j y v' e1 e2 e3;refine⟨u',r',?_⟩;rcases q with⟨k,e⟩|⟨k,c,e,z⟩
    ·refine .inl ⟨k,?_⟩
     have:y≠x:=λe=>hj (zgz_ hN e1 (e ▸ hi))
     simp[this,e]
    ·exact .inr ⟨k,c,e,z.sameBut hs (cne y c e)⟩
  ·obtain⟨w',z⟩:=I.cell y c e
   exact⟨w',z.sameBut hs (cne y c e)⟩
  ·obtain⟨e,n,ne,nf,d⟩:=I.pin p hp
   exact⟨(hs.2 p.1 ne).trans e,n,ne,nf,d⟩
 ·have eG:X.fn x=uF:=by
   rcases hf with z |z
   ·exact z
   ·rw[z]at hk;cases hk
  obtain⟨c,hc⟩:=I.ok.has x (.inl hk);obtain⟨w',z⟩:=I.cell x c hc;refine wpAny_storeName_cell I.ok.kind hk hc z (λh' aW hs=>?_)
  obtain⟨oc,hoc,hocd⟩:=id z;refine h {s with heap:=h'} ⟨I.ok,I.os,I.bare,⟨λb o e n hb hx=>?_,λb o e n hb hx=>?_,I.base.free,λb o e hx=>?_,I.base.tups,I.base.frzs,I.base.tbls⟩,⟨m,hn.sameBut hs (pV (cne x c hc)),λj y v' e1 e2 e3=>?_⟩,λy c' e=>?_,I.free,I.freeC,λp hp=>?_,tracked ⟨oc,hoc,I.freeC x c hc⟩ hs,by simpa using I.len⟩ ⟨c,hs,.inr hc⟩
  ·exact(hs.2 b (mm (l9 (lL e) (I.ok.cab x c eG hc)))).trans (I.base.keep b o e n hb hx)
  ·obtain⟨sl,e1⟩:=I.base.slot b o e n hb hx
   exact⟨sl,(hs.2 b (mm (l9 (lL e) (I.ok.cab x c eG hc)))).trans e1⟩
  ·obtain⟨o',e1⟩:=I.base.there b o e hx
   exact⟨o',(hs.2 b (mm (l9 (lL e) (I.ok.cab x c eG hc)))).trans e1⟩
  ·by_cases hj:j=i
   ·subst hj
    rw[hi]at e1;cases e1;rw[nj eE]at e2;cases e2;exact⟨u,r,.inr ⟨.inl hk,c,hc,aW⟩⟩
   ·rw[lW (pV hj)]at e2
    obtain⟨u',r',q⟩:=hl j y v' e1 e2 e3;refine⟨u',r',?_⟩;rcases q with q |⟨k,c',e,z'⟩
    ·exact .inl q
    ·refine .inr ⟨k,c',e,z'.sameBut hs ?_⟩
     rintro rfl;exact hj (zgz_ hN e1 (I.ok.inj _ _ _ e hc ▸ hi))
  ·by_cases hcc:c'=c
   ·subst hcc;exact⟨_,aW⟩
   ·obtain⟨w2,z2⟩:=I.cell y c' e
    exact⟨w2,z2.sameBut hs hcc⟩
  ·obtain⟨e,n,ne,nf,d⟩:=I.pin p hp
   refine⟨(hs.2 p.1 ?_).trans e,n,ne,nf,d⟩;intro q;rw[q,hoc]at e;have q':oc=p.2:=mD e;exact d w' (by rw[<- q'];exact hocd)
theorem zhX_ {M:Model}{A:mG}{E:aT->ll->Prop}{i:Nat}{x:Str}{v:V}{u:aT}{Q:Unit->ll->Prop}(I:Inv X pins σ H s)(hN:X.N.Nodup)(hi:X.N[i]?=uD x)(hx:Loc X.env.scope x)(r:RelV v u)
  (h:∀s',Inv X pins (σ.set i (uD v)) H s'->Q () s') (hf:X.fn x=uF\/X.env.scope.names.lookup x=uD .local:=by first |exact .inl rfl |exact .inr rfl |assumption):lU M A (storeName X.env x u) Q E s:=
 ziV_ I hN hi hx r (λs' I' _=>h s' I') hf
theorem Inv.call' {s':ll}{ch:List lu}(I:Inv X pins σ H s)(ho:s'.os=s.os)(u:Un (frs X.stack) ch H H' s.heap s'.heap)(hok:HOk X.prog X.w H' s'.heap)(hg:AllBare s'.gens)
  (bZ:∀b∈ch,(b∈X.ex\/X.s₀.heap.objs.size<=b)/\b≠X.env.locals/\(∀x c,X.env.cells.lookup x=uD c->c≠b)/\∀p∈X.pn++pins,p.1≠b):Inv X pins σ H' s':=by
 obtain⟨h',g',d',t',o'⟩:=s';have e:o'=s.os:=ho;subst e;exact I.call (g':=g') (t':=t') (d':=d') u hok hg bZ
end
abbrev XK:=aT->Option lu->Hp->Prop
noncomputable abbrev St:=List (Option V)
abbrev VK:=V->Hp->Prop
abbrev TE:=St->Hp->VK->Prop
abbrev TT:=St->Hp->(Bool->Hp->Prop)->Prop
abbrev TA:=St->Hp->(List V->Hp->Prop)->Prop
structure Ends where
 nx:St->Hp->Prop
 rt:VK
 bk:St->Hp->Prop:=λ_ _=>False
 ct:St->Hp->Prop:=λ_ _=>False
abbrev TS:=Ends->St->Hp->Prop
def EP (X:Cx)(pins:Pnn)(σ:St)(Q:VK)(u:aT)(s':ll):Prop:=∃v H',Inv X pins σ H' s'/\RelV v u/\Q v H'
def TP (X:Cx)(pins:Pnn)(σ:St)(Q:Bool->Hp->Prop)(b:Bool)(s':ll):Prop:=∃H',Inv X pins σ H' s'/\Q b H'
def AP (X:Cx)(pins:Pnn)(σ:St)(Q:List V->Hp->Prop)(us:List aT)(s':ll):Prop:=∃vs H',Inv X pins σ H' s'/\Vals vs us/\Q vs H'
def SP (X:Cx)(pins:Pnn)(D:Ends)(f:Flow)(s':ll):Prop:=
 match f with
 |.next=>∃af H',Inv X pins af H' s'/\D.nx af H'
 |.brk=>∃af H',Inv X pins af H' s'/\D.bk af H'
 |.cont=>∃af H',Inv X pins af H' s'/\D.ct af H'
 |.ret u=>∃v af H',Inv X pins af H' s'/\RelV v u/\D.rt v H'
def PE (X:Cx)(e:lN)(t:TE):Prop:=
 ∀(pins:Pnn) (s:ll) (σ:St) (H:Hp) (Q:VK),Inv X pins σ H s->t σ H Q->lU (model X.prog X.w) X.A (eval e X.env) (EP X pins σ Q) X.xe s
def PT (X:Cx)(e:lN)(t:TT):Prop:=
 ∀(pins:Pnn) (s:ll) (σ:St) (H:Hp) (Q:Bool->Hp->Prop),Inv X pins σ H s->t σ H Q->lU (model X.prog X.w) X.A (isTrue e X.env (eval e X.env)) (TP X pins σ Q) X.xe s
def PW (X:Cx)(e:lN)(t:TT):Prop:=
 ∀(whole:Sem aT) (pins:Pnn) (s:ll) (σ:St) (H:Hp) (Q:Bool->Hp->Prop),Inv X pins σ H s->t σ H Q->lU (model X.prog X.w) X.A (isTrue e X.env whole) (TP X pins σ Q) X.xe s
theorem PW.pt {X:Cx}{e:lN}{t:TT}(h:PW X e t):PT X e t:=h _
def PA (X:Cx)(es:List lN)(t:TA):Prop:=
 ∀(pos:Pos) (pins:Pnn) (s:ll) (σ:St) (H:Hp) (Q:List V->Hp->Prop),Inv X pins σ H s->t σ H Q->lU (model X.prog X.w) X.A (spliced (oP pos (l7 es X.env))) (AP X pins σ Q) X.xe s
def PS (X:Cx)(st:me)(t:TS):Prop:=
 ∀(pins:Pnn) (s:ll) (σ:St) (H:Hp) (D:Ends),Inv X pins σ H s->t D σ H->lU (model X.prog X.w) X.A (exec st X.env) (SP X pins D) X.xe s
def PSs (X:Cx)(st:List me)(t:TS):Prop:=
 ∀(pins:Pnn) (s:ll) (σ:St) (H:Hp) (D:Ends),Inv X pins σ H s->t D σ H->lU (model X.prog X.w) X.A (execs st X.env) (SP X pins D) X.xe s
theorem thn {α:Type}{t:Sem α}{Q Q':α->ll->Prop}{M:Model}{A:mG}{E:aT->ll->Prop}{s:ll}(h:lU M A t Q E s)(hQ:∀a s,Q a s->Q' a s):lU M A t Q' E s:=nq h hQ λ_ _ x=>x
section
variable {X:Cx}
def tVar (i:Nat):TE:=λσ H Q=>∃v,σ[i]?=uD (uD v)/\Q v H
def tC (v:V):TE:=λ_ H Q=>Q v H
theorem zpN_ {i:Nat}{x:Str}{pos:Pos}(hN:X.N[i]?=uD x)(hv:Vis X.env.scope x)(hd:(x==("__debug__":Str))=uG:=by decide)(bt:(x==("__classdict__":Str))=uG:=by decide):PE X (.Name x pos) (tVar i):=by
 intro pins s σ H Q I h;obtain⟨v,e,h⟩:=h;obtain⟨m,hn,hl⟩:=I.loc;obtain⟨u,r,l⟩:=hl i x v hN e hv;have fin:EP X pins σ Q u s:=⟨v,H,I,r,h⟩;rcases l with⟨hk,hm⟩|⟨hk,c,hc,bq⟩
 ·exact wpAny_Name (wpAny_loadName_local I.ok.kind hk hn hm fin) hd
 ·rcases hk with hk |hk
  ·exact wpAny_Name (wpAny_loadName_cell I.ok.kind hk hc bq fin) hd
  ·exact wpAny_Name (wpAny_loadName_free I.ok.kind hk hc bq fin bt) hd
theorem zmI_ {i j pos}:PE X (.Constant (.int i) j pos) (tC (.int i)):=λ_ _ _ H _ I h=>wpAny_Constant_int ⟨.int i,H,I.tok _,⟨_,rfl⟩,h⟩
theorem pe_bl {b j pos}:PE X (.Constant (.bool b) j pos) (tC (.bl b)):=λ_ _ _ H _ I h=>Constant_bool ⟨.bl b,H,I,rfl,h⟩
theorem zpF_ {j pos}:PE X (.Constant .none j pos) (tC .non):=λ_ _ _ H _ I h=>Constant_none ⟨.non,H,I,rfl,h⟩
theorem zqN_ {x j pos}:PE X (.Constant (.str x) j pos) (tC (.str x)):=λ_ _ _ H _ I h=>Calls.Constant_str ⟨.str x,H,I.tok _,⟨_,rfl⟩,h⟩
def Gl (X:Cx)(x:Str):Prop:=X.env.kindOf x=uD .globalImplicit
theorem zd5_ {E:aT->ll->Prop}{pins:Pnn}{s:ll}{σ:St}{H:Hp}{x:Str}{u:aT}{pos:Pos}{Q:aT->ll->Prop}(I:Inv X pins σ H s)(hg:Gl X x)(hm:X.mg x=uD u)(h:Q u s)
  (hd:(x==("__debug__":Str))=uG:=by decide):lU (model X.prog X.w) X.A (eval (.Name x pos) X.env) Q E s:=
 Calls.Name_function_global I.ok.kind hg (Calls.loadGlobal_global (by rw[I.ok.glob];exact I.mod.glob.keeps I.bk) hm h) hd
theorem zdq_ {E:aT->ll->Prop}{pins:Pnn}{s:ll}{σ:St}{H:Hp}{x:Str}{u:aT}{pos:Pos}{Q:aT->ll->Prop}(I:Inv X pins σ H s)(hg:Gl X x)(hm:X.mg x=uE)(hv:nS x=uD u)(h:Q u s)
  (hn:x ≠ "__name__":=by decide) (hd:(x==("__debug__":Str))=uG:=by decide):lU (model X.prog X.w) X.A (eval (.Name x pos) X.env) Q E s:=by
 obtain⟨mb,h1,h2⟩:=I.mod.blt;exact Calls.Name_function_global I.ok.kind hg (Calls.loadGlobal_builtin (by rw[I.ok.glob];exact I.mod.glob.keeps I.bk) hm (by rw[I.ok.blt];exact h1.keeps I.bk) ((h2 x hn).trans hv) h) hd
theorem zmA_ {x:Str}{v:V}{u:aT}{pos:Pos}(hg:Gl X x)(hm:X.mg x=uD u)(r:RelV v u)(hd:(x==("__debug__":Str))=uG:=by decide):PE X (.Name x pos) (tC v):=
 λ_ _ _ H _ I h=>zd5_ I hg hm ⟨v,H,I,r,h⟩ hd
theorem znt_ {x:Str}{v:V}{u:aT}{pos:Pos}(hg:Gl X x)(hm:X.mg x=uE)(hv:nS x=uD u)(r:RelV v u)(hn:x ≠ "__name__":=by decide)(hd:(x==("__debug__":Str))=uG:=by decide):PE X (.Name x pos) (tC v):=
 λ_ _ _ H _ I h=>zdq_ I hg hm hv ⟨v,H,I,r,h⟩ hn hd
variable {a:lN}{pos:Pos}
variable {tA:TT}
def tNot (t:TT):TT:=λσ H Q=>t σ H λc H1=>Q (!c) H1
theorem zlN_ (ha:PT X a tA):PW X (.BoolOp .And [a] pos) tA:=by
 intro wh pins s σ H Q I h;refine isTrue_and (thn (ha pins s σ H Q I h) λc s1 e=>?_)
 cases c with
 |true=>exact isTrue_and_nil e
 |false=>exact e
theorem zpt_ (ha:PT X a tA):PW X (.BoolOp .Or [a] pos) tA:=by
 intro wh pins s σ H Q I h;refine isTrue_or (thn (ha pins s σ H Q I h) λc s1 e=>?_)
 cases c with
 |false=>exact isTrue_or_nil e
 |true=>exact e
theorem zps_ (ha:PT X a tA):PT X (.UnaryOp .Not a pos) (tNot tA):=by
 intro pins s σ H Q I h;exact isTrue_not (ha pins s σ H (λc H1=>Q (!c) H1) I h)
theorem znp_ {op}{t:TE}(h:PE X a t):PE X (.BoolOp op [a] pos) t:=λpins s σ H Q I hw=>BoolOp_one (h pins s σ H Q I hw)
end
def SqL (K:Fgg)(H:Hp)(a:lu)(xs:List V):Prop:=
 Rd H a (.lst xs) \/
  ∃(o:tP) (aa:Array aT) (n:Nat),K.lookup a=uD o/\o.cls=.type "list" /\ o.dict=uE/\o.data=.seq aa n/\aa.size<=lE/\Vals xs aa.toList
def SqT (K:Fgg)(H:Hp)(a:lu)(xs:List V):Prop:=
 Rd H a (.tup xs) \/
  ∃(o:tP) (aa:Array aT) (n:Nat),K.lookup a=uD o/\o.cls=.type "tuple" /\ o.data=.seq aa n/\aa.size<=lE/\Vals xs aa.toList
noncomputable def absV:aT->Option V
 |.none=>uD .non
 |.bool b=>uD (.bl b)
 |.int i _=>uD (.int i)
 |.str x _=>uD (.str x)
 |.bytes b _=>uD (.byt b)
 |.float b _=>uD (.flt b)
 |.ref a=>uD (.ref a)
 |.type n=>uD (.ty n)
 |_=>uE
theorem RelV.abs {x:V}{u:aT}(r:RelV x u):absV u=uD x:=by
 cases x with
 |non=>cases r;rfl
 |bl _=>cases r;rfl
 |int _=>obtain⟨t,rfl⟩:=r;rfl
 |str _=>obtain⟨t,rfl⟩:=r;rfl
 |byt _=>obtain⟨t,rfl⟩:=r;rfl
 |flt _=>obtain⟨t,rfl⟩:=r;rfl
 |ref _=>cases r;rfl
 |ty _=>cases r;rfl
theorem RelV.inj {x y:V}{u:aT}(r:RelV x u)(q:RelV y u):x=y:=mD (r.abs.symm.trans q.abs)
theorem Vals.inj:∀{xs ys:List V}{us:List aT},Vals xs us->Vals ys us->xs=ys
 |_,_,_,.nil,.nil=>rfl
 |_,_,_,.cons r t,.cons r' t'=>by rw[r.inj r',Vals.inj t t']
section
variable {X:Cx}{pins:Pnn}{σ:St}{H:Hp}{s:ll}{a:lu}{xs ys:List V}
theorem SqL.of {K:Fgg}(h:H a=uD (.lst xs)):SqL K H a xs:=.inl (.inl h)
theorem SqT.of {K:Fgg}(h:H a=uD (.tup xs)):SqT K H a xs:=.inl (.inl h)
theorem Inv.list (I:Inv X pins σ H s)(h:SqL X.K H a xs):∃aa:List aT,Vals xs aa/\PlainL s.heap a aa.toArray/\xs.length<=lE:=by
 rcases h with h |⟨o,aa,n,hk,hc,hd,hs,hz,r⟩
 ·obtain⟨z,aa,n,r,e⟩:=h.ok I.hok
  exact⟨aa,r,⟨_,n,e,rfl,rfl,rfl⟩,z⟩
 ·refine⟨aa.toList,r,⟨o,n,I.kIn a o hk,hc,hd,by simpa using hs⟩,?_⟩
  have e:=r.length;simp only[nr]at e;lia
theorem Inv.tuple (I:Inv X pins σ H s)(h:SqT X.K H a xs):∃aa:List aT,Vals xs aa/\IsTup s.heap a aa.toArray/\xs.length<=lE:=by
 rcases h with h |⟨o,aa,n,hk,hc,hs,hz,r⟩
 ·obtain⟨z,aa,r,p⟩:=h.ok I.hok
  exact⟨aa,r,p,z⟩
 ·refine⟨aa.toList,r,⟨o,I.kIn a o hk,hc,n,by simpa using hs⟩,?_⟩
  have e:=r.length;simp only[nr]at e;lia
theorem Inv.list_inj (I:Inv X pins σ H s)(h:SqL X.K H a xs)(h':SqL X.K H a ys):xs=ys:=by
 obtain⟨aa,r,⟨o,n,e,_,_,d⟩,_⟩:=I.list h;obtain⟨its',r',⟨o',n',e',_,_,d'⟩,_⟩:=I.list h';rw[e]at e';cases e';rw[d]at d';injection d' with d1 _;have:aa=its':=by simpa using congrArg rg d1
 subst this;exact r.inj r'
theorem Inv.tuple_inj (I:Inv X pins σ H s)(h:SqT X.K H a xs)(h':SqT X.K H a ys):xs=ys:=by
 obtain⟨aa,r,⟨o,e,_,n,d⟩,_⟩:=I.tuple h;obtain⟨its',r',⟨o',e',_,n',d'⟩,_⟩:=I.tuple h';rw[e]at e';cases e';rw[d]at d';injection d' with d1 _;have:aa=its':=by simpa using congrArg rg d1
 subst this;exact r.inj r'
end
noncomputable abbrev Cx.wish (X:Cx)(E:aT->ll->Prop):Cx:={X with xe:=E}
abbrev Cx.nox (X:Cx):Cx:=X.wish λ_ _=>False
theorem Cx.Ok.wish {X:Cx}(ok:X.Ok)(E:aT->ll->Prop):(X.wish E).Ok:=
 ⟨ok.mod,ok.kind,ok.glob,ok.blt,ok.above,ok.inj,ok.has,ok.cab,ok.hd,ok.frames,ok.stk,ok.exf,ok.bs,ok.bsz,ok.noex,ok.exfs,ok.funs,ok.frf⟩
theorem Cx.Ok.unwish {X:Cx}{E:aT->ll->Prop}(ok:(X.wish E).Ok):X.Ok:=
 ⟨ok.mod,ok.kind,ok.glob,ok.blt,ok.above,ok.inj,ok.has,ok.cab,ok.hd,ok.frames,ok.stk,ok.exf,ok.bs,ok.bsz,ok.noex,ok.exfs,ok.funs,ok.frf⟩
section
variable {X:Cx}{pins:Pnn}{σ:St}{H:Hp}{s:ll}{E:aT->ll->Prop}
theorem Inv.wish (I:Inv X pins σ H s)(E:aT->ll->Prop):Inv (X.wish E) pins σ H s:=⟨I.ok.wish E,I.os,I.bare,I.base,I.loc,I.cell,I.free,I.freeC,I.pin,I.hok,I.len⟩
theorem Inv.unwish (I:Inv (X.wish E) pins σ H s):Inv X pins σ H s:=⟨I.ok.unwish,I.os,I.bare,I.base,I.loc,I.cell,I.free,I.freeC,I.pin,I.hok,I.len⟩
theorem SP.unwish {D:Ends}{f:Flow}{s':ll}(h:SP (X.wish E) pins D f s'):SP X pins D f s':=by
 cases f with
 |next=>obtain⟨af,H',I,q⟩:=h;exact⟨af,H',I.unwish,q⟩
 |brk=>obtain⟨af,H',I,q⟩:=h;exact⟨af,H',I.unwish,q⟩
 |cont=>obtain⟨af,H',I,q⟩:=h;exact⟨af,H',I.unwish,q⟩
 |ret u=>obtain⟨v,af,H',I,r,q⟩:=h;exact⟨v,af,H',I.unwish,r,q⟩
end
section
variable {X:Cx}{st:me}{rest:List me}{t u:TS}{e:lN}{te:TE}{pos:Pos}
def tNext:TS:=λD σ H=>D.nx σ H
def tSeq (t u:TS):TS:=λD σ H=>t {D with nx:=u D} σ H
theorem zmZ_:PSs X [] tNext:=λ_ _ σ H _ I h=>wpAny_execs_nil ⟨σ,H,I,h⟩
theorem zj7_ (h1:PS X st t)(h2:PSs X rest u):PSs X (st::rest) (tSeq t u):=by
 intro pins s σ H D I h;refine wpAny_execs_cons (thn (h1 pins s σ H {D with nx:=u D} I h) λf s1 q=>?_)
 cases f with
 |next=>
  obtain⟨af,H',I',q⟩:=q;exact h2 pins s1 af H' D I' q
 |ret v=>exact q
 |brk=>exact q
 |cont=>exact q
def tCont:TS:=λD σ H=>D.ct σ H
theorem zmq_:PS X (.Pass pos) tNext:=λ_ _ σ H _ I h=>wpAny_Pass ⟨σ,H,I,h⟩
theorem zfY_:PS X (.Continue pos) tCont:=λ_ _ σ H _ I h=>wpAny_Continue ⟨σ,H,I,h⟩
theorem Inv.quiet {pins:Pnn}{σ:St}{H:Hp}{s:ll}(I:Inv X pins σ H s):interactive X.env=uG:=by simp[interactive,I.ok.kind]
theorem zq5_ {x j pos pos'}:PS X (.Expr (.Constant (.str x) j pos) pos') tNext:=λ_ s σ H _ I h=>wpAny_Expr (Calls.Constant_str (show SP X _ _ .next {s with toks:=s.toks+1}from⟨σ,H,I.tok _,h⟩)) I.quiet
def tDrop (te:TE):TS:=λD σ H=>te σ H λ_ H1=>D.nx σ H1
theorem zoV_ (he:PE X e te)(hs:swapsWith e uE pos.line X.env=pure uG:=by rfl):PS X (.Expr e pos) (tDrop te):=by
 intro pins s σ H D I h;exact wpAny_Expr_any (thn (he pins s σ H _ I h) λv s1 ⟨x,H1,I1,r1,q1⟩=>⟨σ,H1,I1,q1⟩) I.quiet hs
def tRet (te:TE):TS:=λD σ H=>te σ H D.rt
theorem zqz_ (he:PE X e te):PS X (.Return (uD e) pos) (tRet te):=by
 intro pins s σ H D I h;exact wpAny_Return_some (thn (he pins s σ H _ I h) λv s1 ⟨x,H1,I1,r1,q1⟩=>⟨x,σ,H1,I1,r1,q1⟩)
def tRetN:TS:=λD _ H=>D.rt .non H
theorem zoy_:PS X (.Return uE pos) tRetN:=λ_ _ σ H _ I h=>wpAny_Return_none ⟨.non,σ,H,I,rfl,h⟩
def tNever:TS:=λ_ _ _=>False
theorem zj4_:PS X st tNever:=λ_ _ _ _ _ _ h=>h.elim
end
abbrev TG:=V->St->Hp->(St->Hp->Prop)->Prop
abbrev TGs:=List V->St->Hp->(St->Hp->Prop)->Prop
def PG (X:Cx)(target:lN)(t:TG):Prop:=
 ∀(pins:Pnn) (s:ll) (σ:St) (H:Hp) (v:V) (u:aT) (Q:St->Hp->Prop),Inv X pins σ H s->RelV v u->t v σ H Q ->
  lU (model X.prog X.w) X.A (assign target X.env u) (λ_ s'=>∃af H',Inv X pins af H' s'/\Q af H') X.xe s
def PGs (X:Cx)(ts:List lN)(t:TGs):Prop:=
 ∀(pins:Pnn) (s:ll) (σ:St) (H:Hp) (vs:List V) (us:List aT) (Q:St->Hp->Prop),Inv X pins σ H s->Vals vs us->t vs σ H Q ->
  lU (model X.prog X.w) X.A (assignInOrder ((nD ts X.env).map (·.2)) us) (λ_ s'=>∃af H',Inv X pins af H' s'/\Q af H') X.xe s
abbrev TSet:=V->V->V->Hp->(Hp->Prop)->Prop
def PSet (X:Cx)(t:TSet):Prop:=
 ∀(pins:Pnn) (s:ll) (σ:St) (H:Hp) (o i v:V) (ov iv u:aT) (Q:Hp->Prop),Inv X pins σ H s->RelV o ov->RelV i iv->RelV v u->t o i v H Q ->
  lU (model X.prog X.w) X.A (setItem ov iv u) (λ_ s'=>∃H',Inv X pins σ H' s'/\Q H') X.xe s
section
variable {X:Cx}{pos:Pos}
def gName (i:Nat):TG:=λv σ H Q=>Q (σ.set i (uD v)) H
theorem znQ_ {i:Nat}{x:Str}(hN:X.N.Nodup)(hi:X.N[i]?=uD x)(hx:Loc X.env.scope x)(hf:X.fn x=uF\/X.env.scope.names.lookup x=uD .local:=by first |exact .inl rfl |exact .inr rfl |assumption):PG X (.Name x pos) (gName i):=by
 intro pins s σ H v u Q I r h;exact wpAny_assign_Name (zhX_ I hN hi hx r (λs' I'=>⟨_,H,I',h⟩) hf)
def gNil:TGs:=λvs σ H Q=>vs=[]/\Q σ H
def gCons (t:TG)(u:TGs):TGs:=λvs σ H Q=>∃v r,vs=v::r/\t v σ H λaf H'=>u r af H' Q
theorem znD_:PGs X [] gNil:=by
 intro pins s σ H vs us Q I r h;obtain⟨e,h⟩:=h;subst e;cases r;exact assignInOrder_nil ⟨σ,H,I,h⟩
theorem zlo_ {e:lN}{es:List lN}{t:TG}{u:TGs}(h1:PG X e t)(h2:PGs X es u)
  (hs:(nD (e::es) X.env).map (·.2)=assign e X.env::(nD es X.env).map (·.2):=by rfl):PGs X (e::es) (gCons t u):=by
 intro pins s σ H vs us Q I r h;obtain⟨v,vr,e1,h⟩:=h;subst e1;cases r with
 |cons r rr=>
  rw[hs];refine assignInOrder_cons (thn (h1 pins s σ H _ _ _ I r h) λ_ s1 ab=>?_)
  obtain⟨di,H1,I1,q1⟩:=ab;exact h2 pins s1 di H1 _ _ Q I1 rr q1
def gTup (K:Fgg)(n:Nat)(t:TGs):TG:=λv σ H Q=>∃a xs,v=.ref a/\SqT K H a xs/\xs.length=n/\t xs σ H Q
theorem zpC_ {es:List lN}{k:Nat}{t:TGs}{n:Nat}(hc:X.calm=uF)(h:PGs X es t)
  (hn:(nD es X.env).length=n:=by rfl) (gh:(nD es X.env).findIdx? (·.1)=uE:=by rfl):PG X (.Tuple es k pos) (gTup X.K n t):=by
 intro pins s σ H v u Q I r hw;obtain⟨a,xs,e1,hq,hl,hw⟩:=hw;subst e1;cases r;obtain⟨aa,rv,ht,hz⟩:=I.tuple hq;refine assign_Tuple_tuple (I.ok.hd hc) ht (by simp[hn,<- hl,rv.length]) gh λh' hx=>?_
 have I1:Inv X pins σ H {s with heap:=h'}:=I.kept (t':=s.toks) λb o e=>hx b o (mm (lL e)) e
 exact h pins _ σ H xs _ Q I1 (by simpa using rv) hw
def gSub (to ti:TE)(t:TSet):TG:=λv σ H Q=>to σ H λo H1=>ti σ H1 λi H2=>t o i v H2 λH3=>Q σ H3
theorem zpY_ {o i:lN}{to ti:TE}{t:TSet}(ho:PE X o to)(hi:PE X i ti)(hs:PSet X t)
  (ha:∀v,assign (.Subscript o i pos) X.env v=(do
   let ov <- holding [v] (eval o X.env)
   let iv <- holding [v,ov] (eval i X.env)
   standAt pos
   holding [v,ov,iv] (setItem ov iv v)
   release [v,ov,iv] []):=by intro _;rfl):PG X (.Subscript o i pos) (gSub to ti t):=by
 intro pins s σ H v u Q I r h;rw[ha];refine lg (wpAny_holding (thn (ho pins s σ H _ I h) λov s1 ab=>?_))
 obtain⟨x,H1,I1,r1,q1⟩:=ab;refine lg (wpAny_holding (thn (hi pins s1 σ H1 _ I1 q1) λiv s2 ab=>?_))
 obtain⟨y,H2,I2,r2,q2⟩:=ab;refine lg (wpAny_standAt (lg (wpAny_holding (thn (hs pins s2 σ H2 x y v ov iv u _ I2 r1 r2 r q2) λ_ s3 ab=>?_))))
 obtain⟨H3,I3,q3⟩:=ab;exact wpAny_release ⟨σ,H3,I3,q3⟩
def tAsg (te:TE)(g:TG):TS:=λD σ H=>te σ H λx H1=>g x σ H1 D.nx
theorem zpO_ {tg e:lN}{te:TE}{g:TG}(he:PE X e te)(hg:PG X tg g)(hs:swapsWithSole [tg] e pos.line X.env=pure uG:=by rfl)(hw:swappedStores [tg] e X.env=pure uE:=by rfl)
  (h1:(nD [tg] X.env).map (·.2)=[assign tg X.env]:=by rfl):PS X (.Assign [tg] e pos) (tAsg te g):=by
 intro pins s σ H D I h;refine wpAny_Assign_stores (thn (he pins s σ H _ I h) λv s1 ab=>?_) hs hw
 obtain⟨x,H1,I1,r1,q1⟩:=ab;rw[h1];exact thn (hg pins s1 σ H1 x v _ I1 r1 q1) λ_ s2 q=>q
theorem zo0_ {i:Nat}{x:Str}{e:lN}{te:TE}{pos':Pos}(hN:X.N.Nodup)(hi:X.N[i]?=uD x)(hx:Loc X.env.scope x)(he:PE X e te)(hs:swapsWith e (uD (.Name x pos')) pos.line X.env=pure uG:=by rfl)(hf:X.fn x=uF\/X.env.scope.names.lookup x=uD .local:=by first |exact .inl rfl |exact .inr rfl |assumption):
  PS X (.Assign [.Name x pos'] e pos) (tAsg te (gName i)):=by
 intro pins s σ H D I h;refine wpAny_Assign_Name (thn (he pins s σ H _ I h) λv s1 ab=>?_) hs
 obtain⟨y,H1,I1,r1,q1⟩:=ab;exact zhX_ I1 hN hi hx r1 (λs2 I2=>⟨_,H1,I2,q1⟩) hf
def tWhile (c:TT)(tb:TS):TS:=λD σ H=>∃W:Nat->St->Hp->Prop,(∃m,W m σ H)/\∀m σ H,W m σ H ->
 c σ H λb H1=>if b=uF then∃N:St->Hp->Prop,(∀af H',N af H'->∃m',m'<m/\W m' af H')/\tb {D with nx:=N,ct:=N,bk:=D.nx} σ H1 else D.nx σ H1
theorem zkz_ {c:lN}{body:List me}{tc:TT}{tb:TS}(hp:PassesOwn (model X.prog X.w) X.A X.env X.xe)(hc:PT X c tc)(hb:PSs X body tb):PS X (.While c body [] pos) (tWhile tc tb):=by
 intro pins s σ H D I h;obtain⟨W,⟨m0,w0⟩,turn⟩:=h;refine wpAny_While (codeAny_whileLoop (λn s'=>∃af H',Inv X pins af H' s'/\W n af H') ?_ m0 ⟨σ,H,I,w0⟩)
 rintro n s1 ⟨di,H1,I1,w1⟩;refine ot hp (thn (hc pins s1 di H1 _ I1 (turn n di H1 w1)) λb s2 ab=>?_)
 obtain⟨H2,I2,q2⟩:=ab;cases b with
 |true=>
  obtain⟨N,hN,q2⟩:=q2;rw[if_pos rfl];refine ot hp (thn (hb pins s2 di H2 _ I2 q2) λf s3 q3=>?_)
  cases f with
  |next=>
   obtain⟨aR,H3,I3,n3⟩:=q3;obtain⟨m',hm,w3⟩:=hN aR H3 n3;exact⟨m',hm,aR,H3,I3,w3⟩
  |cont=>
   obtain⟨aR,H3,I3,n3⟩:=q3;obtain⟨m',hm,w3⟩:=hN aR H3 n3;exact⟨m',hm,aR,H3,I3,w3⟩
  |brk=>exact q3
  |ret v=>exact q3
 |false=>
  rw[if_neg mO];exact wpAny_execs_nil ⟨di,H2,I2,q2⟩
end
structure It where
 go:Nat->Hp->Prop
 yld:Nat->Hp->V->Hp->Prop
 stop:Nat->Hp->Prop
def FpOk (X:Cx)(pins:Pnn)(H:Hp)(b:lu):Prop:=
 H b=uE/\b≠X.env.locals/\b∉X.fs/\(b∈X.ex\/X.s₀.heap.objs.size<=b)/\(∀x c,X.env.cells.lookup x=uD c->c≠b)/\∀p∈X.pn++pins,p.1≠b
theorem Inv.fpOk {X:Cx}{pins:Pnn}{σ:St}{H H':Hp}{s:ll}{b:lu}(I:Inv X pins σ H s)(hb:s.heap.objs.size<=b)(hn:H' b=uE):FpOk X pins H' b:=by
 refine⟨hn,ph (l9 I.lt hb),I.nofs hb,.inr (ni I.sz hb),λx c e z=>?_,λp hp z=>?_⟩
 ·obtain⟨v,q⟩:=I.cell x c e
  exact absurd (l9 q.lt (by rw[z];exact hb)) (pF _)
 ·exact absurd (l9 (lL (I.pin p hp).1) (by rw[z];exact hb)) (pF _)
structure Turn (P:lY)(w:mq)(K:Fgg)(tg:lN)(J:It)(fp:List lu)(it:lu)(tn:Nat->Heap->Prop):Prop where
 mem:it∈fp
 obj:∀i h,tn i h->∀b∈fp,∃o,h.get? b=uD o/\∀v,o.data≠.cell v
 keep:∀i h h',tn i h->(∀b∈fp,∀o,h.get? b=uD o->h'.get? b=uD o)->tn i h'
 item:∀(X:Cx),X.prog=P->X.w=w->X.K=K->X.calm=uF->∀(i:Nat) (pins:Pnn) (s:ll) (σ:St) (H:Hp) (E:aT->ll->Prop),Inv X pins σ H s->(∀b∈fp,FpOk X pins H b)->tn i s.heap->J.go i H ->
  lU (model P w) X.A (pyNext (.ref it)) (λr s1=>∃u,r=uD u /\
   lU (model P w) X.A (letOwnedTupleGo tg (.ref it) u) (λ_ s2=>∃x H',Inv X pins σ H' s2/\RelV x u/\J.yld i H x H'/\tn (i+1) s2.heap/\∀b∈fp,H' b=uE) E s1) E s
 done:∀(X:Cx),X.prog=P->X.w=w->X.K=K->X.calm=uF->∀(i:Nat) (pins:Pnn) (s:ll) (σ:St) (H:Hp) (E:aT->ll->Prop),Inv X pins σ H s->(∀b∈fp,FpOk X pins H b)->tn i s.heap->J.stop i H ->
  lU (model P w) X.A (pyNext (.ref it)) (λr s1=>r=uE/\Inv X pins σ H s1) E s
 self:∀(A:mG) (i:Nat) (s:ll) (Q:aT->ll->Prop) (E:aT->ll->Prop),tn i s.heap->Q (.ref it) s->lU (model P w) A (pyIter (.ref it)) Q E s
abbrev TI:=St->Hp->(It->Hp->Prop)->Prop
def PIE (X:Cx)(pins:Pnn)(σ:St)(tg:lN)(R:It->Hp->Prop)(fD:aT)(s2:ll):Prop:=
 ∃(it:lu) (fp:List lu) (tn:Nat->Heap->Prop) (J:It) (H':Hp),fD=.ref it/\Inv X pins σ H' s2/\Turn X.prog X.w X.K tg J fp it tn/\tn 0 s2.heap/\(∀b∈fp,FpOk X pins H' b)/\R J H'
def PI (X:Cx)(tg iter:lN)(wi:TI):Prop:=
 ∀(pins:Pnn) (s:ll) (σ:St) (H:Hp) (R:It->Hp->Prop),Inv X pins σ H s->wi σ H R ->
  lU (model X.prog X.w) X.A (eval iter X.env) (λv s1=>lU (model X.prog X.w) X.A (pyIter v) (PIE X pins σ tg R) X.xe s1) X.xe s
theorem znl_ {M:Model}{A:mG}{E:aT->ll->Prop}{s:ll}{tg:lN}{it:lu}{u:aT}{o:tP}{n:String}{vs:Array aT}{Q:Unit->ll->Prop}(ho:s.heap.get? it=uD o)(hc:o.cls=.type n)(hd:o.data=.fields vs)
  (hn:["enumerate", "zip", "dict_itemiterator", "dict_reverseitemiterator", "odict_iterator", "itertools.zip_longest", "itertools.pairwise"].contains n=uG) (hQ:Q () s):lU M A (letOwnedTupleGo tg (.ref it) u) Q E s:=by
 unfold letOwnedTupleGo
 cases tg<;>first
  |exact lK hQ
  | (cases u<;>first
    |exact lK hQ
    | (refine lg (wpAny_load ho ?_)
       rw[hc,hd];show lU M A (if(["enumerate", "zip", "dict_itemiterator", "dict_reverseitemiterator", "odict_iterator", "itertools.zip_longest", "itertools.pairwise"].contains n && vs[0]?==uD (rawInt _))=uF then _ else _) Q E s
       rw[if_neg (by intro h;rw[hn,nU]at h;cases h)]
       exact lK hQ))
def Itl (K:Fgg)(a:lu):It:=
 ⟨λi H=>∃xs x,SqL K H a xs/\xs[i]?=uD x,λi H x H'=>H'=H/\∀xs,SqL K H a xs->xs[i]?=uD x,λi H=>∃xs,SqL K H a xs/\xs.length<=i⟩
def Itt (K:Fgg)(a:lu):It:=
 ⟨λi H=>∃xs x,SqT K H a xs/\xs[i]?=uD x,λi H x H'=>H'=H/\∀xs,SqT K H a xs->xs[i]?=uD x,λi H=>∃xs,SqT K H a xs/\xs.length<=i⟩
noncomputable def Itr (lo:Int)(n:Nat):It:=⟨λi _=>i<n,λi H x H'=>H'=H/\x=.int (lo+i),λi _=>n<=i⟩
theorem ziB_ {P:lY}{w:mq}{K:Fgg}{tg:lN}(a it:lu):Turn P w K tg (Itl K a) [it] it (λi h=>h.IsListIter it a i) where
 mem:=by simp
 obj:=λi h st b hb=>by
  have e:b=it:=by simpa using hb
  subst e;obtain⟨o,e,c,d⟩:=st;exact⟨o,e,λv z=>by rw[d]at z;cases z⟩
 keep:=λi h h' st k=>st.at λo e=>k it (by simp) o e
 item:=by
  intro X hP hw hK hc i pins s σ H E I hf st hg;subst hP hw hK;obtain⟨xs,x,hq,hx⟩:=hg;obtain⟨aa,rv,p,hz⟩:=I.list hq;obtain⟨u,hu,ru⟩:=rv.get hx;obtain⟨f0,f1,f2,f3,f4,f5⟩:=hf it (by simp)
  refine wpAny_pyNext_list_item st p.isList (x:=u) (by simpa using hu) λh' aK sb=>?_
  have I1:Inv X pins σ H {s with heap:=h'}:=I.turned (t':=s.toks) (λb o hb e=>(sb.2 b hb).trans e) f0 f1 f3 f4 f5
  obtain⟨o,e,c,d⟩:=id aK;exact⟨u,rfl,znl_ (s:={s with heap:=h'}) e c d (by decide) ⟨x,H,I1,ru,⟨rfl,λys hy=>by rw[I.list_inj hy hq];exact hx⟩,aK,λb hb=>(hf b hb).1⟩⟩
 done:=by
  intro X hP hw hK hc i pins s σ H E I hf st hg;subst hP hw hK;obtain⟨xs,hq,hx⟩:=hg;obtain⟨aa,rv,p,hz⟩:=I.list hq;obtain⟨f0,f1,f2,f3,f4,f5⟩:=hf it (by simp)
  have hl:=rv.length;exact wpAny_pyNext_list_end (I.ok.hd hc) st p.isList (by simp;lia) λh' eb=>⟨rfl,I.turned (t':=s.toks) (λb o hb e=>eb b o hb e) f0 f1 f3 f4 f5⟩
 self:=λ_ _ _ _ _ st h=>wpAny_pyIter_listiter st h
theorem zgs_ {P:lY}{w:mq}{K:Fgg}{tg:lN}(a it:lu):Turn P w K tg (Itt K a) [it] it (λi h=>h.IsTupleIter it a i) where
 mem:=by simp
 obj:=λi h st b hb=>by
  have e:b=it:=by simpa using hb
  subst e;obtain⟨o,e,c,d⟩:=st;exact⟨o,e,λv z=>by rw[d]at z;cases z⟩
 keep:=λi h h' st k=>st.at λo e=>k it (by simp) o e
 item:=by
  intro X hP hw hK hc i pins s σ H E I hf st hg;subst hP hw hK;obtain⟨xs,x,hq,hx⟩:=hg;obtain⟨aa,rv,p,hz⟩:=I.tuple hq;obtain⟨u,hu,ru⟩:=rv.get hx;obtain⟨f0,f1,f2,f3,f4,f5⟩:=hf it (by simp)
  refine wpAny_pyNext_tuple_item st (show s.heap.IsTuple a aa.toArray from p) (x:=u) (by simpa using hu) λh' aK sb=>?_
  have I1:Inv X pins σ H {s with heap:=h'}:=I.turned (t':=s.toks) (λb o hb e=>(sb.2 b hb).trans e) f0 f1 f3 f4 f5
  obtain⟨o,e,c,d⟩:=id aK;exact⟨u,rfl,znl_ (s:={s with heap:=h'}) e c d (by decide) ⟨x,H,I1,ru,⟨rfl,λys hy=>by rw[I.tuple_inj hy hq];exact hx⟩,aK,λb hb=>(hf b hb).1⟩⟩
 done:=by
  intro X hP hw hK hc i pins s σ H E I hf st hg;subst hP hw hK;obtain⟨xs,hq,hx⟩:=hg;obtain⟨aa,rv,p,hz⟩:=I.tuple hq;obtain⟨f0,f1,f2,f3,f4,f5⟩:=hf it (by simp)
  have hl:=rv.length;exact wpAny_pyNext_tuple_end (I.ok.hd hc) st (show s.heap.IsTuple a aa.toArray from p) (by simp;lia) λh' eb=>⟨rfl,I.turned (t':=s.toks) (λb o hb e=>eb b o hb e) f0 f1 f3 f4 f5⟩
 self:=λ_ _ _ _ _ st h=>wpAny_pyIter_tupleiter st h
theorem zgE_ {P:lY}{w:mq}{K:Fgg}{tg:lN}(it:lu)(lo:Int)(n:Nat):Turn P w K tg (Itr lo n) [it] it (λi h=>IsRangeIter h it (lo+(i:Nat)*1) ((n:Int)-(i:Nat)) 1) where
 mem:=by simp
 obj:=λi h st b hb=>by
  have e:b=it:=by simpa using hb
  subst e;exact⟨_,st,λv z=>by
   have z':Data.fields _=Data.cell v:=z;cases z'⟩
 keep:=λi h h' st k=>k it (by simp) _ st
 item:=by
  intro X hP hw hK hc i pins s σ H E I hf st hg;subst hP hw hK;obtain⟨f0,f1,f2,f3,f4,f5⟩:=hf it (by simp)
  have W:=Walks.range (prog:=X.prog) (w:=X.w) (I.ok.hd hc) it lo 1 n;refine W.item i s _ _ hg st λv h' tk hv aK kk=>?_
  obtain⟨t,rfl⟩:=hv;have I1:Inv X pins σ H {s with heap:=h',toks:=tk}:=I.turned (λb o hb e=>kk b o (by simpa using hb) e) f0 f1 f3 f4 f5
  refine⟨_,rfl,znl_ (s:={s with heap:=h',toks:=tk}) (n:="range_iterator") aK rfl rfl (by decide) ⟨.int (lo+i),H,I1,⟨t,?_⟩,⟨rfl,rfl⟩,aK,λb hb=>(hf b hb).1⟩⟩
  rw[Int.mul_one]
 done:=by
  intro X hP hw hK hc i pins s σ H E I hf st hg;subst hP hw hK;obtain⟨f0,f1,f2,f3,f4,f5⟩:=hf it (by simp)
  exact wpAny_pyNext_range_end (I.ok.hd hc) st (by have:n<=i:=hg;lia) λh' eb=>⟨rfl,I.turned (t':=s.toks) (λb o hb e=>eb b o hb e) f0 f1 f3 f4 f5⟩
 self:=λ_ _ _ _ _ st h=>wpAny_pyIter_rangeiter st h
section
variable {X:Cx}{tg:lN}
theorem zgU_ {pins:Pnn}{σ:St}{H:Hp}{s:ll}{R:It->Hp->Prop}{E:aT->ll->Prop}{lo hi:Int}{t u v:Tok}{tk:Nat}(I:Inv X pins σ H s)(h1 : -(2 ^ 62)<=lo)(h2:lo<2 ^ 62)(h3 : -(2 ^ 62)<=hi)(h4:hi<2 ^ 62)
  (q:R (Itr lo (hi-lo).toNat) H):lU (model X.prog X.w) X.A (pyIter (.ref s.heap.objs.size)) (PIE X pins σ tg R) E {s with heap:=s.heap.push {cls:=.type "range",data:=.fields #[.int lo t,.int hi u,.int 1 v]},toks:=tk}:=by
 refine wpAny_pyIter_range (IsRange.new ..) (small_one h1 h2 h3 h4) ?_;have I1:Inv X pins σ H {s with heap:=s.heap.push {cls:=.type "range",data:=.fields #[.int lo t,.int hi u,.int 1 v]},toks:=tk}:=I.kept λb o e=>lh _ e
 refine⟨(s.heap.push {cls:=.type "range",data:=.fields #[.int lo t,.int hi u,.int 1 v]}).objs.size,[(s.heap.push {cls:=.type "range",data:=.fields #[.int lo t,.int hi u,.int 1 v]}).objs.size],_,_,H,rfl,
  I1.kept (t':=tk) λb o e=>lh _ e,zgE_ _ lo (hi-lo).toNat,?_,λb hb=>?_,q⟩
 ·have e1:lo+((0:Nat):Int)*1=lo:=by simp
  have e2:(((hi-lo).toNat:Nat):Int)-((0:Nat):Int)=nH lo hi 1:=by rw[rangeSize_one];split<;>omega
  show IsRangeIter _ _ (lo+((0:Nat):Int)*1) ((((hi-lo).toNat:Nat):Int)-((0:Nat):Int)) 1
  rw[e1,e2];exact lI _ rfl
 ·have e:b=(s.heap.push {cls:=.type "range",data:=.fields #[.int lo t,.int hi u,.int 1 v]}).objs.size:=by simpa using hb
  subst e;exact I1.fpOk (lp _) (I1.hok.fresh (lp _))
def tFor (wi:TI)(g:TG)(tb:TS):TS:=λD σ H=>wi σ H λJ H1=>∃W:Nat->Nat->St->Hp->Prop,(∃m,W 0 m σ H1)/\∀i m σ H,W i m σ H ->
 (J.stop i H/\D.nx σ H)\/(J.go i H/\∃N:St->Hp->Prop,(∀af H',N af H'->∃m',m'<m/\W (i+1) m' af H')/\∀x H',J.yld i H x H'->g x σ H' λdg H2=>tb {D with nx:=N,ct:=N,bk:=D.nx} dg H2)
def pinsAt (fp:List lu)(h:Heap):Pnn:=fp.filterMap λb=>(h.get? b).map λo=>(b,o)
theorem zbT_ {fp:List lu}{h:Heap}{b:lu}{o:tP}(hb:b∈fp)(e:h.get? b=uD o):(b,o)∈pinsAt fp h:=rb.mpr ⟨b,hb,by rw[e];rfl⟩
theorem ziO_ {fp:List lu}{h:Heap}{p:lu×tP}(hp:p∈pinsAt fp h):p.1∈fp/\h.get? p.1=uD p.2:=by
 obtain⟨b,hb,e⟩:=rb.mp hp;cases q:h.get? b with
 |none=>rw[q]at e;cases e
 |some o=>
  rw[q]at e;have e':(b,o)=p:=mD e;subst e';exact⟨hb,q⟩
theorem Inv.pinned {pins:Pnn}{σ:St}{H:Hp}{s:ll}{fp:List lu}(I:Inv X pins σ H s)(hf:∀b∈fp,FpOk X pins H b)(ho:∀b∈fp,∃o,s.heap.get? b=uD o/\∀v,o.data≠.cell v):Inv X (pins++pinsAt fp s.heap) σ H s:=
 I.pins_of λp hp=>(lZ.mp hp).elim (λz=>I.pin p (lV _ z)) λz=>by
  obtain⟨hb,e⟩:=ziO_ z;obtain⟨f0,f1,f2,_⟩:=hf p.1 hb;obtain⟨o,e',d⟩:=ho p.1 hb;rw[e]at e';cases e';exact⟨e,f0,f1,f2,d⟩
theorem Inv.unpinned {pins pl:Pnn}{σ:St}{H:Hp}{s:ll}(I:Inv X (pins++pl) σ H s):Inv X pins σ H s:=I.pins_of λp hp=>I.pin p (lV _ (pb _ hp))
theorem zpc_ {iter:lN}{body:List me}{wi:TI}{g:TG}{tb:TS}{pos:Pos}(hp:PassesOwn (model X.prog X.w) X.A X.env X.xe)(hc:X.calm=uF)(hi:PI X tg iter wi)(hg:PG X tg g)(hb:PSs X body tb)
  (hs:∀x,foldedSetIterable iter X.env x=pure x:=by intro _;rfl):PS X (.For tg iter body [] pos) (tFor wi g tb):=by
 intro pins s σ H D I h;refine wpAny_For (thn (hi pins s σ H _ I h) λv s1 h1=>thn h1 λfD s2 h2=>?_) hs
 obtain⟨it,fp,tn,J,H2,e,I2,T,bx,f2,W,⟨m0,w0⟩,turn⟩:=h2;subst e;have aY:∀{H':Hp},(∀b∈fp,H' b=uE)->∀b∈fp,FpOk X pins H' b:=λhn b hb=>⟨hn b hb,(f2 b hb).2⟩
 refine codeAny_forLoop_any (λn s'=>∃i af H',Inv X pins af H' s'/\tn i s'.heap/\(∀b∈fp,H' b=uE)/\W i n af H') ?_ m0 ⟨0,σ,H2,I2,bx,λb hb=>(f2 b hb).1,w0⟩
 rintro n s3 ⟨i,aR,H3,I3,st3,fr3,w3⟩;rcases turn i n aR H3 w3 with⟨stop,qn⟩|⟨go,N,hN,step⟩
 ·refine ot hp (thn (T.done X rfl rfl rfl hc i pins s3 aR H3 X.xe I3 (aY fr3) st3 stop) λr s4 ab=>?_)
  obtain⟨hr,I4⟩:=ab;subst hr;exact wpAny_execs_nil ⟨aR,H3,I4,qn⟩
 ·refine ot hp (thn (T.item X rfl rfl rfl hc i pins s3 aR H3 X.xe I3 (aY fr3) st3 go) λr s4 ab=>?_)
  obtain⟨u,hr,h4⟩:=ab;subst hr;refine ot hp (thn h4 λ_ s5 ab=>?_)
  obtain⟨x,H5,I5,r5,y5,st5,fr5⟩:=ab;have g_:=I5.pinned (aY fr5) (T.obj _ _ st5);refine ot hp (thn (hg _ s5 aR H5 x u _ g_ r5 (step x H5 y5)) λ_ s6 ab=>?_)
  obtain⟨bW,H6,I6,q6⟩:=ab;refine ot hp (thn (hb _ s6 bW H6 _ I6 q6) λf s7 q7=>?_)
  have again:∀{bG:St}{H7:Hp},Inv X (pins++pinsAt fp s5.heap) bG H7 s7->N bG H7->∃m,m<n/\∃i af H',Inv X pins af H' s7/\tn i s7.heap/\(∀b∈fp,H' b=uE)/\W i m af H':=λ{bG H7} I7 n7=>by
   obtain⟨m',hm,w7⟩:=hN bG H7 n7;refine⟨m',hm,i+1,bG,H7,I7.unpinned,T.keep _ _ _ st5 λb hb o e=>(I7.pin (b,o) (lV _ (lV _ (zbT_ hb e)))).1,λb hb=>?_,w7⟩
   obtain⟨o,e,d⟩:=T.obj _ _ st5 b hb;exact(I7.pin (b,o) (lV _ (lV _ (zbT_ hb e)))).2.1
  cases f with
  |next=>obtain⟨bG,H7,I7,n7⟩:=q7;exact again I7 n7
  |cont=>obtain⟨bG,H7,I7,n7⟩:=q7;exact again I7 n7
  |brk=>obtain⟨bG,H7,I7,q7⟩:=q7;exact⟨bG,H7,I7.unpinned,q7⟩
  |ret v=>obtain⟨x7,bG,H7,I7,r7,q7⟩:=q7;exact⟨x7,bG,H7,I7.unpinned,r7,q7⟩
end
abbrev R2:=V->V->Hp->VK->Prop
def OpR (X:Cx)(f:aT->aT->Sem aT)(r:R2):Prop:=
 ∀(pins:Pnn) (s:ll) (σ:St) (H:Hp) (x y:V) (v u:aT) (Q:VK),Inv X pins σ H s->RelV x v->RelV y u->r x y H Q ->
  lU (model X.prog X.w) X.A (f v u) (EP X pins σ Q) X.xe s
def UnR (X:Cx)(f:aT->Sem aT)(r:V->Hp->VK->Prop):Prop:=
 ∀(pins:Pnn) (s:ll) (σ:St) (H:Hp) (x:V) (v:aT) (Q:VK),Inv X pins σ H s->RelV x v->r x H Q ->
  lU (model X.prog X.w) X.A (f v) (EP X pins σ Q) X.xe s
def CallR (X:Cx)(f:aT)(r:List V->Hp->VK->Prop):Prop:=
 ∀(pins:Pnn) (s:ll) (σ:St) (H:Hp) (xs:List V) (us:List aT) (Q:VK),Inv X pins σ H s->Vals xs us->r xs H Q ->
  lU (model X.prog X.w) X.A (call f us) (EP X pins σ Q) X.xe s
def tOp (r:R2)(ta tb:TE):TE:=λσ H Q=>ta σ H λx H1=>tb σ H1 λy H2=>r x y H2 Q
def rI (C:Int->Int->Prop)(g:Int->Int->V):R2:=λx y H Q=>∃i j,x=.int i/\y=.int j/\C i j/\Q (g i j) H
def rI0 (g:Int->Int->V):R2:=λx y H Q=>∃i j,x=.int i/\y=.int j/\Q (g i j) H
def rU (g:Int->V):V->Hp->VK->Prop:=λx H Q=>∃i,x=.int i/\Q (g i) H
section
variable {X:Cx}{a b:lN}{ta tb:TE}{pos:Pos}
theorem binT (ha:PE X a ta)(hb:PE X b tb){pins:Pnn}{s:ll}{σ:St}{H:Hp}{R:V->V->Hp->Prop}(I:Inv X pins σ H s)
  (h:ta σ H λx H1=>tb σ H1 λy H2=>R x y H2) {Q:aT->ll->Prop}{f:aT->aT->Sem aT}
  (hf:∀v u s2 x y H2,Inv X pins σ H2 s2->RelV x v->RelV y u->R x y H2->lU (model X.prog X.w) X.A (f v u) Q X.xe s2):
  lU (model X.prog X.w) X.A (eval a X.env) (λv ae=>lU (model X.prog X.w) X.A (eval b X.env) (λu aL=>lU (model X.prog X.w) X.A (f v u) Q X.xe aL) X.xe ae) X.xe s:=by
 refine thn (ha pins s σ H _ I h) λv s1 ab=>?_
 obtain⟨x,H1,I1,r1,q1⟩:=ab;refine thn (hb pins s1 σ H1 _ I1 q1) λu s2 ab=>?_
 obtain⟨y,H2,I2,r2,q2⟩:=ab;exact hf v u s2 x y H2 I2 r1 r2 q2
theorem pe_op {op:Operator}{r:R2}(ho:OpR X (nR op) r)(ha:PE X a ta)(hb:PE X b tb):PE X (.BinOp a op b pos) (tOp r ta tb):=by
 intro pins s σ H Q I h;exact wpAny_BinOp (binT ha hb I h λv u s2 x y H2 I2 rx ry q=>ho pins s2 σ H2 x y v u Q I2 rx ry q)
theorem opI {f:aT->aT->Sem aT}{C:Int->Int->Prop}{g:Int->Int->Int}
  (rule:∀(i j:Int) (t u:Tok) (s:ll) (Q:aT->ll->Prop) (E:aT->ll->Prop),C i j->Q (.int (g i j) s.toks) {s with toks:=s.toks+1}->lU (model X.prog X.w) X.A (f (.int i t) (.int j u)) Q E s):
  OpR X f (rI C λi j=>.int (g i j)):=by
 intro pins s σ H x y v u Q I rx ry h;obtain⟨i,j,rfl,rfl,hc,q⟩:=h;obtain⟨t,rfl⟩:=rx;obtain⟨t',rfl⟩:=ry;exact rule i j t t' s _ _ hc ⟨.int (g i j),H,I.tok _,⟨_,rfl⟩,q⟩
theorem opI0 {f:aT->aT->Sem aT}{g:Int->Int->Int}
  (rule:∀(i j:Int) (t u:Tok) (s:ll) (Q:aT->ll->Prop) (E:aT->ll->Prop),Q (.int (g i j) s.toks) {s with toks:=s.toks+1}->lU (model X.prog X.w) X.A (f (.int i t) (.int j u)) Q E s):
  OpR X f (rI0 λi j=>.int (g i j)):=by
 intro pins s σ H x y v u Q I rx ry h;obtain⟨i,j,rfl,rfl,q⟩:=h;obtain⟨t,rfl⟩:=rx;obtain⟨t',rfl⟩:=ry;exact rule i j t t' s _ _ ⟨.int (g i j),H,I.tok _,⟨_,rfl⟩,q⟩
theorem opB0 {f:aT->aT->Sem aT}{g:Int->Int->Bool}
  (rule:∀(i j:Int) (t u:Tok) (s:ll) (Q:aT->ll->Prop) (E:aT->ll->Prop),Q (.bool (g i j)) s->lU (model X.prog X.w) X.A (f (.int i t) (.int j u)) Q E s):
  OpR X f (rI0 λi j=>.bl (g i j)):=by
 intro pins s σ H x y v u Q I rx ry h;obtain⟨i,j,rfl,rfl,q⟩:=h;obtain⟨t,rfl⟩:=rx;obtain⟨t',rfl⟩:=ry;exact rule i j t t' s _ _ ⟨.bl (g i j),H,I,rfl,q⟩
def CDiv (i j:Int):Prop:=0<j/\j<1073741824
def CPow (i j:Int):Prop:=0<=j/\j<=1000000/\i.natAbs<2 ^ 64
def CMul (i j:Int):Prop:=(-(2 ^ 64)<i/\i<2 ^ 64)\/(-(2 ^ 64)<j/\j<2 ^ 64)
theorem CMul.ok {i j:Int}(h:CMul i j):IntMulOk i j:=by
 rcases h with⟨h1,h2⟩|⟨h1,h2⟩
 ·exact .of_left (intBits_le_64 h1 h2)
 ·exact .of_right (intBits_le_64 h1 h2)
theorem zry_:OpR X (nR .Add) (rI0 λi j=>.int (i+j)):=opI0 λ_ _ _ _ _ _ _ q=>add_int q
theorem zq0_:OpR X (nR .Sub) (rI0 λi j=>.int (i-j)):=opI0 λ_ _ _ _ _ _ _ q=>sub_int q
theorem zpe_:OpR X (nR .Mod) (rI (λ_ j=>0<j) λi j=>.int (i % j)):=opI λi j _ _ _ _ _ hc q=>by
 have h1:(0:Int)<j:=hc;exact mod_int' (by lia) (by rw[Int.fmod_eq_emod_of_nonneg i (by lia)];exact q)
theorem unI {f:aT->Sem aT}{g:Int->Int}
  (rule:∀(i:Int) (t:Tok) (s:ll) (Q:aT->ll->Prop) (E:aT->ll->Prop),Q (.int (g i) s.toks) {s with toks:=s.toks+1}->lU (model X.prog X.w) X.A (f (.int i t)) Q E s):
  UnR X f (rU λi=>.int (g i)):=by
 intro pins s σ H x v Q I rx h;obtain⟨i,rfl,q⟩:=h;obtain⟨t,rfl⟩:=rx;exact rule i t s _ _ ⟨.int (g i),H,I.tok _,⟨_,rfl⟩,q⟩
theorem zrr_:UnR X (unaryOp .USub) (rU λi=>.int (-i)):=unI λ_ _ _ _ _ q=>neg_int q
theorem zit_ {pins:Pnn}{σ:St}{H:Hp}{s:ll}{Q:VK}{k k':Bool}(I:Inv X pins σ H s)(q:Q (.bl k) H)(e:k=k'):EP X pins σ Q (.bool k') s:=by
 subst e;exact⟨.bl k,H,I,rfl,q⟩
theorem op_lt:OpR X (lX .Lt) (rI0 λi j=>.bl (decide (i<j))):=opB0 λ_ _ _ _ _ _ _ q=>lt_int q
theorem op_le:OpR X (lX .LtE) (rI0 λi j=>.bl (decide (i<=j))):=opB0 λ_ _ _ _ _ _ _ q=>le_int q
theorem op_gt:OpR X (lX .Gt) (rI0 λi j=>.bl (decide (j<i))):=opB0 λ_ _ _ _ _ _ _ q=>gt_int q
theorem op_ge:OpR X (lX .GtE) (rI0 λi j=>.bl (decide (j<=i))):=opB0 λ_ _ _ _ _ _ _ q=>ge_int q
theorem ziZ_:OpR X (lX .In) (λx y H Q=>∃i j,x=.str i/\y=.str j/\Q (.bl (!(oH j i 0 j.length 1).isEmpty)) H):=by
 intro pins s σ H x y v u Q I rx ry h;obtain⟨i,j,rfl,rfl,q⟩:=h;obtain⟨t,rfl⟩:=rx;obtain⟨t',rfl⟩:=ry;exact in_str (zit_ I q rfl)
theorem zqG_:OpR X (lX .Is) (λx y H Q=>y=.non/\Q (.bl (decide (x=.non))) H):=by
 intro pins s σ H x y v u Q I rx ry h;obtain⟨rfl,q⟩:=h;cases ry;refine is_none_gen (zit_ I q ?_)
 cases x<;>first
  |(cases rx;rfl)
  |(obtain⟨t,rfl⟩:=rx;rfl)
theorem zm3_:OpR X (lX .IsNot) (λx y H Q=>y=.non/\Q (.bl (!decide (x=.non))) H):=by
 intro pins s σ H x y v u Q I rx ry h;obtain⟨rfl,q⟩:=h;cases ry;refine isnot_none_gen (zit_ I q ?_)
 cases x<;>first
  |(cases rx;rfl)
  |(obtain⟨t,rfl⟩:=rx;rfl)
theorem zey_:OpR X (lX .NotIn) (λx y H Q=>∃i j,x=.str i/\y=.str j/\Q (.bl (!(!(oH j i 0 j.length 1).isEmpty))) H):=by
 intro pins s σ H x y v u Q I rx ry h;obtain⟨i,j,rfl,rfl,q⟩:=h;obtain⟨t,rfl⟩:=rx;obtain⟨t',rfl⟩:=ry;exact notIn_str (zit_ I q rfl)
theorem znf_ {op:CmpOp}{r:R2}(ho:OpR X (lX op) r)(ha:PE X a ta)(hb:PE X b tb)(hm:behindInMarks op b=uG):PE X (.Compare a [op] [b] pos) (tOp r ta tb):=by
 intro pins s σ H Q I h;exact wpAny_Compare1 (binT ha hb I h λv u s2 x y H2 I2 rx ry q=>ho pins s2 σ H2 x y v u Q I2 rx ry q) hm
theorem line63:(lE:Nat)<2 ^ 63:=by rw[sizeLine_eq];decide
theorem zgi_:OpR X (nR .Add) (λx y H Q=>∃i j,x=.str i/\y=.str j/\i.length+j.length<=lE/\Q (.str (i++j)) H):=by
 intro pins s σ H x y v u Q I rx ry h;obtain⟨i,j,rfl,rfl,hz,q⟩:=h;obtain⟨t,rfl⟩:=rx;obtain⟨t',rfl⟩:=ry;exact add_str (λt' tk=>⟨.str (i++j),H,I.tok _,⟨_,rfl⟩,q⟩) hz
theorem vals1 {x:V}{us:List aT}(r:Vals [x] us):∃u,us=[u]/\RelV x u:=by
 cases r with
 |cons r1 r2=>cases r2;exact⟨_,rfl,r1⟩
theorem vals2 {x y:V}{us:List aT}(r:Vals [x,y] us):∃u w',us=[u,w']/\RelV x u/\RelV y w':=by
 cases r with
 |cons r1 r2=>
  cases r2 with
  |cons r3 r4=>cases r4;exact⟨_,_,rfl,r1,r3⟩
theorem ziM_ (hc:X.calm=uF):CallR X (.builtin "min") (λxs H Q=>∃i j,xs=[.int i,.int j]/\Q (.int (if j<i then j else i)) H):=by
 intro pins s σ H xs us Q I r h;obtain⟨i,j,rfl,q⟩:=h;obtain⟨u,w',rfl,⟨t,rfl⟩,⟨t',rfl⟩⟩:=vals2 r;refine min_two_ints (I.ok.hd hc) λh' tk k=>⟨_,H,I.kept k,?_,q⟩
 by_cases hj:j<i
 ·rw[if_pos hj,if_pos hj];exact⟨_,rfl⟩
 ·rw[if_neg hj,if_neg hj];exact⟨_,rfl⟩
end
structure ObjM (h:Heap)(x dx C:lu)(mA:Str->Option aT):Prop where
 obj:h.get? x=uD (pS C dx)
 ns:h.Ns1 dx mA
 ne:dx≠x
theorem zik_ {h:Heap}{dx:lu}{mA:Str->Option aT}(n:h.Ns1 dx mA):∃od,h.get? dx=uD od/\∀name,ui name od=uD (mA name):=by
 obtain⟨o,es,ep,ho,hd,hk,_,hm⟩:=n;refine⟨o,ho,λname=>?_⟩
 have e:=hm name;unfold nsFind findBy at e;rw[<- Array.find?_toList]at e;unfold ui;rw[hd];dsimp only;split
 ·rename_i y q
  rw[q]at e;exact congrArg uD e
 ·rename_i q
  rw[q]at e;have a:es.toList.any (·.refKey)=uG:=by
   rw[List.any_eq_false];intro y hy;obtain⟨z,t,hkey⟩:=hk y (Array.mem_toList_iff.mp hy);simp[DictEntry.refKey,hkey]
  have a':¬es.toList.any (·.refKey)=uF:=by rw[a];exact mO
  rw[if_neg a'];exact congrArg uD e
theorem ObjM.look {h:Heap}{x dx C:lu}{mA:Str->Option aT}(I:ObjM h x dx C mA):∃od,W.InstAt h x (pS C dx) C (uD od)/\∀name,ui name od=uD (mA name):=
 let⟨od,ho,hl⟩:=zik_ I.ns
 ⟨od,⟨I.obj,rfl,rfl,ho⟩,hl⟩
section
variable {prog:lY}{w:mq}{A:mG}{E:aT->ll->Prop}{s:ll}{K:Fgg}{x dx C f:lu}{mA:Str->Option aT}{name:Str}{v:aT}
theorem zn2_ {expr:Bool}{Q:aT->ll->Prop}(X:K.In s.heap)(I:ObjM s.heap x dx C mA)(hg:qy K C name=uF)(hh:qe K C=uF)
  (ha:nW K (.ref C) name=uD uE) (hv:mA name=uD v) (dY:W.handedIn v=uF) (h:Q v {s with toks:=s.toks+1}):
  lU (model prog w) A (getAttr (.ref x) name expr) Q E s:=by
 obtain⟨od,J,hl⟩:=I.look;exact W.get_value X J (W.plainGet_of hg).1 (W.findObj_own hh ha rfl (by rw[hl,hv])) dY h
theorem zoB_ {ns:List Str}{Q:Unit->ll->Prop}(X:K.In s.heap)(I:ObjM s.heap x dx C mA)
  (hs:nW K (.ref C) "__setattr__"=uD (uD (.builtin "object.__setattr__"))) (hp:qO K C=uF) (ht:sM K C name=uD uE) (hh:qe K C=uF)
  (hw:qx mA ns) (hsz:ns.length<=lE)
  (h:∀h',ObjM h' x dx C (λy=>if y=name then uD v else mA y)->pf dx s.heap h'->Q () {s with heap:=h',toks:=s.toks+2}):
  lU (model prog w) A (setAttr (.ref x) name v) Q E s:=by
 obtain⟨od,J,hl⟩:=I.look;refine W.set_plain X J hs (W.osa_open (s:={s with toks:=s.toks+1}) (r:=uE) X J hp ht λb=>?_)
 obtain⟨cd,hc,hd'⟩:=W.any_some hh;have hx:s.heap.get? x=uD ⟨.ref C,uD dx,.plain,#[]⟩:=I.obj;refine lg (lK (lg (lg (wpAny_loadPart hx (lg (W.Looks.here (s:={s with toks:=s.toks+1}) (W.looks_clsIn X hc) ?_))))));rw[hd'];refine lK (a:=uD dx) (lg (lK (lg ?_)));refine wpAny_nsSet1 (s:={s with toks:=s.toks+1}) I.ns λh' fG aO=>?_
 obtain⟨oD,esD,epD,hoD,hdD,hcD⟩:=fG.count (uA name v hw);refine lg (wpAny_lookBehind hoD (by rw[hdD];exact pastItsLine_dict (ni hcD (by rw[ly];lia))) ?_)
 exact lK (h _ ⟨(aO.2 _ (pV I.ne)).trans I.obj,fG,I.ne⟩ aO)
theorem zly_ {R:Result->ll->Prop}{vs:List aT}{kw:List (Str×aT)}(X:K.In s.heap)(hm:rF K C=uF)
  (hi:nW K (.ref C) "__init__"=uD (uD (.ref f))) (hf:W.typeIn K (.ref f)=uD (.type "function"))
  (h:codeAny (model prog w) (A.under (.builtin "type.__call__" ⟨.ref C::vs,kw⟩)) (.call (.ref f) ⟨.ref (s.heap.objs.size+1)::vs,kw⟩) (W.InitBack (s.heap.objs.size+1) R)
   {s with heap:=(s.heap.push oM).push (pS C s.heap.objs.size)}):
  codeAny (model prog w) A (.call (.ref C) ⟨vs,kw⟩) R s:=by
 obtain⟨hh,g,d,t,os⟩:=s;exact W.make_core (W.makes_of X hm) (W.looks_findIn X hi) (λself=>W.bind_fn X self hf) (.inl rfl) h
end
noncomputable def putF (f:Str)(v:V):List (Str×V)->List (Str×V)
 |[]=>[(f,v)]
 |(g,x)::r=>if g=f then(g,v)::r else(g,x)::putF f v r
theorem zdg_ (f g:Str)(v:V):∀fs:List (Str×V),(putF f v fs).lookup g=if g=f then uD v else fs.lookup g
 |[]=>by
  show pM g [(f,v)]=_
  by_cases h:g=f
  ·have hb:(g == f)=uF:=beq_iff_eq.mpr h
   simp only[pM,hb,if_pos h]
  ·have hb:(g == f)=uG:=beq_eq_false_iff_ne.mpr h
   simp only[pM,hb,if_neg h]
 |(k,x)::r=>by
  have ih:=zdg_ f g v r;rw[show putF f v ((k,x)::r)=(if k=f then(k,v)::r else(k,x)::putF f v r)from rfl]
  by_cases hk:k=f
  ·rw[if_pos hk]
   by_cases h:g=k
   ·have hb:(g == k)=uF:=beq_iff_eq.mpr h
    simp only[pM,hb,if_pos (h.trans hk)]
   ·have hb:(g == k)=uG:=beq_eq_false_iff_ne.mpr h
    simp only[pM,hb,if_neg (λe:g=f=>h (e.trans hk.symm))]
  ·rw[if_neg hk]
   by_cases h:g=k
   ·have hb:(g == k)=uF:=beq_iff_eq.mpr h
    simp only[pM,hb,if_neg (λe:g=f=>hk (h.symm.trans e))]
   ·have hb:(g == k)=uG:=beq_eq_false_iff_ne.mpr h
    simp only[pM,hb];exact ih
theorem zdN_ (f:Str)(v:V):∀fs:List (Str×V),f∈(putF f v fs).map (·.1)/\∀g,g∈fs.map (·.1)->g∈(putF f v fs).map (·.1)
 |[]=>⟨by simp[putF],λg h=>by simp at h⟩
 |(k,x)::r=>by
  obtain⟨i1,i2⟩:=zdN_ f v r;rw[show putF f v ((k,x)::r)=(if k=f then(k,v)::r else(k,x)::putF f v r)from rfl]
  by_cases hk:k=f
  ·rw[if_pos hk]
   subst hk;exact⟨by simp,λg h=>by simpa using h⟩
  ·rw[if_neg hk]
   refine⟨?_,λg h=>?_⟩
   ·rw[lq]
    exact lQ _ i1
   ·rw[lq]at h ⊢
    rcases lC.mp h with e |e
    ·exact lC.mpr (.inl e)
    ·exact lQ _ (i2 g e)
theorem zdh_ (f:Str)(v:V):∀fs:List (Str×V),(putF f v fs).length<=fs.length+1
 |[]=>by simp[putF]
 |(k,x)::r=>by
  have ih:=zdh_ f v r;rw[show putF f v ((k,x)::r)=(if k=f then(k,v)::r else(k,x)::putF f v r)from rfl]
  by_cases hk:k=f
  ·rw[if_pos hk,ly,ly];lia
  ·rw[if_neg hk,ly,ly];lia
theorem RelO.some_of {v:V}{o:Option aT}(r:RelO (uD v) o):∃u,o=uD u/\RelV v u:=by
 cases o with
 |none=>exact(show False from r).elim
 |some u=>exact⟨u,rfl,r⟩
theorem ziC_ {v:V}{u:aT}(r:RelV v u):W.handedIn u=uF:=by
 cases v with
 |non=>cases(show u=q9 from r);rfl
 |bl b=>cases(show u=oY b from r);rfl
 |int i=>obtain⟨t,e⟩:=(show∃t,u=ql i t from r);cases e;rfl
 |str x=>obtain⟨t,e⟩:=(show∃t,u=pL x t from r);cases e;rfl
 |byt b=>obtain⟨t,e⟩:=(show∃t,u=uh b t from r);cases e;rfl
 |flt b=>obtain⟨t,e⟩:=(show∃t,u=rS b t from r);cases e;rfl
 |ref a=>cases(show u=mS a from r);rfl
 |ty n=>cases(show u=uy n from r);rfl
section
variable {P:lY}{w:mq}{H:Hp}{h:Heap}{a C dx:lu}{fs:List (Str×V)}
theorem zhK_ (hok:HOk P w H h)(e:H a=uD (.ins C dx fs)):∃mA,ObjM h a dx C mA/\(∀f,RelO (fs.lookup f) (mA f))/\qx mA (fs.map (·.1))/\fs.length<=1000/\H dx=uD (.own a):=by
 obtain⟨d,z,ne,ob,mA,n,r,q⟩:=(show ObjOk P w H h a (.ins C dx fs)from hok a _ e)
 exact⟨mA,⟨ob,n,ne⟩,r,q,z,d⟩
end
structure Cls (K:Fgg)(C:lu):Prop where
 pg:qy K C sO=uF
 hd:qe K C=uF
 po:qO K C=uF
 sa:nW K (.ref C) "__setattr__"=uD (uD (.builtin "object.__setattr__"))
theorem Cls.get {K:Fgg}{C:lu}(c:Cls K C)(f:Str):qy K C f=uF:=c.pg
def NoAttr (K:Fgg)(C:lu)(f:Str):Prop:=nW K (.ref C) f=uD uE
theorem NoAttr.taker {K:Fgg}{C:lu}{f:Str}(n:NoAttr K C f):sM K C f=uD uE:=by
 unfold sM;rw[show nW K (.ref C) f=uD uE from n]
 rfl
section
variable {X:Cx}{pins:Pnn}{σ:St}{H:Hp}{s:ll}{a C dx:lu}{fs:List (Str×V)}{f:Str}{v:V}{A:mG}{E:aT->ll->Prop}
theorem zhT_ {b:Bool}{Q:aT->ll->Prop}(I:Inv X pins σ H s)(e:H a=uD (.ins C dx fs))(c:Cls X.K C)(n:NoAttr X.K C f)(l:fs.lookup f=uD v)
  (h:∀u s',Inv X pins σ H s'->RelV v u->Q u s'):lU (model X.prog X.w) A (getAttr (.ref a) f b) Q E s:=by
 obtain⟨mA,O,r,_,_,_⟩:=zhK_ I.hok e;obtain⟨u,hu,ru⟩:=RelO.some_of (v:=v) (o:=mA f) (by rw[<- l];exact r f)
 exact zn2_ I.kIn O (c.get f) c.hd n hu (ziC_ ru) (h u _ (I.tok _) ru)
theorem zg5_ {y:V}{u:aT}{Q:Unit->ll->Prop}(I:Inv X pins σ H s)(e:H a=uD (.ins C dx fs))(c:Cls X.K C)(n:NoAttr X.K C f)(hl:fs.length<1000)(ry:RelV y u)
  (h:∀s',Inv X pins σ (upd H a (.ins C dx (putF f y fs))) s'->Q () s'):lU (model X.prog X.w) A (setAttr (.ref a) f u) Q E s:=by
 obtain⟨mA,O,r,wi,_,ho⟩:=zhK_ I.hok e;have hz:(fs.map (·.1)).length<=lE:=by rw[k8,sizeLine_eq];lia
 refine zoB_ I.kIn O c.sa c.po n.taker c.hd wi hz λh' O' sb=>h _ ?_
 have hd:∃o,h'.get? dx=uD o:=let⟨o,_,_,e',_⟩:=O'.ns;⟨o,e'⟩
 refine I.write (x:=a) (e:=dx) (by rw[e];exact nX) (.inr ho) (λb q hb z=>(sb.2 b hb).trans z) hd ?_
 refine⟨by rw[zR_ O.ne];exact ho,?_,O.ne,O'.obj,_,O'.ns,λg=>?_,λg hg=>?_⟩
 ·have:=zdh_ f y fs;lia
 ·show RelO ((putF f y fs).lookup g) (if g=f then uD u else mA g)
  rw[zdg_];by_cases q:g=f
  ·rw[if_pos q,if_pos q];exact ry
  ·rw[if_neg q,if_neg q];exact r g
 ·by_cases q:g=f
  ·rw[q];exact(zdN_ f y fs).1
  ·refine(zdN_ f y fs).2 g (wi g λz=>hg ?_)
   show(if g=f then uD u else mA g)=uE
   rw[if_neg q];exact z
theorem Inv.made (I:Inv X pins σ H s):Inv X pins σ (upd (upd H s.heap.objs.size (.own (s.heap.objs.size+1))) (s.heap.objs.size+1) (.ins C s.heap.objs.size []))
  {s with heap:=(s.heap.push oM).push (pS C s.heap.objs.size)}:=by
 have e1:(s.heap.push oM).get? s.heap.objs.size=uD oM:=lI s.heap rfl;have e2:((s.heap.push oM).push (pS C s.heap.objs.size)).get? (s.heap.objs.size+1)=uD (pS C s.heap.objs.size):=by
  have:=lI (s.heap.push oM) (o:=pS C s.heap.objs.size) rfl;rwa[nY]at this
 have e3:(s.heap.push oM).Ns s.heap.objs.size (λ_=>uE):=⟨oM,#[],_,e1,rfl,(λe he=>absurd he (by simp)),λ_=>rfl⟩
 have I1:=I.laid (a:=s.heap.objs.size) (o:=.own (s.heap.objs.size+1)) (h':=s.heap.push oM) (t':=s.toks) (λb u q=>lh _ q) (lp _) ⟨_,e1⟩
 refine I1.laid (a:=s.heap.objs.size+1) (o:=.ins C s.heap.objs.size []) (t':=s.toks) (λb u q=>lh _ q) (qz (nY _ _)) ?_
 have ne:s.heap.objs.size≠s.heap.objs.size+1:=mm (pj _);refine⟨by rw[zR_ ne,zH_],ny _,ne,e2,λ_=>uE,(Heap.Ns1.of_empty e3).at λo q=>lh _ q,λ_=>nX,λy hy=>absurd rfl hy⟩
theorem zmr_ {prog:lY}{w:mq}{env:Env}{e:lN}{f:Str}{pos:Pos}{s:ll}{Q:aT->ll->Prop}(hb:attributeBase e f env (eval e env)=eval e env)
  (h:lU (model prog w) A (eval e env) (λo ae=>lU (model prog w) A (getAttr o f uF) Q E ae) E s):lU (model prog w) A (eval (.Attribute e f pos) env) Q E s:=
 Attribute_any_ h (by rw[arm_eval_Attribute,hb])
end
section
variable {X:Cx}{pins:Pnn}{σ:St}{H:Hp}{s:ll}{A:mG}{E Q:aT->ll->Prop}{c:aT}{b:Bool}
inductive TyOf (K:Fgg) (H:Hp):V->aT->Prop where
 |non:TyOf K H .non (.type "NoneType")
 |bl (x:Bool):TyOf K H (.bl x) (.type "bool")
 |int (i:Int):TyOf K H (.int i) (.type "int")
 |str (x:Str):TyOf K H (.str x) (.type "str")
 |flt (x:UInt64):TyOf K H (.flt x) (.type "float")
 |lst {a:lu}{xs:List V}(e:H a=uD (.lst xs)):TyOf K H (.ref a) (.type "list")
 |frz {a:lu}{o:tP}{xs:List V}(e:H a=uD (.frz o (.lst xs))):TyOf K H (.ref a) (.type "list")
 |tup {a:lu}{xs:List V}(e:H a=uD (.tup xs)):TyOf K H (.ref a) (.type "tuple")
 |dK {a:lu}{kvs:List (Key×V)}(e:H a=uD (.dK kvs)):TyOf K H (.ref a) (.type "dict")
 |dT {a:lu}{kvs:List (List Key×V)}(e:H a=uD (.dT kvs)):TyOf K H (.ref a) (.type "dict")
 | ins {a C dx:lu}{fs:List (Str×V)}(e:H a=uD (.ins C dx fs)) (cl:Cls K C) (ha:nW K (.ref C) "__class__"=uD (uD (.builtin "object.__class__")))
   (hn:rV K (.builtin "object.__class__") "__get__"=uD (uD (.builtin "getset_descriptor.__get__"))) (iw:W.takesIn K (.builtin "object.__class__")=uD uF)
   (hm:W.mroIn K C (.type "object")=uD uF):TyOf K H (.ref a) (.ref C)
theorem zil_ {x:V}{u t:aT}(I:Inv X pins σ H s)(rx:RelV x u)(ty:TyOf X.K H x t)(e:uj X.K t c=uD b)(h:∀tk,Q (.bool b) {s with toks:=tk}):
  lU (model X.prog X.w) A (call (.builtin "isinstance") [u,c]) Q E s:=by
 cases ty with
 |non=>cases(show u=q9 from rx);exact oV W.kitx_none I.kIn nX e (λz=>nomatch z) h
 |bl y=>cases(show u=oY y from rx);exact oV W.kitx_bool I.kIn nX e (λz=>nomatch z) h
 |int i=>obtain⟨t,q⟩:=(show∃t,u=ql i t from rx);cases q;exact oV W.kitx_int I.kIn nX e (λz=>nomatch z) h
 |str y=>obtain⟨t,q⟩:=(show∃t,u=pL y t from rx);cases q;exact oV W.kitx_str I.kIn nX e (λz=>nomatch z) h
 |flt y=>obtain⟨t,q⟩:=(show∃t,u=rS y t from rx);cases q;exact oV W.kitx_float I.kIn nX e (λz=>nomatch z) h
 | @lst a xs ea=>
  cases(show u=mS a from rx)
  obtain⟨_,_,n,_,h1⟩:=(show ObjOk X.prog X.w H s.heap a (.lst xs)from I.hok a _ ea)
  exact oV W.kitx_list I.kIn ⟨_,h1,rfl⟩ e (λz=>nomatch z) h
 | @frz a ob xs ea=>
  cases(show u=mS a from rx)
  obtain⟨_,_,_,n,_,h1⟩:=(show ObjOk X.prog X.w H s.heap a (.frz ob (.lst xs))from I.hok a _ ea)
  exact oV W.kitx_list I.kIn ⟨_,h1,rfl⟩ e (λz=>nomatch z) h
 | @tup a xs ea=>
  cases(show u=mS a from rx)
  obtain⟨_,_,_,p⟩:=(show ObjOk X.prog X.w H s.heap a (.tup xs)from I.hok a _ ea)
  obtain⟨o,h1,h2,_⟩:=p;exact oV W.kitx_tuple I.kIn ⟨o,h1,h2⟩ e (λz=>nomatch z) h
 | @dK a kvs ea=>
  cases(show u=mS a from rx)
  obtain⟨_,_,vs,_,p⟩:=(show ObjOk X.prog X.w H s.heap a (.dK kvs)from I.hok a _ ea)
  obtain⟨o,es,ep,h1,h2,_⟩:=p;exact oV W.kitx_dict I.kIn ⟨o,h1,h2.1⟩ e (λz=>nomatch z) h
 | @dT a kvs ea=>
  cases(show u=mS a from rx)
  obtain⟨_,_,xs,_,o,es,ep,h1,h2,_⟩:=(show ObjOk X.prog X.w H s.heap a (.dT kvs)from I.hok a _ ea)
  exact oV W.kitx_dict I.kIn ⟨o,h1,h2.1⟩ e (λz=>nomatch z) h
 | @ins a C dx fs ea cl ha hn iw hm=>
  cases(show u=mS a from rx)
  obtain⟨mA,O,_⟩:=zhK_ I.hok ea;obtain⟨od,J,_⟩:=O.look;exact oV (W.kitx_own (cl.get _) cl.hd ha hn iw hm) I.kIn J e (λz=>nomatch z) h
end
structure Room (k:Nat)(A:mG):Prop where
 hd:A.handled=uE
 dp:A.depth+3*k+5<recursionLimit
 un:A.units+16*k+200<cLine
theorem Room.mono {j k:Nat}{A:mG}(r:Room k A)(h:j<=k):Room j A:=⟨r.hd,by have:=r.dp;lia,by have:=r.un;lia⟩
theorem Room.deeper {k:Nat}{A:mG}(r:Room (k+1) A)(env:Env):Room k (A.deeper env):=
 ⟨r.hd,by have:=r.dp;show A.depth+1+3*k+5<_;lia,by have:=r.un;show A.units+3+16*k+200<_;lia⟩
theorem zgn_ {A:mG}{C:lu}{us:List aT}{kw:List (Str×aT)}:(A.under (.builtin "type.__call__" ⟨.ref C::us,kw⟩)).depth=A.depth+1:=by
 first |rfl |simp[Around.under,Code.weight,Code.isCreation,Code.isGuard,Code.isCaller,Code.frames,Code.isFrame,guardIds]
theorem zgd_ {A:mG}{C:lu}{us:List aT}{kw:List (Str×aT)}:(A.under (.builtin "type.__call__" ⟨.ref C::us,kw⟩)).units=A.units+1:=by
 first |rfl |simp[Around.under,Code.cUnits,Code.frames,Code.isFrame]
theorem Room.make {k:Nat}{A:mG}(r:Room (k+1) A)(C:lu)(us:List aT)(kw:List (Str×aT)):Room k (A.under (.builtin "type.__call__" ⟨.ref C::us,kw⟩)):=
 ⟨r.hd,by have:=r.dp;rw[zgn_];lia,by have:=r.un;rw[zgd_];lia⟩
theorem Room.depth {k:Nat}{A:mG}(r:Room k A):A.depth<recursionLimit:=by have:=r.dp;lia
def tNil:TA:=λ_ H Q=>Q [] H
def tCons (ta:TE)(tr:TA):TA:=λσ H Q=>ta σ H λx H1=>tr σ H1 λxs H2=>Q (x::xs) H2
section
variable {X:Cx}{e:lN}{es:List lN}{te:TE}{t:TA}{pos:Pos}
theorem zih_:PA X [] tNil:=λ_ _ _ _ H Q I h=>Calls.spliced_nil ⟨[],H,I,.nil,h⟩
theorem zdb_ (ha:PE X e te)(hr:PA X es t)(hs:l7 (e::es) X.env=(uG,eval e X.env)::l7 es X.env:=by rfl):PA X (e::es) (tCons te t):=by
 intro pos pins s σ H Q I h;rw[hs];show lU _ _ (spliced ((uG,eval e X.env)::oP pos (l7 es X.env))) _ _ s
 refine Calls.spliced_cons (thn (ha pins s σ H _ I h) λu s1 ab=>?_)
 obtain⟨x,H1,I1,r1,q1⟩:=ab;exact thn (hr pos pins s1 σ H1 _ I1 q1) λus s2 ⟨xs,H2,I2,r2,q2⟩=>⟨x::xs,H2,I2,.cons r1 r2,q2⟩
def tTup (t:TA):TE:=λσ H Q=>t σ H λxs H1=>xs.length<=lE/\∀p,H1 p=uE->Q (.ref p) (upd H1 p (.tup xs))
def tLst (t:TA):TE:=λσ H Q=>t σ H λxs H1=>xs.length<=lE/\∀p,H1 p=uE->Q (.ref p) (upd H1 p (.lst xs))
theorem zpL_ {x1}(h:PA X es t):PE X (.Tuple es x1 pos) (tTup t):=by
 intro pins s σ H Q I hq;refine wpAny_Tuple_spliced (thn (h pos pins s σ H _ I hq) λus s1 ⟨xs,H1,I1,r,z,q⟩=>⟨by rw[<- r.length];exact z,?_⟩)
 have hf:H1 s1.heap.objs.size=uE:=I1.hok.fresh (lp _);refine⟨.ref s1.heap.objs.size,upd H1 s1.heap.objs.size (.tup xs),I1.laid (t':=s1.toks) (λb u e=>lh _ e) (lp _) ?_,rfl,q _ hf⟩
 exact⟨z,us,r,⟨_,lI _ rfl,rfl,_,rfl⟩⟩
theorem zp4_ (h:PA X es t):PE X (.List es pos) (tLst t):=by
 intro pins s σ H Q I hq;refine wpAny_List_spliced (thn (h pos pins s σ H _ I hq) λus s1 ⟨xs,H1,I1,r,z,q⟩=>⟨by rw[<- r.length];exact z,?_⟩)
 have hf:H1 s1.heap.objs.size=uE:=I1.hok.fresh (lp _);refine⟨.ref s1.heap.objs.size,upd H1 s1.heap.objs.size (.lst xs),I1.laid (t':=s1.toks) (λb u e=>lh _ e) (lp _) ?_,rfl,q _ hf⟩
 exact⟨z,us,0,r,lI _ rfl⟩
end
abbrev Sp:=List V->Hp->VK->XK->Prop
abbrev CXT:=List Env->Hp->ll->XK->aT->ll->Prop
structure Env0 (P:lY)(w:mq)(K:Fgg)(mg:Str->Option aT)(base:Heap)(A:mG)(outer:List Env)(s:ll)(H:Hp):Prop where
 frames:A.frames=uD outer
 mod:Mod K mg base
 bs:∀b o,base.get? b=uD o->s.heap.get? b=uD o/\H b=uE
 bsz:base.objs.size<=s.heap.objs.size
 funs:s.heap.FunFrames base outer
 frf:∀b∈frs outer,H b=uE
 hok:HOk P w H s.heap
 bare:AllBare s.gens
def CE (outer:List Env)(P:lY)(w:mq)(H:Hp)(s:ll)(Q:VK)(u:aT)(s':ll):Prop:=
 ∃v H',s'.os=s.os/\AllBare s'.gens/\Un (frs outer) [] H H' s.heap s'.heap/\HOk P w H' s'.heap/\RelV v u/\Q v H'
def CR (CX:CXT)(outer:List Env)(P:lY)(w:mq)(H:Hp)(s:ll)(Q:VK)(E:XK)(r:Result)(s':ll):Prop:=
 match r with
 |.ok (.ret u)=>CE outer P w H s Q u s'
 |.ok _=>False
 |.error e=>CX outer H s E e s'
structure FnOk (P:lY)(w:mq)(K:Fgg)(mg:Str->Option aT)(base:Heap)(CX:CXT)(k:Nat)(f:lu)(fd:mW)(ps:List Str)(sp:Sp):Prop where
 len:∀vs H Q E,sp vs H Q E->vs.length=ps.length
 run:∀(A:mG) (outer:List Env) (s:ll) (H:Hp) (args:Args) (us:List aT) (vs:List V) (Q:VK) (E:XK),Room k A->Env0 P w K mg base A outer s H->BindsTo s fd args (ps.zip us)->Vals vs us->sp vs H Q E ->
  codeAny (model P w) A (.call (.ref f) args) (CR CX outer P w H s Q E) s
theorem Env0.make {P:lY}{w:mq}{K:Fgg}{mg:Str->Option aT}{base:Heap}{A:mG}{outer:List Env}{s:ll}{H:Hp}(e:Env0 P w K mg base A outer s H)(C:lu)(us:List aT)(kw:List (Str×aT)):
  Env0 P w K mg base (A.under (.builtin "type.__call__" ⟨.ref C::us,kw⟩)) outer s H:=⟨by first |exact e.frames |(simpa [Around.under,Code.envs,Code.isFrame,pushEnvs]using e.frames),e.mod,e.bs,e.bsz,e.funs,e.frf,e.hok,e.bare⟩
section
variable {X:Cx}{pins:Pnn}{σ:St}{H:Hp}{s s':ll}
theorem Inv.env0 (I:Inv X pins σ H s):Env0 X.prog X.w X.K X.mg X.base X.A X.stack s H:=
 ⟨I.ok.frames,I.ok.mod,I.bs,ni I.ok.bsz I.sz,I.stack,I.stkFree,I.hok,I.bare⟩
theorem Inv.after {Q:VK}{u:aT}(I:Inv X pins σ H s)(h:CE X.stack X.prog X.w H s Q u s'):EP X pins σ Q u s':=by
 obtain⟨v,H',os,bare,un,hok,r,q⟩:=h;obtain⟨hh,g,d,t,aF⟩:=s';obtain rfl:aF=s.os:=os;exact⟨v,H',I.call (h':=hh) (g':=g) (d':=d) (t':=t) (ch:=[]) un hok bare (λb z=>absurd z (by simp)),r,q⟩
end
def tCall (sp:Sp)(aw:List V)(E:XK)(t:TA):TE:=λσ H Q=>t σ H λvs H1=>sp (vs++aw) H1 Q E
def tMake (C:lu)(sp:Sp)(aw:List V)(E:XK)(t:TA):TE:=λσ H Q=>t σ H λvs H1=>∀x dx,H1 x=uE->H1 dx=uE->dx≠x ->
 sp (.ref x::(vs++aw)) (upd (upd H1 dx (.own x)) x (.ins C dx [])) (λv H2=>v=.non/\Q (.ref x) H2) E
def Binds (K:Fgg)(fd:mW)(ps:List Str)(ds:List aT):Prop:=
 ∀(s:ll) (us:List aT),K.In s.heap->(us++ds).length=ps.length->BindsTo s fd ⟨us,[]⟩ (ps.zip (us++ds))
theorem Binds.all {K:Fgg}{fd:mW}{ps:List Str}(h:∀us:List aT,us.length=ps.length->bindArgs fd ⟨us,[]⟩=pure (ps.zip us)):Binds K fd ps []:=λs us _ hl=>by
 rw[mU]at hl ⊢;exact .of_eq (h us hl)
def Passes (CX:CXT)(X:Cx)(E:XK):Prop:=∀(pins:Pnn) (σ:St) (H:Hp) (s:ll) (e:aT) (s':ll),Inv X pins σ H s->CX X.stack H s E e s'->X.xe e s'
section
variable {X:Cx}{CX:CXT}{k:Nat}{f C:lu}{fd:mW}{ps:List Str}{sp:Sp}{aw:List V}{ds:List aT}{E:XK}{x:Str}{p pos:Pos}{e:lN}{es:List lN}{t:TA}
theorem zmt_ {pins:Pnn}{σ:St}{H:Hp}{s:ll}{Q:VK}{us:List aT}{vs:List V}(F:FnOk X.prog X.w X.K X.mg X.base CX k f fd ps sp)(hr:Room k X.A)(hb:Binds X.K fd ps ds)(hd:Vals aw ds)(hx:Passes CX X E)
  (I:Inv X pins σ H s) (r:Vals vs us) (h:sp (vs++aw) H Q E):lU (model X.prog X.w) X.A (call (.ref f) us) (EP X pins σ Q) X.xe s:=by
 have r2:Vals (vs++aw) (us++ds):=r.append hd;have hl:(us++ds).length=ps.length:=by rw[<- r2.length];exact F.len _ _ _ _ h
 refine wpAny_call (codeAny_mono (F.run X.A X.stack s H ⟨us,[]⟩ (us++ds) (vs++aw) Q E hr I.env0 (hb s us I.kIn hl) r2 h) λr s' hq=>?_)
 cases r with
 |error e=>exact hx pins σ H s e s' I hq
 |ok fl=>
  cases fl with
  |ret u=>exact I.after hq
  |next=>exact mx hq
  |brk=>exact mx hq
  |cont=>exact mx hq
theorem zm1_ (F:FnOk X.prog X.w X.K X.mg X.base CX k f fd ps sp)(hr:Room k X.A)(hg:Gl X x)(hm:X.mg x=uD (.ref f))(hk:oI X.K (.ref f)=uF)(hb:Binds X.K fd ps ds)(hd:Vals aw ds)(hx:Passes CX X E)
  (ha:PA X (e::es) t) (ba:(x==("__debug__":Str))=uG:=by decide) (he:l7 (e::es) X.env=(uG,eval e X.env)::l7 es X.env:=by rfl) (av:(oP pos (l7 es X.env)).any (·.1)=uG:=by rfl):
  PE X (.Call (.Name x p) (e::es) [] pos) (tCall sp aw E t):=by
 intro pins s σ H Q I h;refine n6 (zd5_ I hg hm ?_ ba);refine sY (h₀:=X.base) I.ok.mod.kin hk (thn (ha pos pins s σ H _ I h) λus s1 ⟨vs,H1,I1,r,q⟩=>⟨I1.kIn,?_⟩) he av
 exact zmt_ F hr hb hd hx I1 r q
theorem zkw_ (F:FnOk X.prog X.w X.K X.mg X.base CX k f fd ps sp)(hr:Room k X.A)(hg:Gl X x)(hm:X.mg x=uD (.ref f))(hk:oI X.K (.ref f)=uF)(hb:Binds X.K fd ps ds)(hd:Vals aw ds)(hx:Passes CX X E)
  (ba:(x==("__debug__":Str))=uG:=by decide):PE X (.Call (.Name x p) [] [] pos) (tCall sp aw E tNil):=by
 intro pins s σ H Q I h;refine n6 (zd5_ I hg hm ?_ ba);exact sD I.kIn hk (zmt_ (us:=[]) F hr hb hd hx I .nil h)
structure Mk (K:Fgg)(C f:lu):Prop where
 makes:rF K C=uF
 init:nW K (.ref C) "__init__"=uD (uD (.ref f))
 fn:sZ K (.ref f)=uF
 kp:oI K (.ref C)=uF
theorem zhs_ {pins:Pnn}{σ:St}{H:Hp}{s:ll}{Q:VK}{us:List aT}{vs:List V}(M:Mk X.K C f)(F:FnOk X.prog X.w X.K X.mg X.base CX k f fd ps sp)(hr:Room (k+1) X.A)(hb:Binds X.K fd ps ds)(hd:Vals aw ds)
  (hx:Passes CX X E) (I:Inv X pins σ H s) (r:Vals vs us)
  (h:∀x dx,H x=uE->H dx=uE->dx≠x->sp (.ref x::(vs++aw)) (upd (upd H dx (.own x)) x (.ins C dx [])) (λv H2=>v=.non/\Q (.ref x) H2) E):
  lU (model X.prog X.w) X.A (call (.ref C) us) (EP X pins σ Q) X.xe s:=by
 have hq:=h (s.heap.objs.size+1) s.heap.objs.size (I.hok.fresh (oN _)) (I.hok.fresh (lp _)) (mm (pj _));have I2:=Inv.made (C:=C) I;have r2:Vals (V.ref (s.heap.objs.size+1)::(vs++aw)) (mS (s.heap.objs.size+1)::(us++ds)):=.cons rfl (r.append hd);have hl:(mS (s.heap.objs.size+1)::us++ds).length=ps.length:=by
  have e:=r2.length;rw[F.len _ _ _ _ hq]at e;exact e.symm
 refine wpAny_call (zly_ (f:=f) I.kIn M.makes M.init (beq_iff_eq.mp M.fn) (codeAny_mono (F.run _ X.stack _ _ ⟨mS (s.heap.objs.size+1)::us,[]⟩ (mS (s.heap.objs.size+1)::(us++ds)) _ _ E (hr.make C us [])
  (I2.env0.make C us []) (hb _ (mS (s.heap.objs.size+1)::us) I2.kIn hl) r2 hq) λr s' d6=>?_))
 cases r with
 |error e=>exact hx pins σ _ _ e s' I2 d6
 |ok fl=>
  cases fl with
  |ret u=>
   obtain⟨v,H',I3,rv,ev,q3⟩:=I2.after d6;subst ev;exact⟨rv,⟨V.ref (s.heap.objs.size+1),H',I3,rfl,q3⟩⟩
  |next=>exact mx d6
  |brk=>exact mx d6
  |cont=>exact mx d6
theorem zl5_ (M:Mk X.K C f)(F:FnOk X.prog X.w X.K X.mg X.base CX k f fd ps sp)(hr:Room (k+1) X.A)(hg:Gl X x)(hm:X.mg x=uD (.ref C))(hb:Binds X.K fd ps ds)(hd:Vals aw ds)(hx:Passes CX X E)
  (ha:PA X (e::es) t) (ba:(x==("__debug__":Str))=uG:=by decide) (he:l7 (e::es) X.env=(uG,eval e X.env)::l7 es X.env:=by rfl) (av:(oP pos (l7 es X.env)).any (·.1)=uG:=by rfl):
  PE X (.Call (.Name x p) (e::es) [] pos) (tMake C sp aw E t):=by
 intro pins s σ H Q I h;refine n6 (zd5_ I hg hm ?_ ba);refine sY (h₀:=X.base) I.ok.mod.kin M.kp (thn (ha pos pins s σ H _ I h) λus s1 ⟨vs,H1,I1,r,q⟩=>⟨I1.kIn,?_⟩) he av
 exact zhs_ M F hr hb hd hx I1 r q
theorem zkm_ (M:Mk X.K C f)(F:FnOk X.prog X.w X.K X.mg X.base CX k f fd ps sp)(hr:Room (k+1) X.A)(hg:Gl X x)(hm:X.mg x=uD (.ref C))(hb:Binds X.K fd ps ds)(hd:Vals aw ds)(hx:Passes CX X E)
  (ba:(x==("__debug__":Str))=uG:=by decide):PE X (.Call (.Name x p) [] [] pos) (tMake C sp aw E tNil):=by
 intro pins s σ H Q I h;refine n6 (zd5_ I hg hm ?_ ba);exact sD I.kIn M.kp (zhs_ (us:=[]) M F hr hb hd hx I .nil h)
end
structure FnScope (N P:List Str)(sc:Scope):Prop where
 kind:sc.kind=.function
 co:sc.isCoroutine=uG
 gen:sc.isGenerator=uG
 nd:N.Nodup
 pre:N.take P.length=P
 par:∀x∈P,sc.names.lookup x=uD .local\/sc.names.lookup x=uD .cell
 nofree:∀y∈sc.names,y.2≠.free
theorem zfa_ {kindOf:Str->Option og}{x:Str}:∀{binds:List (Str×aT)}{m:Str->Option aT},(∀v,(x,v)∉binds)->bindL kindOf binds m x=m x
 |[],_,_=>rfl
 |(n,v)::r,m,h=>by
  unfold bindL;rw[zfa_ λw hw=>h w (lQ _ hw)]
  split
  ·have:x≠n:=by rintro rfl;exact h v lR
   simp[this]
  ·rfl
theorem zfp_ {kindOf:Str->Option og}{x:Str}:∀{binds:List (Str×aT)}{m:Str->Option aT},(∀v,(x,v)∉binds)->bindC kindOf binds m x=m x
 |[],_,_=>rfl
 |(n,v)::r,m,h=>by
  unfold bindC;rw[zfp_ λw hw=>h w (lQ _ hw)]
  split
  ·rfl
  ·have:x≠n:=by rintro rfl;exact h v lR
   simp[this]
theorem zfm_ {kindOf:Str->Option og}{x:Str}{v:aT}:∀{P:List Str}{vs:List aT}{i:Nat}{m:Str->Option aT},P.Nodup->P[i]?=uD x->vs[i]?=uD v->kindOf x=uD .local ->
  bindL kindOf (P.zip vs) m x=uD v
 |[],_,_,_,_,h,_,_=>by simp at h
 |_::_,[],_,_,_,_,h,_=>by simp at h
 |p::P,w::vs,0,m,nd,h1,h2,hk=>by
  simp at h1 h2;subst h1;subst h2;show bindL kindOf ((p,w)::P.zip vs) m p=_
  unfold bindL;rw[zfa_ λv hv=>(pH.mp nd).1 (ou hv).1,if_pos hk]
  simp
 |p::P,w::vs,i+1,m,nd,h1,h2,hk=>by
  show bindL kindOf ((p,w)::P.zip vs) m x=_
  unfold bindL;exact zfm_ (i:=i) (pH.mp nd).2 (by simpa using h1) (by simpa using h2) hk
theorem zfo_ {kindOf:Str->Option og}{x:Str}{v:aT}:∀{P:List Str}{vs:List aT}{i:Nat}{m:Str->Option aT},P.Nodup->P[i]?=uD x->vs[i]?=uD v->kindOf x≠uD .local ->
  bindC kindOf (P.zip vs) m x=uD v
 |[],_,_,_,_,h,_,_=>by simp at h
 |_::_,[],_,_,_,_,h,_=>by simp at h
 |p::P,w::vs,0,m,nd,h1,h2,hk=>by
  simp at h1 h2;subst h1;subst h2;show bindC kindOf ((p,w)::P.zip vs) m p=_
  unfold bindC;rw[zfp_ λv hv=>(pH.mp nd).1 (ou hv).1,if_neg hk]
  simp
 |p::P,w::vs,i+1,m,nd,h1,h2,hk=>by
  show bindC kindOf ((p,w)::P.zip vs) m x=_
  unfold bindC;exact zfo_ (i:=i) (pH.mp nd).2 (by simpa using h1) (by simpa using h2) hk
def start (N:List Str)(vs:List V):St:=vs.map uD++lF (N.length-vs.length) uE
def cxOf (CX:CXT)(P:lY)(w:mq)(K:Fgg)(mg:Str->Option aT)(base:Heap)(N:List Str)(qual:Str)(scope:Scope)(f:lu)(cd:aT)(A:mG)(outer:List Env)(s:ll)(H:Hp)(E:XK):Cx where
 prog:=P
 w:=w
 K:=K
 mg:=mg
 base:=base
 A:=A.deeper (envOfC qual scope s.heap.objs.size f cd)
 N:=N
 s₀:=s
 H₀:=H
 env:=envOfC qual scope s.heap.objs.size f cd
 outer:=outer
 stack:=envOfC qual scope s.heap.objs.size f cd::outer
 ex:=[]
 calm:=uF
 fn:=λ_=>uF
 pn:=[]
 xe:=λe s'=>lU (model P w) (A.deeper (envOfC qual scope s.heap.objs.size f cd)) (leaving (envOfC qual scope s.heap.objs.size f cd) e) (λ_ fQ=>CX outer H s E e fQ) (λe' fQ=>CX outer H s E e' fQ) s'
theorem zeF_ {sc:Scope}{n:Nat}{x:Str}(h:sc.names.lookup x=uD .cell):∃c,(cellsFrom n sc.names []).lookup x=uD c:=by
 have q:=rG sc.names n [] (.inl h);exact Option.isSome_iff_exists.mp q
theorem zip_ {CX:CXT}{P:lY}{w:mq}{K:Fgg}{mg:Str->Option aT}{base:Heap}{N ps:List Str}{qual:Str}{scope:Scope}{f:lu}{cd:aT}{A:mG}{outer:List Env}{s s1:ll}{H:Hp}{E:XK}{us:List aT}{vs:List V}
  (S:FnScope N ps scope) (hd:A.handled=uE) (e0:Env0 P w K mg base A outer s H) (hl:vs.length=ps.length) (r:Vals vs us)
  (x:InCallC s s.heap.objs.size (bindL (envOfC qual scope s.heap.objs.size f cd).kindOf (ps.zip us) λ_=>uE) (cellsFrom (s.heap.objs.size+1) scope.names []) (bindC (envOfC qual scope s.heap.objs.size f cd).kindOf (ps.zip us) λ_=>uE) s1):
  Inv (cxOf CX P w K mg base N qual scope f cd A outer s H E) [] (start N vs) H s1:=by
 have av:ps.length<=N.length:=by have:=congrArg oO S.pre;rw[l5]at this;lia
 obtain⟨h1,tk,rfl,hk⟩:=x.done;have dO:∀b:lu,b∉(cxOf CX P w K mg base N qual scope f cd A outer s H E).ex:=λb z=>absurd (show b∈([]:List lu)from z) (by simp)
 refine⟨⟨e0.mod,S.kind,rfl,rfl,lp _,λy z c h1 h2=>?_,λy hy=>?_,λy c _ h=>?_,λ_=>hd,Around.frames_deeper e0.frames,.inr ⟨rfl,rfl⟩,λb z=>absurd z (dO b),e0.bs,e0.bsz,λb _ _=>dO b,λb z=>absurd z (dO b),e0.funs,e0.frf⟩,
  rfl,e0.bare,Un.kept hk,⟨_,x.toInCall.ns,λi y v h1 h2 h3=>?_⟩,λy c h=>⟨_,x.cell y c h⟩,e0.hok.fresh (lp _),λy c h=>?_,λp hp=>absurd (show p∈([]:Pnn)from hp) (by simp),e0.hok.kept hk,?_⟩
 ·exact name_of_addr x.apart (nu h1) (nu h2)
 ·have hy:scope.names.lookup y=uD .cell\/scope.names.lookup y=uD .free:=hy
  rcases hy with hy |hy
  ·exact zeF_ hy
  ·exact absurd rfl (S.nofree _ (nu hy))
 ·exact p8 (x.above y c (nu h))
 ·have hi:i<vs.length:=by
   unfold start at h2;by_cases hi:i<vs.length
   ·exact hi
   ·rw[my (by simpa using hi)]at h2
    rw[List.getElem?_replicate]at h2;split at h2<;>cases h2
  have ha:vs[i]?=uD v:=by
   unfold start at h2;rw[mJ (by simpa using hi),lB]at h2
   cases e:vs[i]? with
   |none=>rw[e]at h2;cases h2
   |some a=>rw[e]at h2;cases h2;rfl
  obtain⟨u,hu,rv⟩:=r.get ha;have hp:ps[i]?=uD y:=by
   rw[<- S.pre,List.getElem?_take_of_lt (by lia)];exact h1
  have ip:ps.Nodup:=by rw[<- S.pre];exact S.nd.sublist (List.take_sublist _ _)
  refine⟨u,rv,?_⟩;rcases S.par y (nG hp)with k |k
  ·exact .inl ⟨k,zfm_ ip hp hu k⟩
  ·obtain⟨c,e⟩:=zeF_ (n:=s.heap.objs.size+1) k
   refine .inr ⟨.inl k,c,e,?_⟩;have q:=x.cell y c e;rw[zfo_ ip hp hu (by show scope.names.lookup y≠_;rw[k];decide)]at q
   exact q
 ·exact e0.hok.fresh (p8 (x.above y c (nu h)))
 ·unfold start
  show _=N.length
  rw[lb,k8,List.length_replicate];lia
theorem fn_of {CX:CXT}{P:lY}{w:mq}{K:Fgg}{mg:Str->Option aT}{base:Heap}{k:Nat}{f:lu}{name qual:Str}{params:Arguments}{body:List me}{scope:Scope}{dV kV doc pm ah ct oc:aT}{an od:Option lu}
  {aj:Array (Option aT)}{N ps:List Str}{sp:Sp}(lk:K.lookup f=uD ⟨oc,od,.func (W.fnOf name qual params body scope dV kV doc pm an ah ct),aj⟩) (bt:pX K ah qual=uF) (S:FnScope N ps scope)
  (len:∀vs H Q E,sp vs H Q E->vs.length=ps.length)
  (eT:∀(A:mG) (outer:List Env) (s:ll) (H:Hp) (vs:List V) (Q:VK) (E:XK),Room k (A.deeper (envOfC qual scope s.heap.objs.size f ah))->sp vs H Q E ->
   ∃t,PSs (cxOf CX P w K mg base N qual scope f ah A outer s H E) body t/\t {nx:=λ_ H'=>Q .non H',rt:=Q} (start N vs) H):
  FnOk P w K mg base CX (k+1) f (W.fnOf name qual params body scope dV kV doc pm an ah ct) ps sp:=by
 refine⟨len,λA outer s H args us vs Q E hr e0 hb r dA=>?_⟩
 have hl:=len _ _ _ _ dA;have KX:K.In s.heap:=e0.mod.kin.keeps λb o e=>(e0.bs b o e).1
 have lim:s.heap.NoLimit:=e0.mod.nolimit.keeps λb o e=>(e0.bs b o e).1
 have eC:∀y∈ps.zip us,scope.names.lookup y.1=uD .local\/(scope.names.lookup y.1=uD .cell/\((cellsFrom (s.heap.objs.size+1) scope.names []).lookup y.1).isSome=uF):=λ⟨n,v⟩ hy=>by
  rcases S.par n (ou hy).1 with q |q
  ·exact .inl q
  ·exact .inr ⟨q,rG _ _ _ (.inl q)⟩
 refine codeAny_call_function hr.depth (KX _ _ lk) rfl S.co S.gen rfl (W.codeRec_of KX bt) (hb _ _ _ _ ?_);refine wpAny_newFunctionEnv_cells S.kind eC λenv he s1 x=>?_
 subst he;refine⟨lim.keeps x.toInCall.keep,codeAny_func ?_⟩;obtain⟨t,ht,hq⟩:=eT A outer s H vs Q E (hr.deeper _) dA;have I:Inv (cxOf CX P w K mg base N qual scope f ah A outer s H E) [] (start N vs) H s1:=zip_ S hr.hd e0 hl r x;refine nq (ht [] s1 (start N vs) H _ I hq) (λfl s' hs=>?_) λe s' hs=>hs
 have fin:∀{af:St}{H':Hp}{v:V}{u:aT},Inv (cxOf CX P w K mg base N qual scope f ah A outer s H E) [] af H' s'->RelV v u->Q v H'->CE outer P w H s Q u s':=
  λ{af H' v u} J rv q=>⟨v,H',J.os,J.bare,J.base,J.hok,rv,q⟩
 cases fl with
 |ret u=>
  obtain⟨v,af,H',J,rv,q⟩:=hs;exact fin J rv q
 |next=>
  obtain⟨af,H',J,q⟩:=hs;exact fin (v:=V.non) (u:=q9) J rfl q
 |brk=>
  obtain⟨_,_,_,q⟩:=hs;exact mx q
 |cont=>
  obtain⟨_,_,_,q⟩:=hs;exact mx q
section
variable {X:Cx}{x:Str}{p pos:Pos}{e:lN}{es:List lN}{t:TA}{id T:String}{r:List V->Hp->VK->Prop}
def tCB (r:List V->Hp->VK->Prop)(t:TA):TE:=λσ H Q=>t σ H λvs H1=>r vs H1 Q
theorem zku_ (hc:CallR X (.builtin id) r)(hg:Gl X x)(hm:X.mg x=uE)(hv:nS x=uD (.builtin id))(ha:PA X (e::es) t)(hn:x ≠ "__name__":=by decide)(ba:(x==("__debug__":Str))=uG:=by decide)
  (he:l7 (e::es) X.env=(uG,eval e X.env)::l7 es X.env:=by rfl) (av:(oP pos (l7 es X.env)).any (·.1)=uG:=by rfl):PE X (.Call (.Name x p) (e::es) [] pos) (tCB r t):=by
 intro pins s σ H Q I h;refine n6 (zdq_ I hg hm hv ?_ hn ba);exact rH (thn (ha pos pins s σ H _ I h) λus s1 ⟨vs,H1,I1,r1,q1⟩=>hc pins s1 σ H1 vs us Q I1 r1 q1) he av
theorem ziy_ (hc:CallR X (.type T) r)(hg:Gl X x)(hm:X.mg x=uE)(hv:nS x=uD (.type T))(ha:PA X (e::es) t)(hn:x ≠ "__name__":=by decide)(ba:(x==("__debug__":Str))=uG:=by decide)
  (he:l7 (e::es) X.env=(uG,eval e X.env)::l7 es X.env:=by rfl) (av:(oP pos (l7 es X.env)).any (·.1)=uG:=by rfl):PE X (.Call (.Name x p) (e::es) [] pos) (tCB r t):=by
 intro pins s σ H Q I h;refine n6 (zdq_ I hg hm hv ?_ hn ba);exact mP (thn (ha pos pins s σ H _ I h) λus s1 ⟨vs,H1,I1,r1,q1⟩=>hc pins s1 σ H1 vs us Q I1 r1 q1) he av
end
end L2
namespace HT
open PySem PyProof.Rows
section
open PySem.SeqAt
open PySem.AutoSeq1 (wpAny_loadPart')
open PySem.MeetsSeq PySem.MeetsSeq2 PySem.MeetsSeq3
end
section
variable {prog:lY}{w:mq}{A:mG}{E:aT->ll->Prop}{s:ll}
theorem cat_tup {t b:lu}{vs ws:List aT}{Q:aT->ll->Prop}(ht:IsTup s.heap t vs.toArray)(hb:IsTup s.heap b ws.toArray)(hv:vs≠[])
  (h1:ws=[]->Q (.ref t) s) (h2:ws≠[]->Q (.ref s.heap.objs.size) {s with heap:=s.heap.push {cls:=.type "tuple",data:=.seq (vs++ws).toArray}})
  (hsz:vs.length+ws.length<=lE):lU (model prog w) A (nR .Add (.ref t) (.ref b)) Q E s:=by
 obtain⟨⟨cls,dd,data,sl⟩,ho,hc,n,hd⟩:=id ht;obtain⟨⟨kr,dd2,data2,sl2⟩,ho2,cY,n2,hd2⟩:=id hb;simp only at hc hd cY hd2;subst hc hd cY hd2;have e:vs.toArray++ws.toArray=(vs++ws).toArray:=by simp
 by_cases hw:ws=[]
 ·exact concat_meets ⟨_,ho,rfl⟩ ⟨_,ho2,rfl⟩ noFill_tuple_add seq_tuple_add qA qm (qi _ _)
   (tuple_addW1 t b vs.toArray ws.toArray n n2 dd dd2 sl sl2 (by simpa using hv) (by simp[hw])) ⟨ho,ho2,h1 hw⟩
 ·refine concat_meets ⟨_,ho,rfl⟩ ⟨_,ho2,rfl⟩ noFill_tuple_add seq_tuple_add qA qm (qi _ _)
   (tuple_addW2 t b vs.toArray ws.toArray n n2 dd dd2 sl sl2 (by simpa using hv) (by simpa using hw) (by rw[lx,lx];exact hsz)) ⟨ho,ho2,?_⟩
  rw[e];exact h2 hw
noncomputable def sIx (n d:Nat):Option Int->Nat
 |none=>d
 |some v=>if v<0 then(v+(n:Int)).toNat else min v.toNat n
theorem sIx_le (n d:Nat)(hd:d<=n)(o:Option Int):sIx n d o<=n:=by
 cases o with
 |none=>exact hd
 |some v=>
  show(if v<0 then(v+(n:Int)).toNat else min v.toNat n)<=n
  by_cases hv:v<0
  ·rw[if_pos hv];lia
  ·rw[if_neg hv];exact Nat.min_le_right _ _
theorem zj2_ (v:Int)(n d:Nat):(if v<0 then max (v+(n:Int)) 0 else min v (n:Int))=((sIx n d (uD v):Nat):Int):=by
 show(if v<0 then max (v+(n:Int)) 0 else min v (n:Int))=(((if v<0 then(v+(n:Int)).toNat else min v.toNat n):Nat):Int)
 by_cases hv:v<0
 ·simp only[if_pos hv];lia
 ·simp only[if_neg hv];lia
theorem zhl_ (lo hi:Option Int)(n:Nat):pA lo hi 1 (n:Int)=(((sIx n 0 lo:Nat):Int),((sIx n n hi:Nat):Int)):=by
 have h1:¬((1:Int)<0):=by lia
 unfold pA;simp only[h1,if_false];refine Prod.ext ?_ ?_
 ·cases lo with
  |none=>rfl
  |some v=>exact zj2_ v n 0
 ·cases hi with
  |none=>rfl
  |some v=>exact zj2_ v n n
theorem zgW_ (i j:Nat):oj (i:Int) (j:Int) 1=j-i:=by
 unfold oj;have h1:(1:Int) > 0:=by lia
 simp only[h1,if_true,rj];split<;>lia
theorem zee_ {v:aT}{o:Option Int}{Q:Option Int->ll->Prop}(p:IsPart v o)(h:Q o s):lU (model prog w) A (rW v) Q E s:=by
 cases p with
 |none=>exact slicePart_none h
 |int i t=>exact slicePart_int h
theorem zcC_ {sl:lu}{vl vu:aT}{lo hi:Option Int}{n:Nat}{Q:Int×Int×Nat->ll->Prop}(hs:s.heap.IsSliceOf sl vl vu .none)(pl:IsPart vl lo)(pu:IsPart vu hi)
  (h:Q (((sIx n 0 lo:Nat):Int),1,sIx n n hi-sIx n 0 lo) s):lU (model prog w) A (qb (.ref sl) (pure (n:Int))) Q E s:=by
 obtain⟨os,hos,hcs,hds⟩:=id hs;unfold qb sx;refine lg (lg (nT hos hds (x:=vl) rfl (lg (nT hos hds (x:=vu) rfl (lg (nT hos hds (x:=.none) rfl (lK ?_)))))));refine lg (slicePart_none ?_);show lU _ _ (if((1:Int) == 0)=uF then _ else _) _ _ s
 rw[if_neg (by decide)]
 refine lg (zee_ pl (lg (zee_ pu (lg (lK ?_)))));show lU _ _ (match pA lo hi 1 (n:Int)with |(lo,hi)=>pure (lo,(1:Int),oj lo hi 1)) _ _ s
 rw[zhl_ lo hi n];show lU _ _ (pure (((sIx n 0 lo:Nat):Int),(1:Int),oj ((sIx n 0 lo:Nat):Int) ((sIx n n hi:Nat):Int) 1)) _ _ s
 rw[zgW_];exact lK h
theorem zkL_ (xs:Array aT)(i k:Nat):((lH k).filterMap λ(m:Nat)=>xs[((i:Int)+(m:Int)*1).toNat]?).toArray=((xs.toList.drop i).take k).toArray:=by
 have e:(λ(m:Nat)=>xs[((i:Int)+(m:Int)*1).toNat]?)=λm=>xs[i+m]?:=by
  funext m;have:((i:Int)+(m:Int)*1).toNat=i+m:=by lia
  rw[this]
 rw[e];have:=pick_run xs i k;rw[pI]at this;have e2:((λx=>xs[x]?)∘λx=>i+x)=λm=>xs[i+m]?:=rfl
 rw[e2]at this;rw[this]
theorem getItem_tuple_cut {t sl:lu}{items:Array aT}{vl vu:aT}{lo hi:Option Int}{Q:aT->ll->Prop}(ht:IsTup s.heap t items)(hs:s.heap.IsSliceOf sl vl vu .none)(pl:IsPart vl lo)(pu:IsPart vu hi)
  (hw:¬(sIx items.size 0 lo=0/\sIx items.size items.size hi=items.size))
  (h:Q (.ref s.heap.objs.size) {s with heap:=s.heap.push {cls:=.type "tuple",data:=.seq ((items.toList.drop (sIx items.size 0 lo)).take (sIx items.size items.size hi-sIx items.size 0 lo)).toArray}})
  (hsz:items.size<=lE):lU (model prog w) A (getItem (.ref t) (.ref sl)) Q E s:=by
 have bg:sizeOk (.seq ((items.toList.drop (sIx items.size 0 lo)).take (sIx items.size items.size hi-sIx items.size 0 lo)).toArray):=by
  show((items.toList.drop (sIx items.size 0 lo)).take (sIx items.size items.size hi-sIx items.size 0 lo)).toArray.size<=lE
  rw[lx,l5,mz,nr];lia
 have hj:sIx items.size items.size hi<=items.size:=sIx_le _ _ (lp _) hi;obtain⟨os,hos,hcs,hds⟩:=id hs;have jU:s.TypeIs (.ref sl) "slice":=⟨os,hos,hcs⟩;unfold getItem
 try with_reducible refine wpAny_holding ?_
 first |refine lg (lK ?_)|skip
 refine lg (wpAny_sequenceKey ht.typeIs (by decide) ?_)
 refine lg (wpAny_callSpecial?_slot (name:=rm "__getitem__") ht.typeIs oF
  (wpAny_call_entry oF ht.typeIs entry_tuple_getitem ?_ (args_tuple_getitem _ _)))
 show lU _ _ (sj (.ref t)>>=_) _ _ s
 refine lg (tupleItemsOf_ ht ?_);refine lg (wpAny_typeOf jU ?_);rw[if_pos (by decide)]
 refine lg (zcC_ hs pl pu ?_);have jB:¬((((sIx items.size 0 lo:Nat):Int) == 0 && (1:Int) == 1 && (sIx items.size items.size hi-sIx items.size 0 lo) == items.size)=uF):=by
  intro q;rw[k9,k9]at q;have q1:((sIx items.size 0 lo:Nat):Int)=0:=eq_of_beq q.1.1;have q2:sIx items.size items.size hi-sIx items.size 0 lo=items.size:=eq_of_beq q.2;exact hw ⟨by lia,by lia⟩
 show lU _ _ (if(((sIx items.size 0 lo:Nat):Int) == 0 && (1:Int) == 1 && (sIx items.size items.size hi-sIx items.size 0 lo) == items.size)=uF then _ else _) _ _ s
 rw[if_neg jB,zkL_]
 first
  |exact lg (m:=oB _) (wpAny_newObj_type (lK ⟨_,rfl,lK h⟩) bg)
  |exact lg (m:=oB _) (wpAny_newObj_type (lg (lK (lK ⟨_,rfl,lK h⟩))) bg)
  |exact lg (lg (m:=oB _) (wpAny_newObj_type (lK (lK ⟨_,rfl,lK h⟩)) bg))
  |exact lg (lg (m:=oB _) (wpAny_newObj_type (lK ⟨_,rfl,lK h⟩) bg))
end
end HT
namespace L2
open PySem PySem.Spec PyProof.Rows
abbrev TO:=St->Hp->(Option Int->Hp->Prop)->Prop
def PO (X:Cx)(e:Option lN)(t:TO):Prop:=
 ∀(pins:Pnn) (s:ll) (σ:St) (H:Hp) (Q:Option Int->Hp->Prop),Inv X pins σ H s->t σ H Q ->
  lU (model X.prog X.w) X.A (evalPart e X.env) (λu s'=>∃o H',Inv X pins σ H' s'/\IsPart u o/\Q o H') X.xe s
def tNoPart:TO:=λ_ H Q=>Q uE H
section
variable {X:Cx}{e:lN}{te:TE}{lo hi:Option lN}{tl th:TO}{pos p2:Pos}
theorem znK_:PO X uE tNoPart:=by
 intro pins s σ H Q I h;rw[evalPart_none];exact lK ⟨uE,H,I,.none,h⟩
def SlR (X:Cx)(r:V->Option Int->Option Int->Hp->VK->Prop):Prop:=
 ∀(pins:Pnn) (s:ll) (σ:St) (H:Hp) (x:V) (v vl vu:aT) (lo hi:Option Int) (sl:lu) (Q:VK),Inv X pins σ H s->RelV x v->s.heap.IsSliceOf sl vl vu .none->IsPart vl lo->IsPart vu hi->r x lo hi H Q ->
  ∃T id,typeLookup (.type T) "__getitem__"=pure (uD (.builtin id))/\s.TypeIs v T/\lU (model X.prog X.w) X.A (getItem v (.ref sl)) (EP X pins σ Q) X.xe s
theorem SlR.or {r r':V->Option Int->Option Int->Hp->VK->Prop}(h:SlR X r)(h':SlR X r'):SlR X (λx lo hi H Q=>r x lo hi H Q\/r' x lo hi H Q):=by
 intro pins s σ H x v vl vu lo hi sl Q I rx hs pl pu q;rcases q with q |q
 ·exact h pins s σ H x v vl vu lo hi sl Q I rx hs pl pu q
 ·exact h' pins s σ H x v vl vu lo hi sl Q I rx hs pl pu q
def tSl (r:V->Option Int->Option Int->Hp->VK->Prop)(te:TE)(tl th:TO):TE:=λσ H Q=>te σ H λx H1=>tl σ H1 λl H2=>th σ H2 λu H3=>r x l u H3 Q
theorem zlB_ {r:V->Option Int->Option Int->Hp->VK->Prop}(hr:SlR X r)(he:PE X e te)(hl:PO X lo tl)(hu:PO X hi th):PE X (.Subscript e (.Slice lo hi uE p2) pos) (tSl r te tl th):=by
 intro pins s σ H Q I h;refine Subscript_ (thn (he pins s σ H _ I h) λv s1 ab=>?_)
 obtain⟨x,H1,I1,r1,q1⟩:=ab;refine wpAny_Slice (thn (hl pins s1 σ H1 _ I1 q1) λvl s2 ⟨l,H2,I2,pl,q2⟩=>thn (hu pins s2 σ H2 _ I2 q2) λvu s3 ab=>?_)
 obtain⟨u,H3,I3,pu,q3⟩:=ab;rw[evalPart_none];refine lK ?_;have I4:Inv X pins σ H3 {s3 with heap:=s3.heap.push {cls:=.type "slice",data:=.fields #[vl,vu,.none]}}:=I3.kept (t':=s3.toks) λb ob q=>lh _ q
 obtain⟨T,id,hT,ht,hg⟩:=hr pins {s3 with heap:=s3.heap.push {cls:=.type "slice",data:=.fields #[vl,vu,.none]}} σ H3 x v vl vu l u s3.heap.objs.size Q I4 r1 (rd ..) pl pu q3;show lU (model X.prog X.w) X.A (subscriptTail e (.Slice lo hi uE p2) v (.ref s3.heap.objs.size)) (EP X pins σ Q) X.xe {s3 with heap:=s3.heap.push {cls:=.type "slice",data:=.fields #[vl,vu,.none]}}
 exact tail_any (ops:=[.ref s3.heap.objs.size,v]) ht hT hg (by with_unfolding_all rfl)
def cutV (xs:List V)(lo hi:Option Int):List V:=(xs.drop (HT.sIx xs.length 0 lo)).take (HT.sIx xs.length xs.length hi-HT.sIx xs.length 0 lo)
theorem zdd_ (xs:List V)(lo hi:Option Int):(cutV xs lo hi).length<=xs.length:=by
 unfold cutV;rw[l5,mz];lia
def rSlT (K:Fgg):V->Option Int->Option Int->Hp->VK->Prop:=λx lo hi H Q=>∃a xs,x=.ref a/\SqT K H a xs /\
 ¬(HT.sIx xs.length 0 lo=0/\HT.sIx xs.length xs.length hi=xs.length)/\∀p,H p=uE->Q (.ref p) (upd H p (.tup (cutV xs lo hi)))
theorem zqV_:SlR X (rSlT X.K):=by
 intro pins s σ H x v vl vu lo hi sl Q I rx hs pl pu h;obtain⟨a,xs,rfl,hx,hw,q⟩:=h;cases rx;obtain⟨aa,r,ht,hz⟩:=I.tuple hx;have hlen:aa.toArray.size=xs.length:=by rw[lx];exact r.length.symm
 refine⟨"tuple",_,oF.lookup,ht.typeIs,?_⟩;refine HT.getItem_tuple_cut ht hs pl pu (by rw[hlen];exact hw) ?_ (by rw[hlen];exact hz)
 rw[hlen];refine⟨.ref s.heap.objs.size,_,I.laid (t':=s.toks) (o:=.tup (cutV xs lo hi)) (λb ob q=>lh _ q) (lp _) ?_,rfl,q _ (I.hok.fresh (lp _))⟩
 exact⟨ni (zdd_ xs lo hi) hz,_,(r.drop (HT.sIx xs.length 0 lo)).take (HT.sIx xs.length xs.length hi-HT.sIx xs.length 0 lo),IsTup.new _ _⟩
def rCatT (K:Fgg):R2:=λx y H Q=>∃a b xs ys,x=.ref a/\y=.ref b/\SqT K H a xs/\SqT K H b ys/\xs≠[]/\xs.length+ys.length<=lE /\
 (ys=[]->Q (.ref a) H)/\(ys≠[]->∀p,H p=uE->Q (.ref p) (upd H p (.tup (xs++ys))))
theorem Vals.nil_iff {xs:List V}{us:List aT}(r:Vals xs us):us=[]↔xs=[]:=by
 cases r with
 |nil=>simp
 |cons _ _=>simp
theorem zn1_:OpR X (nR .Add) (rCatT X.K):=by
 intro pins s σ H x y v u Q I rx ry h;obtain⟨a,b,xs,ys,rfl,rfl,ha,hb,hx,hz,q1,q2⟩:=h;cases rx;cases ry;obtain⟨aa,r1,p1,_⟩:=I.tuple ha;obtain⟨ai,r2,p2,_⟩:=I.tuple hb;refine HT.cat_tup p1 p2 (λz=>hx (r1.nil_iff.mp z)) (λz=>⟨.ref a,H,I,rfl,q1 (r2.nil_iff.mp z)⟩) (λz=>?_) (by rw[<- r1.length,<- r2.length];exact hz)
 refine⟨.ref s.heap.objs.size,_,I.laid (t':=s.toks) (o:=.tup (xs++ys)) (λb ob q=>lh _ q) (lp _) ?_,rfl,q2 (λw=>z (r2.nil_iff.mpr w)) _ (I.hok.fresh (lp _))⟩
 exact⟨by rw[lb];exact hz,_,r1.append r2,IsTup.new _ _⟩
end
noncomputable def ixN (n:Nat)(i:Int):Option Nat:=if 0<=i then(if i<n then uD i.toNat else uE)else if -(n:Int)<=i then uD (i+n).toNat else uE
def atI {α:Type}(xs:List α)(i:Int):Option α:=(ixN xs.length i).bind λj=>xs[j]?
theorem zf8_ {n:Nat}{i:Int}{j:Nat}(h:ixN n i=uD j):seqIndex? i n=uD j/\j<n /\ -(n:Int)<=i/\i<n:=by
 unfold ixN at h;by_cases h0:0<=i
 ·rw[if_pos h0]at h
  by_cases h1:i<n
  ·rw[if_pos h1]at h
   have e:i.toNat=j:=mD h;exact⟨by rw[seqIndex_of h0 h1,e],by lia,by lia,h1⟩
  ·rw[if_neg h1]at h;cases h
 ·rw[if_neg h0]at h
  by_cases h1 : -(n:Int)<=i
  ·rw[if_pos h1]at h
   have e:(i+n).toNat=j:=mD h;exact⟨by rw[seqIndex_neg (by lia) h1,e],by lia,h1,by lia⟩
  ·rw[if_neg h1]at h;cases h
theorem zhk_ {α:Type}{xs:List α}{i:Int}{v:α}(h:atI xs i=uD v):∃j,seqIndex? i xs.length=uD j/\xs[j]?=uD v/\j<xs.length /\ -(xs.length:Int)<=i/\i<xs.length:=by
 unfold atI at h;cases e:ixN xs.length i with
 |none=>rw[e]at h;cases h
 |some j=>
  rw[e]at h;obtain⟨h1,h2,h3,h4⟩:=zf8_ e;exact⟨j,h1,h,h2,h3,h4⟩
def PlainIx (b:lN):Prop:=∀o i,subscripted b uG o i=operate [o,i] (getItem o i)
def IxR (X:Cx)(r:R2):Prop:=
 ∀(value slice:lN) (pins:Pnn) (s:ll) (σ:St) (H:Hp) (x y:V) (v u:aT) (Q:VK),Inv X pins σ H s->RelV x v->RelV y u->r x y H Q ->
  subscripted slice uG v u=operate [v,u] (getItem v u)->lU (model X.prog X.w) X.A (subscriptTail value slice v u) (EP X pins σ Q) X.xe s
def MtR (X:Cx)(id:String)(r:V->List V->Hp->VK->Prop):Prop:=
 ∀(pins:Pnn) (s:ll) (σ:St) (H:Hp) (x:V) (xs:List V) (v:aT) (us:List aT) (Q:VK),Inv X pins σ H s->RelV x v->Vals xs us->r x xs H Q ->
  lU (model X.prog X.w) X.A (call (.builtin id) (v::us)) (EP X pins σ Q) X.xe s
section
variable {X:Cx}{a b:lN}{ta tb:TE}{pos:Pos}
theorem pe_ix {r:R2}(hr:IxR X r)(ha:PE X a ta)(hb:PE X b tb)(hs:PlainIx b):PE X (.Subscript a b pos) (tOp r ta tb):=by
 intro pins s σ H Q I h;exact Subscript_ (binT ha hb I h λv u s2 x y H2 I2 rx ry q=>hr a b pins s2 σ H2 x y v u Q I2 rx ry q (hs _ _))
def rIxL (K:Fgg):R2:=λx y H Q=>∃p xs i v,x=.ref p/\y=.int i/\SqL K H p xs/\atI xs i=uD v/\Q v H
def rIxT (K:Fgg):R2:=λx y H Q=>∃p xs i v,x=.ref p/\y=.int i/\SqT K H p xs/\atI xs i=uD v/\Q v H
def rIxS:R2:=λx y H Q=>∃z i c,x=.str z/\y=.int i/\z.length<=lE/\atI z.cps.toList i=uD c/\Q (.str ⟨#[c]⟩) H
theorem znR_:IxR X (rIxL X.K):=by
 intro value slice pins s σ H x y v u Q I rx ry h hs;obtain⟨p,xs,i,z,rfl,rfl,hq,he,q⟩:=h;cases rx;obtain⟨t,rfl⟩:=ry;obtain⟨aa,r,pl,hz⟩:=I.list hq;obtain⟨j,h1,h2,h3,h4,h5⟩:=zhk_ he;obtain⟨w,ew,bI⟩:=r.get h2;have hl:=r.length;have hn:=line63;have fin:EP X pins σ Q w s:=⟨z,H,I,bI,q⟩;by_cases h0:0<=i
 ·have hj:i.toNat=j:=by
   rw[seqIndex_of h0 h5]at h1;exact mD h1
  exact item_listR pl.isList h0 (by lia) (by rw[hj];simpa using ew) fin hs
 ·have hj:(i+(aa.toArray.size:Int)).toNat=j:=by
   rw[seqIndex_neg (by lia) h4]at h1
   rw[lx,<- hl];exact mD h1
  exact subscriptTail_builtinR (x:=w) pl.isList.typeIs slot_list_getitem.lookup
   (wpAny_getItem_list_neg (Q:=λr s'=>r=w/\EP X pins σ Q r s') pl.isList (by lia) (by rw[lx]<;>lia) (by lia) (by rw[hj];simpa using ew) ⟨rfl,fin⟩) hs
theorem zpB_:IxR X (rIxT X.K):=by
 intro value slice pins s σ H x y v u Q I rx ry h hs;obtain⟨p,xs,i,z,rfl,rfl,hq,he,q⟩:=h;cases rx;obtain⟨t,rfl⟩:=ry;obtain⟨aa,r,pl,hz⟩:=I.tuple hq;obtain⟨j,h1,h2,h3,h4,h5⟩:=zhk_ he;obtain⟨w,ew,bI⟩:=r.get h2;have hl:=r.length;have hn:=line63;have fin:EP X pins σ Q w s:=⟨z,H,I,bI,q⟩
 exact subscriptTail_builtinR (x:=w) pl.typeIs slot_tuple_getitem.lookup
  (getItem_tuple (j:=j) (Q:=λr s'=>r=w/\EP X pins σ Q r s') pl (by lia) (by lia) (by rw[lx,<- hl];exact h1) (by simpa using ew) ⟨rfl,fin⟩) hs
theorem zqp_:IxR X rIxS:=by
 intro value slice pins s σ H x y v u Q I rx ry h hs;obtain⟨z,i,c,rfl,rfl,hz,he,q⟩:=h;obtain⟨t,rfl⟩:=rx;obtain⟨t',rfl⟩:=ry;obtain⟨j,h1,h2,h3,h4,h5⟩:=zhk_ he;have hl:z.cps.toList.length=z.length:=by simp[nM]
 rw[hl]at h1 h4 h5;have hn:=line63;exact tail_any (typeIs_str s z t) slot_str_getitem.lookup (getItem_str (c:=c) (by
  have e1:decide (i < -(2 ^ 63:Int))=uG:=decide_eq_false (by lia)
  have e2:decide (i ≥ 2 ^ 63)=uG:=decide_eq_false (by lia)
  rw[e1,e2,Bool.or_false]) (by rw[h1];simpa using h2) ⟨.str ⟨#[c]⟩,H,I.tok _,⟨_,rfl⟩,q⟩) hs
theorem zgy_ (aa:List aT)(n j:Nat)(u:aT):qB (·.setIfInBounds j u) {cls:=.type "list",data:=.seq aa.toArray n}={cls:=.type "list",data:=.seq (aa.set j u).toArray n}:=by
 simp[qB]
theorem Inv.lst {pins:Pnn}{σ:St}{H:Hp}{s:ll}{p:lu}{xs:List V}(I:Inv X pins σ H s)(h:H p=uD (.lst xs)):
  ∃(aa:List aT) (n:Nat),Vals xs aa/\s.heap.get? p=uD {cls:=.type "list",data:=.seq aa.toArray n}/\xs.length<=lE:=by
 obtain⟨z,aa,n,r,e⟩:=I.hok p _ h;exact⟨aa,n,r,e,z⟩
theorem Inv.lstUpd {pins:Pnn}{σ:St}{H:Hp}{s:ll}{p:lu}{xs ys:List V}{aa its':List aT}{n n':Nat}{f:tP->tP}(I:Inv X pins σ H s)(h:H p=uD (.lst xs))
  (ho:s.heap.get? p=uD {cls:=.type "list",data:=.seq aa.toArray n}) (hf:f {cls:=.type "list",data:=.seq aa.toArray n}={cls:=.type "list",data:=.seq its'.toArray n'}) (r:Vals ys its') (hz:ys.length<=lE) (t:Nat):
  Inv X pins σ (upd H p (.lst ys)) {s with heap:=s.heap.update p f,toks:=t}:=by
 have e:(s.heap.update p f).get? p=uD {cls:=.type "list",data:=.seq its'.toArray n'}:=by
  rw[Heap.get?_update_self f ho (by rw[hf]<;>rfl),hf]
 refine I.write (x:=p) (e:=p) (by rw[h];trivial) (.inl rfl) (λb u hb q=>(qC _ _ (pV hb)).trans q) ⟨_,e⟩ ?_
 exact⟨hz,its',n',r,e⟩
def rSetL:V->V->V->Hp->(Hp->Prop)->Prop:=λo i v H Q=>∃p xs k j,o=.ref p/\i=.int k/\H p=uD (.lst xs)/\ixN xs.length k=uD j/\Q (upd H p (.lst (xs.set j v)))
theorem zk1_:PSet X rSetL:=by
 intro pins s σ H o i v ov iv u Q I ro ri rv h;obtain⟨p,xs,k,j,rfl,rfl,hp,hj,q⟩:=h;cases ro;obtain⟨t,rfl⟩:=ri;obtain⟨aa,n,r,ho,hz⟩:=I.lst hp;obtain⟨h1,h2,h3,h4⟩:=zf8_ hj;have hl:=r.length;have hn:=line63;have I':Inv X pins σ (upd H p (.lst (xs.set j v))) {s with heap:=s.heap.update p (qB (·.setIfInBounds j u))}:=
  I.lstUpd hp ho (zgy_ aa n j u) (r.set rv j) (by rw[nz];exact hz) s.toks
 by_cases h0:0<=k
 ·have hk:k.toNat=j:=by
   rw[seqIndex_of h0 h4]at h1;exact mD h1
  exact W.ki_setAt ho h0 (by lia) (by rw[lx,<- hl];exact h4) (by rw[hk];exact⟨_,I',q⟩)
 ·have hk:(k+(aa.toArray.size:Int)).toNat=j:=by
   rw[seqIndex_neg (by lia) h3]at h1
   rw[lx,<- hl];exact mD h1
  exact W.ki_setBack ho (by lia) (by rw[lx,<- hl];exact h3) (by lia) (by rw[hk];exact⟨_,I',q⟩)
theorem zeN_ (lo hi:Option Int)(n:Nat):(sliceBounds lo hi uE n).1=((HT.sIx n 0 lo:Nat):Int)/\(sliceBounds lo hi uE n).2.1=((HT.sIx n n hi:Nat):Int)/\(sliceBounds lo hi uE n).2.2=1:=by
 refine⟨?_,?_,rfl⟩
 ·cases lo with
  |none=>simp[sliceBounds,HT.sIx]
  |some i=>
   simp only[sliceBounds,HT.sIx,rJ,show(1:Int) > 0 by decide,if_true]
   by_cases h:i<0
   ·simp only[h,if_true]<;>lia
   ·simp only[h,if_false]<;>lia
 ·cases hi with
  |none=>simp[sliceBounds,HT.sIx]
  |some i=>
   simp only[sliceBounds,HT.sIx,rJ,show(1:Int) > 0 by decide,if_true]
   by_cases h:i<0
   ·simp only[h,if_true]<;>lia
   ·simp only[h,if_false]<;>lia
theorem zei_ (aa:List aT)(lo hi:Option Int):slicePick aa.toArray lo hi uE=((aa.drop (HT.sIx aa.length 0 lo)).take (HT.sIx aa.length aa.length hi-HT.sIx aa.length 0 lo)).toArray:=by
 obtain⟨h1,h2,h3⟩:=zeN_ lo hi aa.toArray.size;unfold slicePick;rw[h1,h2,h3];simp only[sliceRange_one,pick_run,lx]<;>rfl
def rSlL (K:Fgg):V->Option Int->Option Int->Hp->VK->Prop:=λx lo hi H Q=>∃a xs,x=.ref a/\SqL K H a xs/\∀p,H p=uE->Q (.ref p) (upd H p (.lst (cutV xs lo hi)))
theorem znB_:SlR X (rSlL X.K):=by
 intro pins s σ H x v vl vu lo hi sl Q I rx hs pl pu h;obtain⟨a,xs,rfl,hx,q⟩:=h;cases rx;obtain⟨aa,r,ht,hz⟩:=I.list hx;have hlen:=r.length;refine⟨"list",_,slot_list_getitem.lookup,ht.isList.typeIs,?_⟩;refine wpAny_getItem_list_slice ht.isList hs pl pu .none (by simp) ?_ (by rw[lx]<;>lia)
 rw[zei_,<- hlen];refine⟨.ref s.heap.objs.size,_,I.laid (t':=s.toks) (o:=.lst (cutV xs lo hi)) (λb ob q=>lh _ q) (lp _) ?_,rfl,q _ (I.hok.fresh (lp _))⟩
 exact⟨ni (zdd_ xs lo hi) hz,_,0,(r.drop (HT.sIx xs.length 0 lo)).take (HT.sIx xs.length xs.length hi-HT.sIx xs.length 0 lo),lI _ rfl⟩
noncomputable def flatV:V->Bool
 |.non=>uF
 |.bl _=>uF
 |.int _=>uF
 |.str _=>uF
 |_=>uG
noncomputable def eqV:V->V->Bool
 |.non,.non=>uF
 |.bl a,.bl b=>a == b
 |.bl a,.int b=>(if a then 1 else 0) == b
 |.int a,.bl b=>a == (if b then 1 else 0)
 |.int a,.int b=>a == b
 |.str a,.str b=>a == b
 |_,_=>uG
theorem zmx_ {A:mG}{s:ll}{y x:V}{u v:aT}(ry:RelV y u)(rx:RelV x v)(fy:flatV y=uF)(fx:flatV x=uF):so A s u v (eqV y x):=by
 cases y with
 |non=>
  cases ry;cases x with
  |non=>cases rx;exact qG _
  |bl b=>cases rx;exact SeqAt.EqAt.none_bool b
  |int b=>obtain⟨t,rfl⟩:=rx;exact SeqAt.EqAt.none_int b t
  |str b=>obtain⟨t,rfl⟩:=rx;exact SeqAt.EqAt.none_str b t
  |_=>exact absurd (show uG=uF from fx) mO
 |bl a=>
  cases ry;cases x with
  |non=>cases rx;exact SeqAt.EqAt.bool_none a
  |bl b=>cases rx;exact SeqAt.EqAt.bool_bool a b
  |int b=>obtain⟨t,rfl⟩:=rx;exact SeqAt.EqAt.bool_int a b t
  |str b=>obtain⟨t,rfl⟩:=rx;exact SeqAt.EqAt.bool_str a b t
  |_=>exact absurd (show uG=uF from fx) mO
 |int a=>
  obtain⟨t',rfl⟩:=ry;cases x with
  |non=>cases rx;exact SeqAt.EqAt.int_none a t'
  |bl b=>cases rx;exact SeqAt.EqAt.int_bool a t' b
  |int b=>obtain⟨t,rfl⟩:=rx;exact SeqAt.EqAt.int_int a t' b t
  |str b=>obtain⟨t,rfl⟩:=rx;exact qY a t' b t
  |_=>exact absurd (show uG=uF from fx) mO
 |str a=>
  obtain⟨t',rfl⟩:=ry;cases x with
  |non=>cases rx;exact SeqAt.EqAt.str_none a t'
  |bl b=>cases rx;exact SeqAt.EqAt.str_bool a t' b
  |int b=>obtain⟨t,rfl⟩:=rx;exact qZ a t' b t
  |str b=>obtain⟨t,rfl⟩:=rx;exact SeqAt.EqAt.str_str a t' b t
  |_=>exact absurd (show uG=uF from fx) mO
 |_=>exact absurd (show uG=uF from fy) mO
def eqU (x:V)(u:aT):Bool:=match u with
 |.none=>eqV .non x
 |.bool b=>eqV (.bl b) x
 |.int i _=>eqV (.int i) x
 |.str z _=>eqV (.str z) x
 |_=>uG
theorem zmh_ {x y:V}{u:aT}(r:RelV y u)(f:flatV y=uF):eqU x u=eqV y x:=by
 cases y with
 |non=>cases r;rfl
 |bl b=>cases r;rfl
 |int i=>obtain⟨t,rfl⟩:=r;rfl
 |str z=>obtain⟨t,rfl⟩:=r;rfl
 |_=>exact absurd (show uG=uF from f) mO
theorem zeq_ {x:V}:∀{xs:List V}{us:List aT},Vals xs us->xs.all flatV=uF->us.any (eqU x)=xs.any λy=>eqV y x
 |_,_,.nil,_=>rfl
 |y::xs,u::us,.cons r t,f=>by
  rw[mV,k9]at f;rw[pG,pG,zmh_ r f.1,zeq_ t f.2]
theorem zcq_ {A:mG}{s:ll}{x:V}{v:aT}(rx:RelV x v)(fx:flatV x=uF):∀{xs:List V}{us:List aT},Vals xs us->xs.all flatV=uF->∀u∈us,so A s u v (eqU x u)
 |_,_,.nil,_=>λu hu=>by cases hu
 |y::xs,u::us,.cons r t,f=>λu' hu=>by
  rw[mV,k9]at f;rcases lC.mp hu with rfl |hu
  ·rw[zmh_ r f.1];exact zmx_ r rx f.1 fx
  ·exact zcq_ rx fx t f.2 u' hu
def inV (x:V)(xs:List V):Bool:=xs.any λy=>eqV y x
def rIn (K:Fgg)(neg:Bool):R2:=λx y H Q=>∃p xs,y=.ref p/\(SqL K H p xs\/SqT K H p xs)/\flatV x=uF/\xs.all flatV=uF/\Q (.bl (if neg then !inV x xs else inV x xs)) H
theorem ziq_:OpR X (lX .In) (rIn X.K uG):=by
 intro pins s σ H x y v u Q I rx ry h;obtain⟨p,xs,rfl,hq,fx,fs,q⟩:=h;cases ry;rcases hq with hq |hq
 ·obtain⟨aa,r,pl,hz⟩:=I.list hq
  refine SeqAt.in_listAt (eqU x) pl.isList (λw hw=>zcq_ rx fx r fs w (by simpa using hw)) ⟨.bl _,H,I,rfl,?_⟩
  rw[show aa.toArray.any (eqU x)=aa.any (eqU x) by simp,zeq_ r fs]
  exact q
 ·obtain⟨aa,r,pl,hz⟩:=I.tuple hq
  refine SeqAt.in_tupleAt (eqU x) pl (λw hw=>zcq_ rx fx r fs w (by simpa using hw)) ⟨.bl _,H,I,rfl,?_⟩
  rw[show aa.toArray.any (eqU x)=aa.any (eqU x) by simp,zeq_ r fs]
  exact q
theorem zeL_:OpR X (lX .NotIn) (rIn X.K uF):=by
 intro pins s σ H x y v u Q I rx ry h;obtain⟨p,xs,rfl,hq,fx,fs,q⟩:=h;cases ry;rcases hq with hq |hq
 ·obtain⟨aa,r,pl,hz⟩:=I.list hq
  refine SeqAt.notIn_listAt (eqU x) pl.isList (λw hw=>zcq_ rx fx r fs w (by simpa using hw)) ⟨.bl _,H,I,rfl,?_⟩
  rw[show aa.toArray.any (eqU x)=aa.any (eqU x) by simp,zeq_ r fs]
  exact q
 ·obtain⟨aa,r,pl,hz⟩:=I.tuple hq
  refine SeqAt.notIn_tupleAt (eqU x) pl (λw hw=>zcq_ rx fx r fs w (by simpa using hw)) ⟨.bl _,H,I,rfl,?_⟩
  rw[show aa.toArray.any (eqU x)=aa.any (eqU x) by simp,zeq_ r fs]
  exact q
theorem ze4_:CallR X (.builtin "len") (λxs H Q=>∃p ys,xs=[.ref p]/\(SqL X.K H p ys\/SqT X.K H p ys)/\Q (.int ys.length) H):=by
 intro pins s σ H xs us Q I r h;obtain⟨p,ys,rfl,hq,q⟩:=h;obtain⟨u,rfl,rx⟩:=vals1 r;cases rx;have hn:=line63;rcases hq with hq |hq
 ·obtain⟨aa,r',pl,hz⟩:=I.list hq
  have hlen:=r'.length;exact Calls.call_len_list pl.isList (by simp only[lx]<;>lia) ⟨.int ys.length,H,I.tok _,⟨s.toks+1,by rw[lx,hlen]⟩,q⟩
 ·obtain⟨aa,r',pl,hz⟩:=I.tuple hq
  have hlen:=r'.length;exact len_tuple pl (by simp only[lx]<;>lia) ⟨.int ys.length,H,I.tok _,⟨s.toks+1,by rw[lx,hlen]⟩,q⟩
theorem zeU_:CallR X (.builtin "len") (λxs H Q=>∃z,xs=[.str z]/\z.length<=lE/\Q (.int z.length) H):=by
 intro pins s σ H xs us Q I r h;obtain⟨z,rfl,hz,q⟩:=h;obtain⟨u,rfl,t,rfl⟩:=vals1 r;have hn:=line63;exact len_str (by lia) ⟨.int z.length,H,I.tok _,⟨_,rfl⟩,q⟩
theorem ze1_:CallR X (.type "list") (λxs H Q=>∃p ys,xs=[.ref p]/\(SqL X.K H p ys\/SqT X.K H p ys)/\∀l,H l=uE->Q (.ref l) (upd H l (.lst ys))):=by
 intro pins s σ H xs us Q I r h;obtain⟨p,ys,rfl,hq,q⟩:=h;obtain⟨u,rfl,rx⟩:=vals1 r;cases rx
 have fin:∀(aa:List aT),Vals ys aa->ys.length<=lE->∀(h':Heap) (c':Nat),(∀b o',s.heap.get? b=uD o'->h'.get? b=uD o') ->
   h'.get? s.heap.objs.size=uD {cls:=.type "list",dict:=uE,data:=.seq aa.toArray c',slots:=#[]}->EP X pins σ Q (.ref s.heap.objs.size) {s with heap:=h'}:=λaa r' hz h' c' kp e=>
  ⟨.ref s.heap.objs.size,_,I.laid (t':=s.toks) kp (lp _) (show ObjOk X.prog X.w _ h' _ (.lst ys)from⟨hz,aa,c',r',e⟩),rfl,q _ (I.hok.fresh (lp _))⟩
 rcases hq with hq |hq
 ·obtain⟨aa,r',pl,hz⟩:=I.list hq
  have hlen:=r'.length;obtain⟨o,ho,hc,n,hd⟩:=pl.isList;exact call_list_seq p (.inl rfl) ho hc hd (λh' c' kp e=>fin aa r' hz h' c' kp e) (by simp only[lx]<;>lia)
 ·obtain⟨aa,r',pl,hz⟩:=I.tuple hq
  have hlen:=r'.length;obtain⟨o,ho,hc,n,hd⟩:=pl;exact call_list_seq p (.inr rfl) ho hc hd (λh' c' kp e=>fin aa r' hz h' c' kp e) (by simp only[lx]<;>lia)
def tyV (K:Fgg)(T:String)(x:V)(H:Hp):Prop:=match x with
 |.str _=>T="str"
 |.int _=>T="int"
 | .ref p=>(T="list" /\ ∃xs,SqL K H p xs)\/(T="tuple" /\ ∃o,K.lookup p=uD o/\o.cls=.type "tuple" /\ o.dict=uE) \/
   (T="dict" /\ ((∃kvs,H p=uD (.dK kvs))\/∃kvs,H p=uD (.dT kvs)))\/(T="set" /\ ∃S n,H p=uD (.set S n))
 |_=>False
theorem zny_ {pins:Pnn}{σ:St}{H:Hp}{s:ll}{T:String}{x:V}{v:aT}(I:Inv X pins σ H s)(r:RelV x v)(ty:tyV X.K T x H):
  s.TypeIs v T/\∀a,v=.ref a->∃ob,s.heap.get? a=uD ob/\ob.dict=uE:=by
 cases x with
 |str z=>
  obtain⟨t,rfl⟩:=r;cases(show T="str" from ty)
  exact⟨typeIs_str s z t,λ_ e=>nomatch e⟩
 |int i=>
  obtain⟨t,rfl⟩:=r;cases(show T="int" from ty)
  exact⟨typeIs_int s i t,λ_ e=>nomatch e⟩
 |ref p=>
  cases r;rcases ty with⟨rfl,xs,hq⟩|⟨rfl,o,hk,hc,hd⟩|⟨rfl,hk⟩|⟨rfl,S,n,hk⟩
  ·obtain⟨aa,_,pl,_⟩:=I.list hq
   refine⟨pl.isList.typeIs,λa e=>?_⟩
   cases e;obtain⟨o,n,e,c,hd,_⟩:=pl;exact⟨o,e,hd⟩
  ·refine⟨⟨o,I.kIn p o hk,hc⟩,λa e=>?_⟩
   cases e;exact⟨o,I.kIn _ o hk,hd⟩
  ·have z:∃o,s.heap.get? p=uD o/\o.ExactDict:=by
    rcases hk with⟨kvs,hk⟩|⟨kvs,hk⟩
    ·obtain⟨_,_,_,_,o,_,_,e,ex,_⟩:=I.hok p _ hk
     exact⟨o,e,ex⟩
    ·obtain⟨_,_,_,_,o,_,_,e,ex,_⟩:=I.hok p _ hk
     exact⟨o,e,ex⟩
   obtain⟨o,e,ex⟩:=z;refine⟨⟨o,e,ex.1⟩,λa e2=>?_⟩
   cases e2;exact⟨o,e,ex.2.1⟩
  ·obtain⟨o,_,_,_,e,ex,_⟩:=I.hok p _ hk
   refine⟨⟨o,e,ex.1⟩,λa e2=>?_⟩
   cases e2;exact⟨o,e,ex.2.1⟩
 |_=>exact mx ty
def tBM0 (K:Fgg)(T:String)(r:V->List V->Hp->VK->Prop)(to:TE):TE:=λσ H Q=>to σ H λx H1=>tyV K T x H1/\r x [] H1 Q
def tBM (K:Fgg)(T:String)(r:V->List V->Hp->VK->Prop)(to:TE)(t:TA):TE:=λσ H Q=>to σ H λx H1=>tyV K T x H1/\t σ H1 λxs H2=>r x xs H2 Q
variable {o e:lN}{es:List lN}{to:TE}{t:TA}{name:Str}{apos ak:Pos}{T id:String}{r:V->List V->Hp->VK->Prop}
theorem zoU_ (pa:PlainAttrs T)(slot:Slot T name id)(gf:typeOf (.builtin id)=pure (.type "method_descriptor"))(hm:MtR X id r)(ho:PE X o to)
  (bR:attributeBase o name X.env (eval o X.env)=eval o X.env:=by rfl) (bQ:(apos.endLine == ak.line)=uF:=by rfl):PE X (.Call (.Attribute o name apos) [] [] ak) (tBM0 X.K T r to):=by
 intro pins s σ H Q I h;refine wpAny_Call_method0_late bR bQ (thn (ho pins s σ H _ I h) λv s1 ab=>?_)
 obtain⟨x,H1,I1,r1,ty,q1⟩:=ab;obtain⟨h1,h2⟩:=zny_ I1 r1 ty;exact⟨T,id,pa,slot,gf,h1,h2,Calls.callWith_builtin rfl (PySem.evalArgs_none (hm pins s1 σ H1 x [] v [] Q I1 r1 .nil q1))⟩
theorem pe_bm (pa:PlainAttrs T)(slot:Slot T name id)(gf:typeOf (.builtin id)=pure (.type "method_descriptor"))(hm:MtR X id r)(ho:PE X o to)(ha:PA X (e::es) t)
  (bR:attributeBase o name X.env (eval o X.env)=eval o X.env:=by rfl)
  (gE:((oP ak (l7 (e::es) X.env)).all (λx=>!x.1) && (rp ak (qf [] X.env)).all (λx=>x.1.isSome)
   && decide ((e::es).length+([]:List Keyword).length+(if([]:List Keyword).isEmpty then 0 else 1)<30))=uF:=by rfl)
  (bQ:(apos.endLine == ak.line)=uF:=by rfl) (hs:l7 (e::es) X.env=(uG,eval e X.env)::l7 es X.env:=by rfl) (cR:(oP ak (l7 es X.env)).any (·.1)=uG:=by rfl):
  PE X (.Call (.Attribute o name apos) (e::es) [] ak) (tBM X.K T r to t):=by
 intro pins s σ H Q I h;refine wpAny_Call_method_late bR gE bQ rfl (thn (ho pins s σ H _ I h) λv s1 ab=>?_)
 obtain⟨x,H1,I1,r1,ty,q1⟩:=ab;obtain⟨h1,h2⟩:=zny_ I1 r1 ty;refine⟨T,id,pa,slot,gf,h1,h2,?_⟩;have hA:=ha ak pins s1 σ H1 _ I1 q1;rw[hs]at hA ⊢;refine Calls.callWith_builtin (by show(uG ||(oP ak (l7 es X.env)).any (·.1))=uG;rw[cR]<;>rfl) (Calls.evalArgs_plain ?_)
 exact thn hA λus s2 ⟨vs,H2,I2,r2,q2⟩=>hm pins s2 σ H2 x vs v us Q I2 r1 r2 q2
end
def MtM (X:Cx)(id:String)(r:V->List V->Hp->VK->Prop):Prop:=
 ∀(pins:Pnn) (s:ll) (σ:St) (H:Hp) (x:V) (xs:List V) (v:aT) (us:List aT) (Q:VK),Inv X pins σ H s->RelV x v->Vals xs us->r x xs H Q ->
  lU (model X.prog X.w) X.A (call (.builtin id) (v::us)) (EP X pins σ Q) X.xe s
theorem Vals.one:∀{x:V}{us:List aT},Vals [x] us->∃u,us=[u]/\RelV x u
 |_,_,.cons r .nil=>⟨_,rfl,r⟩
theorem Vals.dropLast {xs:List V}{us:List aT}(h:Vals xs us):Vals xs.dropLast us.dropLast:=by
 induction h with
 |nil=>exact .nil
 |cons r t ih=>
  cases t with
  |nil=>exact .nil
  |cons q t'=>exact .cons r ih
theorem Vals.rep {xs:List V}{us:List aT}(h:Vals xs us):∀k:Nat,Vals (lF k xs).flatten (lF k us).flatten
 |0=>.nil
 |k+1=>by
  rw[mH,mH,ox,ox];exact Vals.append h (Vals.rep h k)
theorem zoR_ {α:Type}(l:List α):l.eraseIdx (l.length-1)=l.dropLast:=by
 induction l with
 |nil=>rfl
 |cons a r ih=>
  cases r with
  |nil=>rfl
  |cons b r=>
   have e:(a::b::r).length-1=((b::r).length-1)+1:=by
    have h1:(a::b::r).length=r.length+2:=rfl;have h2:(b::r).length=r.length+1:=rfl;lia
   rw[e,List.eraseIdx_cons_succ,ih]
   all_goals rfl
theorem zfj_ (aa:List aT):∀(k:Nat) (acc:List aT),
  qE (λx1 x2=>x1++x2) acc.toArray (lF k aa.toArray)=(acc++(lF k aa).flatten).toArray
 |0,acc=>by simp
 |k+1,acc=>by
  have e:acc.toArray++aa.toArray=(acc++aa).toArray:=by simp
  have e2:(acc++aa)++(lF k aa).flatten=acc++(lF (k+1) aa).flatten:=by
   rw[mH,ox,oy]
  rw[<- e2,<- zfj_ aa k (acc++aa),<- e,mH,m6]
section
variable {X:Cx}{pins:Pnn}{σ:St}{H:Hp}{s:ll}{l:lu}{xs ys:List V}
theorem Inv.lset {aa its':List aT}{n:Nat}{f:Array aT->Array aT}{t':Nat}(I:Inv X pins σ H s)(hH:H l=uD (.lst xs))
  (e:s.heap.get? l=uD {cls:=.type "list",data:=.seq aa.toArray n}) (hf:f aa.toArray=its'.toArray) (hv:Vals ys its') (hz:ys.length<=lE):
  Inv X pins σ (upd H l (.lst ys)) {s with heap:=s.heap.update l (qB f),toks:=t'}:=by
 have q:=PySem.IsL.update e f;rw[hf]at q;refine I.write (x:=l) (e:=l) (by rw[hH];exact trivial) (.inl rfl) (λb' u hb hu=>(qC s.heap (qB f) (pV hb)).trans hu) ⟨_,q⟩ ?_
 exact⟨hz,its',_,hv,q⟩
theorem Inv.lnew {aa:List aT}{t':Nat}(I:Inv X pins σ H s)(hv:Vals ys aa)(hz:ys.length<=lE):
  Inv X pins σ (upd H s.heap.objs.size (.lst ys)) {s with heap:=s.heap.push {cls:=.type "list",data:=.seq aa.toArray},toks:=t'}:=
 I.laid (λ_ _ q=>lh _ q) (lp _) ⟨hz,aa,0,hv,lI _ rfl⟩
theorem Inv.fresh (I:Inv X pins σ H s):H s.heap.objs.size=uE:=I.hok.fresh (lp _)
theorem Inv.lstM (I:Inv X pins σ H s)(hH:H l=uD (.lst xs)):xs.length<=lE/\∃(aa:List aT) (n:Nat),Vals xs aa/\xs.length=aa.length/\s.heap.get? l=uD {cls:=.type "list",data:=.seq aa.toArray n}:=by
 obtain⟨z,aa,n,r,e⟩:=I.hok l _ hH;exact⟨z,aa,n,r,r.length,e⟩
theorem notLongL {n:Nat}(h:n<=lE):oE n=uG:=by
 unfold oE;exact decide_eq_false (by lia)
end
section
variable {X:Cx}
def rAppend:V->List V->Hp->VK->Prop:=λx vs H Q=>∃l xs y,x=.ref l/\vs=[y]/\H l=uD (.lst xs)/\xs.length<lE/\Q .non (upd H l (.lst (xs++[y])))
theorem zdl_:MtM X "list.append" rAppend:=by
 intro pins s σ H x vs v us Q I rx rv h;obtain⟨l,xs,y,rfl,rfl,hH,hz,q⟩:=h;cases rx;obtain⟨u,rfl,ru⟩:=rv.one;obtain⟨z,aa,n,r,hl,e⟩:=I.lstM hH;refine call_meets F.slot_list_append ⟨_,e,rfl⟩ F.entry_list_append (F.args_list_append_2 _ _) (PySem.list_append l aa.toArray n u (by rw[lx];lia)) ⟨e,?_⟩
 refine⟨.non,_,I.lset (its':=aa++[u]) hH e (by simp) (r.append (.cons ru .nil)) ?_,rfl,q⟩
 rw[lb,oW];lia
def rExtend:V->List V->Hp->VK->Prop:=λx vs H Q=>∃l b xs zs,x=.ref l/\vs=[.ref b]/\H l=uD (.lst xs)/\H b=uD (.lst zs)/\xs.length+zs.length<=lE/\Q .non (upd H l (.lst (xs++zs)))
theorem zfc_:MtM X "list.extend" rExtend:=by
 intro pins s σ H x vs v us Q I rx rv h;obtain⟨l,b,xs,zs,rfl,rfl,hH,hB,hz,q⟩:=h;cases rx;obtain⟨u,rfl,ru⟩:=rv.one;cases ru;obtain⟨z,aa,n,r,hl,e⟩:=I.lstM hH;obtain⟨z2,ai,n2,r2,aV,e2⟩:=I.lstM hB;have hsz:aa.toArray.size+ai.toArray.size<=lE:=by rw[lx,lx];lia
 have bP:¬(!aa.toArray.isEmpty && oE (aa.toArray.size+ai.toArray.size))=uF:=by
  rw[notLongL hsz,pd];exact mO
 refine call_meets F.slot_list_extend ⟨_,e,rfl⟩ F.entry_list_extend (F.args_list_extend_2 _ _)
  (AutoSeq1.list_extend_list_list_0 l aa.toArray n b ai.toArray n2 bP (by rw[lx];lia) (by lia)) ⟨e,e2,?_⟩
 refine⟨.non,_,I.lset (its':=aa++ai) hH e (by simp) (r.append r2) ?_,rfl,q⟩
 rw[lb];lia
def rCat:R2:=λx y H Q=>∃l b xs zs,x=.ref l/\y=.ref b/\H l=uD (.lst xs)/\H b=uD (.lst zs)/\xs.length+zs.length<=lE/\∀p,H p=uE->Q (.ref p) (upd H p (.lst (xs++zs)))
theorem zpP_:OpR X (nR .Add) rCat:=by
 intro pins s σ H x y v u Q I rx ry h;obtain⟨l,b,xs,zs,rfl,rfl,hH,hB,hz,q⟩:=h;cases rx;cases ry;obtain⟨z,aa,n,r,hl,e⟩:=I.lstM hH;obtain⟨z2,ai,n2,r2,aV,e2⟩:=I.lstM hB;refine PySem.P.add_list e e2 ?_ (by rw[lx,lx];lia)
 have ea:aa.toArray++ai.toArray=(aa++ai).toArray:=by simp
 rw[ea];exact⟨.ref _,_,I.lnew (t':=s.toks) (r.append r2) (by rw[lb];lia),rfl,q _ I.fresh⟩
def rRep:R2:=λx y H Q=>∃l k xs,x=.ref l/\y=.int k/\H l=uD (.lst xs) /\ -(2 ^ 63)<=k/\k<2 ^ 63/\xs.length*k.toNat<=lE /\
 ∀p,H p=uE->Q (.ref p) (upd H p (.lst (lF k.toNat xs).flatten))
theorem zjn_ {α:Type}(xs:List α)(k:Nat):(lF k xs).flatten.length=k*xs.length:=by
 induction k with
 |zero=>simp
 |succ k ih=>rw[mH,ox,lb,ih,Nat.succ_mul,Nat.add_comm]
theorem zrI_:OpR X (nR .Mult) rRep:=by
 intro pins s σ H x y v u Q I rx ry h;obtain⟨l,k,xs,rfl,rfl,hH,h1,h2,hz,q⟩:=h;cases rx;obtain⟨t,rfl⟩:=ry;obtain⟨z,aa,n,r,hl,e⟩:=I.lstM hH;have hlen:aa.toArray.size*k.toNat<=lE:=by rw[lx,<- hl];exact hz
 have gJ:¬aa.toArray.size*k.toNat > (2 ^ 63-1) / 8:=by
  have:(lE:Nat)<=(2 ^ 63-1) / 8:=by decide
  lia
 have gD:¬(!Builtin.List.listFitsIndex k)=uF:=by
  rw[fitsIndex_both h1 h2];exact mO
 have bP:¬oE (aa.toArray.size*k.toNat)=uF:=by
  rw[notLongL hlen];exact mO
 have gq:qE (λx1 x2=>x1++x2) #[] (lF (if aa.toArray.isEmpty=uF then 0 else k.toNat) aa.toArray)=(lF k.toNat aa).flatten.toArray:=by
  have f0:∀m:Nat,qE (λx1 x2=>x1++x2) #[] (lF m aa.toArray)=(lF m aa).flatten.toArray:=λm=>by
   have:=zfj_ aa m [];rw[nO]at this;exact this
  rw[f0];cases aa with
  |nil=>simp
  |cons a r'=>rw[if_neg (by simp)]
 refine wpAny_binaryOp_repeat_ref (T:="list") (U:="int") (by decide) ⟨_,e,rfl⟩ (λs'=>typeIs_int s' k t) noFill_list_mul F.fills_int_mul rX repeat_list F.slot_int_index.lookup
  (call_meets rX (typeIs_int s k t) F.entry_int_rmul (F.args_int_rmul_2 _ _) (int___rmul___int_list k t l aa.toArray n)
   ⟨e,rfl,⟨_,e,rfl⟩,call_meets F.slot_list_mul ⟨_,e,rfl⟩ F.entry_list_mul (F.args_list_mul_2 _ _) (AutoListH.list___mul___list_int_3 l aa.toArray n k t gD gJ bP) ⟨e,?_⟩⟩)
 rw[gq];exact⟨.ref _,_,I.lnew (t':=s.toks) (r.rep k.toNat) (by rw[zjn_,tj];exact hz),rfl,q _ I.fresh⟩
end
end L2
namespace Att
open PySem PySem.W PySem.Calls PyProof.Rows
theorem zc9_ {P:Params}{h:Heap}:∀(ns:List Int) (vs:List aT),WellAll P h vs (ns.map WData.int)->IntsAre vs ns:=by
 intro ns;induction ns with
 |nil=>
  intro vs w;rw[nF]at w;cases w;exact .nil
 |cons n ns ih=>
  intro vs w;rw[lq]at w;cases w with
  |cons a b=>
   cases a;exact .cons _ _ (ih _ b)
theorem zim_ {l:OpenLaw}{n:Nat}(hn:l.most=uD n){P:Params}{h:Heap}{args:List WData}{vals:List aT}
  (cf:l.row.toRowW.claim.pre args=uF) (aq:WellAll P h vals args):
  ∃a vs ns,vals=[mS a]/\args=[WData.list (ns.map WData.int)]/\h.get? a=uD {cls:=.type "list",data:=.seq vs.toArray}/\IntsAre vs ns/\ns.length<=n:=by
 have jv:WShape.hasAll [] args [.list .int]=uF:=(pre_splitW cf).1;have hc:l.pre.holds [] {args:=args}=uF:=(pre_splitW cf).2;obtain⟨d,r,rfl,h1,h2⟩:=hasAllW_cons jv;obtain rfl:=hasAllW_nil h2;obtain⟨xs,rfl,h3⟩:=hasW_list h1;obtain⟨ns,rfl⟩:=items_int h3;have hlen:ns.length<=n:=by
  unfold OpenLaw.pre at hc;have h4:(WTm.not (.lt (.lit (.int (n:Int))) (.len (.arg 0)))).holds [] {args:=[.list (ns.map .int)]}=uF:=by
   have h4:=(holds_andW hc).1;rw[hn]at h4;exact h4
  have h5:=condW_of h4 (w_not (w_lt w_lit (w_len_list (w_arg rfl))));rw[k8]at h5;refine rL λq=>?_
  have q':(n:Int)<((ns.length:Nat):Int):=by lia
  first
   |(rw[decide_eq_true q']at h5;exact absurd h5 (by decide))
   |(simp at h5;lia)
 cases aq with
 |cons w1 w2=>
  cases w2;cases w1 with
  |list ho cZ=>exact⟨_,_,ns,rfl,rfl,ho,zc9_ ns _ cZ,hlen⟩
theorem zi6_ (l:OpenLaw)(args:List WData):l.row.toRowW.claim.post args (.bool uF) args=uF:=
 postW_of (r:=l.row.toRowW) (X:=(uF == uF))
  (show WShape.has [] (.bool uF) .bool=uF by first |rfl |decide |simp[WShape.has,WShape.arms,WShape.armsAll])
  (show(WTm.eq .res (.lit (.bool uF))).value [] {args:=args,res:=uD (.bool uF),after:=args}=uD (.bool (uF == uF))from w_eq_bool (w_res rfl) w_lit) rfl
section
end
end Att
namespace L2
open PySem PySem.Spec PyProof.Rows
theorem za9_:∀{vs:List aT}{ns:List Int},IntsAre vs ns->Vals (ns.map V.int) vs
 |_,_,.nil=>.nil
 |_,_,.cons n t h=>.cons ⟨t,rfl⟩ (za9_ h)
def Only (H:Hp):Prop:=∀b,H b=uE\/∃o xs,H b=uD (.frz o (.lst xs))
theorem zk0_ {P:lY}{w:mq}{K:Fgg}{mg mb:Str->Option aT}{CX:CXT}{k:Nat}{fa a:lu}{fd:mW}{x:Str}{sp:Sp}{ae:ll}{vs:List aT}{ns:List Int}
  (KX:K.In ae.heap) (fF:ae.heap.Ns lS mg) (hb:ae.heap.Ns builtinsNs mb) (jS:∀x:Str,x ≠ "__name__" -> mb x=nS x) (gu:ae.heap.NoLimit) (hg:ae.gens=#[])
  (ha:ae.heap.get? a=uD {cls:=.type "list",data:=.seq vs.toArray}) (hi:IntsAre vs ns) (hl:ns.length<=lE) (hr:Room k callerA)
  (F:∀base:Heap,K.In base->base.Ns lS mg->FnOk P w K mg base CX k fa fd [x] sp) (eV:∀(s:ll) (u:aT),BindsTo s fd ⟨[u],[]⟩ [(x,u)])
  (dA:∀H:Hp,Only H->SqL K H a (ns.map V.int)->sp [.ref a] H (λv _=>v=.bl uF) λ_ _ _=>False)
  (gL:∀H e s',CX [] H ae (λ_ _ _=>False) e s'->False):
  codeAny (model P w) callerA (.call (.ref fa) ⟨[.ref a],[]⟩) (λr s'=>r=.ok (.ret (.bool uF))/\OldK ae.heap s'.heap/\s'.os=ae.os/\AllBare s'.gens) ae:=by
 have rv:=za9_ hi;have fU:=hi.length
 have core:∀H:Hp,Only H->SqL K H a (ns.map V.int)->HOk P w H ae.heap->(∀b,H b≠uE->b=a)->(H a≠uE->K.lookup a=uE) ->
   codeAny (model P w) callerA (.call (.ref fa) ⟨[.ref a],[]⟩) (λr s'=>r=.ok (.ret (.bool uF))/\OldK ae.heap s'.heap/\s'.os=ae.os/\AllBare s'.gens) ae:=by
  intro H hO hS hok hA hK;have bu:∀{b:lu}{o:tP},ae.heap.get? b=uD o->H b=uE->(hidT ae.heap H).get? b=uD o:=λe n=>zkj_ e n
  have dO:∀{b:lu}{o:tP}{es:Array DictEntry}{ep:Nat},ae.heap.get? b=uD o->o.data=.dict es ep->H b=uE:=λ{b o es ep} e d=>by
   cases q:H b with
   |none=>rfl
   |some u=>
    have e':b=a:=hA b (by rw[q];simp)
    subst e';rw[ha]at e;cases e;have d':Data.seq vs.toArray _=Data.dict es ep:=d;cases d'
  have fw:∀{b:lu}{m:Str->Option aT},ae.heap.Ns b m->(hidT ae.heap H).Ns b m:=λ{b m} ⟨o,es,ep,e,d,r⟩=>⟨o,es,ep,bu e (dO e d),d,r⟩
  have iF:K.In (hidT ae.heap H):=λb o e=>bu (KX b o e) (by
   cases q:H b with
   |none=>rfl
   |some u=>
    have e':b=a:=hA b (by rw[q];simp)
    subst e';rw[hK (by rw[q];simp)]at e;cases e)
  have hM:Mod K mg (hidT ae.heap H):=⟨iF,fw fF,⟨mb,fw hb,jS⟩,let⟨mc,h1,h2⟩:=gu;⟨mc,fw h1,h2⟩⟩
  have e0:Env0 P w K mg (hidT ae.heap H) callerA [] ae H:=⟨rfl,hM,λb o e=>zmP_ e,qz (zio_ _ _),trivial,λb hb=>absurd (show b∈([]:List lu)from hb) (by simp),hok,.of_eq hg⟩
  refine codeAny_mono ((F _ iF (fw fF)).run callerA [] ae H ⟨[.ref a],[]⟩ [.ref a] [.ref a] _ _ hr e0 (eV ae (.ref a)) (.cons rfl .nil) (dA H hO hS)) λr s' h=>?_
  cases r with
  |error e=>exact(gL H e s' h).elim
  |ok fl=>
   cases fl with
   |next=>exact mx h
   |brk=>exact mx h
   |cont=>exact mx h
   |ret u=>
    obtain⟨v,H',os,bare,un,hok',r',q⟩:=h;have q':v=.bl uF:=q;subst q';obtain rfl:u=oY uF:=r';refine⟨rfl,OldK.of_keep λb o e=>?_,os,bare⟩
    cases q:H b with
    |none=>exact un.keep b o e q (by intro z;exact absurd (show b∈([]:List lu)from z) (by simp)) (by simp)
    |some u=>
     rcases hO b with z |⟨ob,xs,z⟩
     ·rw[q]at z;cases z
     ·have z2:=un.frzs b ob _ z
      obtain⟨e1,_⟩:=hok b _ z;obtain⟨e2,_⟩:=hok' b _ z2;rw[e]at e1;cases e1;exact e2
 cases hk:K.lookup a with
 |some o=>
  have e:=KX a o hk;rw[ha]at e;cases e;refine core (λ_=>uE) (λ_=>.inl rfl) (.inr ⟨_,vs.toArray,_,hk,rfl,rfl,rfl,by rw[lx,fU];exact hl,by simpa using rv⟩) (λb u z=>by have z':(uE:Option HO)=uD u:=z;cases z') (λb z=>absurd rfl z) λz=>absurd rfl z
 |none=>
  refine core (λb=>if b=a then uD (.frz {cls:=.type "list",data:=.seq vs.toArray} (.lst (ns.map V.int)))else uE) (λb=>?_) (.inl (.inr ⟨{cls:=.type "list",data:=.seq vs.toArray},if_pos rfl⟩)) (λb u z=>?_) (λb z=>?_) λ_=>hk
  ·by_cases hb:b=a
   ·exact .inr ⟨_,_,if_pos hb⟩
   ·exact .inl (if_neg hb)
  ·by_cases hb:b=a
   ·have z':=(if_pos hb).symm.trans z
    cases z';subst hb;exact⟨ha,by rw[k8];exact hl,vs,_,rv,ha⟩
   ·have z':=(if_neg hb).symm.trans z
    cases z'
  ·by_cases hb:b=a
   ·exact hb
   ·exact absurd (if_neg hb) z
noncomputable def inClass (s:me)(j:Nat):me:=match s with
 |.ClassDef _ _ _ body _ _ _ _ _ _ _=>body.getD j (.Pass ⟨0,0,0,0⟩)
 |_=>.Pass ⟨0,0,0,0⟩
noncomputable def defArgs (s:me):Arguments:=match s with
 |.FunctionDef _ a _ _ _ _ _ _ _ _=>a
 |_=>{posonlyargs:=[],args:=[],vararg:=uE,kwonlyargs:=[],kw_defaults:=[],kwarg:=uE,defaults:=[]}
noncomputable def defBody (s:me):List me:=match s with
 |.FunctionDef _ _ b _ _ _ _ _ _ _=>b
 |_=>[]
noncomputable def defScope (s:me):Scope:=match s with
 |.FunctionDef _ _ _ _ _ _ sc _ _ _=>sc
 |_=>{kind:=.function,names:=[],isGenerator:=uG,isCoroutine:=uG}
abbrev CX0:CXT:=λ_ _ _ _ _ _=>False
abbrev E0:XK:=λ_ _ _=>False
structure Fun (K:Fgg)(x qual:Str)(st:me)(f:lu)(fd:mW):Prop where
 ex:∃(oc:aT) (od:Option lu) (kV doc pm:aT) (an:Option lu) (ah ct:aT) (aj:Array (Option aT)),
  fd=W.fnOf x qual (defArgs st) (defBody st) (defScope st) .none kV doc pm an ah ct/\K.lookup f=uD ⟨oc,od,.func fd,aj⟩/\pX K ah qual=uF
 kp:oI K (.ref f)=uF
section
variable {K:Fgg}
theorem Fun.binds {x qual:Str}{st:me}{f:lu}{fd:mW}{ps:List Str}(F:Fun K x qual st f fd)
  (h:∀(kV doc pm:aT) (an:Option lu) (ah ct:aT) (us:List aT),us.length=ps.length->bindArgs (W.fnOf x qual (defArgs st) (defBody st) (defScope st) .none kV doc pm an ah ct) ⟨us,[]⟩=pure (ps.zip us)):Binds K fd ps []:=by
 obtain⟨oc,od,kV,doc,pm,an,ah,ct,aj,rfl,lk,bt⟩:=F.ex;exact .all (h kV doc pm an ah ct)
theorem zmz_ {x qual:Str}{st:me}{f:lu}{oc:aT}{od an:Option lu}{aj:Array (Option aT)}{kV doc pm ah ct:aT}(l:K.lookup f=uD ⟨oc,od,.func (W.fnOf x qual (defArgs st) (defBody st) (defScope st) .none kV doc pm an ah ct),aj⟩)
  (c:pX K ah qual=uF) (k:oI K (.ref f)=uF):Fun K x qual st f (W.fnOf x qual (defArgs st) (defBody st) (defScope st) .none kV doc pm an ah ct):=⟨⟨oc,od,kV,doc,pm,an,ah,ct,aj,rfl,l,c⟩,k⟩
end
def Same (H H':Hp):Prop:=∀b o,H b=uD o->H' b=uD o
theorem Same.refl (H:Hp):Same H H:=λ_ _ h=>h
theorem Same.trans {H H1 H2:Hp}(a:Same H H1)(b:Same H1 H2):Same H H2:=λc o h=>b c o (a c o h)
theorem Same.free {H H':Hp}(e:Same H H'){l:lu}(h:H' l=uk):H l=uk:=by
 cases q:H l with
 |none=>rfl
 |some o=>
  rw[e l o q]at h;cases h
theorem Same.seq {K:Fgg}{H H':Hp}{a:lu}{xs:List V}(e:Same H H')(h:SqL K H a xs):SqL K H' a xs:=by
 rcases h with(h |⟨o,h⟩)|h
 ·exact .inl (.inl (e _ _ h))
 ·exact .inl (.inr ⟨o,e _ _ h⟩)
 ·exact .inr h
noncomputable def Itp (n:Nat)(f:Nat->V):It:=⟨λi _=>i<n,λi H x H'=>H'=H/\x=f i,λi _=>n<=i⟩
noncomputable def ownTups:List String:=["enumerate", "zip", "dict_itemiterator", "dict_reverseitemiterator", "odict_iterator", "itertools.zip_longest", "itertools.pairwise"]
theorem zfd_ {P:lY}{w:mq}{K:Fgg}{tg:lN}{it:lu}{n:Nat}{f:Nat->V}{Pw:Nat->aT->Prop}{St:Nat->Heap->Prop}
  (W:∀A:mG,A.handled=uE->Walks P w A it [it] [it] n Pw St) (hv:∀i v,i<n->Pw i v->RelV (f i) v)
  (ho:∀i h,St i h->∃o nm vs,h.get? it=uD o/\o.cls=.type nm/\o.data=.fields vs/\ownTups.contains nm=uG)
  (dZ:∀(A:mG) (i:Nat) (s:ll) (Q:aT->ll->Prop) (E:aT->ll->Prop),St i s.heap->Q (.ref it) s->lU (model P w) A (pyIter (.ref it)) Q E s)
  (eD:∀i h h',St i h->(∀b∈[it],∀o,h.get? b=uD o->h'.get? b=uD o)->St i h'):
  Turn P w K tg (Itp n f) [it] it (λi h=>i<=n/\St i h) where
 mem:=by simp
 obj:=λi h st b hb=>by
  have e:b=it:=by simpa using hb
  subst e;obtain⟨o,nm,vs,e,c,d,_⟩:=ho i h st.2;exact⟨o,e,λv z=>by rw[d]at z;cases z⟩
 keep:=λi h h' st k=>⟨st.1,eD i h h' st.2 k⟩
 item:=by
  intro X hP hw hK hc i pins s σ H E I hf st hg;subst hP hw hK;obtain⟨f0,f1,f2,f3,f4,f5⟩:=hf it (by simp)
  have hi:i<n:=hg;refine(W X.A (I.ok.hd hc)).item i s _ _ hi st.2 λv h' tk dY aK kk=>?_
  have I1:Inv X pins σ H {s with heap:=h',toks:=tk}:=I.turned (λb o hb e=>kk b o (by simpa using hb) e) f0 f1 f3 f4 f5
  obtain⟨o,nm,vs,e,c,d,hn⟩:=ho _ _ aK;exact⟨_,rfl,znl_ (s:={s with heap:=h',toks:=tk}) (n:=nm) e c d hn ⟨f i,H,I1,hv i v hi dY,⟨rfl,rfl⟩,⟨hi,aK⟩,λb hb=>(hf b hb).1⟩⟩
 done:=by
  intro X hP hw hK hc i pins s σ H E I hf st hg;subst hP hw hK;obtain⟨f0,f1,f2,f3,f4,f5⟩:=hf it (by simp)
  have hi:n<=i:=hg;have e:i=n:=qH st.1 hi;subst e;exact(W X.A (I.ok.hd hc)).done s _ _ st.2 λh' tk kk=>⟨rfl,I.turned (λb o hb e=>kk b o (by simpa using hb) e) f0 f1 f3 f4 f5⟩
 self:=λA i s Q E st h=>dZ A i s Q E st.2 h
noncomputable def sgn (x:Str)(i:Nat):V:=.str ⟨#[x.cps.getD i 0]⟩
theorem ziE_ {P:lY}{w:mq}{it:lu}{x:Str}{t:Tok}(A:mG)(hA:A.handled=uE):Walks P w A it [it] [it] x.cps.size (SignAt x) (λi h=>h.IsStrIter it (mi x) x t i):=by
 cases ha:x.cps.all (·<128)
 ·have e:mi x="str_iterator":=by simp[mi,ha]
  rw[e];exact Walks.strWide hA it x t
 ·have e:mi x="str_ascii_iterator":=by simp[mi,ha]
  rw[e];exact Walks.strAscii hA it x t
theorem zc1_ {x:Str}{i:Nat}{v:aT}(h:SignAt x i v):RelV (sgn x i) v:=by
 obtain⟨c,u,e,rfl⟩:=h;refine⟨u,?_⟩;have:x.cps.getD i 0=c:=by simp[oX,e]
 rw[this]
theorem zdi_ (x:Str):ownTups.contains (mi x)=uG:=by
 unfold mi;split<;>decide
theorem zkS_ {P:lY}{w:mq}{K:Fgg}{tg:lN}(it:lu)(x:Str)(t:Tok):Turn P w K tg (Itp x.cps.size (sgn x)) [it] it (λi h=>i<=x.cps.size/\h.IsStrIter it (mi x) x t i):=by
 refine zfd_ (Pw:=SignAt x) (λA hA=>ziE_ A hA) (λi v _ h=>zc1_ h) (λi h st=>?_) (λA i s Q E st h=>?_) (λi h h' st k=>?_)
 ·obtain⟨o,e,c,d⟩:=st
  exact⟨o,_,_,e,c,d,zdi_ x⟩
 ·cases ha:x.cps.all (·<128)
  ·have e:mi x="str_iterator":=by simp[mi,ha]
   rw[e]at st;exact wpAny_pyIter_striter_wide st h
  ·have e:mi x="str_ascii_iterator":=by simp[mi,ha]
   rw[e]at st;exact wpAny_pyIter_striter_ascii st h
 ·obtain⟨o,e,r⟩:=st
  exact⟨o,k it (by simp) o e,r⟩
section
end
theorem Inv.turnedL {X:Cx}{pins:Pnn}{σ:St}{H:Hp}{s:ll}{h':Heap}{t':Nat}{ch:List lu}(I:Inv X pins σ H s)(k:∀b o,b∉ch->s.heap.get? b=uD o->h'.get? b=uD o)
  (hf:∀b∈ch,FpOk X pins H b):Inv X pins σ H {s with heap:=h',toks:=t'}:=by
 have dP:∀b u,H b=uD u->b∉ch:=λb u e z=>by rw[(hf b z).1]at e;cases e
 refine I.step (g':=s.gens) (d':=s.drawn) (ch:=ch) (λb hb=>?_) (λb o _ _ hc e _=>k b o hc e) (λb o _ _ hc e _=>⟨o.slots,k b o hc e⟩) (λ_ _ _ _ n=>n)
  (λb o hc e=>⟨o,k b o hc e⟩) (λ_ _ e=>e) (λ_ _ _ e=>e) (λb ps e=>⟨#[],by rw[e];simp⟩) (λm hm=>?_) (λb u e=>?_) I.bare
 ·obtain⟨f0,f1,f2,f3,f4,f5⟩:=hf b hb
  exact⟨f3,f1,f4,f5⟩
 ·obtain⟨o,es,ep,ho,r⟩:=hm
  exact⟨o,es,ep,k _ o (λz=>(hf _ z).2.1 rfl) ho,r⟩
 ·refine(I.hok b u e).stay (λc v hc q=>k c v ?_ q) (λ_ q=>q) λ_ _ q=>q
  rcases hc with z |z
  ·rw[z];exact dP b u e
  ·exact dP c _ z
theorem zfi_ {X:Cx}{pins:Pnn}{σ:St}{H:Hp}{s:ll}{h1:Heap}{tk:Nat}{fm:Tok}{e it:lu}{i:Nat}{x:aT}{y:V}{St:Heap->Prop}{elts:List lN}{kk:Nat}{pos:Pos}{E:aT->ll->Prop}
  (I:Inv X pins σ H s) (hf:∀b∈[e,it],FpOk X pins H b) (he:e<s.heap.objs.size) (hit:it<s.heap.objs.size) (cm:e≠it) (bD:IsEnumOut h1 e it ((i:Int)+1) x s.heap.objs.size) (ry:RelV y x)
  (ht:h1.get? s.heap.objs.size=uD {cls:=.type "tuple",data:=.seq #[.int i fm,x]}) (hz:h1.objs.size=s.heap.objs.size+1) (hk:∀b o,b≠e->b≠it->s.heap.get? b=uD o->h1.get? b=uD o)
  (jV:∀h2,pf e h1 h2->St h2):
  lU (model X.prog X.w) X.A (letOwnedTupleGo (.Tuple elts kk pos) (.ref e) (.ref s.heap.objs.size)) (λ_ s2=>∃z H',Inv X pins σ H' s2/\RelV z (.ref s.heap.objs.size) /\
   (∃p,H p=uE/\z=.ref p/\H'=upd H p (.tup [.int i,y]))/\(IsEnum s2.heap e it ((i+1:Nat):Int) x/\St s2.heap)/\∀b∈[e,it],H' b=uE) E {s with heap:=h1,toks:=tk}:=by
 refine wpAny_letOwnedTupleGo_enum bD λh2 eJ aO=>?_
 replace aO:pf e h1 h2:=aO;have hp:H s.heap.objs.size=uE:=I.hok.fresh (lp _);have aP:s.heap.objs.size≠e:=ph he;have jD:s.heap.objs.size≠it:=ph hit;have I1:Inv X pins σ (upd H s.heap.objs.size (.tup [.int i,y])) {s with heap:=s.heap.push {cls:=.type "tuple",data:=.seq #[.int i fm,x]},toks:=tk}:=by
  refine I.laid (λb u q=>lh _ q) (lp _) ⟨?_,[.int i fm,x],.cons ⟨_,rfl⟩ (.cons ry .nil),⟨_,lI _ rfl,rfl,_,rfl⟩⟩
  show 2<=lE
  decide
 have eI:∀b∈[e,it],FpOk X pins (upd H s.heap.objs.size (.tup [.int i,y])) b:=λb hb=>by
  obtain⟨f0,r⟩:=hf b hb;refine⟨?_,r⟩;rw[zR_ (by rcases lC.mp hb with rfl |hb;exact aP.symm;rcases lC.mp hb with rfl |hb;exact jD.symm;cases hb)]
  exact f0
 have I2:Inv X pins σ (upd H s.heap.objs.size (.tup [.int i,y])) {s with heap:=h2,toks:=tk}:=by
  refine Inv.turnedL (s:={s with heap:=s.heap.push {cls:=.type "tuple",data:=.seq #[.int i fm,x]},toks:=tk}) (ch:=[e,it]) I1 (λb o hb q=>?_) eI
  have iq:b≠e:=λz=>hb (by simp[z])
  have i7:b≠it:=λz=>hb (by simp[z])
  refine(aO.2 b iq).trans ?_;rcases qP q with⟨rfl,rfl⟩|q'
  ·exact ht
  ·exact hk b o iq i7 q'
 refine⟨.ref s.heap.objs.size,_,I2,rfl,⟨s.heap.objs.size,hp,rfl,rfl⟩,⟨?_,jV h2 aO⟩,λb hb=>(eI b hb).1⟩
 have:((i+1:Nat):Int)=(i:Int)+1:=by push_cast;rfl
 rw[this];exact eJ
def Ite (K:Fgg)(l:lu):It:=
 ⟨λi H=>∃xs x,SqL K H l xs/\xs[i]?=uD x,λi H y H'=>∃p x,(∀xs,SqL K H l xs->xs[i]?=uD x)/\H p=uE/\y=.ref p/\H'=upd H p (.tup [.int i,x]),λi H=>∃xs,SqL K H l xs/\xs.length<=i⟩
theorem zf6_ {P:lY}{w:mq}{K:Fgg}{elts:List lN}{kk:Nat}{pos:Pos}(e it l:lu)(cm:e≠it):
  Turn P w K (.Tuple elts kk pos) (Ite K l) [e,it] e (λi h=>(∃old,IsEnum h e it (i:Nat) old)/\h.IsListIter it l i) where
 mem:=by simp
 obj:=λi h st b hb=>by
  obtain⟨⟨old,he⟩,o,ho,c,d⟩:=st;rcases lC.mp hb with rfl |hb
  ·exact⟨_,he,λv z=>by cases z⟩
  ·have e:b=it:=by simpa using hb
   subst e;exact⟨o,ho,λv z=>by rw[d]at z;cases z⟩
 keep:=λi h h' st k=>by
  obtain⟨⟨old,he⟩,hit⟩:=st;exact⟨⟨old,k e (by simp) _ he⟩,hit.at λo q=>k it (by simp) o q⟩
 item:=by
  intro X hP hw hK hc i pins s σ H E I hf st hg;subst hP hw hK;obtain⟨xs,x,hq,hx⟩:=hg;obtain⟨aa,rv,p,hz⟩:=I.list hq;obtain⟨u,hu,ru⟩:=rv.get hx;obtain⟨⟨old,he⟩,hit⟩:=st;refine wpAny_pyNext_enum_item he hit p.isList (x:=u) (by simpa using hu) cm λh1 bD cV gg f9 gB=>?_
  refine⟨_,rfl,?_⟩;have cX:e<s.heap.objs.size:=lL he;have eF:it<s.heap.objs.size:=by obtain⟨o,ho,_⟩:=id hit;exact lL ho
  refine thn (zfi_ (St:=λh2=>h2.IsListIter it l (i+1)) I hf cX eF cm bD ru gg f9 gB λh2 hs=>cV.extBut hs.extBut cm.symm) λ_ s2 q=>?_
  obtain⟨z,H',I2,rz,⟨p,hp,rfl,rfl⟩,⟨eJ,hit2⟩,fr⟩:=q;exact⟨.ref p,_,I2,rz,⟨p,x,λys hy=>by rw[I.list_inj hy hq];exact hx,hp,rfl,rfl⟩,⟨⟨u,eJ⟩,hit2⟩,fr⟩
 done:=by
  intro X hP hw hK hc i pins s σ H E I hf st hg;subst hP hw hK;obtain⟨xs,hq,hx⟩:=hg;obtain⟨aa,rv,p,hz⟩:=I.list hq;obtain⟨⟨old,he⟩,hit⟩:=st;have hl:=rv.length;obtain⟨f0,f1,f2,f3,f4,f5⟩:=hf it (by simp)
  exact wpAny_pyNext_enum_end (I.ok.hd hc) he hit p.isList (by simp;lia) λh' eb=>⟨rfl,I.turned (t':=s.toks) (λb o hb e=>eb b o hb e) f0 f1 f3 f4 f5⟩
 self:=λ_ _ _ _ _ st h=>by
  obtain⟨⟨old,he⟩,_⟩:=st;exact wpAny_pyIter_enum he h
theorem zcl_ {P:lY}{w:mq}{it:lu}{x:Str}{t:Tok}(A:mG)(hA:A.handled=uE):Draws P w A it [it] x.cps.size (λi v=>∃c u,x.cps[i]?=uD c/\v=.str ⟨#[c]⟩ u) (λi h=>h.IsStrIter it (mi x) x t i):=by
 cases ha:x.cps.all (·<128)
 ·have e:mi x="str_iterator":=by simp[mi,ha]
  rw[e];exact Draws.strWide hA it x t
 ·have e:mi x="str_ascii_iterator":=by simp[mi,ha]
  rw[e];exact Draws.strAscii hA it x t
def Ites (n:Nat)(f:Nat->V):It:=
 ⟨λi _=>i<n,λi H y H'=>∃p,H p=uE/\y=.ref p/\H'=upd H p (.tup [.int i,f i]),λi _=>n<=i⟩
theorem zg0_ {P:lY}{w:mq}{K:Fgg}{elts:List lN}{kk:Nat}{pos:Pos}(e it:lu)(x:Str)(t:Tok)(cm:e≠it):
  Turn P w K (.Tuple elts kk pos) (Ites x.cps.size (sgn x)) [e,it] e (λi h=>(∃old,IsEnum h e it (i:Nat) old)/\i<=x.cps.size/\h.IsStrIter it (mi x) x t i) where
 mem:=by simp
 obj:=λi h st b hb=>by
  obtain⟨⟨old,he⟩,_,o,ho,c,d⟩:=st;rcases lC.mp hb with rfl |hb
  ·exact⟨_,he,λv z=>by cases z⟩
  ·have e:b=it:=by simpa using hb
   subst e;exact⟨o,ho,λv z=>by rw[d]at z;cases z⟩
 keep:=λi h h' st k=>by
  obtain⟨⟨old,he⟩,hn,o,ho,r⟩:=st;exact⟨⟨old,k e (by simp) _ he⟩,hn,o,k it (by simp) o ho,r⟩
 item:=by
  intro X hP hw hK hc i pins s σ H E I hf st hg;subst hP hw hK;obtain⟨⟨old,he⟩,hn,hit⟩:=st;have hi:i<x.cps.size:=hg;refine wpAny_pyNext_enum_itemD (zcl_ X.A.in1 (I.ok.hd hc)) he hit hi cm (by simpa using cm) λu h1 tk hP bD cV gg f9 gB=>?_
  refine⟨_,rfl,?_⟩;have cX:e<s.heap.objs.size:=lL he;have eF:it<s.heap.objs.size:=by obtain⟨o,ho,_⟩:=id hit;exact lL ho
  have ru:RelV (sgn x i) u:=zc1_ hP;refine thn (zfi_ (St:=λh2=>h2.IsStrIter it (mi x) x t (i+1)) I hf cX eF cm bD ru gg f9 gB λh2 hs=>?_) λ_ s2 q=>?_
  ·obtain⟨o,ho,r⟩:=cV
   exact⟨o,(hs.2 it cm.symm).trans ho,r⟩
  ·obtain⟨z,H',I2,rz,⟨p,hp,rfl,rfl⟩,⟨eJ,hit2⟩,fr⟩:=q
   exact⟨.ref p,_,I2,rz,⟨p,hp,rfl,rfl⟩,⟨⟨u,eJ⟩,hi,hit2⟩,fr⟩
 done:=by
  intro X hP hw hK hc i pins s σ H E I hf st hg;subst hP hw hK;obtain⟨⟨old,he⟩,hn,hit⟩:=st;have hi:x.cps.size<=i:=hg;have ei:i=x.cps.size:=qH hn hi;subst ei;obtain⟨f0,f1,f2,f3,f4,f5⟩:=hf it (by simp)
  exact wpAny_pyNext_enum_endD (zcl_ X.A.in1 (I.ok.hd hc)) he hit λh' eb=>⟨rfl,I.turned (t':=s.toks) (λb o hb e=>eb b o hb e) f0 f1 f3 f4 f5⟩
 self:=λ_ _ _ _ _ st h=>by
  obtain⟨⟨old,he⟩,_⟩:=st;exact wpAny_pyIter_enum he h
section
variable {prog:lY}{w:mq}{A:mG}{R:Result->ll->Prop}{s:ll}
theorem zf0_ {elt target iter:lN}{ifs:List lN}{scope:Scope}{pos:Pos}{it acc:aT}{env:Env}(I:Nat->ll->Prop)
  (turn:∀n s,I n s->lU (model prog w) A (pyNext it) (λr ae=>match r with
   |none=>R (.ok .next) ae
   | some v=>lU (model prog w) A (letOwnedTupleGo target it v) (λ_ aL=>lU (model prog w) A (assign target env v) (λ_ ax=>
     lU (model prog w) A (forIn ifs uF λc r=>if r=uF then do let ok <- isTrue c env (eval c env);pure (ForInStep.yield ok)else pure (ForInStep.yield r)) (λok bH=>
      if ok=uF then lU (model prog w) A (eval elt env) (λx dI=>
       lU (model prog w) A (call (.builtin "list.append") [acc,x]) (λ_ dH=>∃m,m<n/\I m dH) (λ_ _=>False) dI) (λ_ _=>False) bH
      else∃m,m<n/\I m bH) (λ_ _=>False) ax) (λ_ _=>False) aL) (λ_ _=>False) ae) (λ_ _=>False) s)
  (n:Nat) (h:I n s):
  codeAny (model prog w) A (.compLoop (.ListComp elt [⟨target,iter,ifs,0⟩] scope pos) 0 it acc env) R s:=by
 refine codeAny_loop rfl I (λn s hI=>?_) n h
 show lU _ A ((compTurn (.ListComp elt [⟨target,iter,ifs,0⟩] scope pos) 0 it acc env).onRaise (λx=>do noteFrame x env;theTreesLotGoes x)) _ _ s
 refine wpAny_noted ?_;rw[compTurn_list];refine lg (wpAny_standAt (lg (nq (turn n s hI) (λr ae aG=>?_) λ_ _ h'=>h'.elim)))
 cases r with
 |none=>exact lK aG
 |some v=>
  refine lg (nq aG (λ_ aL bL=>?_) λ_ _ h'=>h'.elim)
  refine lg (nq bL (λ_ ax bK=>lg (nq bK (λok bH dU=>?_) λ_ _ h'=>h'.elim)) λ_ _ h'=>h'.elim)
  cases ok with
  |false=>exact lK ⟨rfl,dU⟩
  |true=>
   exact lg (lg (nq dU (λx dI f6=>lg (nq f6 (λ_ dH fZ=>lK (lK ⟨rfl,fZ⟩)) λ_ _ h'=>h'.elim)) λ_ _ h'=>h'.elim))
end
noncomputable def closeL (cells:List (Str×lu)):List (Str×og)->List (Str×lu)->Option (List (Str×lu))
 |[],acc=>uD acc
 |(n,k)::r,acc=>if(k == .free)=uF then(match cells.lookup n with |some c=>closeL cells r ((n,c)::acc)|none=>uE)else closeL cells r acc
theorem zcR_ {env:Env}{f:Str×og->List (Str×lu)->Sem (ForInStep (List (Str×lu)))}
  (hf:∀n k cs,f (n,k) cs=if(k == NameKind.free)=uF then(do let c <- cellOf env n;pure (ForInStep.yield ((n,c)::cs)))else pure (ForInStep.yield cs)):
  ∀(names:List (Str×og)) (acc cl:List (Str×lu)),closeL env.cells names acc=uD cl->(forIn names acc f:Sem (List (Str×lu)))=pure cl
 |[],acc,cl,h=>by cases h;rfl
 |(n,k)::r,acc,cl,h=>by
  rw[qI,hf];unfold closeL at h;by_cases hk:(k == NameKind.free)=uF
  ·rw[if_pos hk]at h
   rw[if_pos hk];cases hc:env.cells.lookup n with
   |none=>rw[hc]at h;cases h
   |some c=>
    rw[hc]at h;have e:cellOf env n=pure c:=by unfold cellOf;rw[hc]
    rw[e];simp only[pure_bind];exact zcR_ hf r _ cl h
  ·rw[if_neg hk]at h
   rw[if_neg hk];simp only[pure_bind];exact zcR_ hf r _ cl h
theorem zfh_ {env:Env}{scope:Scope}{cl:List (Str×lu)}(h:closeL env.cells scope.names []=uD cl):closureFor scope env=pure cl:=by
 unfold closureFor;dsimp only;rw[zcR_ (env:=env) (λn k cs=>rfl) scope.names [] cl h]
 rfl
theorem zbM_ {cells:List (Str×lu)}:∀(names:List (Str×og)) (acc cl:List (Str×lu)),closeL cells names acc=uD cl->(∀x c,acc.lookup x=uD c->cells.lookup x=uD c) ->
  (∀x c,cl.lookup x=uD c->cells.lookup x=uD c)
 |[],acc,cl,h,ha=>by cases h;exact ha
 |(n,k)::r,acc,cl,h,ha=>by
  unfold closeL at h;by_cases hk:(k == NameKind.free)=uF
  ·rw[if_pos hk]at h
   cases hc:cells.lookup n with
   |none=>rw[hc]at h;cases h
   |some c=>
    rw[hc]at h;refine zbM_ r _ cl h λx c' e=>?_
    rw[pT]at e;cases hx:x == n with
    |true=>rw[hx]at e;cases e;rw[eq_of_beq hx];exact hc
    |false=>rw[hx]at e;exact ha x c' e
  ·rw[if_neg hk]at h
   exact zbM_ r _ cl h ha
theorem zbR_ {cells:List (Str×lu)}:∀(names:List (Str×og)) (acc cl:List (Str×lu)),closeL cells names acc=uD cl->∀x,((x,NameKind.free)∈names\/∃c,acc.lookup x=uD c)->∃c,cl.lookup x=uD c
 |[],acc,cl,h,x,hx=>by
  cases h;rcases hx with hx |hx
  ·cases hx
  ·exact hx
 |(n,k)::r,acc,cl,h,x,hx=>by
  unfold closeL at h;by_cases hk:(k == NameKind.free)=uF
  ·rw[if_pos hk]at h
   cases hc:cells.lookup n with
   |none=>rw[hc]at h;cases h
   |some c=>
    rw[hc]at h;refine zbR_ r _ cl h x ?_;rcases hx with hx |⟨c',e⟩
    ·rcases lC.mp hx with e |hx
     ·cases e;exact .inr ⟨c,by rw[pT,beq_self_eq_true]⟩
     ·exact .inl hx
    ·refine .inr ?_
     rw[pT];cases hxn:x == n with
     |true=>exact⟨c,rfl⟩
     |false=>exact⟨c',e⟩
  ·rw[if_neg hk]at h
   refine zbR_ r _ cl h x ?_;rcases hx with hx |hx
   ·rcases lC.mp hx with e |hx
    ·cases e;exact absurd rfl hk
    ·exact .inl hx
   ·exact .inr hx
theorem zbb_ {scope:Scope}{env:Env}{x:Str}{k:og}(h:(relabel scope env).names.lookup x=uD k)(hk:k=.cell\/k=.free)(bq:∀y∈scope.names,y.2≠.cell):(x,NameKind.free)∈scope.names:=by
 have m:=nu h;obtain⟨⟨n,k0⟩,hm,e⟩:=mF.mp m;dsimp only at e;split at e
 ·rename_i hc
  cases e;have:k0=.free:=by
   simp only[k9,beq_iff_eq]at hc;exact hc.1.1
  subst this;exact hm
 ·cases e
  rcases hk with rfl |rfl
  ·exact absurd rfl (bq _ hm)
  ·exact hm
def cxComp (X:Cx)(scope:Scope)(cl:List (Str×lu))(C:lu)(N:List Str)(fp:List lu)(s2:ll)(H2:Hp):Cx where
 prog:=X.prog
 w:=X.w
 K:=X.K
 mg:=X.mg
 base:=X.base
 A:=X.A
 N:=N
 s₀:=s2
 H₀:=H2
 env:=compEnvC scope cl C X.env
 outer:=X.stack
 stack:=X.stack
 ex:=fp
 fn:=λ_=>uG
 calm:=X.calm
 pn:=[]
 xe:=λ_ _=>False
structure CScope (X:Cx)(scope:Scope)(cl:List (Str×lu))(lv:List Str)(fr:List (Str×Nat)):Prop where
 clos:closeL X.env.cells scope.names []=uD cl
 cell:∀y∈scope.names,y.2≠.cell
 kind:scope.kind=.function
 names:∀z∈scope.names,z.2=.local->scope.names.lookup z.1=uD .local
 fr:∀q∈fr,X.N[q.2]?=uD q.1/\(q.1,NameKind.free)∈scope.names/\(X.env.kindOf q.1=uD .cell\/X.env.kindOf q.1=uD .free) /\
  ((relabel scope X.env).names.lookup q.1=uD .cell\/(relabel scope X.env).names.lookup q.1=uD .free)
noncomputable def cN (lv:List Str)(fr:List (Str×Nat)):List Str:=lv++fr.map (·.1)
def cS (lv:List Str)(fr:List (Str×Nat))(σ:St):St:=lv.map (λ_=>uE)++fr.map λq=>(σ[q.2]?).join
theorem zke_ {X:Cx}{pins:Pnn}{σ:St}{H2:Hp}{s2:ll}{scope:Scope}{cl:List (Str×lu)}{lv:List Str}{fr:List (Str×Nat)}{fp:List lu}{h4:Heap}{tk:Nat}{m:Str->Option aT}{n:Nat}
  (I:Inv X pins σ H2 s2) (S:CScope X scope cl lv fr) (hf:∀b∈fp,FpOk X pins H2 b) (aA:∀b∈fp,b<s2.heap.objs.size) (hC:h4.Ns (s2.heap.objs.size+1) m) (hD:h4.get? s2.heap.objs.size=uD {cls:=.type "list",data:=.seq #[] n})
  (hk:∀b o,s2.heap.get? b=uD o->h4.get? b=uD o):
  Inv (cxComp X scope cl (s2.heap.objs.size+1) (cN lv fr) fp s2 H2) [] (cS lv fr σ) (upd H2 s2.heap.objs.size (.lst [])) {s2 with heap:=h4,toks:=tk}:=by
 have bp:=zbM_ scope.names [] cl S.clos (λx c e=>by cases e)
 have aJ:=zbR_ scope.names [] cl S.clos;have jY:H2 s2.heap.objs.size=uE:=I.hok.fresh (lp _);have fM:H2 (s2.heap.objs.size+1)=uE:=I.hok.fresh (oN _);have j4:s2.heap.objs.size+1≠s2.heap.objs.size:=ph (pj _);have j5:∀b∈fp,(b∈X.ex\/X.s₀.heap.objs.size<=b):=λb hb=>(hf b hb).2.2.2.1
 have de:∀x c,cl.lookup x=uD c->c<s2.heap.objs.size:=λx c e=>by
  obtain⟨v,o,ho,_⟩:=I.cell x c (bp x c e);exact lL ho
 refine⟨⟨I.ok.mod,S.kind,I.ok.glob,I.ok.blt,oN _,λx y c h1 h2=>I.ok.inj x y c (bp x c h1) (bp y c h2),λx hx=>?_,λx c eG=>(by cases eG),I.ok.hd,I.ok.frames,.inl rfl,λb hb=>?_,I.bs,ni I.ok.bsz I.sz,λb o e hb=>?_,λb hb z=>?_,I.stack,I.stkFree⟩,
  rfl,I.bare,?_,⟨m,hC,λi x v h1 h2 h3=>?_⟩,λx c e=>?_,?_,λx c e=>?_,λp hp=>absurd (show p∈([]:Pnn)from hp) (by simp),?_,?_⟩
 ·-- has
  have ji:(relabel scope X.env).names.lookup x=uD .cell\/(relabel scope X.env).names.lookup x=uD .free:=hx;have hm:(x,NameKind.free)∈scope.names:=ji.elim (λz=>zbb_ z (.inl rfl) S.cell) λz=>zbb_ z (.inr rfl) S.cell
  exact aJ x (.inl hm)
 ·-- exf
  obtain⟨f0,f1,f2,f3,f4,f5⟩:=hf b hb;refine⟨λz=>?_,λx c e=>f4 x c (bp x c e)⟩
  have z':b=s2.heap.objs.size+1:=z;have:=aA b hb;rw[z']at this;exact absurd this (Nat.not_lt.mpr (oN _))
 ·rcases j5 b hb with z |z
  ·exact I.ok.noex b o e z
  ·exact absurd (l9 (l9 (lL e) I.ok.bsz) z) (pF _)
 ·obtain⟨f0,f1,f2,_⟩:=hf b hb
  rcases lC.mp (I.stkSub b z)with q |q
  ·exact f1 q
  ·exact f2 q
 ·exact Un.laid hk (lp _) jY
 ·-- loc
  have h1':(lv++fr.map (·.1))[i]?=uD x:=h1;have b9:(lv.map (λ_=>uE)++fr.map λq=>(σ[q.2]?).join:St)[i]?=uD (uD v):=h2
  by_cases hi:i<lv.length
  ·rw[mJ (by simpa using hi),lB]at b9
   cases hq:lv[i]? with
   |none=>rw[hq]at b9;cases b9
   |some z=>rw[hq]at b9;cases b9
  ·rw [my (by simpa using hi),lB]at b9
   rw[my (by lia),lB]at h1'
   simp only[k8]at b9;cases hq:fr[i-lv.length]? with
   |none=>rw[hq]at h1';cases h1'
   |some q=>
    rw[hq]at h1' b9;have e1:q.1=x:=mD h1';have e2:(σ[q.2]?).join=uD v:=mD b9;have e3:σ[q.2]?=uD (uD v):=by
     cases hz:σ[q.2]? with
     |none=>rw[hz]at e2;cases e2
     |some z=>rw[hz]at e2;exact congrArg uD e2
    obtain⟨g1,g2,g3,g4⟩:=S.fr q (nG hq);obtain⟨m0,hn0,eB⟩:=I.loc;have iV:Vis X.env.scope q.1:=by
     rcases g3 with g3 |g3
     ·exact .inr (.inl g3)
     ·exact .inr (.inr g3)
    obtain⟨u,r,l⟩:=eB q.2 q.1 v g1 e3 iV;refine⟨u,r,.inr ⟨?_,?_⟩⟩
    ·rw[<- e1];exact g4
    ·rcases l with⟨lk,_⟩|⟨_,c,ec,ic⟩
     ·rcases g3 with g3 |g3<;>(rw[lk]at g3;cases g3)
     ·obtain⟨c',ec'⟩:=aJ q.1 (.inl g2)
      have:c'=c:=by
       have:=bp q.1 c' ec';rw[ec]at this;exact(mD this).symm
      subst this;obtain⟨o,ho,hd⟩:=ic;exact⟨c',by rw[<- e1];exact ec',o,hk _ _ ho,hd⟩
 ·obtain⟨v,o,ho,hd⟩:=I.cell x c (bp x c e)
  exact⟨v,o,hk _ _ ho,hd⟩
 ·show upd H2 _ _ (s2.heap.objs.size+1)=uE
  rw[zR_ j4];exact fM
 ·have:=de x c e
  rw[zR_ (mm this)];exact I.freeC x c (bp x c e)
 ·exact I.hok.laid hk (lp _) ⟨ny _,[],n,.nil,hD⟩
 ·show(cS lv fr σ).length=(cN lv fr).length
  simp[cS,cN]
def PIf (X:Cx)(ifs:List lN)(t:TT):Prop:=
 ∀(pins:Pnn) (s:ll) (σ:St) (H:Hp) (Q:Bool->Hp->Prop),Inv X pins σ H s->t σ H Q ->
  lU (model X.prog X.w) X.A (forIn ifs uF λc r=>if r=uF then do let ok <- isTrue c X.env (eval c X.env);pure (ForInStep.yield ok)else pure (ForInStep.yield r)) (TP X pins σ Q) X.xe s
def tTrue:TT:=λ_ H Q=>Q uF H
theorem zlU_ {X:Cx}:PIf X [] tTrue:=λpins s σ H Q I h=>wpAny_tests_nil ⟨H,I,h⟩
theorem zor_ {X:Cx}{c:lN}{t:TT}(h:PT X c t):PIf X [c] t:=λpins s σ H Q I hw=>wpAny_tests_one (h pins s σ H Q I hw)
def tCompR (J:It)(g:TG)(tt:TT)(te:TE)(iU:St)(H1:Hp)(Q:VK):Prop:=
 ∀ D,H1 D=uE->∃W:Nat->Nat->List V->St->Hp->Prop,(∃m,W 0 m [] iU (upd H1 D (.lst [])))/\∀i m ys σ H,W i m ys σ H ->
  (J.stop i H/\Q (.ref D) H)\/(J.go i H/\∃N:List V->St->Hp->Prop,(∀cb af H',N cb af H'->∃m',m'<m/\W (i+1) m' cb af H') /\
   ∀x H',J.yld i H x H'->g x σ H' λdg H2=>tt dg H2 λb H3=>if b=uF then te dg H3 λv H4=>H4 D=uD (.lst ys)/\ys.length<lE/\N (ys++[v]) dg (upd H4 D (.lst (ys++[v])))else N ys dg H3)
section
variable {X:Cx}{scope:Scope}{cl:List (Str×lu)}{lv:List Str}{fr:List (Str×Nat)}{elt tg iter:lN}{ifs:List lN}{pos:Pos}{g:TG}{tt:TT}{te:TE}
theorem zd1_ {pins:Pnn}{σ:St}{H2:Hp}{s2:ll}{it:lu}{fp:List lu}{tn:Nat->Heap->Prop}{J:It}{Q:VK}{E:aT->ll->Prop}{use:Option (aT->Sem Unit)}{Q':aT->ll->Prop}
  (I:Inv X pins σ H2 s2) (S:CScope X scope cl lv fr) (T:Turn X.prog X.w X.K tg J fp it tn) (st:tn 0 s2.heap) (hf:∀b∈fp,FpOk X pins H2 b) (hc:X.calm=uF)
  (hg:∀C fp s2 H2,PG (cxComp X scope cl C (cN lv fr) fp s2 H2) tg g) (ht:∀C fp s2 H2,PIf (cxComp X scope cl C (cN lv fr) fp s2 H2) ifs tt) (he:∀C fp s2 H2,PE (cxComp X scope cl C (cN lv fr) fp s2 H2) elt te)
  (hq:tCompR J g tt te (cS lv fr σ) H2 Q)
  (fin:∀D C oC H' s',Inv X (pins++[(C,oC)]) σ H' s'->(∀h:Heap,h.get? C=uD oC->∃m,h.Ns C m)->FpOk X pins H' C->Q (.ref D) H'->compPost (model X.prog X.w) X.A E use Q' (.ref D) C (.ok .next) s'):
  lU (model X.prog X.w) X.A (newList []) (λacc ax=>lU (model X.prog X.w) X.A (newFunctionEnv scope X.env.globals cl [] X.env.qual uE .none (uD X.env)) (λff bH=>
   codeAny (model X.prog X.w) X.A (.compStart (.ListComp elt [⟨tg,iter,ifs,0⟩] scope pos) 0 (.ref it) acc {ff with scope:=relabel scope X.env}) (compPost (model X.prog X.w) X.A E use Q' acc ff.locals) bH) E ax) E s2:=by
 have aA:∀b∈fp,b<s2.heap.objs.size:=λb hb=>by
  obtain⟨o,ho,_⟩:=T.obj 0 _ st b hb;exact lL ho
 refine wpAny_newList (wpAny_newFunctionEnv S.cell (by intro y hy;simp at hy) (λaG a_ aN=>?_) S.kind)
 dsimp only at a_ aN ⊢;have hsz:(s2.heap.push {cls:=.type "list",data:=.seq ([]:List aT).toArray}).objs.size=s2.heap.objs.size+1:=nY ..;rw[hsz]at a_ aN ⊢;have old:∀b o,s2.heap.get? b=uD o->aG.get? b=uD o:=λb o e=>aN.extBut b o (mm (qg (lL e))) (lh _ (lh _ e))
 have az:aG.get? s2.heap.objs.size=uD {cls:=.type "list",data:=.seq #[]}:=aN.extBut _ _ (mm (pj _)) (lh _ (lI _ rfl));have I4:Inv (cxComp X scope cl (s2.heap.objs.size+1) (cN lv fr) fp s2 H2) [] (cS lv fr σ) (upd H2 s2.heap.objs.size (.lst [])) {s2 with heap:=aG,toks:=s2.toks+([]:List (Str×aT)).length}:=
  zke_ I S hf aA a_ az old
 generalize aX:cxComp X scope cl (s2.heap.objs.size+1) (cN lv fr) fp s2 H2=X' at I4
 have eP:X'.prog=X.prog:=by rw[<- aX];rfl
 have ew:X'.w=X.w:=by rw[<- aX];rfl
 have eK:X'.K=X.K:=by rw[<- aX];rfl
 have eA:X'.A=X.A:=by rw[<- aX];rfl
 have ec:X'.calm=uF:=by rw[<- aX];exact hc
 have ex:X'.xe=λ_ _=>False:=by rw[<- aX];rfl
 have c_:X'.env=compEnvC scope cl (s2.heap.objs.size+1) X.env:=by rw[<- aX];rfl
 have jN:PG X' tg g:=aX ▸ hg _ _ _ _;have jr:PIf X' ifs tt:=aX ▸ ht _ _ _ _;have jQ:PE X' elt te:=aX ▸ he _ _ _ _;obtain⟨W,⟨m0,w0⟩,turn⟩:=hq s2.heap.objs.size (I.hok.fresh (lp _));have bX:tn 0 aG:=T.keep _ _ _ st λb _ o e=>old b o e
 have f4:∀b∈fp,FpOk X' [] (upd H2 s2.heap.objs.size (.lst [])) b:=λb hb=>by
  obtain⟨f0,f1,f2,f3,f4,f5⟩:=hf b hb;have:=aA b hb;refine⟨?_,?_,?_,.inl ?_,?_,?_⟩
  ·rw[zR_ (mm this)];exact f0
  ·rw[c_];exact mm (qg this)
  ·intro z
   have z':b∈frs X.stack:=by rw[<- aX]at z;exact z
   rcases lC.mp (I.stkSub b z')with q |q
   ·exact f1 q
   ·exact f2 q
  ·rw[<- aX];exact hb
  ·intro x c e
   rw[c_]at e;exact f4 x c (zbM_ scope.names [] cl S.clos (λx c e=>by cases e) x c e)
  ·intro p hp
   rw[<- aX]at hp;exact absurd (show p∈([]:Pnn)from hp) (by simp)
 have aY:∀{H':Hp},(∀b∈fp,H' b=uE)->∀b∈fp,FpOk X' [] H' b:=λhn b hb=>⟨hn b hb,(f4 b hb).2⟩
 have loop:∀ax:ll,ax={s2 with heap:=aG,toks:=s2.toks+([]:List (Str×aT)).length} ->
   codeAny (model X.prog X.w) X.A (.compLoop (.ListComp elt [⟨tg,iter,ifs,0⟩] scope pos) 0 (.ref it) (.ref s2.heap.objs.size) (compEnvC scope cl (s2.heap.objs.size+1) X.env))
    (compPost (model X.prog X.w) X.A E use Q' (.ref s2.heap.objs.size) (s2.heap.objs.size+1)) ax:=by
  rintro ax rfl;refine zf0_ (λn s'=>∃i ys af H',Inv X' [] af H' s'/\tn i s'.heap/\(∀b∈fp,H' b=uE)/\W i n ys af H') ?_ m0 ⟨0,[],_,_,I4,bX,λb hb=>(f4 b hb).1,w0⟩
  rintro n s3 ⟨i,ys,aR,H3,I3,st3,fr3,w3⟩;rcases turn i n ys aR H3 w3 with⟨stop,qn⟩|⟨go,N,hN,step⟩
  ·have a0:=T.done X' eP ew eK ec i [] s3 aR H3 (λ_ _=>False) I3 (aY fr3) st3 stop
   rw[eA]at a0;refine thn a0 λr s4 ab=>?_
   obtain⟨hr,I4'⟩:=ab;subst hr;have un:Un (frs X.stack) fp H2 H3 s2.heap s4.heap:=by
    have:=I4'.base;rw[<- aX]at this;exact this
   have os:s4.os=s2.os:=by
    have:=I4'.os;rw[<- aX]at this;exact this
   have hok:HOk X.prog X.w H3 s4.heap:=by
    have:=I4'.hok;rw[<- aX]at this;exact this
   have J1:Inv X pins σ H3 s4:=I.call' os un hok I4'.bare λb hb=>by
    obtain⟨f0,f1,f2,f3,f4,f5⟩:=hf b hb;exact⟨f3,f1,f4,f5⟩
   obtain⟨m,hn,_⟩:=I4'.loc;have gr:s4.heap.Ns (s2.heap.objs.size+1) m:=by rw[c_]at hn;exact hn
   have fM:H3 (s2.heap.objs.size+1)=uE:=by
    have:=I4'.free;rw[c_]at this;exact this
   have fC:FpOk X pins H3 (s2.heap.objs.size+1):=I.fpOk (oN _) fM;obtain⟨oC,es,ep,hoC,hdC,rC⟩:=id gr;have J2:Inv X (pins++[(s2.heap.objs.size+1,oC)]) σ H3 s4:=J1.pins_of λp hp=>by
    rcases lZ.mp hp with hp |hp
    ·exact J1.pin p (lV _ hp)
    ·have e:p=(s2.heap.objs.size+1,oC):=by simpa using hp
     subst e;exact⟨hoC,fM,fC.2.1,fC.2.2.1,λv z=>by rw[hdC]at z;cases z⟩
   exact fin _ _ oC H3 s4 J2 (λh e=>⟨m,oC,es,ep,e,hdC,rC⟩) fC qn
  ·have a0:=T.item X' eP ew eK ec i [] s3 aR H3 (λ_ _=>False) I3 (aY fr3) st3 go
   rw[eA]at a0;refine thn a0 λr s4 ab=>?_
   obtain⟨u,hr,h4⟩:=ab;subst hr;refine thn h4 λ_ s5 ab=>?_
   obtain⟨x,H5,I5,r5,y5,st5,fr5⟩:=ab;have g_:=I5.pinned (aY fr5) (T.obj _ _ st5);have a1:=jN _ s5 aR H5 x u _ g_ r5 (step x H5 y5);rw[eP,ew,eA,c_,ex]at a1;refine thn a1 λ_ s6 ab=>?_
   obtain⟨bW,H6,I6,q6⟩:=ab;have a2:=jr _ s6 bW H6 _ I6 q6;rw[eP,ew,eA,c_,ex]at a2;refine thn a2 λok s7 ab=>?_
   obtain⟨H7,I7,q7⟩:=ab;have again:∀{fh:List V}{H7:Hp}{s7:ll},Inv X' ([]++pinsAt fp s5.heap) bW H7 s7->N fh bW H7->∃m,m<n/\∃i ys af H',Inv X' [] af H' s7/\tn i s7.heap/\(∀b∈fp,H' b=uE)/\W i m ys af H':=λ{fh H7 s7} I7 n7=>by
    obtain⟨m',hm,w7⟩:=hN fh bW H7 n7;refine⟨m',hm,i+1,fh,bW,H7,I7.unpinned,T.keep _ _ _ st5 λb hb o e=>(I7.pin (b,o) (lV _ (lV _ (zbT_ hb e)))).1,λb hb=>?_,w7⟩
    obtain⟨o,e,d⟩:=T.obj _ _ st5 b hb;exact(I7.pin (b,o) (lV _ (lV _ (zbT_ hb e)))).2.1
   cases ok with
   |false=>exact again I7 q7
   |true=>
    have a3:=jQ _ s7 bW H7 _ I7 q7;rw[eP,ew,eA,c_,ex]at a3;refine thn a3 λy s8 ab=>?_
    obtain⟨v,H8,I8,r8,hD8,fH,n8⟩:=ab;have a4:=zdl_ (X:=X') _ s8 bW H8 (.ref s2.heap.objs.size) [v] (.ref s2.heap.objs.size) [y] (λ_ H9=>N (ys++[v]) bW H9) I8 rfl (.cons r8 .nil) ⟨_,_,_,rfl,rfl,hD8,fH,n8⟩
    rw[eP,ew,eA,ex]at a4;refine thn a4 λ_ s9 ab=>?_
    obtain⟨v9,H9,I9,_,n9⟩:=ab;exact again I9 n9
 exact codeAny_compStart_list (loop _ rfl) (T.self _ 0 _ _ _ bX (loop _ rfl))
def tComp (lv:List Str)(fr:List (Str×Nat))(wi:TI)(g:TG)(tt:TT)(te:TE):TE:=λσ H Q=>wi σ H λJ H1=>tCompR J g tt te (cS lv fr σ) H1 Q
theorem znu_ {wi:TI}(hc:X.calm=uF)(S:CScope X scope cl lv fr)(hi:PI X tg iter wi)
  (hg:∀C fp s2 H2,PG (cxComp X scope cl C (cN lv fr) fp s2 H2) tg g) (ht:∀C fp s2 H2,PIf (cxComp X scope cl C (cN lv fr) fp s2 H2) ifs tt) (he:∀C fp s2 H2,PE (cxComp X scope cl C (cN lv fr) fp s2 H2) elt te)
  (hs:∀x,foldedSetIterable iter X.env x=pure x:=by intro _;rfl):PE X (.ListComp elt [⟨tg,iter,ifs,0⟩] scope pos) (tComp lv fr wi g tt te):=by
 intro pins s σ H Q I h;rw[eval_ListComp];refine wpAny_comprehension_free (use:=uE) rfl hs (zfh_ S.clos) S.kind S.names ?_;refine thn (hi pins s σ H _ I h) λv s1 h1=>thn h1 λfD s2 h2=>?_
 obtain⟨it,fp,tn,J,H2,e,I2,T,bx,f2,q⟩:=h2;subst e;refine zd1_ I2 S T bx f2 hc hg ht he q λD C oC H' s' J1 gK fC qD=>?_
 have hp:=J1.pin (C,oC) (lV _ (lV _ (lO.mpr rfl)));obtain⟨m,hm⟩:=gK s'.heap hp.1;refine⟨m,hm,λh' cv=>?_⟩
 exact⟨.ref D,H',J1.unpinned.turned (t':=s'.toks) (λb o hb e=>(cv.2 b hb).trans e) fC.1 fC.2.1 fC.2.2.2.1 fC.2.2.2.2.1 fC.2.2.2.2.2,rfl,qD⟩
theorem zhE_ {wi:TI}{j:Nat}{y:Str}{py dJ:Pos}(hc:X.calm=uF)(S:CScope X scope cl lv fr)(hi:PI X tg iter wi)
  (hg:∀C fp s2 H2,PG (cxComp X scope cl C (cN lv fr) fp s2 H2) tg g) (ht:∀C fp s2 H2,PIf (cxComp X scope cl C (cN lv fr) fp s2 H2) ifs tt) (he:∀C fp s2 H2,PE (cxComp X scope cl C (cN lv fr) fp s2 H2) elt te)
  (hy:PG X (.Name y py) (gName j))
  (jt:swapsWith (.ListComp elt [⟨tg,iter,ifs,0⟩] scope pos) (uD (.Name y py)) dJ.line X.env=pure uF:=by rfl)
  (hs:∀x,foldedSetIterable iter X.env x=pure x:=by intro _;rfl):PS X (.Assign [.Name y py] (.ListComp elt [⟨tg,iter,ifs,0⟩] scope pos) dJ) (tAsg (tComp lv fr wi g tt te) (gName j)):=by
 intro pins s σ H D I h;rw[exec_Assign_Name_used _ _ _ _ jt];refine lg (wpAny_standAt (lg ?_));show lU _ X.A (do let _ <- comprehension (.ListComp elt [⟨tg,iter,ifs,0⟩] scope pos) scope X.env _ (newList []) uG (eval iter X.env) (uD (assign (.Name y py) X.env))) _ _ s
 refine lg (nq (wpAny_comprehension_free (use:=uD (assign (.Name y py) X.env)) (Q:=λ_ s'=>SP X pins D .next s') rfl hs (zfh_ S.clos) S.kind S.names ?_) (λ_ s' hq=>lK (lK hq)) λ_ _ e=>e)
 refine thn (hi pins s σ H _ I h) λv s1 h1=>thn h1 λfD s2 h2=>?_
 obtain⟨it,fp,tn,J,H2,e,I2,T,bx,f2,q⟩:=h2;subst e;refine zd1_ I2 S T bx f2 hc hg ht he q λD' C oC H' s' J1 gK fC qD=>?_
 show lU _ X.A (assign (.Name y py) X.env (.ref D')) _ _ _
 refine thn (hy _ s' σ H' (.ref D') (.ref D') _ J1 rfl qD) λ_ s3 ab=>?_
 obtain⟨aR,H3,I3,q3⟩:=ab;have hp:=I3.pin (C,oC) (lV _ (lV _ (lO.mpr rfl)));obtain⟨m,hm⟩:=gK s3.heap hp.1;refine⟨m,hm,λh' cv=>?_⟩
 have eZ:FpOk X pins H3 C:=⟨hp.2.1,fC.2⟩;exact⟨aR,H3,I3.unpinned.turned (t':=s3.toks) (λb o hb e=>(cv.2 b hb).trans e) eZ.1 eZ.2.1 eZ.2.2.2.1 eZ.2.2.2.2.1 eZ.2.2.2.2.2,q3⟩
end
noncomputable abbrev tx (l:List Nat):V:=.str ⟨l.toArray⟩
def br (b:Bool)(A B:Prop):Prop:=(b=uF->A)/\(b=uG->B)
theorem zoW_ (a b:Str):a++b=⟨(a.cps.toList++b.cps.toList).toArray⟩:=by
 cases a;cases b;show Str.mk (_++_)=_
 simp
theorem zec_ (a:Str):a=⟨a.cps.toList.toArray⟩:=by cases a;simp
def cutL (l:List Nat)(lo hi:Option Int):List Nat:=(l.drop (HT.sIx l.length 0 lo)).take (HT.sIx l.length l.length hi-HT.sIx l.length 0 lo)
theorem zc0_ (lo hi:Option Int)(n:Nat):nh lo hi 1 n=sliceRange ((HT.sIx n 0 lo:Nat):Int) ((HT.sIx n n hi:Nat):Int) 1:=by
 unfold nh;simp only[show(1:Int) > 0 by decide,if_true]
 congr 1
 ·cases lo with
  |none=>simp[HT.sIx]
  |some i=>
   simp only[HT.sIx];by_cases h:i<0
   ·simp only[h,if_true]<;>lia
   ·simp only[h,if_false]<;>lia
 ·cases hi with
  |none=>simp[HT.sIx]
  |some i=>
   simp only[HT.sIx];by_cases h:i<0
   ·simp only[h,if_true]<;>lia
   ·simp only[h,if_false]<;>lia
theorem zf2_ (x:Str)(lo hi:Option Int):(nh lo hi 1 x.length).filterMap (x.cps[·]?)=cutL x.cps.toList lo hi:=by
 rw[zc0_,sliceRange_one,pick_run];unfold cutL nM;simp only[nr]
theorem zdL_ (l:List Nat)(lo hi:Option Int):(cutL l lo hi).length<=l.length:=by
 unfold cutL;rw[l5,mz];lia
theorem zjb_ {l:List Nat}{lo hi:Option Int}(h:(cutL l lo hi).length=l.length):cutL l lo hi=l:=by
 unfold cutL at h ⊢;rw[l5,mz]at h;have h1:HT.sIx l.length l.length hi<=l.length:=HT.sIx_le _ _ (lp _) _;by_cases hl:l.length=0
 ·have:l=[]:=ml.mp hl
  subst this;simp
 ·have h2:HT.sIx l.length 0 lo=0:=by lia
  rw[h2,mM,mY];lia
section
variable {X:Cx}
def rSlS:V->Option Int->Option Int->Hp->VK->Prop:=λx lo hi H Q=>match x with |.str z=>z.length<=lE/\Q (tx (cutL z.cps.toList lo hi)) H |_=>False
theorem zcD_ {v:aT}{o:Option Int}(p:IsPart v o):∃l:Option (Int×Tok),v=partValue l/\l.map (·.1)=o:=by
 cases p with
 |none=>exact⟨uE,rfl,rfl⟩
 |int i t=>exact⟨uD (i,t),rfl,rfl⟩
theorem zrg_:SlR X rSlS:=by
 intro pins s σ H x v vl vu lo hi sl Q I rx hs pl pu h;cases x with
 |str z=>
  obtain⟨hz,q⟩:=h;obtain⟨t,rfl⟩:=rx;obtain⟨l,rfl,rfl⟩:=zcD_ pl;obtain⟨u,rfl,rfl⟩:=zcD_ pu;refine⟨"str",_,F.slot_str_getitem.lookup,typeIs_str _ _ _,?_⟩;refine wpAny_getItem_str_slice (l:=l) (u:=u) (st:=uE) hs rfl ?_;unfold sliceMade;have e:slicePicked z l u uE=nh (l.map (·.1)) (u.map (·.1)) 1 z.length:=rfl;rw[e];have hlen:(nh (l.map (·.1)) (u.map (·.1)) 1 z.length).length=(cutL z.cps.toList (l.map (·.1)) (u.map (·.1))).length:=by
   rw[zc0_,sliceRange_one,k8,lJ];unfold cutL;rw[l5,mz];have h1:HT.sIx z.length z.length (u.map (·.1))<=z.length:=HT.sIx_le _ _ (lp _) _;have h2:z.cps.toList.length=z.length:=by simp[nM]
   rw[h2];lia
  split
  ·rename_i hc
   have aW:(cutL z.cps.toList (l.map (·.1)) (u.map (·.1))).length=z.cps.toList.length:=by
    rw[<- hlen]
    simpa [nM]using hc
   rw[zjb_ aW]at q;have q':Q (.str z) H:=by rw[zec_ z];exact q
   exact⟨.str z,H,I,⟨_,rfl⟩,q'⟩
  ·rw[zf2_]
   have h3:=zdL_ z.cps.toList (l.map (·.1)) (u.map (·.1));have h2:z.cps.toList.length=z.length:=by simp[nM]
   refine⟨?_,tx (cutL z.cps.toList (l.map (·.1)) (u.map (·.1))),H,I.tok _,⟨_,rfl⟩,q⟩;show(cutL z.cps.toList (l.map (·.1)) (u.map (·.1))).toArray.size<=lE
   rw[lx];exact ni h3 (by rw[h2];exact hz)
 |_=>exact h.elim
end
def mVar (i:Nat):TE:=λσ H Q=>match σ[i]? with |some (uD v)=>Q v H |_=>False
section
variable {X:Cx}{a b c:lN}{ta tb tc:TE}{pos:Pos}
theorem zm5_ (i:Nat){x:Str}{pos:Pos}(hN:X.N[i]?=uD x:=by rfl)(hv:Vis X.env.scope x:=by first |exact Or.inl rfl |exact Or.inr (Or.inl rfl)|exact Or.inr (Or.inr rfl))(hd:(x==("__debug__":Str))=uG:=by decide)
  (bt:(x==("__classdict__":Str))=uG:=by decide):PE X (.Name x pos) (mVar i):=by
 intro pins s σ H Q I h;unfold mVar at h;cases e:σ[i]? with
 |none=>rw[e]at h;exact h.elim
 |some o=>
  rw[e]at h;cases o with
  |none=>exact h.elim
  |some v=>exact zpN_ hN hv hd bt pins s σ H Q I ⟨v,e,h⟩
theorem zrz_ {x:Str}{l:List Nat}{j pos}(h:x=⟨l.toArray⟩:=by rfl):PE X (.Constant (.str x) j pos) (tC (tx l)):=h ▸ zqN_
def mAdd:R2:=λx y H Q=>match x,y with
 |.int i,.int j=>Q (.int (i+j)) H
 |.str a,.str b=>a.cps.toList.length+b.cps.toList.length<=lE/\Q (tx (a.cps.toList++b.cps.toList)) H
 |.ref a,.ref b=>∃xs zs,H a=uD (.lst xs)/\H b=uD (.lst zs)/\xs.length+zs.length<=lE/\∀p,H p=uE->Q (.ref p) (upd H p (.lst (xs++zs)))
 |_,_=>False
theorem zlK_:OpR X (nR .Add) mAdd:=by
 intro pins s σ H x y v u Q I rx ry h
 cases x<;>cases y<;>first
  |exact h.elim
  |exact zry_ pins s σ H _ _ v u Q I rx ry ⟨_,_,rfl,rfl,h⟩
  |exact zgi_ pins s σ H _ _ v u Q I rx ry ⟨_,_,rfl,rfl,by simpa [nM]using h.1,by rw[zoW_];exact h.2⟩
  |(obtain⟨xs,zs,h1,h2,h3,h4⟩:=h;exact zpP_ pins s σ H _ _ v u Q I rx ry ⟨_,_,xs,zs,rfl,rfl,h1,h2,h3,h4⟩)
def mI (C:Int->Int->Prop)(g:Int->Int->V):R2:=λx y H Q=>match x,y with |.int i,.int j=>C i j/\Q (g i j) H |_,_=>False
def mI0 (g:Int->Int->V):R2:=λx y H Q=>match x,y with |.int i,.int j=>Q (g i j) H |_,_=>False
theorem opM {f:aT->aT->Sem aT}{C:Int->Int->Prop}{g:Int->Int->V}(h:OpR X f (rI C g)):OpR X f (mI C g):=by
 intro pins s σ H x y v u Q I rx ry q;cases x<;>cases y<;>first |exact q.elim |exact h pins s σ H _ _ v u Q I rx ry ⟨_,_,rfl,rfl,q.1,q.2⟩
theorem opM0 {f:aT->aT->Sem aT}{g:Int->Int->V}(h:OpR X f (rI0 g)):OpR X f (mI0 g):=by
 intro pins s σ H x y v u Q I rx ry q;cases x<;>cases y<;>first |exact q.elim |exact h pins s σ H _ _ v u Q I rx ry ⟨_,_,rfl,rfl,q⟩
abbrev mSub:R2:=mI0 λi j=>.int (i-j)
abbrev mMod:R2:=mI (λ_ j=>0<j) λi j=>.int (i % j)
theorem znz_:OpR X (nR .Sub) mSub:=opM0 zq0_
theorem zmU_:OpR X (nR .Mod) mMod:=opM zpe_
abbrev mLt:R2:=mI0 λi j=>.bl (decide (i<j))
abbrev mLe:R2:=mI0 λi j=>.bl (decide (i<=j))
abbrev mGt:R2:=mI0 λi j=>.bl (decide (j<i))
abbrev mGe:R2:=mI0 λi j=>.bl (decide (j<=i))
theorem zqB_:OpR X (lX .Lt) mLt:=opM0 op_lt
theorem zqv_:OpR X (lX .LtE) mLe:=opM0 op_le
theorem zrG_:OpR X (lX .Gt) mGt:=opM0 op_gt
theorem zrl_:OpR X (lX .GtE) mGe:=opM0 op_ge
noncomputable def mIsB (x y:V):Option Bool:=match y with
 |.non=>uD (decide (x=.non))
 |.bl b=>(match x with |.bl a=>uD (decide (a=b))|_=>uE)
 |_=>uE
def mIs:R2:=λx y H Q=>match mIsB x y with |some b=>Q (.bl b) H |none=>False
def mIsNot:R2:=λx y H Q=>match mIsB x y with |some b=>Q (.bl (!b)) H |none=>False
theorem zld_ {M:Model}{A:mG}{E:aT->ll->Prop}{s:ll}{a b:Bool}{Q:aT->ll->Prop}(h:Q (.bool (decide (a=b))) s):lU M A (lX .Is (.bool a) (.bool b)) Q E s:=by
 cases a<;>cases b<;>exact lK h
theorem zfE_ {M:Model}{A:mG}{E:aT->ll->Prop}{s:ll}{a b:Bool}{Q:aT->ll->Prop}(h:Q (.bool (!decide (a=b))) s):lU M A (lX .IsNot (.bool a) (.bool b)) Q E s:=by
 cases a<;>cases b<;>exact lK h
theorem zpd_:OpR X (lX .Is) mIs:=by
 intro pins s σ H x y v u Q I rx ry h;unfold mIs mIsB at h;cases y with
 |non=>exact zqG_ pins s σ H x _ v u Q I rx ry ⟨rfl,h⟩
 |bl b=>
  cases x with
  |bl a=>cases rx;cases ry;exact zld_ ⟨.bl _,H,I,rfl,h⟩
  |_=>exact h.elim
 |_=>exact h.elim
theorem zi5_:OpR X (lX .IsNot) mIsNot:=by
 intro pins s σ H x y v u Q I rx ry h;unfold mIsNot mIsB at h;cases y with
 |non=>exact zm3_ pins s σ H x _ v u Q I rx ry ⟨rfl,h⟩
 |bl b=>
  cases x with
  |bl a=>cases rx;cases ry;exact zfE_ ⟨.bl _,H,I,rfl,h⟩
  |_=>exact h.elim
 |_=>exact h.elim
noncomputable def inS (l:List Nat)(t:List Nat):Bool:=match l with |[c]=>decide (c∈t)|_=>!(oH ⟨t.toArray⟩ ⟨l.toArray⟩ 0 t.length 1).isEmpty
theorem zjK_ (a b:Str):(!(oH b a 0 b.length 1).isEmpty)=inS a.cps.toList b.cps.toList:=by
 have e:b.length=b.cps.toList.length:=by simp[nM]
 unfold inS;split
 ·rename_i c hc
  have ea:a=⟨#[c]⟩:=by rw[zec_ a,hc]
  rw[ea];exact StrLaws.found_one b c
 ·rw[<- zec_,<- zec_,e]
def mIn (K:Fgg)(neg:Bool):R2:=λx y H Q=>match y with
 |.str b=>(match x with |.str a=>Q (.bl (if neg then !inS a.cps.toList b.cps.toList else inS a.cps.toList b.cps.toList)) H |_=>False)
 |.ref p=>∃xs,(SqL K H p xs\/SqT K H p xs)/\flatV x=uF/\xs.all flatV=uF/\Q (.bl (if neg then !inV x xs else inV x xs)) H
 |_=>False
theorem zq4_:OpR X (lX .In) (mIn X.K uG):=by
 intro pins s σ H x y v u Q I rx ry h;unfold mIn at h;cases y with
 |str b=>
  cases x with
  |str a=>exact ziZ_ pins s σ H _ _ v u Q I rx ry ⟨_,_,rfl,rfl,by rw[zjK_];exact h⟩
  |_=>exact h.elim
 |ref p=>
  obtain⟨xs,h1,h2,h3,h4⟩:=h;exact ziq_ pins s σ H _ _ v u Q I rx ry ⟨_,xs,rfl,h1,h2,h3,h4⟩
 |_=>exact h.elim
theorem zis_:OpR X (lX .NotIn) (mIn X.K uF):=by
 intro pins s σ H x y v u Q I rx ry h;unfold mIn at h;cases y with
 |str b=>
  cases x with
  |str a=>exact zey_ pins s σ H _ _ v u Q I rx ry ⟨_,_,rfl,rfl,by rw[zjK_];exact h⟩
  |_=>exact h.elim
 |ref p=>
  obtain⟨xs,h1,h2,h3,h4⟩:=h;exact zeL_ pins s σ H _ _ v u Q I rx ry ⟨_,xs,rfl,h1,h2,h3,h4⟩
 |_=>exact h.elim
def mTest (t:TE):TT:=λσ H Q=>t σ H λx H'=>match x with |.bl k=>Q k H' |_=>False
def mAndV (ta tb:TE):TE:=λσ H Q=>ta σ H λx H1=>match x with |.bl c=>br c (tb σ H1 Q) (Q (.bl uG) H1)|_=>False
def mOrV (ta tb:TE):TE:=λσ H Q=>ta σ H λx H1=>match x with |.bl c=>br c (Q (.bl uF) H1) (tb σ H1 Q)|_=>False
def mNotV (ta:TE):TE:=λσ H Q=>ta σ H λx H1=>match x with |.bl c=>Q (.bl (!c)) H1 |_=>False
def mAnd (t u:TT):TT:=λσ H Q=>t σ H λc H1=>br c (u σ H1 Q) (Q uG H1)
def mOr (t u:TT):TT:=λσ H Q=>t σ H λc H1=>br c (Q uF H1) (u σ H1 Q)
variable {rest:List lN}{tA fq:TT}
theorem zjI_ (ha:PE X a ta)(hb:PE X (.BoolOp .And (b::rest) pos) tb):PE X (.BoolOp .And (a::b::rest) pos) (mAndV ta tb):=by
 intro pins s σ H Q I h;refine BoolOp_and (thn (ha pins s σ H _ I h) λv s1 ab=>?_)
 obtain⟨x,H1,I1,r1,q1⟩:=ab;cases x with
 |bl c=>
  cases r1;refine mr ?_;cases c with
  |true=>exact hb pins s1 σ H1 Q I1 (q1.1 rfl)
  |false=>exact⟨.bl uG,H1,I1,rfl,q1.2 rfl⟩
 |_=>exact q1.elim
theorem zo1_ (ha:PE X a ta)(hb:PE X (.BoolOp .Or (b::rest) pos) tb):PE X (.BoolOp .Or (a::b::rest) pos) (mOrV ta tb):=by
 intro pins s σ H Q I h;refine BoolOp_or (thn (ha pins s σ H _ I h) λv s1 ab=>?_)
 obtain⟨x,H1,I1,r1,q1⟩:=ab;cases x with
 |bl c=>
  cases r1;refine mr ?_;cases c with
  |false=>exact hb pins s1 σ H1 Q I1 (q1.2 rfl)
  |true=>exact⟨.bl uF,H1,I1,rfl,q1.1 rfl⟩
 |_=>exact q1.elim
theorem znn_ (ha:PE X a ta):PE X (.UnaryOp .Not a pos) (mNotV ta):=by
 intro pins s σ H Q I h;refine UnaryOp_ (thn (ha pins s σ H _ I h) λv s1 ab=>?_)
 obtain⟨x,H1,I1,r1,q1⟩:=ab;cases x with
 |bl c=>cases r1;exact not_of (mr ⟨.bl (!c),H1,I1,rfl,q1⟩)
 |_=>exact q1.elim
theorem zjG_ (ha:PT X a tA)(hb:PW X (.BoolOp .And (b::rest) pos) fq):PW X (.BoolOp .And (a::b::rest) pos) (mAnd tA fq):=by
 intro wh pins s σ H Q I h;refine isTrue_and (thn (ha pins s σ H _ I h) λc s1 ab=>?_)
 obtain⟨H1,I1,q1⟩:=ab;cases c with
 |true=>exact hb wh pins s1 σ H1 Q I1 (q1.1 rfl)
 |false=>exact⟨H1,I1,q1.2 rfl⟩
theorem zns_ (ha:PT X a tA)(hb:PW X (.BoolOp .Or (b::rest) pos) fq):PW X (.BoolOp .Or (a::b::rest) pos) (mOr tA fq):=by
 intro wh pins s σ H Q I h;refine isTrue_or (thn (ha pins s σ H _ I h) λc s1 ab=>?_)
 obtain⟨H1,I1,q1⟩:=ab;cases c with
 |true=>exact⟨H1,I1,q1.1 rfl⟩
 |false=>exact hb wh pins s1 σ H1 Q I1 (q1.2 rfl)
theorem zoo_ {e:lN}{t:TE}(h:PE X e t)(he:∀whole,isTrue e X.env whole=(do let v <- whole;standAt e.pos;holding [v] (truthy v)):=by intro _;rfl):PT X e (mTest t):=by
 intro pins s σ H Q I hw;refine isTrue_plain (thn (h pins s σ H _ I hw) λv s1 ab=>?_) (he _)
 obtain⟨x,H1,I1,r1,q1⟩:=ab;cases x with
 |bl c=>cases r1;exact mr ⟨H1,I1,q1⟩
 |_=>exact q1.elim
theorem zl2_ {op:CmpOp}{r:R2}(ho:OpR X (lX op) r)(ha:PE X a ta)(hb:PE X b tb)(hm:behindInMarks op b=uG:=by first |exact nobehind _ (by decide) (by decide)|rfl):PT X (.Compare a [op] [b] pos) (mTest (tOp r ta tb)):=by
 intro pins s σ H Q I hw;refine wpAny_isTrue_Compare1 (binT ha hb I hw λv u s2 x y H2 I2 rx ry q=>?_) hm
 refine thn (ho pins s2 σ H2 x y v u _ I2 rx ry q) λc s3 ab=>?_
 obtain⟨z,H3,I3,r3,q3⟩:=ab;cases z with
 |bl k=>cases r3;exact mr ⟨H3,I3,q3⟩
 |_=>exact q3.elim
theorem znF_ {op:CmpOp}{r:R2}(ho:OpR X (lX op) r)(ha:PE X a ta)(hb:PE X b tb)(hm:behindInMarks op b=uG:=by first |exact nobehind _ (by decide) (by decide)|rfl):PE X (.Compare a [op] [b] pos) (tOp r ta tb):=znf_ ho ha hb hm
def mIf (t:TT)(ta tb:TE):TE:=λσ H Q=>t σ H λc H1=>br c (ta σ H1 Q) (tb σ H1 Q)
theorem zpy_ {c:lN}(hc:PT X c tA)(ha:PE X a ta)(hb:PE X b tb):PE X (.IfExp c a b pos) (mIf tA ta tb):=by
 intro pins s σ H Q I h;refine wpAny_IfExp (thn (hc pins s σ H _ I h) λd s1 ab=>?_)
 obtain⟨H1,I1,q1⟩:=ab;cases d with
 |true=>exact ha pins s1 σ H1 Q I1 (q1.1 rfl)
 |false=>exact hb pins s1 σ H1 Q I1 (q1.2 rfl)
def mIfS (c:TT)(t u:TS):TS:=λD σ H=>c σ H λb H1=>br b (t D σ H1) (u D σ H1)
theorem zkM_ {c:lN}{a b:List me}{tc:TT}{t u:TS}(hc:PT X c tc)(ha:PSs X a t)(hb:PSs X b u):PS X (.If c a b pos) (mIfS tc t u):=by
 intro pins s σ H D I h;refine wpAny_If (thn (hc pins s σ H _ I h) λd s1 ab=>?_)
 obtain⟨H1,I1,q1⟩:=ab;cases d with
 |true=>exact ha pins s1 σ H1 D I1 (q1.1 rfl)
 |false=>exact hb pins s1 σ H1 D I1 (q1.2 rfl)
def mChain (r r':R2)(ta tb tc:TE):TE:=λσ H Q=>ta σ H λx H1=>tb σ H1 λy H2=>r x y H2 λz H3=>match z with |.bl k=>br k (tc σ H3 λw H4=>r' y w H4 Q) (Q (.bl uG) H3)|_=>False
theorem ziY_ {op aC:CmpOp}{r r':R2}(ho:OpR X (lX op) r)(aI:OpR X (lX aC) r')(ha:PE X a ta)(hb:PE X b tb)(hc:PE X c tc)
  (hm:lastMarks [op,aC] [b,c]=uG:=by with_unfolding_all rfl):PE X (.Compare a [op,aC] [b,c] pos) (mChain r r' ta tb tc):=by
 intro pins s σ H Q I h;refine Compare_chain (thn (ha pins s σ H _ I h) λv s1 ⟨x,H1,I1,r1,q1⟩=>chain_link (thn (hb pins s1 σ H1 _ I1 q1) λu s2 ⟨y,H2,I2,r2,q2⟩=>
  thn (ho pins s2 σ H2 x y v u _ I2 r1 r2 q2) λd s3 ⟨z,H3,I3,r3,q3⟩=>?_)) hm
 cases z with
 |bl k=>
  cases r3;refine mr ?_;cases k with
  |false=>exact ite_ff ⟨.bl uG,H3,I3,rfl,q3.2 rfl⟩
  |true=>exact ite_tt (chain_last (thn (hc pins s3 σ H3 _ I3 (q3.1 rfl)) λw' s4 ⟨z',H4,I4,r4,q4⟩=>aI pins s4 σ H4 y z' u w' Q I4 r2 r4 q4))
 |_=>exact q3.elim
theorem ziU_ {op aC:CmpOp}{r r':R2}(ho:OpR X (lX op) r)(aI:OpR X (lX aC) r')(ha:PE X a ta)(hb:PE X b tb)(hc:PE X c tc)
  (hm:lastMarks [op,aC] [b,c]=uG:=by with_unfolding_all rfl):PT X (.Compare a [op,aC] [b,c] pos) (mTest (mChain r r' ta tb tc)):=by
 intro pins s σ H Q I h;refine isTrue_chain (thn (ha pins s σ H _ I h) λv s1 ⟨x,H1,I1,r1,q1⟩=>test_link (thn (hb pins s1 σ H1 _ I1 q1) λu s2 ⟨y,H2,I2,r2,q2⟩=>
  thn (ho pins s2 σ H2 x y v u _ I2 r1 r2 q2) λd s3 ⟨z,H3,I3,r3,q3⟩=>?_)) hm
 cases z with
 |bl k=>
  cases r3;refine mr ?_;cases k with
  |false=>exact ite_ff ⟨H3,I3,q3.2 rfl⟩
  |true=>
   refine ite_tt (test_last (thn (hc pins s3 σ H3 _ I3 (q3.1 rfl)) λw' s4 ⟨z',H4,I4,r4,q4⟩=>thn (aI pins s4 σ H4 y z' u w' _ I4 r2 r4 q4) λd' s5 ab=>?_))
   obtain⟨z2,H5,I5,r5,q5⟩:=ab;cases z2 with
   |bl k2=>cases r5;exact mr ⟨H5,I5,q5⟩
   |_=>exact q5.elim
 |_=>exact q3.elim
end
section
variable {X:Cx}{a b c e:lN}{ta:TE}{t:TA}
def mIx (K:Fgg):R2:=λx y H Q=>match y with
 |.int i=>(match x with
  |.ref p=>∃xs,(SqL K H p xs\/SqT K H p xs)/\(match atI xs i with |some v=>Q v H |none=>False)
  |.str z=>z.cps.toList.length<=lE/\(match atI z.cps.toList i with |some c=>Q (tx [c]) H |none=>False)
  |_=>False)
 |_=>False
theorem ix_M:IxR X (mIx X.K):=by
 intro value slice pins s σ H x y v u Q I rx ry h gm;unfold mIx at h;cases y with
 |int i=>
  cases x with
  |ref p=>
   obtain⟨xs,hs,h⟩:=h;cases ev:atI xs i with
   |none=>rw[ev]at h;exact h.elim
   |some w'=>
    rw[ev]at h;rcases hs with hs |hs
    ·exact znR_ value slice pins s σ H _ _ v u Q I rx ry ⟨p,xs,i,w',rfl,rfl,hs,ev,h⟩ gm
    ·exact zpB_ value slice pins s σ H _ _ v u Q I rx ry ⟨p,xs,i,w',rfl,rfl,hs,ev,h⟩ gm
  |str z=>
   obtain⟨hz,h⟩:=h;cases ev:atI z.cps.toList i with
   |none=>rw[ev]at h;exact h.elim
   |some w'=>
    rw[ev]at h;exact zqp_ value slice pins s σ H _ _ v u Q I rx ry ⟨z,i,w',rfl,rfl,by simpa [nM]using hz,ev,h⟩ gm
  |_=>exact h.elim
 |_=>exact h.elim
def mSl (K:Fgg):V->Option Int->Option Int->Hp->VK->Prop:=λx lo hi H Q=>match x with
 |.str z=>z.cps.toList.length<=lE/\Q (tx (cutL z.cps.toList lo hi)) H
 |.ref a=>∃xs,SqL K H a xs/\∀p,H p=uE->Q (.ref p) (upd H p (.lst (cutV xs lo hi)))
 |_=>False
theorem sl_M:SlR X (mSl X.K):=by
 intro pins s σ H x v vl vu lo hi sl Q I rx hs pl pu h;unfold mSl at h;cases x with
 |str z=>exact zrg_ pins s σ H _ v vl vu lo hi sl Q I rx hs pl pu ⟨by simpa [nM]using h.1,h.2⟩
 |ref p=>
  obtain⟨xs,h1,h2⟩:=h;exact znB_ pins s σ H _ v vl vu lo hi sl Q I rx hs pl pu ⟨p,xs,rfl,h1,h2⟩
 |_=>exact h.elim
def mPart (t:TE):TO:=λσ H Q=>t σ H λx H1=>match x with |.int i=>Q (uD i) H1 |_=>False
theorem po_M (h:PE X e ta):PO X (uD e) (mPart ta):=by
 intro pins s σ H Q I hw;rw[evalPart_some];refine thn (h pins s σ H _ I hw) λu s1 ab=>?_
 obtain⟨x,H1,I1,r1,q1⟩:=ab;cases x with
 |int i=>obtain⟨t,rfl⟩:=r1;exact⟨uD i,H1,I1,.int i t,q1⟩
 |_=>exact q1.elim
def mLen (K:Fgg):List V->Hp->VK->Prop:=λxs H Q=>match xs with
 |[.str z]=>z.cps.toList.length<=lE/\Q (.int z.cps.toList.length) H
 |[.ref p]=>∃ys,(SqL K H p ys\/SqT K H p ys)/\Q (.int ys.length) H
 |_=>False
theorem zk7_ {K:Fgg}{xs:List V}{H:Hp}{Q:VK}(h:mLen K xs H Q):(∃z,xs=[.str z]/\z.cps.toList.length<=lE/\Q (.int z.cps.toList.length) H)\/∃p ys,xs=[.ref p]/\(SqL K H p ys\/SqT K H p ys)/\Q (.int ys.length) H:=by
 rcases xs with _ |⟨x,_ |⟨y,t⟩⟩
 ·exact mx h
 ·cases x with
  |str z=>exact .inl ⟨z,rfl,h⟩
  |ref p=>obtain⟨ys,h⟩:=h;exact .inr ⟨p,ys,rfl,h⟩
  |_=>exact mx h
 ·cases x<;>exact mx h
theorem zi1_:CallR X (.builtin "len") (mLen X.K):=by
 intro pins s σ H xs us Q I r h;rcases zk7_ h with⟨z,rfl,h⟩|⟨p,ys,rfl,h1,h2⟩
 ·exact zeU_ pins s σ H _ us Q I r ⟨_,rfl,by simpa [nM]using h.1,by simpa [nM]using h.2⟩
 ·exact ze4_ pins s σ H _ us Q I r ⟨_,ys,rfl,h1,h2⟩
def mTwo (g:Int->Int->Int):List V->Hp->VK->Prop:=λxs H Q=>match xs with |[.int i,.int j]=>Q (.int (g i j)) H |_=>False
theorem zkJ_ {g:Int->Int->Int}{xs:List V}{H:Hp}{Q:VK}(h:mTwo g xs H Q):∃i j,xs=[.int i,.int j]/\Q (.int (g i j)) H:=by
 rcases xs with _ |⟨x,_ |⟨y,_ |⟨w,t⟩⟩⟩
 ·exact mx h
 ·cases x<;>exact mx h
 ·cases x with
  |int i=>cases y with
   |int j=>exact⟨i,j,rfl,h⟩
   |_=>exact mx h
  |_=>exact mx h
 ·cases x with
  |int i=>cases y<;>exact mx h
  |_=>exact mx h
theorem ziz_ (hc:X.calm=uF):CallR X (.builtin "min") (mTwo min):=by
 intro pins s σ H xs us Q I r h;obtain⟨i,j,rfl,h⟩:=zkJ_ h;refine ziM_ hc pins s σ H _ us Q I r ⟨i,j,rfl,?_⟩;have e:(if j<i then j else i)=min i j:=by split<;>lia
 rw[e];exact h
def tyS (K:Fgg)(H:Hp):V->String->Prop:=λx T=>match x with
 |.non=>T="NoneType" |.bl _=>T="bool" |.int _=>T="int" |.str _=>T="str"
 |.ref p=>(T="list" /\ ∃xs,H p=uD (.lst xs))\/(T="tuple" /\ ∃xs,H p=uD (.tup xs))
 |_=>False
theorem zqu_ {K:Fgg}{H:Hp}{x:V}{T:String}(h:tyS K H x T):TyOf K H x (.type T):=by
 unfold tyS at h;cases x with
 |non=>subst h;exact .non
 |bl b=>subst h;exact .bl b
 |int i=>subst h;exact .int i
 |str z=>subst h;exact .str z
 |ref p=>
  rcases h with⟨rfl,xs,h⟩|⟨rfl,xs,h⟩
  ·exact .lst h
  ·exact .tup h
 |_=>exact h.elim
noncomputable def isaB (T c:String):Option Bool:=
 if T=c then uD uF else if T="bool" /\ c="int" then uD uF
 else if(T="bool" \/ T="int" \/ T="str" \/ T="list" \/ T="tuple" \/ T="NoneType")/\(c="bool" \/ c="int" \/ c="str" \/ c="list" \/ c="tuple" \/ c="dict")then uD uG else uE
theorem zmR_ {K:Fgg}{T c:String}{b:Bool}(h:isaB T c=uD b):uj K (.type T) (.type c)=uD b:=by
 unfold isaB at h;split at h
 ·rename_i e;subst e;cases h
  unfold uj;rw[if_pos (by simp)]
 ·split at h
  ·rename_i e;obtain⟨rfl,rfl⟩:=e;cases h;rfl
  ·split at h
   ·rename_i h1 h2 e
    cases h;obtain⟨e1,e2⟩:=e;rcases e1 with rfl |rfl |rfl |rfl |rfl |rfl<;>rcases e2 with rfl |rfl |rfl |rfl |rfl |rfl<;>first |rfl |exact absurd rfl h1 |exact absurd ⟨rfl,rfl⟩ h2
   ·cases h
noncomputable def findS (l:List Nat)(t:List Nat):Int:=Txt.find ⟨l.toArray⟩ ⟨t.toArray⟩
def mFind:V->List V->Hp->VK->Prop:=λx xs H Q=>match x,xs with |.str l,[.str t]=>Q (.int (findS l.cps.toList t.cps.toList)) H |_,_=>False
def mIndex:V->List V->Hp->VK->Prop:=λx xs H Q=>match x,xs with |.str l,[.str t]=>findS l.cps.toList t.cps.toList ≠ -1/\Q (.int (findS l.cps.toList t.cps.toList)) H |_,_=>False
noncomputable def strsOf:List V->Option (List Str)
 |[]=>uD []
 |.str z::r=>(strsOf r).map (z::·)
 |_::_=>uE
noncomputable def joinS (sep:List Nat)(zs:List Str):List Nat:=(Txt.join ⟨sep.toArray⟩ zs).cps.toList
def mJoin (K:Fgg):V->List V->Hp->VK->Prop:=λx xs H Q=>match x,xs with
 |.str l,[.ref D]=>∃vs,(SqL K H D vs)/\(match strsOf vs with |some zs=>JoinOk l zs=uF/\Q (tx (joinS l.cps.toList zs)) H |none=>False)
 |_,_=>False
end
def Gd (P:lY)(w:mq)(K:Fgg)(mg:Str->Option aT)(base:Heap)(CX:CXT)(k:Nat)(x:Str)(ps:List Str)(sp:Sp):Prop:=
 ∃f fd,FnOk P w K mg base CX k f fd ps sp/\mg x=uD (.ref f)/\oI K (.ref f)=uF/\Binds K fd ps []
def Gc (mg:Str->Option aT)(x:Str)(v:V):Prop:=∃u,mg x=uD u/\RelV v u
abbrev Gb (mg:Str->Option aT)(x:Str):Prop:=mg x=uE
section
variable {X:Cx}{x:Str}{p pos:Pos}{e:lN}{es:List lN}{t:TA}{tg:lN}
theorem pe_gc {v:V}(h:Gc X.mg x v)(hg:Gl X x:=by rfl)(hd:(x==("__debug__":Str))=uG:=by decide):PE X (.Name x pos) (tC v):=by
 obtain⟨u,hm,r⟩:=h;exact zmA_ hg hm r hd
theorem pe_ty (T:String)(hm:Gb X.mg x)(hg:Gl X x:=by rfl)(hv:nS x=uD (.type T):=by rfl)(hn:x ≠ "__name__":=by decide)(hd:(x==("__debug__":Str))=uG:=by decide):PE X (.Name x pos) (tC (.ty T)):=
 znt_ hg hm hv rfl hn hd
theorem zl7_ {id:String}{r:List V->Hp->VK->Prop}(hc:CallR X (.builtin id) r)(hm:Gb X.mg x)(ha:PA X (e::es) t)(hg:Gl X x:=by rfl)(hv:nS x=uD (.builtin id):=by rfl)(hn:x ≠ "__name__":=by decide)(ba:(x==("__debug__":Str))=uG:=by decide)
  (hs:l7 (e::es) X.env=(uG,eval e X.env)::l7 es X.env:=by rfl) (av:(oP pos (l7 es X.env)).any (·.1)=uG:=by rfl):PE X (.Call (.Name x p) (e::es) [] pos) (tCB r t):=
 zku_ hc hg hm hv ha hn ba hs av
def iAny (K:Fgg)(tl:TE):TI:=λσ H R=>tl σ H λx H1=>match x with
 |.str z=>R (Itp z.cps.toList.length (λi=>tx [z.cps.toList.getD i 0])) H1
 |.ref a=>((∃xs,SqL K H1 a xs)/\R (Itl K a) H1)\/((∃xs,SqT K H1 a xs)/\R (Itt K a) H1)
 |_=>False
theorem znj_ (z:Str):sgn z=λi=>tx [z.cps.toList.getD i 0]:=by
 funext i;unfold sgn;simp[oX,mQ]
theorem zrn_ {l:lN}{tl:TE}(hl:PE X l tl):PI X tg l (iAny X.K tl):=by
 intro pins s σ H R I h;refine thn (hl pins s σ H _ I h) λv s1 ab=>?_
 obtain⟨x,H1,I1,r1,q1⟩:=ab;have pt:∀(v:V),PE X l (tC v)->PE X l (tC v):=λ_ h=>h
 cases x with
 |str z=>
  obtain⟨t,rfl⟩:=r1;refine wpAny_pyIter_strU ?_;have q:R (Itp z.cps.size (sgn z)) H1:=by
   have e:z.cps.toList.length=z.cps.size:=by simp
   rw[znj_,<- e];exact q1
  refine⟨s1.heap.objs.size,[s1.heap.objs.size],_,_,H1,rfl,I1.kept (t':=s1.toks) λb o e=>lh _ e,zkS_ _ z t,⟨ny _,⟨_,lI _ rfl,rfl,rfl⟩⟩,λb hb=>?_,q⟩
  have e:b=s1.heap.objs.size:=by simpa using hb
  subst e;exact I1.fpOk (lp _) (I1.hok.fresh (lp _))
 |ref a=>
  cases r1;rcases q1 with⟨⟨xs,hq⟩,q⟩|⟨⟨xs,hq⟩,q⟩
  ·obtain⟨aa,rv,p,hz⟩:=I1.list hq
   refine wpAny_pyIter_list p.isList ?_;refine⟨s1.heap.objs.size,[s1.heap.objs.size],_,_,H1,rfl,I1.kept (t':=s1.toks) λb o e=>lh _ e,ziB_ a _,⟨_,lI _ rfl,rfl,rfl⟩,λb hb=>?_,q⟩
   have e:b=s1.heap.objs.size:=by simpa using hb
   subst e;exact I1.fpOk (lp _) (I1.hok.fresh (lp _))
  ·obtain⟨aa,rv,p,hz⟩:=I1.tuple hq
   refine wpAny_pyIter_tuple (show s1.heap.IsTuple a aa.toArray from p) ?_
   refine⟨s1.heap.objs.size,[s1.heap.objs.size],_,_,H1,rfl,I1.kept (t':=s1.toks) λb o e=>lh _ e,zgs_ a _,⟨_,lI _ rfl,rfl,rfl⟩,λb hb=>?_,q⟩
   have e:b=s1.heap.objs.size:=by simpa using hb
   subst e;exact I1.fpOk (lp _) (I1.hok.fresh (lp _))
 |_=>exact q1.elim
def mRng1 (ta:TA):TI:=λσ H R=>ta σ H λvs H1=>match vs with |[.int j] => -(2 ^ 62)<=j/\j<2 ^ 62/\R (Itr 0 j.toNat) H1 |_=>False
def mRng2 (ta:TA):TI:=λσ H R=>ta σ H λvs H1=>match vs with |[.int i,.int j]=>(-(2 ^ 62)<=i/\i<2 ^ 62 /\ -(2 ^ 62)<=j/\j<2 ^ 62)/\R (Itr i (j-i).toNat) H1 |_=>False
end
section
variable {X:Cx}{tg:lN}
theorem zki_ {a:lN}{ta:TA}{p pos:Pos}(hm:Gb X.mg "range")(ha:PA X [a] ta)(hg:Gl X "range":=by rfl)(hs:l7 [a] X.env=[(uG,eval a X.env)]:=by rfl):PI X tg (.Call (.Name "range" p) [a] [] pos) (mRng1 ta):=by
 intro pins s σ H R I h;refine Call_ (zdq_ I hg hm boot_range (mP (thn (ha pos pins s σ H _ I h) λus s1 ab=>?_) hs rfl))
 obtain⟨vs,H1,I1,r1,q1⟩:=ab
 try dsimp only at q1
 split at q1
 ·obtain⟨q2,q3,q⟩:=q1
  cases r1 with
  |cons r rr=>
   cases rr;obtain⟨t,rfl⟩:=r;exact call_range_1 (zgU_ I1 (by lia) (by lia) q2 q3 (by simpa using q))
 ·exact q1.elim
theorem zj8_ {a b:lN}{ta:TA}{p pos:Pos}(hm:Gb X.mg "range")(ha:PA X [a,b] ta)(hg:Gl X "range":=by rfl)(hs:l7 [a,b] X.env=[(uG,eval a X.env),(uG,eval b X.env)]:=by rfl)(aO:l7 [b] X.env=[(uG,eval b X.env)]:=by rfl):
  PI X tg (.Call (.Name "range" p) [a,b] [] pos) (mRng2 ta):=by
 intro pins s σ H R I h;refine Call_ (zdq_ I hg hm boot_range (mP (thn (ha pos pins s σ H _ I h) λus s1 ab=>?_) (by rw[hs,aO]) (by rw[aO];rfl)))
 obtain⟨vs,H1,I1,r1,q1⟩:=ab
 try dsimp only at q1
 split at q1
 ·obtain⟨⟨q1,q2,q3,q4⟩,q⟩:=q1
  cases r1 with
  |cons r rr=>
   cases rr with
   |cons r' rr=>
    cases rr;obtain⟨t,rfl⟩:=r;obtain⟨t',rfl⟩:=r';exact call_range_2 (zgU_ I1 q1 q2 q3 q4 q)
 ·exact q1.elim
variable {elts:List lN}{kk:Nat}{cH:Pos}
def iEnum (K:Fgg)(ta:TA):TI:=λσ H R=>ta σ H λvs H1=>match vs with
 |[.str z]=>R (Ites z.cps.toList.length (λi=>tx [z.cps.toList.getD i 0])) H1
 |[.ref a]=>(∃xs,SqL K H1 a xs)/\R (Ite K a) H1
 |_=>False
theorem zmp_ {a:lN}{ta:TA}{p pos:Pos}(hm:Gb X.mg "enumerate")(ha:PA X [a] ta)(hg:Gl X "enumerate":=by rfl)(hs:l7 [a] X.env=[(uG,eval a X.env)]:=by rfl):
  PI X (.Tuple elts kk cH) (.Call (.Name "enumerate" p) [a] [] pos) (iEnum X.K ta):=by
 intro pins s σ H R I h;refine Call_ (zdq_ I hg hm (u:=.type "enumerate") (by rfl) (mP (thn (ha pos pins s σ H _ I h) λus s1 ab=>?_) hs rfl))
 obtain⟨vs,H1,I1,r1,q1⟩:=ab
 try dsimp only at q1
 split at q1
 ·rename_i z
  cases r1 with
  |cons r rr=>
   cases rr;obtain⟨t,rfl⟩:=r;refine call_enumerate_str λh' he hit hsz hk=>?_
   refine wpAny_pyIter_enum (s:={s1 with heap:=h'}) he ?_;have I2:Inv X pins σ H1 {s1 with heap:=h'}:=I1.kept (t':=s1.toks) hk;have q:R (Ites z.cps.size (sgn z)) H1:=by
    have e:z.cps.toList.length=z.cps.size:=by simp
    rw[znj_,<- e];exact q1
   refine⟨s1.heap.objs.size+1,[s1.heap.objs.size+1,s1.heap.objs.size],_,_,H1,rfl,I2,zg0_ _ _ z t (by simp),⟨⟨_,he⟩,ny _,hit⟩,λb hb=>?_,q⟩
   have cA:s1.heap.objs.size<=b:=by
    rcases lC.mp hb with rfl |hb
    ·exact oN _
    ·have e:b=s1.heap.objs.size:=by simpa using hb
     subst e;exact lp _
   exact I1.fpOk cA (I1.hok.fresh cA)
 ·rename_i l
  obtain⟨⟨xs,hq⟩,q⟩:=q1;cases r1 with
  |cons r rr=>
   cases rr;cases r;obtain⟨aa,rv,p,hz⟩:=I1.list hq;refine call_enumerate_list p.isList λh' he hit hsz hk=>?_
   refine wpAny_pyIter_enum (s:={s1 with heap:=h'}) he ?_;have I2:Inv X pins σ H1 {s1 with heap:=h'}:=I1.kept (t':=s1.toks) hk;refine⟨s1.heap.objs.size+1,[s1.heap.objs.size+1,s1.heap.objs.size],_,_,H1,rfl,I2,zf6_ _ _ l (by simp),⟨⟨_,he⟩,hit⟩,λb hb=>?_,q⟩
   have cA:s1.heap.objs.size<=b:=by
    rcases lC.mp hb with rfl |hb
    ·exact oN _
    ·have e:b=s1.heap.objs.size:=by simpa using hb
     subst e;exact lp _
   exact I1.fpOk cA (I1.hok.fresh cA)
 ·exact q1.elim
def gNilM:TGs:=λvs σ H Q=>match vs with |[]=>Q σ H |_=>False
def gConsM (t:TG)(u:TGs):TGs:=λvs σ H Q=>match vs with |v::r=>t v σ H λaf H'=>u r af H' Q |[]=>False
theorem zkV_:PGs X [] gNilM:=by
 intro pins s σ H vs us Q I r h;cases vs with
 |nil=>exact znD_ pins s σ H [] us Q I r ⟨rfl,h⟩
 |cons _ _=>exact h.elim
theorem ziF_ {e:lN}{es:List lN}{t:TG}{u:TGs}(h1:PG X e t)(h2:PGs X es u)
  (hs:(nD (e::es) X.env).map (·.2)=assign e X.env::(nD es X.env).map (·.2):=by rfl):PGs X (e::es) (gConsM t u):=by
 intro pins s σ H vs us Q I r h;cases vs with
 |nil=>exact h.elim
 |cons v vr=>exact zlo_ h1 h2 hs pins s σ H _ us Q I r ⟨v,vr,rfl,h⟩
def gTupM (K:Fgg)(n:Nat)(t:TGs):TG:=λv σ H Q=>match v with |.ref a=>∃xs,SqT K H a xs/\xs.length=n/\t xs σ H Q |_=>False
theorem zlM_ {es:List lN}{k:Nat}{t:TGs}{n:Nat}{pos:Pos}(hc:X.calm=uF)(h:PGs X es t)
  (hn:(nD es X.env).length=n:=by rfl) (gh:(nD es X.env).findIdx? (·.1)=uE:=by rfl):PG X (.Tuple es k pos) (gTupM X.K n t):=by
 intro pins s σ H v u Q I r hw;cases v with
 |ref a=>
  obtain⟨xs,h1,h2,h3⟩:=hw;exact zpC_ hc h hn gh pins s σ H _ u Q I r ⟨a,xs,rfl,h1,h2,h3⟩
 |_=>exact hw.elim
def mNeg (ta:TE):TE:=λσ H Q=>ta σ H λx H1=>match x with |.int i=>Q (.int (-i)) H1 |_=>False
theorem zof_ {a:lN}{ta:TE}{pos:Pos}(ha:PE X a ta):PE X (.UnaryOp .USub a pos) (mNeg ta):=by
 intro pins s σ H Q I h;refine UnaryOp_ (thn (ha pins s σ H _ I h) λv s1 ab=>?_)
 obtain⟨x,H1,I1,r1,q1⟩:=ab;cases x with
 |int i=>exact zrr_ pins s1 σ H1 _ v Q I1 r1 ⟨i,rfl,q1⟩
 |_=>exact q1.elim
end
theorem zay_ {H:Hp}{p:lu}(h:H p=uE)(o:HO):Same H (upd H p o):=λb u q=>by rw[zR_ (zar_ q h)];exact q
theorem za1_ {n:Nat}(h:n<=100000):n<=lE:=by rw[sizeLine_eq];lia
section
variable {X:Cx}{tg:lN}
theorem zfT_ {P:lY}{w:mq}{K:Fgg}{tg:lN}(it:lu)(lo c:Int)(n:Nat):
  Turn P w K tg (Itp n λi=>.int (lo+i*c)) [it] it (λi h=>i<=n/\IsRangeIter h it (lo+(i:Nat)*c) ((n:Int)-(i:Nat)) c):=by
 refine zfd_ (Pw:=λi v=>∃t,v=.int (lo+i*c) t) (λA hA=>Walks.range hA it lo c n) (λi v _ h=>h) (λi h st=>⟨_,_,_,st,rfl,rfl,by decide⟩) (λA i s Q E st h=>wpAny_pyIter_rangeiter st h) (λi h h' st k=>k it (by simp) _ st)
theorem zbQ_ (a b:Int):nH a b (-1)=(((a-b).toNat:Nat):Int):=by
 unfold nH;rw[if_neg (by decide)]
 split
 ·have e:(a-b-1) / (- -1)=a-b-1:=by
   have:(- -1:Int)=1:=by decide
   rw[this,rj]
  rw[e];lia
 ·lia
theorem zgj_ {a b:Int}(ha : -(2 ^ 61)<=a)(kX:a<2 ^ 61)(hb : -(2 ^ 61)<=b)(cA:b<2 ^ 61):qT a b (-1)=uF:=by
 unfold qT;rw[zbQ_];simp only[sf,k9,mK,decide_eq_true_eq,beq_iff_eq,show¬((-1:Int) > 0) by decide,if_false]
 omega
def mRng3 (ta:TA):TI:=λσ H R=>ta σ H λvs H1=>match vs with
 |[.int i,.int j,.int c]=>c = -1/\(-(2 ^ 61)<=i/\i<2 ^ 61 /\ -(2 ^ 61)<=j/\j<2 ^ 61)/\R (Itp (i-j).toNat λk=>.int (i+k*(-1))) H1
 |_=>False
theorem zk2_ {a b c:lN}{ta:TA}{p pos:Pos}(hm:Gb X.mg "range")(ha:PA X [a,b,c] ta)(hg:Gl X "range":=by rfl)
  (hs:l7 [a,b,c] X.env=(uG,eval a X.env)::l7 [b,c] X.env:=by rfl) (av:(oP pos (l7 [b,c] X.env)).any (·.1)=uG:=by rfl):
  PI X tg (.Call (.Name "range" p) [a,b,c] [] pos) (mRng3 ta):=by
 intro pins s σ H R I h;refine Call_ (zdq_ I hg hm boot_range (mP (thn (ha pos pins s σ H _ I h) λus s1 ab=>?_) hs av))
 obtain⟨vs,H1,I1,r1,q1⟩:=ab
 try dsimp only at q1
 split at q1
 ·rename_i i j c
  obtain⟨rfl,⟨q1,q2,q3,q4⟩,q⟩:=q1;cases r1 with
  |cons r rr=>
   cases rr with
   |cons r' rr=>
    cases rr with
    |cons aU rr=>
     cases rr;obtain⟨t,rfl⟩:=r;obtain⟨t',rfl⟩:=r';obtain⟨cI,rfl⟩:=aU;refine call_range_3 (by decide) ?_ (.inl (PyProof.noPylong_small (by decide)))
     refine wpAny_pyIter_range (IsRange.new ..) (zgj_ q1 q2 q3 q4) ?_;have I2:Inv X pins σ H1 {s1 with heap:=s1.heap.push {cls:=.type "range",data:=.fields #[.int i t,.int j t',.int (-1) cI]},toks:=s1.toks}:=I1.kept λb o e=>lh _ e
     refine⟨(s1.heap.push {cls:=.type "range",data:=.fields #[.int i t,.int j t',.int (-1) cI]}).objs.size,[(s1.heap.push {cls:=.type "range",data:=.fields #[.int i t,.int j t',.int (-1) cI]}).objs.size],_,_,H1,rfl,
      I2.kept (t':=s1.toks) λb o e=>lh _ e,zfT_ _ i (-1) (i-j).toNat,⟨ny _,?_⟩,λb hb=>?_,q⟩
     ·have e1:i+((0:Nat):Int)*(-1)=i:=by simp
      have e2:(((i-j).toNat:Nat):Int)-((0:Nat):Int)=nH i j (-1):=by rw[zbQ_];simp
      rw[e1,e2];exact lI _ rfl
     ·have e:b=(s1.heap.push {cls:=.type "range",data:=.fields #[.int i t,.int j t',.int (-1) cI]}).objs.size:=by simpa using hb
      subst e;exact I2.fpOk (lp _) (I2.hok.fresh (lp _))
 ·exact q1.elim
def mSet:TSet:=λo i v H Q=>match i with
 |.int k=>(match o with
  |.ref p=>∃xs,H p=uD (.lst xs)/\(match ixN xs.length k with |some j=>Q (upd H p (.lst (xs.set j v)))|none=>False)
  |_=>False)
 |_=>False
theorem set_M:PSet X mSet:=by
 intro pins s σ H o i v ov iv u Q I ro ri rv h;unfold mSet at h;cases i with
 |int k=>
  cases o with
  |ref p=>
   obtain⟨xs,h1,h⟩:=h;cases e:ixN xs.length k with
   |none=>rw[e]at h;exact h.elim
   |some j=>
    rw[e]at h;exact zk1_ pins s σ H _ _ v ov iv u Q I ro ri rv ⟨p,xs,k,j,rfl,rfl,h1,e,h⟩
  |_=>exact h.elim
 |_=>exact h.elim
def mZfill:V->List V->Hp->VK->Prop:=λx xs H Q=>match x,xs with |.str l,[.int i]=>PadOk i=uF/\Q (tx (Txt.zfill l i).cps.toList) H |_,_=>False
def mLjust:V->List V->Hp->VK->Prop:=λx xs H Q=>match x,xs with |.str l,[.int i]=>PadOk i=uF/\Q (tx (Txt.ljust l i).cps.toList) H |_,_=>False
variable {x:Str}{p pos:Pos}{e:lN}{es:List lN}{t:TA}
theorem zqD_ (T:String){r:List V->Hp->VK->Prop}(hc:CallR X (.type T) r)(hm:Gb X.mg x)(ha:PA X (e::es) t)(hg:Gl X x:=by rfl)(hv:nS x=uD (.type T):=by rfl)(hn:x ≠ "__name__":=by decide)(ba:(x==("__debug__":Str))=uG:=by decide)
  (hs:l7 (e::es) X.env=(uG,eval e X.env)::l7 es X.env:=by rfl) (av:(oP pos (l7 es X.env)).any (·.1)=uG:=by rfl):PE X (.Call (.Name x p) (e::es) [] pos) (tCB r t):=
 ziy_ hc hg hm hv ha hn ba hs av
end
def DAt (dx:lu)(fs:List (Str×V))(h:Heap):Prop:=∃mA,h.Ns1 dx mA/\(∀f,RelO (fs.lookup f) (mA f))/\qx mA (fs.map (·.1))
abbrev XDO (dx:lu)(fs:List (Str×V)):HO:=.ext (DAt dx fs)
section
end
def gA (K:Fgg)(x:Str):lu:=match nP K lS x with |some (uD (.ref c))=>c |_=>0
theorem znw_ {K:Fgg}{x:Str}{c:lu}(h:nP K lS x=uD (uD (.ref c))):gA K x=c:=by unfold gA;rw[h]
section
end
end L2
namespace LX
open PySem PySem.W PySem.Calls PyProof.Rows Builtin Builtin.ObjectAttr Builtin.Getset_descriptor
section
end
end LX
namespace L2
open PySem PySem.Spec PyProof.Rows
section
variable {X:Cx}
def mAll (K:Fgg):List V->Hp->VK->Prop:=λxs H Q=>match xs with |[.ref p]=>∃bs:List Bool,SqL K H p (bs.map V.bl)/\Q (.bl (bs.all id)) H |_=>False
theorem zdV_:∀{bs:List Bool}{us:List aT},Vals (bs.map V.bl) us->us=bs.map oY
 |[],_,.nil=>rfl
 |b::bs,_,.cons r t=>by rw[zdV_ t];cases r;rfl
theorem zfK_ {P:lY}{w:mq}{A:mG}{bs:List Bool}:TruthOf P w A (λi v=>(bs.map oY).toArray[i]?=uD v) (λi=>bs.getD i uG):=by
 intro i v s Q E h q;have h':(bs.map oY)[i]?=uD v:=by simpa using h
 rw[lB]at h';cases e:bs[i]? with
 |none=>rw[e]at h';cases h'
 |some b=>
  rw[e]at h';cases h';have:bs.getD i uG=b:=by rw[mQ,e];rfl
  have q:Q (bs.getD i uG) s:=q;rw[this]at q;exact mr q
theorem zdK_ (bs:List Bool):(lH bs.length).all (λi=>bs.getD i uG)=bs.all id:=by
 rw[Bool.eq_iff_iff,mL,mL];constructor
 ·intro h b hb
  obtain⟨i,hi,e⟩:=p7 hb;have:=h i (mf.mpr hi);rw[mQ,lj hi]at this;rw[<- e];exact this
 ·intro h i hi
  have hi:=mf.mp hi;rw[mQ,lj hi];exact h _ (rM hi)
theorem zh7_ (hc:X.calm=uF):CallR X (.builtin "all") (mAll X.K):=by
 intro pins s σ H xs us Q I r h;unfold mAll at h;split at h
 ·rename_i p
  obtain⟨bs,hS,q⟩:=h;obtain⟨u,rfl,rx⟩:=vals1 r;cases rx;obtain⟨aa,rv,pl,hz⟩:=I.list hS;rw[zdV_ rv]at pl;have hp:=lL pl.isList.choose_spec.1;have aP:p≠s.heap.objs.size:=mm hp;refine call_all_walk (wpAny_pyIter_list pl.isList ⟨_,_,_,_,_,_,_,rfl,Walks.list (A:=X.A.in1) (I.ok.hd hc) _ p aP (bs.map oY).toArray,⟨⟨_,lI _ rfl,rfl,rfl⟩,pl.isList.at λo e=>lh _ e⟩,zfK_,λh' tk kk=>?_⟩)
  refine⟨.bl (bs.all id),H,I.kept (t':=tk) λb o e=>kk b o (by simpa using mm (lL e)) (lh _ e),?_,q⟩
  show oY _=_
  rw[lx,k8,zdK_]
 ·exact h.elim
def mRange:List V->Hp->VK->Prop:=λxs H Q=>match xs with
 |[.int j]=>∀p,H p=uE->Q (.ref p) (upd H p (.rng 0 j))
 |[.int i,.int j]=>∀p,H p=uE->Q (.ref p) (upd H p (.rng i j))
 |_=>False
theorem zfC_:CallR X (.type "range") mRange:=by
 intro pins s σ H xs us Q I r h;unfold mRange at h;split at h
 ·rename_i j
  obtain⟨u,rfl,t,rfl⟩:=vals1 r;refine call_range_1 ⟨.ref s.heap.objs.size,_,I.laid (o:=.rng 0 j) (λb ob q=>lh _ q) (lp _) ?_,rfl,h _ (I.hok.fresh (lp _))⟩
  exact⟨_,_,_,lI _ rfl⟩
 ·rename_i i j
  obtain⟨u,u',rfl,⟨t,rfl⟩,⟨t',rfl⟩⟩:=vals2 r;refine call_range_2 ⟨.ref s.heap.objs.size,_,I.laid (o:=.rng i j) (λb ob q=>lh _ q) (lp _) ?_,rfl,h _ (I.hok.fresh (lp _))⟩
  exact⟨_,_,_,lI _ rfl⟩
 ·exact h.elim
noncomputable def intsV (lo hi:Int):List V:=(lH (hi-lo).toNat).map λ(i:Nat)=>V.int (lo+i)
def mList (K:Fgg):List V->Hp->VK->Prop:=λxs H Q=>match xs with
 | [.ref p]=>(∃ys,(SqL K H p ys\/SqT K H p ys)/\∀l,H l=uE->Q (.ref l) (upd H l (.lst ys))) \/
   (∃lo hi,H p=uD (.rng lo hi)/\(-50000<=lo/\lo<=50000 /\ -50000<=hi/\hi<=50000)/\∀l,H l=uE->Q (.ref l) (upd H l (.lst (intsV lo hi))))
 |_=>False
theorem zlv_ {lo:Int}:∀{n:Nat}{us:List aT},us.length=n->(∀(j:Nat) (v:aT),us[j]?=uD v->∃t,v=ql (lo+j) t)->Vals ((lH n).map λ(i:Nat)=>V.int (lo+i)) us
 |n,us,hl,h=>by
  refine paired_of (by rw[k8,lJ,hl]) λj x u hx hu=>?_
  rw[lB]at hx;cases e:(lH n)[j]? with
  |none=>rw[e]at hx;cases hx
  |some i=>
   rw[e]at hx;cases hx;have:=lD.mp e;obtain⟨hj,ej⟩:=this;rw[pJ]at ej;subst ej;exact h j u hu
 where paired_of:∀{xs:List V}{us:List aT},xs.length=us.length->(∀(j:Nat) x u,xs[j]?=uD x->us[j]?=uD u->RelV x u)->Vals xs us
 |[],[],_,_=>.nil
 |x::xs,u::us,hl,h=>.cons (h 0 x u rfl rfl) (paired_of (mZ hl) λj x u a b=>h (j+1) x u a b)
theorem zel_ (hc:X.calm=uF):CallR X (.type "list") (mList X.K):=by
 intro pins s σ H xs us Q I r h;have hv:∃p,xs=[.ref p]:=by
  rcases xs with _ |⟨y,_ |⟨z,t⟩⟩
  ·exact mx h
  ·cases y with
   |ref p=>exact⟨p,rfl⟩
   |_=>exact mx h
  ·cases y<;>exact mx h
 obtain⟨p,rfl⟩:=hv
 ·rcases h with⟨ys,hq,q⟩|⟨lo,hi,hp,⟨h1,h2,h3,h4⟩,q⟩
  ·exact ze1_ pins s σ H _ us Q I r ⟨p,ys,rfl,hq,q⟩
  ·obtain⟨u,rfl,rx⟩:=vals1 r
   cases rx;obtain⟨t,u,v,e⟩:=I.hok p _ hp;have hn:nH lo hi 1=(((hi-lo).toNat:Nat):Int):=by rw[rangeSize_one];split<;>lia
   refine call_list_range (I.ok.hd hc) e (small_one (by lia) (by lia) (by lia) (by lia)) hn (by lia) λh' tk acc c' kp e' ab=>?_
   obtain⟨hs,hi'⟩:=ab;refine⟨.ref s.heap.objs.size,_,I.laid (o:=.lst (intsV lo hi)) (t':=tk) kp (lp _) ?_,rfl,q _ (I.hok.fresh (lp _))⟩;refine⟨?_,acc.toList,c',zlv_ (by simpa using hs) (λj v hv=>?_),by simpa using e'⟩
   ·unfold intsV;rw[k8,lJ];exact za1_ (by lia)
   ·obtain⟨t,ht⟩:=hi' j v (by simpa using hv)
    exact⟨t,by rw[ht];simp⟩
end
inductive EqD (K:Fgg) (H:Hp):Nat->V->V->Bool->Prop
 |flat {x y:V}(hx:flatV x=uF) (hy:flatV y=uF):EqD K H 0 x y (eqV x y)
 |lst {n:Nat}{p q:lu}{xs ys:List V}(e:Nat->Bool) (hp:SqL K H p xs) (hq:SqL K H q ys) (hl:xs.length=ys.length) (h:∀(i:Nat) x y,xs[i]?=uD x->ys[i]?=uD y->EqD K H n x y (e i)):EqD K H (n+1) (.ref p) (.ref q) ((lH xs.length).all e)
 |lstN {n:Nat}{p q:lu}{xs ys:List V}(hp:SqL K H p xs) (hq:SqL K H q ys) (hl:xs.length≠ys.length):EqD K H n (.ref p) (.ref q) uG
 |tup {n:Nat}{p q:lu}{xs ys:List V}(e:Nat->Bool) (hp:SqT K H p xs) (hq:SqT K H q ys) (h:∀(i:Nat) x y,xs[i]?=uD x->ys[i]?=uD y->EqD K H n x y (e i)):EqD K H (n+1) (.ref p) (.ref q) ((lH (min xs.length ys.length)).all e && xs.length == ys.length)
 |lt {n:Nat}{p q:lu}{xs ys:List V}(hp:SqL K H p xs) (hq:SqT K H q ys):EqD K H n (.ref p) (.ref q) uG
 |tl {n:Nat}{p q:lu}{xs ys:List V}(hp:SqT K H p xs) (hq:SqL K H q ys):EqD K H n (.ref p) (.ref q) uG
 |lf {n:Nat}{p:lu}{xs:List V}{y:V}(hp:SqL K H p xs) (hy:flatV y=uF):EqD K H n (.ref p) y uG
 |fl {n:Nat}{p:lu}{xs:List V}{y:V}(hp:SqL K H p xs) (hy:flatV y=uF):EqD K H n y (.ref p) uG
 |tf {n:Nat}{p:lu}{xs:List V}{y:V}(hp:SqT K H p xs) (hy:flatV y=uF):EqD K H n (.ref p) y uG
 |ft {n:Nat}{p:lu}{xs:List V}{y:V}(hp:SqT K H p xs) (hy:flatV y=uF):EqD K H n y (.ref p) uG
 |up {n:Nat}{x y:V}{b:Bool}(h:EqD K H n x y b):EqD K H (n+1) x y b
section
variable {X:Cx}{pins:Pnn}{σ:St}{H:Hp}{s:ll}
theorem zce_ {xs:List V}{us:List aT}(r:Vals xs us){i:Nat}(h:i<us.toArray.size):∃x,xs[i]?=uD x/\RelV x us.toArray[i]:=by
 have hi:i<us.length:=by simpa using h
 have hl:=r.length;obtain⟨u,hu,ru⟩:=r.get (lj (show i<xs.length by lia))
 refine⟨_,lj (by lia),?_⟩
 rw[lj hi]at hu;cases hu
 simpa using ru
theorem zhF_ (I:Inv X pins σ H s){n:Nat}{x y:V}{b:Bool}(h:EqD X.K H n x y b):x=y->b=uF:=by
 induction h with
 |flat hx hy=>
  rename_i x y
  rintro rfl;cases x<;>first |(cases hx;done)|(simp[eqV];done)|rfl
 |lst e hp hq hl h ih=>
  rename_i n p q xs ys
  intro e0;cases e0;have c8:=I.list_inj hp hq;subst c8;rw[mL];intro i hi;have hi:=mf.mp hi;exact ih i _ _ (lj hi) (lj hi) rfl
 |lstN hp hq hl=>
  intro e0;cases e0;exact absurd (by rw[I.list_inj hp hq]) hl
 |tup e hp hq h ih=>
  rename_i n p q xs ys
  intro e0;cases e0;have c8:=I.tuple_inj hp hq;subst c8;rw[k9,mL];refine⟨?_,by simp⟩
  intro i hi;have hi:=mf.mp hi;have hi:i<xs.length:=by lia
  exact ih i _ _ (lj hi) (lj hi) rfl
 |lt hp hq=>
  intro e0;cases e0;obtain⟨aa,r1,p1,z1⟩:=I.list hp;obtain⟨ai,r2,p2,z2⟩:=I.tuple hq;exact absurd rfl (qF p1.isList p2)
 |tl hp hq=>
  intro e0;cases e0;obtain⟨aa,r1,p1,z1⟩:=I.tuple hp;obtain⟨ai,r2,p2,z2⟩:=I.list hq;exact absurd rfl (qF p2.isList p1)
 |lf hp hy=>rintro rfl;cases hy
 |fl hp hy=>rintro rfl;cases hy
 |tf hp hy=>rintro rfl;cases hy
 |ft hp hy=>rintro rfl;cases hy
 |up h ih=>exact ih
theorem ze3_ (I:Inv X pins σ H s){n:Nat}{x y:V}{b:Bool}(h:EqD X.K H n x y b):∀(A:mG) (v u:aT),A.units+n<cLine->RelV x v->RelV y u ->
  so A s v u b/\(∀p q,x=.ref p->y=.ref q->oQ A s v u b):=by
 induction h with
 |flat hx hy=>
  intro A v u _ rx ry;refine⟨zmx_ rx ry hx hy,λp q e _=>?_⟩
  subst e;cases hx
 |lst e hp hq hl h ih=>
  rename_i n p q xs ys
  intro A v u hu rx ry;cases rx;cases ry;obtain⟨aa,r1,p1,z1⟩:=I.list hp;obtain⟨ai,r2,p2,z2⟩:=I.list hq;have l1:=r1.length;have l2:=r2.length;have rc:oQ A s (.ref p) (.ref q) ((lH xs.length).all e):=by
   have:=SeqAt.RcAt.lists (A:=A) (e:=e) p1.isList p2.isList (by simp only[lx];lia) (by lia) (λj h1 h2=>by
    obtain⟨x,ex,rx⟩:=zce_ r1 h1;obtain⟨y,ey,ry⟩:=zce_ r2 h2;exact(ih j x y ex ey A.in1 _ _ (by show A.units+1+n<_;lia) rx ry).1)
   rw[lx,<- l1]at this;exact this
  refine⟨?_,λ_ _ _ _=>rc⟩
  by_cases hpq:p=q
  ·subst hpq
   have c8:=I.list_inj hp hq;subst c8;have:(lH xs.length).all e=uF:=by
    rw[mL];intro i hi;have hi:=mf.mp hi;exact zhF_ I (h i _ _ (lj hi) (lj hi)) rfl
   rw[this];exact qG _
  ·exact .of_refs hpq rc
 |lstN hp hq hl=>
  rename_i n p q xs ys
  intro A v u hu rx ry;cases rx;cases ry;obtain⟨aa,r1,p1,z1⟩:=I.list hp;obtain⟨ai,r2,p2,z2⟩:=I.list hq;have l1:=r1.length;have l2:=r2.length;have rc:oQ A s (.ref p) (.ref q) uG:=SeqAt.RcAt.lists_lengths p1.isList p2.isList (by simp only[lx,bne_iff_ne,ne_eq];lia) (by lia)
  refine⟨.of_refs (λe=>?_) rc,λ_ _ _ _=>rc⟩
  subst e;exact hl (by rw[I.list_inj hp hq])
 |tup e hp hq h ih=>
  rename_i n p q xs ys
  intro A v u hu rx ry;cases rx;cases ry;obtain⟨aa,r1,p1,z1⟩:=I.tuple hp;obtain⟨ai,r2,p2,z2⟩:=I.tuple hq;have l1:=r1.length;have l2:=r2.length;have rc:oQ A s (.ref p) (.ref q) ((lH (min xs.length ys.length)).all e && xs.length == ys.length):=by
   have:=SeqAt.RcAt.tuples (A:=A) (e:=e) (show s.heap.IsTuple p aa.toArray from p1) (show s.heap.IsTuple q ai.toArray from p2) (by lia) (λj h1 h2=>by
    obtain⟨x,ex,rx⟩:=zce_ r1 h1;obtain⟨y,ey,ry⟩:=zce_ r2 h2;exact(ih j x y ex ey A.in1 _ _ (by show A.units+1+n<_;lia) rx ry).1)
   rw[lx,lx,<- l1,<- l2]at this;exact this
  refine⟨?_,λ_ _ _ _=>rc⟩
  by_cases hpq:p=q
  ·subst hpq
   have c8:=I.tuple_inj hp hq;subst c8;have:((lH (min xs.length xs.length)).all e && xs.length == xs.length)=uF:=by
    rw[k9,mL];refine⟨?_,by simp⟩
    intro i hi;have hi:=mf.mp hi;have hi:i<xs.length:=by lia
    exact zhF_ I (h i _ _ (lj hi) (lj hi)) rfl
   rw[this];exact qG _
  ·exact .of_refs hpq rc
 |lt hp hq=>
  intro A v u hu rx ry;cases rx;cases ry;obtain⟨aa,r1,p1,z1⟩:=I.list hp;obtain⟨ai,r2,p2,z2⟩:=I.tuple hq;exact⟨.list_tuple p1.isList p2 (by lia),λ_ _ _ _=>.list_tuple p1.isList p2 (by lia)⟩
 |tl hp hq=>
  intro A v u hu rx ry;cases rx;cases ry;obtain⟨aa,r1,p1,z1⟩:=I.tuple hp;obtain⟨ai,r2,p2,z2⟩:=I.list hq;exact⟨.tuple_list p1 p2.isList (by lia),λ_ _ _ _=>.tuple_list p1 p2.isList (by lia)⟩
 |lf hp hy=>
  rename_i n p xs y
  intro A v u hu rx ry;cases rx;obtain⟨aa,r1,p1,z1⟩:=I.list hp;refine⟨?_,λ_ _ _ e=>by subst e;cases hy⟩
  cases y with
  |non=>cases ry;exact .list_none p1.isList (by lia)
  |bl b=>cases ry;exact .list_bool b p1.isList (by lia)
  |int b=>obtain⟨t,rfl⟩:=ry;exact .list_int b t p1.isList (by lia)
  |str b=>obtain⟨t,rfl⟩:=ry;exact .list_str b t p1.isList (by lia)
  |_=>cases hy
 |fl hp hy=>
  rename_i n p xs y
  intro A v u hu rx ry;cases ry;obtain⟨aa,r1,p1,z1⟩:=I.list hp;refine⟨?_,λ_ _ e _=>by subst e;cases hy⟩
  cases y with
  |non=>cases rx;exact .none_list p1.isList (by lia)
  |bl b=>cases rx;exact .bool_list b p1.isList (by lia)
  |int b=>obtain⟨t,rfl⟩:=rx;exact .int_list b t p1.isList (by lia)
  |str b=>obtain⟨t,rfl⟩:=rx;exact .str_list b t p1.isList (by lia)
  |_=>cases hy
 |tf hp hy=>
  rename_i n p xs y
  intro A v u hu rx ry;cases rx;obtain⟨aa,r1,p1,z1⟩:=I.tuple hp;refine⟨?_,λ_ _ _ e=>by subst e;cases hy⟩
  cases y with
  |non=>cases ry;exact .tuple_none p1 (by lia)
  |bl b=>cases ry;exact .tuple_bool b p1 (by lia)
  |int b=>obtain⟨t,rfl⟩:=ry;exact .tuple_int b t p1 (by lia)
  |str b=>obtain⟨t,rfl⟩:=ry;exact .tuple_str b t p1 (by lia)
  |_=>cases hy
 |ft hp hy=>
  rename_i n p xs y
  intro A v u hu rx ry;cases ry;obtain⟨aa,r1,p1,z1⟩:=I.tuple hp;refine⟨?_,λ_ _ e _=>by subst e;cases hy⟩
  cases y with
  |non=>cases rx;exact .none_tuple p1 (by lia)
  |bl b=>cases rx;exact .bool_tuple b p1 (by lia)
  |int b=>obtain⟨t,rfl⟩:=rx;exact .int_tuple b t p1 (by lia)
  |str b=>obtain⟨t,rfl⟩:=rx;exact .str_tuple b t p1 (by lia)
  |_=>cases hy
 |up h ih=>
  intro A v u hu rx ry;exact ih A v u (by lia) rx ry
theorem zgQ_ (I:Inv X pins σ H s){n:Nat}{x y:V}{b:Bool}(h:EqD X.K H n x y b):∀(A:mG) (v u:aT),A.units+n<cLine->RelV x v->RelV y u->∀p q,x=.ref p->y=.ref q->pq A s v u (!b):=by
 induction h with
 |flat hx hy=>intro A v u _ rx ry p q e _;subst e;cases hx
 |lst e hp hq hl h ih=>
  rename_i n p q xs ys
  intro A v u hu rx ry _ _ _ _;cases rx;cases ry;obtain⟨aa,r1,p1,z1⟩:=I.list hp;obtain⟨ai,r2,p2,z2⟩:=I.list hq;have l1:=r1.length;have l2:=r2.length;have:=uz (A:=A) (e:=e) p1.isList p2.isList (by simp only[lx];lia) (by lia) (λj h1 h2=>by
   obtain⟨x,ex,rx⟩:=zce_ r1 h1;obtain⟨y,ey,ry⟩:=zce_ r2 h2;exact(ze3_ I (h j x y ex ey) A.in1 _ _ (by show A.units+1+n<_;lia) rx ry).1)
  rw[lx,<- l1]at this;exact this
 |lstN hp hq hl=>
  intro A v u hu rx ry _ _ _ _;cases rx;cases ry;obtain⟨aa,r1,p1,z1⟩:=I.list hp;obtain⟨ai,r2,p2,z2⟩:=I.list hq;have l1:=r1.length;have l2:=r2.length;exact sq p1.isList p2.isList (by simp only[lx,bne_iff_ne,ne_eq];lia) (by lia)
 |tup e hp hq h ih=>
  rename_i n p q xs ys
  intro A v u hu rx ry _ _ _ _;cases rx;cases ry;obtain⟨aa,r1,p1,z1⟩:=I.tuple hp;obtain⟨ai,r2,p2,z2⟩:=I.tuple hq;have l1:=r1.length;have l2:=r2.length;have:=uw (A:=A) (e:=e) (show s.heap.IsTuple p aa.toArray from p1) (show s.heap.IsTuple q ai.toArray from p2) (by lia) (λj h1 h2=>by
   obtain⟨x,ex,rx⟩:=zce_ r1 h1;obtain⟨y,ey,ry⟩:=zce_ r2 h2;exact(ze3_ I (h j x y ex ey) A.in1 _ _ (by show A.units+1+n<_;lia) rx ry).1)
  rw[lx,lx,<- l1,<- l2]at this;exact this
 |lt hp hq=>
  intro A v u hu rx ry _ _ _ _;cases rx;cases ry;obtain⟨aa,r1,p1,z1⟩:=I.list hp;obtain⟨ai,r2,p2,z2⟩:=I.tuple hq;exact .list_tuple p1.isList p2 (by lia)
 |tl hp hq=>
  intro A v u hu rx ry _ _ _ _;cases rx;cases ry;obtain⟨aa,r1,p1,z1⟩:=I.tuple hp;obtain⟨ai,r2,p2,z2⟩:=I.list hq;exact .tuple_list p1 p2.isList (by lia)
 |lf hp hy=>intro A v u hu rx ry _ _ _ e;subst e;cases hy
 |fl hp hy=>intro A v u hu rx ry _ _ e _;subst e;cases hy
 |tf hp hy=>intro A v u hu rx ry _ _ _ e;subst e;cases hy
 |ft hp hy=>intro A v u hu rx ry _ _ e _;subst e;cases hy
 |up h ih=>intro A v u hu rx ry;exact ih A v u (by lia) rx ry
end
end L2
namespace LX
open PySem Builtin Builtin.Str
section
end
end LX
namespace L2
open PySem PySem.Spec PyProof.Rows
section
variable {X:Cx}{a b c d:lN}{ta tb tc td:TE}{pos:Pos}
def mChain3 (r r' aU:R2)(ta tb tc td:TE):TE:=λσ H Q=>ta σ H λx H1=>tb σ H1 λy H2=>r x y H2 λz H3=>match z with
 |.bl k=>br k (tc σ H3 λw H4=>r' y w H4 λz' H5=>match z' with |.bl k'=>br k' (td σ H5 λw' H6=>aU w w' H6 Q) (Q (.bl uG) H5)|_=>False) (Q (.bl uG) H3)
 |_=>False
theorem zge_ {op aC aB:CmpOp}{r r' aU:R2}(ho:OpR X (lX op) r)(aI:OpR X (lX aC) r')(bz:OpR X (lX aB) aU)(ha:PE X a ta)(hb:PE X b tb)(hc:PE X c tc)(hd:PE X d td)
  (hm:lastMarks [op,aC,aB] [b,c,d]=uG:=by with_unfolding_all rfl):PE X (.Compare a [op,aC,aB] [b,c,d] pos) (mChain3 r r' aU ta tb tc td):=by
 intro pins s σ H Q I h;refine Compare_chain (thn (ha pins s σ H _ I h) λv s1 ⟨x,H1,I1,r1,q1⟩=>chain_link (thn (hb pins s1 σ H1 _ I1 q1) λu s2 ⟨y,H2,I2,r2,q2⟩=>
  thn (ho pins s2 σ H2 x y v u _ I2 r1 r2 q2) λd s3 ⟨z,H3,I3,r3,q3⟩=>?_)) hm
 cases z with
 |bl k=>
  cases r3;refine mr ?_;cases k with
  |false=>exact ite_ff ⟨.bl uG,H3,I3,rfl,q3.2 rfl⟩
  |true=>
   refine ite_tt (chain_link (thn (hc pins s3 σ H3 _ I3 (q3.1 rfl)) λw' s4 ⟨z',H4,I4,r4,q4⟩=>thn (aI pins s4 σ H4 y z' u w' _ I4 r2 r4 q4) λd' s5 ab=>?_))
   obtain⟨z2,H5,I5,r5,q5⟩:=ab;cases z2 with
   |bl k2=>
    cases r5;refine mr ?_;cases k2 with
    |false=>exact ite_ff ⟨.bl uG,H5,I5,rfl,q5.2 rfl⟩
    |true=>exact ite_tt (chain_last (thn (hd pins s5 σ H5 _ I5 (q5.1 rfl)) λw2 s6 ⟨z3,H6,I6,r6,q6⟩=>bz pins s6 σ H6 z' z3 w' w2 Q I6 r4 r6 q6))
   |_=>exact q5.elim
 |_=>exact q3.elim
end
section
variable {κ:Type}[DecidableEq κ]
noncomputable def valV (kvs:List (κ×V))(k:κ):Option V:=(kvs.find? λkv=>decide (kv.1=k)).map (·.2)
noncomputable def putK (kvs:List (κ×V))(k:κ)(v:V):List (κ×V):=
 if(kvs.any λkv=>decide (kv.1=k))=uF then kvs.map (λkv=>if kv.1=k then(kv.1,v)else kv)else kvs++[(k,v)]
theorem zet_ {p:κ×V}{r:List (κ×V)}{k:κ}(e:p.1=k):valV (p::r) k=uD p.2:=by simp[valV,nQ,e]
theorem zeO_ {p:κ×V}{r:List (κ×V)}{k:κ}(e:¬p.1=k):valV (p::r) k=valV r k:=by simp[valV,nQ,e]
theorem zhf_ (k:κ):∀kvs:List (κ×V),(kvs.any λkv=>decide (kv.1=k))=(valV kvs k).isSome
 |[]=>rfl
 |p::r=>by
  rw[pG];by_cases e:p.1=k
  ·simp only[zet_ e,decide_eq_true e,Bool.true_or,rf]
  ·rw[zeO_ e,decide_eq_false e,qj];exact zhf_ k r
theorem zbX_ (kvs:List (κ×V))(k:κ)(v:V):(putK kvs k v).length<=kvs.length+1:=by
 unfold putK;split
 ·rw[k8];lia
 ·rw[lb,ly,m7];lia
theorem RelO.isSome_eq {o:Option V}{u:Option aT}(r:RelO o u):o.isSome=u.isSome:=by
 cases o with
 |none=>cases u with
  |none=>rfl
  |some _=>exact(show False from r).elim
 |some _=>cases u with
  |none=>exact(show False from r).elim
  |some _=>rfl
theorem KV.val {kvs:List (κ×V)}{vs:List (κ×aT)}(r:KV kvs vs)(k:κ):RelO (valV kvs k) (valueAt vs k):=by
 unfold KV at r;induction r with
 |nil=>exact nX
 | @cons p q ps qs h t ih=>
  obtain⟨h1,h2⟩:=h;by_cases e:p.1=k
  ·have e':q.1=k:=h1.symm.trans e
   have b:valueAt (q::qs) k=uD q.2:=by simp[valueAt,nQ,e']
   rw[zet_ e,b];exact h2
  ·have e':¬q.1=k:=λz=>e (h1.trans z)
   have b:valueAt (q::qs) k=valueAt qs k:=by simp[valueAt,nQ,e']
   rw[zeO_ e,b];exact ih
theorem KV.any {kvs:List (κ×V)}{vs:List (κ×aT)}(r:KV kvs vs)(k:κ):(kvs.any λkv=>decide (kv.1=k))=vs.any λkv=>decide (kv.1=k):=by
 unfold KV at r;induction r with
 |nil=>rfl
 |cons h t ih=>rw[pG,pG,ih,h.1]
theorem KV.repl {kvs:List (κ×V)}{vs:List (κ×aT)}(r:KV kvs vs)(k:κ){y:V}{u:aT}(ry:RelV y u):
  KV (kvs.map λkv=>if kv.1=k then(kv.1,y)else kv) (vs.map λkv=>if kv.1=k then(kv.1,u)else kv):=by
 unfold KV at r ⊢;induction r with
 |nil=>exact .nil
 | @cons p q ps qs h t ih=>
  rw[lq,lq];refine .cons ?_ ih;obtain⟨h1,h2⟩:=h;by_cases e:p.1=k
  ·rw[if_pos e,if_pos (h1.symm.trans e)];exact⟨h1,ry⟩
  ·rw[if_neg e,if_neg (λz=>e (h1.trans z))];exact⟨h1,h2⟩
theorem KV.put {kvs:List (κ×V)}{vs:List (κ×aT)}(r:KV kvs vs)(k:κ){y:V}{u:aT}(ry:RelV y u):KV (putK kvs k y) (stored vs k u):=by
 unfold putK stored;rw[r.any k];by_cases e:(vs.any λkv=>decide (kv.1=k))=uF
 ·rw[if_pos e,if_pos e];exact r.repl k ry
 ·rw[if_neg e,if_neg e];exact Paired.snoc r ⟨rfl,ry⟩
theorem KV.length {kvs:List (κ×V)}{vs:List (κ×aT)}(r:KV kvs vs):kvs.length=vs.length:=Paired.length r
end
theorem zlD_ {P:lY}{w:mq}{k:Key}{u:aT}(r:RelV (kV k) u):(mixKind P w).is k u=uF:=by
 cases k with
 |inl i=>obtain⟨t,e⟩:=(show∃t,u=ql i t from r);subst e;exact zfX_ P w i t
 |inr x=>obtain⟨t,e⟩:=(show∃t,u=pL x t from r);subst e;exact zf1_ P w x t
theorem ze5_ {P:lY}{w:mq}:∀{ks:List Key}{us:List aT},Vals (ks.map kV) us->ItemsAre (mixKind P w) ks us
 |[],_,r=>by rw[nF]at r;cases r;exact .nil
 |k::ks,_,r=>by
  rw[lq]at r;cases r with
  |cons h t=>exact .cons (zlD_ h) (ze5_ t)
abbrev KT (H:Hp):List (List Key×V)->List (List Key×lu×aT)->Prop:=Paired λp q=>p.1=q.1/\H q.2.1=uD (.tup (p.1.map kV))/\RelV p.2 q.2.2
theorem KT.val {H:Hp}{kvs:List (List Key×V)}{xs:List (List Key×lu×aT)}(r:KT H kvs xs)(k:List Key):RelO (valV kvs k) ((atKey xs k).map (·.2)):=by
 induction r with
 |nil=>exact nX
 | @cons p q ps qs h t ih=>
  obtain⟨h1,_,h2⟩:=h;by_cases e:p.1=k
  ·have e':q.1=k:=h1.symm.trans e
   have b:atKey (q::qs) k=uD q.2:=by simp[atKey,nQ,e']
   rw[zet_ e,b];exact h2
  ·have e':¬q.1=k:=λz=>e (h1.trans z)
   have b:atKey (q::qs) k=atKey qs k:=by simp[atKey,nQ,e']
   rw[zeO_ e,b];exact ih
theorem KT.repl {H:Hp}{kvs:List (List Key×V)}{xs:List (List Key×lu×aT)}(r:KT H kvs xs)(k:List Key){y:V}{u:aT}(ry:RelV y u):
  KT H (kvs.map λkv=>if kv.1=k then(kv.1,y)else kv) (xs.map (putAt k u)):=by
 induction r with
 |nil=>exact .nil
 | @cons p q ps qs h t ih=>
  rw[lq,lq];refine .cons ?_ ih;obtain⟨h1,h2,h3⟩:=h;unfold putAt;by_cases e:p.1=k
  ·rw[if_pos e,if_pos (h1.symm.trans e)];exact⟨h1,h2,ry⟩
  ·rw[if_neg e,if_neg (λz=>e (h1.trans z))];exact⟨h1,h2,h3⟩
theorem KT.put {H:Hp}{kvs:List (List Key×V)}{xs:List (List Key×lu×aT)}(r:KT H kvs xs)(k:List Key){b:lu}{y:V}{u:aT}(hb:H b=uD (.tup (k.map kV)))(ry:RelV y u):
  KT H (putK kvs k y) (storedH xs k b u):=by
 have e:(kvs.any λkv=>decide (kv.1=k))=(atKey xs k).isSome:=by
  rw[zhf_,(r.val k).isSome_eq,pN]
 unfold putK storedH;rw[e];by_cases q:(atKey xs k).isSome=uF
 ·rw[if_pos q,if_pos q];exact r.repl k ry
 ·rw[if_neg q,if_neg q];exact Paired.snoc r ⟨rfl,hb,ry⟩
theorem KT.keeps {H H':Hp}{kvs:List (List Key×V)}{xs:List (List Key×lu×aT)}(r:KT H kvs xs)(ht:∀b ys,H b=uD (.tup ys)->H' b=uD (.tup ys)):KT H' kvs xs:=
 Paired.mapP r λ_ _ z=>⟨z.1,ht _ _ z.2.1,z.2.2⟩
section
variable {P:lY}{w:mq}{H:Hp}{h:Heap}{a:lu}
theorem rd_of {u:HO}(ok:HOk P w H h)(e:Rd H a u):ObjOk P w H h a u:=e.ok ok
theorem zi3_ {kvs:List (Key×V)}(ok:HOk P w H h)(e:Rd H a (.dK kvs)):kvs.length<=lE/\(a == sysModules)=uG/\∃vs,KV kvs vs/\h.DictOf (mixKind P w) a vs:=
 show ObjOk P w H h a (.dK kvs)from rd_of ok e
theorem dk_of {kvs:List (Key×V)}(ok:HOk P w H h)(e:H a=uD (.dK kvs)):kvs.length<=lE/\(a == sysModules)=uG/\∃vs,KV kvs vs/\h.DictOf (mixKind P w) a vs:=zi3_ ok (.inl e)
theorem zhe_ {ks:List Key}(ok:HOk P w H h)(e:H a=uD (.tup (ks.map kV))):(tupleKind (mixKind P w)).is h ks a:=by
 obtain⟨_,aa,r,o,h1,h2,n,h3⟩:=(show ObjOk P w H h a (.tup (ks.map kV))from ok a _ e)
 exact⟨o,aa.toArray,n,h1,h2,h3,by simpa using ze5_ r⟩
theorem zlG_ {kvs:List (List Key×V)}(ok:HOk P w H h)(e:Rd H a (.dT kvs)):kvs.length<=lE/\(a == sysModules)=uG /\
  ∃xs,KT H kvs xs/\h.DictOfH (tupleKind (mixKind P w)) a xs:=by
 obtain⟨z,y,xs,r,o,es,ep,h1,h2,h3,h4,h5⟩:=(show ObjOk P w H h a (.dT kvs)from rd_of ok e)
 refine⟨z,y,xs,r,o,es,ep,h1,h2,h3,h4,λx hx=>?_,h5⟩
 have all:∀{l:List (List Key×V)}{m:List (List Key×lu×aT)},KT H l m->∀x∈m,(tupleKind (mixKind P w)).is h x.1 x.2.1:=by
  intro l m q;induction q with
  |nil=>intro x hx;exact nomatch hx
  | @cons p q ps qs hq t ih=>
   intro x hx;rcases lC.mp hx with e |hx
   ·subst e
    exact zhe_ ok (by rw[<- hq.1];exact hq.2.1)
   ·exact ih x hx
 exact all r x hx
theorem dt_of {kvs:List (List Key×V)}(ok:HOk P w H h)(e:H a=uD (.dT kvs)):kvs.length<=lE/\(a == sysModules)=uG /\
  ∃xs,KT H kvs xs/\h.DictOfH (tupleKind (mixKind P w)) a xs:=zlG_ ok (.inl e)
end
def DGet (H:Hp)(a:lu)(y:V)(r:Option V):Prop:=
 (∃kvs k,Rd H a (.dK kvs)/\y=kV k/\r=valV kvs k)\/∃kvs k b,Rd H a (.dT kvs)/\y=.ref b/\H b=uD (.tup (k.map kV))/\r=valV kvs k
def DPut (H:Hp)(a:lu)(y v:V)(H':Hp):Prop:=
 (∃kvs k,H a=uD (.dK kvs)/\y=kV k/\kvs.length<lE/\H'=upd H a (.dK (putK kvs k v))) \/
 ∃kvs k b,H a=uD (.dT kvs)/\y=.ref b/\H b=uD (.tup (k.map kV))/\kvs.length<lE/\H'=upd H a (.dT (putK kvs k v))
theorem DGet.k {H:Hp}{a:lu}{kvs:List (Key×V)}{k:Key}(e:H a=uD (.dK kvs)):DGet H a (kV k) (valV kvs k):=.inl ⟨kvs,k,.inl e,rfl,rfl⟩
theorem DPut.k {H:Hp}{a:lu}{kvs:List (Key×V)}{k:Key}{v:V}(e:H a=uD (.dK kvs))(hl:kvs.length<lE):DPut H a (kV k) v (upd H a (.dK (putK kvs k v))):=.inl ⟨kvs,k,e,rfl,hl,rfl⟩
section
variable {X:Cx}{pins:Pnn}{σ:St}{H:Hp}{s:ll}{a:lu}{y v:V}{u r:aT}{o:Option V}{A:mG}{E:aT->ll->Prop}
theorem Inv.big (I:Inv X pins σ H s):sysModules<s.heap.objs.size:=by
 have h:lS<s.heap.objs.size:=(I.mod.glob.keeps I.bk).lt;exact Nat.lt_trans (by decide) h
theorem zij_ {Q:aT->ll->Prop}(hu:A.units+1<cLine)(I:Inv X pins σ H s)(g:DGet H a y (uD v))(ry:RelV y u)(h:∀w' s',Inv X pins σ H s'->RelV v w'->Q w' s'):
  lU (model X.prog X.w) A (getItem (.ref a) u) Q E s:=by
 rcases g with⟨kvs,k,e,ey,l⟩|⟨kvs,k,b,e,ey,eb,l⟩
 ·subst ey
  obtain⟨z,hd,vs,rel,dd⟩:=zi3_ I.hok e;obtain⟨w',hw,bI⟩:=RelO.some_of (v:=v) (o:=valueAt vs k) (by rw[l];exact rel.val k)
  exact wpAny_getItem_of (zlD_ ry) dd.mapOf hw (h w' _ (I.tok _) bI)
 ·subst ey
  cases(show u=mS b from ry)
  obtain⟨z,hd,xs,rel,dd⟩:=zlG_ I.hok e;obtain⟨w',hw,bI⟩:=RelO.some_of (v:=v) (o:=(atKey xs k).map (·.2)) (by rw[l];exact rel.val k)
  obtain⟨p,hp,cT⟩:=lP.mp hw;refine wpAny_getItem_heap (tupleKind_room_in1 hu) (zhe_ I.hok eb) dd hp ?_;rw[cT];exact h w' _ (I.tok _) bI
theorem d_in {Q:aT->ll->Prop}(hu:A.units+1<cLine)(I:Inv X pins σ H s)(g:DGet H a y o)(ry:RelV y u)(h:∀s',Inv X pins σ H s'->Q (.bool o.isSome) s'):
  lU (model X.prog X.w) A (lX .In u (.ref a)) Q E s:=by
 rcases g with⟨kvs,k,e,ey,l⟩|⟨kvs,k,b,e,ey,eb,l⟩
 ·subst ey
  obtain⟨z,hd,vs,rel,dd⟩:=zi3_ I.hok e;refine wpAny_in_of (zlD_ ry) hd dd.mapOf ?_;rw[<- (rel.val k).isSome_eq,<- l];exact h _ (I.tok _)
 ·subst ey
  cases(show u=mS b from ry)
  obtain⟨z,hd,xs,rel,dd⟩:=zlG_ I.hok e;refine wpAny_in_heap (tupleKind_room_in1 hu) (zhe_ I.hok eb) hd dd ?_;have q:=(rel.val k).isSome_eq;rw[pN]at q;rw[<- q,<- l];exact h _ (I.tok _)
theorem znE_ {Q:aT->ll->Prop}(hu:A.units+1<cLine)(I:Inv X pins σ H s)(g:DGet H a y o)(ry:RelV y u)(h:∀s',Inv X pins σ H s'->Q (.bool (!o.isSome)) s'):
  lU (model X.prog X.w) A (lX .NotIn u (.ref a)) Q E s:=by
 rcases g with⟨kvs,k,e,ey,l⟩|⟨kvs,k,b,e,ey,eb,l⟩
 ·subst ey
  obtain⟨z,hd,vs,rel,dd⟩:=zi3_ I.hok e;refine wpAny_notIn_of (zlD_ ry) hd dd.mapOf ?_;rw[<- (rel.val k).isSome_eq,<- l];exact h _ (I.tok _)
 ·subst ey
  cases(show u=mS b from ry)
  obtain⟨z,hd,xs,rel,dd⟩:=zlG_ I.hok e;refine wpAny_notIn_heap (tupleKind_room_in1 hu) (zhe_ I.hok eb) hd dd ?_;have q:=(rel.val k).isSome_eq;rw[pN]at q;rw[<- q,<- l];exact h _ (I.tok _)
theorem zhb_ {h':Heap}{t':Nat}{ob:HO}(I:Inv X pins σ H s)(mu:Mut (H a))(hs:pf a s.heap h')(he:∃q,h'.get? a=uD q)(new:ObjOk X.prog X.w (upd H a ob) h' a ob):
  Inv X pins σ (upd H a ob) {s with heap:=h',toks:=t'}:=
 I.write (x:=a) (e:=a) mu (.inl rfl) (λb q hb z=>(hs.2 b hb).trans z) he new
theorem zm0_ {P:lY}{w:mq}{H':Hp}{h':Heap}{kvs:List (Key×V)}{vs:List (Key×aT)}(z:kvs.length<=lE)(hd:(a == sysModules)=uG)(rel:KV kvs vs)(dd:h'.DictOf (mixKind P w) a vs):
  ObjOk P w H' h' a (.dK kvs):=⟨z,hd,vs,rel,dd⟩
theorem zi7_ {H':Hp}{Q:Unit->ll->Prop}(hu:A.units+1<cLine)(I:Inv X pins σ H s)(g:DPut H a y v H')(ry:RelV y u)(rv:RelV v r)(h:∀s',Inv X pins σ H' s'->Q () s'):
  lU (model X.prog X.w) A (setItem (.ref a) u r) Q E s:=by
 rcases g with⟨kvs,k,e,ey,l,eH⟩|⟨kvs,k,b,e,ey,eb,l,eH⟩
 ·subst ey eH
  obtain⟨z,hd,vs,rel,dd⟩:=dk_of I.hok e;have hz:vs.length<=lE:=by rw[<- rel.length];exact z
  have hl:(putK kvs k v).length<=lE:=by have:=zbX_ kvs k v;lia
  refine wpAny_setItem_pairs (hsz:=hz) (zlD_ ry) dd λh' dc hs=>h _ ?_
  have he:∃q,h'.get? a=uD q:=let⟨q,_,_,hq,_⟩:=dc;⟨q,hq⟩
  exact zhb_ I (by rw[e];exact nX) hs he (zm0_ hl hd (rel.put k rv) dc)
 ·subst ey eH
  cases(show u=mS b from ry)
  obtain⟨z,hd,xs,rel,dd⟩:=dt_of I.hok e;have hz:xs.length<=lE:=by rw[<- Paired.length rel];exact z
  have hl:(putK kvs k v).length<=lE:=by have:=zbX_ kvs k v;lia
  refine wpAny_setItem_heap (hsz:=hz) (tupleKind_room_in1 hu) (zhe_ I.hok eb) dd λh' dc hs=>h _ ?_
  obtain⟨q,es,ep,hq,h2,h3,h4,_,h5⟩:=dc;refine zhb_ I (by rw[e];exact nX) hs ⟨q,hq⟩ ⟨hl,hd,_,(rel.put k eb rv).keeps λc ys ec=>?_,q,es,ep,hq,h2,h3,h4,h5⟩
  rw[zR_ (ne_of ec e (λz=>nomatch z))]
  exact ec
variable {kvs:List (Key×V)}
theorem d_len {Q:aT->ll->Prop}(I:Inv X pins σ H s)(e:Rd H a (.dK kvs))(h:∀t s',Inv X pins σ H s'->Q (.int kvs.length t) s'):lU (model X.prog X.w) A (call (.builtin "len") [.ref a]) Q E s:=by
 obtain⟨z,hd,vs,rel,dd⟩:=zi3_ I.hok e;refine call_len_dict hd dd (by rw[<- rel.length];rw[sizeLine_eq]at z;lia) ?_
 rw[<- rel.length];exact h _ _ (I.tok _)
end
def NoSl (i:lN):Prop:=∀ov iv,subscripted i uG ov iv=operate [ov,iv] (getItem ov iv)
theorem subD_of {prog:lY}{w:mq}{A:mG}{E:aT->ll->Prop}{s:ll}{env:Env}{value slice:lN}{pos:Pos}{T id:String}{Q:aT->ll->Prop}
  (hl:typeLookup (.type T) "__getitem__"=pure (uD (.builtin id))) (hs:NoSl slice)
  (h:lU (model prog w) A (eval value env) (λo ae=>lU (model prog w) A (eval slice env) (λi aL=>aL.TypeIs o T/\lU (model prog w) A (getItem o i) Q E aL) E ae) E s):
  lU (model prog w) A (eval (.Subscript value slice pos) env) Q E s:=by
 refine Subscript_ (nq h (λo ae aG=>nq aG (λi aL bL=>?_) λ_ _ x=>x) λ_ _ x=>x)
 obtain⟨hT,bL⟩:=bL;unfold subscriptTail;refine lg ?_;rw[getitemInPython_of_ne hT.not_modules];refine lg (wpAny_specialOf hT hl ?_);have fin:lU (model prog w) A (subscripted slice uG o i) (λr ax=>lU (model prog w) A (letTemporaryGo value o r>>=λ_=>pure r) Q E ax) E aL:=by
  rw[hs o i];exact wpAny_operating (nq bL (λr ax bK=>lg (wpAny_letTemporaryGo (lK bK))) λ_ _ x=>x)
 first
  |exact lK (lg fin)
  |exact lg (lK (lg fin))
  |exact lg fin
theorem zfN_ {X:Cx}{pins:Pnn}{σ:St}{H:Hp}{s:ll}{a:lu}{y:V}{o:Option V}(I:Inv X pins σ H s)(g:DGet H a y o):s.TypeIs (.ref a) "dict":=by
 rcases g with⟨kvs,k,e,_,_⟩|⟨kvs,k,b,e,_,_,_⟩
 ·obtain⟨_,_,vs,_,dd⟩:=zi3_ I.hok e
  exact dd.typeIs
 ·obtain⟨_,_,xs,_,dd⟩:=zlG_ I.hok e
  exact dd.typeIs
section
end
theorem zkd_ {P:lY}{w:mq}{H:Hp}(h:Heap)(hb:sysModules<h.objs.size):ObjOk P w H (h.push {cls:=.type "dict",data:=.dict #[]}) h.objs.size (.dK []):=
 ⟨ny _,beq_eq_false_iff_ne.mpr (pV (mm hb)),[],.nil,uC h⟩
def tDNewK:TE:=λ_ H Q=>∀p,H p=uE->Q (.ref p) (upd H p (.dK []))
section
variable {X:Cx}{pos:Pos}
theorem zlw_:PE X (.Dict [] [] pos) tDNewK:=λpins s σ H Q I h=>
 wpAny_Dict_empty ⟨.ref s.heap.objs.size,_,I.laid (a:=s.heap.objs.size) (o:=.dK []) (t':=s.toks) (λ_ _ q=>lh _ q) (lp _) (zkd_ s.heap I.big),rfl,h _ (I.hok.fresh (lp _))⟩
end
structure M2 (X:Cx)(o:lN)(m:Str)(apos:Pos)(e f:lN)(ak:Pos):Prop where
 base:attributeBase o m X.env (eval o X.env)=eval o X.env
 few:((oP ak (l7 [e,f] X.env)).all (λx=>!x.1) && (rp ak (qf [] X.env)).all (λx=>x.1.isSome)
  && decide (([e,f]:List lN).length+([]:List Keyword).length+(if([]:List Keyword).isEmpty then 0 else 1)<30))=uF
 line:(apos.endLine == ak.line)=uF
 trees:oP ak (l7 [e,f] X.env)=[(uG,eval e X.env),(uG,eval f X.env)]
def IsD (H:Hp)(a:lu):Prop:=(∃kvs,Rd H a (.dK kvs))\/∃kvs,Rd H a (.dT kvs)
theorem zri_ {X:Cx}{pins:Pnn}{σ:St}{H:Hp}{s:ll}{a:lu}(I:Inv X pins σ H s)(d:IsD H a):
  s.TypeIs (.ref a) "dict" /\ (∀b,mS a=.ref b->∃ob,s.heap.get? b=uD ob/\ob.dict=uE)/\(a==sysModules)=uG:=by
 rcases d with⟨kvs,e⟩|⟨kvs,e⟩
 ·obtain⟨_,hd,vs,_,dd⟩:=zi3_ I.hok e
  refine⟨dd.typeIs,λb q=>?_,hd⟩
  cases q;obtain⟨ob,_,_,h1,h2,_⟩:=dd;exact⟨ob,h1,h2.2.1⟩
 ·obtain⟨_,hd,xs,_,dd⟩:=zlG_ I.hok e
  refine⟨dd.typeIs,λb q=>?_,hd⟩
  cases q;obtain⟨ob,_,_,h1,h2,_⟩:=dd;exact⟨ob,h1,h2.2.1⟩
section
end
section
namespace L2
open PySem PySem.Spec PyProof.Rows
section
end
section
variable {κ:Type}[DecidableEq κ]
end
end L2
end
section
end
theorem zlf_ (aa:List aT):(lH aa.length).filterMap (λk=>aa[aa.length-1-k]?)=aa.reverse:=by
 have h:(lH aa.length).map (λk=>aa[aa.length-1-k]?)=aa.reverse.map uD:=by
  refine qo (by simp) λi h1 h2=>?_
  rw[k8,lJ]at h1;rw[qp,pJ,qp,List.getElem_reverse,lj (by lia)]
 have e:(lH aa.length).filterMap (λk=>aa[aa.length-1-k]?)=((lH aa.length).map (λk=>aa[aa.length-1-k]?)).filterMap id:=by
  rw[pI];rfl
 rw[e,h,pI];exact List.filterMap_some
theorem zbP_ {α β:Type}{f g:α->Option β}:∀{l:List α},(∀a∈l,f a=g a)->l.filterMap f=l.filterMap g
 |[],_=>rfl
 |a::l,h=>by rw[oG,oG,h a lR,zbP_ λb hb=>h b (lQ _ hb)]
theorem zhq_:∀{xs:List V}{us:List aT},Vals xs us->Vals xs.reverse us.reverse
 |_,_,.nil=>.nil
 |x::xs,u::us,.cons r t=>by rw[pO,pO];exact(zhq_ t).append (.cons r .nil)
theorem zek_ (aa:List aT):slicePick aa.toArray uE uE (uD (-1))=aa.reverse.toArray:=by
 unfold slicePick;have hb:sliceBounds uE uE (uD (-1)) aa.toArray.size=((aa.length:Int)-1,-1,-1):=by
  simp[sliceBounds]
 rw[hb];congr 1;unfold sliceRange;simp only;rw[pI,<- zlf_ aa];have hc:(if(-1:Int) > 0 then(if(aa.length:Int)-1 < -1 then(-1-((aa.length:Int)-1) + -1-1) / -1 else 0)else if(aa.length:Int)-1 > -1 then((aa.length:Int)-1 - -1 - -1-1) / - -1 else 0)=(aa.length:Int):=by
  rw[if_neg (by decide)]
  split
  ·rw[show(- -1:Int)=1 by decide,rj];lia
  ·lia
 rw[hc,nI];refine zbP_ λk hk=>?_
 have hk:=mf.mp hk;show aa.toArray[((aa.length:Int)-1 + -1*(k:Int)).toNat]?=aa[aa.length-1-k]?
 rw[show((aa.length:Int)-1 + -1*(k:Int)).toNat=aa.length-1-k by lia]
 simp
section
variable {X:Cx}{e st:lN}{te:TE}{ts:TO}{pos p2:Pos}
def tRev (K:Fgg)(te:TE)(ts:TO):TE:=λσ H Q=>te σ H λx H1=>ts σ H1 λo H2=>o=uD (-1)/\match x with
 |.ref a=>∃xs,SqL K H2 a xs/\∀p,H2 p=uE->Q (.ref p) (upd H2 p (.lst xs.reverse))
 |_=>False
theorem zro_ (he:PE X e te)(hs:PO X (uD st) ts):PE X (.Subscript e (.Slice uE uE (uD st) p2) pos) (tRev X.K te ts):=by
 intro pins s σ H Q I h;refine Subscript_ (thn (he pins s σ H _ I h) λv s1 ab=>?_)
 obtain⟨x,H1,I1,r1,q1⟩:=ab;have pn:∀(s:ll) (Q':aT->ll->Prop),Q' .none s->lU (model X.prog X.w) X.A (evalPart uE X.env) Q' X.xe s:=λs Q' q=>by rw[evalPart_none];exact lK q
 refine wpAny_Slice (pn _ _ (pn _ _ ?_));refine thn (hs pins s1 σ H1 _ I1 q1) λhG s3 ab=>?_
 obtain⟨o,H3,I3,po,eo,q3⟩:=ab;subst eo;cases x with
 |ref a=>
  obtain⟨xs,hx,q⟩:=q3;cases r1;have I4:Inv X pins σ H3 {s3 with heap:=s3.heap.push {cls:=.type "slice",data:=.fields #[.none,.none,hG]}}:=I3.kept (t':=s3.toks) λb ob q=>lh _ q
  obtain⟨aa,r,ht,hz⟩:=I4.list hx;have hlen:=r.length;show lU (model X.prog X.w) X.A (subscriptTail e (.Slice uE uE (uD st) p2) (.ref a) (.ref s3.heap.objs.size)) (EP X pins σ Q) X.xe {s3 with heap:=s3.heap.push {cls:=.type "slice",data:=.fields #[.none,.none,hG]}}
  refine tail_any (ops:=[.ref a,.ref s3.heap.objs.size]) ht.isList.typeIs slot_list_getitem.lookup ?_ (by with_unfolding_all rfl)
  refine wpAny_getItem_list_slice ht.isList (rd ..) .none .none po (by simp) ?_ (by rw[lx]<;>lia)
  rw[zek_];refine⟨.ref _,_,I4.laid (t':=s3.toks) (o:=.lst xs.reverse) (λb ob q=>lh _ q) (lp _) ?_,rfl,q _ (I4.hok.fresh (lp _))⟩
  refine⟨by rw[l8];exact hz,aa.reverse,0,?_,lI _ rfl⟩
  exact zhq_ r
 |_=>exact q3.elim
end
def keyV:V->Option Key
 |.int i=>uD (.inl i)
 |.str z=>uD (.inr z)
 |_=>uE
theorem zmK_ {y:V}{k:Key}(h:keyV y=uD k):y=kV k:=by
 cases y<;>first |(cases h;rfl)|cases h
def atD (x y:V)(H:Hp)(R:lu->List (Key×V)->Key->Prop):Prop:=match x with
 |.ref a=>(match keyV y with |some k=>∃kvs,H a=uD (.dK kvs)/\R a kvs k |none=>False)
 |_=>False
theorem zhj_ {x y:V}{H:Hp}{R:lu->List (Key×V)->Key->Prop}(h:atD x y H R):∃a kvs k,x=.ref a/\y=kV k/\H a=uD (.dK kvs)/\R a kvs k:=by
 unfold atD at h;cases x with
 |ref a=>
  cases e:keyV y with
  |none=>rw[e]at h;exact h.elim
  |some k=>
   rw[e]at h;obtain⟨kvs,h1,h2⟩:=h;exact⟨a,kvs,k,rfl,zmK_ e,h1,h2⟩
 |_=>exact h.elim
section
variable {X:Cx}
def mLenD:List V->Hp->VK->Prop:=λxs H Q=>match xs with |[.ref a]=>∃kvs,H a=uD (.dK kvs)/\Q (.int kvs.length) H |_=>False
theorem zgp_:CallR X (.builtin "len") mLenD:=by
 intro pins s σ H xs us Q I r h;unfold mLenD at h;split at h
 ·rename_i a
  obtain⟨kvs,ha,q⟩:=h;obtain⟨u,rfl,ru⟩:=vals1 r;cases ru;exact d_len I (.inl ha) λt s' I'=>⟨.int kvs.length,H,I',⟨t,rfl⟩,q⟩
 ·exact h.elim
end
inductive Av where
 |i (n:Int)|p (a b:Int)
inductive Xc where
 |pl (c:String)|at(c:String) (as:List (Str×Av))
instance:Coe String Xc:=⟨Xc.pl⟩
inductive Mo (α:Type) where
 |ok (a:α)|ex (c:Xc)|no
namespace Mo
variable {α β γ:Type}
noncomputable def bind (x:Mo α)(f:α->Mo β):Mo β:=match x with |.ok a=>f a |.ex c=>.ex c |.no=>.no
theorem bind_assoc (x:Mo α)(f:α->Mo β)(g:β->Mo γ):(x.bind f).bind g=x.bind λa=>(f a).bind g:=by cases x<;>rfl
noncomputable def noex (x:Mo α):Mo α:=match x with |.ok a=>.ok a |_=>.no
noncomputable def lim (n:Nat)(k:Mo α):Mo α:=if n<=lE then k else .no
theorem lim_ok {n:Nat}{k:Mo α}(h:n<=100000):lim n k=k:=if_pos (za1_ h)
noncomputable def grd (p:Prop)[Decidable p](k:Mo α):Mo α:=if p then k else .no
theorem grd_ok {p:Prop}[Decidable p]{k:Mo α}(h:p):grd p k=k:=if_pos h
noncomputable def opt (x:Option α):Mo α:=match x with |some a=>.ok a |none=>.no
end Mo
def un (F h:Hp):Hp:=λp=>match F p with |some o=>uD o |none=>h p
def Dj (F h:Hp):Prop:=∀p,F p=uE\/h p=uE
def Jn (h1 h2 h:Hp):Prop:=∀p,(h1 p=uE/\h p=h2 p)\/(h2 p=uE/\h p=h1 p)
def Ext (F H F' H':Hp):Prop:=Same F F'/\Same F' H'/\Same H H'/\∀p,F p=uE->F' p≠uE->H p=uE
theorem Ext.refl {F H:Hp}(h:Same F H):Ext F H F H:=⟨Same.refl _,h,Same.refl _,λp a b=>absurd a b⟩
theorem Ext.trans {F H F1 H1 F2 H2:Hp}(a:Ext F H F1 H1)(b:Ext F1 H1 F2 H2):Ext F H F2 H2:=by
 obtain⟨a1,a2,a3,a4⟩:=a;obtain⟨b1,b2,b3,b4⟩:=b;refine⟨a1.trans b1,b2,a3.trans b3,λp hp hq=>?_⟩
 cases e:F1 p with
 |none=>exact a3.free (b4 p e hq)
 |some o=>exact a4 p hp (by rw[e];exact sN _)
theorem Ext.heap {F H H':Hp}(h:Same F H)(g:Same H H'):Ext F H F H':=⟨Same.refl _,h.trans g,g,λp a b=>absurd a b⟩
theorem Ext.new {F H:Hp}(h:Same F H){p:lu}{o:HO}(hp:H p=uE):Ext F H (upd F p o) (upd H p o):=by
 refine⟨zay_ (h.free hp) _,λb u e=>?_,zay_ hp _,λq a b=>?_⟩
 ·unfold upd at e ⊢
  split
  ·rename_i z;rw[if_pos z]at e;exact e
  ·rename_i z;rw[if_neg z]at e;exact h _ _ e
 ·unfold upd at b
  split at b
  ·rename_i z;rw[z];exact hp
  ·exact absurd a b
structure Ty (α:Type) where
 R:α->V->Hp->Prop
 mono:∀{a v H H'},Same H H'->R a v H->R a v H'
def Tups (H H':Hp):Prop:=∀p xs,H p=uD (.tup xs)->H' p=uD (.tup xs)
theorem Same.tups {H H':Hp}(h:Same H H'):Tups H H':=λp xs e=>h _ _ e
abbrev tyInt:Ty Int:=⟨λa v _=>v=.int a,λ_ h=>h⟩
structure Cs (γ:Type) where
 R:γ->List V->Hp->Prop
 mono:∀{c vs H H'},Same H H'->R c vs H->R c vs H'
abbrev Prs {α:Type}(T:Ty α)(H:Hp)(xs:List α)(vs:List V):Prop:=Paired (λx v=>T.R x v H) xs vs
theorem zct_ {α β:Type}{R R':α->β->Prop}(h:∀a b,R a b->R' a b):∀{xs:List α}{ys:List β},Paired R xs ys->Paired R' xs ys
 |_,_,.nil=>.nil
 |_,_,.cons a t=>.cons (h _ _ a) (zct_ h t)
theorem Prs.mono {α:Type}{T:Ty α}{H H':Hp}{xs:List α}{vs:List V}(g:Same H H')(h:Prs T H xs vs):Prs T H' xs vs:=zct_ (λ_ _ r=>T.mono g r) h
noncomputable abbrev tyL {α:Type}(T:Ty α):Ty (List α):=⟨λxs v H=>∃p vs,v=.ref p/\H p=uD (.lst vs)/\Prs T H xs vs,λg ⟨p,vs,e,h,q⟩=>⟨p,vs,e,g _ _ h,q.mono g⟩⟩
structure Own (α:Type) where
 O:α->V->Hp->Hp->Prop
 fr:Ty α
 mono:∀{a v F F' h},Same F F'->O a v F h->O a v F' h
 frz:∀{a v F h},Dj F h->O a v F h->fr.R a v (un F h)
 notup:∀{a v F h},O a v F h->∀p xs,h p≠uD (.tup xs)
theorem zau_ {F h:Hp}:Same F (un F h):=λp o e=>by unfold un;rw[e]
theorem zeZ_ {F h:Hp}(d:Dj F h):Same h (un F h):=λp o e=>by
 unfold un;rcases d p with z |z
 ·rw[z];exact e
 ·rw[z]at e;cases e
def one (p:lu)(o:HO):Hp:=λq=>if q=p then uD o else uE
theorem zy_ {p:lu}{o:HO}:one p o p=uD o:=if_pos rfl
inductive Sl:Type 1 where
 |dead
 |fz {α:Type}(T:Ty α) (a:α)
 |ow {α:Type}(O:Own α) (a:α)
def Sl.P:Sl->Option V->Hp->Hp->Prop
 |.dead,_,_,_=>True
 |.fz T a,o,F,_=>∃v,o=uD v/\T.R a v F
 |.ow O a,o,F,h=>∃v,o=uD v/\O.O a v F h
def Sl.Z:Sl->Option V->Hp->Prop
 |.dead,_,_=>True
 |.fz T a,o,F=>∃v,o=uD v/\T.R a v F
 |.ow O a,o,F=>∃v,o=uD v/\O.fr.R a v F
def Hold:List Sl->St->Hp->Hp->Prop
 |[],[],_,_=>True
 |s::L,o::σ,F,h=>∃h1 h2,Jn h1 h2 h/\s.P o F h1/\Hold L σ F h2
 |_,_,_,_=>False
def HoldF (L:List Sl)(σ:St)(F:Hp):Prop:=∀(i:Nat) (s:Sl),L[i]?=uD s->s.Z (σ[i]?.join) F
theorem Sl.P.mono {s:Sl}{o:Option V}{F F' h:Hp}(g:Same F F')(q:s.P o F h):s.P o F' h:=by
 cases s with
 |dead=>exact q
 |fz T a=>obtain⟨v,e,r⟩:=q;exact⟨v,e,T.mono g r⟩
 |ow O a=>obtain⟨v,e,r⟩:=q;exact⟨v,e,O.mono g r⟩
theorem Sl.Z.mono {s:Sl}{o:Option V}{F F':Hp}(g:Same F F')(q:s.Z o F):s.Z o F':=by
 cases s with
 |dead=>exact q
 |fz T a=>obtain⟨v,e,r⟩:=q;exact⟨v,e,T.mono g r⟩
 |ow O a=>obtain⟨v,e,r⟩:=q;exact⟨v,e,O.fr.mono g r⟩
theorem HoldF.mono {L:List Sl}{σ:St}{F F':Hp}(g:Same F F')(q:HoldF L σ F):HoldF L σ F':=λi s e=>(q i s e).mono g
theorem Hold.mono:∀{L:List Sl}{σ:St}{F F' h:Hp},Same F F'->Hold L σ F h->Hold L σ F' h
 |[],[],_,_,_,_,q=>q
 |s::L,o::σ,F,F',h,g,q_=>by obtain⟨h1,h2,j,p,r⟩:=q_;exact⟨h1,h2,j,p.mono g,r.mono g⟩
 |[],_::_,_,_,_,_,q=>q.elim
 |_::_,[],_,_,_,_,q=>q.elim
theorem Hold.len:∀{L:List Sl}{σ:St}{F h:Hp},Hold L σ F h->L.length=σ.length
 |[],[],_,_,_=>rfl
 |s::L,o::σ,F,h,q_=>by obtain⟨h1,h2,j,p,r⟩:=q_;rw[ly,ly,r.len]
 |[],_::_,_,_,q=>q.elim
 |_::_,[],_,_,q=>q.elim
theorem Jn.l {h1 h2 h:Hp}(j:Jn h1 h2 h):Same h1 h:=λp o e=>by
 rcases j p with⟨a,b⟩|⟨a,b⟩
 ·rw[a]at e;cases e
 ·rw[b];exact e
theorem Jn.r {h1 h2 h:Hp}(j:Jn h1 h2 h):Same h2 h:=λp o e=>by
 rcases j p with⟨a,b⟩|⟨a,b⟩
 ·rw[b];exact e
 ·rw[a]at e;cases e
theorem Jn.dj {h1 h2 h:Hp}(j:Jn h1 h2 h):Dj h1 h2:=λp=>by
 rcases j p with⟨a,b⟩|⟨a,b⟩
 ·exact .inl a
 ·exact .inr a
theorem zaQ_ {h1 h2:Hp}(d:Dj h1 h2):Jn h1 h2 (un h1 h2):=λp=>by
 unfold un;rcases d p with a |a
 ·rw[a];exact .inl ⟨rfl,rfl⟩
 ·refine .inr ⟨a,?_⟩
  cases h1 p with
  |none=>exact a
  |some o=>rfl
theorem Hold.at:∀{L:List Sl}{σ:St}{F h:Hp}(i:Nat) {s:Sl},Hold L σ F h->L[i]?=uD s ->
  ∃o h1 h2,σ[i]?=uD o/\Jn h1 h2 h/\s.P o F h1/\∀s' o' h1' h',Jn h1' h2 h'->s'.P o' F h1'->Hold (L.set i s') (σ.set i o') F h'
 |[],_,_,_,_,_,_,e=>by cases e
 |s::L,[],_,_,_,_,q,_=>q.elim
 |s::L,o::σ,F,h,0,t,q_,e=>by
  obtain⟨h1,h2,j,p,r⟩:=q_;cases e;exact⟨o,h1,h2,rfl,j,p,λs' o' h1' h' j' p'=>⟨h1',h2,j',p',r⟩⟩
 |s::L,o::σ,F,h,i+1,t,q_,e=>by
  obtain⟨h1,h2,j,p,r⟩:=q_;obtain⟨o1,k1,k2,e1,j1,p1,f⟩:=Hold.at i r (by simpa using e)
  have d1:Dj h1 k1:=λp=>by
   rcases j.dj p with a |a
   ·exact .inl a
   ·exact .inr (j1.l.free a)
  have d2:Dj h1 k2:=λp=>by
   rcases j.dj p with a |a
   ·exact .inl a
   ·exact .inr (j1.r.free a)
  refine⟨o1,k1,un h1 k2,by simpa using e1,λp=>?_,p1,λs' o' bY h' j' p'=>?_⟩
  ·rcases j p with⟨a,b⟩|⟨a,b⟩
   ·rcases j1 p with⟨c,d⟩|⟨c,d⟩
    ·refine .inl ⟨c,?_⟩;unfold un;rw[a,b,d]
    ·refine .inr ⟨?_,by rw[b,d]⟩;unfold un;rw[a,c]
   ·refine .inl ⟨j1.l.free a,?_⟩
    have:k2 p=uE:=j1.r.free a;unfold un;rw[b];cases h1 p with
    |none=>rw[this]
    |some u=>rfl
  ·have dd:Dj bY k2:=λp=>by
    rcases j' p with⟨a,b⟩|⟨a,b⟩
    ·exact .inl a
    ·right;unfold un at a
     cases z:h1 p with
     |none=>rw[z]at a;exact a
     |some u=>rw[z]at a;cases a
   refine⟨h1,un bY k2,λp=>?_,p,f s' o' bY _ (zaQ_ dd) p'⟩
   rcases j' p with⟨a,b⟩|⟨a,b⟩
   ·unfold un at b ⊢
    cases z:h1 p with
    |none=>rw[z]at b;exact .inl ⟨rfl,by rw[b,a]⟩
    |some u=>
     rw[z]at b;refine .inr ⟨?_,b⟩;rw[a];rcases d2 p with y |y
     ·rw[y]at z;cases z
     ·exact y
   ·unfold un at a
    cases z:h1 p with
    |some u=>rw[z]at a;cases a
    |none=>
     rw[z]at a;refine .inl ⟨rfl,?_⟩;unfold un;rw[b];cases bY p with
     |none=>exact a.symm
     |some u=>rfl
theorem Hold.froz {L:List Sl}{σ:St}{F h:Hp}(d:Dj F h)(q:Hold L σ F h):HoldF L σ (un F h):=by
 intro i s e;obtain⟨o,h1,h2,e1,j,p,_⟩:=q.at i e;rw[e1];have d1:Dj F h1:=λp=>by
  rcases d p with a |a
  ·exact .inl a
  ·exact .inr (j.l.free a)
 cases s with
 |dead=>trivial
 |fz T a=>obtain⟨v,e2,r⟩:=p;exact⟨v,e2,T.mono zau_ r⟩
 |ow O a=>
  obtain⟨v,e2,r⟩:=p;refine⟨v,e2,O.fr.mono (λp u z=>?_) (O.frz d1 r)⟩
  unfold un at z ⊢;cases y:F p with
  |some w=>rw[y]at z;exact z
  |none=>rw[y]at z;exact j.l _ _ z
end L2
namespace L2
open PySem PySem.Spec PyProof.Rows
def Av.R:Av->V->Hp->Prop
 |.i n,v,_=>v=.int n
 |.p a b,v,H=>∃q,v=.ref q/\H q=uD (.tup [.int a,.int b])
theorem Av.imm {x:Av}{v:V}{H H':Hp}(g:Tups H H')(h:x.R v H):x.R v H':=by
 cases x with
 |i n=>exact h
 |p a b=>obtain⟨q,e,z⟩:=h;exact⟨q,e,g _ _ z⟩
def AtR (as:List (Str×Av))(fs:List (Str×V))(F:Hp):Prop:=Paired (λa f=>a.1=f.1/\a.2.R f.2 F) as fs
theorem AtR.imm {as:List (Str×Av)}{fs:List (Str×V)}{H H':Hp}(g:Tups H H')(h:AtR as fs H):AtR as fs H':=zct_ (λ_ _ r=>⟨r.1,Av.imm g r.2⟩) h
def Tell (K:Fgg)(E:XK)(x:Xc)(H0 F H:Hp):Prop:=match x with
 |.pl c=>E (.ref (gA K c)) uE H
 |.at c as=>∀dx fs,H0 dx=uE->F dx=uD (XDO dx fs)->AtR as fs F->E (.ref (gA K c)) (uD dx) H
theorem Tell.up {K:Fgg}{E:XK}{x:Xc}{H0 H1 F H:Hp}(s:Same H0 H1)(h:Tell K E x H0 F H):Tell K E x H1 F H:=by
 cases x with
 |pl c=>exact h
 |«at» c as=>exact λdx fs e=>h dx fs (s.free e)
def After {α:Type}(K:Fgg)(r:Mo α)(E:XK)(F H:Hp)(k:α->Hp->Hp->Prop):Prop:=match r with
 |.ok a=>∀F' H',Ext F H F' H'->k a F' H'
 |.ex c=>∀F' H',Ext F H F' H'->Tell K E c H F' H'
 |.no=>False
section
variable {K:Fgg}{E:XK}{α β γ:Type}{F H:Hp}
theorem After.bind {r:Mo α}{f:α->Mo β}{k:β->Hp->Hp->Prop}(h:After K (r.bind f) E F H k):After K r E F H λa F1 H1=>After K (f a) E F1 H1 k:=by
 cases r with
 |ok a=>
  intro F1 H1 x;have h':After K (f a) E F H k:=h;cases e:f a with
  |ok b=>rw[e]at h';exact λF2 H2 y=>h' F2 H2 (x.trans y)
  |ex c=>rw[e]at h';exact λF2 H2 y=>(h' F2 H2 (x.trans y)).up x.2.2.1
  |no=>rw[e]at h';exact h'
 |ex c=>exact h
 |no=>exact h
theorem After.imp {r:Mo α}{k k':α->Hp->Hp->Prop}(h:After K r E F H k)(g:∀a F' H',Ext F H F' H'->k a F' H'->k' a F' H'):After K r E F H k':=by
 cases r with
 |ok a=>exact λF' H' x=>g a F' H' x (h F' H' x)
 |ex c=>exact h
 |no=>exact h
theorem After.ok {a:α}{k:α->Hp->Hp->Prop}(hs:Same F H)(h:After K (.ok a) E F H k):k a F H:=h F H (.refl hs)
theorem After.lim {n:Nat}{r:Mo α}{k:α->Hp->Hp->Prop}(h:After K (Mo.lim n r) E F H k):n<=lE/\After K r E F H k:=by
 unfold Mo.lim at h;split at h
 ·exact⟨by assumption,h⟩
 ·exact h.elim
theorem After.grd {p:Prop}[Decidable p]{r:Mo α}{k:α->Hp->Hp->Prop}(h:After K (Mo.grd p r) E F H k):p/\After K r E F H k:=by
 unfold Mo.grd at h;split at h
 ·exact⟨by assumption,h⟩
 ·exact h.elim
theorem After.opt {x:Option α}{k:α->Hp->Hp->Prop}(h:After K (Mo.opt x) E F H k):∃a,x=uD a/\After K (.ok a) E F H k:=by
 cases x with
 |none=>exact h.elim
 |some a=>exact⟨a,rfl,h⟩
def EvF (K:Fgg)(e:TE)(E:XK)(L:List Sl)(r:Mo α)(T:Ty α):Prop:=
 ∀σ F H (Q:VK),HoldF L σ F->Same F H->After K r E F H (λa F' H'=>∀v,T.R a v F'->Q v H')->e σ H Q
def OwnK (O:Own α)(H:Hp)(Q:VK)(a:α)(F' H':Hp):Prop:=∀v h,(∀p,h p≠uE->H p=uE)->Dj F' h->Same h H'->O.O a v F' h->Q v H'
def EvO (K:Fgg)(e:TE)(E:XK)(L:List Sl)(r:Mo α)(O:Own α):Prop:=
 ∀σ F H (Q:VK),HoldF L σ F->Same F H->After K r E F H (OwnK O H Q)->e σ H Q
def EvT (K:Fgg)(t:TT)(E:XK)(L:List Sl)(r:Mo Bool):Prop:=
 ∀σ F H (Q:Bool->Hp->Prop),HoldF L σ F->Same F H->After K r E F H (λb _ H'=>Q b H')->t σ H Q
def EvA (K:Fgg)(t:TA)(E:XK)(L:List Sl)(r:Mo γ)(C:Cs γ):Prop:=
 ∀σ F H (Q:List V->Hp->Prop),HoldF L σ F->Same F H->After K r E F H (λc F' H'=>∀vs,C.R c vs F'->Q vs H')->t σ H Q
variable {L:List Sl}{e e1 e2:TE}{T:Ty α}{r:Mo α}
theorem EvO.fr {O:Own α}(h:EvO K e E L r O):EvF K e E L r O.fr:=by
 intro σ F H Q hL hs q;refine h σ F H Q hL hs ?_;cases r with
 |ok a=>
  intro F' H' x v h' fresh d s o;refine q (un F' h') H' ⟨x.1.trans zau_,λp o e=>?_,x.2.2.1,λp a b=>?_⟩ v (O.frz d o)
  ·unfold un at e
   cases z:F' p with
   |some w=>rw[z]at e;cases e;exact x.2.1 _ _ z
   |none=>rw[z]at e;exact s _ _ e
  ·unfold un at b
   cases z:F' p with
   |some w=>exact x.2.2.2 p a (by rw[z];exact sN _)
   |none=>rw[z]at b;exact fresh p b
 |ex c=>exact q
 |no=>exact q
def Op2O (K:Fgg)(m:R2)(E:XK)(T1:Ty α)(T2:Ty β)(g:α->β->Mo γ)(O:Own γ):Prop:=
 ∀a b x y F H (Q:VK),Same F H->T1.R a x F->T2.R b y F->After K (g a b) E F H (OwnK O H Q)->m x y H Q
theorem OwnK.back {O:Own α}{H H1:Hp}{Q:VK}{a:α}{F' H':Hp}(g:Same H H1)(h:OwnK O H Q a F' H'):OwnK O H1 Q a F' H':=
 λv k fresh d s o=>h v k (λp z=>g.free (fresh p z)) d s o
theorem zrJ_ {m:R2}{T1:Ty α}{T2:Ty β}{O:Own γ}{g:α->β->Mo γ}{r1:Mo α}{r2:Mo β}(jz:Op2O K m E T1 T2 g O)(h1:EvF K e1 E L r1 T1)(h2:EvF K e2 E L r2 T2):
  EvO K (tOp m e1 e2) E L (r1.bind λa=>r2.bind λb=>g a b) O:=by
 intro σ F H Q hL hs q;refine h1 σ F H _ hL hs (q.bind.imp λa F1 H1 x1 k1 v1 aH=>?_)
 refine h2 σ F1 H1 _ (hL.mono x1.1) x1.2.1 (k1.bind.imp λb F2 H2 x2 k2 v2 cK=>?_)
 exact jz a b v1 v2 F2 H2 Q x2.2.1 (T1.mono x2.1 aH) cK (k2.imp λc F3 H3 x3 k3=>k3.back (x1.2.2.1.trans x2.2.2.1))
noncomputable instance (i j:Int):Decidable (CMul i j):=inferInstanceAs (Decidable (_\/_))
noncomputable instance (i j:Int):Decidable (CDiv i j):=inferInstanceAs (Decidable (_/\_))
noncomputable instance (i j:Int):Decidable (CPow i j):=inferInstanceAs (Decidable (_/\_/\_))
theorem Prs.append {xs ys:List α}{vs us:List V}(a:Prs T H xs vs)(b:Prs T H ys us):Prs T H (xs++ys) (vs++us):=by
 induction a with
 |nil=>exact b
 |cons r t ih=>exact .cons r ih
theorem Prs.len {xs:List α}{vs:List V}(a:Prs T H xs vs):xs.length=vs.length:=Paired.length a
theorem Prs.get {xs:List α}{vs:List V}(a:Prs T H xs vs)(i:Nat):(xs[i]?=uE/\vs[i]?=uE)\/∃x v,xs[i]?=uD x/\vs[i]?=uD v/\T.R x v H:=by
 induction a generalizing i with
 |nil=>exact .inl ⟨rfl,rfl⟩
 |cons r t ih=>
  cases i with
  |zero=>exact .inr ⟨_,_,rfl,rfl,r⟩
  |succ i=>simpa using ih i
theorem Prs.take {xs:List α}{vs:List V}(a:Prs T H xs vs)(n:Nat):Prs T H (xs.take n) (vs.take n):=by
 induction a generalizing n with
 |nil=>rw[qW,qW];exact .nil
 |cons r t ih=>
  cases n with
  |zero=>exact .nil
  |succ n=>exact .cons r (ih n)
theorem Prs.drop {xs:List α}{vs:List V}(a:Prs T H xs vs)(n:Nat):Prs T H (xs.drop n) (vs.drop n):=by
 induction a generalizing n with
 |nil=>rw[sG,sG];exact .nil
 |cons r t ih=>
  cases n with
  |zero=>exact .cons r t
  |succ n=>exact ih n
def BlO (K:Fgg)(m:List V->Hp->VK->Prop)(E:XK)(C:Cs γ)(g:γ->Mo α)(O:Own α):Prop:=
 ∀c vs F H (Q:VK),Same F H->C.R c vs F->After K (g c) E F H (OwnK O H Q)->m vs H Q
theorem zqC_ {m:List V->Hp->VK->Prop}{C:Cs γ}{g:γ->Mo α}{O:Own α}{ta:TA}{r:Mo γ}(hb:BlO K m E C g O)(h:EvA K ta E L r C):EvO K (tCB m ta) E L (r.bind g) O:=by
 intro σ F H Q hL hs q;exact h σ F H _ hL hs (q.bind.imp λc F1 H1 x1 k1 vs dX=>hb c vs F1 H1 Q x1.2.1 dX (k1.imp λa F2 H2 x2 k2=>k2.back x1.2.2.1))
theorem zmG_ {xs:List α}{vs:List V}(r:Prs T H xs vs){i:Int}{x:α}(e:atI xs i=uD x):∃v,atI vs i=uD v/\T.R x v H:=by
 unfold atI at e ⊢;rw[<- r.len];cases e1:ixN xs.length i with
 |none=>rw[e1]at e;cases e
 |some j=>
  rw[e1]at e;rcases r.get j with⟨a,b⟩|⟨y,v,a,b,c⟩
  ·have:xs[j]?=uD x:=e
   rw[a]at this;cases this
  ·have:xs[j]?=uD x:=e
   rw[a]at this;cases this;exact⟨v,b,c⟩
end
section
variable {K:Fgg}{E:XK}{α:Type}{F H:Hp}{L:List Sl}{e1 e2:TE}{T:Ty α}{r:Mo α}{t:TT}{b:Mo Bool}
theorem zq8_ {r1 r2:Mo α}{O:Own α}(ht:EvT K t E L b)(h1:EvO K e1 E L r1 O)(h2:EvO K e2 E L r2 O):EvO K (mIf t e1 e2) E L (b.bind λc=>if c then r1 else r2) O:=by
 intro σ F H Q hL hs q;refine ht σ F H _ hL hs (q.bind.imp λa F1 H1 x k=>⟨λc=>?_,λc=>?_⟩)
 ·rw[if_pos c]at k;exact h1 σ F1 H1 _ (hL.mono x.1) x.2.1 (k.imp λa F2 H2 y z=>z.back x.2.2.1)
 ·rw[if_neg (by rw[c];decide)]at k;exact h2 σ F1 H1 _ (hL.mono x.1) x.2.1 (k.imp λa F2 H2 y z=>z.back x.2.2.1)
theorem After.more {k:α->Hp->Hp->Prop}(h:After K r E F H k):After K r E F H λa F1 H1=>∀F2 H2,Ext F1 H1 F2 H2->k a F2 H2:=by
 cases r with
 |ok a=>exact λF1 H1 x F2 H2 y=>h F2 H2 (x.trans y)
 |ex c=>exact h
 |no=>exact h
def EvP (K:Fgg)(t:TO)(E:XK)(L:List Sl)(r:Mo (Option Int)):Prop:=
 ∀σ F H (Q:Option Int->Hp->Prop),HoldF L σ F->Same F H->After K r E F H (λb _ H'=>Q b H')->t σ H Q
theorem ep_no:EvP K tNoPart E L (.ok uE):=λσ F H Q hL hs q=>q.ok hs
def cutG (xs:List α)(lo hi:Option Int):List α:=(xs.drop (HT.sIx xs.length 0 lo)).take (HT.sIx xs.length xs.length hi-HT.sIx xs.length 0 lo)
theorem zlW_ {xs:List α}{vs:List V}(q:Prs T H xs vs)(lo hi:Option Int):Prs T H (cutG xs lo hi) (cutV vs lo hi):=by
 unfold cutG cutV;rw[<- q.len];exact(q.drop _).take _
theorem EqD.le {H:Hp}{n m:Nat}{x y:V}{b:Bool}(h:EqD K H n x y b)(g:n<=m):EqD K H m x y b:=by
 induction g with
 |refl=>exact h
 |step _ ih=>exact .up ih
noncomputable def zfL (l:List Nat)(i:Int):List Nat:=(Txt.zfill ⟨l.toArray⟩ i).cps.toList
noncomputable def ljL (l:List Nat)(i:Int):List Nat:=(Txt.ljust ⟨l.toArray⟩ i).cps.toList
end
section
variable {K:Fgg}{E:XK}{α β:Type}{F H:Hp}{L:List Sl}{e:TE}{T:Ty α}{r:Mo α}
noncomputable def setL (L:List Sl)(ss:List (Nat×Sl)):List Sl:=ss.foldl (λL q=>L.set q.1 q.2) L
def setS (σ:St)(ss:List (Nat×Option V)):St:=ss.foldl (λL q=>L.set q.1 q.2) σ
inductive Plain (F:Hp):List (Nat×Sl)->List (Nat×Option V)->Prop
 |nil:Plain F [] []
 |cons {α:Type}{T:Ty α}{a:α}{i:Nat}{v:V}{ss vs} (h:T.R a v F) (t:Plain F ss vs):Plain F ((i,.fz T a)::ss) ((i,uD v)::vs)
def TgR (K:Fgg)(g:TG)(T:Ty α)(ss:α->List (Nat×Sl)):Prop:=
 ∀a v σ F H (Q:St->Hp->Prop),Same F H->T.R a v F->(∀vs,Plain F (ss a) vs->Q (setS σ vs) H)->g v σ H Q
theorem zgm_ {σ:St}{i j:Nat}{o:Option V}(h:i<σ.length):((σ.set i o)[j]?).join=if i=j then o else(σ[j]?).join:=by
 rw[nJ];split
 ·rename_i e;subst e;first |rfl |(rw[if_pos h];rfl)
 ·rfl
theorem ziP_ {σ:St}{i:Nat}{s:Sl}{o:Option V}(hl:L.length=σ.length)(h:HoldF L σ F)(hs:s.Z o F):HoldF (L.set i s) (σ.set i o) F:=by
 intro j t e;rw[nJ]at e;split at e
 ·rename_i z;subst z
  split at e
  ·rename_i y;cases e
   rw[zgm_ (by rw[<- hl];exact y),if_pos rfl];exact hs
  ·cases e
 ·rename_i z
  by_cases y:i<σ.length
  ·rw[zgm_ y,if_neg z];exact h j t e
  ·rw[List.set_eq_of_length_le (by lia)];exact h j t e
theorem zfA_ {ss:List (Nat×Sl)}{vs:List (Nat×Option V)}(p:Plain F ss vs):∀{L:List Sl}{σ:St},L.length=σ.length->HoldF L σ F->HoldF (setL L ss) (setS σ vs) F/\(setS σ vs).length=σ.length/\(setL L ss).length=L.length:=by
 induction p with
 |nil=>exact λhl h=>⟨h,rfl,rfl⟩
 |cons hv t ih=>
  rename_i T a i v ss vs
  intro L σ hl h;obtain⟨a1,b,c⟩:=ih (L:=L.set i (.fz T a)) (σ:=σ.set i (uD v)) (by rw[nz,nz];exact hl) (ziP_ (s:=.fz T a) hl h ⟨v,rfl,hv⟩)
  exact⟨a1,b.trans (by rw[nz]),c.trans (by rw[nz])⟩
def DeadAt (L:List Sl)(is:List Nat):Prop:=∀i∈is,∀s,L[i]?=uD s->s=.dead
theorem zj3_ {ss:List (Nat×Sl)}{vs:List (Nat×Option V)}(p:Plain F ss vs){j:Nat}:∀{σ:St},j∉ss.map (·.1)->(setS σ vs)[j]?=σ[j]?:=by
 induction p with
 |nil=>exact λ_=>rfl
 |cons hv t ih=>
  rename_i i v ss vs
  intro σ hj;have h1:i≠j:=λz=>hj (by rw[<- z];exact lR)
  have h2:=ih (σ:=σ.set i (uD v)) λz=>hj (lQ _ z)
  exact h2.trans (lW h1)
structure Yl (K:Fgg)(J:It)(xs:List α)(T:Ty α)(F1:Hp):Prop where
 go:∀i H x,Same F1 H->xs[i]?=uD x->J.go i H/\∀v H',J.yld i H v H'->∀F,Same F1 F->Same F H->∃F',Ext F H F' H'/\T.R x v F'
 stop:∀H,Same F1 H->J.stop xs.length H
def EvI (K:Fgg)(wi:TI)(E:XK)(L:List Sl)(r:Mo (List α))(T:Ty α):Prop:=
 ∀σ F H (R:It->Hp->Prop),HoldF L σ F->Same F H->After K r E F H (λxs F' H'=>∀J,Yl K J xs T F'->R J H')->wi σ H R
noncomputable def rngI (lo:Int)(n:Nat):List Int:=(lH n).map λ(i:Nat)=>lo+i
theorem zpu_ {lo:Int}{n:Nat}{F1:Hp}:Yl K (Itr lo n) (rngI lo n) tyInt F1:=by
 refine⟨λi H x hH hx=>?_,λH hH=>?_⟩
 ·unfold rngI at hx
  rw[lB]at hx;cases e:(lH n)[i]? with
  |none=>rw[e]at hx;cases hx
  |some c=>
   rw[e]at hx;cases hx;obtain⟨hi,e⟩:=lD.mp e;rw[pJ]at e;subst e;rw[lJ]at hi;refine⟨hi,?_⟩;rintro v H' ⟨rfl,rfl⟩ F _ hF;exact⟨F,.refl hF,rfl⟩
 ·show n<=_
  unfold rngI;rw[k8,lJ];exact lp _
noncomputable def enumL (xs:List α):List (Int×α):=(lH xs.length).zip xs |>.map λq=>((q.1:Int),q.2)
theorem zdu_ (xs:List α)(i:Nat):(enumL xs)[i]?=(xs[i]?).map λx=>((i:Int),x):=by
 unfold enumL;rw[lB];cases e:xs[i]? with
 |none=>
  have:=List.getElem?_eq_none_iff.mp e;rw[qK (by rw[nA,lJ];lia)];rfl
 |some x=>
  have hi:=(lD.mp e).1;have:((lH xs.length).zip xs)[i]?=uD (i,x):=pB.mpr ⟨by rw[qU hi],e⟩
  rw[this];rfl
theorem zbW_ (xs:List α):(enumL xs).length=xs.length:=by unfold enumL;rw[k8,nA,lJ,oS]
def compM (f:α->Mo (Option β)):List α->List β->Mo (List β)
 |[],acc=>.ok acc
 |x::xs,acc=>(f x).bind λo=>match o with |none=>compM f xs acc |some y=>.lim (acc.length+1) (compM f xs (acc++[y]))
noncomputable def cL (lv:List Str)(fr:List (Str×Nat))(L:List Sl):List Sl:=lv.map (λ_=>Sl.dead)++fr.map λq=>(L[q.2]?).getD .dead
theorem zgb_ {lv:List Str}{fr:List (Str×Nat)}{σ:St}(h:HoldF L σ F):HoldF (cL lv fr L) (cS lv fr σ) F:=by
 intro i s e;unfold cL at e;unfold cS;by_cases hi:i<lv.length
 ·rw[mJ (by rw[k8];exact hi),lB,lj hi]at e
  cases e;trivial
 ·rw[my (by rw[k8];lia),k8,lB]at e
  rw[my (by rw[k8];lia),k8,lB]
  cases z:fr[i-lv.length]? with
  |none=>rw[z]at e;cases e
  |some q=>
   rw[z]at e;have e:(L[q.2]?).getD .dead=s:=by simpa using e
   show Sl.Z s (σ[q.2]?).join F
   cases y:L[q.2]? with
   |none=>rw[y]at e;rw[<- e];trivial
   |some t=>rw[y]at e;cases e;exact h _ _ y
theorem zkR_ {lv:List Str}{fr:List (Str×Nat)}{σ:St}:(cL lv fr L).length=(cS lv fr σ).length:=by unfold cL cS;simp
def cond1 (c:Mo Bool)(f:Mo β):Mo (Option β):=(c.bind λb=>if b then f.bind λy=>.ok (uD y)else .ok uE).noex
end
def Okk (F0 H0 F h H:Hp):Prop:=Ext F0 H0 F H/\Dj F h/\Same h H/\(∀p,h p≠uE->H0 p=uE)/\∀p xs,h p≠uD (.tup xs)
section
variable {K:Fgg}{E:XK}{α:Type}{F0 H0 F h H:Hp}{e:TE}{r:Mo α}{t:TS}
theorem Okk.thaw (ok:Okk F0 H0 F h H):Same (un F h) H:=λp o e=>by
 unfold un at e;cases z:F p with
 |some w=>rw[z]at e;cases e;exact ok.1.2.1 _ _ z
 |none=>rw[z]at e;exact ok.2.2.1 _ _ e
def less (G h:Hp):Hp:=λp=>match h p with |none=>G p |some _=>uE
theorem zax_ {G h:Hp}{p:lu}(e:h p=uE):less G h p=G p:=by unfold less;rw[e]
theorem Okk.back (ok:Okk F0 H0 F h H){G' H':Hp}(x:Ext (un F h) H G' H'):Okk F0 H0 (less G' h) h H'/\Same F (less G' h)/\Tups G' (less G' h):=by
 obtain⟨o1,o2,o3,o4,o5⟩:=ok;have hs:Same F (less G' h):=λp o e=>by
  have hp:h p=uE:=by
   rcases o2 p with z |z
   ·rw[z]at e;cases e
   ·exact z
  rw[zax_ hp];exact x.1 _ _ (zau_ _ _ e)
 refine⟨⟨⟨o1.1.trans hs,λp o e=>?_,o1.2.2.1.trans x.2.2.1,λp a b=>?_⟩,λp=>?_,λp o e=>?_,o4,o5⟩,hs,λp xs e=>?_⟩
 ·unfold less at e
  split at e
  ·exact x.2.1 _ _ e
  ·cases e
 ·unfold less at b
  split at b
  ·rename_i z
   cases y:un F h p with
   |none=>exact o1.2.2.1.free (x.2.2.2 p y b)
   |some o=>
    unfold un at y;cases w:F p with
    |some _=>exact o1.2.2.2 p a (by rw[w];exact sN _)
    |none=>rw[w,z]at y;cases y
  ·exact absurd rfl b
 ·unfold less
  cases z:h p with
  |none=>exact .inr rfl
  |some o=>exact .inl rfl
 ·exact x.2.1 _ _ (x.1 _ _ (zeZ_ o2 _ _ e))
 ·unfold less
  cases z:h p with
  |none=>exact e
  |some o=>
   have:=x.1 _ _ (zeZ_ o2 _ _ z);rw[e]at this;cases this;exact absurd z (o5 p xs)
theorem Tell.back {x:Xc}(ok:Okk F0 H0 F h H){G' H':Hp}(y:Ext (un F h) H G' H')(t:Tell K E x H0 (less G' h) H'):Tell K E x H G' H':=by
 cases x with
 |pl c=>exact t
 |«at» c as=>
  refine λdx fs e q r=>t dx fs (ok.1.2.2.1.free e) ?_ (r.imm (ok.back y).2.2)
  rw[zax_ (ok.2.2.1.free e)];exact q
theorem Okk.cold (ok:Okk F0 H0 F h H){F' H':Hp}(x:Ext F H F' H'):Okk F0 H0 F' h H':=by
 refine⟨ok.1.trans x,λp=>?_,ok.2.2.1.trans x.2.2.1,ok.2.2.2.1,ok.2.2.2.2⟩
 cases z:h p with
 |none=>exact .inr rfl
 |some o=>
  left;rcases ok.2.1 p with y |y
  ·cases w:F' p with
   |none=>rfl
   |some o'=>have:=x.2.2.2 p y (by rw[w];exact sN _);rw[ok.2.2.1 _ _ z]at this;cases this
  ·rw[y]at z;cases z
theorem zk6_ {hn h:Hp}(hh:Same h H)(fresh:∀p,hn p≠uE->H p=uE):Dj hn h:=λp=>by
 cases z:hn p with
 |none=>exact .inl rfl
 |some w=>
  have:=fresh p (by rw[z];exact sN _)
  exact .inr (hh.free this)
theorem zlr_ {α:Type}{l:List α}{i:Nat}{o:α}(h:l[i]?=uD o):l.set i o=l:=by
 obtain⟨hi,e⟩:=lD.mp h;rw[<- e];exact List.set_getElem_self hi
theorem Okk.rebase {F1 H1:Hp}(x:Ext F0 H0 F1 H1)(ok:Okk F0 H0 F h H)(s:Same F1 F):Okk F1 H0 F h H:=by
 obtain⟨o1,o2,o3,o4,o5⟩:=ok;refine⟨⟨s,o1.2.1,o1.2.2.1,λp a b=>o1.2.2.2 p (x.1.free a) b⟩,o2,o3,o4,o5⟩
theorem Okk.unbase {F1 H1:Hp}(x:Ext F0 H0 F1 H1)(ok:Okk F1 H0 F h H):Okk F0 H0 F h H:=by
 obtain⟨o1,o2,o3,o4,o5⟩:=ok;refine⟨⟨x.1.trans o1.1,o1.2.1,o1.2.2.1,λp a b=>?_⟩,o2,o3,o4,o5⟩
 cases z:F1 p with
 |none=>exact o1.2.2.2 p z b
 |some w=>exact x.2.2.2 p a (by rw[z];exact sN _)
variable {L:List Sl}
def CDivG (i j:Int):Prop:=0<j/\p4 i j=uG
noncomputable instance (i j:Int):Decidable (CDivG i j):=inferInstanceAs (Decidable (_/\_))
noncomputable instance (i j:Int):Decidable (IntMulOk i j):=inferInstanceAs (Decidable (¬_))
abbrev mMulG:R2:=mI IntMulOk λi j=>.int (i*j)
abbrev mDivG:R2:=mI CDivG λi j=>.int (i / j)
theorem zlJ_ {X:Cx}:OpR X (nR .Mult) mMulG:=opM (opI λ_ _ _ _ _ _ _ hc q=>mul_int q hc)
theorem znY_ {X:Cx}:OpR X (nR .FloorDiv) mDivG:=opM (opI λi j _ _ _ _ _ hc q=>by
 have h1:(0:Int)<j:=hc.1;exact floordiv_int (by lia) (by rw[Int.fdiv_eq_ediv_of_nonneg i (by lia)];exact q) (.inl hc.2))
theorem zm9_:EvT K tTrue E L (.ok uF):=λσ F H Q hL hs q=>q.ok hs
end
section
variable {α:Type}
open PySem PySem.Spec PyProof.Rows in
theorem zol_ {a j:Int}(h0:0<j)(h:j.natAbs.log2<9000):CDivG a j:=by
 refine⟨h0,?_⟩;unfold p4;simp only;rw[Bool.and_eq_false_iff];left;rw[decide_eq_false_iff_not];split<;>lia
theorem log2_lt {n k:Nat}(h:n<2 ^ k):n.log2<k\/n=0:=by
 by_cases hz:n=0
 ·exact .inr hz
 ·exact .inl ((Nat.log2_lt hz).mpr h)
theorem zmV_ {a j:Int}(h0:0<j)(h:j<2 ^ 1000):CDivG a j:=by
 refine zol_ h0 ?_;have h1:j.natAbs<2 ^ 1000:=by
  have:((2:Int) ^ 1000)=((2 ^ 1000:Nat):Int):=by rw[Int.natCast_pow];rfl
  rw[this]at h;lia
 rcases log2_lt h1 with h |h
 ·lia
 ·rw[h];decide
open PySem PySem.Spec PyProof.Rows in
theorem zeg_ {i j:Int}(h : -(2 ^ 64)<i/\i<2 ^ 64 \/ -(2 ^ 64)<j/\j<2 ^ 64):IntMulOk i j:=CMul.ok h
theorem zcy_ (lo:Int)(n:Nat):(rngI lo n).length=n:=by unfold rngI;rw[k8,lJ]
theorem zhL_ {xs:List α}{k:Int}(h0:0<=k):atI xs k=xs[k.toNat]?:=by
 unfold atI ixN;rw[if_pos h0];split
 ·rfl
 ·rename_i h
  rw[qK (by omega)];rfl
theorem zh3_ {xs:List α}{k:Int}(h0:0<=k)(h1:k<xs.length):∃x,atI xs k=uD x/\x∈xs:=by
 rw[zhL_ h0,lj (show k.toNat<xs.length by lia)]
 exact⟨_,rfl,rM _⟩
end
section
variable {F0 H0 F h H:Hp}
theorem zg1_ {p:lu}{o':HO}{h1' hr h':Hp}(ok:Okk F0 H0 F h H)(hp:h p≠uE)(nt:∀xs,o'≠.tup xs)(h':Hp)(hh:∀q,h' q=if q=p then uD o' else h q):Okk F0 H0 F h' (upd H p o'):=by
 obtain⟨o1,o2,o3,o4,o5⟩:=ok;have Fp:F p=uE:=by
  rcases o2 p with z |z
  ·exact z
  ·exact absurd z hp
 have iT:H0 p=uE:=o4 p hp;refine⟨⟨o1.1,λq o z=>?_,λq o z=>?_,o1.2.2.2⟩,λq=>?_,λq o z=>?_,λq z=>?_,λq ys z=>?_⟩
 ·unfold upd;split
  ·rename_i w;rw[w,Fp]at z;cases z
  ·exact o1.2.1 _ _ z
 ·unfold upd;split
  ·rename_i w;rw[w,iT]at z;cases z
  ·exact o1.2.2.1 _ _ z
 ·rw[hh];split
  ·rename_i w;rw[w];exact .inl Fp
  ·exact o2 q
 ·rw[hh]at z;unfold upd
  split at z
  ·rename_i w;rw[if_pos w];exact z
  ·rename_i w;rw[if_neg w];exact o3 _ _ z
 ·rw[hh]at z;split at z
  ·rename_i w;rw[w];exact iT
  ·exact o4 q z
 ·rw[hh]at z;split at z
  ·exact nt ys (by injection z)
  ·exact o5 q ys z
@[irreducible] def fuelW:Nat:=100000
end
open PySem.SeqAt
open PySem.AutoSeq1 (wpAny_loadPart')
open PySem.MeetsSeq PySem.MeetsSeq2 PySem.MeetsSeq3
section
variable {α:Type}
theorem zmg_ {n d:Nat}{i:Int}(h:0<=i):HT.sIx n d (uD i)=min i.toNat n:=by
 unfold HT.sIx;simp only;split<;>lia
theorem zag_ {xs:List α}{i:Int}(h:0<=i):cutG xs uE (uD i)=xs.take i.toNat:=by
 unfold cutG;rw[zmg_ h,show HT.sIx xs.length 0 uE=0 from rfl,mM,Nat.sub_zero,<- List.take_take,pz]
theorem za8_ {xs:List α}{i:Int}(h:0<=i):cutG xs (uD i) uE=xs.drop i.toNat:=by
 unfold cutG;rw[zmg_ h,show HT.sIx xs.length xs.length uE=xs.length from rfl]
 by_cases hl:i.toNat<=xs.length
 ·rw[rY hl,mY (by rw[mz];exact lp _)]
 ·rw[Nat.min_eq_right (by lia),pU,List.drop_eq_nil_of_le (by lia),qW]
theorem zdx_ {xs:List α}{q:Int×α}(h:q∈enumL xs):∃i:Nat,i<xs.length/\q.1=i/\xs[i]?=uD q.2:=by
 obtain⟨i,hi,e⟩:=List.mem_iff_getElem.mp h;rw[zbW_]at hi;have:=zdu_ xs i;rw[lj (by rw[zbW_];exact hi),e]at this
 refine⟨i,hi,?_⟩;cases e2:xs[i]? with
 |none=>rw[e2]at this;cases this
 |some x=>rw[e2]at this;injection this with this;rw[this];exact⟨rfl,rfl⟩
end
noncomputable def repL {α:Type}(xs:List α)(n:Int):List α:=(lF n.toNat xs).flatten
def CRep (m:Nat)(n:Int):Prop:=0<=n/\n<=100000/\m<=100000/\m*n.toNat<=100000
noncomputable instance (m:Nat) (n:Int):Decidable (CRep m n):=inferInstanceAs (Decidable (_/\_))
def mMulX:R2:=λx y H Q=>match x,y with
 |.int i,.int j=>IntMulOk i j/\Q (.int (i*j)) H
 |.str z,.int n=>CRep z.cps.toList.length n/\Q (tx (repL z.cps.toList n)) H
 |.ref l,.int k=>∃xs,H l=uD (.lst xs)/\CRep xs.length k/\∀p,H p=uE->Q (.ref p) (upd H p (.lst (repL xs k)))
 |_,_=>False
theorem zjl_ (z:Array Nat)(n:Nat):(qE (λx1 x2=>x1++x2) #[] (lF n z)).toList=(lF n z.toList).flatten:=by
 have:∀(l:List (Array Nat)) (acc:Array Nat),(l.foldl (λx1 x2=>x1++x2) acc).toList=acc.toList++(l.map rg).flatten:=by
  intro l;induction l with
  |nil=>intro acc;simp
  |cons a l ih=>intro acc;rw[m6,ih];simp
 rw[this];simp
theorem zoX_ {X:Cx}:OpR X (nR .Mult) mMulX:=by
 intro pins s σ H x y v u Q I rx ry h
 cases x<;>cases y<;>first
  |exact h.elim
  |exact zlJ_ pins s σ H _ _ v u Q I rx ry h
  | (obtain⟨xs,hl,⟨c1,c2,c3,c4⟩,q⟩:=h
     exact zrI_ pins s σ H _ _ v u Q I rx ry ⟨_,_,xs,rfl,rfl,hl,by lia,by lia,za1_ c4,q⟩)
  | (rename_i z n
     obtain⟨⟨c1,c2,c3,c4⟩,q⟩:=h;obtain⟨t,rfl⟩:=rx;obtain⟨t',rfl⟩:=ry;have hz:z.length=z.cps.toList.length:=by simp[nM]
     refine PySem.P.mul_str (by simp;lia) (λh1 h2=>?_) (λh1 h2=>?_) ?_
     ·rw[hz]
      have hn:0<n:=by lia
      have:(z.cps.toList.length:Int)*n<=2 ^ 63-1:=by
       have e:n=(n.toNat:Int):=by lia
       rw[e,<- Int.natCast_mul];lia
      have:=Int.le_ediv_of_mul_le hn this;lia
     ·unfold ux
      rw[hz];have:=za1_ c4;exact decide_eq_false (by lia)
     ·by_cases h1:n<1
      ·rw[if_pos h1]
       have:n=0:=by lia
       subst this;exact⟨ny _,tx [],H,I.tok _,⟨_,rfl⟩,q⟩
      ·rw [if_neg h1]
       by_cases h2:(n == 1 ||z.length == 0)=uF
       ·rw[if_pos h2]
        have e:repL z.cps.toList n=z.cps.toList:=by
         unfold repL;rw[mK]at h2;rcases h2 with h2 |h2
         ·have:n=1:=by simpa using h2
          subst this;simp
         ·have:z.cps.toList=[]:=ml.mp (by rw[<- hz];simpa using h2)
          rw[this];simp
        rw[e]at q;refine⟨tx z.cps.toList,H,I,⟨t,?_⟩,q⟩;show pL z t=pL ⟨z.cps.toList.toArray⟩ t
        rw[<- zec_]
       ·rw[if_neg h2]
        refine⟨?_,tx (repL z.cps.toList n),H,I.tok _,⟨s.toks,?_⟩,q⟩
        ·have e:(⟨qE (λx1 x2=>x1++x2) #[] (lF n.toNat z.cps)⟩:Str).length=(lF n.toNat z.cps.toList).flatten.length:=by
          rw[<- zjl_];simp[nM]
         rw[e,zjn_];exact za1_ (by rw[tj];exact c4)
        show pL _ _=pL _ _
        congr 1;unfold repL;rw[<- zjl_])
section
variable {α:Type}{H:Hp}{T:Ty α}
theorem zm2_ {xs:List α}{vs:List V}(hr:Prs T H xs vs)(n:Int):Prs T H (repL xs n) (repL vs n):=by
 unfold repL;induction n.toNat with
 |zero=>exact .nil
 |succ m ih=>rw[mH,mH,ox,ox];exact hr.append ih
noncomputable def strsL (l:List (List Nat)):List Str:=l.map λz=>⟨z.toArray⟩
end
section
variable {κ:Type}
variable [DecidableEq κ]
end
section
variable {κ:Type}[DecidableEq κ]
end
section
end
end L2
namespace Att
open PySem PySem.W PySem.Calls PyProof.Rows
theorem zlk_ {ns:List Int}(h:WData.layableAll [WData.list (ns.map WData.int)]=uF):∀x∈ns,pC x<=1048576:=by
 intro x hx;have h1:=layableW_arg h _ (lO.mpr rfl);have h2:=layableW_item h1 (.int x) (mF.mpr ⟨x,hx,rfl⟩);exact PyData.bits_of_layable (layable_int h2)
theorem attach_callB {l:OpenLaw}{n:Nat}{q:lY}{loose:List Str}{XP:(Str->Option aT)->Heap->Prop}{YP:mq->Heap->Prop}{d:DefRec}
  (hn:l.most=uD n) (eO:d.params.defaults=[])
  (call:∀(w:mq) (s₀ ae:ll) (mg mb:Str->Option aT) (fa:lu) (o:tP) (pm cd doc:aT) (a:lu) (vs:List aT) (ns:List Int),
   (∀x∈ns,pC x<=1048576) ->
   Ground q loose [] XP w s₀ mg mb ae.heap->YP w ae.heap ->
   ae.heap.get? fa=uD o->o.data=.func (docDef d.name d.params d.body d.scope pm cd doc)->ae.heap.CodeRec cd d.name->mg d.name=uD (.ref fa) ->
   ae.heap.get? a=uD {cls:=.type "list",data:=.seq vs.toArray}->IntsAre vs ns->ns.length<=n->ae.gens=#[] ->
   codeAny (model l.prog w) callerA (.call (.ref fa) ⟨[.ref a],[]⟩) (λr s'=>r=.ok (.ret (.bool uF))/\OldK ae.heap s'.heap/\s'.os=ae.os/\AllBare s'.gens) ae):
  WalkO q loose XP YP l.row.toRowW d [] (λf vs=>sr f vs):=by
 intro w s₀ ae mg mb G Y fa o pm cd doc dV kV ho hd bt hD d9 hg args vals as cf gw kH aq kP;obtain rfl:dV=.none:=Dflts.none hD eO;obtain rfl:kV=.none:=Dflts.noKw hD;obtain⟨a,vs,ns,rfl,rfl,cU,hints,hlen⟩:=zim_ hn cf aq;refine enter_call (codeAny_mono (call w s₀ ae mg mb fa o pm cd doc a vs ns (zlk_ gw) G Y ho (fd_plain hd) bt d9 cU hints hlen hg) λr s' hq=>?_)
 obtain⟨rfl,h2,h3,h4⟩:=hq;exact⟨.inl ⟨.bool uF,.bool uF,[],rfl,λ_=>rfl,.bool uF,zi6_ l _,λ_=>⟨uB,λ_ hm=>(nomatch hm)⟩⟩,h2,h3,h4⟩
end Att
namespace L2
open PySem PySem.Spec PyProof.Rows
theorem zkZ_ {l:sQ}{n k:Nat}{q:lY}{loose:List Str}{XP:(Str->Option aT)->Heap->Prop}{YP:mq->Heap->Prop}{d:DefRec}{K:Params->Fgg}{CX:mq->CXT}{sp:mq->Sp}{x:Str}
  (hn:l.most=uD n) (fG:n<=lE) (eO:d.params.defaults=[]) (hr:Room k callerA)
  (hY:∀(w:mq) (h:Heap),YP w h->(K w.params).In h)
  (F:∀(w:mq) (mg:Str->Option aT) (fa:lu) (h:Heap),(K w.params).In h->h.Ns lS mg->mg d.name=uD (.ref fa) ->
   ∃fd:mW,(∀(s:ll) (u:aT),BindsTo s fd ⟨[u],[]⟩ [(x,u)]) /\
    ∀base:Heap,(K w.params).In base->base.Ns lS mg->FnOk l.prog w (K w.params) mg base (CX w) k fa fd [x] (sp w))
  (dA:∀(w:mq) (H:Hp) (a:lu) (ns:List Int),ns.length<=n->(∀x∈ns,pC x<=1048576)->Only H->SqL (K w.params) H a (ns.map V.int)->sp w [.ref a] H (λv _=>v=.bl uF) λ_ _ _=>False)
  (gL:∀(w:mq) (H:Hp) (s:ll) (e:aT) (s':ll),CX w [] H s (λ_ _ _=>False) e s'->False):
  W.WalkO q loose XP YP l.row.toRowW d [] (λf vs=>sr f vs):=by
 refine Att.attach_callB hn eO λw s₀ ae mg mb fa o pm cd doc a vs ns eU G Y ho hd bt d9 cU hints hlen hg=>?_
 have KX:=hY w _ Y;obtain⟨fd,hb,hF⟩:=F w mg fa _ KX G.T.g d9;exact zk0_ KX G.T.g G.T.b G.T.builtins G.T.nolimit hg cU hints (ni hlen fG) hr hF hb (λH hO hS=>dA w H a ns hlen eU hO hS) λH e s'=>gL w H ae e s'
abbrev BitsOk (ns:List Int):Prop:=∀x∈ns,pC x<=1048576
open PySem PySem.Spec PyProof.Rows PySem.W
section
variable {α:Type}
structure LOr (lt:α->α->Bool):Prop where
 asym:∀{a b},lt a b=uF->lt b a=uG
 tr:∀{a b c},lt b a=uG->lt c b=uG->lt c a=uG
 anti:∀{a b},lt a b=uG->lt b a=uG->a=b
noncomputable def srtL (lt:α->α->Bool)(xs:List α):List α:=xs.mergeSort (λa b=>!lt b a)
theorem zbg_ (lt:α->α->Bool)(xs:List α):(srtL lt xs).Perm xs:=List.mergeSort_perm _ _
theorem zfG_ {lt:α->α->Bool}(o:LOr lt)(xs:List α):(srtL lt xs).Pairwise λa b=>lt b a=uG:=by
 have:=List.pairwise_mergeSort (le:=λa b=>!lt b a) (λa b c h1 h2=>by simp only[Bool.not_eq_true']at *;exact o.tr h1 h2) (λa b=>by
  cases h:lt b a with
  |false=>simp
  |true=>simp[o.asym h]) xs
 exact this.imp (λh=>by simpa using h)
theorem zf4_ {lt:α->α->Bool}(o:LOr lt):∀{ws ys:List α},ws.Perm ys->ws.Pairwise (λa b=>lt b a=uG)->ys.Pairwise (λa b=>lt b a=uG)->ws=ys
 |[],ys,hp,_,_=>by rw[List.Perm.nil_eq hp]
 |w::ws,[],hp,_,_=>by have:=hp.length_eq;simp at this
 |w::ws,y::ys,hp,h1,h2=>by
  obtain⟨a1,a2⟩:=qc.mp h1;obtain⟨b1,b2⟩:=qc.mp h2;have e:w=y:=by
   have m1:w∈y::ys:=hp.mem_iff.mp (lR ..);have m2:y∈w::ws:=hp.mem_iff.mpr (lR ..);rcases lC.mp m1 with e |m1
   ·exact e
   ·rcases lC.mp m2 with e |m2
    ·exact e.symm
    ·exact o.anti (b1 w m1) (a1 y m2)
  subst e;rw[zf4_ o (List.Perm.cons_inv hp) a2 b2]
theorem zfg_ {lt:α->α->Bool}(o:LOr lt){ws xs:List α}(hp:ws.Perm xs)(hs:ws.Pairwise λa b=>lt b a=uG):ws=srtL lt xs:=
 zf4_ o (hp.trans (zbg_ lt xs).symm) hs (zfG_ o xs)
noncomputable def ltI (a b:Int):Bool:=decide (a<b)
theorem zou_:LOr ltI:=by
 unfold ltI;refine⟨λh=>?_,λh h'=>?_,λh h'=>?_⟩<;>simp only[decide_eq_true_eq,decide_eq_false_iff_not]at*<;> lia
end
end L2
universe u
namespace L2
open PySem PySem.Spec PyProof.Rows
section
end
open PySem PySem.Spec PyProof.Rows PySem.W
section
variable {prog:lY}{w:mq}{A:mG}{E:aT->ll->Prop}{s:ll}{T:String}{rr dd:lu}{n:Nat}{PP:Nat->aT->Prop}{OK:Heap->Prop}
theorem zlm_ {R:List aT->ll->Prop}(Kd:KdlSrc prog w T rr dd n PP OK)(hh:A.handled=uE)(hok:OK s.heap)(hn:n<=lE)
  (hR:∀(h':Heap) (tk:Nat) (acc:Array aT),s.heap.objs.size<h'.objs.size->(∀b o,s.heap.get? b=uD o->h'.get? b=uD o)->ItemsOf PP acc n->R acc.toList {s with heap:=h',toks:=tk}):
  lU (model prog w) A (collect (.ref rr)) R E s:=by
 obtain⟨lr,ld⟩:=Kd.there _ hok;unfold collect;refine lg (wpAny_runValue (codeAny_builtin entry_proto_collect' ?_));rw[Around.under_plainId PySem.F.plain_proto_collect _];show lU _ A.in1 (newList []>>=λl=>again (.builtin "list.__iadd__" ⟨[l,.ref rr],[]⟩)) _ _ s;refine lg (wpAny_newObj_type ?_)
 refine lK ⟨plainId_quiet qq _,codeAny_builtin entry_list_iadd' ?_⟩;rw[Around.under_plainId qq _];have h0:(s.heap.push {cls:=.type "list",data:=.seq ([]:List aT).toArray}).get? s.heap.objs.size=uD {cls:=.type "list",data:=.seq #[]}:=lI _ rfl;show lU _ A.in1 (si (.ref s.heap.objs.size) (.ref rr) (.ref s.heap.objs.size)) _ _ _
 have key:=kdl_extend (A:=A) (s:={s with heap:=s.heap.push {cls:=.type "list",data:=.seq ([]:List aT).toArray}})
  (R:=λ(q:Result) (s':ll)=>∃(h':Heap) (tk:Nat) (acc:Array aT) (c:Nat),q=.ok (.ret (.ref s.heap.objs.size))/\s'={s with heap:=h',toks:=tk}/\(∀b o,s.heap.get? b=uD o->h'.get? b=uD o)/\h'.get? s.heap.objs.size=uD {cls:=.type "list",dict:=uE,data:=.seq acc c,slots:=#[]}/\ItemsOf PP acc n)
  Kd hh (Kd.keep _ _ hok λb _ o e=>lh _ e) s.heap.objs.size (ph lr) (ph ld) (.ref s.heap.objs.size) 0 h0
  (λh' tk acc c hk hS az=>⟨h',tk,acc,c,rfl,rfl,λb o e=>hk b o (mm (lL e)) (lh _ e),hS,az⟩) hn
 refine nq key (λfin s' x=>?_) λe s' x=>?_
 ·cases fin with
  |done f=>
   obtain⟨h',tk,acc,c,e,rfl,hk,hS,az⟩:=x;cases e;show lU _ A (load s.heap.objs.size>>=_) _ _ _
   exact lg (wpAny_load hS (lK (hR h' tk acc (lL hS) hk az)))
  |again c1=>
   refine⟨x.1,codeAny_mono x.2 λq s2 y=>?_⟩;obtain⟨h',tk,acc,c,rfl,rfl,hk,hS,az⟩:=y
   show lU _ A (load s.heap.objs.size>>=_) _ _ _;exact lg (wpAny_load hS (lK (hR h' tk acc (lL hS) hk az)))
 ·obtain⟨_,_,_,_,e',_⟩:=x;cases e'
end
section
theorem is_kV {P:lY}{w:mq}{k:Key}{u:aT}(h:(mixKind P w).is k u=uF):RelV (kV k) u:=by
 rw[zgJ_]at h;rcases zu_ h with⟨i,t,rfl,rfl⟩|⟨x,t,rfl,rfl⟩<;>exact⟨_,rfl⟩
end
structure ZpAp (z ti to i j:lu)(f g:List lu):Prop where
 a1:ti≠z
 a2:to≠z
 a3:i≠z
 a4:j≠z
 a5:ti≠to
 a6:ti≠i
 a7:ti≠j
 a8:to≠i
 a9:to≠j
 b1:i≠j
 b2:z∉f
 b3:z∉g
 b4:to∉f
 b5:to∉g
 b6:j∉f
 b7:i∉g
section
variable {prog:lY}{w:mq}{A:mG}{E:aT->ll->Prop}{s:ll}{z ti to i j:lu}{f g:List lu}{n1 n2 k:Nat}{P1 P2:Nat->aT->Prop}{S1 S2:Nat->Heap->Prop}{a b:aT}
theorem zkC_ {Q:aT->ll->Prop}(D1:Draws prog w A i f n1 P1 S1)(D2:Draws prog w A j g n2 P2 S2)(ap:ZpAp z ti to i j f g)
  (hz:IsZip s.heap z ti to .none) (cO:om s.heap ti (.ref i) (.ref j)) (cM:om s.heap to a b) (bX:S1 k s.heap) (bx:S2 k s.heap) (l1:k<n1) (l2:k<n2)
  (hQ:∀x y h' tk,P1 k x->P2 k y->IsZip h' z ti to (rawInt s.heap.objs.size)->om h' to x y->S1 (k+1) h'->S2 (k+1) h'->om h' s.heap.objs.size x y->h'.objs.size=s.heap.objs.size+1 ->
   (∀c o,c≠z->c≠to->c≠i->c≠j->s.heap.get? c=uD o->h'.get? c=uD o)->Q (.ref s.heap.objs.size) {s with heap:=h',toks:=tk}):
  lU (model prog w) A (tm.«zip.__next__» ⟨[.ref z],[]⟩) (λfin s'=>∃v,fin=.done (.ret v)/\Q v s') E s:=by
 obtain⟨hp,gn,dd,tk0,os⟩:=s;show lU _ _ (field (.ref z) 2>>=_) _ _ _;refine lg (nT hz rfl (x:=.bool uG) rfl ?_)
 show lU _ _ (field (.ref z) 3>>=_) _ _ _;refine lg (nT hz rfl (x:=.ref ti) rfl ?_)
 refine lg (wpAny_seqItems cO rfl ?_);show lU _ _ (m5 (.ref z)>>=_) _ _ _
 refine lg ?_;unfold m5;refine lg (nT hz rfl (x:=.none) rfl (lK ?_));simp only[if_true];refine lg (wpAny_rule ?_);refine lg (nT hz rfl (x:=.ref to) rfl ?_);refine lg (oh hz (by simp) λq1 (z1:IsZip q1 z ti to .ellipsis) e1=>?_)
 have b_:oz z hp q1:=e1.extBut;refine lg ?_;simp only[rN,r9,qI,sv];refine lg (lg (wpAny_onRaise ?_));show lU _ _ (oq (.ref i)>>=_) _ _ _
 refine lg (D1.item k _ _ _ l1 (D1.frame k _ _ bX λc hc o e=>b_ c o (λq=>ap.b2 (q ▸ hc)) e) λx q2 t2 px s2 e2=>lK ?_)
 have bF:oz i q1 q2:=e2.extBut;have to2:om q2 to a b:=bF _ _ ap.a8 (b_ _ _ ap.a2 cM);refine lg (wpAny_seqItems (s:=⟨q2,gn,dd,t2,os⟩) to2 rfl ?_);refine lg (wpAny_updateSeq_pair (s:=⟨q2,gn,dd,t2,os⟩) to2 λq3 (to3:om q3 to x b) e3=>?_)
 have cC:oz to q2 q3:=e3.extBut;refine lg (wpAny_letGo (lK ?_));refine lg (lg (wpAny_onRaise ?_));show lU _ _ (oq (.ref j)>>=_) _ _ _
 refine lg (D2.item k ⟨q3,gn,dd,t2,os⟩ _ _ l2 (D2.frame k _ _ bx λc hc o e=>cC c o (λq=>ap.b5 (q ▸ hc)) (bF c o (λq=>ap.b7 (q ▸ hc)) (b_ c o (λq=>ap.b3 (q ▸ hc)) e))) λy q4 t4 py s4 e4=>lK ?_)
 have da:oz j q3 q4:=e4.extBut;have hW:om q4 to x b:=da _ _ ap.a9 to3;refine lg (wpAny_seqItems (s:=⟨q4,gn,dd,t4,os⟩) hW rfl ?_);refine lg (wpAny_updateSeq_pair (s:=⟨q4,gn,dd,t4,os⟩) hW λq5 (hU:om q5 to x y) e5=>?_)
 have e5':oz to q4 q5:=e5.extBut;refine lg (wpAny_letGo (lK (lK ?_)));refine lg (wpAny_seqItems (s:=⟨q5,gn,dd,t4,os⟩) hU rfl ?_);refine lg (wpAny_newTuple ?_);have sz:q5.objs.size=hp.objs.size:=by rw[e5.1,e4.1,e3.1,e2.1,e1.1]
 have z5:IsZip q5 z ti to .ellipsis:=e5' _ _ ap.a2.symm (da _ _ ap.a4.symm (cC _ _ ap.a2.symm (bF _ _ ap.a3.symm z1)));have kp:∀c o,c≠z->c≠to->c≠i->c≠j->hp.get? c=uD o->q5.get? c=uD o:=λc o c1 c2 c3 c4 e=>
  e5' c o c2 (da c o c4 (cC c o c2 (bF c o c3 (b_ c o c1 e))))
 have zl:z<q5.objs.size:=lL z5;show lU _ _ (pD (.ref z) (.ref q5.objs.size)>>=_) _ _ ⟨q5.push _,gn,dd,t4,os⟩
 refine lg ?_;unfold pD;have z6:IsZip (q5.push {cls:=.type "tuple",data:=.seq #[x,y]}) z ti to .ellipsis:=lh _ z5;refine lg (oh (s:=⟨q5.push _,gn,dd,t4,os⟩) z6 (by simp) λq7 (z7:IsZip q7 z ti to (rawInt q5.objs.size)) e7=>?_)
 refine oh (s:=⟨q7,gn,dd,t4,os⟩) z7 (by simp) λq8 (z8:IsZip q8 z ti to (rawInt q5.objs.size)) e8=>?_
 have up:∀c o,c≠z->(q5.push {cls:=.type "tuple",data:=.seq #[x,y]}).get? c=uD o->q8.get? c=uD o:=λc o c1 e=>e8.extBut _ _ c1 (e7.extBut _ _ c1 e)
 have fk:∀c o,c≠z->q5.get? c=uD o->q8.get? c=uD o:=λc o c1 e=>up c o c1 (lh _ e)
 have t8:om q8 q5.objs.size x y:=up _ _ (ph zl) (lI _ rfl);have ia:q8.objs.size=q5.objs.size+1:=by rw[e8.1,e7.1];exact nY ..
 rw[sz]at z8 t8 ia;refine lK ⟨_,rfl,?_⟩;show Q (.ref q5.objs.size) ⟨q8,gn,dd,t4,os⟩
 rw[sz];refine hQ x y q8 t4 px py z8 (fk _ _ ap.a2 hU) (D1.frame _ _ _ s2 λc hc o e=>?_) (D2.frame _ _ _ s4 λc hc o e=>?_) t8 ia λc o c1 c2 c3 c4 e=>fk c o c1 (kp c o c1 c2 c3 c4 e)
 ·exact fk c o (λq=>ap.b2 (q ▸ hc)) (e5' c o (λq=>ap.b4 (q ▸ hc)) (da c o (λq=>ap.b6 (q ▸ hc)) (cC c o (λq=>ap.b4 (q ▸ hc)) e)))
 ·exact fk c o (λq=>ap.b3 (q ▸ hc)) (e5' c o (λq=>ap.b5 (q ▸ hc)) e)
theorem zlX_ {Q:PySem.Fin->ll->Prop}(D1:Draws prog w A i f n1 P1 S1)(D2:Draws prog w A j g n2 P2 S2)(ap:ZpAp z ti to i j f g)
  (hz:IsZip s.heap z ti to .none) (cO:om s.heap ti (.ref i) (.ref j)) (cM:om s.heap to a b) (bX:S1 k s.heap) (bx:S2 k s.heap) (l1:k=n1\/k<n1/\k=n2)
  (hE:∀h' e tk,(∀c o,c≠z->c≠to->c≠i->c≠j->s.heap.get? c=uD o->h'.get? c=uD o)->(∃o,h'.get? e=uD o/\o.cls=.type "StopIteration")->E (.ref e) {s with heap:=h',toks:=tk}):
  lU (model prog w) A (tm.«zip.__next__» ⟨[.ref z],[]⟩) Q E s:=by
 obtain⟨hp,gn,dd,tk0,os⟩:=s;show lU _ _ (field (.ref z) 2>>=_) _ _ _;refine lg (nT hz rfl (x:=.bool uG) rfl ?_)
 show lU _ _ (field (.ref z) 3>>=_) _ _ _;refine lg (nT hz rfl (x:=.ref ti) rfl ?_)
 refine lg (wpAny_seqItems cO rfl ?_);show lU _ _ (m5 (.ref z)>>=_) _ _ _
 refine lg ?_;unfold m5;refine lg (nT hz rfl (x:=.none) rfl (lK ?_));simp only[if_true];refine lg (wpAny_rule ?_);refine lg (nT hz rfl (x:=.ref to) rfl ?_);refine lg (oh hz (by simp) λq1 (z1:IsZip q1 z ti to .ellipsis) e1=>?_)
 have b_:oz z hp q1:=e1.extBut;refine lg ?_;simp only[rN,r9,qI,sv];refine lg (lg (wpAny_onRaise ?_));show lU _ _ (oq (.ref i)>>=_) _ _ _
 have f1:S1 k q1:=D1.frame k _ _ bX λc hc o e=>b_ c o (λq=>ap.b2 (q ▸ hc)) e
 rcases l1 with rfl |⟨l1,rfl⟩
 ·refine lg (D1.done _ _ _ f1 λq2 e e2 he=>?_)
  obtain⟨oe,hoe,hce⟩:=he;have bF:oz i q1 q2:=e2;have z2:IsZip q2 z ti to .ellipsis:=bF _ _ ap.a3.symm z1;have ez:e≠z:=λx=>by subst x;have bN:q2.get? e=uD oe:=hoe;rw[z2]at bN;cases bN;simp at hce
  exact oh (s:=⟨q2,gn,dd,tk0,os⟩) z2 (by simp) λq3 _ e3=>hE q3 e tk0 (λc o c1 _ c3 _ x=>e3.extBut _ _ c1 (bF c o c3 (b_ c o c1 x))) ⟨oe,e3.extBut _ _ ez hoe,hce⟩
 ·refine lg (D1.item k _ _ _ l1 f1 λx q2 t2 px s2 e2=>lK ?_)
  have bF:oz i q1 q2:=e2.extBut;have to2:om q2 to a b:=bF _ _ ap.a8 (b_ _ _ ap.a2 cM);refine lg (wpAny_seqItems (s:=⟨q2,gn,dd,t2,os⟩) to2 rfl ?_);refine lg (wpAny_updateSeq_pair (s:=⟨q2,gn,dd,t2,os⟩) to2 λq3 (to3:om q3 to x b) e3=>?_)
  have cC:oz to q2 q3:=e3.extBut;refine lg (wpAny_letGo (lK ?_));refine lg (lg (wpAny_onRaise ?_));show lU _ _ (oq (.ref j)>>=_) _ _ _
  refine lg (D2.done ⟨q3,gn,dd,t2,os⟩ _ _ (D2.frame k _ _ bx λc hc o e=>cC c o (λq=>ap.b5 (q ▸ hc)) (bF c o (λq=>ap.b7 (q ▸ hc)) (b_ c o (λq=>ap.b3 (q ▸ hc)) e))) λq4 e e4 he=>?_)
  obtain⟨oe,hoe,hce⟩:=he;have da:oz j q3 q4:=e4;have z4:IsZip q4 z ti to .ellipsis:=da _ _ ap.a4.symm (cC _ _ ap.a2.symm (bF _ _ ap.a3.symm z1));have ez:e≠z:=λx=>by subst x;have bN:q4.get? e=uD oe:=hoe;rw[z4]at bN;cases bN;simp at hce
  exact oh (s:=⟨q4,gn,dd,t2,os⟩) z4 (by simp) λq5 _ e5=>hE q5 e t2 (λc o c1 c2 c3 c4 x=>e5.extBut _ _ c1 (da c o c4 (cC c o c2 (bF c o c3 (b_ c o c1 x))))) ⟨oe,e5.extBut _ _ ez hoe,hce⟩
theorem zkq_ {Q:Option aT->ll->Prop}(D1:Draws prog w A.in1 i f n1 P1 S1)(D2:Draws prog w A.in1 j g n2 P2 S2)(ap:ZpAp z ti to i j f g)
  (hz:IsZip s.heap z ti to .none) (cO:om s.heap ti (.ref i) (.ref j)) (cM:om s.heap to a b) (bX:S1 k s.heap) (bx:S2 k s.heap) (l1:k<n1) (l2:k<n2)
  (hQ:∀x y h' tk,P1 k x->P2 k y->IsZip h' z ti to (rawInt s.heap.objs.size)->om h' to x y->S1 (k+1) h'->S2 (k+1) h'->om h' s.heap.objs.size x y->h'.objs.size=s.heap.objs.size+1 ->
   (∀c o,c≠z->c≠to->c≠i->c≠j->s.heap.get? c=uD o->h'.get? c=uD o)->Q (uD (.ref s.heap.objs.size)) {s with heap:=h',toks:=tk}):
  lU (model prog w) A (pyNext (.ref z)) Q E s:=by
 have hT:s.TypeIs (.ref z) "zip":=⟨_,hz,rfl⟩;unfold pyNext;refine lg (wpAny_attempt (wpAny_callSpecial?_slot (name:=rm "__next__") hT p5 (wpAny_call_entry p5 hT rO ?_ (rq _))));exact zkC_ D1 D2 ap hz cO cM bX bx l1 l2 λx y h' tk p1 p2 q1 q2 q3 q4 q5 q6 q7=>lK (hQ x y h' tk p1 p2 q1 q2 q3 q4 q5 q6 q7)
theorem zoc_ {Q:Option aT->ll->Prop}(D1:Draws prog w A.in1 i f n1 P1 S1)(D2:Draws prog w A.in1 j g n2 P2 S2)(ap:ZpAp z ti to i j f g)
  (hz:IsZip s.heap z ti to .none) (cO:om s.heap ti (.ref i) (.ref j)) (cM:om s.heap to a b) (bX:S1 k s.heap) (bx:S2 k s.heap) (l1:k=n1\/k<n1/\k=n2)
  (hQ:∀h' tk,(∀c o,c≠z->c≠to->c≠i->c≠j->s.heap.get? c=uD o->h'.get? c=uD o)->Q uE {s with heap:=h',toks:=tk}):lU (model prog w) A (pyNext (.ref z)) Q E s:=by
 have hT:s.TypeIs (.ref z) "zip":=⟨_,hz,rfl⟩;unfold pyNext;refine lg (wpAny_attempt (wpAny_callSpecial?_slot (name:=rm "__next__") hT p5 (wpAny_call_entry p5 hT rO ?_ (rq _))));refine zlX_ D1 D2 ap hz cO cM bX bx l1 λh' e tk hk he=>?_
 obtain⟨o,ho,hc⟩:=he;exact lg (wpAny_isInstance (s:={s with heap:=h',toks:=tk}) (T:="StopIteration") (b:=uF) ⟨o,ho,hc⟩ isSubtype_stop (lK (hQ _ _ hk)))
end
noncomputable def strIt (x:Str)(t:Tok):tP:={cls:=.type (mi x),data:=.fields #[.str x t,.int 0 0]}
theorem zgL_ {prog:lY}{w:mq}{A:mG}{E:aT->ll->Prop}{s:ll}{x:Str}{t:Tok}{Q:aT->ll->Prop}(h:Q (.ref s.heap.objs.size) {s with heap:=s.heap.push (strIt x t)}):lU (model prog w) A (pyIter (.str x t)) Q E s:=by
 unfold strIt at h;cases ha:x.cps.all (·<128)
 ·rw[show mi x="str_iterator" by simp[mi,ha]]at h;exact wpAny_pyIter_wide ha h
 ·rw[show mi x="str_ascii_iterator" by simp[mi,ha]]at h;exact wpAny_pyIter_ascii ha h
noncomputable abbrev zp1 (h:Heap)(l:lu):Heap:=h.push {cls:=.type "list_iterator",data:=.fields #[.ref l,.int 0 0]}
abbrev zp2 (h:Heap)(l:lu)(x:Str)(t:Tok):Heap:=(zp1 h l).push (strIt x t)
abbrev zp3 (h:Heap)(l:lu)(x:Str)(t:Tok):Heap:=(zp2 h l x t).push {cls:=.type "tuple",data:=.seq #[.ref h.objs.size,.ref (zp1 h l).objs.size]}
abbrev zp4 (h:Heap)(l:lu)(x:Str)(t:Tok):Heap:=(zp3 h l x t).push {cls:=.type "tuple",data:=.seq #[.none,.none]}
abbrev zp5 (h:Heap)(l:lu)(x:Str)(t:Tok):Heap:=(zp4 h l x t).push {cls:=.type "zip",data:=.fields #[.none,.bool uG,.bool uG,.ref (zp2 h l x t).objs.size,.ref (zp3 h l x t).objs.size]}
theorem mt_zp (l:lu)(x:Str)(t:Tok)(xs:Array aT):
  Meets (tm.«zip.__new__» ⟨[.type "zip",.ref l,.str x t],[]⟩) (λ_ R s=>s.heap.IsList l xs/\R (.ok (.ret (.ref (zp4 s.heap l x t).objs.size))) {s with heap:=zp5 s.heap l x t}):=
 .of_wp λprog w A R s h=>by
  obtain⟨hp,g,d,tk,os⟩:=s;obtain⟨fI,h⟩:=h;have ju:=sub_zip;have h1:Heap.IsList (Shared.heap ⟨hp,g,d,tk,os⟩) l xs:=fI
  wp_walk using wpAny_pyIter_list h1,zgL_
  exact⟨_,rfl,h⟩
section
variable {prog:lY}{w:mq}{A:mG}{E:aT->ll->Prop}{s:ll}
theorem zoA_ {l:lu}{x:Str}{t:Tok}{xs:Array aT}{Q:aT->ll->Prop}(hl:s.heap.IsList l xs)
  (h:∀h',IsZip h' (s.heap.objs.size+4) (s.heap.objs.size+2) (s.heap.objs.size+3) .none->om h' (s.heap.objs.size+2) (.ref s.heap.objs.size) (.ref (s.heap.objs.size+1)) ->
   om h' (s.heap.objs.size+3) .none .none->h'.IsListIter s.heap.objs.size l 0->h'.IsStrIter (s.heap.objs.size+1) (mi x) x t 0 ->
   (∀c o,s.heap.get? c=uD o->h'.get? c=uD o)->Q (.ref (s.heap.objs.size+4)) {s with heap:=h'}):
  lU (model prog w) A (call (.type "zip") [.ref l,.str x t]) Q E s:=by
 refine callType_new F.called_zip (by decide) (F.typeCall_zip_2 _ _) (F.newCall_zip_2 _ _) (λobj=>F.args_object_init_3 obj _ _) F.entry_zip_new (mt_zp l x t xs) ⟨hl,?_⟩
 have n1:(zp1 s.heap l).objs.size=s.heap.objs.size+1:=nY ..;have n2:(zp2 s.heap l x t).objs.size=s.heap.objs.size+2:=by rw[nY,n1]
 have n3:(zp3 s.heap l x t).objs.size=s.heap.objs.size+3:=by rw[nY,n2]
 have n4:(zp4 s.heap l x t).objs.size=s.heap.objs.size+4:=by rw[nY,n3]
 have up:∀c o,(zp2 s.heap l x t).get? c=uD o->(zp5 s.heap l x t).get? c=uD o:=λc o e=>lh _ (lh _ (lh _ e))
 have g5:(zp5 s.heap l x t).get? (zp4 s.heap l x t).objs.size=uD _:=lI _ rfl;have g4:(zp5 s.heap l x t).get? (zp3 s.heap l x t).objs.size=uD _:=lh _ (lI _ rfl);have g3:(zp5 s.heap l x t).get? (zp2 s.heap l x t).objs.size=uD _:=lh _ (lh _ (lI _ rfl));have g2:(zp5 s.heap l x t).get? (zp1 s.heap l).objs.size=uD _:=up _ _ (lI _ rfl);have g1:(zp5 s.heap l x t).get? s.heap.objs.size=uD _:=up _ _ (lh _ (lI _ rfl));show _/\_
 rw[n2,n3,n4]at g5;rw[n1,n2]at g3;rw[n3]at g4;rw[n1]at g2;rw[n4];exact⟨⟨_,g5,rfl⟩,h _ g5 g3 g4 ⟨_,g1,rfl,rfl⟩ ⟨_,g2,rfl,rfl⟩ λc o e=>up c o (lh _ (lh _ e))⟩
end
def ItzS (K:Fgg)(l:lu)(n:Nat)(f:Nat->V):It:=
 ⟨λi H=>∃xs x,SqL K H l xs/\xs[i]?=uD x/\i<n,
  λi H v H'=>∃p x,(∀xs,SqL K H l xs->xs[i]?=uD x)/\H p=uE/\v=.ref p/\H'=upd H p (.tup [x,f i]),
  λi H=>∃xs,SqL K H l xs/\(i=xs.length\/i<xs.length/\i=n)⟩
theorem zia_ {P:lY}{w:mq}{K:Fgg}{elts:List lN}{kk:Nat}{pos:Pos}(z ti to i1 i2 l:lu)(t0:Str)(t:Tok)(D:ZpAp z ti to i1 i2 [i1,l] [i2])(fI:l≠i1):
  Turn P w K (.Tuple elts kk pos) (ItzS K l t0.cps.size (sgn t0)) [z,ti,to,i1,i2] z (λi h=>IsZip h z ti to .none/\om h ti (.ref i1) (.ref i2)/\(∃a b,om h to a b)/\h.IsListIter i1 l i/\h.IsStrIter i2 (mi t0) t0 t i) where
 mem:=by simp
 obj:=λi h st b hb=>by
  obtain⟨hz,bS,⟨a,c,b8⟩,⟨o1,ho1,c1,d1⟩,⟨o2,ho2,c2,d2⟩⟩:=st;rcases lC.mp hb with rfl |hb
  ·exact⟨_,hz,λv z=>by cases z⟩
  rcases lC.mp hb with rfl |hb
  ·exact⟨_,bS,λv z=>by cases z⟩
  rcases lC.mp hb with rfl |hb
  ·exact⟨_,b8,λv z=>by cases z⟩
  rcases lC.mp hb with rfl |hb
  ·exact⟨o1,ho1,λv z=>by rw[d1]at z;cases z⟩
  ·have e:b=i2:=by simpa using hb
   subst e;exact⟨o2,ho2,λv z=>by rw[d2]at z;cases z⟩
 keep:=λi h h' st k=>by
  obtain⟨hz,bS,⟨a,c,b8⟩,h1,o2,ho2,r2⟩:=st;exact⟨k z (by simp) _ hz,k ti (by simp) _ bS,⟨a,c,k to (by simp) _ b8⟩,h1.at λo q=>k i1 (by simp) o q,o2,k i2 (by simp) o2 ho2,r2⟩
 item:=by
  intro X hP hw hK hc i pins s σ H E I hf st hg;subst hP hw hK;obtain⟨xs,x,hq,hx,fJ⟩:=hg;obtain⟨aa,rv,p,hz0⟩:=I.list hq;obtain⟨u,hu,ru⟩:=rv.get hx;obtain⟨hz,bS,⟨a,c,b8⟩,h1,h2⟩:=st;have lt:∀{c o},s.heap.get? c=uD o->c<s.heap.objs.size:=λe=>lL e
  have lz:=lt hz;have i9:=lt bS;have i8:=lt b8;have l1:i1<s.heap.objs.size:=by obtain⟨o,e,_⟩:=id h1;exact lt e
  have l2:i2<s.heap.objs.size:=by obtain⟨o,e,_⟩:=id h2;exact lt e
  have eF:i<aa.toArray.size:=by have:=(lD.mp hu).1;simpa using this
  refine zkq_ (Draws.list (A:=X.A.in1) (show X.A.in1.handled=uE from I.ok.hd hc) i1 l fI aa.toArray) (zcl_ (t:=t) X.A.in1 (I.ok.hd hc)) D hz bS b8 ⟨h1,p.isList⟩ h2 eF fJ λu' v h3 tk pu pv z3 ky fY fX iZ kz iC=>?_
  obtain rfl:u'=u:=by
   have e:aa.toArray[i]?=uD u':=pu;rw[qL,hu]at e;exact(mD e).symm
  have bI:RelV (sgn t0 i) v:=zc1_ pv;refine⟨_,rfl,?_⟩;refine wpAny_letOwnedTupleGo_zip (s:={s with heap:=h3,toks:=tk}) z3 λh4 z4 cQ=>?_
  replace cQ:pf z h3 h4:=cQ;have hp:H s.heap.objs.size=uE:=I.hok.fresh (lp _);have I1:Inv X pins σ (upd H s.heap.objs.size (.tup [x,sgn t0 i])) {s with heap:=s.heap.push {cls:=.type "tuple",data:=.seq #[u',v]},toks:=tk}:=by
   refine I.laid (λb u q=>lh _ q) (lp _) ⟨?_,[u',v],.cons ru (.cons bI .nil),⟨_,lI _ rfl,rfl,_,rfl⟩⟩
   show 2<=lE
   decide
  have aA:∀b∈[z,ti,to,i1,i2],b<s.heap.objs.size:=λb hb=>by
   simp only[lC,mR,or_false]at hb;rcases hb with rfl |rfl |rfl |rfl |rfl
   ·exact lz
   ·exact i9
   ·exact i8
   ·exact l1
   ·exact l2
  have eI:∀b∈[z,ti,to,i1,i2],FpOk X pins (upd H s.heap.objs.size (.tup [x,sgn t0 i])) b:=λb hb=>by
   obtain⟨f0,r⟩:=hf b hb;refine⟨?_,r⟩;rw[zR_ (mm (aA b hb))];exact f0
  have I2:Inv X pins σ (upd H s.heap.objs.size (.tup [x,sgn t0 i])) {s with heap:=h4,toks:=tk}:=by
   refine Inv.turnedL (s:={s with heap:=s.heap.push {cls:=.type "tuple",data:=.seq #[u',v]},toks:=tk}) (ch:=[z,ti,to,i1,i2]) I1 (λb o hb q=>?_) eI
   have n1:b≠z:=λe=>hb (by simp[e])
   have n2:b≠to:=λe=>hb (by simp[e])
   have n3:b≠i1:=λe=>hb (by simp[e])
   have n4:b≠i2:=λe=>hb (by simp[e])
   refine(cQ.2 b n1).trans ?_;rcases qP q with⟨rfl,rfl⟩|q'
   ·exact iZ
   ·exact iC b o n1 n2 n3 n4 q'
  refine⟨.ref s.heap.objs.size,_,I2,rfl,⟨s.heap.objs.size,x,λzs dv=>by rw[I.list_inj dv hq];exact hx,hp,rfl,rfl⟩,⟨z4,?_,⟨u',v,?_⟩,?_,?_⟩,λb hb=>(eI b hb).1⟩
  ·exact(cQ.2 ti D.a1).trans (iC ti _ D.a1 D.a5 D.a6 D.a7 bS)
  ·exact(cQ.2 to D.a2).trans ky
  ·exact fY.1.extBut cQ.extBut D.a3
  ·exact fX.extBut cQ.extBut D.a4
 done:=by
  intro X hP hw hK hc i pins s σ H E I hf st hg;subst hP hw hK;obtain⟨xs,hq,hx⟩:=hg;obtain⟨aa,rv,p,hz0⟩:=I.list hq;obtain⟨hz,bS,⟨a,c,b8⟩,h1,h2⟩:=st;have hl:=rv.length;refine zoc_ (Draws.list (A:=X.A.in1) (show X.A.in1.handled=uE from I.ok.hd hc) i1 l fI aa.toArray) (zcl_ (t:=t) X.A.in1 (I.ok.hd hc)) D hz bS b8 ⟨h1,p.isList⟩ h2 (by rw[hl]at hx;simpa using hx) λh' tk eb=>⟨rfl,?_⟩
  exact Inv.turnedL (s:=s) (t':=tk) (ch:=[z,ti,to,i1,i2]) I (λb o hb q=>eb b o (λe=>hb (by simp[e])) (λe=>hb (by simp[e])) (λe=>hb (by simp[e])) (λe=>hb (by simp[e])) q) hf
 self:=λ_ _ _ _ _ st h=>wpAny_pyIter_zip st.1 h
theorem zlC_ {N l:Nat}(hl:l<N):ZpAp (N+4) (N+2) (N+3) N (N+1) [N,l] [N+1]:=by
 have q:∀{a b:Nat},a≠b->(a:lu)≠(b:lu):=λh=>h
 have m1:∀{a b:Nat},a≠b->(a:lu)∉([b]:List lu):=λh e=>h (lO.mp e)
 have m2:∀{a b c:Nat},a≠b->a≠c->(a:lu)∉([b,c]:List lu):=λh1 h2 e=>by
  rcases lC.mp e with e |e
  ·exact h1 e
  ·exact h2 (lO.mp e)
 exact⟨q (by lia),q (by lia),q (by lia),q (by lia),q (by lia),q (by lia),q (by lia),q (by lia),q (by lia),q (by lia),m2 (by lia) (by lia),m1 (by lia),m2 (by lia) (by lia),m1 (by lia),m2 (by lia) (by lia),m1 (by lia)⟩
section
end
section
variable {α:Type}
def OwAll (O:Own α)(F:Hp):List α->List V->Hp->Prop
 |[],[],h=>∀p,h p=uE
 |x::xs,v::vs,h=>∃h1 h2,Jn h1 h2 h/\O.O x v F h1/\OwAll O F xs vs h2
 |_,_,_=>False
variable {O:Own α}
theorem OwAll.mono:∀{xs:List α}{vs:List V}{F F' h:Hp},Same F F'->OwAll O F xs vs h->OwAll O F' xs vs h
 |[],[],_,_,_,_,q=>q
 |x::xs,v::vs,F,F',h,g,q_=>by obtain⟨h1,h2,j,o,r⟩:=q_;exact⟨h1,h2,j,O.mono g o,r.mono g⟩
 |[],_::_,_,_,_,_,q=>q.elim
 |_::_,[],_,_,_,_,q=>q.elim
theorem OwAll.notup:∀{xs:List α}{vs:List V}{F h:Hp},OwAll O F xs vs h->∀p ys,h p≠uD (.tup ys)
 |[],[],_,_,q,p,ys=>by rw[q p];exact λz=>by cases z
 |x::xs,v::vs,F,h,q_,p,ys=>by
  obtain⟨h1,h2,j,o,r⟩:=q_;rcases j p with⟨_,b⟩|⟨_,b⟩
  ·rw[b];exact r.notup p ys
  ·rw[b];exact O.notup o p ys
 |[],_::_,_,_,q,_,_=>q.elim
 |_::_,[],_,_,q,_,_=>q.elim
theorem OwAll.len:∀{xs:List α}{vs:List V}{F h:Hp},OwAll O F xs vs h->xs.length=vs.length
 |[],[],_,_,_=>rfl
 |x::xs,v::vs,F,h,q_=>by obtain⟨h1,h2,j,o,r⟩:=q_;rw[ly,ly,r.len]
 |[],_::_,_,_,q=>q.elim
 |_::_,[],_,_,q=>q.elim
theorem zgX_ {F h1 h:Hp}(d:Dj F h)(s:Same h1 h):Same (un F h1) (un F h):=λp o e=>by
 unfold un at e ⊢;cases z:F p with
 |some w=>rw[z]at e;exact e
 |none=>rw[z]at e;exact s _ _ e
theorem OwAll.prs:∀{xs:List α}{vs:List V}{F h G:Hp},Dj F h->Same (un F h) G->OwAll O F xs vs h->Prs O.fr G xs vs
 |[],[],_,_,_,_,_,_=>.nil
 |x::xs,v::vs,F,h,G,d,g,q_=>by
  obtain⟨h1,h2,j,o,r⟩:=q_;have d1:Dj F h1:=λp=>by
   rcases d p with z |z
   ·exact .inl z
   ·exact .inr (j.l.free z)
  have d2:Dj F h2:=λp=>by
   rcases d p with z |z
   ·exact .inl z
   ·exact .inr (j.r.free z)
  exact .cons (O.fr.mono ((zgX_ d j.l).trans g) (O.frz d1 o)) (r.prs d2 ((zgX_ d j.r).trans g))
 |[],_::_,_,_,_,_,_,q=>q.elim
 |_::_,[],_,_,_,_,_,q=>q.elim
theorem zaL_ {h1 h2 h:Hp}(j:Jn h1 h2 h):Jn h2 h1 h:=λp=>by
 rcases j p with⟨a,b⟩|⟨a,b⟩
 ·exact .inr ⟨a,b⟩
 ·exact .inl ⟨a,b⟩
theorem zn_ {h1 h2 iJ h3 h:Hp}(j:Jn h1 h2 iJ)(k:Jn iJ h3 h):∃iI,Jn h2 h3 iI/\Jn h1 iI h:=by
 have d:Dj h2 h3:=λp=>by
  rcases k.dj p with z |z
  ·exact .inl (j.r.free z)
  ·exact .inr z
 refine⟨un h2 h3,zaQ_ d,λp=>?_⟩
 unfold un;rcases k p with⟨a,b⟩|⟨a,b⟩
 ·refine .inl ⟨j.l.free a,?_⟩
  rw[j.r.free a];exact b
 ·rcases j p with⟨c,e⟩|⟨c,e⟩
  ·refine .inl ⟨c,?_⟩
   rw[b,e];cases z:h2 p with
   |none=>exact a.symm ▸ rfl
   |some w=>rfl
  ·refine .inr ⟨?_,by rw[b,e]⟩
   rw[c];exact a
theorem OwAll.snoc:∀{xs:List α}{vs:List V}{F h:Hp}{x:α}{v:V}{hn:Hp},OwAll O F xs vs h->O.O x v F hn->Dj h hn->OwAll O F (xs++[x]) (vs++[v]) (un h hn)
 |[],[],F,h,x,v,hn,q,o,d=>by
  refine⟨hn,λ_=>uE,λp=>.inr ⟨rfl,?_⟩,o,λ_=>rfl⟩
  unfold un;rw[q p]
 |y::xs,w::vs,F,h,x,v,hn,q_,o,d=>by
  obtain⟨h1,h2,j,o1,r⟩:=q_;obtain⟨m,jm,jh⟩:=zn_ j (zaQ_ d);have d2:Dj h2 hn:=jm.dj;have e:m=un h2 hn:=by
   funext p;unfold un;rcases jm p with⟨a,b⟩|⟨a,b⟩
   ·rw[a];exact b
   ·rw[b]
    cases z:h2 p with
    |none=>exact a.symm ▸ rfl
    |some w=>rfl
  rw[e]at jh;exact⟨h1,_,jh,o1,r.snoc o d2⟩
 |[],_::_,_,_,_,_,_,q,_,_=>q.elim
 |_::_,[],_,_,_,_,_,q,_,_=>q.elim
abbrev owLO (O:Own α):Own (List α):=⟨λxs v F h=>∃p vs h2,v=.ref p/\Jn (one p (.lst vs)) h2 h/\OwAll O F xs vs h2,tyL O.fr,λg ⟨p,vs,h2,e,j,q⟩=>⟨p,vs,h2,e,j,q.mono g⟩,
 λ{a v F h} d ⟨p,vs,h2,e,j,q⟩=>⟨p,vs,e,zeZ_ d _ _ (j.l _ _ zy_),q.prs (λb=>by
  rcases d b with z |z
  ·exact .inl z
  ·exact .inr (j.r.free z)) (zgX_ d j.r)⟩,
 λ⟨p,vs,h2,e,j,q⟩ b xs y=>by
  rcases j b with⟨_,z⟩|⟨_,z⟩
  ·rw[z]at y;exact q.notup b xs y
  ·rw[z]at y;unfold one at y;split at y<;>cases y⟩
end
section
end
def mFld (C:lu)(te:TE)(f:Str):TE:=λσ H Q=>te σ H λx H1=>match x with
 |.ref a=>∃dx fs v,H1 a=uD (.ins C dx fs)/\fs.lookup f=uD v/\Q v H1
 |_=>False
def mSFld (C:lu)(te tv:TE)(f:Str):TS:=λD σ H=>tv σ H λy H1=>te σ H1 λx H2=>match x with
 |.ref a=>∃dx fs,H2 a=uD (.ins C dx fs)/\fs.length<1000/\D.nx σ (upd H2 a (.ins C dx (putF f y fs)))
 |_=>False
def Gk (P:lY)(w:mq)(K:Fgg)(mg:Str->Option aT)(base:Heap)(CX:CXT)(k:Nat)(x:Str)(C:lu)(ps:List Str)(sp:Sp):Prop:=
 ∃f fd,FnOk P w K mg base CX k f fd ps sp/\Mk K C f/\mg x=uD (.ref C)/\Binds K fd ps []
section
variable {X:Cx}{e value o:lN}{f x:Str}{pos pos':Pos}{ta tv:TE}{C:lu}
theorem zme_ (c:Cls X.K C)(n:NoAttr X.K C f)(he:PE X e ta)(hb:attributeBase e f X.env (eval e X.env)=eval e X.env:=by rfl):PE X (.Attribute e f pos) (mFld C ta f):=by
 intro pins s σ H Q I h;refine zmr_ hb (thn (he pins s σ H _ I h) λu s1 ab=>?_)
 obtain⟨x,H1,I1,rx,q1⟩:=ab;cases x with
 |ref a=>
  obtain⟨dx,fs,v,ea,l,q⟩:=q1;obtain rfl:u=mS a:=rx;exact zhT_ I1 ea c n l λu' s2 I2 ru=>⟨v,H1,I2,ru,q⟩
 |_=>exact q1.elim
theorem znS_ (c:Cls X.K C)(n:NoAttr X.K C f)(ha:PE X o ta)(hv:PE X value tv)(hs:swapsWith value (uD (.Attribute o f pos')) pos.line X.env=pure uG:=by rfl):PS X (.Assign [.Attribute o f pos'] value pos) (mSFld C ta tv f):=by
 intro pins s σ H D I h;refine plainObj_wpAny_Assign_Attribute (thn (hv pins s σ H _ I h) λu s1 ⟨y,H1,I1,ry,q⟩=>thn (ha pins s1 σ H1 _ I1 q) λov s2 ab=>?_) hs
 obtain⟨x,H2,I2,rx,q2⟩:=ab;cases x with
 |ref a=>
  obtain⟨dx,fs,ea,l,q3⟩:=q2;obtain rfl:ov=mS a:=rx;exact zg5_ I2 ea c n l ry λs3 I3=>⟨σ,_,I3,q3⟩
 |_=>exact q2.elim
end
theorem zhG_:∀{ns:List Str}{vs:List V}{f:Str}(v:V),f∉ns->vs.length=ns.length->putF f v (ns.zip vs)=(ns++[f]).zip (vs++[v])
 |[],[],f,v,_,_=>rfl
 |[],_::_,_,_,_,h=>by simp at h
 |_::_,[],_,_,_,h=>by simp at h
 |n::ns,w::vs,f,v,h,hl=>by
  have aP:¬n=f:=λz=>h (z ▸ lR ..)
  rw[mh,putF,if_neg aP,zhG_ v (λz=>h (lQ _ z)) (by simpa using hl)];rfl
section
variable {α:Type}
theorem dj_l {F h1 h2 h:Hp}(d:Dj F h)(j:Jn h1 h2 h):Dj F h1:=λp=>by
 rcases d p with z |z
 ·exact .inl z
 ·exact .inr (j.l.free z)
theorem dj_r {F h1 h2 h:Hp}(d:Dj F h)(j:Jn h1 h2 h):Dj F h2:=λp=>by
 rcases d p with z |z
 ·exact .inl z
 ·exact .inr (j.r.free z)
def two (p dx:lu)(o:HO):Hp:=λq=>if q=p then uD o else if q=dx then uD (.own p)else uE
theorem zpH_ {p dx:lu}{o:HO}:two p dx o p=uD o:=if_pos rfl
noncomputable abbrev owAt (u:V)(O:Own α):Own α:=⟨λa v F h=>v=u/\O.O a v F h,O.fr,λg q=>⟨q.1,O.mono g q.2⟩,λd q=>O.frz d q.2,λq=>O.notup q.2⟩
theorem jn_re {b t m a h:Hp}(jm:Jn b t m)(j:Jn a m h):Jn t (un a b) h:=λq=>by
 rcases j q with⟨x,y⟩|⟨x,y⟩
 ·rcases jm q with⟨c,e⟩|⟨c,e⟩
  ·right
   refine⟨by unfold un;rw[x,c],by rw[y,e]⟩
  ·left
   refine⟨c,by unfold un;rw[x,y,e]⟩
 ·left
  refine⟨jm.r.free x,?_⟩;unfold un;rw[y];cases z:a q with
  |none=>exact(jm.l.free x).symm ▸ rfl
  |some w=>rfl
theorem dj_of {a b t m h:Hp}(jm:Jn b t m)(j:Jn a m h):Dj a b:=λq=>by
 rcases j.dj q with z |z
 ·exact .inl z
 ·exact .inr (jm.l.free z)
variable {F0 H0 F h H:Hp}
theorem zdY_ {k:Hp}(ok:Okk F0 H0 F h H)(s:Same k h):Okk F0 H0 F k H:=by
 refine⟨ok.1,λp=>?_,s.trans ok.2.2.1,λp z=>ok.2.2.2.1 p λy=>z (s.free y),λp xs z=>ok.2.2.2.2 p xs (s _ _ z)⟩
 rcases ok.2.1 p with z |z
 ·exact .inl z
 ·exact .inr (s.free z)
theorem ziL_ {h:Hp}(p:lu)(z:h p≠uE):less H h p=uE:=by
 unfold less;cases y:h p with
 |none=>exact absurd y z
 |some w=>rfl
theorem zoa_:Same (less H h) H:=λp o z=>by
 unfold less at z;split at z
 ·exact z
 ·cases z
theorem zcc_ (hs:Same F H)(dj:Dj F h)(hh:Same h H)(nt:∀p xs,h p≠uD (.tup xs)):Okk F (less H h) F h H:=by
 refine⟨⟨Same.refl _,hs,zoa_,λp a b=>absurd a b⟩,dj,hh,λp z=>ziL_ p z,nt⟩
end
noncomputable def splitG (sep l:List Nat):List (List Nat):=(Txt.split ⟨l.toArray⟩ ⟨sep.toArray⟩).map λp=>p.cps.toList
section
variable {X:Cx}
def mSplitG:V->List V->Hp->VK->Prop:=λx xs H Q=>match x,xs with
 |.str l,[.str y]=>l.cps.toList.length<=100000/\y.cps.toList≠[]/\∀p,H p=uE->Q (.ref p) (upd H p (.lst ((splitG y.cps.toList l.cps.toList).map tx)))
 |_,_=>False
def mTrL (K:Fgg)(t:TE):TT:=λσ H Q=>t σ H λx H'=>match x with
 |.bl k=>Q k H'
 |.ref a=>∃xs,SqL K H' a xs/\Q (!xs.isEmpty) H'
 |_=>False
theorem zpM_ {e:lN}{t:TE}(h:PE X e t)(he:∀whole,isTrue e X.env whole=(do let v <- whole;standAt e.pos;holding [v] (truthy v)):=by intro _;rfl):PT X e (mTrL X.K t):=by
 intro pins s σ H Q I hw;refine isTrue_plain (thn (h pins s σ H _ I hw) λv s1 ab=>?_) (he _)
 obtain⟨x,H1,I1,r1,q1⟩:=ab;cases x with
 |bl c=>cases r1;exact mr ⟨H1,I1,q1⟩
 |ref a=>
  cases r1;obtain⟨xs,hq,q⟩:=q1;obtain⟨aa,rv,p,hz⟩:=I1.list hq;have hl:=rv.length;refine wpAny_truthy_list p.isList (by rw[lx,<- hl];rw[sizeLine_eq]at hz;lia) ?_
  have e:aa.isEmpty=xs.isEmpty:=by cases rv<;>rfl
  refine⟨H1,I1.tok _,?_⟩
  simpa [e]using q
 |_=>exact q1.elim
end
section
variable {K:Fgg}{E:XK}{α β:Type}{F0 H0 F h:Hp}{L:List Sl}{e te:TE}{T:Ty α}{r:Mo α}{t:TS}{σ:St}{f m:Str}{i n w j:Nat}
theorem zj5_ {lv:List Str}{fr:List (Str×Nat)}{wi:TI}{g:TG}{tt:TT}{te:TE}{r:Mo (List α)}{ss:α->List (Nat×Sl)}{c:α->Mo Bool}{f:α->Mo β}{O':Own β}
  (hi:EvI K wi E L r T) (hg:TgR K g T ss) (hd:∀a,DeadAt (cL lv fr L) ((ss a).map (·.1))) (ht:∀a,EvT K tt E0 (setL (cL lv fr L) (ss a)) (c a)) (he:∀a,EvO K te E0 (setL (cL lv fr L) (ss a)) (f a) O'):
  EvO K (tComp lv fr wi g tt te) E L (r.bind λxs=>compM (λx=>cond1 (c x) (f x)) xs []) (owLO O'):=by
 intro σ F0 H0 Q hL hs q;refine hi σ F0 H0 _ hL hs (q.bind.imp λxs F1 H1 x1 k1 J Y D hD=>?_)
 have ao:=hL.mono x1.1
 refine⟨λi m ys af H'=>m=xs.length-i/\i<=xs.length/\∃acc Fi hh,Ext F1 H1 Fi H'/\Fi D=uE/\hh D=uE/\H' D=uD (.lst ys)/\OwAll O' Fi acc ys hh/\Dj Fi hh/\Same hh H'/\(∀p,hh p≠uE->H1 p=uE)/\HoldF (cL lv fr L) af F1/\af.length=(cL lv fr L).length/\After K (compM (λx=>cond1 (c x) (f x)) (xs.drop i) acc) E F1 H1 (OwnK (owLO O') H0 Q),
  ⟨_,rfl,ny _,[],F1,λ_=>uE,.heap x1.2.1 (zay_ hD _),x1.2.1.free hD,rfl,zH_,λ_=>rfl,λ_=>.inr rfl,(λp o z=>by cases z),λp z=>absurd rfl z,zgb_ ao,zkR_.symm,k1⟩,?_⟩
 rintro i m ys af H' ⟨rfl,hi,acc,Fi,hh,xi,hDi,hDh,hy,hp,dj,sh,fresh,hσ,cj,A⟩;by_cases aA:i<xs.length
 ·right
  have ex:xs[i]?=uD xs[i]:=lj aA;obtain⟨g1,g2⟩:=Y.go i H' xs[i] (xi.1.trans xi.2.1) ex;refine⟨g1,λcb cF df=>i+1<=xs.length/\∃acc Fi hh,Ext F1 H1 Fi df/\Fi D=uE/\hh D=uE/\df D=uD (.lst cb)/\OwAll O' Fi acc cb hh/\Dj Fi hh/\Same hh df/\(∀p,hh p≠uE->H1 p=uE)/\HoldF (cL lv fr L) cF F1/\cF.length=(cL lv fr L).length/\After K (compM (λx=>cond1 (c x) (f x)) (xs.drop (i+1)) acc) E F1 H1 (OwnK (owLO O') H0 Q),λcb cF df z=>⟨xs.length-(i+1),by omega,rfl,z⟩,λv H2 je=>?_⟩
  obtain⟨F2,x2,hv⟩:=g2 v H2 je Fi xi.1 xi.2.1;have keep:∀{Fa Ha Fb Hb:Hp},Ext Fa Ha Fb Hb->Fa D=uE->Ha D=uD (.lst ys)->Dj Fa hh->Same hh Ha->(Fb D=uE/\Hb D=uD (.lst ys))/\Dj Fb hh/\Same hh Hb:=by
   intro Fa Ha Fb Hb x h1 h2 h3 h4;refine⟨⟨?_,x.2.2.1 _ _ h2⟩,λp=>?_,h4.trans x.2.2.1⟩
   ·cases z:Fb D with
    |none=>rfl
    |some o=>have:=x.2.2.2 D h1 (by rw[z];exact sN _);rw[h2]at this;cases this
   ·cases y:hh p with
    |none=>exact .inr rfl
    |some w=>
     left;rcases h3 p with z |z
     ·cases zz:Fb p with
      |none=>rfl
      |some o=>have:=x.2.2.2 p z (by rw[zz];exact sN _);rw[h4 _ _ y]at this;cases this
     ·rw[z]at y;cases y
  obtain⟨⟨j3,hy2⟩,gV,sh2⟩:=keep x2 hDi hy dj sh;refine hg xs[i] v af F2 H2 _ x2.2.1 hv λvs av=>?_
  have f7:HoldF (cL lv fr L) af F2:=hσ.mono (xi.1.trans x2.1);obtain⟨a1,a2,a3⟩:=zfA_ av cj.symm f7;have dW:HoldF (cL lv fr L) (setS af vs) F1:=by
   have eQ:=hd xs[i];refine λj s e=>?_
   by_cases hj:∃q∈(ss xs[i]).map (·.1),q=j
   ·obtain⟨q,hq,rfl⟩:=hj
    rw[eQ q hq s e];trivial
   ·have:((setS af vs)[j]?)=af[j]?:=zj3_ av (λhq=>hj ⟨j,hq,rfl⟩)
    rw[this];exact hσ j s e
  have eL:xs.drop i=xs[i]::xs.drop (i+1):=qd aA;rw[eL]at A;unfold compM at A;cases ec:c xs[i]with
  |no=>unfold cond1 at A;rw[ec]at A;exact A.elim
  |ex cc=>unfold cond1 at A;rw[ec]at A;exact A.elim
  |ok bb=>
   refine ht xs[i] _ F2 H2 _ a1 x2.2.1 ?_;rw[ec];intro F3 H3 x3;obtain⟨⟨iH,hy3⟩,dj3,sh3⟩:=keep x3 j3 hy2 gV sh2;have fP:=(xi.trans x2).trans x3;cases bb with
   |false=>
    rw[if_neg (by decide)]
    refine⟨aA,acc,F3,hh,fP,iH,hDh,hy3,hp.mono (x2.1.trans x3.1),dj3,sh3,fresh,dW,by rw[a2];exact cj,?_⟩
    unfold cond1 at A;rw[ec]at A;exact A
   |true=>
    rw[if_pos rfl];cases ef:f xs[i]with
    |no=>unfold cond1 at A;rw[ec,ef]at A;exact A.elim
    |ex cc=>unfold cond1 at A;rw[ec,ef]at A;exact A.elim
    |ok y=>
     unfold cond1 at A;rw[ec,ef]at A;have A':After K (Mo.lim (acc.length+1) (compM (λx=>cond1 (c x) (f x)) (xs.drop (i+1)) (acc++[y]))) E F1 H1 (OwnK (owLO O') H0 Q):=A
     obtain⟨hz,A'⟩:=A'.lim;refine he xs[i] _ F3 H3 _ (a1.mono x3.1) x3.2.1 ?_;rw[ef];intro F4 H4 x4 v4 hn gN gU iW dz;obtain⟨⟨iG,hy4⟩,kq,sh4⟩:=keep x4 iH hy3 dj3 sh3;have hlen:=hp.len;have iA:hn D=uE:=by
      cases z:hn D with
      |none=>rfl
      |some w=>have:=gN D (by rw[z];exact sN _);rw[hy3]at this;cases this
     have kn:Dj hh hn:=λp=>by
      cases z:hn p with
      |none=>exact .inr rfl
      |some w=>exact .inl (sh3.free (gN p (by rw[z];exact sN _)))
     have fj:=fP.trans x4;refine⟨hy4,by omega,aA,acc++[y],F4,un hh hn,?_,iG,by unfold un;rw[hDh];exact iA,zH_,(hp.mono ((x2.1.trans x3.1).trans x4.1)).snoc dz kn,λp=>?_,λp o z=>?_,λp z=>?_,dW,by rw[a2];exact cj,A'⟩
     ·refine⟨fj.1,λb o z=>?_,λb o z=>?_,fj.2.2.2⟩
      ·unfold upd;split
       ·rename_i w;rw[w,iG]at z;cases z
       ·exact fj.2.1 _ _ z
      ·unfold upd;split
       ·rename_i w;rw[w,hD]at z;cases z
       ·exact fj.2.2.1 _ _ z
     ·unfold un
      cases z:hh p with
      |some w=>
       rcases kq p with y |y
       ·exact .inl y
       ·rw[y]at z;cases z
      |none=>exact gU p
     ·have jw:p≠D:=λw=>by
       unfold un at z;rw[w,hDh,iA]at z;cases z
      unfold upd;rw[if_neg jw];unfold un at z;cases w:hh p with
      |some o'=>rw[w]at z;cases z;exact sh4 _ _ w
      |none=>rw[w]at z;exact iW _ _ z
     ·unfold un at z
      cases w:hh p with
      |some o'=>exact fresh p (by rw[w];exact sN _)
      |none=>rw[w]at z;exact fP.2.2.1.free (gN p z)
 ·left
  have e:i=xs.length:=by omega
  subst e;refine⟨Y.stop H' (xi.1.trans xi.2.1),?_⟩;rw[pU]at A;have A':OwnK (owLO O') H0 Q acc Fi H':=A Fi H' xi;have dD:Dj (one D (.lst ys)) hh:=λp=>by
   unfold one;split
   ·rename_i w;rw[w];exact .inr hDh
   ·exact .inl rfl
  refine A' (.ref D) (un (one D (.lst ys)) hh) (λp z=>?_) (λp=>?_) (λp o z=>?_) ⟨D,ys,hh,rfl,zaQ_ dD,hp⟩
  ·unfold un one at z
   by_cases w:p=D
   ·rw[w];exact x1.2.2.1.free hD
   ·simp only[if_neg w]at z;exact x1.2.2.1.free (fresh p z)
  ·by_cases w:p=D
   ·rw[w];exact .inl hDi
   ·unfold un one;simp only[if_neg w];exact dj p
  ·unfold un one at z
   by_cases w:p=D
   ·simp only[if_pos w]at z;rw[w];cases z;exact hy
   ·simp only[if_neg w]at z;exact sh _ _ z
section
open PySem PySem.Spec PyProof.Rows PySem.W
end
theorem zp_ {α:Type}{us:List α}{n:Nat}(h:us.length=n+1):∃a t,us=a::t/\t.length=n:=by
 cases us with
 |nil=>cases h
 |cons a t=>exact⟨a,t,rfl,mZ h⟩
theorem Fun.binds1 {x qual:Str}{st:me}{f:lu}{fd:mW}{ps:List Str}(hp:ps.length=1)(F:Fun K x qual st f fd)(h:∀(kV doc pm:aT) (an:Option lu) (ah ct:aT) (ua:aT),bindArgs (W.fnOf x qual (defArgs st) (defBody st) (defScope st) .none kV doc pm an ah ct) ⟨[ua],[]⟩=pure (ps.zip [ua])):Binds K fd ps []:=by
 refine F.binds λkV doc pm an ah ct us hl=>?_
 have h0:=hl.trans hp;obtain⟨ua,t1,rfl,h1⟩:=zp_ h0;cases ml.mp h1;exact h kV doc pm an ah ct ua
theorem Fun.binds2 {x qual:Str}{st:me}{f:lu}{fd:mW}{ps:List Str}(hp:ps.length=2)(F:Fun K x qual st f fd)(h:∀(kV doc pm:aT) (an:Option lu) (ah ct:aT) (ua ub:aT),bindArgs (W.fnOf x qual (defArgs st) (defBody st) (defScope st) .none kV doc pm an ah ct) ⟨[ua,ub],[]⟩=pure (ps.zip [ua,ub])):Binds K fd ps []:=by
 refine F.binds λkV doc pm an ah ct us hl=>?_
 have h0:=hl.trans hp;obtain⟨ua,t1,rfl,h1⟩:=zp_ h0;obtain⟨ub,t2,rfl,h2⟩:=zp_ h1;cases ml.mp h2;exact h kV doc pm an ah ct ua ub
theorem Fun.binds3 {x qual:Str}{st:me}{f:lu}{fd:mW}{ps:List Str}(hp:ps.length=3)(F:Fun K x qual st f fd)(h:∀(kV doc pm:aT) (an:Option lu) (ah ct:aT) (ua ub uc:aT),bindArgs (W.fnOf x qual (defArgs st) (defBody st) (defScope st) .none kV doc pm an ah ct) ⟨[ua,ub,uc],[]⟩=pure (ps.zip [ua,ub,uc])):Binds K fd ps []:=by
 refine F.binds λkV doc pm an ah ct us hl=>?_
 have h0:=hl.trans hp;obtain⟨ua,t1,rfl,h1⟩:=zp_ h0;obtain⟨ub,t2,rfl,h2⟩:=zp_ h1;obtain⟨uc,t3,rfl,h3⟩:=zp_ h2;cases ml.mp h3;exact h kV doc pm an ah ct ua ub uc
theorem Fun.binds4 {x qual:Str}{st:me}{f:lu}{fd:mW}{ps:List Str}(hp:ps.length=4)(F:Fun K x qual st f fd)(h:∀(kV doc pm:aT) (an:Option lu) (ah ct:aT) (ua ub uc ud:aT),bindArgs (W.fnOf x qual (defArgs st) (defBody st) (defScope st) .none kV doc pm an ah ct) ⟨[ua,ub,uc,ud],[]⟩=pure (ps.zip [ua,ub,uc,ud])):Binds K fd ps []:=by
 refine F.binds λkV doc pm an ah ct us hl=>?_
 have h0:=hl.trans hp;obtain⟨ua,t1,rfl,h1⟩:=zp_ h0;obtain⟨ub,t2,rfl,h2⟩:=zp_ h1;obtain⟨uc,t3,rfl,h3⟩:=zp_ h2;obtain⟨ud,t4,rfl,h4⟩:=zp_ h3;cases ml.mp h4;exact h kV doc pm an ah ct ua ub uc ud
end
section
variable {K:Fgg}
noncomputable def rngD (hi:Int)(n:Nat):List Int:=(lH n).map λ(i:Nat)=>hi+i*(-1)
theorem zoe_ {hi:Int}{n:Nat}{F1:Hp}:Yl K (Itp n λk=>.int (hi+k*(-1))) (rngD hi n) tyInt F1:=by
 refine⟨λi H x hH hx=>?_,λH hH=>?_⟩
 ·unfold rngD at hx
  rw[lB]at hx;cases e:(lH n)[i]? with
  |none=>rw[e]at hx;cases hx
  |some c=>
   rw[e]at hx;cases hx;obtain⟨hi,e⟩:=lD.mp e;rw[pJ]at e;subst e;rw[lJ]at hi;refine⟨hi,?_⟩;rintro v H' ⟨rfl,rfl⟩ F _ hF;exact⟨F,.refl hF,rfl⟩
 ·show n<=_
  unfold rngD;rw[k8,lJ];exact lp _
end
section
variable {κ:Type}[DecidableEq κ]
end
section
end
def Itv (K:Fgg)(a:lu)(n:Nat):It:=
 ⟨λi H=>∃xs,SqL K H a xs/\xs.length=n/\i<n,λi H x H'=>H'=H/\∀xs,SqL K H a xs->xs[n-1-i]?=uD x,λi H=>n<=i⟩
theorem zj6_ {P:lY}{w:mq}{K:Fgg}{tg:lN}(a it:lu)(n:Nat):Turn P w K tg (Itv K a n) [it] it (λi h=>i<=n/\h.IsRevIter it a ((n:Int)-1-(i:Int))) where
 mem:=by simp
 obj:=λi h st b hb=>by
  have e:b=it:=by simpa using hb
  subst e;obtain⟨_,o,e,c,d⟩:=st;exact⟨o,e,λv z=>by rw[d]at z;cases z⟩
 keep:=λi h h' st k=>⟨st.1,st.2.at λo e=>k it (by simp) o e⟩
 item:=by
  intro X hP hw hK hc i pins s σ H E I hf st hg;subst hP hw hK;obtain⟨xs,hq,hn,hi⟩:=hg;obtain⟨aa,rv,p,hz⟩:=I.list hq;obtain⟨x,hx⟩:∃x,xs[n-1-i]?=uD x:=⟨_,lj (by lia)⟩
  obtain⟨u,hu,ru⟩:=rv.get hx;obtain⟨f0,f1,f2,f3,f4,f5⟩:=hf it (by simp)
  have e:(n:Int)-1-(i:Int)=((n-1-i:Nat):Int):=by lia
  have e2:((n-1-i:Nat):Int)-1=(n:Int)-1-((i+1:Nat):Int):=by lia
  have hit:=st.2;rw[e]at hit;refine wpAny_pyNext_rev_item hit p.isList (x:=u) (by simpa using hu) λh' aK sb=>?_
  rw[e2]at aK;have I1:Inv X pins σ H {s with heap:=h'}:=I.turned (t':=s.toks) (λb o hb e=>(sb.2 b hb).trans e) f0 f1 f3 f4 f5
  obtain⟨o,eo,c,d⟩:=id aK;exact⟨u,rfl,znl_ (s:={s with heap:=h'}) eo c d (by decide) ⟨x,H,I1,ru,⟨rfl,λys hy=>by rw[I.list_inj hy hq];exact hx⟩,⟨hi,aK⟩,λb hb=>(hf b hb).1⟩⟩
 done:=by
  intro X hP hw hK hc i pins s σ H E I hf st hg;subst hP hw hK;obtain⟨f0,f1,f2,f3,f4,f5⟩:=hf it (by simp)
  have hi:n<=i:=hg;have ei:i=n:=qH st.1 hi;subst ei;have e:(i:Int)-1-(i:Int) = -1:=by lia
  have hit:=st.2;rw[e]at hit;exact wpAny_pyNext_rev_end (I.ok.hd hc) hit λh' eb=>⟨rfl,I.turned (t':=s.toks) (λb o hb e=>eb b o hb e) f0 f1 f3 f4 f5⟩
 self:=λ_ _ _ _ _ st h=>wpAny_pyIter_revIter st.2 h
def iRev (K:Fgg)(ta:TA):TI:=λσ H R=>ta σ H λvs H1=>match vs with
 |[.ref a]=>∃xs,SqL K H1 a xs/\R (Itv K a xs.length) H1
 |_=>False
section
variable {X:Cx}{tg:lN}
theorem zrE_ {a:lN}{ta:TA}{p pos:Pos}(hm:Gb X.mg "reversed")(ha:PA X [a] ta)(hg:Gl X "reversed":=by rfl)(hs:l7 [a] X.env=[(uG,eval a X.env)]:=by rfl):
  PI X tg (.Call (.Name "reversed" p) [a] [] pos) (iRev X.K ta):=by
 intro pins s σ H R I h;refine Call_ (zdq_ I hg hm (u:=.type "reversed") (by rfl) (mP (thn (ha pos pins s σ H _ I h) λus s1 ab=>?_) hs rfl))
 obtain⟨vs,H1,I1,r1,q1⟩:=ab
 try dsimp only at q1
 split at q1
 ·rename_i l
  obtain⟨xs,hq,q⟩:=q1;cases r1 with
  |cons r rr=>
   cases rr;cases r;obtain⟨aa,rv,p,hz⟩:=I1.list hq;refine call_reversed_list p.isList ?_;have hl:(aa.toArray.size:Int)-1=(xs.length:Int)-1-((0:Nat):Int):=by
    have:=rv.length;simp;lia
   have hit:Heap.IsRevIter (s1.heap.push (revObj l ((aa.toArray.size:Int)-1))) s1.heap.objs.size l ((xs.length:Int)-1-((0:Nat):Int)):=⟨_,lI _ rfl,rfl,by rw[<- hl];rfl⟩
   refine wpAny_pyIter_revIter (s:={s1 with heap:=s1.heap.push (revObj l ((aa.toArray.size:Int)-1))}) hit ?_;refine⟨s1.heap.objs.size,[s1.heap.objs.size],_,_,H1,rfl,I1.kept (t':=s1.toks) λb o e=>lh _ e,zj6_ l _ xs.length,⟨ny _,hit⟩,λb hb=>?_,q⟩
   have e:b=s1.heap.objs.size:=by simpa using hb
   subst e;exact I1.fpOk (lp _) (I1.hok.fresh (lp _))
 ·exact q1.elim
end
def mSetD (td ty tz:TE):TE:=λσ H Q=>td σ H λx H1=>(match x with |.ref a=>∃kvs,H1 a=uD (.dK kvs)|_=>False)/\ty σ H1 λy H2=>tz σ H2 λz H3=>atD x y H3 λa kvs k=>
 match valV kvs k with |some v=>Q v H3 |none=>kvs.length<lE/\Q z (upd H3 a (.dK (putK kvs k z)))
section
variable {X:Cx}{o e f:lN}{apos ak:Pos}{td ty tz:TE}
theorem zkn_ (hu:X.A.units+60<cLine)(ho:PE X o td)(he:PE X e ty)(hf:PE X f tz)(m:M2 X o "setdefault" apos e f ak:=by exact⟨rfl,rfl,rfl,rfl⟩):PE X (.Call (.Attribute o "setdefault" apos) [e,f] [] ak) (mSetD td ty tz):=by
 intro pins s σ H Q I h;refine wpAny_Call_method m.base m.few m.line PySem.F.plainAttrs_dict p6 PySem.F.type_dict_setdefault (thn (ho pins s σ H _ I h) λu s1 ab=>?_)
 obtain⟨x,H1,I1,rx,hx,q1⟩:=ab;cases x with
 |ref a=>
  obtain⟨fV,hd0⟩:=hx;obtain rfl:u=mS a:=rx;obtain⟨t1,t2,_⟩:=zri_ I1 (.inl ⟨fV,.inl hd0⟩);refine⟨t1,t2,?_⟩;rw[m.trees];refine Calls.callWith_builtin rfl (Calls.evalArgs_plain (Calls.spliced_cons (thn (he pins s1 σ H1 _ I1 q1) λiv s2 ⟨y,H2,I2,ry,q2⟩=>
   Calls.spliced_cons (thn (hf pins s2 σ H2 _ I2 q2) λfv s3 ⟨z,H3,I3,rz,q3⟩=>Calls.spliced_nil ?_))))
  obtain⟨a',kvs,k,ea,rfl,hd,q⟩:=zhj_ q3;cases ea;obtain⟨hz,hsys,vs,rel,dd⟩:=dk_of I3.hok hd;have i_:vs.length<=lE:=by rw[<- rel.length];exact hz
  have rk:=rel.val k;refine call_meetsIn p6 dd.typeIs PySem.F.entry_dict_setdefault (PySem.F.args_dict_setdefault_3 _ _ _) (kt_meets_setdefault (mixKind X.prog X.w) a (zlD_ ry) hsys fv) ⟨vs,dd,i_,λv hv=>?_,λhn h' dc hs=>?_⟩
  ·rw[hv]at rk
   cases g:valV kvs k with
   |none=>rw[g]at rk;exact rk.elim
   |some v0=>rw[g]at rk q;exact⟨v0,H3,I3.tok _,rk,q⟩
  ·rw[hn]at rk
   cases g:valV kvs k with
   |some v0=>rw[g]at rk;exact rk.elim
   |none=>
    rw[g]at q;have hl:(putK kvs k z).length<=lE:=by have:=zbX_ kvs k z;have:=q.1;lia
    have hq:∃q,h'.get? a=uD q:=let⟨q,_,_,hq,_⟩:=dc;⟨q,hq⟩
    exact⟨z,_,zhb_ I3 (by rw[hd];exact nX) hs hq (zm0_ hl hsys (rel.put k rz) dc),rz,q.2⟩
 |_=>exact hx.elim
end
section
variable {κ:Type}[DecidableEq κ]
end
section
end
section
variable {κ:Type}
variable [DecidableEq κ]
end
section
variable {κ:Type}[DecidableEq κ]
end
section
end
def Fi (K:Fgg)(x q:Str)(st:me)(f:lu):Prop:=∃(oc:aT) (od:Option lu) (kV doc pm:aT) (an:Option lu) (ah ct:aT) (aj:Array (Option aT)),
 K.lookup f=uD ⟨oc,od,.func (W.fnOf x q (defArgs st) (defBody st) (defScope st) .none kV doc pm an ah ct),aj⟩/\pX K ah q=uF/\oI K (.ref f)=uF
def Fg (K:Fgg)(x:Str)(st:me):Prop:=∃f,nP K lS x=uD (uD (.ref f))/\Fi K x x st f
def Fm (K:Fgg)(c m q:Str)(st:me):Prop:=∃cw f,nP K lS c=uD (uD (.ref cw))/\nW K (.ref cw) m=uD (uD (.ref f))/\sZ K (.ref f)=uF/\Fi K m q st f
def Fc (K:Fgg)(c:Str):Prop:=∃cw,nP K lS c=uD (uD (.ref cw))/\qy K cw sO=uF/\qe K cw=uF/\qO K cw=uF /\
 nW K (.ref cw) "__setattr__"=uD (uD (.builtin "object.__setattr__"))/\rF K cw=uF/\oI K (.ref cw)=uF
def Fa (K:Fgg)(c a:Str):Prop:=∃cw,nP K lS c=uD (uD (.ref cw))/\nW K (.ref cw) a=uD uE
def Fb (K:Fgg)(x:Str):Prop:=nP K lS x=uD uE
def Fv (K:Fgg)(x:Str)(v:V):Prop:=∃u,nP K lS x=uD (uD u)/\RelV v u
def Fk (K:Fgg)(x:Str):Prop:=∃c,nP K lS x=uD (uD (.ref c))
def Mgo (K:Fgg)(mg:Str->Option aT):Prop:=∃h:Heap,K.In h/\h.Ns lS mg
section
variable {P:lY}{w:mq}{K:Fgg}{mg:Str->Option aT}{base:Heap}{CX:CXT}{x q c m a:Str}{st:me}{f:lu}{fd:mW}{ps:List Str}{k:Nat}{sp:Sp}{v:V}
theorem Fg.mk_ {oc:aT}{od:Option lu}{kV doc pm:aT}{an:Option lu}{ah ct:aT}{aj:Array (Option aT)}(h:nP K lS x=uD (uD (.ref f)))(l:K.lookup f=uD ⟨oc,od,.func (W.fnOf x x (defArgs st) (defBody st) (defScope st) .none kV doc pm an ah ct),aj⟩)(c:pX K ah x=uF)(k:oI K (.ref f)=uF):Fg K x st:=⟨f,h,oc,od,kV,doc,pm,an,ah,ct,aj,l,c,k⟩
theorem Fm.mk_ {cw:lu}{oc:aT}{od:Option lu}{kV doc pm:aT}{an:Option lu}{ah ct:aT}{aj:Array (Option aT)}(h:nP K lS c=uD (uD (.ref cw)))(h1:nW K (.ref cw) m=uD (uD (.ref f)))(h2:sZ K (.ref f)=uF)(l:K.lookup f=uD ⟨oc,od,.func (W.fnOf m q (defArgs st) (defBody st) (defScope st) .none kV doc pm an ah ct),aj⟩)(h3:pX K ah q=uF)(k:oI K (.ref f)=uF):Fm K c m q st:=⟨cw,f,h,h1,h2,oc,od,kV,doc,pm,an,ah,ct,aj,l,h3,k⟩
theorem Fc.mk_ {cw:lu}(h:nP K lS c=uD (uD (.ref cw)))(h1:qy K cw sO=uF)(h2:qe K cw=uF)(h3:qO K cw=uF)(h4:nW K (.ref cw) "__setattr__"=uD (uD (.builtin "object.__setattr__")))(h5:rF K cw=uF)(h6:oI K (.ref cw)=uF):Fc K c:=⟨cw,h,h1,h2,h3,h4,h5,h6⟩
theorem Fa.mk_ {cw:lu}(h:nP K lS c=uD (uD (.ref cw)))(h1:nW K (.ref cw) a=uD uE):Fa K c a:=⟨cw,h,h1⟩
theorem Fv.mk_ {u:aT}(h:nP K lS x=uD (uD u))(h1:RelV v u):Fv K x v:=⟨u,h,h1⟩
theorem Fk.mk_ {cw:lu}(h:nP K lS x=uD (uD (.ref cw))):Fk K x:=⟨cw,h⟩
theorem Fi.fun_ (h:Fi K x q st f):∃fd,Fun K x q st f fd:=by
 obtain⟨oc,od,kV,doc,pm,an,ah,ct,aj,l,c,k⟩:=h;exact⟨_,zmz_ l c k⟩
theorem Mgo.gb (M:Mgo K mg)(h:Fb K x):Gb mg x:=by
 obtain⟨_,X,G⟩:=M;exact W.mg_none_of X G h
theorem Mgo.gv (M:Mgo K mg)(h:Fv K x v):Gc mg x v:=by
 obtain⟨_,X,G⟩:=M;obtain⟨u,e,r⟩:=h;exact⟨u,tq X G e,r⟩
theorem Mgo.gk (M:Mgo K mg)(h:Fk K x):mg x=uD (.ref (gA K x)):=by
 obtain⟨_,X,G⟩:=M;obtain⟨u,e⟩:=h;rw[znw_ e];exact tq X G e
theorem Mgo.gkc (M:Mgo K mg)(h:Fk K x):Gc mg x (.ref (gA K x)):=⟨_,M.gk h,rfl⟩
theorem Fc.cls (h:Fc K c):Cls K (gA K c):=by
 obtain⟨cw,e,h1,h2,h3,h4,_⟩:=h;rw[znw_ e];exact⟨h1,h2,h3,h4⟩
theorem Fa.no (h:Fa K c a):NoAttr K (gA K c) a:=by
 obtain⟨cw,e,h⟩:=h;rw[znw_ e];exact h
abbrev OkF (P:lY)(w:mq)(K:Fgg)(mg:Str->Option aT)(base:Heap)(CX:CXT)(k:Nat)(x q:Str)(st:me)(ps:List Str)(sp:Sp):Prop:=∀f fd,Fun K x q st f fd->FnOk P w K mg base CX k f fd ps sp/\Binds K fd ps []
theorem zN_ (M:Mgo K mg)(F:Fg K x st)(h:OkF P w K mg base CX k x x st ps sp):Gd P w K mg base CX k x ps sp:=by
 obtain⟨_,X,G⟩:=M;obtain⟨f,e,i⟩:=F;obtain⟨fd,F⟩:=i.fun_;exact⟨f,fd,(h f fd F).1,tq X G e,F.kp,(h f fd F).2⟩
end
section
variable {K:Fgg}{x q:Str}{st:me}{ps:List Str}
abbrev Bnd (K:Fgg)(x q:Str)(st:me)(ps:List Str):Prop:=∀f fd,Fun K x q st f fd->Binds K fd ps []
variable {l:PySem.W.OpenLaw}{w:mq}{mg:Str->Option aT}{k:Nat}{sp:Sp}{fa:lu}
theorem okLaw (M:Mgo K mg)(F:Fg K "law" st)(gF:mg "law"=uD (.ref fa))(hb:∀(kV doc pm:aT) (an:Option lu) (ah ct:aT) (s:ll) (v:aT),bindArgs (W.fnOf "law" "law" (defArgs st) (defBody st) (defScope st) .none kV doc pm an ah ct) ⟨[v],[]⟩=pure [(x,v)])
  (h:∀(base:Heap) (f:lu) (fd:mW),Fun K "law" "law" st f fd->FnOk l.prog w K mg base CX0 k f fd [x] sp):
  ∃fd:mW,(∀(s:ll) (v:aT),BindsTo s fd ⟨[v],[]⟩ [(x,v)])/\∀base:Heap,K.In base->base.Ns lS mg->FnOk l.prog w K mg base CX0 k fa fd [x] sp:=by
 obtain⟨_,X,G⟩:=M;obtain⟨f,e,oc,od,kV,doc,pm,an,ah,ct,aj,l',c,kk⟩:=F;cases gF.symm.trans (tq X G e);exact⟨_,λs v=>.of_eq (hb kV doc pm an ah ct s v),λbase _ _=>h base _ _ (zmz_ l' c kk)⟩
def spL (K:Fgg):Sp:=λvs H Q _=>∃(a:lu) (ns:List Int),vs=[.ref a]/\SqL K H a (ns.map V.int)/\ns.length<=63/\BitsOk ns/\∀H',Q (.bl uF) H'
end
abbrev zfw_:=@PySem.F.plainAttrs_list
abbrev zbL_:=@PySem.F.slot_list_append
abbrev zbO_:=@PySem.F.type_list_append
abbrev zbS_:=@PySem.F.slot_list_extend
abbrev zbU_:=@PySem.F.type_list_extend
section
variable {st:SortSt}
structure Sm (st aK:SortSt):Prop where
 k:kindOf aK=kindOf st
 a:arrOf aK=arrOf st
 p:pendingOf aK=pendingOf st
 f:failedOf aK=failedOf st
end
def Fe1 (K:Fgg)(a:Str)(P:lu->Prop):Prop:=∃v,nP K lS a=uD (uD (.ref v))/\P v
theorem Fe1.mk_ {K:Fgg}{a:Str}{P:lu->Prop}{v:lu}(h:nP K lS a=uD (uD (.ref v)))(p:P v):Fe1 K a P:=⟨v,h,p⟩
def Fe2 (K:Fgg)(a b:Str)(P:lu->lu->Prop):Prop:=∃v w,nP K lS a=uD (uD (.ref v))/\nP K lS b=uD (uD (.ref w))/\P v w
theorem Fe2.mk_ {K:Fgg}{a b:Str}{P:lu->lu->Prop}{v w:lu}(h:nP K lS a=uD (uD (.ref v)))(h2:nP K lS b=uD (uD (.ref w)))(p:P v w):Fe2 K a b P:=⟨v,w,h,h2,p⟩
section
end
open PySem.SeqAt
open PySem.AutoSeq1 (wpAny_loadPart')
open PySem.MeetsSeq PySem.MeetsSeq2 PySem.MeetsSeq3
section
variable {X:Cx}{pins:Pnn}{σ:St}{H:Hp}{s:ll}{A:mG}
theorem znx_ {x y:V}{v u:aT}(rx:RelV x v)(ry:RelV y u)(fx:flatV x=uF)(fy:flatV y=uF):oQ A s v u (eqV x y):=by
 cases x with
 |non=>
  cases rx;cases y with
  |non=>cases ry;exact SeqAt.RcAt.none_none
  |bl b=>cases ry;exact SeqAt.RcAt.none_bool _
  |int b=>obtain⟨t,rfl⟩:=ry;exact SeqAt.RcAt.none_int _ _
  |str b=>obtain⟨t,rfl⟩:=ry;exact SeqAt.RcAt.none_str _ _
  |_=>cases fy
 |bl a=>
  cases rx;cases y with
  |non=>cases ry;exact SeqAt.RcAt.bool_none _
  |bl b=>cases ry;exact SeqAt.RcAt.bool_bool _ _
  |int b=>obtain⟨t,rfl⟩:=ry;exact SeqAt.RcAt.bool_int _ _ _
  |str b=>obtain⟨t,rfl⟩:=ry;exact SeqAt.RcAt.bool_str _ _ _
  |_=>cases fy
 |int a=>
  obtain⟨t',rfl⟩:=rx;cases y with
  |non=>cases ry;exact SeqAt.RcAt.int_none _ _
  |bl b=>cases ry;exact SeqAt.RcAt.int_bool _ _ _
  |int b=>obtain⟨t,rfl⟩:=ry;exact SeqAt.RcAt.int_int _ _ _ _
  |str b=>obtain⟨t,rfl⟩:=ry;exact SeqAt.RcAt.int_str _ _ _ _
  |_=>cases fy
 |str a=>
  obtain⟨t',rfl⟩:=rx;cases y with
  |non=>cases ry;exact SeqAt.RcAt.str_none _ _
  |bl b=>cases ry;exact SeqAt.RcAt.str_bool _ _ _
  |int b=>obtain⟨t,rfl⟩:=ry;exact SeqAt.RcAt.str_int _ _ _ _
  |str b=>obtain⟨t,rfl⟩:=ry;exact SeqAt.RcAt.str_str _ _ _ _
  |_=>cases fy
 |_=>cases fx
theorem zk5_ {x y:V}{v u:aT}(rx:RelV x v)(ry:RelV y u)(fx:flatV x=uF)(fy:flatV y=uF):pq A s v u (!eqV x y):=by
 cases x with
 |non=>
  cases rx;cases y with
  |non=>cases ry;exact tu
  |bl b=>cases ry;exact tw _
  |int b=>obtain⟨t,rfl⟩:=ry;exact tQ _ _
  |str b=>obtain⟨t,rfl⟩:=ry;exact tR _ _
  |_=>cases fy
 |bl a=>
  cases rx;cases y with
  |non=>cases ry;exact tB _
  |bl b=>cases ry;exact tD _ _
  |int b=>obtain⟨t,rfl⟩:=ry;exact tS _ _ _
  |str b=>obtain⟨t,rfl⟩:=ry;exact tT _ _ _
  |_=>cases fy
 |int a=>
  obtain⟨t',rfl⟩:=rx;cases y with
  |non=>cases ry;exact tU _ _
  |bl b=>cases ry;exact tV _ _ _
  |int b=>obtain⟨t,rfl⟩:=ry;exact um _ _ _ _
  |str b=>obtain⟨t,rfl⟩:=ry;exact uo _ _ _ _
  |_=>cases fy
 |str a=>
  obtain⟨t',rfl⟩:=rx;cases y with
  |non=>cases ry;exact tW _ _
  |bl b=>cases ry;exact tX _ _ _
  |int b=>obtain⟨t,rfl⟩:=ry;exact uq _ _ _ _
  |str b=>obtain⟨t,rfl⟩:=ry;exact ur _ _ _ _
  |_=>cases fy
 |_=>cases fx
theorem rc_lf {p:lu}{aa:Array aT}{y:V}{u:aT}(hp:s.heap.IsList p aa)(ry:RelV y u)(fy:flatV y=uF)(hu:A.units<cLine):oQ A s (.ref p) u uG:=by
 cases y with
 |non=>cases ry;exact SeqAt.RcAt.list_none hp hu
 |bl b=>cases ry;exact SeqAt.RcAt.list_bool _ hp hu
 |int b=>obtain⟨t,rfl⟩:=ry;exact SeqAt.RcAt.list_int _ _ hp hu
 |str b=>obtain⟨t,rfl⟩:=ry;exact SeqAt.RcAt.list_str _ _ hp hu
 |_=>cases fy
theorem rc_lF {p:lu}{aa:Array aT}{y:V}{u:aT}(hp:s.heap.IsList p aa)(ry:RelV y u)(fy:flatV y=uF)(hu:A.units<cLine):oQ A s u (.ref p) uG:=by
 cases y with
 |non=>cases ry;exact SeqAt.RcAt.none_list hp hu
 |bl b=>cases ry;exact SeqAt.RcAt.bool_list _ hp hu
 |int b=>obtain⟨t,rfl⟩:=ry;exact SeqAt.RcAt.int_list _ _ hp hu
 |str b=>obtain⟨t,rfl⟩:=ry;exact SeqAt.RcAt.str_list _ _ hp hu
 |_=>cases fy
theorem rc_tf {p:lu}{aa:Array aT}{y:V}{u:aT}(hp:s.heap.IsTuple p aa)(ry:RelV y u)(fy:flatV y=uF)(hu:A.units<cLine):oQ A s (.ref p) u uG:=by
 cases y with
 |non=>cases ry;exact SeqAt.RcAt.tuple_none hp hu
 |bl b=>cases ry;exact SeqAt.RcAt.tuple_bool _ hp hu
 |int b=>obtain⟨t,rfl⟩:=ry;exact SeqAt.RcAt.tuple_int _ _ hp hu
 |str b=>obtain⟨t,rfl⟩:=ry;exact SeqAt.RcAt.tuple_str _ _ hp hu
 |_=>cases fy
theorem rc_tF {p:lu}{aa:Array aT}{y:V}{u:aT}(hp:s.heap.IsTuple p aa)(ry:RelV y u)(fy:flatV y=uF)(hu:A.units<cLine):oQ A s u (.ref p) uG:=by
 cases y with
 |non=>cases ry;exact SeqAt.RcAt.none_tuple hp hu
 |bl b=>cases ry;exact SeqAt.RcAt.bool_tuple _ hp hu
 |int b=>obtain⟨t,rfl⟩:=ry;exact SeqAt.RcAt.int_tuple _ _ hp hu
 |str b=>obtain⟨t,rfl⟩:=ry;exact SeqAt.RcAt.str_tuple _ _ hp hu
 |_=>cases fy
theorem zqJ_ {p:lu}{aa:Array aT}{y:V}{u:aT}(hp:s.heap.IsList p aa)(ry:RelV y u)(fy:flatV y=uF)(hu:A.units<cLine):pq A s (.ref p) u uF:=by
 cases y with
 |non=>cases ry;exact tE hp hu
 |bl b=>cases ry;exact tF _ hp hu
 |int b=>obtain⟨t,rfl⟩:=ry;exact tY _ _ hp hu
 |str b=>obtain⟨t,rfl⟩:=ry;exact tZ _ _ hp hu
 |_=>cases fy
theorem zrO_ {p:lu}{aa:Array aT}{y:V}{u:aT}(hp:s.heap.IsList p aa)(ry:RelV y u)(fy:flatV y=uF)(hu:A.units<cLine):pq A s u (.ref p) uF:=by
 cases y with
 |non=>cases ry;exact tG hp hu
 |bl b=>cases ry;exact tH _ hp hu
 |int b=>obtain⟨t,rfl⟩:=ry;exact ue _ _ hp hu
 |str b=>obtain⟨t,rfl⟩:=ry;exact uf _ _ hp hu
 |_=>cases fy
theorem zrp_ {p:lu}{aa:Array aT}{y:V}{u:aT}(hp:s.heap.IsTuple p aa)(ry:RelV y u)(fy:flatV y=uF)(hu:A.units<cLine):pq A s (.ref p) u uF:=by
 cases y with
 |non=>cases ry;exact sS hp hu
 |bl b=>cases ry;exact sU _ hp hu
 |int b=>obtain⟨t,rfl⟩:=ry;exact tI _ _ hp hu
 |str b=>obtain⟨t,rfl⟩:=ry;exact tJ _ _ hp hu
 |_=>cases fy
theorem zrk_ {p:lu}{aa:Array aT}{y:V}{u:aT}(hp:s.heap.IsTuple p aa)(ry:RelV y u)(fy:flatV y=uF)(hu:A.units<cLine):pq A s u (.ref p) uF:=by
 cases y with
 |non=>cases ry;exact sV hp hu
 |bl b=>cases ry;exact sX _ hp hu
 |int b=>obtain⟨t,rfl⟩:=ry;exact tK _ _ hp hu
 |str b=>obtain⟨t,rfl⟩:=ry;exact tL _ _ hp hu
 |_=>cases fy
theorem znI_ (I:Inv X pins σ H s){n:Nat}{x y:V}{b:Bool}(h:EqD X.K H n x y b):∀(A:mG) (v u:aT),A.units+n<cLine->RelV x v->RelV y u->oQ A s v u b:=by
 induction h with
 |flat hx hy=>exact λA v u _ rx ry=>znx_ rx ry hx hy
 |lst e hp hq hl h ih=>exact λA v u hu rx ry=>(ze3_ I (.lst e hp hq hl h) A v u hu rx ry).2 _ _ rfl rfl
 |lstN hp hq hl=>exact λA v u hu rx ry=>(ze3_ I (.lstN hp hq hl) A v u hu rx ry).2 _ _ rfl rfl
 |tup e hp hq h ih=>exact λA v u hu rx ry=>(ze3_ I (.tup e hp hq h) A v u hu rx ry).2 _ _ rfl rfl
 |lt hp hq=>exact λA v u hu rx ry=>(ze3_ I (.lt hp hq) A v u hu rx ry).2 _ _ rfl rfl
 |tl hp hq=>exact λA v u hu rx ry=>(ze3_ I (.tl hp hq) A v u hu rx ry).2 _ _ rfl rfl
 |lf hp hy=>intro A v u hu rx ry;cases rx;obtain⟨aa,_,p1,_⟩:=I.list hp;exact rc_lf p1.isList ry hy (by lia)
 |fl hp hy=>intro A v u hu rx ry;cases ry;obtain⟨aa,_,p1,_⟩:=I.list hp;exact rc_lF p1.isList rx hy (by lia)
 |tf hp hy=>intro A v u hu rx ry;cases rx;obtain⟨aa,_,p1,_⟩:=I.tuple hp;exact rc_tf p1 ry hy (by lia)
 |ft hp hy=>intro A v u hu rx ry;cases ry;obtain⟨aa,_,p1,_⟩:=I.tuple hp;exact rc_tF p1 rx hy (by lia)
 |up h ih=>exact λA v u hu rx ry=>ih A v u (by lia) rx ry
def mEqA (K:Fgg):R2:=λx y H Q=>∃n b,n<=50/\EqD K H n x y b/\Q (.bl b) H
theorem zph_ (hu:X.A.units+60<cLine):OpR X (lX .Eq) (mEqA X.K):=by
 intro pins s σ H x y v u Q I rx ry h;obtain⟨n,b,hn,h,q⟩:=h;exact(znI_ I h X.A v u (by lia) rx ry) X.prog X.w X.xe _ ⟨.bl b,H,I,rfl,q⟩
theorem zkF_ (I:Inv X pins σ H s){n:Nat}{x y:V}{b:Bool}(h:EqD X.K H n x y b):∀(A:mG) (v u:aT),A.units+n<cLine->RelV x v->RelV y u->pq A s v u (!b):=by
 induction h with
 |flat hx hy=>exact λA v u _ rx ry=>zk5_ rx ry hx hy
 |lst e hp hq hl h ih=>exact λA v u hu rx ry=>zgQ_ I (.lst e hp hq hl h) A v u hu rx ry _ _ rfl rfl
 |lstN hp hq hl=>exact λA v u hu rx ry=>zgQ_ I (.lstN hp hq hl) A v u hu rx ry _ _ rfl rfl
 |tup e hp hq h ih=>exact λA v u hu rx ry=>zgQ_ I (.tup e hp hq h) A v u hu rx ry _ _ rfl rfl
 |lt hp hq=>exact λA v u hu rx ry=>zgQ_ I (.lt hp hq) A v u hu rx ry _ _ rfl rfl
 |tl hp hq=>exact λA v u hu rx ry=>zgQ_ I (.tl hp hq) A v u hu rx ry _ _ rfl rfl
 |lf hp hy=>intro A v u hu rx ry;cases rx;obtain⟨aa,_,p1,_⟩:=I.list hp;exact zqJ_ p1.isList ry hy (by lia)
 |fl hp hy=>intro A v u hu rx ry;cases ry;obtain⟨aa,_,p1,_⟩:=I.list hp;exact zrO_ p1.isList rx hy (by lia)
 |tf hp hy=>intro A v u hu rx ry;cases rx;obtain⟨aa,_,p1,_⟩:=I.tuple hp;exact zrp_ p1 ry hy (by lia)
 |ft hp hy=>intro A v u hu rx ry;cases ry;obtain⟨aa,_,p1,_⟩:=I.tuple hp;exact zrk_ p1 rx hy (by lia)
 |up h ih=>exact λA v u hu rx ry=>ih A v u (by lia) rx ry
def mNeA (K:Fgg):R2:=λx y H Q=>∃n b,n<=50/\EqD K H n x y b/\Q (.bl (!b)) H
theorem zqL_ (hu:X.A.units+60<cLine):OpR X (lX .NotEq) (mNeA X.K):=by
 intro pins s σ H x y v u Q I rx ry h;obtain⟨n,b,hn,h,q⟩:=h;exact(zkF_ I h X.A v u (by lia) rx ry) X.prog X.w X.xe _ ⟨.bl (!b),H,I,rfl,q⟩
end
def Fs (K:Fgg)(c m q:Str)(st:me):Prop:=∃cw f,nP K lS c=uD (uD (.ref cw))/\rV K (.ref cw) "__getattribute__"=uD (uD (.builtin "type.__getattribute__"))/\W.readsIn K cw (.type "type")=uF/\W.findCls K (.ref cw) (.type "type") m=uD (.val (.ref f))/\Fi K m q st f
section
variable {K:Fgg}{q c m:Str}{st:me}{f:lu}
theorem Fs.mk_ {cw:lu}{oc:aT}{od:Option lu}{kV doc pm:aT}{an:Option lu}{ah ct:aT}{aj:Array (Option aT)}(h:nP K lS c=uD (uD (.ref cw)))(h1:rV K (.ref cw) "__getattribute__"=uD (uD (.builtin "type.__getattribute__")))(h2:W.readsIn K cw (.type "type")=uF)(h3:W.findCls K (.ref cw) (.type "type") m=uD (.val (.ref f)))
  (l:K.lookup f=uD ⟨oc,od,.func (W.fnOf m q (defArgs st) (defBody st) (defScope st) .none kV doc pm an ah ct),aj⟩) (hc:pX K ah q=uF) (hk:oI K (.ref f)=uF):Fs K c m q st:=⟨cw,f,h,h1,h2,h3,oc,od,kV,doc,pm,an,ah,ct,aj,l,hc,hk⟩
end
section
variable {κ:Type}
section
variable [DecidableEq κ]
end
end
section
end
noncomputable def Xc.c:Xc->String
 |.pl c=>c
 |.at c _=>c
section
end
structure FunD (K:Fgg)(T:lu)(x qual:Str)(st:me)(f:lu)(fd:mW):Prop where
 ex:∃(oc:aT) (od:Option lu) (kV doc pm:aT) (an:Option lu) (ah ct:aT) (aj:Array (Option aT)),
  fd=W.fnOf x qual (defArgs st) (defBody st) (defScope st) (.ref T) kV doc pm an ah ct/\K.lookup f=uD ⟨oc,od,.func fd,aj⟩/\pX K ah qual=uF
 kp:oI K (.ref f)=uF
section
end
noncomputable def relB:V->aT->Bool
 |.non,.none=>uF
 |.int i,.int j _=>i == j
 |.bl a,.bool b=>a == b
 |_,_=>uG
def relsB:List V->List aT->Bool
 |[],[]=>uF
 |x::xs,v::vs=>relB x v && relsB xs vs
 |_,_=>uG
theorem zod_ {x:V}{v:aT}(h:relB x v=uF):RelV x v:=by
 unfold relB at h;split at h
 ·rfl
 ·exact⟨_,by rw[eq_of_beq h]⟩
 ·rw[eq_of_beq h];rfl
 ·cases h
theorem zhC_:∀{xs:List V}{vs:List aT},relsB xs vs=uF->Vals xs vs
 |[],[],_=>.nil
 |x::xs,v::vs,h=>by
  unfold relsB at h;obtain⟨a,b⟩:=mj.mp h;exact .cons (zod_ a) (zhC_ b)
 |[],_::_,h=>by cases h
 |_::_,[],h=>by cases h
def FmD (K:Fgg)(c m q:Str)(st:me)(aw:List V):Prop:=∃cw f T fd arr n oc od aj,nP K lS c=uD (uD (.ref cw))/\nW K (.ref cw) m=uD (uD (.ref f))/\sZ K (.ref f)=uF/\FunD K T m q st f fd /\
 K.lookup T=uD ⟨oc,od,.seq arr n,aj⟩/\Vals aw arr.toList
section
variable {P:lY}{w:mq}{K:Fgg}{mg:Str->Option aT}{base:Heap}{CX:CXT}{x q c m:Str}{st:me}{f:lu}{fd:mW}{ps:List Str}{k:Nat}{sp:Sp}
theorem FmD.mk_ {cw T:lu}{oc dt:aT}{od dq:Option lu}{kV doc pm:aT}{an:Option lu}{ah ct:aT}{aj dM:Array (Option aT)}{arr:Array aT}{n:Nat}{aw:List V}(h:nP K lS c=uD (uD (.ref cw)))(h1:nW K (.ref cw) m=uD (uD (.ref f)))(h2:sZ K (.ref f)=uF)
  (l:K.lookup f=uD ⟨oc,od,.func (W.fnOf m q (defArgs st) (defBody st) (defScope st) (.ref T) kV doc pm an ah ct),aj⟩) (c1:pX K ah q=uF) (k1:oI K (.ref f)=uF) (lT:K.lookup T=uD ⟨dt,dq,.seq arr n,dM⟩) (hv:relsB aw arr.toList=uF):FmD K c m q st aw:=
 ⟨cw,f,T,_,arr,n,dt,dq,dM,h,h1,h2,⟨⟨oc,od,kV,doc,pm,an,ah,ct,aj,rfl,l,c1⟩,k1⟩,lT,zhC_ hv⟩
def GkD (P:lY)(w:mq)(K:Fgg)(mg:Str->Option aT)(base:Heap)(CX:CXT)(k:Nat)(x:Str)(C:lu)(ps:List Str)(aw:List V)(sp:Sp):Prop:=
 ∃f fd ds,FnOk P w K mg base CX k f fd ps sp/\Mk K C f/\mg x=uD (.ref C)/\Vals aw ds/\Binds K fd ps ds
abbrev OkFD (P:lY)(w:mq)(K:Fgg)(mg:Str->Option aT)(base:Heap)(CX:CXT)(k:Nat)(x q:Str)(st:me)(ps:List Str)(sp:Sp):Prop:=∀T f fd,FunD K T x q st f fd->FnOk P w K mg base CX k f fd ps sp
end
section
variable {P:lY}{w:mq}{K:Fgg}{mg:Str->Option aT}{base:Heap}{q c:Str}{st:me}{ps:List Str}{k:Nat}
theorem zpk_ {CX:CXT}{sp:Sp}{aw:List V}(j:Nat)(M:Mgo K mg)(C:Fc K c)(F:FmD K c "__init__" q st aw)(hb:∀T f fd arr n oc od aj,FunD K T "__init__" q st f fd->K.lookup T=uD ⟨oc,od,.seq arr n,aj⟩->arr.toList.length=aw.length->Binds K fd ps (arr.toList.drop j))
  (h:OkFD P w K mg base CX k "__init__" q st ps sp):GkD P w K mg base CX k c (gA K c) ps (aw.drop j) sp:=by
 obtain⟨cw,f,T,fd,arr,n,oc,od,aj,e,e2,e3,F,lT,hv⟩:=F;obtain⟨kZ,e',_,_,_,_,h5,h6⟩:=C;cases e.symm.trans e';have hd:∀{xs:List V}{vs:List aT}(j:Nat),Vals xs vs->Vals (xs.drop j) (vs.drop j):=λ{xs vs} j r=>by
  induction j generalizing xs vs with
  |zero=>exact r
  |succ j ih=>cases r with |nil=>exact .nil |cons a t=>exact ih t
 exact⟨f,fd,arr.toList.drop j,h T f fd F,by rw[znw_ e];exact⟨h5,e2,e3,h6⟩,M.gk ⟨_,e⟩,hd j hv,hb T f fd arr n oc od aj F lT hv.length.symm⟩
theorem arr5 {arr:Array aT}(h:arr.toList.length=5):∃d0 d1 d2 d3 d4,arr=#[d0,d1,d2,d3,d4]:=by
 obtain⟨l⟩:=arr;obtain⟨d0,l,rfl⟩:=mB h;obtain⟨d1,l,rfl⟩:=mB (mZ h);obtain⟨d2,l,rfl⟩:=mB (mZ (mZ h));obtain⟨d3,l,rfl⟩:=mB (mZ (mZ (mZ h)));obtain⟨d4,rfl⟩:=m4.mp (mZ (mZ (mZ (mZ h))));exact⟨d0,d1,d2,d3,d4,rfl⟩
end
noncomputable def strsB:List (List Nat)->List aT->Bool
 |[],[]=>uF
 |x::xs,.str z _::vs=>z == ⟨x.toArray⟩ && strsB xs vs
 |_,_=>uG
theorem zgx_:∀{xs:List (List Nat)}{vs:List aT},strsB xs vs=uF->Vals (xs.map tx) vs
 |[],[],_=>.nil
 |x::xs,v::vs,h=>by
  unfold strsB at h;split at h
  ·rename_i e1 _;cases e1
  ·rename_i e1 e2
   cases e1;cases e2;obtain⟨a,b⟩:=mj.mp h;exact .cons ⟨_,by rw[eq_of_beq a]⟩ (zgx_ b)
  ·cases h
 |[],_::_,h=>by cases h
 |_::_,[],h=>by cases h
def FtT (K:Fgg)(x:Str)(xs:List (List Nat)):Prop:=∀H:Hp,SqT K H (gA K x) (xs.map tx)
theorem FtT.mk_ {K:Fgg}{x:Str}{xs:List (List Nat)}{a:lu}{od:Option lu}{aa:Array aT}{n:Nat}{aj:Array (Option aT)}(h:nP K lS x=uD (uD (.ref a)))(l:K.lookup a=uD ⟨.type "tuple",od,.seq aa n,aj⟩)(hv:strsB xs aa.toList=uF)(hs:aa.toList.length<=1000):FtT K x xs:=λH=>by
 rw[znw_ h];exact .inr ⟨_,aa,n,l,rfl,rfl,by rw[nr]at hs;exact ni hs (by rw[sizeLine_eq];decide),zgx_ hv⟩
section
end
instance:Inhabited V:=⟨.non⟩
section
variable {K:Fgg}{x q:Str}{st:me}{f:lu}{fd:mW}
theorem zkh_ {ps:List Str}{T:lu}{oc:aT}{od:Option lu}{aj:Array (Option aT)}{arr:Array aT}{n:Nat}(hp:ps.length=10)(F:FunD K T x q st f fd)(lT:K.lookup T=uD ⟨oc,od,.seq arr n,aj⟩)
  (h:∀(kV doc pm:aT) (an:Option lu) (ah ct:aT) (u0 u1 u2 u3 u4 u5 u6 u7 u8 u9:aT) (s:ll),(∃o,s.heap.get? T=uD o/\o.data=.seq arr n)->BindsTo s (W.fnOf x q (defArgs st) (defBody st) (defScope st) (.ref T) kV doc pm an ah ct) ⟨[u0,u1,u2,u3,u4,u5,u6,u7,u8,u9],[]⟩ (ps.zip [u0,u1,u2,u3,u4,u5,u6,u7,u8,u9])):
  Binds K fd ps []:=by
 obtain⟨oc,od,kV,doc,pm,an,ah,ct,aj,rfl,lk,bt⟩:=F.ex;intro s us hK hl;rw[hp,lb]at hl;have hl:us.length=10:=by simpa using hl
 obtain⟨u0,t1,rfl,h1⟩:=zp_ hl;obtain⟨u1,t2,rfl,h2⟩:=zp_ h1;obtain⟨u2,t3,rfl,h3⟩:=zp_ h2;obtain⟨u3,t4,rfl,h4⟩:=zp_ h3;obtain⟨u4,t5,rfl,h5⟩:=zp_ h4;obtain⟨u5,t6,rfl,h6⟩:=zp_ h5;obtain⟨u6,t7,rfl,h7⟩:=zp_ h6;obtain⟨u7,t8,rfl,h8⟩:=zp_ h7;obtain⟨u8,t9,rfl,h9⟩:=zp_ h8;obtain⟨u9,t10,rfl,h10⟩:=zp_ h9;cases ml.mp h10;exact h kV doc pm an ah ct u0 u1 u2 u3 u4 u5 u6 u7 u8 u9 s ⟨_,hK _ _ lT,rfl⟩
end
end L2
namespace VI
open PySem PySem.Spec PyProof.Rows L2
inductive Nd where
 |tup |lst |dct (ks:List Key)|obj (c:Str) (ns:List Str)|scr |ktup
 deriving DecidableEq
inductive D where
 |non |bl (b:Bool)|int (i:Int)|str (l:List Nat)|nd (k:Nd) (ds:List D)|fz (d:D)|pin (v:V)|gone
def SqU (K:l4)(a:lu)(xs:List V):Prop:=∃(o:tP) (aa:Array aT) (n:Nat),K.lookup a=uD o/\o.cls=.type "tuple" /\ o.data=.seq aa n/\aa.size<=lE/\Vals xs aa.toList
def NdR (K:l4)(k:Nd)(p:lu)(us:List V)(H:Hp):Prop:=match k with
 |.tup=>H p=uD (.tup us)
 |.lst=>H p=uD (.lst us)
 |.scr=>SqL K H p us
 |.ktup=>SqU K p us
 |.dct ks=>H p=uD (.dK (ks.zip us))/\ks.length=us.length/\ks.Nodup
 |.obj c ns=>∃dx,H p=uD (.ins (gA K c) dx (ns.zip us))/\ns.length=us.length
theorem NdR.mono {K:l4}{k:Nd}{p:lu}{us:List V}{H H':Hp}(g:Same H H')(h:NdR K k p us H):NdR K k p us H':=by
 cases k with
 |tup=>exact g _ _ h
 |lst=>exact g _ _ h
 |scr=>exact g.seq h
 |ktup=>exact h
 |dct ks=>exact⟨g _ _ h.1,h.2⟩
 |obj c ns=>obtain⟨dx,e,l⟩:=h;exact⟨dx,g _ _ e,l⟩
mutual
def DR (K:l4):D->V->Hp->Prop
 |.non,v,_=>v=.non
 |.bl b,v,_=>v=.bl b
 |.int i,v,_=>v=.int i
 |.str l,v,_=>v=tx l
 |.nd k ds,v,H=>∃p us,v=.ref p/\NdR K k p us H/\DRs K ds us H
 |.fz d,v,H=>DR K d v H
 |.pin u,v,_=>v=u
 |.gone,_,_=>True
def DRs (K:l4):List D->List V->Hp->Prop
 |[],us,_=>us=[]
 |d::ds,us,H=>∃v vs,us=v::vs/\DR K d v H/\DRs K ds vs H
end
theorem DR.mono {K:l4}{H H':Hp}(g:Same H H'):∀{d:D}{v:V},DR K d v H->DR K d v H'
 |.non,_,h=>by unfold DR at h ⊢;exact h
 |.bl _,_,h=>by unfold DR at h ⊢;exact h
 |.int _,_,h=>by unfold DR at h ⊢;exact h
 |.str _,_,h=>by unfold DR at h ⊢;exact h
 |.pin _,_,h=>by unfold DR at h ⊢;exact h
 |.gone,_,h=>by unfold DR at h ⊢;exact h
 |.fz d,_,h=>by unfold DR at h ⊢;exact DR.mono g h
 |.nd k ds,_,h=>by unfold DR at h ⊢;obtain⟨p,us,e,n,r⟩:=h;exact⟨p,us,e,n.mono g,go r⟩
where go:∀{ds:List D}{us:List V},DRs K ds us H->DRs K ds us H'
 |[],_,h=>by unfold DRs at h ⊢;exact h
 |d::ds,_,h=>by unfold DRs at h ⊢;obtain⟨v,vs,e,a,r⟩:=h;exact⟨v,vs,e,DR.mono g a,go r⟩
theorem DRs.mono {K:l4}{H H':Hp}(g:Same H H'){ds:List D}{us:List V}(h:DRs K ds us H):DRs K ds us H':=DR.mono.go g h
theorem DRs.prs {K:l4}{H:Hp}:∀{ds:List D}{us:List V},DRs K ds us H↔Paired (λd v=>DR K d v H) ds us
 |[],us=>⟨λh=>by unfold DRs at h;subst h;exact .nil,λh=>by cases h;unfold DRs;rfl⟩
 |d::ds,us=>⟨λh=>by unfold DRs at h;obtain⟨v,vs,rfl,a,r⟩:=h;exact .cons a (DRs.prs.mp r),λh=>by
  cases h with |cons a r=>unfold DRs;exact⟨_,_,rfl,a,DRs.prs.mpr r⟩⟩
mutual
noncomputable def D.imm:D->Bool
 |.nd .tup ds=>D.imms ds
 |.nd .ktup ds=>D.imms ds
 |.nd _ _=>uG
 |.fz d=>d.imm
 |.pin _=>uG
 |.gone=>uG
 |_=>uF
noncomputable def D.imms:List D->Bool
 |[]=>uF
 |d::ds=>d.imm && D.imms ds
end
mutual
def D.new:D->Bool
 |.nd _ ds=>D.news ds
 |.fz d=>d.imm
 |.pin _=>uG
 |.gone=>uG
 |_=>uF
def D.news:List D->Bool
 |[]=>uF
 |d::ds=>d.new && D.news ds
end
def Cell (K:l4)(k:Nd)(p:lu)(us:List V)(F h:Hp):Prop:=match k with
 |.tup=>F p=uD (.tup us)/\∀q,h q=uE
 |.scr=>False
 |.ktup=>SqU K p us/\∀q,h q=uE
 |.lst=>h=one p (.lst us)
 |.dct ks=>h=one p (.dK (ks.zip us))/\ks.length=us.length/\ks.Nodup
 |.obj c ns=>∃dx,dx≠p/\h=two p dx (.ins (gA K c) dx (ns.zip us))/\ns.length=us.length
mutual
def OD (K:l4):D->V->Hp->Hp->Prop
 |.nd k ds,v,F,h=>∃p us h0 h2,v=.ref p/\Cell K k p us F h0/\Jn h0 h2 h/\ODs K ds us F h2
 |d,v,F,h=>(∀p,h p=uE)/\DR K d v F
def ODs (K:l4):List D->List V->Hp->Hp->Prop
 |[],us,_,h=>us=[]/\∀p,h p=uE
 |d::ds,us,F,h=>∃v vs h1 h2,us=v::vs/\Jn h1 h2 h/\OD K d v F h1/\ODs K ds vs F h2
end
section
variable {K:mT}{F F' h h1 h2 H:Hp}{d:D}{ds:List D}{v:V}{us:List V}{k:Nd}{p:lu}
theorem zi_ {p q:lu}{o:HO}:one p o q=if q=p then uD o else uE:=rfl
theorem Cell.mono (g:Tups F F')(c:Cell K k p us F h):Cell K k p us F' h:=by
 cases k with
 |tup=>exact⟨g _ _ c.1,c.2⟩
 |lst=>exact c
 |scr=>exact c
 |ktup=>exact c
 |dct ks=>exact c
 |obj c' ns=>exact c
theorem Cell.notup (c:Cell K k p us F h)(q:lu)(xs:List V):h q≠uD (.tup xs):=by
 cases k with
 |tup=>rw[c.2];exact λz=>by cases z
 |ktup=>rw[c.2];exact λz=>by cases z
 |scr=>exact mx c
 |lst=>rw[show h=_ from c,zi_];split<;>exact λz=>by cases z
 |dct ks=>rw[c.1,zi_];split<;>exact λz=>by cases z
 |obj c' ns=>
  obtain⟨dx,n,e,l⟩:=c;rw[e];unfold two;split
  ·exact λz=>by cases z
  ·split<;>exact λz=>by cases z
theorem Cell.nd (c:Cell K k p us F h)(g:Same F H)(g':Same h H):NdR K k p us H:=by
 cases k with
 |tup=>exact g _ _ c.1
 |ktup=>exact c.1
 |scr=>exact mx c
 |lst=>exact g' _ _ (by rw[show h=_ from c];exact zy_)
 |dct ks=>exact⟨g' _ _ (by rw[c.1];exact zy_),c.2⟩
 |obj c' ns=>obtain⟨dx,n,e,l⟩:=c;exact⟨dx,g' _ _ (by rw[e];exact zpH_),l⟩
theorem OD.mono (g:Same F F'):∀{d:D}{v:V}{h:Hp},OD K d v F h->OD K d v F' h
 |.nd k ds,_,_,q=>by unfold OD at q ⊢;obtain⟨p,us,h0,h2,e,c,j,r⟩:=q;exact⟨p,us,h0,h2,e,c.mono g.tups,j,go r⟩
 |.non,_,_,q=>by unfold OD at q ⊢;exact⟨q.1,q.2.mono g⟩
 |.bl _,_,_,q=>by unfold OD at q ⊢;exact⟨q.1,q.2.mono g⟩
 |.int _,_,_,q=>by unfold OD at q ⊢;exact⟨q.1,q.2.mono g⟩
 |.str _,_,_,q=>by unfold OD at q ⊢;exact⟨q.1,q.2.mono g⟩
 |.fz _,_,_,q=>by unfold OD at q ⊢;exact⟨q.1,q.2.mono g⟩
 |.pin _,_,_,q=>by unfold OD at q ⊢;exact⟨q.1,q.2.mono g⟩
 |.gone,_,_,q=>by unfold OD at q ⊢;exact⟨q.1,q.2.mono g⟩
where go:∀{ds:List D}{us:List V}{h:Hp},ODs K ds us F h->ODs K ds us F' h
 |[],_,_,q=>by unfold ODs at q ⊢;exact q
 |d::ds,_,_,q=>by unfold ODs at q ⊢;obtain⟨v,vs,h1,h2,e,j,a,r⟩:=q;exact⟨v,vs,h1,h2,e,j,OD.mono g a,go r⟩
theorem OD.notup:∀{d:D}{v:V}{h:Hp},OD K d v F h->∀p xs,h p≠uD (.tup xs)
 |.nd k ds,_,_,q,p,xs=>by
  unfold OD at q;obtain⟨_,us,h0,h2,e,c,j,r⟩:=q;rcases j p with⟨_,y⟩|⟨_,y⟩
  ·rw[y];exact go r p xs
  ·rw[y];exact c.notup p xs
 |.non,_,_,q,p,xs=>by unfold OD at q;rw[q.1];exact λz=>by cases z
 |.bl _,_,_,q,p,xs=>by unfold OD at q;rw[q.1];exact λz=>by cases z
 |.int _,_,_,q,p,xs=>by unfold OD at q;rw[q.1];exact λz=>by cases z
 |.str _,_,_,q,p,xs=>by unfold OD at q;rw[q.1];exact λz=>by cases z
 |.fz _,_,_,q,p,xs=>by unfold OD at q;rw[q.1];exact λz=>by cases z
 |.pin _,_,_,q,p,xs=>by unfold OD at q;rw[q.1];exact λz=>by cases z
 |.gone,_,_,q,p,xs=>by unfold OD at q;rw[q.1];exact λz=>by cases z
where go:∀{ds:List D}{us:List V}{h:Hp},ODs K ds us F h->∀p xs,h p≠uD (.tup xs)
 |[],_,_,q,p,xs=>by unfold ODs at q;rw[q.2];exact λz=>by cases z
 |d::ds,_,_,q,p,xs=>by
  unfold ODs at q;obtain⟨v,vs,h1,h2,e,j,a,r⟩:=q;rcases j p with⟨_,y⟩|⟨_,y⟩
  ·rw[y];exact go r p xs
  ·rw[y];exact OD.notup a p xs
theorem OD.view (g:Same F H):∀{d:D}{v:V}{h:Hp},Same h H->OD K d v F h->DR K d v H
 |.nd k ds,_,_,g',q=>by
  unfold OD at q;unfold DR;obtain⟨p,us,h0,h2,e,c,j,r⟩:=q;exact⟨p,us,e,c.nd g (j.l.trans g'),go (j.r.trans g') r⟩
 |.non,_,_,_,q=>by unfold OD at q;exact q.2.mono g
 |.bl _,_,_,_,q=>by unfold OD at q;exact q.2.mono g
 |.int _,_,_,_,q=>by unfold OD at q;exact q.2.mono g
 |.str _,_,_,_,q=>by unfold OD at q;exact q.2.mono g
 |.fz _,_,_,_,q=>by unfold OD at q;exact q.2.mono g
 |.pin _,_,_,_,q=>by unfold OD at q;exact q.2.mono g
 |.gone,_,_,_,q=>by unfold OD at q;exact q.2.mono g
where go:∀{ds:List D}{us:List V}{h:Hp},Same h H->ODs K ds us F h->DRs K ds us H
 |[],_,_,_,q=>by unfold ODs at q;unfold DRs;exact q.1
 |d::ds,_,_,g',q=>by
  unfold ODs at q;unfold DRs;obtain⟨v,vs,h1,h2,e,j,a,r⟩:=q;exact⟨v,vs,e,OD.view g (j.l.trans g') a,go (j.r.trans g') r⟩
theorem DR.imm (g:Tups F F'):∀{d:D}{v:V},d.imm=uF->DR K d v F->DR K d v F'
 |.nd .tup ds,_,z,q=>by unfold D.imm at z;unfold DR at q ⊢;obtain⟨p,us,e,n,r⟩:=q;exact⟨p,us,e,g _ _ n,go z r⟩
 |.nd .ktup ds,_,z,q=>by unfold D.imm at z;unfold DR at q ⊢;obtain⟨p,us,e,n,r⟩:=q;exact⟨p,us,e,n,go z r⟩
 |.nd .scr _,_,z,_=>by simp[D.imm]at z
 |.nd .lst _,_,z,_=>by simp[D.imm]at z
 |.nd (.dct _) _,_,z,_=>by simp[D.imm]at z
 |.nd (.obj _ _) _,_,z,_=>by simp[D.imm]at z
 |.non,_,_,q=>by unfold DR at q ⊢;exact q
 |.bl _,_,_,q=>by unfold DR at q ⊢;exact q
 |.int _,_,_,q=>by unfold DR at q ⊢;exact q
 |.str _,_,_,q=>by unfold DR at q ⊢;exact q
 |.fz d,_,z,q=>by unfold D.imm at z;unfold DR at q ⊢;exact DR.imm g z q
 |.pin _,_,z,_=>by simp[D.imm]at z
 |.gone,_,z,_=>by simp[D.imm]at z
where go:∀{ds:List D}{us:List V},D.imms ds=uF->DRs K ds us F->DRs K ds us F'
 |[],_,_,q=>by unfold DRs at q ⊢;exact q
 |d::ds,_,z,q=>by
  unfold D.imms at z;obtain⟨z1,z2⟩:=mj.mp z;unfold DRs at q ⊢;obtain⟨v,vs,e,a,r⟩:=q;exact⟨v,vs,e,DR.imm g z1 a,go z2 r⟩
theorem OD.of_imm (hn:∀p,h p=uE):∀{d:D}{v:V},d.imm=uF->DR K d v F->OD K d v F h
 |.nd .tup ds,_,z,q=>by
  unfold D.imm at z;unfold DR at q;unfold OD;obtain⟨p,us,e,n,r⟩:=q;exact⟨p,us,h,h,e,⟨n,hn⟩,λq=>.inl ⟨hn q,rfl⟩,go z r⟩
 |.nd .ktup ds,_,z,q=>by
  unfold D.imm at z;unfold DR at q;unfold OD;obtain⟨p,us,e,n,r⟩:=q;exact⟨p,us,h,h,e,⟨n,hn⟩,λq=>.inl ⟨hn q,rfl⟩,go z r⟩
 |.nd .scr _,_,z,_=>by simp[D.imm]at z
 |.nd .lst _,_,z,_=>by simp[D.imm]at z
 |.nd (.dct _) _,_,z,_=>by simp[D.imm]at z
 |.nd (.obj _ _) _,_,z,_=>by simp[D.imm]at z
 |.non,_,_,q=>by unfold OD;exact⟨hn,q⟩
 |.bl _,_,_,q=>by unfold OD;exact⟨hn,q⟩
 |.int _,_,_,q=>by unfold OD;exact⟨hn,q⟩
 |.str _,_,_,q=>by unfold OD;exact⟨hn,q⟩
 |.fz d,_,_,q=>by unfold OD;exact⟨hn,q⟩
 |.pin _,_,z,_=>by simp[D.imm]at z
 |.gone,_,z,_=>by simp[D.imm]at z
where go:∀{ds:List D}{us:List V},D.imms ds=uF->DRs K ds us F->ODs K ds us F h
 |[],_,_,q=>by unfold DRs at q;unfold ODs;exact⟨q,hn⟩
 |d::ds,_,z,q=>by
  unfold D.imms at z;obtain⟨z1,z2⟩:=mj.mp z;unfold DRs at q;unfold ODs;obtain⟨v,vs,e,a,r⟩:=q;exact⟨v,vs,h,h,e,λq=>.inl ⟨hn q,rfl⟩,OD.of_imm hn z1 a,go z2 r⟩
theorem OD.newImm (g:Tups F F'):∀{d:D}{v:V}{h:Hp},d.new=uF->OD K d v F h->OD K d v F' h
 |.nd k ds,_,_,z,q=>by unfold D.new at z;unfold OD at q ⊢;obtain⟨p,us,h0,h2,e,c,j,r⟩:=q;exact⟨p,us,h0,h2,e,c.mono g,j,go z r⟩
 |.non,_,_,_,q=>by unfold OD at q ⊢;exact⟨q.1,q.2.imm g rfl⟩
 |.bl _,_,_,_,q=>by unfold OD at q ⊢;exact⟨q.1,q.2.imm g rfl⟩
 |.int _,_,_,_,q=>by unfold OD at q ⊢;exact⟨q.1,q.2.imm g rfl⟩
 |.str _,_,_,_,q=>by unfold OD at q ⊢;exact⟨q.1,q.2.imm g rfl⟩
 |.fz d,_,_,z,q=>by unfold D.new at z;unfold OD at q ⊢;exact⟨q.1,q.2.imm g (by unfold D.imm;exact z)⟩
 |.pin _,_,_,z,_=>by simp[D.new]at z
 |.gone,_,_,z,_=>by simp[D.new]at z
where go:∀{ds:List D}{us:List V}{h:Hp},D.news ds=uF->ODs K ds us F h->ODs K ds us F' h
 |[],_,_,_,q=>by unfold ODs at q ⊢;exact q
 |d::ds,_,_,z,q=>by
  unfold D.news at z;obtain⟨z1,z2⟩:=mj.mp z;unfold ODs at q ⊢;obtain⟨v,vs,h1,h2,e,j,a,r⟩:=q;exact⟨v,vs,h1,h2,e,j,OD.newImm g z1 a,go z2 r⟩
end
abbrev tyD (K:l4):Ty D:=⟨DR K,λg h=>h.mono g⟩
abbrev owD (K:l4):Own D:=⟨OD K,tyD K,λg h=>h.mono g,λd h=>OD.view zau_ (zeZ_ d) h,λh=>h.notup⟩
noncomputable abbrev Env:=List (Option D)
def slot (K:l4):Option D->Sl
 |none=>.dead
 |some d=>.ow (owD K) d
abbrev Lof (K:l4)(env:Env):List Sl:=env.map (slot K)
noncomputable def D.un:D->D
 |.fz d=>d.un
 |d=>d
def D.vw (d:D):D:=if d.imm then d else match d with |.fz _=>d |_=>.fz d
section
variable {K:mT}{E:XK}{F h h1 h2 H:Hp}{d:D}{ds:List D}{v:V}{us:List V}{k:Nd}{p:lu}{Q:VK}
theorem DR.un:∀{d:D},DR K d v H->DR K d.un v H
 |.fz d,q=>by unfold DR at q;unfold D.un;exact DR.un q
 |.non,q=>q
 |.bl _,q=>q
 |.int _,q=>q
 |.str _,q=>q
 |.nd _ _,q=>q
 |.pin _,q=>q
 |.gone,q=>q
theorem DR.int {i:Int}(h:DR K (.int i) v H):v=.int i:=by unfold DR at h;exact h
theorem DR.str {l:List Nat}(h:DR K (.str l) v H):v=tx l:=by unfold DR at h;exact h
theorem DR.bl {b:Bool}(h:DR K (.bl b) v H):v=.bl b:=by unfold DR at h;exact h
theorem DR.non (h:DR K .non v H):v=.non:=by unfold DR at h;exact h
theorem DR.nd (h:DR K (.nd k ds) v H):∃p us,v=.ref p/\NdR K k p us H/\DRs K ds us H:=by unfold DR at h;exact h
theorem OD.vw (hn:∀p,h p=uE)(r:DR K d v F):OD K d.vw v F h:=by
 unfold D.vw;split
 ·exact OD.of_imm hn (by assumption) r
 ·split
  ·unfold OD;exact⟨hn,r⟩
  ·unfold OD;exact⟨hn,by unfold DR;exact r⟩
theorem ODs.vw (hn:∀p,h p=uE):∀{ds:List D}{us:List V},DRs K ds us F->ODs K (ds.map D.vw) us F h
 |[],_,q=>by unfold DRs at q;unfold ODs;exact⟨q,hn⟩
 |d::ds,_,q=>by
  unfold DRs at q;obtain⟨v,vs,e,a,r⟩:=q;rw[lq];unfold ODs;exact⟨v,vs,h,h,e,λq=>.inl ⟨hn q,rfl⟩,OD.vw hn a,ODs.vw hn r⟩
theorem DRs.len (h:DRs K ds us H):ds.length=us.length:=Paired.length (DRs.prs.mp h)
theorem DRs.get (h:DRs K ds us H)(i:Nat):(ds[i]?=uE/\us[i]?=uE)\/∃d v,ds[i]?=uD d/\us[i]?=uD v/\DR K d v H:=Prs.get (T:=tyD K) (DRs.prs.mp h) i
theorem DRs.app {es:List D}{ws:List V}(a:DRs K ds us H)(b:DRs K es ws H):DRs K (ds++es) (us++ws) H:=DRs.prs.mpr (Prs.append (T:=tyD K) (DRs.prs.mp a) (DRs.prs.mp b))
theorem DRs.atI (h:DRs K ds us H){i:Int}{d:D}(e:atI ds i=uD d):∃v,L2.atI us i=uD v/\DR K d v H:=zmG_ (T:=tyD K) (DRs.prs.mp h) e
theorem gotV (q:After K (.ok d.vw) E F H (OwnK (owD K) H Q))(hs:Same F H)(r:DR K d v F):Q v H:=
 q.ok hs v (λ_=>uE) (λp z=>absurd rfl z) (λp=>.inr rfl) (λp o z=>by cases z) (OD.vw (λ_=>rfl) r)
theorem got (q:After K (.ok d) E F H (OwnK (owD K) H Q))(hs:Same F H)(r:DR K d v F)(i:d.imm=uF:=by rfl):Q v H:=
 q.ok hs v (λ_=>uE) (λp z=>absurd rfl z) (λp=>.inr rfl) (λp o z=>by cases z) (OD.of_imm (λ_=>rfl) i r)
theorem gotI {i:Int}(q:After K (.ok (.int i)) E F H (OwnK (owD K) H Q))(hs:Same F H):Q (.int i) H:=got q hs (by unfold DR;rfl)
theorem gotS {i:List Nat}(q:After K (.ok (.str i)) E F H (OwnK (owD K) H Q))(hs:Same F H):Q (tx i) H:=got q hs (by unfold DR;rfl)
theorem gotB {i:Bool}(q:After K (.ok (.bl i)) E F H (OwnK (owD K) H Q))(hs:Same F H):Q (.bl i) H:=got q hs (by unfold DR;rfl)
theorem gotN (q:After K (.ok .non) E F H (OwnK (owD K) H Q))(hs:Same F H):Q .non H:=got q hs (by unfold DR;rfl)
theorem no_r {h:Hp}(z:Hp)(hz:∀p,z p=uE):Jn h z h:=λp=>.inr ⟨hz p,rfl⟩
theorem newL (q:After K (.ok (.nd .lst (ds.map .vw))) E F H (OwnK (owD K) H Q))(hs:Same F H)(hp:H p=uE)(r:DRs K ds us F):Q (.ref p) (upd H p (.lst us)):=by
 refine q F _ (.heap hs (zay_ hp _)) (.ref p) (one p (.lst us)) (λb z=>?_) (λb=>?_) (λb o z=>?_) ?_
 ·rw[zi_]at z;split at z
  ·rename_i e;rw[e];exact hp
  ·exact absurd rfl z
 ·rw[zi_];split
  ·rename_i e;rw[e];exact .inl (hs.free hp)
  ·exact .inr rfl
 ·rw[zi_]at z;split at z
  ·rename_i e;rw[e];cases z;exact zH_
  ·cases z
 ·show OD K _ _ _ _
  unfold OD;exact⟨p,us,_,λ_=>uE,rfl,rfl,no_r _ λ_=>rfl,ODs.vw (λ_=>rfl) r⟩
def addD (a b:D):Mo D:=match a.un,b.un with
 |.int i,.int j=>.ok (.int (i+j))
 |.str x,.str y=>.lim (x.length+y.length) (.ok (.str (x++y)))
 |.nd .lst xs,.nd .lst ys=>.lim (xs.length+ys.length) (.ok (.nd .lst ((xs++ys).map .vw)))
 |_,_=>.no
abbrev Op2D (K:l4)(m:R2)(E:XK)(g:D->D->Mo D):Prop:=Op2O K m E (tyD K) (tyD K) g (owD K)
theorem zq6_:Op2D K mAdd E addD:=by
 intro a b x y F H Q hs ha hb q;have ha:=DR.un ha;have hb:=DR.un hb;unfold addD at q;split at q
 ·rename_i e1 e2;rw[e1]at ha;rw[e2]at hb;cases ha.int;cases hb.int;exact gotI q hs
 ·rename_i e1 e2;rw[e1]at ha;rw[e2]at hb;cases ha.str;cases hb.str
  obtain⟨c,q⟩:=q.lim;exact⟨c,gotS q hs⟩
 ·rename_i e1 e2;rw[e1]at ha;rw[e2]at hb
  obtain⟨p,us,rfl,n,r⟩:=ha.nd;obtain⟨p2,ws,rfl,n2,r2⟩:=hb.nd;obtain⟨c,q⟩:=q.lim;exact⟨us,ws,hs _ _ n,hs _ _ n2,by rw[<- r.len,<- r2.len];exact c,λl hl=>newL q hs hl (r.app r2)⟩
 ·exact q.elim
def i2D (g:Int->Int->Mo D)(a b:D):Mo D:=match a.un,b.un with |.int i,.int j=>g i j |_,_=>.no
theorem zl0_ {g:Int->Int->V}{f:Int->Int->D}(h:∀i j F,DR K (f i j) (g i j) F)(im:∀i j,(f i j).imm=uF):Op2D K (mI0 g) E (i2D λi j=>.ok (f i j)):=by
 intro a b x y F H Q hs ha hb q;have ha:=DR.un ha;have hb:=DR.un hb;unfold i2D at q;split at q
 ·rename_i e1 e2;rw[e1]at ha;rw[e2]at hb;cases ha.int;cases hb.int;exact got q hs (h _ _ _) (im _ _)
 ·exact q.elim
theorem od_i {C:Int->Int->Prop}[∀i j,Decidable (C i j)]{g:Int->Int->V}{f:Int->Int->D}(h:∀i j F,DR K (f i j) (g i j) F)(im:∀i j,(f i j).imm=uF):Op2D K (mI C g) E (i2D λi j=>.grd (C i j) (.ok (f i j))):=by
 intro a b x y F H Q hs ha hb q;have ha:=DR.un ha;have hb:=DR.un hb;unfold i2D at q;split at q
 ·rename_i e1 e2;rw[e1]at ha;rw[e2]at hb;cases ha.int;cases hb.int
  obtain⟨c,q⟩:=q.grd;exact⟨c,got q hs (h _ _ _) (im _ _)⟩
 ·exact q.elim
abbrev subD:=i2D λi j=>.ok (.int (i-j))
abbrev modD:=i2D λi j=>.grd (0<j) (.ok (.int (i % j)))
abbrev divD:=i2D λi j=>.grd (CDivG i j) (.ok (.int (i / j)))
theorem zqI_:Op2D K mSub E subD:=zl0_ (λ_ _ _=>by unfold DR;rfl) λ_ _=>rfl
theorem zqo_:Op2D K mMod E modD:=od_i (C:=λ_ j=>0<j) (λ_ _ _=>by unfold DR;rfl) λ_ _=>rfl
theorem zp7_:Op2D K mDivG E divD:=od_i (λ_ _ _=>by unfold DR;rfl) λ_ _=>rfl
abbrev leD:=i2D λi j=>.ok (.bl (decide (i<=j)))
abbrev gtD:=i2D λi j=>.ok (.bl (decide (j<i)))
abbrev geD:=i2D λi j=>.ok (.bl (decide (j<=i)))
abbrev ltD:=i2D λi j=>.ok (.bl (decide (i<j)))
theorem od_le:Op2D K mLe E leD:=zl0_ (λ_ _ _=>by unfold DR;rfl) λ_ _=>rfl
theorem od_gt:Op2D K mGt E gtD:=zl0_ (λ_ _ _=>by unfold DR;rfl) λ_ _=>rfl
theorem od_ge:Op2D K mGe E geD:=zl0_ (λ_ _ _=>by unfold DR;rfl) λ_ _=>rfl
theorem od_lt:Op2D K mLt E ltD:=zl0_ (λ_ _ _=>by unfold DR;rfl) λ_ _=>rfl
def mulD (a b:D):Mo D:=match a.un,b.un with
 |.int i,.int j=>.grd (IntMulOk i j) (.ok (.int (i*j)))
 |.str x,.int n=>.grd (CRep x.length n) (.ok (.str (repL x n)))
 |.nd .lst xs,.int n=>.grd (CRep xs.length n) (.ok (.nd .lst ((repL xs n).map .vw)))
 |_,_=>.no
theorem DRs.rep (r:DRs K ds us H)(n:Int):DRs K (repL ds n) (repL us n) H:=DRs.prs.mpr (zm2_ (T:=tyD K) (DRs.prs.mp r) n)
theorem DRs.cut (r:DRs K ds us H)(lo hi:Option Int):DRs K (cutG ds lo hi) (cutV us lo hi) H:=DRs.prs.mpr (zlW_ (T:=tyD K) (DRs.prs.mp r) lo hi)
theorem zqs_:Op2D K mMulX E mulD:=by
 intro a b x y F H Q hs ha hb q;have ha:=DR.un ha;have hb:=DR.un hb;unfold mulD at q;split at q
 ·rename_i e1 e2;rw[e1]at ha;rw[e2]at hb;cases ha.int;cases hb.int
  obtain⟨c,q⟩:=q.grd;exact⟨c,gotI q hs⟩
 ·rename_i e1 e2;rw[e1]at ha;rw[e2]at hb;cases ha.str;cases hb.int
  obtain⟨c,q⟩:=q.grd;exact⟨c,gotS q hs⟩
 ·rename_i e1 e2;rw[e1]at ha;rw[e2]at hb
  obtain⟨p,us,rfl,n,r⟩:=ha.nd;cases hb.int;obtain⟨c,q⟩:=q.grd;exact⟨us,hs _ _ n,by rw[<- r.len];exact c,λl hl=>newL q hs hl (r.rep _)⟩
 ·exact q.elim
def ixD (a b:D):Mo D:=match a.un,b.un with
 |.nd .lst xs,.int i=>.opt ((atI xs i).map .vw)
 |.nd .tup xs,.int i=>.opt ((atI xs i).map .vw)
 |.nd .scr xs,.int i=>.opt ((atI xs i).map .vw)
 |.nd .ktup xs,.int i=>.opt ((atI xs i).map .vw)
 |.str l,.int i=>.lim l.length (.opt ((atI l i).map λc=>.str [c]))
 |_,_=>.no
theorem ziI_ {ds:List D}{i:Int}(hs:Same F H)(n:SqL K H p us\/SqT K H p us)(r:DRs K ds us F)(q:After K (.opt ((atI ds i).map .vw)) E F H (OwnK (owD K) H Q)):mIx K (.ref p) (.int i) H Q:=by
 obtain⟨d,e,q⟩:=q.opt;obtain⟨d',e',rfl⟩:=lP.mp e;obtain⟨v,e2,rv⟩:=r.atI e';refine⟨us,n,?_⟩;rw[e2];exact gotV q hs rv
theorem od_ix:Op2D K (mIx K) E ixD:=by
 intro a b x y F H Q hs ha hb q;have ha:=DR.un ha;have hb:=DR.un hb;unfold ixD at q;split at q
 ·rename_i e1 e2;rw[e1]at ha;rw[e2]at hb;obtain⟨p,us,rfl,n,r⟩:=ha.nd;cases hb.int;exact ziI_ hs (.inl (.of (hs _ _ n))) r q
 ·rename_i e1 e2;rw[e1]at ha;rw[e2]at hb;obtain⟨p,us,rfl,n,r⟩:=ha.nd;cases hb.int;exact ziI_ hs (.inr (.of (hs _ _ n))) r q
 ·rename_i e1 e2;rw[e1]at ha;rw[e2]at hb;obtain⟨p,us,rfl,n,r⟩:=ha.nd;cases hb.int;exact ziI_ hs (.inl (hs.seq n)) r q
 ·rename_i e1 e2;rw[e1]at ha;rw[e2]at hb;obtain⟨p,us,rfl,n,r⟩:=ha.nd;cases hb.int;exact ziI_ hs (.inr (.inr n)) r q
 ·rename_i l i e1 e2;rw[e1]at ha;rw[e2]at hb;cases ha.str;cases hb.int
  obtain⟨z,q⟩:=q.lim;obtain⟨d,e,q⟩:=q.opt;obtain⟨c,e',rfl⟩:=lP.mp e;refine⟨z,?_⟩;show(match atI l i with |some c=>Q (tx [c]) H |none=>False)
  rw[e'];exact gotS q hs
 ·exact q.elim
def keyD (d:D):Option Key:=match d.un with
 |.int i=>uD (.inl i)
 |.str l=>uD (.inr ⟨l.toArray⟩)
 |_=>uE
theorem zng_ {k:Key}(e:keyD d=uD k)(h:DR K d v H):keyV v=uD k/\v=kV k:=by
 have h:=DR.un h;unfold keyD at e;cases hd:d.un with
 |int i=>rw[hd]at e h;cases e;cases h.int;exact⟨rfl,rfl⟩
 |str l=>rw[hd]at e h;cases e;cases h.str;exact⟨rfl,rfl⟩
 |_=>rw[hd]at e;cases e
def valD (ks:List Key)(ds:List D)(k:Key):Option D:=((ks.zip ds).find? λq=>decide (q.1=k)).map (·.2)
theorem zqW_ {k:Key}:∀{ks:List Key}{ds:List D}{us:List V},DRs K ds us H->(valD ks ds k=uE/\valV (ks.zip us) k=uE)\/∃d v,valD ks ds k=uD d/\valV (ks.zip us) k=uD v/\DR K d v H
 |[],ds,us,h=>.inl ⟨rfl,rfl⟩
 |k0::ks,[],us,h=>by unfold DRs at h;subst h;exact .inl ⟨rfl,rfl⟩
 |k0::ks,d::ds,us,h=>by
  unfold DRs at h;obtain⟨v,vs,rfl,a,r⟩:=h;by_cases e:k0=k
  ·subst e
   exact .inr ⟨d,v,by simp[valD],by simp[valV],a⟩
  ·rcases zqW_ (k:=k) (ks:=ks) r with⟨h1,h2⟩|⟨d',v',h1,h2,h3⟩
   ·exact .inl ⟨by unfold valD at h1 ⊢;rw[mh,oT (by simpa using e)];exact h1,by unfold valV at h2 ⊢;rw[mh,oT (by simpa using e)];exact h2⟩
   ·exact .inr ⟨d',v',by unfold valD at h1 ⊢;rw[mh,oT (by simpa using e)];exact h1,by unfold valV at h2 ⊢;rw[mh,oT (by simpa using e)];exact h2,h3⟩
def dgetD (a b:D):Mo D:=match a.un,keyD b with
 |.nd (.dct ks) ds,uD k=>.opt ((valD ks ds k).map .vw)
 |_,_=>.no
def dinD (neg:Bool)(b a:D):Mo D:=match a.un,keyD b with
 |.nd (.dct ks) ds,uD k=>.ok (.bl (if neg then !(valD ks ds k).isSome else(valD ks ds k).isSome))
 |_,_=>.no
theorem zeu_ {x y:V}{R:lu->List (Key×V)->Key->Prop}{kvs:List (Key×V)}{k:Key}(hx:x=.ref p)(hy:keyV y=uD k)(h:H p=uD (.dK kvs))(r:R p kvs k):atD x y H R:=by
 subst hx;unfold atD;dsimp only;rw[hy];exact⟨kvs,h,r⟩
section
variable {t t1 t2:TE}{r r1 r2:Mo D}{env:Env}
abbrev EvX (K:l4)(t:TE)(E:XK)(env:Env)(r:Mo D):Prop:=EvO K t E (Lof K env) r (owD K)
abbrev EvV (K:l4)(t:TE)(E:XK)(env:Env)(r:Mo D):Prop:=EvF K t E (Lof K env) r (tyD K)
theorem ex_v (h:EvX K t E env r):EvV K t E env r:=h.fr
theorem ex_op {m:R2}{g:D->D->Mo D}(o:Op2D K m E g)(h1:EvX K t1 E env r1)(h2:EvX K t2 E env r2):EvX K (tOp m t1 t2) E env (r1.bind λa=>r2.bind λb=>g a b):=zrJ_ o (ex_v h1) (ex_v h2)
def getE (env:Env)(i:Nat):Mo D:=match env[i]? with |some (uD d)=>.ok d.vw |_=>.no
theorem zpU_ (i:Nat):EvX K (mVar i) E env (getE env i):=by
 intro σ F H Q hL hs q;unfold getE at q;split at q
 ·rename_i d e
  obtain⟨v,ev,rv⟩:=hL i (slot K (uD d)) (by rw[lB,e];rfl)
  unfold mVar;cases z:σ[i]? with
  |none=>rw[z]at ev;cases ev
  |some o=>rw[z]at ev;cases(show o=uD v from ev);exact gotV q hs rv
 ·exact q.elim
theorem ex_c {d:D}{v:V}(h:∀F,DR K d v F)(i:d.imm=uF:=by rfl):EvX K (tC v) E env (.ok d):=λσ F H Q hL hs q=>got q hs (h F) i
def blD (d:D):Mo Bool:=match d.un with |.bl b=>.ok b |_=>.no
theorem zfy_ (h:EvX K t E env r):EvT K (mTest t) E (Lof K env) (r.bind blD):=by
 intro σ F H Q hL hs q;refine ex_v h σ F H _ hL hs (q.bind.imp λa F1 H1 x1 k1 v1 aH=>?_)
 have ha:=DR.un aH;unfold blD at k1;split at k1
 ·rename_i b e;rw[e]at ha;cases ha.bl;exact k1.ok x1.2.1
 ·exact k1.elim
theorem zre_ (h:EvX K t E env r):EvX K (mNotV t) E env (r.bind λa=>(blD a).bind λb=>.ok (.bl (!b))):=by
 intro σ F H Q hL hs q;refine ex_v h σ F H _ hL hs (q.bind.imp λa F1 H1 x1 k1 v1 aH=>?_)
 have ha:=DR.un aH;unfold blD at k1;split at k1
 ·rename_i b e;rw[e]at ha;cases ha.bl
  exact gotB (k1.imp λa F3 H3 x3 k3=>k3.back x1.2.2.1) x1.2.1
 ·exact k1.elim
def andD (a:D)(r:Mo D):Mo D:=(blD a).bind λb=>if b then r else .ok (.bl uG)
def orD (a:D)(r:Mo D):Mo D:=(blD a).bind λb=>if b then .ok (.bl uF)else r
theorem zqU_ (h1:EvX K t1 E env r1)(h2:EvX K t2 E env r2):EvX K (mAndV t1 t2) E env (r1.bind λa=>andD a r2):=by
 intro σ F H Q hL hs q;refine ex_v h1 σ F H _ hL hs (q.bind.imp λa F1 H1 x1 k1 v1 aH=>?_)
 have ha:=DR.un aH;unfold andD blD at k1;split at k1
 ·rename_i b e;rw[e]at ha;cases ha.bl
  refine⟨λz=>?_,λz=>?_⟩
  ·subst z;exact h2 σ F1 H1 _ (hL.mono x1.1) x1.2.1 (After.imp (show After K r2 E F1 H1 _ from k1) λa F3 H3 x3 k3=>k3.back x1.2.2.1)
  ·subst z;exact gotB (After.imp (show After K (.ok (D.bl uG)) E F1 H1 (OwnK (owD K) H Q)from k1) λa F3 H3 x3 k3=>k3.back x1.2.2.1) x1.2.1
 ·exact k1.elim
theorem ex_or (h1:EvX K t1 E env r1)(h2:EvX K t2 E env r2):EvX K (mOrV t1 t2) E env (r1.bind λa=>orD a r2):=by
 intro σ F H Q hL hs q;refine ex_v h1 σ F H _ hL hs (q.bind.imp λa F1 H1 x1 k1 v1 aH=>?_)
 have ha:=DR.un aH;unfold orD blD at k1;split at k1
 ·rename_i b e;rw[e]at ha;cases ha.bl
  refine⟨λz=>?_,λz=>?_⟩
  ·subst z;exact gotB (After.imp (show After K (.ok (D.bl uF)) E F1 H1 (OwnK (owD K) H Q)from k1) λa F3 H3 x3 k3=>k3.back x1.2.2.1) x1.2.1
  ·subst z;exact h2 σ F1 H1 _ (hL.mono x1.1) x1.2.1 (After.imp (show After K r2 E F1 H1 _ from k1) λa F3 H3 x3 k3=>k3.back x1.2.2.1)
 ·exact k1.elim
theorem ex_if {tt:TT}{b:Mo Bool}(ht:EvT K tt E (Lof K env) b)(h1:EvX K t1 E env r1)(h2:EvX K t2 E env r2):EvX K (mIf tt t1 t2) E env (b.bind λc=>if c then r1 else r2):=zq8_ ht h1 h2
def negD (a:D):Mo D:=match a.un with |.int i=>.ok (.int (-i))|_=>.no
theorem zrD_ (h:EvX K t E env r):EvX K (mNeg t) E env (r.bind negD):=by
 intro σ F H Q hL hs q;refine ex_v h σ F H _ hL hs (q.bind.imp λa F1 H1 x1 k1 v1 aH=>?_)
 have ha:=DR.un aH;unfold negD at k1;split at k1
 ·rename_i b e;rw[e]at ha;cases ha.int
  exact gotI (k1.imp λa F3 H3 x3 k3=>k3.back x1.2.2.1) x1.2.1
 ·exact k1.elim
end
end
section
variable {K:mT}{E:XK}{F F' h h1 h2 H H':Hp}{d:D}{ds:List D}{v:V}{us:List V}{k:Nd}{p:lu}{Q:VK}{env:Env}{t:TE}{r r1 r2:Mo D}{ta:TA}{ra:Mo (List D)}
def allT (f:D->D->Option Bool):List D->List D->Option Bool
 |a::as,b::bs=>(f a b).bind λx=>(allT f as bs).map λy=>x && y
 |_,_=>uD uF
def D.flat?:D->Option V
 |.non=>uD .non
 |.bl b=>uD (.bl b)
 |.int i=>uD (.int i)
 |.str l=>uD (tx l)
 |_=>uE
noncomputable def sqT:D->Option (Bool×List D)
 |.nd .lst xs=>uD (uF,xs)|.nd .tup xs=>uD (uG,xs)|_=>uE
def eqS (f:D->D->Option Bool)(a b:D):Option Bool:=match sqT a with
 |none=>(match sqT b with |none=>a.flat?.bind λx=>b.flat?.map λy=>eqV x y |some _=>a.flat?.map λ_=>uG)
 |some (k,xs)=>(match sqT b with
  |none=>b.flat?.map λ_=>uG
  |some (k',ys)=>bif k == k' then(bif k then(if xs.length=ys.length then allT f xs ys else uD uG)else(allT f xs ys).map λb=>b && xs.length == ys.length)else uD uG)
def eqT:Nat->D->D->Option Bool
 |0,a,b=>a.un.flat?.bind λx=>b.un.flat?.map λy=>eqV x y
 |n+1,a,b=>eqS (eqT n) a.un b.un
theorem zpj_ {k:Bool}{xs:List D}(e:sqT d=uD (k,xs))(h:DR K d v H):∃p us,v=.ref p/\DRs K xs us H/\H p=uD (bif k then .lst us else .tup us):=by
 cases d with
 |nd k ds=>
  obtain⟨p,us,rfl,m,r⟩:=h.nd;cases k with
  |lst=>cases e;exact⟨p,us,rfl,r,m⟩
  |tup=>cases e;exact⟨p,us,rfl,r,m⟩
  |_=>cases e
 |_=>cases e
theorem zd0_ {x:V}(e:d.flat?=uD x)(h:DR K d v H):v=x/\flatV x=uF:=by
 cases d with
 |non=>cases e;exact⟨h.non,rfl⟩
 |bl=>cases e;exact⟨h.bl,rfl⟩
 |int=>cases e;exact⟨h.int,rfl⟩
 |str=>cases e;exact⟨h.str,rfl⟩
 |_=>cases e
theorem zkr_ {f:D->D->Option Bool}:∀{xs ys:List D}{b:Bool},allT f xs ys=uD b->∃e:Nat->Bool,(∀(i:Nat) x y,xs[i]?=uD x->ys[i]?=uD y->f x y=uD (e i))/\b=(lH (min xs.length ys.length)).all e
 |[],_,_,h=>by cases h;exact⟨λ_=>uF,λi x y hx=>by simp at hx,by simp⟩
 |_::_,[],_,h=>by cases h;exact⟨λ_=>uF,λi x y hx hy=>by simp at hy,by simp⟩
 |x::xs,y::ys,b,h=>by
  unfold allT at h;obtain⟨c,hc,h⟩:=lM.mp h;obtain⟨c',aW,rfl⟩:=lP.mp h;obtain⟨e,h1,h2⟩:=zkr_ aW;refine⟨λi=>match i with |0=>c |i+1=>e i,λi u w hu hw=>?_,?_⟩
  ·cases i with
   |zero=>simp at hu hw;subst hu hw;exact hc
   |succ i=>exact h1 i u w (by simpa using hu) (by simpa using hw)
  ·rw[h2,ly,ly,Nat.succ_min_succ,List.range_succ_eq_map,mV,rA];rfl
theorem eqt_D:∀{n:Nat}{a b:D}{x y:V}{c:Bool},eqT n a b=uD c->DR K a x H->DR K b y H->EqD K H n x y c:=by
 intro n;induction n with
 |zero=>
  intro a b x y c h ha hb;unfold eqT at h;obtain⟨x',hx,h⟩:=lM.mp h;obtain⟨y',hy,rfl⟩:=lP.mp h;obtain⟨rfl,f1⟩:=zd0_ hx (DR.un ha);obtain⟨rfl,f2⟩:=zd0_ hy (DR.un hb);exact .flat f1 f2
 |succ n ih=>
  intro a b x y c h ha hb;have ha:=DR.un ha;have hb:=DR.un hb;have sub:∀{xs ys:List D}{us ws:List V}{e:Nat->Bool},DRs K xs us H->DRs K ys ws H->(∀(i:Nat) x y,xs[i]?=uD x->ys[i]?=uD y->eqT n x y=uD (e i))->∀(i:Nat) u w,us[i]?=uD u->ws[i]?=uD w->EqD K H n u w (e i):=λr r2 g i u w hu hw=>by
   rcases r.get i with⟨_,z⟩|⟨d,v,e1,e2,e3⟩
   ·rw[z]at hu;cases hu
   rcases r2.get i with⟨_,z⟩|⟨d',v',g1,g2,g3⟩
   ·rw[z]at hw;cases hw
   rw[e2]at hu;rw[g2]at hw;cases hu;cases hw;exact ih (g i _ _ e1 g1) e3 g3
  have fl:∀{a b:D},DR K a x H->DR K b y H->(a.flat?.bind λx=>b.flat?.map λy=>eqV x y)=uD c->EqD K H (n+1) x y c:=λha hb h=>by
   obtain⟨x',hx,h⟩:=lM.mp h;obtain⟨y',hy,rfl⟩:=lP.mp h;obtain⟨rfl,f1⟩:=zd0_ hx ha;obtain⟨rfl,f2⟩:=zd0_ hy hb;exact(EqD.flat f1 f2).le (ny _)
  have h:eqS (eqT n) a.un b.un=uD c:=h;unfold eqS at h;cases ea:sqT a.un with
  |none=>
   rw[ea]at h;cases eb:sqT b.un with
   |none=>rw[eb]at h;exact fl ha hb h
   |some q=>
    rw[eb]at h;obtain⟨y',hy,rfl⟩:=lP.mp h;obtain⟨rfl,f2⟩:=zd0_ hy ha;obtain⟨p,us,rfl,r,m⟩:=zpj_ (k:=q.1) (xs:=q.2) eb hb;cases z:q.1<;>rw[z]at m
    ·exact .ft (.of m) f2
    ·exact .fl (.of m) f2
  |some q=>
   rw[ea]at h;obtain⟨p,us,rfl,r1,n1⟩:=zpj_ (k:=q.1) (xs:=q.2) ea ha;obtain⟨k,xs⟩:=q;cases eb:sqT b.un with
   |none=>
    rw[eb]at h;obtain⟨y',hy,rfl⟩:=lP.mp h;obtain⟨rfl,f2⟩:=zd0_ hy hb;cases k
    ·exact .tf (.of n1) f2
    ·exact .lf (.of n1) f2
   |some q=>
    rw[eb]at h;obtain⟨q',ws,rfl,r2,n2⟩:=zpj_ (k:=q.1) (xs:=q.2) eb hb;obtain⟨k',ys⟩:=q;cases k<;>cases k'
    ·obtain⟨c',hc,rfl⟩:=lP.mp (show(allT (eqT n) xs ys).map _=_ from h)
     obtain⟨e,g1,rfl⟩:=zkr_ hc;rw[r1.len,r2.len];exact .tup e (.of n1) (.of n2) (sub r1 r2 g1)
    ·cases h;exact .tl (.of n1) (.of n2)
    ·cases h;exact .lt (.of n1) (.of n2)
    ·have h:(if xs.length=ys.length then allT (eqT n) xs ys else uD uG)=uD c:=h
     split at h
     ·rename_i hl
      obtain⟨e,g1,rfl⟩:=zkr_ h;rw[<- hl,oS,r1.len];exact .lst e (.of n1) (.of n2) (by rw[<- r1.len,<- r2.len,hl]) (sub r1 r2 g1)
     ·rename_i hl;cases h;exact .lstN (.of n1) (.of n2) (by rw[<- r1.len,<- r2.len];exact hl)
def eqD (neg:Bool)(a b:D):Mo D:=(Mo.opt (eqT 12 a b)).bind λc=>.ok (.bl (if neg then !c else c))
theorem od_eq:Op2D K (mEqA K) E (eqD uG):=by
 intro a b x y F H Q hs ha hb q;unfold eqD at q;cases e:eqT 12 a b with
 |none=>rw[e]at q;exact q.elim
 |some c=>rw[e]at q;exact⟨12,c,by decide,eqt_D e ((tyD K).mono hs ha) ((tyD K).mono hs hb),gotB q hs⟩
theorem od_ne:Op2D K (mNeA K) E (eqD uF):=by
 intro a b x y F H Q hs ha hb q;unfold eqD at q;cases e:eqT 12 a b with
 |none=>rw[e]at q;exact q.elim
 |some c=>rw[e]at q;exact⟨12,c,by decide,eqt_D e ((tyD K).mono hs ha) ((tyD K).mono hs hb),gotB q hs⟩
theorem un_fz:∀(d:D) {x:D},d.un≠.fz x
 |.fz d,x=>by unfold D.un;exact un_fz d
 |.non,_=>λz=>by cases z
 |.bl _,_=>λz=>by cases z
 |.int _,_=>λz=>by cases z
 |.str _,_=>λz=>by cases z
 |.nd _ _,_=>λz=>by cases z
 |.pin _,_=>λz=>by cases z
 |.gone,_=>λz=>by cases z
def isD (neg:Bool)(a b:D):Mo D:=match b with
 |.non=>(match a.un with |.pin _=>.no |.gone=>.no |.non=>.ok (.bl (!neg))|_=>.ok (.bl neg))
 |_=>.no
theorem zmw_ (ha:DR K d v H){neg:Bool}{b:D}{c:Mo Unit}(hc:isD neg d .non=.ok b):b=.bl (if neg then !decide (v=.non)else decide (v=.non)):=by
 have ha:=DR.un ha;unfold isD at hc;cases z:d.un with
 |non=>rw[z]at ha hc;cases ha.non;cases hc;cases neg<;>rfl
 |bl=>rw[z]at ha hc;cases ha.bl;cases hc;cases neg<;>rfl
 |int=>rw[z]at ha hc;cases ha.int;cases hc;cases neg<;>rfl
 |str=>rw[z]at ha hc;cases ha.str;cases hc;cases neg<;>rfl
 |nd=>rw[z]at ha hc;obtain⟨_,_,rfl,_⟩:=ha.nd;cases hc;cases neg<;>rfl
 |fz=>exact absurd z (un_fz d)
 |pin=>rw[z]at hc;cases hc
 |gone=>rw[z]at hc;cases hc
theorem zjg_ {neg:Bool}{a b:D}{k:D->Hp->Hp->Prop}(q:After K (isD neg a b) E F H k):b=.non/\∃c,isD neg a .non=.ok c/\After K (.ok c) E F H k:=by
 unfold isD at q ⊢;split at q
 ·refine⟨rfl,?_⟩
  split at q
  ·exact q.elim
  ·exact q.elim
  ·exact⟨_,rfl,q⟩
  ·exact⟨_,rfl,q⟩
 ·exact q.elim
theorem od_is:Op2D K mIs E (isD uG):=by
 intro a b x y F H Q hs ha hb q;obtain⟨rfl,c,e,q⟩:=zjg_ q;cases DR.non (K:=K) (H:=F) hb;cases zmw_ (c:=.no) ha e;exact gotB q hs
theorem zpw_:Op2D K mIsNot E (isD uF):=by
 intro a b x y F H Q hs ha hb q;obtain⟨rfl,c,e,q⟩:=zjg_ q;cases DR.non (K:=K) (H:=F) hb;cases zmw_ (c:=.no) ha e;exact gotB q hs
def flats:List D->Option (List V)
 |[]=>uD []
 |d::ds=>d.un.flat?.bind λx=>(flats ds).map λxs=>x::xs
theorem zjh_:∀{ds:List D}{xs us:List V},flats ds=uD xs->DRs K ds us H->us=xs/\xs.all flatV=uF
 |[],_,_,e,h=>by cases e;unfold DRs at h;exact⟨h,rfl⟩
 |d::ds,_,_,e,h=>by
  unfold flats at e;unfold DRs at h;obtain⟨x,ex,e⟩:=lM.mp e;obtain⟨xs,exs,rfl⟩:=lP.mp e;obtain⟨v,vs,rfl,a,r⟩:=h;obtain⟨rfl,f1⟩:=zd0_ ex (DR.un a);obtain⟨rfl,f2⟩:=zjh_ exs r;exact⟨rfl,by rw[mV,f1,f2];rfl⟩
def inSeq (neg:Bool)(a:D)(ys:List D):Mo D:=(Mo.opt (a.un.flat?.bind λx=>(flats ys).map λzs=>inV x zs)).bind λc=>.ok (.bl (if neg then !c else c))
def inD (neg:Bool)(a b:D):Mo D:=match b.un with
 |.str t=>(match a.un with |.str l=>.ok (.bl (if neg then !inS l t else inS l t))|_=>.no)
 |.nd .lst ys=>inSeq neg a ys
 |.nd .tup ys=>inSeq neg a ys
 |.nd .ktup ys=>inSeq neg a ys
 |_=>.no
theorem zkT_ {neg:Bool}{a:D}{ys:List D}{x:V}(hs:Same F H)(ha:DR K a x F)(n:SqL K H p us\/SqT K H p us)(r:DRs K ys us F)(q:After K (inSeq neg a ys) E F H (OwnK (owD K) H Q)):mIn K neg x (.ref p) H Q:=by
 unfold inSeq at q;cases e:(a.un.flat?.bind λx=>(flats ys).map λzs=>inV x zs)with
 |none=>rw[e]at q;exact q.elim
 |some c=>
  rw[e]at q;obtain⟨x',ex,e⟩:=lM.mp e;obtain⟨zs,ez,rfl⟩:=lP.mp e;obtain⟨rfl,f1⟩:=zd0_ ex (DR.un ha);obtain⟨rfl,f2⟩:=zjh_ ez r;exact⟨us,n,f1,f2,gotB q hs⟩
theorem od_in {neg:Bool}:Op2D K (mIn K neg) E (inD neg):=by
 intro a b x y F H Q hs ha hb q;have hb:=DR.un hb;unfold inD at q;split at q
 ·rename_i l e;rw[e]at hb;cases hb.str
  have ha:=DR.un ha;split at q
  ·rename_i e;rw[e]at ha;cases ha.str;exact gotB q hs
  ·exact q.elim
 ·rename_i e;rw[e]at hb;obtain⟨p,us,rfl,n,r⟩:=hb.nd;exact zkT_ hs ha (.inl (.of (hs _ _ n))) r q
 ·rename_i e;rw[e]at hb;obtain⟨p,us,rfl,n,r⟩:=hb.nd;exact zkT_ hs ha (.inr (.of (hs _ _ n))) r q
 ·rename_i e;rw[e]at hb;obtain⟨p,us,rfl,n,r⟩:=hb.nd;exact zkT_ hs ha (.inr (.inr n)) r q
 ·exact q.elim
def intD (d:D):Mo Int:=match d.un with |.int i=>.ok i |_=>.no
theorem ep_x (hx:EvX K t E env r):EvP K (mPart t) E (Lof K env) (r.bind λd=>(intD d).bind λi=>.ok (uD i)):=by
 intro σ F H Q hL hs q;refine ex_v hx σ F H _ hL hs (q.bind.imp λa F1 H1 x1 k1 v1 aH=>?_)
 have ha:=DR.un aH;unfold intD at k1;split at k1
 ·rename_i i e;rw[e]at ha;cases ha.int;exact k1.ok x1.2.1
 ·exact k1.elim
def slD (a:D)(lo hi:Option Int):Mo D:=match a.un with
 |.str l=>.lim l.length (.ok (.str (cutG l lo hi)))
 |.nd .lst xs=>.ok (.nd .lst ((cutG xs lo hi).map .vw))
 |.nd .scr xs=>.ok (.nd .lst ((cutG xs lo hi).map .vw))
 |_=>.no
def OwnKs (K:l4)(H:Hp)(Q:List V->Hp->Prop)(ds:List D)(F' H':Hp):Prop:=∀vs h,(∀p,h p≠uE->H p=uE)->Dj F' h->Same h H'->ODs K ds vs F' h->Q vs H'
def EvAs (K:l4)(t:TA)(E:XK)(env:Env)(r:Mo (List D)):Prop:=∀σ F H (Q:List V->Hp->Prop),HoldF (Lof K env) σ F->Same F H->After K r E F H (OwnKs K H Q)->t σ H Q
abbrev csD (K:l4):Cs (List D):=⟨DRs K,λg h=>h.mono g⟩
theorem zow_:EvAs K tNil E env (.ok []):=λσ F H Q hL hs q=>q.ok hs [] (λ_=>uE) (λp z=>absurd rfl z) (λp=>.inr rfl) (λp o z=>by cases z) (by unfold ODs;exact⟨rfl,λ_=>rfl⟩)
theorem znr_ (x:Ext F H F' H')(d:Dj F h)(s:Same h H):Dj F' h:=λp=>by
 cases z:h p with
 |none=>exact .inr rfl
 |some o=>
  left;rcases d p with y |y
  ·cases w:F' p with
   |none=>rfl
   |some o'=>have:=x.2.2.2 p y (by rw[w];exact sN _);rw[s _ _ z]at this;cases this
  ·rw[y]at z;cases z
theorem zkW_ (h1:EvX K t E env r)(h2:EvAs K ta E env ra):EvAs K (tCons t ta) E env (r.bind λa=>ra.bind λas=>.ok (a::as)):=by
 intro σ F H Q hL hs q;refine h1 σ F H _ hL hs (q.bind.imp λa F1 H1 x1 k1 v k c7 fc s1 o1=>?_)
 refine h2 σ F1 H1 _ (hL.mono x1.1) x1.2.1 (k1.bind.imp λas F2 H2 x2 k2 vs k' eY gV s2 o2=>?_)
 have d1:Dj k k':=λp=>by
  cases z:k p with
  |none=>exact .inl rfl
  |some o=>
   right;cases y:k' p with
   |none=>rfl
   |some o'=>have:=eY p (by rw[y];exact sN _);rw[s1 _ _ z]at this;cases this
 refine k2.ok x2.2.1 (v::vs) (un k k') (λp z=>?_) (λp=>?_) (λp o z=>?_) ?_
 ·unfold un at z
  cases y:k p with
  |some o=>exact c7 p (by rw[y];exact sN _)
  |none=>rw[y]at z;exact x1.2.2.1.free (eY p z)
 ·unfold un
  cases y:k p with
  |some o=>
   rcases znr_ x2 fc s1 p with w |w
   ·exact .inl w
   ·rw[y]at w;cases w
  |none=>exact gV p
 ·unfold un at z
  cases y:k p with
  |some o'=>rw[y]at z;cases z;exact x2.2.2.1 _ _ (s1 _ _ y)
  |none=>rw[y]at z;exact s2 _ _ z
 ·unfold ODs
  exact⟨v,vs,k,k',rfl,zaQ_ d1,o1.mono x2.1,o2⟩
theorem zix_ (h:EvAs K ta E env ra):EvA K ta E (Lof K env) ra (csD K):=by
 intro σ F H Q hL hs q;refine h σ F H Q hL hs ?_;cases ra with
 |ok a=>
  intro F' H' x vs h' fresh d s o;refine q (un F' h') H' ⟨x.1.trans zau_,λp o e=>?_,x.2.2.1,λp a b=>?_⟩ vs (OD.view.go zau_ (zeZ_ d) o)
  ·unfold un at e
   cases z:F' p with
   |some w=>rw[z]at e;cases e;exact x.2.1 _ _ z
   |none=>rw[z]at e;exact s _ _ e
  ·unfold un at b
   cases z:F' p with
   |some w=>exact x.2.2.2 p a (by rw[z];exact sN _)
   |none=>rw[z]at b;exact fresh p b
 |ex c=>exact q
 |no=>exact q
theorem ODs.len:∀{ds:List D}{us:List V}{h:Hp},ODs K ds us F h->ds.length=us.length
 |[],_,_,q=>by unfold ODs at q;rw[q.1];rfl
 |d::ds,_,_,q=>by unfold ODs at q;obtain⟨v,vs,h1,h2,rfl,j,a,r⟩:=q;rw[ly,ly,ODs.len r]
theorem zqy_ (h:EvAs K ta E env ra):EvX K (tTup ta) E env (ra.bind λds=>.lim ds.length (.ok (.nd .tup ds))):=by
 intro σ F H Q hL hs q;refine h σ F H _ hL hs (q.bind.imp λds F1 H1 x1 k1 vs k c7 fc s1 o1=>?_)
 obtain⟨c,k1⟩:=k1.lim;rw[ODs.len o1]at c;refine⟨c,λp hp=>?_⟩
 have nk:k p=uE:=by
  cases z:k p with
  |none=>rfl
  |some o=>rw[s1 _ _ z]at hp;cases hp
 have y:=Ext.new x1.2.1 (o:=.tup vs) hp;refine k1 _ _ y (.ref p) k c7 (znr_ y fc s1) (s1.trans (zay_ hp _)) ?_;show OD K _ _ _ _
 unfold OD;exact⟨p,vs,λ_=>uE,k,rfl,⟨zH_,λ_=>rfl⟩,λq=>.inl ⟨rfl,rfl⟩,OD.mono.go y.1 o1⟩
theorem zqZ_ (h:EvAs K ta E env ra):EvX K (tLst ta) E env (ra.bind λds=>.lim ds.length (.ok (.nd .lst ds))):=by
 intro σ F H Q hL hs q;refine h σ F H _ hL hs (q.bind.imp λds F1 H1 x1 k1 vs k c7 fc s1 o1=>?_)
 obtain⟨c,k1⟩:=k1.lim;rw[ODs.len o1]at c;refine⟨c,λp hp=>?_⟩
 have nk:k p=uE:=by
  cases z:k p with
  |none=>rfl
  |some o=>rw[s1 _ _ z]at hp;cases hp
 have d1:Dj (one p (.lst vs)) k:=λq=>by
  rw[zi_];split
  ·rename_i e;rw[e];exact .inr nk
  ·exact .inl rfl
 refine k1 F1 _ (.heap x1.2.1 (zay_ hp _)) (.ref p) (un (one p (.lst vs)) k) (λq z=>?_) (λq=>?_) (λq o z=>?_) ?_
 ·unfold un at z;rw[zi_]at z
  by_cases e:q=p
  ·subst e;exact x1.2.2.1.free hp
  ·rw[if_neg e]at z;exact c7 q z
 ·unfold un;rw[zi_]
  by_cases e:q=p
  ·subst e;exact .inl (x1.2.1.free hp)
  ·rw[if_neg e];exact fc q
 ·unfold un at z;rw[zi_]at z
  by_cases e:q=p
  ·subst e;rw[if_pos rfl]at z;cases z;exact zH_
  ·rw[if_neg e]at z;rw[zR_ e];exact s1 _ _ z
 ·show OD K _ _ _ _
  unfold OD;exact⟨p,vs,_,k,rfl,rfl,zaQ_ d1,o1⟩
abbrev BlD (K:l4)(m:List V->Hp->VK->Prop)(E:XK)(g:List D->Mo D):Prop:=BlO K m E (csD K) g (owD K)
theorem ex_cb {m:List V->Hp->VK->Prop}{g:List D->Mo D}(o:BlD K m E g)(h:EvAs K ta E env ra):EvX K (tCB m ta) E env (ra.bind g):=zqC_ o (zix_ h)
theorem DRs.one (h:DRs K [d] us H):∃v,us=[v]/\DR K d v H:=by
 unfold DRs at h;obtain⟨v,vs,rfl,a,r⟩:=h;unfold DRs at r;subst r;exact⟨v,rfl,a⟩
theorem DRs.two {d':D}(h:DRs K [d,d'] us H):∃v v',us=[v,v']/\DR K d v H/\DR K d' v' H:=by
 unfold DRs at h;obtain⟨v,vs,rfl,a,r⟩:=h;obtain⟨v',rfl,b⟩:=DRs.one r;exact⟨v,v',rfl,a,b⟩
def on1 (f:D->Mo D)(ds:List D):Mo D:=match ds with |[d]=>f d.un |_=>.no
def on2 (f:D->D->Mo D)(ds:List D):Mo D:=match ds with |[d,e]=>f d.un e.un |_=>.no
theorem zgw_ {m:List V->Hp->VK->Prop}{f:D->Mo D}(h:∀d v F H (Q:VK),Same F H->DR K d v F->After K (f d) E F H (OwnK (owD K) H Q)->m [v] H Q):BlD K m E (on1 f):=by
 intro ds vs F H Q hs hd q;unfold on1 at q;split at q
 ·obtain⟨v,rfl,a⟩:=DRs.one hd;exact h _ _ F H Q hs (DR.un a) q
 ·exact q.elim
theorem zqF_ {m:List V->Hp->VK->Prop}{f:D->D->Mo D}(h:∀d e v w F H (Q:VK),Same F H->DR K d v F->DR K e w F->After K (f d e) E F H (OwnK (owD K) H Q)->m [v,w] H Q):BlD K m E (on2 f):=by
 intro ds vs F H Q hs hd q;unfold on2 at q;split at q
 ·obtain⟨v,w,rfl,a,b⟩:=DRs.two hd;exact h _ _ _ _ F H Q hs (DR.un a) (DR.un b) q
 ·exact q.elim
def lenD:List D->Mo D:=on1 λd=>match d with
 |.str l=>.lim l.length (.ok (.int l.length))
 |.nd .lst xs=>.ok (.int xs.length)
 |.nd .tup xs=>.ok (.int xs.length)
 |.nd .scr xs=>.ok (.int xs.length)
 |.nd .ktup xs=>.ok (.int xs.length)
 |_=>.no
theorem zqr_:BlD K (mLen K) E lenD:=zgw_ λd v F H Q hs hd q=>by
 split at q
 ·cases hd.str;obtain⟨c,q⟩:=q.lim;exact⟨c,gotI q hs⟩
 ·obtain⟨p,us,rfl,n,r⟩:=hd.nd;exact⟨us,.inl (.of (hs _ _ n)),by rw[<- r.len];exact gotI q hs⟩
 ·obtain⟨p,us,rfl,n,r⟩:=hd.nd;exact⟨us,.inr (.of (hs _ _ n)),by rw[<- r.len];exact gotI q hs⟩
 ·obtain⟨p,us,rfl,n,r⟩:=hd.nd;exact⟨us,.inl (hs.seq n),by rw[<- r.len];exact gotI q hs⟩
 ·obtain⟨p,us,rfl,n,r⟩:=hd.nd;exact⟨us,.inr (.inr n),by rw[<- r.len];exact gotI q hs⟩
 ·exact q.elim
def dlenD:List D->Mo D:=on1 λd=>match d with |.nd (.dct ks) xs=>.ok (.int xs.length)|_=>.no
theorem zms_:BlD K mLenD E dlenD:=zgw_ λd v F H Q hs hd q=>by
 split at q
 ·rename_i ks xs
  obtain⟨p,us,rfl,n,r⟩:=hd.nd;refine⟨_,hs _ _ n.1,?_⟩;rw[show(ks.zip us).length=xs.length from by rw[nA,n.2.1,oS,r.len]]
  exact gotI q hs
 ·exact q.elim
def minD:List D->Mo D:=on2 λa b=>match a,b with |.int i,.int j=>.ok (.int (min i j))|_,_=>.no
theorem zqP_:BlD K (mTwo min) E minD:=zqF_ λd e v w F H Q hs hd he q=>by
 split at q
 ·cases hd.int;cases he.int;exact gotI q hs
 ·exact q.elim
def strOf (d:D):Mo (List Nat):=match d.un with |.str l=>.ok l |_=>.no
end
noncomputable def Nd.own:Nd->Bool
 |.scr=>uG |.ktup=>uG |_=>uF
def D.at:D->List Nat->Option D
 |d,[]=>uD d
 |.nd k ds,i::js=>bif k.own then ds[i]?.bind λd=>d.at js else uE
 |_,_=>uE
theorem zbJ_ {k:Nd}{ds:List D}{j:Nat}{js:List Nat}:(D.nd k ds).at (j::js)=bif k.own then ds[j]?.bind λd=>d.at js else uE:=by rw[D.at]
def kidsO:HO->List V
 |.tup us=>us |.lst us=>us |.dK kvs=>kvs.map (·.2)|.ins _ _ fs=>fs.map (·.2)|_=>[]
def vAt (H:Hp):V->List Nat->Option V
 |v,[]=>uD v
 |v,j::js=>(match v with |.ref p=>(H p).bind λo=>(kidsO o)[j]? |_=>uE).bind λw=>vAt H w js
noncomputable def D.put:D->List Nat->D->D
 |_,[],x=>x
 |.nd k ds,i::js,x=>(match ds[i]? with |some d=>.nd k (ds.set i (d.put js x))|none=>.nd k ds)
 |d,_,_=>d
section
variable {K:mT}{F F' h h1 h2 H H':Hp}{d:D}{ds:List D}{v:V}{us:List V}{k:Nd}{p:lu}
theorem ODs.focus:∀{ds:List D}{us:List V}{h:Hp}{i:Nat}{c:D},ODs K ds us F h->ds[i]?=uD c ->
  ∃u h1 h2,us[i]?=uD u/\Jn h1 h2 h/\OD K c u F h1/\∀c' F' u' h1' h',Same F F'->OD K c' u' F' h1'->Jn h1' h2 h'->ODs K (ds.set i c') (us.set i u') F' h'
 |[],_,_,_,_,_,e=>by simp at e
 |d::ds,_,h,0,c,q,e=>by
  unfold ODs at q;obtain⟨v,vs,h1,h2,rfl,j,a,r⟩:=q;simp at e;subst e;refine⟨v,h1,h2,rfl,j,a,λc' F' u' h1' h' g o j'=>?_⟩
  rw[m8,m8];unfold ODs;exact⟨u',vs,h1',h2,rfl,j',o,OD.mono.go g r⟩
 |d::ds,_,h,i+1,c,q,e=>by
  unfold ODs at q;obtain⟨v,vs,h1,h2,rfl,j,a,r⟩:=q;obtain⟨u,k1,k2,e1,j1,o1,f⟩:=ODs.focus r (by simpa using e)
  obtain⟨m,jm,jh⟩:=zn_ j1 (zaL_ j);refine⟨u,k1,m,by simpa using e1,jh,o1,λc' F' u' bY h' g o' j'=>?_⟩
  rw[nE,nE];unfold ODs;exact⟨v,vs.set i u',h1,un bY k2,rfl,jn_re jm j',a.mono g,f c' F' u' bY _ g o' (zaQ_ (dj_of jm j'))⟩
theorem zdD_ {α:Type}{l:List α}{i:Nat}{x:α}(h:l[i]?=uD x):l.set i x=l:=zlr_ h
theorem Cell.same (g:Same F F')(c:Cell K k p us F h):Cell K k p us F' h:=c.mono g.tups
theorem zln_ {k:Nd}(hk:k.own=uF)(n:NdR K k p us H):∃o,H p=uD o/\kidsO o=us:=by
 cases k with
 |tup=>exact⟨_,n,rfl⟩
 |lst=>exact⟨_,n,rfl⟩
 |dct ks=>exact⟨_,n.1,rP (qz n.2.1.symm)⟩
 |obj c ns=>obtain⟨dx,e,l⟩:=n;exact⟨_,e,rP (qz l.symm)⟩
 |_=>cases hk
theorem zcS_ (g:Same H H'):∀{js:List Nat}{v u:V},vAt H v js=uD u->vAt H' v js=uD u
 |[],_,_,h=>h
 |j::js,v,u,h=>by
  unfold vAt at h ⊢;obtain⟨w,hw,h2⟩:=lM.mp h;clear h;cases v with
  |ref p=>
   obtain⟨o,ho,hw⟩:=lM.mp hw;dsimp only;rw[g _ _ ho];exact lM.mpr ⟨w,hw,zcS_ g h2⟩
  |_=>cases hw
theorem zhd_ {k:Nd}{j:Nat}{js:List Nat}{w u:V}(hk:k.own=uF)(n:NdR K k p us H)(hw:us[j]?=uD w)(h:vAt H w js=uD u):vAt H (.ref p) (j::js)=uD u:=by
 obtain⟨o,ho,e⟩:=zln_ hk n;unfold vAt;dsimp only;rw[ho];exact lM.mpr ⟨w,by rw[<- e]at hw;exact hw,h⟩
theorem zez_ {k:Nd}{j:Nat}{w:V}(hk:k.own=uF)(n:NdR K k p us H)(hw:us[j]?=uD w):∀{js:List Nat}{v:V},vAt H v js=uD (.ref p)->vAt H v (js++[j])=uD w
 |[],_,h=>by cases h;exact zhd_ hk n hw rfl
 |i::js,v,h=>by
  rw[l6];unfold vAt at h ⊢;obtain⟨x,hx,h⟩:=lM.mp h;exact lM.mpr ⟨x,hx,zez_ hk n hw h⟩
theorem OD.focus:∀{js:List Nat}{d:D}{v:V}{h:Hp}{c:D},OD K d v F h->d.at js=uD c ->
  ∃u h1 h2,(∀H,Same F H->Same h H->vAt H v js=uD u)/\Jn h1 h2 h/\OD K c u F h1/\∀c' F' h1' h',Same F F'->OD K c' u F' h1'->Jn h1' h2 h'->OD K (d.put js c') v F' h'
 |[],d,v,h,c,q,e=>by
  unfold D.at at e;cases e;refine⟨v,h,λ_=>uE,λH _ _=>rfl,λp=>.inr ⟨rfl,rfl⟩,q,λc' F' h1' h' g o j=>?_⟩
  unfold D.put;have:h'=h1':=by
   funext p;rcases j p with⟨a,b⟩|⟨a,b⟩
   ·rw[a,b]
   ·exact b
  rw[this];exact o
 |i::js,.nd k ds,v,h,c,q,e=>by
  rw[zbJ_]at e;cases hk:k.own with
  |false=>rw[hk]at e;cases e
  |true=>
  rw[hk,cond_true]at e;obtain⟨d',e1,e2⟩:=lM.mp e;unfold OD at q;obtain⟨p,us,h0,hr,rfl,cl,j,r⟩:=q;obtain⟨u1,k1,k2,eu,jk,o1,f⟩:=ODs.focus r e1;obtain⟨u,m1,m2,vp,jm,o2,g⟩:=OD.focus o1 e2;obtain⟨a,ja,jb⟩:=zn_ jm jk;obtain⟨b,jc,jd⟩:=zn_ jb (zaL_ j);refine⟨u,m1,b,λH s1 s2=>zhd_ hk (cl.nd s1 (j.l.trans s2)) eu (vp H s1 (jk.l.trans (j.r.trans s2))),jd,o2,λc' F' h1' h' s o' j'=>?_⟩
  unfold D.put;rw[e1];dsimp only;unfold OD;have d1:Dj h1' a:=λq=>by
   rcases j'.dj q with z |z
   ·exact .inl z
   ·exact .inr (jc.l.free z)
  have d2:Dj h1' m2:=λq=>by
   rcases d1 q with z |z
   ·exact .inl z
   ·exact .inr (ja.l.free z)
  have jx:Jn (un h1' m2) k2 (un h1' a):=λq=>by
   unfold un;rcases ja q with⟨z,w⟩|⟨z,w⟩
   ·rw[z]
    cases y:h1' q with
    |none=>left;exact⟨rfl,w⟩
    |some o=>
     right;rcases d1 q with t |t
     ·rw[t]at y;cases y
     ·rw[w]at t;exact⟨t,rfl⟩
   ·right
    refine⟨z,?_⟩;cases y:h1' q with
    |none=>exact w
    |some o=>rfl
  have on:=g c' F' h1' (un h1' m2) s o' (zaQ_ d2);have rn:=f _ F' u1 _ (un h1' a) s on jx;rw[zdD_ eu]at rn;refine⟨p,us,h0,un h1' a,rfl,cl.same s,?_,rn⟩;intro q;unfold un;rcases j' q with⟨z,w⟩|⟨z,w⟩
  ·rw[z,w]
   rcases jc q with⟨y,t⟩|⟨y,t⟩
   ·right;exact⟨y,t⟩
   ·left;exact⟨y,t⟩
  ·rw[w]
   have z0:h0 q=uE:=jc.r.free z;left;refine⟨z0,?_⟩;cases y:h1' q with
   |none=>exact(jc.l.free z).symm
   |some o=>rfl
 |_::_,.non,_,_,_,_,e=>by simp[D.at]at e
 |_::_,.bl _,_,_,_,_,e=>by simp[D.at]at e
 |_::_,.int _,_,_,_,_,e=>by simp[D.at]at e
 |_::_,.str _,_,_,_,_,e=>by simp[D.at]at e
 |_::_,.fz _,_,_,_,_,e=>by simp[D.at]at e
 |_::_,.pin _,_,_,_,_,e=>by simp[D.at]at e
 |_::_,.gone,_,_,_,_,e=>by simp[D.at]at e
theorem Hold.atG:∀{L:List Sl}{σ:L2.St}{h:Hp}{i:Nat}{s:Sl},Hold L σ F h->L[i]?=uD s ->
  ∃o h1 h2,σ[i]?=uD o/\Jn h1 h2 h/\s.P o F h1/\∀s' o' F' h1' h',Same F F'->s'.P o' F' h1'->Jn h1' h2 h'->Hold (L.set i s') (σ.set i o') F' h'
 |[],_,_,_,_,_,e=>by simp at e
 |s::L,[],_,_,_,q,_=>q.elim
 |s::L,o::σ,h,0,t,q_,e=>by
  obtain⟨h1,h2,j,p,r⟩:=q_;simp at e;subst e;exact⟨o,h1,h2,rfl,j,p,λs' o' F' h1' h' g p' j'=>⟨h1',h2,j',p',r.mono g⟩⟩
 |s::L,o::σ,h,i+1,t,q_,e=>by
  obtain⟨h1,h2,j,p,r⟩:=q_;obtain⟨o1,k1,k2,e1,j1,p1,f⟩:=Hold.atG r (by simpa using e)
  obtain⟨m,jm,jh⟩:=zn_ j1 (zaL_ j);exact⟨o1,k1,m,by simpa using e1,jh,p1,λs' o' F' bY h' g aD j'=>⟨h1,un bY k2,jn_re jm j',p.mono g,f s' o' F' bY _ g aD (zaQ_ (dj_of jm j'))⟩⟩
theorem Hold.more:∀{L:List Sl}{σ:L2.St}{h g h':Hp},Hold L σ F h->Jn g h h'->Hold L σ F h'
 |[],[],_,_,_,_,_=>trivial
 |s::L,[],_,_,_,q,_=>q.elim
 |[],_::_,_,_,_,q,_=>q.elim
 |s::L,o::σ,h,g,h',q_,j'=>by
  obtain⟨h1,h2,j,p,r⟩:=q_;obtain⟨m,jm,jh⟩:=zn_ j (zaL_ j');exact⟨h1,m,jh,p,Hold.more r (zaL_ jm)⟩
noncomputable abbrev Ws:=Nat->Option V
def slotW (K:l4)(w:Option V)(o:Option D):Sl:=match o with
 |none=>.dead
 |some d=>(match w with |none=>.ow (owD K) d |some u=>.ow (owAt u (owD K)) d)
abbrev LofW (K:l4)(ws:Ws)(env:Env):List Sl:=env.mapIdx λi o=>slotW K (ws i) o
variable {ws:Ws}{env:Env}{σ:L2.St}{i:Nat}{js:List Nat}{c:D}
theorem zaw_ {o:Option D}(ho:env[i]?=uD o):(LofW K ws env)[i]?=uD (slotW K (ws i) o):=by
 rw[oA,ho];rfl
theorem zdr_ {o:Option D}:(LofW K ws env).set i (slotW K (ws i) o)=LofW K ws (env.set i o):=by
 refine List.ext_getElem? λj=>?_
 rw[nJ,oA,oA,nJ,pK];by_cases e:i=j
 ·subst e;rw[if_pos rfl,if_pos rfl];split<;>rfl
 ·rw[if_neg e,if_neg e]
theorem znW_ {w:Option V}{o:Option D}{x:Option V}(h:(slotW K w o).Z x F):(slot K o).Z x F:=by
 cases o with
 |none=>trivial
 |some d=>cases w with |none=>exact h |some u=>exact h
theorem zcf_ (h:HoldF (LofW K ws env) σ F):HoldF (Lof K env) σ F:=by
 intro i s e;rw[lB]at e;cases z:env[i]? with
 |none=>rw[z]at e;cases e
 |some o=>
  rw[z]at e;cases e;exact znW_ (h i _ (zaw_ z))
theorem zcs_ {w:Option V}{d:D}{x:Option V}(h:(slotW K w (uD d)).P x F h1):∃v,x=uD v/\(∀u,w=uD u->v=u)/\OD K d v F h1:=by
 cases w with
 |none=>obtain⟨v,e,o⟩:=h;exact⟨v,e,(λu z=>by cases z),o⟩
 |some u=>obtain⟨v,e,z,o⟩:=h;exact⟨v,e,(λu' y=>by cases y;exact z),o⟩
theorem zdk_ {w:Option V}{d:D}{v:V}(hw:∀u,w=uD u->v=u)(o:OD K d v F h1):(slotW K w (uD d)).P (uD v) F h1:=by
 cases w with
 |none=>exact⟨v,rfl,o⟩
 |some u=>exact⟨v,rfl,hw u rfl,o⟩
theorem zcA_ (hL:Hold (LofW K ws env) σ F h)(hi:env[i]?=uD (uD d))(hc:d.at js=uD c):
  ∃v u h1 h2,σ[i]?=uD (uD v)/\(∀H,Same F H->Same h H->vAt H v js=uD u)/\Jn h1 h2 h/\OD K c u F h1/\∀c' F' h1' h',Same F F'->OD K c' u F' h1'->Jn h1' h2 h'->Hold (LofW K ws (env.set i (uD (d.put js c')))) σ F' h':=by
 obtain⟨o,k1,k2,e1,j,pp,f⟩:=Hold.atG hL (zaw_ hi);obtain⟨v,rfl,hv,od⟩:=zcs_ pp;obtain⟨u,m1,m2,vp,jm,o1,g⟩:=od.focus hc;obtain⟨a,ja,jb⟩:=zn_ jm j;refine⟨v,u,m1,a,e1,(λH s1 s2=>vp H s1 (j.l.trans s2)),jb,o1,λc' F' h1' h' s o' j'=>?_⟩
 have d1:Dj h1' m2:=λq=>by
  rcases j'.dj q with z |z
  ·exact .inl z
  ·exact .inr (ja.l.free z)
 have:=f (slotW K (ws i) (uD (d.put js c'))) (uD v) F' (un h1' m2) h' s (zdk_ hv (g c' F' h1' _ s o' (zaQ_ d1))) ?_
 ·rw[zdr_,zdD_ e1]at this;exact this
 ·intro q
  unfold un;rcases j' q with⟨z,w⟩|⟨z,w⟩
  ·rw[z,w]
   rcases ja q with⟨y,t⟩|⟨y,t⟩
   ·left;exact⟨y,t⟩
   ·right;exact⟨y,t⟩
  ·rw[w]
   have z0:k2 q=uE:=ja.r.free z;right;refine⟨z0,?_⟩;cases y:h1' q with
   |none=>exact(ja.l.free z).symm
   |some o=>rfl
end
inductive Mr (s α:Type) where
 |ok (a:α) (t:s)|ex (c:Xc) (t:s)|no
noncomputable abbrev Fn:=List D->Mr (List D) D
def Fn.val (f:Fn)(ds:List D):Mo D:=match f ds with |.ok d _=>.ok d |.ex c _=>.ex c |.no=>.no
section
variable {K:mT}{E:XK}{F F' F0 H0 h h1 h2 H H':Hp}{d:D}{ds:List D}{v:V}{us vs:List V}{k:Nd}{p:lu}{Q:VK}{env:Env}{t:TE}{r:Mo D}{ta:TA}{ra:Mo (List D)}{f:Fn}
def FinC (K:l4)(r:Mr (List D) D)(E:XK)(F0 H0:Hp)(vs:List V)(Q:VK):Prop:=match r with
 |.ok d ds=>∀v F h H hr h2,Okk F0 H0 F h H->Jn hr h2 h->OD K d v F hr->ODs K ds vs F h2->Q v H
 |.ex c ds=>∀F h H,Okk F0 H0 F h H->ODs K ds vs F h->Tell K E c H0 F H
 |.no=>False
def CtG (K:l4)(f:Fn):Sp:=λvs H Q E=>∃F h ds,Same F H/\Dj F h/\Same h H/\ODs K ds vs F h/\FinC K (f ds) E F (less H h) vs Q
theorem zmH_ (hn:∀p,h p=uE):less H h=H:=funext λp=>zax_ (hn p)
theorem zgY_ (hs:Same F H)(hd:DRs K ds vs F)(q:After K (f.val (ds.map D.vw)) E F H (OwnK (owD K) H Q)):CtG K f vs H Q E:=by
 refine⟨F,λ_=>uE,ds.map D.vw,hs,λ_=>.inr rfl,(λp o z=>by cases z),ODs.vw (λ_=>rfl) hd,?_⟩
 rw[zmH_ λ_=>rfl]
 unfold Fn.val at q;cases e:f (ds.map D.vw)with
 |no=>rw[e]at q;exact q
 |ok d ds'=>
  rw[e]at q;intro v F' h' H' hr h2 ok j o _;refine q F' H' ok.1 v hr (λp z=>ok.2.2.2.1 p ?_) (dj_l ok.2.1 j) (j.l.trans ok.2.2.1) o
  cases y:hr p with
  |none=>exact absurd y z
  |some w=>rw[j.l _ _ y];exact sN _
 |ex c ds'=>rw[e]at q;exact λF' h' H' ok _=>q F' H' ok.1
theorem zmf_ (h:EvAs K ta E env ra):EvX K (tCall (CtG K f) [] E ta) E env (ra.bind λds=>f.val (ds.map D.vw)):=by
 intro σ F H Q hL hs q;refine zix_ h σ F H _ hL hs (q.bind.imp λds F1 H1 x1 k1 vs dX=>?_)
 rw[mU];exact zgY_ x1.2.1 dX (k1.imp λr F2 H2 x2 k2=>k2.back x1.2.2.1)
theorem zdj_:∀{ns:List Str}{us:List V}{f:Str}{v:V},us[ns.idxOf f]?=uD v->ns.length=us.length->(ns.zip us).lookup f=uD v
 |[],us,f,v,h,l=>by cases us with |nil=>simp at h |cons=>simp at l
 |n::ns,[],f,v,h,l=>by simp at l
 |n::ns,u::us,f,v,h,l=>by
  rw[mh,pT];by_cases e:n=f
  ·subst e;simp at h;simp[h]
  ·rw[se,show(n == f)=uG from beq_eq_false_iff_ne.mpr e,cond_false,m9]at h
   rw[show(f == n)=uG from beq_eq_false_iff_ne.mpr λz=>e z.symm]
   exact zdj_ h (by simpa using l)
def tFld (K:l4)(cs:List Str)(t:TE)(f:Str):TE:=λσ H Q=>∃c∈cs,mFld (gA K c) t f σ H Q
def fldD (cs:List Str)(f:Str)(d:D):Mo D:=match d.un with
 |.nd (.obj c ns) ds=>if c∈cs then .opt ((ds[ns.idxOf f]?).map .vw)else .no
 |_=>.no
theorem zqf_ {cs:List Str}{f:Str}(h0:cs≠[])(hx:EvX K t E env r):EvX K (tFld K cs t f) E env (r.bind (fldD cs f)):=by
 intro σ F H Q hL hs q;have main:∀c∈cs,(∀d,r=.ok d->∃ns ds,d.un=.nd (.obj c ns) ds)->tFld K cs t f σ H Q:=λc hc hd=>⟨c,hc,by
  refine ex_v hx σ F H _ hL hs ?_;cases e:r with
  |no=>rw[e]at q;exact q
  |ex x=>rw[e]at q;exact q
  |ok d=>
   obtain⟨ns,ds,e2⟩:=hd d e;rw[e]at q;intro F1 H1 x1 v hv;have hv:=DR.un hv;rw[e2]at hv;obtain⟨p,us,rfl,⟨dx,hp,l⟩,rs⟩:=hv.nd;have q:After K (fldD cs f d) E F H _:=q;unfold fldD at q;rw[e2]at q;dsimp only at q;rw[if_pos hc]at q;obtain⟨d',e3,q⟩:=q.opt;obtain⟨d0,e4,rfl⟩:=lP.mp e3;rcases rs.get (ns.idxOf f)with⟨z,_⟩|⟨d1,w,g1,g2,g3⟩
   ·rw[z]at e4;cases e4
   ·rw[g1]at e4;cases e4
    refine⟨dx,_,w,x1.2.1 _ _ hp,zdj_ g2 l,?_⟩;exact gotV (E:=E) (λF2 H2 x2=>(q F2 H2 (x1.trans x2)).back x1.2.2.1) x1.2.1 g3⟩
 cases e:r with
 |no=>rw[e]at q;exact q.elim
 |ok d=>
  rw[e]at q;have q':After K (fldD cs f d) E F H (OwnK (owD K) H Q):=q;unfold fldD at q';split at q'
  ·rename_i c ns ds e2
   by_cases hc:c∈cs
   ·exact main c hc λd' z=>by rw[e]at z;cases z;exact⟨ns,ds,e2⟩
   ·rw[if_neg hc]at q';exact q'.elim
  ·exact q'.elim
 |ex x=>
  cases cs with
  |nil=>exact absurd rfl h0
  |cons c cs=>exact main c (lR ..) λd' z=>by rw[e]at z;cases z
def walkD (d:D):Mo (List D):=match d.un with
 |.str l=>.ok (l.map λc=>.str [c])
 |.nd .lst xs=>.ok xs
 |.nd .tup xs=>.ok xs
 |.nd .scr xs=>.ok xs
 |.nd .ktup xs=>.ok xs
 |_=>.no
theorem yl_L {F1:Hp}(hl:SqL K F1 p us)(r:DRs K ds us F1):Yl K (Itl K p) ds (tyD K) F1:=by
 refine⟨λi H x hH hx=>?_,λH hH=>⟨us,hH.seq hl,by rw[r.len];exact lp _⟩⟩
 rcases r.get i with⟨a,_⟩|⟨y,u,a,b,c⟩
 ·rw[a]at hx;cases hx
 ·rw[a]at hx;cases hx
  refine⟨⟨us,u,hH.seq hl,b⟩,?_⟩;rintro v H' ⟨rfl,z⟩ F hF aS;have e:=z us (hH.seq hl);rw[b]at e;cases e;exact⟨F,.refl aS,(tyD K).mono hF c⟩
theorem yl_T {F1:Hp}(hl:∀H,Same F1 H->SqT K H p us)(r:DRs K ds us F1):Yl K (Itt K p) ds (tyD K) F1:=by
 refine⟨λi H x hH hx=>?_,λH hH=>⟨us,hl H hH,by rw[r.len];exact lp _⟩⟩
 rcases r.get i with⟨a,_⟩|⟨y,u,a,b,c⟩
 ·rw[a]at hx;cases hx
 ·rw[a]at hx;cases hx
  refine⟨⟨us,u,hl H hH,b⟩,?_⟩;rintro v H' ⟨rfl,z⟩ F hF aS;have e:=z us (hl _ hH);rw[b]at e;cases e;exact⟨F,.refl aS,(tyD K).mono hF c⟩
def iAnyW (K:l4)(vs:List V)(σ:L2.St)(H1:Hp)(R:It->Hp->Prop):Prop:=match vs with |[x]=>iAny K (tC x) σ H1 R |_=>False
def WkW (K:l4)(E:XK)(wi:List V->L2.St->Hp->(It->Hp->Prop)->Prop)(g:List D->Mo (List D)):Prop:=
 ∀ds vs σ F1 H1 R,Same F1 H1->DRs K ds vs F1->After K (g ds) E F1 H1 (λxs F' H'=>∀J,Yl K J xs (tyD K) F'->R J H')->wi vs σ H1 R
theorem ei_w {wi:List V->L2.St->Hp->(It->Hp->Prop)->Prop}{g:List D->Mo (List D)}(w:WkW K E wi g)(hx:EvAs K ta E env ra):EvI K (λσ H R=>ta σ H λvs H1=>wi vs σ H1 R) E (Lof K env) (ra.bind g) (tyD K):=by
 intro σ F H R hL hs q;exact zix_ hx σ F H _ hL hs (q.bind.imp λds F1 H1 x1 k1 vs hv=>w ds vs σ F1 H1 R x1.2.1 hv k1)
def walkA (ds:List D):Mo (List D):=match ds with |[d]=>walkD d |_=>.no
theorem w_any:WkW K E (iAnyW K) walkA:=by
 intro ds vs σ F1 H1 R x1 hv k1;unfold walkA at k1;split at k1
 rotate_left
 ·exact k1.elim
 obtain⟨v,rfl,aH⟩:=DRs.one hv;have ha:=DR.un aH;unfold walkD at k1;split at k1
 ·rename_i l e;rw[e]at ha;cases ha.str
  refine k1.ok x1 _ ⟨λi H x hH hx=>?_,λH hH=>?_⟩
  ·rw[lB]at hx
   cases e:l[i]? with
   |none=>rw[e]at hx;cases hx
   |some c=>
    rw[e]at hx;cases hx;have hi:=(lD.mp e).1;refine⟨hi,?_⟩;rintro v H' ⟨rfl,rfl⟩ F _ hF;refine⟨F,.refl hF,?_⟩;show DR K (.str [c]) (tx [l.getD i 0]) F
    rw[mQ,e];unfold DR;rfl
  ·show l.length<=_
   rw[k8];exact lp _
 ·rename_i e;rw[e]at ha;obtain⟨p,us,rfl,n,r⟩:=ha.nd
  exact .inl ⟨⟨us,.of (x1 _ _ n)⟩,k1.ok x1 _ (yl_L (.of n) r)⟩
 ·rename_i e;rw[e]at ha;obtain⟨p,us,rfl,n,r⟩:=ha.nd
  exact .inr ⟨⟨us,.of (x1 _ _ n)⟩,k1.ok x1 _ (yl_T (λH hH=>.of (hH _ _ n)) r)⟩
 ·rename_i e;rw[e]at ha;obtain⟨p,us,rfl,n,r⟩:=ha.nd
  exact .inl ⟨⟨us,x1.seq n⟩,k1.ok x1 _ (yl_L n r)⟩
 ·rename_i e;rw[e]at ha;obtain⟨p,us,rfl,n,r⟩:=ha.nd
  exact .inr ⟨⟨us,.inr n⟩,k1.ok x1 _ (yl_T (λH hH=>.inr n) r)⟩
 ·exact k1.elim
theorem zjA_ {lo:Int}{n:Nat}{F1:Hp}:Yl K (Itr lo n) ((rngI lo n).map D.int) (tyD K) F1:=by
 have y:=zpu_ (K:=K) (lo:=lo) (n:=n) (F1:=F1);refine⟨λi H x hH hx=>?_,λH hH=>by rw[k8];exact y.stop H hH⟩
 rw[lB]at hx;obtain⟨a,ha,rfl⟩:=lP.mp hx;obtain⟨g,z⟩:=y.go i H a hH ha;refine⟨g,λv H' q F hF aS=>?_⟩
 obtain⟨F',x',e⟩:=z v H' q F hF aS;exact⟨F',x',by show DR K _ _ _;unfold DR;exact e⟩
def rng1D (ds:List D):Mo (List D):=match ds with
 |[d]=>(intD d).bind λj=>.grd (-(2 ^ 62)<=j/\j<2 ^ 62) (.ok ((rngI 0 j.toNat).map .int))
 |_=>.no
def rng2D (ds:List D):Mo (List D):=match ds with
 |[c,d]=>(intD c).bind λi=>(intD d).bind λj=>.grd (-(2 ^ 62)<=i/\i<2 ^ 62 /\ -(2 ^ 62)<=j/\j<2 ^ 62) (.ok ((rngI i (j-i).toNat).map .int))
 |_=>.no
theorem zch_ {α:Type}{k:Int->Mo α}{kk:α->Hp->Hp->Prop}(q:After K ((intD d).bind k) E F H kk)(hd:DR K d v H'):∃i,v=.int i/\After K (k i) E F H kk:=by
 have hd:=DR.un hd;unfold intD at q;split at q
 ·rename_i i e;rw[e]at hd;exact⟨i,hd.int,q⟩
 ·exact q.elim
theorem w_rg1:WkW K E (λvs _ H1 R=>match vs with |[.int j] => -(2 ^ 62)<=j/\j<2 ^ 62/\R (Itr 0 j.toNat) H1 |_=>False) rng1D:=by
 intro ds vs σ F1 H1 R x1 hv k1;unfold rng1D at k1;split at k1
 ·obtain⟨v,rfl,a⟩:=DRs.one hv
  obtain⟨i,rfl,k1⟩:=zch_ k1 a;obtain⟨z,k1⟩:=k1.grd;exact⟨z.1,z.2,k1.ok x1 _ zjA_⟩
 ·exact k1.elim
theorem w_rg2:WkW K E (λvs _ H1 R=>match vs with |[.int i,.int j]=>(-(2 ^ 62)<=i/\i<2 ^ 62 /\ -(2 ^ 62)<=j/\j<2 ^ 62)/\R (Itr i (j-i).toNat) H1 |_=>False) rng2D:=by
 intro ds vs σ F1 H1 R x1 hv k1;unfold rng2D at k1;split at k1
 ·obtain⟨v,v',rfl,a,b⟩:=DRs.two hv
  obtain⟨i,rfl,k1⟩:=zch_ k1 a;obtain⟨j,rfl,k1⟩:=zch_ k1 b;obtain⟨z,k1⟩:=k1.grd;exact⟨z,k1.ok x1 _ zjA_⟩
 ·exact k1.elim
def enumD (ds:List D):Mo (List D):=match ds with
 |[d]=>(match d.un with
  |.nd .lst xs=>.ok ((enumL xs).map λq=>.nd .tup [.int q.1,q.2])
  |.str l=>.ok ((enumL l).map λq=>.nd .tup [.int q.1,.str [q.2]])
  |_=>.no)
 |_=>.no
theorem w_en:WkW K E (λvs _ H1 R=>match vs with |[.str z]=>R (Ites z.cps.toList.length (λi=>tx [z.cps.toList.getD i 0])) H1 |[.ref a]=>(∃xs,SqL K H1 a xs)/\R (Ite K a) H1 |_=>False) enumD:=by
 intro ds vs σ F1 H1 R x1 hv k1;unfold enumD at k1;split at k1
 ·rename_i d
  obtain⟨v,rfl,a⟩:=DRs.one hv;have a:=DR.un a;split at k1
  ·rename_i xs e;rw[e]at a;obtain⟨p,us,rfl,n,r⟩:=a.nd
   refine⟨⟨us,.of (x1 _ _ n)⟩,k1.ok x1 _ ⟨λi H x hH hx=>?_,λH hH=>?_⟩⟩
   ·rw[lB,zdu_]at hx
    rcases r.get i with⟨a,_⟩|⟨y,u,a,b,c⟩
    ·rw[a]at hx;cases hx
    ·rw[a]at hx;cases hx
     refine⟨⟨us,u,.of (hH _ _ n),b⟩,?_⟩;rintro v H' ⟨p2,w,z,cT,rfl,rfl⟩ F hF aS;have e:=z us (.of (hH _ _ n));rw[b]at e;cases e;have x:=Ext.new (o:=.tup [.int i,u]) aS cT;refine⟨_,x,?_⟩;show DR K _ _ _
     unfold DR;refine⟨p2,_,rfl,zH_,?_⟩;unfold DRs;refine⟨_,_,rfl,by unfold DR;rfl,?_⟩
     unfold DRs;exact⟨u,[],rfl,c.mono (hF.trans x.1),by unfold DRs;rfl⟩
   ·refine⟨us,.of (hH _ _ n),?_⟩
    rw[k8,zbW_,r.len];exact lp _
  ·rename_i l e;rw[e]at a;cases a.str
   refine k1.ok x1 _ ⟨λi H x hH hx=>?_,λH hH=>?_⟩
   ·rw[lB,zdu_]at hx
    cases e:l[i]? with
    |none=>rw[e]at hx;cases hx
    |some c=>
     rw[e]at hx;cases hx;have hi:=(lD.mp e).1;refine⟨hi,?_⟩;rintro v H' ⟨p2,cT,rfl,rfl⟩ F hF aS;have x:=Ext.new (o:=.tup [.int i,tx [l.getD i 0]]) aS cT;refine⟨_,x,?_⟩;show DR K _ _ _
     unfold DR;refine⟨p2,_,rfl,zH_,?_⟩;unfold DRs;refine⟨_,_,rfl,by unfold DR;rfl,?_⟩
     unfold DRs;refine⟨_,[],rfl,?_,by unfold DRs;rfl⟩
     rw[mQ,e];unfold DR;rfl
   ·show l.length<=_
    rw[k8,zbW_];exact lp _
  ·exact k1.elim
 ·exact k1.elim
structure Tg where
 tup:Bool
 is:List Nat
def tgD (g:Tg)(d:D):Option (List D):=if g.tup then(match d.un with |.nd .tup ds=>if ds.length=g.is.length then uD ds else uE |_=>uE)else if g.is.length=1 then uD [d]else uE
def tgS:List Nat->TGs
 |[]=>gNilM
 |i::is=>gConsM (gName i) (tgS is)
def tgT (K:l4)(g:Tg):TG:=if g.tup then gTupM K g.is.length (tgS g.is)else gName (g.is.headD 0)
def tyTg (K:l4)(g:Tg):Ty (List D):=⟨λds v F=>ds.length=g.is.length/\if g.tup then∃p us,v=.ref p/\F p=uD (.tup us)/\DRs K ds us F else DRs K ds [v] F,
 λ{ds v H H'} s q=>⟨q.1,by
  have q:=q.2;split at q
  ·rename_i e;rw[if_pos e];obtain⟨p,us,e1,e2,e3⟩:=q;exact⟨p,us,e1,s _ _ e2,e3.mono s⟩
  ·rename_i e;rw[if_neg e];exact q.mono s⟩⟩
def ssT (K:l4)(is:List Nat)(ds:List D):List (Nat×Sl):=is.zip (ds.map λd=>.fz (tyD K) d)
theorem tgs_R:∀{is:List Nat}{ds:List D}{us:List V}{σ:L2.St}{F H:Hp}{Q:L2.St->Hp->Prop},ds.length=is.length->DRs K ds us F->(∀vs,Plain F (ssT K is ds) vs->Q (setS σ vs) H)->tgS is us σ H Q
 |[],[],us,σ,F,H,Q,_,r,q=>by unfold DRs at r;subst r;exact q [] .nil
 |i::is,d::ds,us,σ,F,H,Q,l,r,q=>by
  unfold DRs at r;obtain⟨v,vs,rfl,a,r⟩:=r;exact tgs_R (σ:=σ.set i (uD v)) (by simpa using l) r λws hw=>q ((i,uD v)::ws) (.cons a hw)
 |[],_::_,_,_,_,_,_,l,_,_=>by simp at l
 |_::_,[],_,_,_,_,_,l,_,_=>by simp at l
theorem tg_R (g:Tg):TgR K (tgT K g) (tyTg K g) (ssT K g.is):=by
 rintro ds v σ F H Q hs ⟨hl,hd⟩ q;unfold tgT;split at hd
 ·rename_i e;rw[if_pos e]
  obtain⟨p,us,rfl,hp,r⟩:=hd;exact⟨us,.of (hs _ _ hp),by rw[<- r.len,hl],tgs_R hl r q⟩
 ·rename_i e;rw[if_neg e]
  match h:g.is,ds,hl,hd,q with
  |[i],[d],_,hd,q=>
   obtain⟨_,e,a⟩:=DRs.one hd;cases e;exact q [(i,uD v)] (.cons a .nil)
  |[],ds,hl,hd,_=>rw[ml.mp hl]at hd;unfold DRs at hd;cases hd
  |_::_::_,d::e::ds,_,hd,_=>unfold DRs at hd;obtain⟨_,_,z,_,r⟩:=hd;cases z;unfold DRs at r;obtain⟨_,_,z,_⟩:=r;cases z
def tgsD (g:Tg):List D->Option (List (List D))
 |[]=>uD []
 |d::ds=>(tgD g d).bind λx=>(tgsD g ds).map λxs=>x::xs
theorem tgD_R {g:Tg}{x:List D}(e:tgD g d=uD x)(h:DR K d v F):(tyTg K g).R x v F:=by
 unfold tgD at e;split at e
 ·rename_i z
  have h:=DR.un h;split at e
  ·rename_i ds e2
   rw[e2]at h;obtain⟨p,us,rfl,n,r⟩:=h.nd;split at e
   ·rename_i l;cases e;exact⟨l,by rw[if_pos z];exact⟨p,us,rfl,n,r⟩⟩
   ·cases e
  ·cases e
 ·rename_i z
  split at e
  ·rename_i l;cases e;exact⟨l.symm,by rw[if_neg z];unfold DRs;exact⟨v,[],rfl,h,by unfold DRs;rfl⟩⟩
  ·cases e
theorem zeP_ {g:Tg}:∀{ds:List D}{xs:List (List D)},tgsD g ds=uD xs->xs.length=ds.length/\∀(i:Nat) x,xs[i]?=uD x->∃d,ds[i]?=uD d/\tgD g d=uD x
 |[],_,e=>by cases e;exact⟨rfl,λi x h=>by simp at h⟩
 |d::ds,_,e=>by
  unfold tgsD at e;obtain⟨x,e1,e⟩:=lM.mp e;obtain⟨xs,e2,rfl⟩:=lP.mp e;obtain⟨l,f⟩:=zeP_ e2;refine⟨by rw[ly,ly,l],λi y h=>?_⟩
  cases i with
  |zero=>simp at h;subst h;exact⟨d,rfl,e1⟩
  |succ i=>exact f i y (by simpa using h)
theorem ei_tg {wi:TI}{L:List Sl}{rs:Mo (List D)}(g:Tg)(h:EvI K wi E L rs (tyD K)):EvI K wi E L (rs.bind λl=>.opt (tgsD g l)) (tyTg K g):=by
 intro σ F H R hL hs q;refine h σ F H _ hL hs (q.bind.imp λds F1 H1 x1 k1 J Y=>?_)
 obtain⟨xs,e,k1⟩:=k1.opt;obtain⟨l,f⟩:=zeP_ e;refine k1.ok x1.2.1 J ⟨λi H x hH hx=>?_,λH hH=>by rw[l];exact Y.stop H hH⟩
 obtain⟨d,hd,e2⟩:=f i x hx;obtain⟨g1,z⟩:=Y.go i H d hH hd;refine⟨g1,λv H' q F hF aS=>?_⟩
 obtain⟨F',x',hv⟩:=z v H' q F hF aS;exact⟨F',x',tgD_R e2 hv⟩
def setE (env:Env):List Nat->List D->Env
 |i::is,d::ds=>setE (env.set i (uD d.vw)) is ds
 |_,_=>env
def cE (lv:List Str)(fr:List (Str×Nat))(env:Env):Env:=lv.map (λ_=>uE)++fr.map λq=>(env[q.2]?).join
theorem cL_eq {lv:List Str}{fr:List (Str×Nat)}:cL lv fr (Lof K env)=Lof K (cE lv fr env):=by
 unfold cL cE;show _=List.map (slot K) (_++_)
 rw[mX,mC,mC];congr 1;refine pE λq _=>?_
 simp only[Function.comp,lB];cases env[q.2]? with
 |none=>rfl
 |some o=>rfl
def LeZ (L L':List Sl):Prop:=∀(i:Nat) s',L'[i]?=uD s'->∃s,L[i]?=uD s/\∀o F,s.Z o F->s'.Z o F
theorem LeZ.hold {L L':List Sl}{σ:L2.St}(z:LeZ L L')(h:HoldF L σ F):HoldF L' σ F:=λi s' e=>by
 obtain⟨s,e1,e2⟩:=z i s' e;exact e2 _ _ (h i s e1)
theorem zjy_:∀{is:List Nat}{ds:List D}{L:List Sl}{env:Env},LeZ L (Lof K env)->LeZ (setL L (ssT K is ds)) (Lof K (setE env is ds))
 |[],_,_,_,z=>z
 |_::_,[],_,_,z=>z
 |i::is,d::ds,L,env,z=>by
  refine zjy_ (is:=is) (ds:=ds) (L:=L.set i (.fz (tyD K) d)) (env:=env.set i (uD d.vw)) ?_;intro j s' e;rw[lB,nJ]at e;by_cases hj:i=j
  ·subst hj
   rw[if_pos rfl]at e;by_cases hl:i<env.length
   ·rw[if_pos hl]at e
    cases e;obtain⟨s,e1,_⟩:=z i _ (by rw[lB,lj hl];rfl)
    refine⟨.fz (tyD K) d,by rw[nj (lD.mp e1).1],?_⟩
    rintro o F ⟨v,e2,hv⟩;refine⟨v,e2,?_⟩;show DR K d.vw v F
    unfold D.vw;split
    ·exact hv
    ·split
     ·exact hv
     ·unfold DR;exact hv
   ·rw[if_neg hl]at e;cases e
  ·rw[if_neg hj]at e
   obtain⟨s,e1,e2⟩:=z j s' (by rw[lB];exact e)
   exact⟨s,by rw[lW hj];exact e1,e2⟩
theorem zll_ {L:List Sl}:LeZ L L:=λi s e=>⟨s,e,λ_ _ h=>h⟩
theorem zqj_ (h:(owLO (owD K)).O ds v F h1):OD K (.nd .lst ds) v F h1:=by
 obtain⟨p,vs,h2,rfl,j,q⟩:=h;unfold OD;have go:∀{ds:List D}{vs:List V}{h:Hp},OwAll (owD K) F ds vs h->ODs K ds vs F h:=λ{ds}=>by
  induction ds with
  |nil=>intro vs h q;cases vs with |nil=>unfold ODs;exact⟨rfl,q⟩|cons=>exact q.elim
  |cons d ds ih=>intro vs h q;cases vs with |nil=>exact q.elim |cons v vs=>obtain⟨h1,h2,j,a,r⟩:=q;unfold ODs;exact⟨v,vs,h1,h2,rfl,j,a,ih r⟩
 exact⟨p,vs,_,h2,rfl,rfl,j,go q⟩
theorem zlY_ {lv:List Str}{fr:List (Str×Nat)}{wi:TI}{g:Tg}{tt:TT}{te:TE}{rs:Mo (List D)}{c:List D->Mo Bool}{f:List D->Mo D}(hi:EvI K wi E (Lof K env) rs (tyD K))(hg:∀i∈g.is,i<lv.length)
  (ht:∀a,EvT K tt E0 (Lof K (setE (cE lv fr env) g.is a)) (c a)) (he:∀a,EvX K te E0 (setE (cE lv fr env) g.is a) (f a)):
  EvX K (tComp lv fr wi (tgT K g) tt te) E env ((rs.bind λl=>.opt (tgsD g l)).bind λxs=>(compM (λx=>cond1 (c x) (f x)) xs []).bind λys=>.ok (.nd .lst ys)):=by
 have z:∀a,LeZ (setL (cL lv fr (Lof K env)) (ssT K g.is a)) (Lof K (setE (cE lv fr env) g.is a)):=λa=>zjy_ (by rw[cL_eq];exact zll_)
 have dead:∀a,DeadAt (cL lv fr (Lof K env)) ((ssT K g.is a).map (·.1)):=λa i hi s e=>by
  have:i∈g.is:=by
   obtain⟨q,hq,rfl⟩:=mF.mp hi;exact(ou hq).1
  have hl:=hg i this;unfold cL at e;rw[mJ (by rw[k8];exact hl),lB,lj hl]at e
  cases e;rfl
 have:=zj5_ (lv:=lv) (fr:=fr) (ei_tg g hi) (tg_R g) dead (λa σ F H Q hL hs q=>ht a σ F H Q ((z a).hold hL) hs q) (λa σ F H Q hL hs q=>he a σ F H Q ((z a).hold hL) hs q)
 intro σ F H Q hL hs q;refine this σ F H Q hL hs ?_;have e:∀(m:Mo (List (List D))),(m.bind λxs=>(compM (λx=>cond1 (c x) (f x)) xs []).bind λys=>.ok (D.nd .lst ys))=(m.bind λxs=>compM (λx=>cond1 (c x) (f x)) xs []).bind λys=>.ok (.nd .lst ys):=λm=>(Mo.bind_assoc _ _ _).symm
 rw[e]at q;exact q.bind.imp λys F1 H1 x1 k1 v k c7 dj s o=>k1.ok x1.2.1 v k c7 dj s (zqj_ o)
end
def rDGet:R2:=λx y H Q=>atD x y H λ_ kvs k=>∃v,valV kvs k=uD v/\Q v H
def rDIn (neg:Bool):R2:=λy x H Q=>atD x y H λ_ kvs k=>Q (.bl (if neg then !(valV kvs k).isSome else(valV kvs k).isSome)) H
def rIxA (K:l4):R2:=λx y H Q=>mIx K x y H Q\/rDGet x y H Q
def rInA (K:l4)(neg:Bool):R2:=λx y H Q=>mIn K neg x y H Q\/rDIn neg x y H Q
def mLenA (K:l4):List V->Hp->VK->Prop:=λvs H Q=>mLen K vs H Q\/mLenD vs H Q
section
variable {X:Cx}
theorem zkb_ (hu:X.A.units+60<cLine):IxR X rDGet:=by
 intro value slice pins s σ H x y v u Q I rx ry h hs;obtain⟨a,kvs,k,rfl,rfl,hd,w,hw,q⟩:=zhj_ h;obtain rfl:v=mS a:=rx;have g:DGet H a (kV k) (uD w):=by rw[<- hw];exact DGet.k hd
 have hT:=zfN_ I g;unfold subscriptTail;refine lg ?_;rw[getitemInPython_of_ne hT.not_modules];refine lg (wpAny_specialOf hT PySem.F.slot_dict_getitem.lookup ?_);have fin:lU (model X.prog X.w) X.A (subscripted slice uG (.ref a) u) (λr ax=>lU (model X.prog X.w) X.A (letTemporaryGo value (.ref a) r>>=λ_=>pure r) (EP X pins σ Q) X.xe ax) X.xe s:=by
  rw[hs];exact wpAny_operating (nq (zij_ (Q:=EP X pins σ Q) (by lia) I g ry λw' s3 I3 bI=>⟨w,H,I3,bI,q⟩) (λr ax bK=>lg (wpAny_letTemporaryGo (lK bK))) λ_ _ x=>x)
 first
  |exact lK (lg fin)
  |exact lg (lK (lg fin))
  |exact lg fin
theorem ix_A (hu:X.A.units+60<cLine):IxR X (rIxA X.K):=λvalue slice pins s σ H x y v u Q I rx ry h hs=>by
 rcases h with h |h
 ·exact ix_M value slice pins s σ H x y v u Q I rx ry h hs
 ·exact zkb_ hu value slice pins s σ H x y v u Q I rx ry h hs
theorem zqA_ (hu:X.A.units+60<cLine):OpR X (lX .In) (rInA X.K uG):=λpins s σ H x y v u Q I rx ry h=>by
 rcases h with h |h
 ·exact zq4_ pins s σ H x y v u Q I rx ry h
 ·obtain⟨a,kvs,k,rfl,rfl,hd,q⟩:=zhj_ h
  cases ry;exact d_in (by lia) I (DGet.k (k:=k) hd) rx λs3 I3=>⟨.bl (valV kvs k).isSome,H,I3,rfl,q⟩
theorem zh9_ (hu:X.A.units+60<cLine):OpR X (lX .NotIn) (rInA X.K uF):=λpins s σ H x y v u Q I rx ry h=>by
 rcases h with h |h
 ·exact zis_ pins s σ H x y v u Q I rx ry h
 ·obtain⟨a,kvs,k,rfl,rfl,hd,q⟩:=zhj_ h
  cases ry;exact znE_ (by lia) I (DGet.k (k:=k) hd) rx λs3 I3=>⟨.bl (!(valV kvs k).isSome),H,I3,rfl,q⟩
theorem ziH_:CallR X (.builtin "len") (mLenA X.K):=λpins s σ H xs us Q I r h=>by
 rcases h with h |h
 ·exact zi1_ pins s σ H xs us Q I r h
 ·exact zgp_ pins s σ H xs us Q I r h
end
section
variable {K:mT}{E:XK}{F F' h h1 h2 H H':Hp}{d:D}{ds:List D}{v:V}{us vs:List V}{k:Nd}{p:lu}{Q:VK}{env:Env}{t:TE}{r r1 r2:Mo D}{ta:TA}{ra:Mo (List D)}{f:Fn}
def isDct (d:D):Bool:=match d.un with |.nd (.dct _) _=>uF |_=>uG
def ixA (a b:D):Mo D:=if isDct a then dgetD a b else ixD a b
theorem znV_:Op2D K rDGet E dgetD:=by
 intro a b x y F H Q hs ha hb q;have ha:=DR.un ha;unfold dgetD at q;split at q
 ·rename_i ks ds k e1 e2
  rw[e1]at ha;obtain⟨p,us,rfl,n,r⟩:=ha.nd;obtain⟨d,e,q⟩:=q.opt;obtain⟨d0,e',rfl⟩:=lP.mp e;rcases zqW_ (k:=k) (ks:=ks) r with⟨h1,h2⟩|⟨d',v',g1,g2,g3⟩
  ·rw[h1]at e';cases e'
  ·rw[g1]at e';cases e'
   exact zeu_ rfl (zng_ e2 hb).1 (hs _ _ n.1) ⟨v',g2,gotV q hs g3⟩
 ·exact q.elim
theorem zpW_:Op2D K (rIxA K) E ixA:=by
 intro a b x y F H Q hs ha hb q;unfold ixA at q;split at q
 ·exact .inr (znV_ a b x y F H Q hs ha hb q)
 ·exact .inl (od_ix a b x y F H Q hs ha hb q)
def inA (neg:Bool)(a b:D):Mo D:=if isDct b then dinD neg a b else inD neg a b
theorem zpv_ {neg:Bool}:Op2D K (rDIn neg) E (dinD neg):=by
 intro a b x y F H Q hs ha hb q;have hb:=DR.un hb;unfold dinD at q;split at q
 ·rename_i ks ds k e1 e2
  rw[e1]at hb;obtain⟨p,us,rfl,n,r⟩:=hb.nd;refine zeu_ rfl (zng_ e2 ha).1 (hs _ _ n.1) ?_;have e:(valV (ks.zip us) k).isSome=(valD ks ds k).isSome:=by
   rcases zqW_ (k:=k) (ks:=ks) r with⟨h1,h2⟩|⟨d',v',g1,g2,g3⟩
   ·rw[h1,h2];rfl
   ·rw[g1,g2];rfl
  rw[e];exact gotB q hs
 ·exact q.elim
theorem zma_ {neg:Bool}:Op2D K (rInA K neg) E (inA neg):=by
 intro a b x y F H Q hs ha hb q;unfold inA at q;split at q
 ·exact .inr (zpv_ a b x y F H Q hs ha hb q)
 ·exact .inl (od_in a b x y F H Q hs ha hb q)
def lenA (ds:List D):Mo D:=match ds with |[d]=>if isDct d then dlenD ds else lenD ds |_=>.no
theorem zno_:BlD K (mLenA K) E lenA:=by
 intro ds vs F H Q hs hd q;unfold lenA at q;split at q
 ·split at q
  ·exact .inr (zms_ _ vs F H Q hs hd q)
  ·exact .inl (zqr_ _ vs F H Q hs hd q)
 ·exact q.elim
def makeD (f:Fn)(c:Str)(ds:List D):Mo D:=match f (.nd (.obj c []) []::ds.map .vw)with
 |.ok .non (o::_)=>.ok o
 |.ex x _=>.ex x
 |_=>.no
theorem zaz_ {p dx q:lu}{o:HO}:two p dx o q=if q=p then uD o else if q=dx then uD (.own p)else uE:=rfl
theorem zn5_ {c:Str}(hx:EvAs K ta E env ra):EvX K (tMake (gA K c) (CtG K f) [] E ta) E env (ra.bind (makeD f c)):=by
 intro σ F H Q hL hs q;refine zix_ hx σ F H _ hL hs (q.bind.imp λds F1 H1 x1 k1 vs dX=>?_)
 intro x dx nx du ne;rw[mU];have k1:=k1.imp λa F3 H3 x3 k3=>k3.back x1.2.2.1
 have sm:Same H1 (upd (upd H1 dx (.own x)) x (.ins (gA K c) dx [])):=(zay_ du _).trans (zay_ (by rw[zR_ λz=>ne z.symm];exact nx) _)
 have eh:less (upd (upd H1 dx (.own x)) x (.ins (gA K c) dx [])) (two x dx (.ins (gA K c) dx []))=H1:=funext λp=>by
  unfold less;rw[zaz_];by_cases e:p=x
  ·subst e;rw[if_pos rfl];exact nx.symm
  ·rw[if_neg e]
   by_cases e2:p=dx
   ·subst e2;rw[if_pos rfl];exact du.symm
   ·rw[if_neg e2,zR_ e,zR_ e2]
 refine⟨F1,two x dx (.ins (gA K c) dx []),.nd (.obj c []) []::ds.map .vw,x1.2.1.trans sm,λp=>?_,λp o z=>?_,?_,?_⟩
 ·rw[zaz_]
  by_cases e:p=x
  ·subst e;exact .inl (x1.2.1.free nx)
  ·rw[if_neg e]
   by_cases e2:p=dx
   ·subst e2;exact .inl (x1.2.1.free du)
   ·rw[if_neg e2];exact .inr rfl
 ·rw[zaz_]at z
  by_cases e:p=x
  ·subst e;rw[if_pos rfl]at z;cases z;exact zH_
  ·rw[if_neg e]at z
   by_cases e2:p=dx
   ·subst e2;rw[if_pos rfl]at z;cases z;rw[zR_ e];exact zH_
   ·rw[if_neg e2]at z;cases z
 ·unfold ODs
  refine⟨.ref x,vs,_,λ_=>uE,rfl,no_r _ λ_=>rfl,?_,ODs.vw (λ_=>rfl) dX⟩
  unfold OD;exact⟨x,[],_,λ_=>uE,rfl,⟨dx,ne,rfl,rfl⟩,no_r _ λ_=>rfl,by unfold ODs;exact⟨rfl,λ_=>rfl⟩⟩
 ·rw [eh]
  unfold makeD at k1;cases e:f (.nd (.obj c []) []::ds.map .vw)with
  |no=>rw[e]at k1;exact k1
  |ex x ds'=>rw[e]at k1;exact λF' h' H' ok _=>k1 F' H' ok.1
  |ok d ds'=>
   rw[e]at k1;intro v F' h' H' hr h2 ok j od os;split at k1
   ·rename_i o tl ee
    cases ee;refine⟨?_,?_⟩
    ·unfold OD at od;exact od.2.non
    ·unfold ODs at os
     obtain⟨w,ws,m1,m2,e3,jm,oo,_⟩:=os;cases e3;have s1:Same m1 h':=jm.l.trans j.r;refine k1 F' H' ok.1 (.ref x) m1 (λp z=>ok.2.2.2.1 p ?_) (dj_l (dj_r ok.2.1 j) jm) (s1.trans ok.2.2.1) oo
     cases y:m1 p with
     |none=>exact absurd y z
     |some w=>rw[s1 _ _ y];exact sN _
   ·rename_i ee;cases ee
   ·exact k1.elim
def strsD:List D->Option (List (List Nat))
 |[]=>uD []
 |d::ds=>(match d.un with |.str l=>uD l |_=>uE).bind λx=>(strsD ds).map λxs=>x::xs
def joinD (l:List Nat)(ds:List D):Mo D:=match ds with
 |[d]=>(match d.un with |.nd .lst xs=>(Mo.opt (strsD xs)).bind λls=>.grd (JoinOk ⟨l.toArray⟩ (strsL ls)=uF) (.ok (.str (joinS l (strsL ls))))|_=>.no)
 |_=>.no
def splitD (l:List Nat)(ds:List D):Mo D:=match ds with
 |[d]=>(match d.un with |.str c=>.grd (l.length<=100000/\c≠[]) (.ok (.nd .lst (((splitG c l).map .str).map .vw)))|_=>.no)
 |_=>.no
theorem zjQ_:∀ls:List (List Nat),DRs K (ls.map .str) (ls.map tx) F
 |[]=>by unfold DRs;rfl
 |l::ls=>by rw[lq,lq];unfold DRs;exact⟨_,_,rfl,by unfold DR;rfl,zjQ_ ls⟩
def me1 (g:List Nat->List Nat->Mo D)(l:List Nat)(ds:List D):Mo D:=match ds with |[d]=>(match d.un with |.str c=>g l c |_=>.no)|_=>.no
def me1I (g:List Nat->Int->Mo D)(l:List Nat)(ds:List D):Mo D:=match ds with |[d]=>(match d.un with |.int c=>g l c |_=>.no)|_=>.no
abbrev findD:=me1 λl c=>.ok (.int (findS l c))
abbrev indexD:=me1 λl c=>.grd (findS l c ≠ -1) (.ok (.int (findS l c)))
abbrev zfillD:=me1I λl i=>.grd (PadOk i=uF) (.ok (.str (zfL l i)))
abbrev ljustD:=me1I λl i=>.grd (PadOk i=uF) (.ok (.str (ljL l i)))
noncomputable def tnD:D->Option String
 |.int _=>uD "int" |.bl _=>uD "bool" |.str _=>uD "str" |.non=>uD "NoneType" |.nd .lst _=>uD "list" |.nd .tup _=>uD "tuple" |_=>uE
def isaD (n:String)(d:D):Mo D:=.opt (((tnD d.un).bind λT=>isaB T n).map .bl)
theorem tnD_S {T:String}(h:tnD d=uD T)(a:DR K d v F)(hs:Same F H):tyS K H v T:=by
 cases d with
 |int=>cases h;cases a.int;rfl
 |bl=>cases h;cases a.bl;rfl
 |str=>cases h;cases a.str;rfl
 |non=>cases h;cases a.non;rfl
 |nd k ds=>
  obtain⟨p,us,rfl,m,_⟩:=a.nd;cases k with
  |lst=>cases h;exact .inl ⟨rfl,us,hs _ _ m⟩
  |tup=>cases h;exact .inr ⟨rfl,us,hs _ _ m⟩
  |_=>cases h
 |_=>cases h
def mIsaV (K:l4):List V->Hp->VK->Prop:=λxs H Q=>∃x c T b,xs=[x,.ty c]/\tyS K H x T/\isaB T c=uD b/\Q (.bl b) H
theorem zi0_ {X:Cx}:CallR X (.builtin "isinstance") (mIsaV X.K):=by
 rintro pins s σ H xs us Q I r ⟨x,c,T,b,rfl,ht,eb,hq⟩;obtain⟨u,w',rfl,r1,r2⟩:=vals2 r;cases r2;exact zil_ I r1 (zqu_ ht) (zmR_ eb) λtk=>⟨.bl b,H,I.tok tk,rfl,hq⟩
theorem zpZ_ (n:String)(hx:EvX K t E env r):EvX K (tCB (mIsaV K) (tCons t (tCons (tC (.ty n)) tNil))) E env (r.bind (isaD n)):=by
 intro σ F H Q hL hs q;refine ex_v hx σ F H _ hL hs (q.bind.imp λd F1 H1 x1 k1 v hv=>?_)
 have k1:=k1.imp λa F3 H3 x3 k3=>k3.back x1.2.2.1
 obtain⟨w,e,k1⟩:=k1.opt;obtain⟨b,e0,rfl⟩:=lP.mp e;obtain⟨T,e1,e2⟩:=lM.mp e0;exact⟨v,n,T,b,rfl,tnD_S e1 (DR.un hv) x1.2.1,e2,gotB k1 x1.2.1⟩
def blsD:List D->Option (List Bool)
 |[]=>uD []
 |d::ds=>match d.un,blsD ds with |.bl b,uD bs=>uD (b::bs)|_,_=>uE
theorem zmY_:∀{ds:List D}{us:List V}{bs:List Bool}{F:Hp},blsD ds=uD bs->DRs K ds us F->us=bs.map V.bl
 |[],us,bs,F,h,r=>by unfold DRs at r;subst r;cases h;rfl
 |d::ds,us,bs,F,h,r=>by
  unfold DRs at r;obtain⟨v,vs,rfl,a,r⟩:=r;unfold blsD at h;split at h
  ·rename_i b kx e1 e2
   cases h;have a:=DR.un a;rw[e1]at a;cases a.bl;rw[zmY_ e2 r];rfl
  ·cases h
def allD:List D->Mo D:=on1 λd=>match d with |.nd .lst ds=>(match blsD ds with |some bs=>.ok (.bl (bs.all id))|none=>.no)|_=>.no
theorem zpI_:BlD K (mAll K) E allD:=zgw_ λd v F H Q hs hd q=>by
 split at q
 ·obtain⟨p,us,rfl,n,r⟩:=hd.nd
  split at q
  ·rename_i bs e
   refine⟨bs,?_,gotB q hs⟩;rw[<- zmY_ e r];exact .of (hs _ _ n)
  ·exact q.elim
 ·exact q.elim
theorem zn8_:EvX K tDNewK E env (.ok (.nd (.dct []) [])):=by
 intro σ F H Q hL hs q p hp;refine q F _ (.heap hs (zay_ hp _)) (.ref p) (one p (.dK [])) (λb z=>?_) (λb=>?_) (λb o z=>?_) ?_
 ·rw[zi_]at z;split at z
  ·rename_i e;rw[e];exact hp
  ·exact absurd rfl z
 ·rw[zi_];split
  ·rename_i e;rw[e];exact .inl (hs.free hp)
  ·exact .inr rfl
 ·rw[zi_]at z;split at z
  ·rename_i e;rw[e];cases z;exact zH_
  ·cases z
 ·show OD K _ _ _ _
  unfold OD;exact⟨p,[],_,λ_=>uE,rfl,⟨rfl,rfl,List.nodup_nil⟩,no_r _ λ_=>rfl,by unfold ODs;exact⟨rfl,λ_=>rfl⟩⟩
theorem zkg_ {hi:Int}{n:Nat}{F1:Hp}:Yl K (Itp n λk=>.int (hi+k*(-1))) ((rngD hi n).map D.int) (tyD K) F1:=by
 have y:=zoe_ (K:=K) (hi:=hi) (n:=n) (F1:=F1);refine⟨λi H x hH hx=>?_,λH hH=>by rw[k8];exact y.stop H hH⟩
 rw[lB]at hx;cases e:(rngD hi n)[i]? with
 |none=>rw[e]at hx;cases hx
 |some z=>
  rw[e]at hx;cases hx;obtain⟨a,b⟩:=y.go i H z hH e;refine⟨a,λv H' hy F hF aS=>?_⟩
  obtain⟨F',x,r⟩:=b v H' hy F hF aS;exact⟨F',x,by show DR K _ _ _;unfold DR;exact r⟩
def rng3D (ds:List D):Mo (List D):=match ds with
 |[a,b,c]=>(intD a).bind λi=>(intD b).bind λj=>(intD c).bind λs=>.grd (s = -1 /\ -(2 ^ 61)<=i/\i<2 ^ 61 /\ -(2 ^ 61)<=j/\j<2 ^ 61) (.ok ((rngD i (i-j).toNat).map .int))
 |_=>.no
theorem DRs.three {d' iQ:D}(h:DRs K [d,d',iQ] us H):∃v v' dG,us=[v,v',dG]/\DR K d v H/\DR K d' v' H/\DR K iQ dG H:=by
 unfold DRs at h;obtain⟨v,vs,rfl,a,r⟩:=h;obtain⟨v',dG,rfl,b,c⟩:=DRs.two r;exact⟨v,v',dG,rfl,a,b,c⟩
theorem w_rg3:WkW K E (λvs _ H1 R=>match vs with |[.int i,.int j,.int c]=>c = -1/\(-(2 ^ 61)<=i/\i<2 ^ 61 /\ -(2 ^ 61)<=j/\j<2 ^ 61)/\R (Itp (i-j).toNat λk=>.int (i+k*(-1))) H1 |_=>False) rng3D:=by
 intro ds vs σ F1 H1 R x1 hv k1;unfold rng3D at k1;split at k1
 ·obtain⟨v,v',dG,rfl,a,b,c⟩:=DRs.three hv
  obtain⟨i,rfl,k1⟩:=zch_ k1 a;obtain⟨j,rfl,k1⟩:=zch_ k1 b;obtain⟨s,rfl,k1⟩:=zch_ k1 c;obtain⟨z,k1⟩:=k1.grd;exact⟨z.1,z.2,k1.ok x1 _ zkg_⟩
 ·exact k1.elim
def revD (ds:List D):Mo (List D):=match ds with
 |[d]=>(match d.un with |.nd .lst xs=>.ok xs.reverse |_=>.no)
 |_=>.no
theorem w_rev:WkW K E (λvs _ H1 R=>match vs with |[.ref a]=>∃xs,SqL K H1 a xs/\R (Itv K a xs.length) H1 |_=>False) revD:=by
 intro ds vs σ F1 H1 R x1 hv k1;unfold revD at k1;split at k1
 ·obtain⟨v,rfl,a⟩:=DRs.one hv
  have a:=DR.un a;split at k1
  ·rename_i l e
   rw[e]at a;obtain⟨p,us,rfl,hp,hr⟩:=a.nd;have hlen:l.length=us.length:=hr.len;refine⟨us,.of (x1 _ _ hp),k1.ok x1 _ ⟨λi H x hH hx=>?_,λH hH=>?_⟩⟩
   ·obtain⟨hi,_⟩:=lD.mp hx
    rw[l8]at hi;rw[List.getElem?_reverse hi]at hx;rcases hr.get (l.length-1-i)with⟨a,_⟩|⟨y,u,a,b,c⟩
    ·rw[a]at hx;cases hx
    ·rw[a]at hx;cases hx
     refine⟨⟨us,.of (hH _ _ hp),rfl,by lia⟩,?_⟩
     rintro v H' ⟨rfl,z⟩ F hF aS;have e:=z us (.of (hH _ _ hp));rw[<- hlen,b]at e;cases e;exact⟨F,.refl aS,(tyD K).mono hF c⟩
   ·show us.length<=_
    rw[l8,hlen];exact lp _
  ·exact k1.elim
 ·exact k1.elim
def zipD (ds:List D):Mo (List D):=match ds with
 |[d,e]=>(match d.un,e.un with
  |.nd .lst xs,.str l=>.ok ((xs.zip l).map λq=>.nd .tup [q.1,.str [q.2]])
  |_,_=>.no)
 |_=>.no
theorem w_zip:WkW K E (λvs _ H1 R=>match vs with
  |[.ref a,.str x]=>(∃xs,SqL K H1 a xs)/\R (ItzS K a x.cps.size (sgn x)) H1
  |_=>False) zipD:=by
 intro ds vs σ F1 H1 R x1 hv k1;unfold zipD at k1;split at k1
 ·obtain⟨v,v2,rfl,a,a2⟩:=DRs.two hv
  have a:=DR.un a;have a2:=DR.un a2;split at k1
  ·rename_i l1 l2 e1 e2
   rw[e1]at a;rw[e2]at a2;obtain⟨p,us,rfl,hp,hr⟩:=a.nd;cases a2.str;refine⟨⟨us,.of (x1 _ _ hp)⟩,k1.ok x1 _ ⟨λi H x hH hx=>?_,λH hH=>?_⟩⟩
   ·rw[lB]at hx
    cases ez:(l1.zip l2)[i]? with
    |none=>rw[ez]at hx;cases hx
    |some q=>
    rw[ez]at hx;cases hx;obtain⟨dy,dw⟩:=pB.mp (show(l1.zip l2)[i]?=uD (q.1,q.2)from ez)
    rcases hr.get i with⟨a,_⟩|⟨y,u,a,b,c⟩
    ·rw[a]at dy;cases dy
    rw[a]at dy;injection dy with dy;have hi:=(lD.mp dw).1;refine⟨⟨us,u,.of (hH _ _ hp),b,hi⟩,?_⟩;rintro v H' ⟨p3,w,z,hp3,rfl,rfl⟩ F hF aS;have e:=z us (.of (hH _ _ hp));rw[b]at e;cases e;have x':=Ext.new (o:=.tup [u,L2.sgn ⟨l2.toArray⟩ i]) aS hp3;refine⟨_,x',?_⟩;show DR K _ _ _
    unfold DR;refine⟨p3,_,rfl,zH_,?_⟩;unfold DRs;refine⟨_,_,rfl,by rw[<- dy];exact DR.mono (hF.trans x'.1) c,?_⟩
    unfold DRs;refine⟨_,_,rfl,?_,by unfold DRs;rfl⟩
    unfold DR;have e3:(l2.toArray).getD i 0=q.2:=by rw[oX,qL,dw];rfl
    show V.str ⟨#[(l2.toArray).getD i 0]⟩=tx [q.2]
    rw[e3]
   ·refine⟨us,.of (hH _ _ hp),?_⟩
    rw[k8,nA,hr.len];show min us.length l2.length=us.length\/min us.length l2.length<us.length/\min us.length l2.length=l2.length
    lia
  ·exact k1.elim
 ·exact k1.elim
theorem newTp (q:After K (.ok (.nd .tup (ds.map .vw))) E F H (OwnK (owD K) H Q))(hs:Same F H)(hp:H p=uE)(r:DRs K ds us F):Q (.ref p) (upd H p (.tup us)):=by
 have x:=Ext.new (o:=.tup us) hs hp;refine q _ _ x (.ref p) (λ_=>uE) (λb z=>absurd rfl z) (λ_=>.inr rfl) (λb o z=>by cases z) ?_
 show OD K _ _ _ _
 unfold OD;exact⟨p,us,λ_=>uE,λ_=>uE,rfl,⟨zH_,λ_=>rfl⟩,no_r _ λ_=>rfl,ODs.vw (λ_=>rfl) (r.mono x.1)⟩
def mSlA (K:l4):V->Option Int->Option Int->Hp->VK->Prop:=λx lo hi H Q=>mSl K x lo hi H Q\/rSlT K x lo hi H Q
theorem sl_A {X:Cx}:SlR X (mSlA X.K):=SlR.or sl_M zqV_
def slA (a:D)(lo hi:Option Int):Mo D:=match a.un with
 |.nd .tup xs=>if HT.sIx xs.length 0 lo=0/\HT.sIx xs.length xs.length hi=xs.length then .no else .ok (.nd .tup ((cutG xs lo hi).map .vw))
 |_=>slD a lo hi
theorem zp5_ {tl th:TO}{rl rh:Mo (Option Int)}(h0:EvX K t E env r)(hl:EvP K tl E (Lof K env) rl)(hh:EvP K th E (Lof K env) rh):EvX K (tSl (mSlA K) t tl th) E env (r.bind λl=>rl.bind λa=>rh.bind λb=>slA l a b):=by
 intro σ F H Q hL hs q;refine ex_v h0 σ F H _ hL hs (q.bind.imp λl F1 H1 x1 k1 v hv=>?_)
 refine hl σ F1 H1 _ (hL.mono x1.1) x1.2.1 (k1.bind.imp λlo F2 H2 x2 k2=>?_)
 refine hh σ F2 H2 _ (hL.mono (x1.1.trans x2.1)) x2.2.1 (k2.bind.imp λhi F3 H3 x3 k3=>?_)
 have ha:=DR.un ((tyD K).mono (x2.1.trans x3.1) hv);have k3:=k3.imp λc F4 H4 x4 k4=>k4.back (x1.2.2.1.trans (x2.2.2.1.trans x3.2.2.1))
 unfold slA at k3;split at k3
 ·rename_i xs e;rw[e]at ha;obtain⟨p,us,rfl,n,r⟩:=ha.nd
  split at k3
  ·exact k3.elim
  ·rename_i hn
   exact .inr ⟨p,us,rfl,.of (x3.2.1 _ _ n),by rw[<- r.len];exact hn,λp hp=>newTp k3 x3.2.1 hp (r.cut lo hi)⟩
 ·refine .inl ?_
  unfold slD at k3;split at k3
  ·rename_i l e;rw[e]at ha;cases ha.str
   obtain⟨c,k3⟩:=k3.lim;exact⟨c,gotS k3 x3.2.1⟩
  ·rename_i e;rw[e]at ha;obtain⟨p,us,rfl,n,r⟩:=ha.nd
   exact⟨us,.of (x3.2.1 _ _ n),λp hp=>newL k3 x3.2.1 hp (r.cut lo hi)⟩
  ·rename_i e;rw[e]at ha;obtain⟨p,us,rfl,n,r⟩:=ha.nd
   exact⟨us,x3.2.1.seq n,λp hp=>newL k3 x3.2.1 hp (r.cut lo hi)⟩
  ·exact k3.elim
def mAddA (K:l4):R2:=λx y H Q=>mAdd x y H Q\/rCatT K x y H Q
theorem znZ_ {X:Cx}:OpR X (nR .Add) (mAddA X.K):=λpins s σ H x y v u Q I rx ry h=>by
 rcases h with h |h
 ·exact zlK_ pins s σ H x y v u Q I rx ry h
 ·exact zn1_ pins s σ H x y v u Q I rx ry h
def addA (a b:D):Mo D:=match a.un,b.un with
 |.nd .tup xs,.nd .tup ys=>if xs=[]\/ys=[]then .no else .lim (xs.length+ys.length) (.ok (.nd .tup ((xs++ys).map .vw)))
 |_,_=>addD a b
noncomputable instance (l:List D):Decidable (l=[]):=match l with |[]=>.isTrue rfl |_::_=>.isFalse λh=>by cases h
theorem znP_:Op2D K (mAddA K) E addA:=by
 intro a b x y F H Q hs ha hb q;unfold addA at q;split at q
 ·rename_i xs ys e1 e2
  have ha:=DR.un ha;have hb:=DR.un hb;rw[e1]at ha;rw[e2]at hb;obtain⟨p,us,rfl,n,r⟩:=ha.nd;obtain⟨p2,ws,rfl,n2,r2⟩:=hb.nd;split at q
  ·exact q.elim
  ·rename_i hn
   obtain⟨c,q⟩:=q.lim;have h1:us≠[]:=λz=>hn (.inl (ml.mp (by rw[r.len,z];rfl)))
   have h2:ws≠[]:=λz=>hn (.inr (ml.mp (by rw[r2.len,z];rfl)))
   exact .inr ⟨p,p2,us,ws,rfl,rfl,.of (hs _ _ n),.of (hs _ _ n2),h1,by rw[<- r.len,<- r2.len];exact c,λz=>absurd z h2,λ_ l hl=>newTp q hs hl (r.app r2)⟩
 ·exact .inl (zq6_ a b x y F H Q hs ha hb q)
def rvD (a:D):Mo D:=match a.un with
 |.nd .lst xs=>.ok (.nd .lst (xs.reverse.map .vw))
 |_=>.no
theorem zhz_:∀{ds:List D}{us:List V}{d:D}{v:V}{F:Hp},DRs K ds us F->DR K d v F->DRs K (ds++[d]) (us++[v]) F
 |[],us,d,v,F,r,a=>by unfold DRs at r;subst r;show DRs K [d] [v] F;unfold DRs;exact⟨v,[],rfl,a,by unfold DRs;rfl⟩
 |d'::ds,us,d,v,F,r,a=>by
  unfold DRs at r;obtain⟨v',vs,rfl,b,r⟩:=r;show DRs K (d'::(ds++[d])) (v'::(vs++[v])) F
  unfold DRs;exact⟨v',_,rfl,b,zhz_ r a⟩
theorem zjS_:∀{ds:List D}{us:List V}{F:Hp},DRs K ds us F->DRs K ds.reverse us.reverse F
 |[],us,F,r=>by unfold DRs at r;subst r;show DRs K [] [] F;unfold DRs;rfl
 |d::ds,us,F,r=>by
  unfold DRs at r;obtain⟨v',vs,rfl,b,r⟩:=r;rw[pO,pO];exact zhz_ (zjS_ r) b
theorem ex_rv (h0:EvX K t E env r):EvX K (tRev K t (mPart (mNeg (tC (.int 1))))) E env (r.bind rvD):=by
 intro σ F H Q hL hs q;refine ex_v h0 σ F H _ hL hs (q.bind.imp λl F1 H1 x1 k1 v hv=>?_)
 have ha:=DR.un hv;have k1:=k1.imp λc F4 H4 x4 k4=>k4.back x1.2.2.1
 unfold rvD at k1;split at k1
 ·rename_i xs e;rw[e]at ha;obtain⟨p,us,rfl,n,r⟩:=ha.nd
  exact⟨rfl,us,.of (x1.2.1 _ _ n),λp hp=>newL k1 x1.2.1 hp (zjS_ r)⟩
 ·exact k1.elim
theorem zck_:∀(ns:List Int) {H:Hp},DRs K (ns.map D.int) (ns.map V.int) H
 |[],_=>by unfold DRs;rfl
 |n::ns,H=>by rw[lq,lq];unfold DRs;exact⟨_,_,rfl,by unfold DR;rfl,zck_ ns⟩
def lrD (a b:D):Mo D:=(intD a).bind λi=>(intD b).bind λj=>.grd (-50000<=i/\i<=50000 /\ -50000<=j/\j<=50000) (.ok (.nd .lst (((rngI i (j-i).toNat).map D.int).map .vw)))
theorem ex_lr {h_ hX:TE}{ig ie:Mo D}(h1:EvX K h_ E env ig)(h2:EvX K hX E env ie):EvX K (tCB (mList K) (tCons (tCB mRange (tCons h_ (tCons hX tNil))) tNil)) E env (ig.bind λx=>ie.bind λy=>lrD x y):=by
 intro σ F H Q hL hs q;refine ex_v h1 σ F H _ hL hs (q.bind.imp λa F1 H1 x1 k1 v hv=>?_)
 refine ex_v h2 σ F1 H1 _ (hL.mono x1.1) x1.2.1 (k1.bind.imp λb F2 H2 x2 k2 w hw=>?_)
 have k2:=k2.imp λc F4 H4 x4 k4=>k4.back (x1.2.2.1.trans x2.2.2.1)
 unfold lrD at k2;obtain⟨i,rfl,k2⟩:=zch_ k2 ((tyD K).mono x2.1 hv);obtain⟨j,rfl,k2⟩:=zch_ k2 hw;obtain⟨c,k2⟩:=k2.grd;intro p hp;have x:=Ext.new (o:=.rng i j) x2.2.1 hp;have e:intsV i j=(rngI i (j-i).toNat).map V.int:=by unfold intsV rngI;simp
 refine .inr ⟨i,j,zH_,c,λl hl=>?_⟩
 rw[e];refine newL (E:=E) (ds:=(rngI i (j-i).toNat).map D.int) (F:=upd F2 p (.rng i j)) (H:=upd H2 p (.rng i j)) (λF' H' y=>OwnK.back x.2.2.1 (k2 F' H' (x.trans y))) x.2.1 hl (zck_ _)
def intsD:List D->Option (List Int)
 |[]=>uD []
 |d::ds=>match d.un,intsD ds with |.int i,uD is=>uD (i::is)|_,_=>uE
def keysI:List Key->Option (List Int)
 |[]=>uD []
 |.inl i::ks=>(keysI ks).map (i::·)
 |_=>uE
theorem zjD_:∀{ds:List D}{us:List V}{is:List Int}{F:Hp},intsD ds=uD is->DRs K ds us F->Prs tyInt F is us
 |[],us,is,F,h,r=>by unfold DRs at r;subst r;cases h;exact .nil
 |d::ds,us,is,F,h,r=>by
  unfold DRs at r;obtain⟨v,vs,rfl,a,r⟩:=r;unfold intsD at h;split at h
  ·rename_i b kx e1 e2
   cases h;have a:=DR.un a;rw[e1]at a;exact .cons a.int (zjD_ e2 r)
  ·cases h
def srtI (is:List Int):Mo D:=.grd (is.length<64) (.ok (.nd .lst ((srtL ltI is).map .int)))
def mListA (K:l4):List V->Hp->VK->Prop:=λxs H Q=>mList K xs H Q\/match xs with
 |[.ref p]=>∃kvs,H p=uD (.dK kvs)/\kvs.length<=lE/\∀l,H l=uE->Q (.ref l) (upd H l (.lst (kvs.map λq=>kV q.1)))
 |_=>False
theorem zmm_:∀(a:List (Key×V)) (b:List (Key×aT)) (i:Nat) q k' x,KV a b->a[i]?=uD q->b[i]?=uD (k',x)->q.1=k':=by
 intro a b i q k' x fL;unfold KV at fL;induction fL generalizing i with
 |nil=>intro e;simp at e
 |cons r t ih=>
  intro e1 e2;cases i with
  |zero=>simp at e1 e2;subst e1;have:=r.1;rw[e2]at this;exact this
  |succ i=>exact ih i (by simpa using e1) (by simpa using e2)
theorem zdp_:∀(ks:List (Key×V)) (us:List aT),ks.length=us.length->(∀(i:Nat) (q:Key×V) (u:aT),ks[i]?=uD q->us[i]?=uD u->RelV (kV q.1) u)->Vals (ks.map λq=>kV q.1) us
 |[],us,hl,_=>by cases us with |nil=>exact .nil |cons _ _=>simp at hl
 |q::ks,us,hl,hh=>by
  cases us with
  |nil=>simp at hl
  |cons u us=>exact .cons (hh 0 q u rfl rfl) (zdp_ ks us (by simpa using hl) λi q' u' e1 e2=>hh (i+1) q' u' (by simpa using e1) (by simpa using e2))
theorem zhc_ {X:Cx}(hc:X.calm=uF):CallR X (.type "list") (mListA X.K):=by
 intro pins s σ H xs us Q I r h;rcases h with h |h
 ·exact zel_ hc pins s σ H xs us Q I r h
 ·split at h
  ·rename_i p
   obtain⟨kvs,hp,hl,q⟩:=h;obtain⟨u,rfl,rx⟩:=vals1 r;cases rx;obtain⟨z,hd,vs,rel,dd⟩:=zi3_ I.hok (.inl hp);obtain⟨ep,cB⟩:=dd.dictAt;have cj:kvs.length=vs.length:=rel.length;refine W.kdl_call (W.kdl_dict (knd:=mixKind X.prog X.w) (kvs:=vs) (ep:=ep) hd) (I.ok.hd hc) cB (by rw[<- cj];exact hl) λh' tk acc c kp ho az=>?_
   refine⟨.ref s.heap.objs.size,_,I.laid (o:=.lst (kvs.map λq=>kV q.1)) (t':=tk) kp (lp _) ⟨by rw[k8];exact hl,acc.toList,c,?_,by simpa using ho⟩,rfl,q _ (I.hok.fresh (lp _))⟩
   have bj:acc.toList.length=kvs.length:=by rw[nr,cj];exact az.1
   refine zdp_ kvs acc.toList bj.symm λi q u e1 e2=>?_
   obtain⟨k',x,ek,bo⟩:=az.2 i u (by rw[<- qM];exact e2)
   rw[zmm_ kvs vs i q k' x rel e1 ek];exact is_kV bo
  ·exact h.elim
def kD:Key->D
 |.inl i=>.int i
 |.inr s=>.str s.cps.toList
theorem zhI_:∀(ks:List Key) (us:List V) {H:Hp},ks.length=us.length->DRs K (ks.map kD) ((ks.zip us).map λq=>kV q.1) H
 |[],us,_,_=>by unfold DRs;rfl
 |k::ks,[],_,hl=>by cases hl
 |k::ks,u::us,H,hl=>by
  rw[mh,lq,lq];unfold DRs;refine⟨_,_,rfl,?_,zhI_ ks us (by simpa using hl)⟩
  cases k with
  |inl i=>unfold kD DR;rfl
  |inr s=>unfold kD DR;rfl
def listA:List D->Mo D:=on1 λd=>match d with
 |.nd .lst xs=>.ok (.nd .lst (xs.map .vw))
 |.nd .tup xs=>.ok (.nd .lst (xs.map .vw))
 |.nd .scr xs=>.ok (.nd .lst (xs.map .vw))
 |.nd (.dct ks) _=>.lim ks.length (.ok (.nd .lst ((ks.map kD).map .vw)))
 |_=>.no
theorem zka_:BlD K (mListA K) E listA:=zgw_ λd v F H Q hs hd q=>by
 split at q
 ·obtain⟨p,us,rfl,n,r⟩:=hd.nd;exact .inl (.inl ⟨us,.inl (.of (hs _ _ n)),λl hl=>newL q hs hl r⟩)
 ·obtain⟨p,us,rfl,n,r⟩:=hd.nd;exact .inl (.inl ⟨us,.inr (.of (hs _ _ n)),λl hl=>newL q hs hl r⟩)
 ·obtain⟨p,us,rfl,n,r⟩:=hd.nd;exact .inl (.inl ⟨us,.inl (hs.seq n),λl hl=>newL q hs hl r⟩)
 ·obtain⟨p,us,rfl,n,r⟩:=hd.nd
  obtain⟨c,q⟩:=q.lim;refine .inr ⟨_,hs _ _ n.1,by rw[nA,n.2.1,oS,<- n.2.1];exact c,λl hl=>newL q hs hl (zhI_ _ _ n.2.1)⟩
 ·exact q.elim
def mSortI (K:l4):List V->Hp->VK->Prop:=λxs H Q=>match xs with
 |[.ref p]=>∃ns:List Int,(SqL K H p (ns.map .int)\/∃kvs,H p=uD (.dK kvs)/\(kvs.map λq=>kV q.1)=ns.map .int)/\ns.length<64/\∀aZ:List Int,aZ.Perm ns->aZ.Pairwise (·<=·)->∀l,H l=uE->Q (.ref l) (upd H l (.lst (aZ.map .int)))
 |_=>False
theorem zdB_:∀{vs:List aT}{ns:List Int},IntsAre vs ns->Vals (ns.map .int) vs
 |_,_,.nil=>.nil
 |_,_,.cons _ _ h=>.cons ⟨_,rfl⟩ (zdB_ h)
theorem za9_:∀{ns:List Int}{vs:List aT},Vals (ns.map .int) vs->IntsAre vs ns
 |[],_,r=>by cases r;exact .nil
 |n::ns,_,r=>by cases r with |cons a r=>obtain⟨t,rfl⟩:=a;exact .cons n t (za9_ r)
theorem zg9_ {X:Cx}(hc:X.calm=uF):CallR X (.builtin "sorted") (mSortI X.K):=by
 intro pins s σ H xs us Q I r h;unfold mSortI at h;split at h
 rotate_left
 ·exact h.elim
 rename_i p
 obtain⟨ns,hp,h64,q⟩:=h;obtain⟨u,rfl,rx⟩:=vals1 r;cases rx;rcases hp with hp |⟨kvs,hp,hk⟩
 ·obtain⟨aa,rv,pl,hz⟩:=I.list hp
  have hn:=rv.length;rw[k8]at hn;refine sorted_ints pl.isList (za9_ rv) (by lia) λout aZ a1 a2 a3=>?_
  obtain⟨e,he⟩:=sortedAll_at s.heap aa out;exact⟨.ref (s.heap.objs.size+1),_,I.laid (o:=.lst (aZ.map .int)) (t':=s.toks) (λ_ _=>sortedAll_old) (oN _) ⟨by rw[k8,a2.length_eq];exact za1_ (by lia),out.toList,e,zdB_ a1,by simpa using he⟩,rfl,q aZ a2 a3 _ (I.hok.fresh (oN _))⟩
 ·obtain⟨z,hd,vs,rel,dd⟩:=zi3_ I.hok (.inl hp)
  obtain⟨ep,cB⟩:=dd.dictAt;have cj:kvs.length=vs.length:=rel.length;have kQ:kvs.length=ns.length:=by have:=congrArg oO hk;simpa using this
  refine Calls.call_function_entry kind_sorted plain_sorted entry_sorted (args_sorted1 _) ?_;unfold tm.«sorted»;refine lg (m:=checkCount "sorted" 1 1 _) (lK ?_);refine lg (zlm_ (W.kdl_dict (knd:=mixKind X.prog X.w) (kvs:=vs) (ep:=ep) hd) (I.ok.hd hc) cB (by rw[<- cj,sizeLine_eq];lia) λh1 tk acc hsz k1 az=>?_)
  have bj:acc.toList.length=kvs.length:=by rw[nr,cj];exact az.1
  have rv:Vals (ns.map .int) acc.toList:=by
   rw[<- hk];refine zdp_ kvs acc.toList bj.symm λi q u e1 e2=>?_
   obtain⟨k',x,ek,bo⟩:=az.2 i u (by rw[<- qM];exact e2)
   rw[zmm_ kvs vs i q k' x rel e1 ek];exact is_kV bo
  refine lg (wpAny_newList ?_ (by rw[sizeLine_eq];lia))
  have d8:(h1.push (seqObj "list" acc.toList.toArray 0)).get? h1.objs.size=uD (seqObj "list" acc.toList.toArray 0):=lI _ rfl;show lU _ _ _ _ _ {s with heap:=h1.push (seqObj "list" acc.toList.toArray 0),toks:=tk}
  refine lg (wpAny_holding (wpAny_call_entry slot_list_sort ⟨_,d8,rfl⟩ entry_list_sort (list_sort_tree d8 (za9_ rv) (by lia) λout aZ a1 a2 a3=>⟨_,rfl,?_⟩) (args_list_sort _)))
  obtain⟨e,he⟩:=sortedHeap_at (out:=out) d8;have kp:∀b o,s.heap.get? b=uD o->(sortedHeap (h1.push (seqObj "list" acc.toList.toArray 0)) h1.objs.size acc.toList out).get? b=uD o:=λb o z=>by
   have hb:=lL (k1 b o z);rw[sortedHeap_old (mm hb) (by rw[size_push'];exact qg hb)]
   exact lh _ (k1 b o z)
  exact lK ⟨_,rfl,.ref h1.objs.size,_,I.laid (o:=.lst (aZ.map .int)) (t':=tk) kp (p8 hsz) ⟨by rw[k8,a2.length_eq];exact za1_ (by lia),out.toList,e,zdB_ a1,by simpa using he⟩,rfl,q aZ a2 a3 _ (I.hok.fresh (p8 hsz))⟩
def sortI:List D->Mo D:=on1 λd=>match d with
 |.nd .lst ds=>(match intsD ds with |some is=>srtI is |none=>.no)
 |.nd (.dct ks) _=>(match keysI ks with |some is=>srtI is |none=>.no)
 |_=>.no
theorem zoI_ {X:Cx}{elts:List lN}{kk:Nat}{cH:Pos}{a b:lN}{ta:TA}{p pos:Pos}(hm:Gb X.mg "zip")(ha:PA X [a,b] ta)(hg:Gl X "zip")(hs:l7 [a,b] X.env=[(uG,eval a X.env),(uG,eval b X.env)])(aO:l7 [b] X.env=[(uG,eval b X.env)]):
  PI X (.Tuple elts kk cH) (.Call (.Name "zip" p) [a,b] [] pos) (λσ H R=>ta σ H λvs H1=>match vs with
   |[.ref a,.str x]=>(∃xs,SqL X.K H1 a xs)/\R (ItzS X.K a x.cps.size (sgn x)) H1
   |_=>False):=by
 intro pins s σ H R I h;refine Call_ (zdq_ I hg hm (u:=.type "zip") (by rfl) (mP (thn (ha pos pins s σ H _ I h) λus s1 ab=>?_) (by rw[hs,aO]) (by rw[aO];rfl)))
 obtain⟨vs,H1,I1,r1,q1⟩:=ab
 try dsimp only at q1
 have lo:∀b∈[s1.heap.objs.size+4,s1.heap.objs.size+2,s1.heap.objs.size+3,s1.heap.objs.size,s1.heap.objs.size+1],s1.heap.objs.size<=b:=λb hb=>by
  simp only[lC,mR,or_false]at hb;rcases hb with rfl |rfl |rfl |rfl |rfl<;>first |exact Nat.le_add_right _ _ |exact lp _
 split at q1
 ·rename_i l x
  obtain⟨⟨xs,hq⟩,q⟩:=q1;obtain⟨w1,w2,rfl,r,r'⟩:=vals2 r1;cases r;obtain⟨t,rfl⟩:=r';obtain⟨aa,rv,p1,hz⟩:=I1.list hq;refine zoA_ p1.isList λh' iu bS b8 h1 h2 hk=>?_
  refine wpAny_pyIter_zip (s:={s1 with heap:=h'}) iu ?_;have I2:Inv X pins σ H1 {s1 with heap:=h'}:=I1.kept (t':=s1.toks) hk;have la:l<s1.heap.objs.size:=by obtain⟨o,e,_⟩:=p1.isList;exact lL e
  refine⟨s1.heap.objs.size+4,[s1.heap.objs.size+4,s1.heap.objs.size+2,s1.heap.objs.size+3,s1.heap.objs.size,s1.heap.objs.size+1],_,_,H1,rfl,I2,zia_ _ _ _ _ _ l x t (zlC_ la) (mm la),⟨iu,bS,⟨_,_,b8⟩,h1,h2⟩,λb hb=>?_,q⟩
  exact I1.fpOk (lo b hb) (I1.hok.fresh (lo b hb))
 ·exact q1.elim
theorem zmW_:∀{is:List Int}{us:List V},Prs tyInt F is us->us=is.map .int
 |_,_,.nil=>rfl
 |_,_,.cons a r=>by cases a;rw[lq,<- zmW_ r]
theorem zje_:∀{ks:List Key}{is:List Int}{us:List V},keysI ks=uD is->ks.length=us.length->((ks.zip us).map λq=>kV q.1)=is.map .int
 |[],is,us,h,e=>by cases h;rfl
 |.inl i::ks,is,[],h,e=>by cases e
 |.inl i::ks,is,u::us,h,e=>by
  unfold keysI at h;obtain⟨kE,h',rfl⟩:=lP.mp h;rw[mh,lq,lq,zje_ h' (by simpa using e)];rfl
 |.inr _::_,_,_,h,_=>by cases h
theorem zn7_ {ns aZ:List Int}(p:aZ.Perm ns)(s:aZ.Pairwise (·<=·)):aZ=srtL ltI ns:=zfg_ zou_ p (s.imp λ{a b} h=>by show decide _=uG;exact decide_eq_false (by lia))
theorem zjk_ (l:List Int):(l.map D.int).map D.vw=l.map D.int:=by rw[mC];rfl
theorem zk3_:BlD K (mSortI K) E sortI:=zgw_ λd v F H Q hs hd q=>by
 split at q
 ·obtain⟨p,us,rfl,n,r⟩:=hd.nd
  split at q
  rotate_left
  ·exact q.elim
  rename_i is e
  unfold srtI at q;obtain⟨c,q⟩:=q.grd;refine⟨is,.inl ?_,c,λaZ hp cv l hl=>?_⟩
  ·rw[<- zmW_ (zjD_ e r)];exact .of (hs _ _ n)
  ·rw[zn7_ hp cv];exact newL (by rw[zjk_];exact q) hs hl (zck_ _)
 ·obtain⟨p,us,rfl,n,r⟩:=hd.nd
  split at q
  rotate_left
  ·exact q.elim
  rename_i is e
  unfold srtI at q;obtain⟨c,q⟩:=q.grd;refine⟨is,.inr ⟨_,hs _ _ n.1,zje_ e n.2.1⟩,c,λaZ hp cv l hl=>?_⟩
  rw[zn7_ hp cv];exact newL (by rw[zjk_];exact q) hs hl (zck_ _)
 ·exact q.elim
end
structure Gi where
 cs:List Str
 kt:List (Str×List (List Nat)):=[]
structure Gi.Ok (G:Gi)(K:l4):Prop where
 cs:G.cs≠[]
 kt:∀q∈G.kt,SqU K (gA K q.1) (q.2.map tx)
inductive Bo where
 |add |sub |mul |mod |div |lt |le |gt |ge |eq |ne |is |isn |inn |nin |ix
inductive Bf where
 |len |list |min |all |sorted
inductive Sm where
 |join |split |find |index |zfill |ljust
inductive Ik where
 |any |r1 |r2 |en |r3 |rev |zip
inductive X where
 |v (i:Nat)|k (d:D)|g (x:Str) (d:D)
 |gt (x:Str) (ls:List (List Nat))
 |bin (o:Bo) (a b:X)|ch (o o':Bo) (a b c:X)
 |and (a b:X)|or (a b:X)|not (a:X)|neg (a:X)|ifx (c a b:X)
 |sl (a:X) (lo hi:Option X)
 |tup (as:List X)|lst (as:List X)
 |fld (a:X) (f:Str)
 |call (f:Fn) (x:Str) (as:List X)
 |bf (o:Bf) (as:List X)
 |comp (lv:List Str) (fr:List (Str×Nat)) (ik:Ik) (src:List X) (tg:Tg) (c:Option X) (e:X)
 |make (f:Fn) (c:Str) (as:List X)
 |rv (a:X)|lr (a b:X)
 |isa (a:X) (n:String)|dct0 |ch3 (o o' aD:Bo) (a b c d:X)
def Bo.r (K:l4):Bo->R2
 |.add=>mAddA K |.sub=>mSub |.mul=>mMulX |.mod=>mMod |.div=>mDivG
 |.lt=>mLt |.le=>mLe |.gt=>mGt |.ge=>mGe |.eq=>mEqA K |.ne=>mNeA K |.is=>mIs |.isn=>mIsNot
 |.inn=>rInA K uG |.nin=>rInA K uF |.ix=>rIxA K
def Bo.f:Bo->D->D->Mo D
 |.add=>addA |.sub=>subD |.mul=>mulD |.mod=>modD |.div=>divD
 |.lt=>ltD |.le=>leD |.gt=>gtD |.ge=>geD |.eq=>eqD uG |.ne=>eqD uF |.is=>isD uG |.isn=>isD uF
 |.inn=>inA uG |.nin=>inA uF |.ix=>ixA
def Bf.r (K:l4):Bf->List V->Hp->VK->Prop
 |.len=>mLenA K |.list=>mListA K |.min=>mTwo Min.min |.all=>mAll K |.sorted=>mSortI K
def Bf.f:Bf->List D->Mo D
 |.len=>lenA |.list=>listA |.min=>minD |.all=>allD |.sorted=>sortI
def Sm.r (K:l4):Sm->V->List V->Hp->VK->Prop
 |.join=>mJoin K |.split=>mSplitG |.find=>mFind |.index=>mIndex |.zfill=>mZfill |.ljust=>mLjust
def Sm.f:Sm->List Nat->List D->Mo D
 |.join=>joinD |.split=>splitD |.find=>findD |.index=>indexD |.zfill=>zfillD |.ljust=>ljustD
def Ik.w (K:l4):Ik->List V->L2.St->Hp->(It->Hp->Prop)->Prop
 |.any=>iAnyW K
 |.r1=>λvs _ H1 R=>match vs with |[.int j] => -(2 ^ 62)<=j/\j<2 ^ 62/\R (Itr 0 j.toNat) H1 |_=>False
 |.r2=>λvs _ H1 R=>match vs with |[.int i,.int j]=>(-(2 ^ 62)<=i/\i<2 ^ 62 /\ -(2 ^ 62)<=j/\j<2 ^ 62)/\R (Itr i (j-i).toNat) H1 |_=>False
 |.en=>λvs _ H1 R=>match vs with |[.str z]=>R (Ites z.cps.toList.length (λi=>tx [z.cps.toList.getD i 0])) H1 |[.ref a]=>(∃xs,SqL K H1 a xs)/\R (Ite K a) H1 |_=>False
 |.r3=>λvs _ H1 R=>match vs with |[.int i,.int j,.int c]=>c = -1/\(-(2 ^ 61)<=i/\i<2 ^ 61 /\ -(2 ^ 61)<=j/\j<2 ^ 61)/\R (Itp (i-j).toNat λk=>.int (i+k*(-1))) H1 |_=>False
 |.rev=>λvs _ H1 R=>match vs with |[.ref a]=>∃xs,SqL K H1 a xs/\R (Itv K a xs.length) H1 |_=>False
 |.zip=>λvs _ H1 R=>match vs with
  |[.ref a,.str x]=>(∃xs,SqL K H1 a xs)/\R (ItzS K a x.cps.size (sgn x)) H1
  |_=>False
def Ik.t (K:l4)(o:Ik)(ta:TA):TI:=λσ H R=>ta σ H λvs H1=>o.w K vs σ H1 R
def Ik.f:Ik->List D->Mo (List D)
 |.any=>walkA |.r1=>rng1D |.r2=>rng2D |.en=>enumD |.r3=>rng3D |.rev=>revD |.zip=>zipD
theorem ik_w {K:l4}{E:XK}(o:Ik):WkW K E (o.w K) o.f:=by
 cases o with
 |any=>exact w_any
 |r1=>exact w_rg1
 |r2=>exact w_rg2
 |en=>exact w_en
 |r3=>exact w_rg3
 |rev=>exact w_rev
 |zip=>exact w_zip
theorem ik_ok {K:l4}{E:XK}{env:Env}{ta:TA}{ra:Mo (List D)}(o:Ik)(h:EvAs K ta E env ra):EvI K (o.t K ta) E (Lof K env) (ra.bind o.f) (tyD K):=ei_w (ik_w o) h
section
variable (K:mT)(G:Gi)
mutual
def X.den:XK->X->TE
 |_,.v i=>mVar i
 |_,.k d=>tC (d.flat?.getD .non)
 |_,.g _ d=>tC (d.flat?.getD .non)
 |_,.gt x _=>tC (.ref (gA K x))
 |E,.bin o a b=>tOp (o.r K) (a.den E) (b.den E)
 |E,.ch o o' a b c=>mChain (o.r K) (o'.r K) (a.den E) (b.den E) (c.den E)
 |E,.and a b=>mAndV (a.den E) (b.den E)
 |E,.or a b=>mOrV (a.den E) (b.den E)
 |E,.not a=>mNotV (a.den E)
 |E,.neg a=>mNeg (a.den E)
 |E,.ifx c a b=>mIf (mTest (c.den E)) (a.den E) (b.den E)
 |E,.sl a lo hi=>tSl (mSlA K) (a.den E) (X.denO E lo) (X.denO E hi)
 |E,.tup as=>tTup (X.dens E as)
 |E,.lst as=>tLst (X.dens E as)
 |E,.fld a f=>tFld K G.cs (a.den E) f
 |E,.call f _ as=>tCall (CtG K f) [] E (X.dens E as)
 |E,.bf o as=>tCB (o.r K) (X.dens E as)
 |E,.comp lv fr ik src tg c e=>tComp lv fr (ik.t K (X.dens E src)) (tgT K tg) (X.denT E0 c) (e.den E0)
 |E,.make f c as=>tMake (gA K c) (CtG K f) [] E (X.dens E as)
 |E,.rv a=>tRev K (a.den E) (mPart (mNeg (tC (.int 1))))
 |E,.lr a b=>tCB (mList K) (tCons (tCB mRange (tCons (a.den E) (tCons (b.den E) tNil))) tNil)
 |E,.isa a n=>tCB (mIsaV K) (tCons (a.den E) (tCons (tC (.ty n)) tNil))
 |_,.dct0=>tDNewK
 |E,.ch3 o o' aD a b c d=>mChain3 (o.r K) (o'.r K) (aD.r K) (a.den E) (b.den E) (c.den E) (d.den E)
def X.dens:XK->List X->TA
 |_,[]=>tNil
 |E,a::as=>tCons (a.den E) (X.dens E as)
def X.denO:XK->Option X->TO
 |_,uE=>tNoPart
 |E,uD a=>mPart (a.den E)
def X.denT:XK->Option X->TT
 |_,uE=>tTrue
 |E,uD a=>mTest (a.den E)
end
end
def chD (o o':Bo)(x y:D)(r:Mo D):Mo D:=(o.f x y).bind λz=>(blD z).bind λb=>if b then r.bind λw=>o'.f y w else .ok (.bl uG)
def ch3D (o o' aD:Bo)(x y:D)(r s:Mo D):Mo D:=(o.f x y).bind λz=>(blD z).bind λb=>if b then r.bind λw=>chD o' aD y w s else .ok (.bl uG)
section
variable (G:Gi)
mutual
def X.ev:Env->X->Mo D
 |env,.v i=>getE env i
 |_,.k d=>if d.flat?.isSome then .ok d else .no
 |_,.g _ d=>if d.flat?.isSome then .ok d else .no
 |_,.gt x ls=>if(x,ls)∈G.kt then .ok (.nd .ktup (ls.map .str))else .no
 |env,.bin o a b=>(a.ev env).bind λx=>(b.ev env).bind λy=>o.f x y
 |env,.ch o o' a b c=>(a.ev env).bind λx=>(b.ev env).bind λy=>chD o o' x y (c.ev env)
 |env,.and a b=>(a.ev env).bind λx=>andD x (b.ev env)
 |env,.or a b=>(a.ev env).bind λx=>orD x (b.ev env)
 |env,.not a=>(a.ev env).bind λx=>(blD x).bind λb=>.ok (.bl (!b))
 |env,.neg a=>(a.ev env).bind negD
 |env,.ifx c a b=>((c.ev env).bind blD).bind λt=>if t then a.ev env else b.ev env
 |env,.sl a lo hi=>(a.ev env).bind λx=>(X.evO env lo).bind λl=>(X.evO env hi).bind λh=>slA x l h
 |env,.tup as=>(X.evs env as).bind λds=>.lim ds.length (.ok (.nd .tup ds))
 |env,.lst as=>(X.evs env as).bind λds=>.lim ds.length (.ok (.nd .lst ds))
 |env,.fld a f=>(a.ev env).bind (fldD G.cs f)
 |env,.call f _ as=>(X.evs env as).bind λds=>f.val (ds.map .vw)
 |env,.bf o as=>(X.evs env as).bind o.f
 |env,.comp lv fr ik src tg c e=>if tg.is.all (·<lv.length)then(((X.evs env src).bind ik.f).bind λl=>.opt (tgsD tg l)).bind λxs=>(compM (λx=>cond1 (X.evT (setE (cE lv fr env) tg.is x) c) (e.ev (setE (cE lv fr env) tg.is x))) xs []).bind λys=>.ok (.nd .lst ys)else .no
 |env,.make f c as=>(X.evs env as).bind (makeD f c)
 |env,.rv a=>(a.ev env).bind rvD
 |env,.lr a b=>(a.ev env).bind λx=>(b.ev env).bind λy=>lrD x y
 |env,.isa a n=>(a.ev env).bind (isaD n)
 |_,.dct0=>.ok (.nd (.dct []) [])
 |env,.ch3 o o' aD a b c d=>(a.ev env).bind λx=>(b.ev env).bind λy=>ch3D o o' aD x y (c.ev env) (d.ev env)
def X.evs:Env->List X->Mo (List D)
 |_,[]=>.ok []
 |env,a::as=>(a.ev env).bind λd=>(X.evs env as).bind λds=>.ok (d::ds)
def X.evO:Env->Option X->Mo (Option Int)
 |_,uE=>.ok uE
 |env,uD a=>(a.ev env).bind λd=>(intD d).bind λi=>.ok (uD i)
def X.evT:Env->Option X->Mo Bool
 |_,uE=>.ok uF
 |env,uD a=>(a.ev env).bind blD
end
end
section
variable {K:mT}{E:XK}{env:Env}{G:Gi}
theorem zkc_ (o:Bo):Op2D K (o.r K) E o.f:=by
 cases o with
 |add=>exact znP_
 |sub=>exact zqI_
 |mul=>exact zqs_
 |mod=>exact zqo_
 |div=>exact zp7_
 |lt=>exact od_lt
 |le=>exact od_le
 |gt=>exact od_gt
 |ge=>exact od_ge
 |eq=>exact od_eq
 |ne=>exact od_ne
 |is=>exact od_is
 |isn=>exact zpw_
 |inn=>exact zma_
 |nin=>exact zma_
 |ix=>exact zpW_
theorem bf_ok (o:Bf):BlD K (o.r K) E o.f:=by
 cases o with
 |len=>exact zno_
 |list=>exact zka_
 |min=>exact zqP_
 |all=>exact zpI_
 |sorted=>exact zk3_
theorem zkQ_ {α:Type}{O:Own α}{m:Mo α}{F H:Hp}{Q:VK}(q:After K m E F H (λc F' H'=>∀v,O.fr.R c v F'->Q v H')):After K m E F H (OwnK O H Q):=by
 cases m with
 |no=>exact q
 |ex c=>exact q
 |ok a=>
  intro F' H' x v h' fresh d s o;refine q (un F' h') H' ⟨x.1.trans zau_,λp o e=>?_,x.2.2.1,λp a b=>?_⟩ v (O.frz d o)
  ·unfold un at e
   cases z:F' p with
   |some w=>rw[z]at e;cases e;exact x.2.1 _ _ z
   |none=>rw[z]at e;exact s _ _ e
  ·unfold un at b
   cases z:F' p with
   |some w=>exact x.2.2.2 p a (by rw[z];exact sN _)
   |none=>rw[z]at b;exact fresh p b
theorem ex_ch {o o':Bo}{t1 t2 t3:TE}{r1 r2 r3:Mo D}(h1:EvX K t1 E env r1)(h2:EvX K t2 E env r2)(h3:EvX K t3 E env r3):EvX K (mChain (o.r K) (o'.r K) t1 t2 t3) E env (r1.bind λx=>r2.bind λy=>chD o o' x y r3):=by
 intro σ F H Q hL hs q;refine ex_v h1 σ F H _ hL hs (q.bind.imp λa F1 H1 x1 k1 v1 aH=>?_)
 refine ex_v h2 σ F1 H1 _ (hL.mono x1.1) x1.2.1 (k1.bind.imp λb F2 H2 x2 k2 v2 cK=>?_)
 refine zkc_ o a b v1 v2 F2 H2 _ x2.2.1 ((tyD K).mono x2.1 aH) cK (zkQ_ (k2.bind.imp λz F3 H3 x3 k3 w hw=>?_))
 have hz:=DR.un hw;unfold blD at k3;split at k3
 ·rename_i c e
  rw[e]at hz;cases hz.bl;refine⟨λz=>?_,λz=>?_⟩
  ·subst z
   refine ex_v h3 σ F3 H3 _ (hL.mono (x1.1.trans (x2.1.trans x3.1))) x3.2.1 (After.imp (After.bind (show After K (r3.bind λw=>o'.f b w) E F3 H3 _ from k3)) λw F4 H4 x4 k4 v4 dz=>?_)
   exact zkc_ o' b w v2 v4 F4 H4 Q x4.2.1 ((tyD K).mono (x3.1.trans x4.1) cK) dz (k4.imp λa F5 H5 x5 k5=>k5.back (x1.2.2.1.trans (x2.2.2.1.trans (x3.2.2.1.trans x4.2.2.1))))
  ·subst z
   exact gotB (After.imp (show After K (.ok (D.bl uG)) E F3 H3 (OwnK (owD K) H Q)from k3) λa F5 H5 x5 k5=>k5.back (x1.2.2.1.trans (x2.2.2.1.trans x3.2.2.1))) x3.2.1
 ·exact k3.elim
theorem zqc_ {o o' aD:Bo}{t1 t2 t3 t4:TE}{r1 r2 r3 r4:Mo D}(h1:EvX K t1 E env r1)(h2:EvX K t2 E env r2)(h3:EvX K t3 E env r3)(h4:EvX K t4 E env r4):EvX K (mChain3 (o.r K) (o'.r K) (aD.r K) t1 t2 t3 t4) E env (r1.bind λx=>r2.bind λy=>ch3D o o' aD x y r3 r4):=by
 intro σ F H Q hL hs q;refine ex_v h1 σ F H _ hL hs (q.bind.imp λa F1 H1 x1 k1 v1 aH=>?_)
 refine ex_v h2 σ F1 H1 _ (hL.mono x1.1) x1.2.1 (k1.bind.imp λb F2 H2 x2 k2 v2 cK=>?_)
 refine zkc_ o a b v1 v2 F2 H2 _ x2.2.1 ((tyD K).mono x2.1 aH) cK (zkQ_ (k2.bind.imp λz F3 H3 x3 k3 w hw=>?_))
 have hz:=DR.un hw;unfold blD at k3;split at k3
 ·rename_i c e
  rw[e]at hz;cases hz.bl;refine⟨λz=>?_,λz=>?_⟩
  ·subst z
   refine ex_v h3 σ F3 H3 _ (hL.mono (x1.1.trans (x2.1.trans x3.1))) x3.2.1 (After.imp (After.bind (show After K (r3.bind λw=>chD o' aD b w r4) E F3 H3 _ from k3)) λw F4 H4 x4 k4 v4 dz=>?_)
   refine zkc_ o' b w v2 v4 F4 H4 _ x4.2.1 ((tyD K).mono (x3.1.trans x4.1) cK) dz (zkQ_ ((After.bind (show After K ((o'.f b w).bind _) E F4 H4 _ from k4)).imp λz5 F5 H5 x5 k5 w5 jj=>?_))
   have ir:=DR.un jj;unfold blD at k5;split at k5
   ·rename_i c5 e5
    rw[e5]at ir;cases ir.bl;refine⟨λz=>?_,λz=>?_⟩
    ·subst z
     refine ex_v h4 σ F5 H5 _ (hL.mono (x1.1.trans (x2.1.trans (x3.1.trans (x4.1.trans x5.1))))) x5.2.1 (After.imp (After.bind (show After K (r4.bind λw'=>aD.f w w') E F5 H5 _ from k5)) λw' F6 H6 x6 k6 v6 jo=>?_)
     exact zkc_ aD w w' v4 v6 F6 H6 Q x6.2.1 ((tyD K).mono (x5.1.trans x6.1) dz) jo (k6.imp λa F7 H7 x7 k7=>k7.back (x1.2.2.1.trans (x2.2.2.1.trans (x3.2.2.1.trans (x4.2.2.1.trans (x5.2.2.1.trans x6.2.2.1))))))
    ·subst z
     exact gotB (After.imp (show After K (.ok (D.bl uG)) E F5 H5 (OwnK (owD K) H Q)from k5) λa F7 H7 x7 k7=>k7.back (x1.2.2.1.trans (x2.2.2.1.trans (x3.2.2.1.trans (x4.2.2.1.trans x5.2.2.1))))) x5.2.1
   ·exact k5.elim
  ·subst z
   exact gotB (After.imp (show After K (.ok (D.bl uG)) E F3 H3 (OwnK (owD K) H Q)from k3) λa F5 H5 x5 k5=>k5.back (x1.2.2.1.trans (x2.2.2.1.trans x3.2.2.1))) x3.2.1
 ·exact k3.elim
theorem ex_k {d:D}(i:Str):EvX K (tC (d.flat?.getD .non)) E env (if d.flat?.isSome then .ok d else .no):=by
 cases e:d.flat? with
 |none=>exact λσ F H Q hL hs q=>q.elim
 |some v=>
  intro σ F H Q hL hs q;have q:After K (.ok d) E F H (OwnK (owD K) H Q):=q;show Q v H
  cases d with
  |non=>cases e;exact gotN q hs
  |bl=>cases e;exact gotB q hs
  |int=>cases e;exact gotI q hs
  |str=>cases e;exact gotS q hs
  |_=>cases e
theorem zgg_:∀ls:List (List Nat),D.imms (ls.map .str)=uF
 |[]=>rfl
 |l::ls=>by rw[lq];unfold D.imms;rw[zgg_ ls];rfl
mutual
theorem X.sound (g0:G.Ok K):∀(x:X) (E:XK) (env:Env),EvX K (x.den K G E) E env (x.ev G env)
 |.v i,E,env=>zpU_ i
 |.k d,E,env=>ex_k ""
 |.g x d,E,env=>ex_k x
 |.gt x ls,E,env=>by
  show EvX K _ E env (if _ then _ else _)
  by_cases h:(x,ls)∈G.kt
  ·rw[if_pos h]
   exact ex_c (λF=>by unfold DR;exact⟨_,_,rfl,g0.kt _ h,zjQ_ ls⟩) (by unfold D.imm;exact zgg_ ls)
  ·rw[if_neg h];exact λσ F H Q hL hs q=>q.elim
 |.bin o a b,E,env=>ex_op (zkc_ o) (X.sound g0 a E env) (X.sound g0 b E env)
 |.ch o o' a b c,E,env=>ex_ch (X.sound g0 a E env) (X.sound g0 b E env) (X.sound g0 c E env)
 |.and a b,E,env=>zqU_ (X.sound g0 a E env) (X.sound g0 b E env)
 |.or a b,E,env=>ex_or (X.sound g0 a E env) (X.sound g0 b E env)
 |.not a,E,env=>zre_ (X.sound g0 a E env)
 |.neg a,E,env=>zrD_ (X.sound g0 a E env)
 |.ifx c a b,E,env=>ex_if (zfy_ (X.sound g0 c E env)) (X.sound g0 a E env) (X.sound g0 b E env)
 |.sl a lo hi,E,env=>zp5_ (X.sound g0 a E env) (X.soundO g0 lo E env) (X.soundO g0 hi E env)
 |.tup as,E,env=>zqy_ (X.sounds g0 as E env)
 |.lst as,E,env=>zqZ_ (X.sounds g0 as E env)
 |.fld a f,E,env=>zqf_ g0.cs (X.sound g0 a E env)
 |.call f x as,E,env=>zmf_ (X.sounds g0 as E env)
 |.bf o as,E,env=>ex_cb (bf_ok o) (X.sounds g0 as E env)
 |.comp lv fr ik src tg c e,E,env=>by
  show EvX K _ E env (if _ then _ else _)
  split
  ·rename_i h
   exact zlY_ (ik_ok ik (X.sounds g0 src E env)) (λi hi=>by simpa using mL.mp h i hi) (λa=>X.soundT g0 c E0 _) (λa=>X.sound g0 e E0 _)
  ·exact λσ F H Q hL hs q=>q.elim
 |.make f c as,E,env=>zn5_ (X.sounds g0 as E env)
 |.rv a,E,env=>ex_rv (X.sound g0 a E env)
 |.lr a b,E,env=>ex_lr (X.sound g0 a E env) (X.sound g0 b E env)
 |.isa a n,E,env=>zpZ_ n (X.sound g0 a E env)
 |.dct0,E,env=>zn8_
 |.ch3 o o' aD a b c d,E,env=>zqc_ (X.sound g0 a E env) (X.sound g0 b E env) (X.sound g0 c E env) (X.sound g0 d E env)
theorem X.sounds (g0:G.Ok K):∀(as:List X) (E:XK) (env:Env),EvAs K (X.dens K G E as) E env (X.evs G env as)
 |[],E,env=>zow_
 |a::as,E,env=>zkW_ (X.sound g0 a E env) (X.sounds g0 as E env)
theorem X.soundO (g0:G.Ok K):∀(a:Option X) (E:XK) (env:Env),EvP K (X.denO K G E a) E (Lof K env) (X.evO G env a)
 |none,E,env=>ep_no
 |some a,E,env=>ep_x (X.sound g0 a E env)
theorem X.soundT (g0:G.Ok K):∀(a:Option X) (E:XK) (env:Env),EvT K (X.denT K G E a) E (Lof K env) (X.evT G env a)
 |none,E,env=>zm9_
 |some a,E,env=>zfy_ (X.sound g0 a E env)
end
end
mutual
def X.uses:X->List Nat
 |.v i=>[i]
 |.k _=>[]
 |.g _ _=>[]
 |.gt _ _=>[]
 |.bin _ a b=>a.uses++b.uses
 |.ch _ _ a b c=>a.uses++b.uses++c.uses
 |.and a b=>a.uses++b.uses
 |.or a b=>a.uses++b.uses
 |.not a=>a.uses
 |.neg a=>a.uses
 |.ifx c a b=>c.uses++a.uses++b.uses
 |.sl a lo hi=>a.uses++X.usesO lo++X.usesO hi
 |.tup as=>X.usesL as
 |.lst as=>X.usesL as
 |.fld a _=>a.uses
 |.call _ _ as=>X.usesL as
 |.bf _ as=>X.usesL as
 |.comp _ fr _ src _ _ _=>X.usesL src++fr.map (·.2)
 |.make _ _ as=>X.usesL as
 |.rv a=>a.uses
 |.lr a b=>a.uses++b.uses
 |.isa a _=>a.uses
 |.dct0=>[]
 |.ch3 _ _ _ a b c d=>(a.uses++b.uses)++(c.uses++d.uses)
def X.usesL:List X->List Nat
 |[]=>[]
 |a::as=>a.uses++X.usesL as
def X.usesO:Option X->List Nat
 |none=>[]
 |some a=>a.uses
end
def Alike (is:List Nat)(e e':Env):Prop:=∀i∈is,getE e i=getE e' i
theorem Alike.l {is js:List Nat}{e e':Env}(h:Alike (is++js) e e'):Alike is e e':=λi hi=>h i (pb _ hi)
theorem Alike.r {is js:List Nat}{e e':Env}(h:Alike (is++js) e e'):Alike js e e':=λi hi=>h i (lV _ hi)
section
variable {G:Gi}
theorem zmD_ {lv:List Str}{fr:List (Str×Nat)}{e e':Env}(h:Alike (fr.map (·.2)) e e')(j:Nat):getE (cE lv fr e) j=getE (cE lv fr e') j:=by
 unfold cE;by_cases hj:j<lv.length
 ·unfold getE
  rw[mJ (by rw[k8];exact hj),mJ (by rw[k8];exact hj)]
 ·have hj:=rL hj
  have key:∀e:Env,getE (lv.map (λ_=>uE)++fr.map λq=>(e[q.2]?).join) j=match fr[j-lv.length]? with |some q=>getE e q.2 |none=>.no:=λe=>by
   unfold getE;rw[my (by rw[k8];exact hj),k8,lB]
   cases fr[j-lv.length]? with
   |none=>rfl
   |some q=>
    rw[qJ];dsimp only;cases e[q.2]? with |none=>rfl |some o=>cases o<;>rfl
  rw[key,key];cases z:fr[j-lv.length]? with
  |none=>rfl
  |some q=>exact h q.2 (mF.mpr ⟨q,nG z,rfl⟩)
theorem zkP_ {e e':Env}{i:Nat}{o:Option D}(hl:e.length=e'.length)(h:∀j,getE e j=getE e' j)(j:Nat):getE (e.set i o) j=getE (e'.set i o) j:=by
 by_cases hj:i=j
 ·subst hj
  unfold getE;rw[nJ,nJ,if_pos rfl,if_pos rfl,hl]
 ·have:=h j
  unfold getE at this ⊢;rw[lW hj,lW hj];exact this
theorem zft_:∀{is:List Nat}{ds:List D}{e e':Env},e.length=e'.length->(∀j,getE e j=getE e' j)->∀j,getE (setE e is ds) j=getE (setE e' is ds) j
 |[],_,_,_,_,h=>h
 |_::_,[],_,_,_,h=>h
 |i::is,d::ds,e,e',hl,h=>λj=>zft_ (is:=is) (ds:=ds) (e:=e.set i (uD d.vw)) (e':=e'.set i (uD d.vw)) (by rw[nz,nz,hl]) (zkP_ hl h) j
theorem zp2_ {lv:List Str}{fr:List (Str×Nat)}{e e':Env}:(cE lv fr e).length=(cE lv fr e').length:=by unfold cE;simp
mutual
theorem X.ev_uses:∀(x:X) {e e':Env},Alike x.uses e e'->x.ev G e=x.ev G e'
 |.v i,e,e',h=>h i (List.mem_singleton_self _)
 |.k d,e,e',h=>rfl
 |.g x d,e,e',h=>rfl
 |.gt x ls,e,e',h=>rfl
 |.bin o a b,e,e',h=>by show Mo.bind _ _=Mo.bind _ _;rw[X.ev_uses a h.l,X.ev_uses b h.r]
 |.ch o o' a b c,e,e',h=>by show Mo.bind _ _=Mo.bind _ _;rw[X.ev_uses a h.l.l,X.ev_uses b h.l.r,X.ev_uses c h.r]
 |.and a b,e,e',h=>by show Mo.bind _ _=Mo.bind _ _;rw[X.ev_uses a h.l,X.ev_uses b h.r]
 |.or a b,e,e',h=>by show Mo.bind _ _=Mo.bind _ _;rw[X.ev_uses a h.l,X.ev_uses b h.r]
 |.not a,e,e',h=>by show Mo.bind _ _=Mo.bind _ _;rw[X.ev_uses a h]
 |.neg a,e,e',h=>by show Mo.bind _ _=Mo.bind _ _;rw[X.ev_uses a h]
 |.ifx c a b,e,e',h=>by show Mo.bind _ _=Mo.bind _ _;rw[X.ev_uses c h.l.l,X.ev_uses a h.l.r,X.ev_uses b h.r]
 |.sl a lo hi,e,e',h=>by show Mo.bind _ _=Mo.bind _ _;rw[X.ev_uses a h.l.l,X.evO_uses lo h.l.r,X.evO_uses hi h.r]
 |.tup as,e,e',h=>by show Mo.bind _ _=Mo.bind _ _;rw[X.evs_uses as h]
 |.lst as,e,e',h=>by show Mo.bind _ _=Mo.bind _ _;rw[X.evs_uses as h]
 |.fld a f,e,e',h=>by show Mo.bind _ _=Mo.bind _ _;rw[X.ev_uses a h]
 |.call f x as,e,e',h=>by show Mo.bind _ _=Mo.bind _ _;rw[X.evs_uses as h]
 |.bf o as,e,e',h=>by show Mo.bind _ _=Mo.bind _ _;rw[X.evs_uses as h]
 |.comp lv fr ik src tg c x,e,e',h=>by
  show(if _ then Mo.bind _ _ else _)=(if _ then Mo.bind _ _ else _)
  rw[X.evs_uses src h.l];have g:∀ds j,getE (setE (cE lv fr e) tg.is ds) j=getE (setE (cE lv fr e') tg.is ds) j:=λds=>zft_ zp2_ (zmD_ h.r)
  have g1:∀ds,X.evT G (setE (cE lv fr e) tg.is ds) c=X.evT G (setE (cE lv fr e') tg.is ds) c:=λds=>X.evT_uses c λi _=>g ds i
  have g2:∀ds,x.ev G (setE (cE lv fr e) tg.is ds)=x.ev G (setE (cE lv fr e') tg.is ds):=λds=>X.ev_uses x λi _=>g ds i
  have g3:(λds=>cond1 (X.evT G (setE (cE lv fr e) tg.is ds) c) (x.ev G (setE (cE lv fr e) tg.is ds)))=λds=>cond1 (X.evT G (setE (cE lv fr e') tg.is ds) c) (x.ev G (setE (cE lv fr e') tg.is ds)):=funext λds=>by rw[g1,g2]
  rw[g3]
 |.make f c as,e,e',h=>by show Mo.bind _ _=Mo.bind _ _;rw[X.evs_uses as h]
 |.rv a,e,e',h=>by show Mo.bind _ _=Mo.bind _ _;rw[X.ev_uses a h]
 |.lr a b,e,e',h=>by show Mo.bind _ _=Mo.bind _ _;rw[X.ev_uses a h.l,X.ev_uses b h.r]
 |.isa a n,e,e',h=>by show Mo.bind _ _=Mo.bind _ _;rw[X.ev_uses a h]
 |.dct0,e,e',h=>rfl
 |.ch3 o o' aD a b c d,e,e',h=>by show Mo.bind _ _=Mo.bind _ _;rw[X.ev_uses a h.l.l,X.ev_uses b h.l.r,X.ev_uses c h.r.l,X.ev_uses d h.r.r]
theorem X.evs_uses:∀(as:List X) {e e':Env},Alike (X.usesL as) e e'->X.evs G e as=X.evs G e' as
 |[],e,e',h=>rfl
 |a::as,e,e',h=>by show Mo.bind _ _=Mo.bind _ _;rw[X.ev_uses a h.l,X.evs_uses as h.r]
theorem X.evO_uses:∀(a:Option X) {e e':Env},Alike (X.usesO a) e e'->X.evO G e a=X.evO G e' a
 |none,e,e',h=>rfl
 |some a,e,e',h=>by show Mo.bind _ _=Mo.bind _ _;rw[X.ev_uses a h]
theorem X.evT_uses:∀(a:Option X) {e e':Env},Alike (X.usesO a) e e'->X.evT G e a=X.evT G e' a
 |none,e,e',h=>rfl
 |some a,e,e',h=>by show Mo.bind _ _=Mo.bind _ _;rw[X.ev_uses a h]
end
end
mutual
noncomputable def D.cold:D->Bool
 |.nd .tup ds=>D.colds ds
 |.nd .ktup ds=>D.colds ds
 |.nd _ _=>uG
 |_=>uF
noncomputable def D.colds:List D->Bool
 |[]=>uF
 |d::ds=>d.cold && D.colds ds
end
section
variable {K:mT}{E:XK}{F F' F0 F1 F2 H0 h h1 h2 h3 k H H' H1 H2:Hp}{d:D}{ds:List D}{v:V}{us vs:List V}{p:lu}{Q:VK}{env:Env}{t:TE}{ws:Ws}{σ:L2.St}{G:Gi}
theorem OD.cold:∀{d:D}{v:V}{h:Hp},d.cold=uF->OD K d v F h->(∀p,h p=uE)/\DR K d v F
 |.nd .tup ds,_,h,z,q=>by
  unfold D.cold at z;unfold OD at q;obtain⟨p,us,h0,h2,e,c,j,r⟩:=q;obtain⟨n,r⟩:=go z r;refine⟨λp=>?_,by unfold DR;exact⟨p,us,e,c.1,r⟩⟩
  rcases j p with⟨_,y⟩|⟨_,y⟩
  ·rw[y,n]
  ·rw[y,c.2]
 |.nd .ktup ds,_,h,z,q=>by
  unfold D.cold at z;unfold OD at q;obtain⟨p,us,h0,h2,e,c,j,r⟩:=q;obtain⟨n,r⟩:=go z r;refine⟨λp=>?_,by unfold DR;exact⟨p,us,e,c.1,r⟩⟩
  rcases j p with⟨_,y⟩|⟨_,y⟩
  ·rw[y,n]
  ·rw[y,c.2]
 |.nd .lst _,_,_,z,_=>by simp[D.cold]at z
 |.nd .scr _,_,_,z,_=>by simp[D.cold]at z
 |.nd (.dct _) _,_,_,z,_=>by simp[D.cold]at z
 |.nd (.obj _ _) _,_,_,z,_=>by simp[D.cold]at z
 |.non,_,_,_,q=>by unfold OD at q;exact q
 |.bl _,_,_,_,q=>by unfold OD at q;exact q
 |.int _,_,_,_,q=>by unfold OD at q;exact q
 |.str _,_,_,_,q=>by unfold OD at q;exact q
 |.fz _,_,_,_,q=>by unfold OD at q;exact q
 |.pin _,_,_,_,q=>by unfold OD at q;exact q
 |.gone,_,_,_,q=>by unfold OD at q;exact q
where go:∀{ds:List D}{us:List V}{h:Hp},D.colds ds=uF->ODs K ds us F h->(∀p,h p=uE)/\DRs K ds us F
 |[],_,_,_,q=>by unfold ODs at q;exact⟨q.2,by unfold DRs;exact q.1⟩
 |d::ds,_,h,z,q=>by
  unfold D.colds at z;obtain⟨z1,z2⟩:=mj.mp z;unfold ODs at q;obtain⟨v,vs,h1,h2,e,j,a,r⟩:=q;obtain⟨n1,a⟩:=OD.cold z1 a;obtain⟨n2,r⟩:=go z2 r;refine⟨λp=>?_,by unfold DRs;exact⟨v,vs,e,a,r⟩⟩
  rcases j p with⟨_,y⟩|⟨_,y⟩
  ·rw[y,n2]
  ·rw[y,n1]
theorem ze0_:∀{d:D},d.imm=uF->d.cold=uF
 |.nd .tup ds,z=>by unfold D.imm at z;unfold D.cold;exact go z
 |.nd .ktup ds,z=>by unfold D.imm at z;unfold D.cold;exact go z
 |.nd .lst _,z=>by simp[D.imm]at z
 |.nd .scr _,z=>by simp[D.imm]at z
 |.nd (.dct _) _,z=>by simp[D.imm]at z
 |.nd (.obj _ _) _,z=>by simp[D.imm]at z
 |.non,_=>rfl
 |.bl _,_=>rfl
 |.int _,_=>rfl
 |.str _,_=>rfl
 |.fz _,_=>rfl
 |.pin _,_=>rfl
 |.gone,_=>rfl
where go:∀{ds:List D},D.imms ds=uF->D.colds ds=uF
 |[],_=>rfl
 |d::ds,z=>by
  unfold D.imms at z;obtain⟨z1,z2⟩:=mj.mp z;unfold D.colds;rw[ze0_ z1,go z2];rfl
theorem zoJ_ (d:D):d.vw.cold=uF:=by
 unfold D.vw;split
 ·exact ze0_ (by assumption)
 ·split<;>rfl
theorem vw_vw (d:D):d.vw.vw=d.vw:=by
 unfold D.vw;by_cases h:d.imm=uF
 ·rw[if_pos h,if_pos h]
 ·rw[if_neg h]
  cases d with
  |fz d=>dsimp only;rw[if_neg h]
  |_=>dsimp only;rw[if_neg (by unfold D.imm;exact h)]
theorem zbc_ (ok:Okk F0 H0 F1 h H1)(j:Jn k h2 h)(ay:Okk F1 (less H1 h2) F2 h3 H2):Same F1 F2/\Dj k h3/\Okk F0 H0 F2 (un k h3) H2:=by
 obtain⟨x,d,s,fr,nt⟩:=ok;obtain⟨x2,d2,s2,eY,nt2⟩:=ay;have kh:∀p,k p≠uE->(less H1 h2) p≠uE:=λp z=>by
  cases y:k p with
  |none=>exact absurd y z
  |some o=>
   have n2:h2 p=uE:=by
    rcases j.dj p with w |w
    ·rw[w]at y;cases y
    ·exact w
   rw[zax_ n2,s _ _ (j.l _ _ y)];exact sN _
 have dk:Dj k h3:=λp=>by
  cases y:k p with
  |none=>exact .inl rfl
  |some o=>
   right;cases w:h3 p with
   |none=>rfl
   |some o'=>exact absurd (eY p (by rw[w];exact sN _)) (kh p (by rw[y];exact sN _))
 have gM:Same H0 (less H1 h2):=λp o e=>by
  have n2:h2 p=uE:=by
   cases w:h2 p with
   |none=>rfl
   |some o'=>have:=fr p (by rw[j.r _ _ w];exact sN _);rw[this]at e;cases e
  rw[zax_ n2];exact x.2.2.1 _ _ e
 refine⟨x2.1,dk,⟨x.1.trans x2.1,x2.2.1,gM.trans x2.2.2.1,λp a b=>?_⟩,λp=>?_,λp o e=>?_,λp z=>?_,λp xs e=>?_⟩
 ·cases y:F1 p with
  |some o=>exact x.2.2.2 p a (by rw[y];exact sN _)
  |none=>exact gM.free (x2.2.2.2 p y b)
 ·unfold un
  cases y:k p with
  |none=>exact d2 p
  |some o=>
   left;cases w:F2 p with
   |none=>rfl
   |some o'=>
    have n1:F1 p=uE:=by
     rcases d p with z |z
     ·exact z
     ·rw[j.l _ _ y]at z;cases z
    exact absurd (x2.2.2.2 p n1 (by rw[w];exact sN _)) (kh p (by rw[y];exact sN _))
 ·unfold un at e
  cases y:k p with
  |none=>rw[y]at e;exact s2 _ _ e
  |some o'=>
   rw[y]at e;cases e;refine x2.2.2.1 _ _ ?_;have n2:h2 p=uE:=by
    rcases j.dj p with w |w
    ·rw[w]at y;cases y
    ·exact w
   rw[zax_ n2];exact s _ _ (j.l _ _ y)
 ·unfold un at z
  cases y:k p with
  |none=>rw[y]at z;exact gM.free (eY p z)
  |some o=>exact fr p (by rw[j.l _ _ y];exact sN _)
 ·unfold un at e
  cases y:k p with
  |none=>rw[y]at e;exact nt2 p xs e
  |some o=>rw[y]at e;cases e;exact nt p xs (j.l _ _ y)
theorem zha_ (ok:Okk F0 H0 F1 h H1)(j:Jn k h2 h):Okk F1 (less H1 h2) F1 h2 H1:=
 zcc_ ok.1.2.1 (dj_r ok.2.1 j) (j.r.trans ok.2.2.1) λp xs e=>ok.2.2.2.2 p xs (j.r _ _ e)
theorem zcE_ {c:Xc}(ok:Okk F0 H0 F1 h H1)(j:Jn k h2 h)(t:Tell K E c H0 F2 H2):Tell K E c (less H1 h2) F2 H2:=by
 refine t.up λp o e=>?_
 have n2:h2 p=uE:=by
  cases w:h2 p with
  |none=>rfl
  |some o'=>have:=ok.2.2.2.1 p (by rw[j.r _ _ w];exact sN _);rw[this]at e;cases e
 rw[zax_ n2];exact ok.1.2.2.1 _ _ e
def frz1 (env:Env)(i:Nat):Env:=match env[i]? with |some (uD d)=>env.set i (uD d.vw)|_=>env
def frzE (env:Env)(is:List Nat):Env:=is.foldl frz1 env
theorem ziw_ {i:Nat}(hL:Hold (LofW K ws env) σ F h)(ok:Okk F0 H0 F h H):∃F' h',Hold (LofW K ws (frz1 env i)) σ F' h'/\Okk F0 H0 F' h' H:=by
 unfold frz1;split
 ·rename_i d hi
  obtain⟨o,k1,k2,e1,j,pp,f⟩:=Hold.atG hL (zaw_ hi);obtain⟨v,rfl,hv,od⟩:=zcs_ pp;obtain⟨o1,o2,o3,o4,o5⟩:=ok;have d1:DR K d v (un F k1):=OD.view zau_ (zeZ_ (dj_l o2 j)) od;refine⟨un F k1,k2,?_,⟨o1.1.trans zau_,λp o e=>?_,o1.2.2.1,λp a b=>?_⟩,λp=>?_,j.r.trans o3,λp z=>?_,λp xs e=>o5 p xs (j.r _ _ e)⟩
  ·have:=f (slotW K (ws i) (uD d.vw)) (uD v) (un F k1) (λ_=>uE) k2 zau_ (zdk_ hv (OD.vw (λ_=>rfl) d1)) λp=>.inl ⟨rfl,rfl⟩
   rw[zdr_,zdD_ e1]at this;exact this
  ·unfold un at e
   cases z:F p with
   |some w=>rw[z]at e;cases e;exact o1.2.1 _ _ z
   |none=>rw[z]at e;exact o3 _ _ (j.l _ _ e)
  ·unfold un at b
   cases z:F p with
   |some w=>exact o1.2.2.2 p a (by rw[z];exact sN _)
   |none=>
    rw[z]at b;cases y:k1 p with
    |none=>exact absurd y b
    |some w=>exact o4 p (by rw[j.l _ _ y];exact sN _)
  ·unfold un
   cases z:F p with
   |some w=>
    rcases dj_r o2 j p with y |y
    ·rw[y]at z;cases z
    ·exact .inr y
   |none=>exact j.dj p
  ·cases y:k2 p with
   |none=>exact absurd y z
   |some w=>exact o4 p (by rw[j.r _ _ y];exact sN _)
 ·exact⟨F,h,hL,ok⟩
theorem zhm_:∀(is:List Nat) {env:Env}{F h:Hp},Hold (LofW K ws env) σ F h->Okk F0 H0 F h H->∃F' h',Hold (LofW K ws (frzE env is)) σ F' h'/\Okk F0 H0 F' h' H
 |[],env,F,h,hL,ok=>⟨F,h,hL,ok⟩
 |i::is,env,F,h,hL,ok=>by
  obtain⟨F1,h1,a,b⟩:=ziw_ (i:=i) hL ok;exact zhm_ is a b
theorem zig_ (env:Env)(i j:Nat):getE (frz1 env i) j=getE env j:=by
 unfold frz1;split
 ·rename_i d hi
  unfold getE;by_cases e:i=j
  ·subst e;rw[nj (lD.mp hi).1,hi];dsimp only;rw[vw_vw]
  ·rw[lW e]
 ·rfl
theorem zgT_:∀(is:List Nat) (env:Env) (j:Nat),getE (frzE env is) j=getE env j
 |[],_,_=>rfl
 |i::is,env,j=>(zgT_ is (frz1 env i) j).trans (zig_ env i j)
def coldE (env:Env):Env:=env.map λo=>o.bind λd=>if d.cold then uD d else uE
def Cold (env:Env)(i:Nat):Prop:=∀d,env[i]?=uD (uD d)->d.cold=uF
theorem zfv_ {env:Env}{i j:Nat}(h:i=j\/Cold env j):Cold (frz1 env i) j:=by
 unfold frz1;split
 ·rename_i d hi
  intro d' e;by_cases z:i=j
  ·subst z;rw[nj (lD.mp hi).1]at e;cases e;exact zoJ_ d
  ·rw[lW z]at e
   rcases h with h |h
   ·exact absurd h z
   ·exact h d' e
 ·rename_i hi
  rcases h with h |h
  ·subst h;exact λd e=>absurd e (hi d)
  ·exact h
theorem zgO_:∀(is:List Nat) {env:Env}{j:Nat},(j∈is\/Cold env j)->Cold (frzE env is) j
 |[],env,j,h=>by rcases h with h |h;exact absurd h (by simp);exact h
 |i::is,env,j,h=>zgO_ is (by
  rcases h with h |h
  ·rcases lC.mp h with h |h
   ·exact .inr (zfv_ (.inl h.symm))
   ·exact .inl h
  ·exact .inr (zfv_ (.inr h)))
theorem zgv_ {i:Nat}(h:Cold env i):getE (coldE env) i=getE env i:=by
 unfold getE coldE;rw[lB];cases z:env[i]? with
 |none=>rfl
 |some o=>
  cases o with
  |none=>rfl
  |some d=>
   have:=h d z;simp[this]
theorem zg3_ (hL:Hold (LofW K ws env) σ F h):HoldF (Lof K (coldE env)) σ F:=by
 intro i s e;unfold coldE at e;rw[lB,lB]at e;cases z:env[i]? with
 |none=>rw[z]at e;cases e
 |some o=>
  rw[z]at e;cases e;cases o with
  |none=>trivial
  |some d=>
   by_cases c:d.cold=uF
   ·simp only[Option.bind,c,if_true]
    obtain⟨o,k1,k2,e1,j,pp,f⟩:=Hold.atG hL (zaw_ z);obtain⟨v,rfl,hv,od⟩:=zcs_ pp;rw[e1];exact⟨v,rfl,(OD.cold c od).2⟩
   ·simp only[Option.bind,c]
    trivial
def FinE (K:l4)(r:Mr Env D)(E:XK)(ws:Ws)(σ:L2.St)(F0 H0:Hp)(Q:VK):Prop:=match r with
 |.ok d env=>∀v F hr h2 h H,Hold (LofW K ws env) σ F h2->OD K d v F hr->Jn hr h2 h->Okk F0 H0 F h H->Q v H
 |.ex c env=>∀F h H,Hold (LofW K ws env) σ F h->Okk F0 H0 F h H->Tell K E c H0 F H
 |.no=>False
def EvE (K:l4)(t:TE)(E:XK)(ws:Ws)(env:Env)(r:Mr Env D):Prop:=
 ∀F0 H0 σ F h H (Q:VK),Hold (LofW K ws env) σ F h->Okk F0 H0 F h H->FinE K r E ws σ F0 H0 Q->t σ H Q
def FinK (K:l4)(r:Mr Env D)(E:XK)(ws:Ws)(σ:L2.St)(F0 H0 Hs:Hp)(Q:VK):Prop:=match r with
 |.ok d env=>∀v F hr h2 h H,Hold (LofW K ws env) σ F h2->OD K d v F hr->Jn hr h2 h->Okk F0 H0 F h H->Same Hs H->Q v H
 |.ex c env=>∀F h H,Hold (LofW K ws env) σ F h->Okk F0 H0 F h H->Tell K E c H0 F H
 |.no=>False
def EvK (K:l4)(t:TE)(E:XK)(ws:Ws)(env:Env)(r:Mr Env D):Prop:=
 ∀F0 H0 σ F h H (Q:VK),Hold (LofW K ws env) σ F h->Okk F0 H0 F h H->FinK K r E ws σ F0 H0 H Q->t σ H Q
theorem EvK.e {r:Mr Env D}(h:EvK K t E ws env r):EvE K t E ws env r:=λF0 H0 σ F hh H Q hL ok fin=>h F0 H0 σ F hh H Q hL ok (by
 cases r with
 |no=>exact fin
 |ex c e=>exact fin
 |ok d e=>exact λv F hr h2 h H' a b c d _=>fin v F hr h2 h H' a b c d)
def stX (G:Gi)(env:Env)(x:X):Mr Env D:=match x.ev G env with
 |.ok d=>if d.new then .ok d env else .ok d (frzE env x.uses)
 |.ex c=>.ex c env
 |.no=>.no
theorem ek_x (g0:G.Ok K)(x:X):EvK K (x.den K G E) E ws env (stX G env x):=by
 intro F0 H0 σ F h H Q hL ok fin;unfold stX at fin;cases e:x.ev G env with
 |no=>rw[e]at fin;exact fin.elim
 |ex c=>
  rw[e]at fin;refine X.sound g0 x E env σ (un F h) H _ (zcf_ (hL.froz ok.2.1)) ok.thaw ?_;rw[e];exact λF' H' y=>(fin _ _ _ (hL.mono (ok.back y).2.1) (ok.back y).1).back ok y
 |ok d=>
  rw[e]at fin;have fin:FinK K (if d.new then .ok d env else .ok d (frzE env x.uses)) E ws σ F0 H0 H Q:=fin
  by_cases dn:d.new=uF
  ·rw[if_pos dn]at fin
   refine X.sound g0 x E env σ (un F h) H _ (zcf_ (hL.froz ok.2.1)) ok.thaw ?_;rw[e];intro F' H' y v hn fresh dj hs o;obtain⟨o1,hsF,ht⟩:=ok.back y;have ko:Dj (less F' h) hn:=λp=>by
    unfold less;cases z:h p with
    |none=>exact dj p
    |some w=>exact .inl rfl
   have dh:Dj hn h:=zk6_ ok.2.2.1 fresh;refine fin v (less F' h) hn h (un hn h) H' (hL.mono hsF) (OD.newImm ht dn o) (zaQ_ dh) ⟨o1.1,λp=>?_,λp o e=>?_,λp z=>?_,λp xs z=>?_⟩ y.2.2.1
   ·unfold un
    cases z:hn p with
    |some w=>
     rcases ko p with y |y
     ·exact .inl y
     ·rw[y]at z;cases z
    |none=>exact o1.2.1 p
   ·unfold un at e
    cases z:hn p with
    |some w=>rw[z]at e;cases e;exact hs _ _ z
    |none=>rw[z]at e;exact o1.2.2.1 _ _ e
   ·unfold un at z
    cases y:hn p with
    |some w=>exact ok.1.2.2.1.free (fresh p (by rw[y];exact sN _))
    |none=>rw[y]at z;exact ok.2.2.2.1 p z
   ·unfold un at z
    cases y:hn p with
    |some w=>rw[y]at z;cases z;exact OD.notup o p xs y
    |none=>rw[y]at z;exact ok.2.2.2.2 p xs z
  ·rw[if_neg dn]at fin
   obtain⟨F1,hh,ao,au⟩:=zhm_ x.uses hL ok;have al:Alike x.uses (coldE (frzE env x.uses)) env:=λi hi=>(zgv_ (zgO_ x.uses (.inl hi))).trans (zgT_ _ _ _)
   refine X.sound g0 x E (coldE (frzE env x.uses)) σ F1 H _ (zg3_ ao) au.1.2.1 ?_;rw[X.ev_uses x al,e];intro F' H' y v hn fresh dj hs o;have o1:=au.cold y;have dh:Dj hn hh:=zk6_ au.2.2.1 fresh;refine fin v F' hn hh (un hn hh) H' (ao.mono y.1) o (zaQ_ dh) ⟨o1.1,λp=>?_,λp o e=>?_,λp z=>?_,λp xs z=>?_⟩ y.2.2.1
   ·unfold un
    cases z:hn p with
    |some w=>
     rcases dj p with y |y
     ·exact .inl y
     ·rw[y]at z;cases z
    |none=>exact o1.2.1 p
   ·unfold un at e
    cases z:hn p with
    |some w=>rw[z]at e;cases e;exact hs _ _ z
    |none=>rw[z]at e;exact o1.2.2.1 _ _ e
   ·unfold un at z
    cases y:hn p with
    |some w=>exact au.1.2.2.1.free (fresh p (by rw[y];exact sN _))
    |none=>rw[y]at z;exact au.2.2.2.1 p z
   ·unfold un at z
    cases y:hn p with
    |some w=>rw[y]at z;cases z;exact OD.notup o p xs y
    |none=>rw[y]at z;exact au.2.2.2.2 p xs z
theorem ee_x (g0:G.Ok K)(x:X):EvE K (x.den K G E) E ws env (stX G env x):=(ek_x g0 x).e
end
noncomputable def apartL:List Nat->List Nat->Bool
 |j::js,i::is=>j != i ||apartL js is
 |_,_=>uG
theorem zG_ {k:Nd}{ds:List D}{j:Nat}{js:List Nat}{a c:D}(e:ds[j]?=uD c):(D.nd k ds).put (j::js) a=.nd k (ds.set j (c.put js a)):=by rw[D.put,e]
theorem zT_ {k:Nd}{ds:List D}{j:Nat}{js:List Nat}{a:D}(e:ds[j]?=uE):(D.nd k ds).put (j::js) a=.nd k ds:=by rw[D.put,e]
theorem zb4_ {d a:D}{js:List Nat}(h:∀k ds,d≠.nd k ds)(hj:js≠[]):d.put js a=d:=by
 cases js with
 |nil=>exact absurd rfl hj
 |cons j js=>cases d with |nd k ds=>exact absurd rfl (h k ds)|_=>simp[D.put]
theorem zjv_ {d:D}{js:List Nat}(h:∀k ds,d≠.nd k ds)(hj:js≠[]):d.at js=uE:=by
 cases js with
 |nil=>exact absurd rfl hj
 |cons j js=>cases d with |nd k ds=>exact absurd rfl (h k ds)|_=>simp[D.at]
theorem zob_ (d:D):(∃k ds,d=.nd k ds)\/∀k ds,d≠.nd k ds:=by
 cases d with
 |nd k ds=>exact .inl ⟨k,ds,rfl⟩
 |_=>exact .inr λk ds z=>by cases z
theorem zbm_ {α:Type}{l:List α}{j:Nat}{c x:α}(e:l[j]?=uD c):(l.set j x)[j]?=uD x:=nj (lD.mp e).1
theorem zjV_:∀(js:List Nat) (d a b:D),(d.put js a).put js b=d.put js b
 |[],d,a,b=>by rw[D.put,D.put]
 |j::js,d,a,b=>by
  rcases zob_ d with⟨k,ds,rfl⟩|h
  ·cases e:ds[j]? with
   |none=>rw[zT_ e,zT_ e]
   |some c=>rw[zG_ e,zG_ e,zG_ (zbm_ e),pP,zjV_ js c a b]
  ·rw[zb4_ h (by simp),zb4_ h (by simp)]
theorem zhS_:∀(js is:List Nat) (d a b:D),apartL js is=uF->(d.put js a).put is b=(d.put is b).put js a
 |[],_,_,_,_,h=>by cases h
 |_::_,[],_,_,_,h=>by cases h
 |j::js,i::is,d,a,b,h=>by
  rcases zob_ d with⟨k,ds,rfl⟩|hd
  ·by_cases ij:j=i
   ·subst ij
    cases e:ds[j]? with
    |none=>rw[zT_ e,zT_ e,zT_ e]
    |some c=>rw[zG_ e,zG_ e,zG_ (zbm_ e),zG_ (zbm_ e),pP,pP,zhS_ js is c a b (by simpa [apartL]using h)]
   ·cases e:ds[j]? with
    |none=>
     cases e2:ds[i]? with
     |none=>rw[zT_ e,zT_ e2,zT_ e]
     |some c2=>rw[zT_ e,zG_ e2,zT_ (by rw[lW (λz=>ij z.symm)];exact e)]
    |some c=>
     cases e2:ds[i]? with
     |none=>rw[zG_ e,zT_ e2,zG_ e,zT_ (by rw[lW ij];exact e2)]
     |some c2=>rw[zG_ e,zG_ e2,zG_ (by rw[lW ij];exact e2),zG_ (by rw[lW (λz=>ij z.symm)];exact e),sJ _ _ ij]
  ·rw[zb4_ hd (by simp),zb4_ hd (by simp),zb4_ hd (by simp)]
theorem zmb_:∀(js:List Nat) (d a x:D),d.at js=uD x->(d.put js a).at js=uD a
 |[],d,a,x,h=>by rw[D.put,D.at]
 |j::js,d,a,x,h=>by
  rcases zob_ d with⟨k,ds,rfl⟩|hd
  ·cases hk:k.own with
   |false=>rw[zbJ_,hk]at h;cases h
   |true=>
    rw[zbJ_,hk,cond_true]at h;obtain⟨c,e,h⟩:=lM.mp h;rw[zG_ e,zbJ_,hk,cond_true,zbm_ e];exact zmb_ js c a x h
  ·rw[zjv_ hd (by simp)]at h;cases h
theorem zgI_:∀(js is:List Nat) (d a:D),apartL js is=uF->(d.put js a).at is=d.at is
 |[],_,_,_,h=>by cases h
 |_::_,[],_,_,h=>by cases h
 |j::js,i::is,d,a,h=>by
  rcases zob_ d with⟨k,ds,rfl⟩|hd
  ·cases e:ds[j]? with
   |none=>rw[zT_ e]
   |some c=>
    rw[zG_ e,zbJ_,zbJ_];congr 1;by_cases ij:j=i
    ·subst ij
     rw[zbm_ e,e];exact zgI_ js is c a (by simpa [apartL]using h)
    ·rw[lW ij]
  ·rw[zb4_ hd (by simp)]
theorem zdf_:∀{js is:List Nat},apartL js is=uF->apartL is js=uF
 |[],_,h=>by cases h
 |_::_,[],h=>by cases h
 |j::js,i::is,h=>by
  unfold apartL at h ⊢;rw[mK]at h ⊢;rcases h with h |h
  ·left;simpa [bne_iff_ne,ne_comm]using h
  ·right;exact zdf_ h
noncomputable abbrev Pl:=Nat×List Nat
def apart (q q':Pl):Bool:=q.1 != q'.1 ||apartL q.2 q'.2
def atE (env:Env)(q:Pl):Option D:=match env[q.1]? with |some (uD d)=>d.at q.2 |_=>uE
def putE (env:Env)(q:Pl)(c:D):Env:=match env[q.1]? with |some (uD d)=>env.set q.1 (uD (d.put q.2 c))|_=>env
theorem zj_ {env:Env}{q:Pl}{c d:D}(e:env[q.1]?=uD (uD d)):putE env q c=env.set q.1 (uD (d.put q.2 c)):=by unfold putE;rw[e]
theorem zav_ {env:Env}{q:Pl}{c:D}(e:∀d,env[q.1]?≠uD (uD d)):putE env q c=env:=by
 unfold putE;split
 ·rename_i d z;exact absurd z (e d)
 ·rfl
theorem zfW_ (env:Env)(i:Nat):(∃d,env[i]?=uD (uD d))\/∀d,env[i]?≠uD (uD d):=by
 cases env[i]? with
 |none=>exact .inr λd z=>by cases z
 |some o=>cases o with |none=>exact .inr λd z=>by cases z |some d=>exact .inl ⟨d,rfl⟩
theorem zib_ (env:Env)(q:Pl)(a b:D):putE (putE env q a) q b=putE env q b:=by
 rcases zfW_ env q.1 with⟨d,e⟩|e
 ·rw[zj_ e,zj_ e,zj_ (zbm_ e),pP,zjV_]
 ·rw[zav_ e]
theorem zfI_ {env:Env}{q:Pl}{c:D}{i:Nat}(h:q.1≠i):(putE env q c)[i]?=env[i]?:=by
 rcases zfW_ env q.1 with⟨d,e⟩|e
 ·rw[zj_ e,lW h]
 ·rw[zav_ e]
theorem zal_ {env:Env}{q:Pl}{d:D}(e:env[q.1]?=uD (uD d)):atE env q=d.at q.2:=by unfold atE;rw[e]
theorem zfu_ {env:Env}{q q':Pl}{c:D}(h:apart q q'=uF):atE (putE env q c) q'=atE env q':=by
 unfold apart at h;by_cases e:q.1=q'.1
 ·have h:apartL q.2 q'.2=uF:=by simpa [e]using h
  rcases zfW_ env q.1 with⟨d,z⟩|z
  ·rw[zj_ z,zal_ (d:=d.put q.2 c) (by rw[<- e];exact zbm_ z),zal_ (d:=d) (by rw[<- e];exact z)]
   exact zgI_ _ _ d c h
  ·rw[zav_ z]
 ·unfold atE;rw[zfI_ e]
theorem zml_ {env:Env}{q:Pl}{a x:D}(h:atE env q=uD x):atE (putE env q a) q=uD a:=by
 rcases zfW_ env q.1 with⟨d,z⟩|z
 ·rw[zal_ z]at h
  rw[zj_ z,zal_ (d:=d.put q.2 a) (zbm_ z)];exact zmb_ _ d a x h
 ·unfold atE at h
  split at h
  ·rename_i d e;exact absurd e (z d)
  ·cases h
theorem zi9_ {env:Env}{q q':Pl}{a b:D}(h:apart q q'=uF):putE (putE env q a) q' b=putE (putE env q' b) q a:=by
 unfold apart at h;by_cases e:q.1=q'.1
 ·have h:apartL q.2 q'.2=uF:=by simpa [e]using h
  rcases zfW_ env q.1 with⟨d,z⟩|z
  ·have z':env[q'.1]?=uD (uD d):=by rw[<- e];exact z
   rw[zj_ z,zj_ z',zj_ (d:=d.put q.2 a) (by rw[<- e];exact zbm_ z),zj_ (d:=d.put q'.2 b) (by rw[e];exact zbm_ z'),<- e,pP,pP,zhS_ _ _ d a b h]
  ·have z':∀d,env[q'.1]?≠uD (uD d):=by rw[<- e];exact z
   rw[zav_ z,zav_ z',zav_ z]
 ·rcases zfW_ env q.1 with⟨d,z⟩|z
  ·rcases zfW_ env q'.1 with⟨d2,z2⟩|z2
   ·rw[zj_ z,zj_ z2,zj_ (d:=d2) (by rw[lW e];exact z2),zj_ (d:=d) (by rw[lW (λy=>e y.symm)];exact z),sJ _ _ e]
   ·rw[zav_ z2,zj_ z,zav_ (by rw[lW e];exact z2)]
  ·rcases zfW_ env q'.1 with⟨d2,z2⟩|z2
   ·rw[zav_ z,zj_ z2,zav_ (by rw[lW (λy=>e y.symm)];exact z)]
   ·rw[zav_ z,zav_ z2,zav_ z]
section
variable {K:mT}{E:XK}{F F' F1 F2 h k H H' H1 H2:Hp}{d c:D}{ds:List D}{v u:V}{us:List V}{p:lu}{Q:VK}{env:Env}{t:TE}{σ:L2.St}{G:Gi}{q:Pl}
inductive Pt where
 |v (i:Nat)|f (p:Pt) (n:Str)|s (p:Pt) (x:X)
def Pt.x:Pt->X
 |.v i=>.v i
 |.f p n=>.fld p.x n
 |.s p y=>.bin .ix p.x y
def kIx:List Key->Key->Nat
 |[],_=>0
 |k0::ks,k=>if k0=k then 0 else kIx ks k+1
def stepF (cs:List Str)(n:Str)(c:D):Option Nat:=match c with
 |.nd (.obj c ns) ds=>if c∈cs/\ns.idxOf n<ds.length then uD (ns.idxOf n)else uE
 |_=>uE
def stepS (c d:D):Option Nat:=match c with
 |.nd .lst ds=>(match d.un with |.int i=>(ixN ds.length i).bind λj=>if j<ds.length then uD j else uE |_=>uE)
 |.nd .tup ds=>(match d.un with |.int i=>(ixN ds.length i).bind λj=>if j<ds.length then uD j else uE |_=>uE)
 |.nd (.dct ks) ds=>(keyD d).bind λk=>if kIx ks k<ks.length/\ks.length=ds.length then uD (kIx ks k)else uE
 |_=>uE
def Pt.ev (G:Gi)(env:Env):Pt->Mo Pl
 |.v i=>if(atE env (i,[])).isSome then .ok (i,[])else .no
 |.f p n=>(p.ev G env).bind λq=>.opt ((atE env q).bind λc=>(stepF G.cs n c).map λj=>(q.1,q.2++[j]))
 |.s p x=>(p.ev G env).bind λq=>(x.ev G env).bind λd=>.opt ((atE env q).bind λc=>(stepS c d).map λj=>(q.1,q.2++[j]))
def EvPa (K:l4)(t:TE)(E:XK)(env:Env)(r:Mo Pl):Prop:=∀σ F H (Q:VK),HoldF (Lof K env) σ F->Same F H ->
 (match r with
  |.ok q=>∀F' H' v u c,Ext F H F' H'->σ[q.1]?=uD (uD v)->vAt H' v q.2=uD u->atE env q=uD c->DR K c u H'->Q u H'
  |.ex c=>∀F' H',Ext F H F' H'->Tell K E c H F' H'
  |.no=>False)->t σ H Q
theorem zhR_:∀{ks:List Key}{us:List V}{k:Key}{w:V},us[kIx ks k]?=uD w->kIx ks k<ks.length->valV (ks.zip us) k=uD w
 |[],_,_,_,_,h=>by simp at h
 |k0::ks,[],k,w,h,_=>by simp at h
 |k0::ks,u::us,k,w,h,hl=>by
  unfold valV;rw[mh,nQ];unfold kIx at h hl;by_cases e:k0=k
  ·rw[if_pos e]at h;simp at h;subst h
   rw[show decide ((k0,u).1=k)=uF from decide_eq_true e];rfl
  ·rw[if_neg e,m9]at h
   rw[if_neg e]at hl;rw[show decide ((k0,u).1=k)=uG from decide_eq_false e]
   exact zhR_ h (by simpa using hl)
theorem zjR_ {k:Nd}{ds:List D}{j:Nat}{c:D}(hk:k.own=uF)(hc:ds[j]?=uD c):∀{js:List Nat}{d:D},d.at js=uD (.nd k ds)->d.at (js++[j])=uD c
 |[],d,h=>by rw[D.at]at h;cases h;rw[nO,zbJ_,hk,cond_true,hc];show D.at _ []=_;rw[D.at]
 |i::js,d,h=>by
  rcases zob_ d with⟨k',ds',rfl⟩|hd
  ·rw[zbJ_]at h
   cases bo:k'.own with
   |false=>rw[bo]at h;cases h
   |true=>
    rw[bo,cond_true]at h;obtain⟨c',e,h⟩:=lM.mp h;rw[l6,zbJ_,bo,cond_true,e];exact zjR_ hk hc h
  ·rw[zjv_ hd (by simp)]at h;cases h
theorem zhr_ {env:Env}{q0:Pl}{k:Nd}{ds:List D}{j:Nat}{c:D}(hk:k.own=uF)(hc:ds[j]?=uD c)(h:atE env q0=uD (.nd k ds)):atE env (q0.1,q0.2++[j])=uD c:=by
 rcases zfW_ env q0.1 with⟨d,hd⟩|hd
 ·rw[zal_ hd]at h
  rw[zal_ (q:=(q0.1,q0.2++[j])) hd];exact zjR_ hk hc h
 ·unfold atE at h;split at h
  ·rename_i d z;exact absurd z (hd d)
  ·cases h
theorem hL_at {i:Nat}{d:D}(hL:HoldF (Lof K env) σ F)(hd:env[i]?=uD (uD d)):∃v,σ[i]?=uD (uD v)/\DR K d v F:=by
 obtain⟨v,ev,rv⟩:=hL i (slot K (uD d)) (by rw[lB,hd];rfl)
 refine⟨v,?_,rv⟩;cases z:σ[i]? with
 |none=>rw[z]at ev;cases ev
 |some o=>rw[z]at ev;cases(show o=uD v from ev);rfl
theorem Pt.sound (g0:G.Ok K):∀(p:Pt) (E:XK) (env:Env),EvPa K (p.x.den K G E) E env (p.ev G env)
 |.v i,E,env=>by
  intro σ F H Q hL hs q;unfold Pt.ev at q;rcases zfW_ env i with⟨d,hd⟩|hd
  ·have ha:atE env (i,[])=uD d:=by rw[zal_ (q:=(i,[])) hd];show d.at []=_;rw[D.at]
   rw[ha]at q;obtain⟨v,hv,rv⟩:=hL_at hL hd;show mVar i σ H Q
   unfold mVar;rw[hv];exact q F H v v d (.refl hs) hv rfl ha (rv.mono hs)
  ·rw[show atE env (i,[])=uE from by
    unfold atE;split
    ·rename_i d z;exact absurd z (hd d)
    ·rfl]at q
   exact q.elim
 |.f p n,E,env=>by
  intro σ F H Q hL hs q;unfold Pt.ev at q;cases e:p.ev G env with
  |no=>rw[e]at q;exact q.elim
  |ex c=>
   rw[e]at q;cases hcs:G.cs with
   |nil=>exact absurd hcs g0.cs
   |cons c0 cs=>exact⟨c0,by rw[hcs];exact lR ..,Pt.sound g0 p E env σ F H _ hL hs (by rw[e];exact q)⟩
  |ok q0=>
   rw[e]at q;dsimp only[Mo.bind]at q;cases e1:atE env q0 with
   |none=>rw[e1]at q;exact q.elim
   |some c=>
    rw[e1]at q;cases e2:stepF G.cs n c with
    |none=>rw[show(Option.bind (uD c) λc=>(stepF G.cs n c).map λj=>(q0.1,q0.2++[j]))=uE from by simp[e2]]at q;exact q.elim
    |some j=>
     rw[show(Option.bind (uD c) λc=>(stepF G.cs n c).map λj=>(q0.1,q0.2++[j]))=uD (q0.1,q0.2++[j])from by simp[e2]]at q
     unfold stepF at e2;split at e2
     ·rename_i cn ns ds
      split at e2
      ·rename_i hz
       cases e2;refine⟨cn,hz.1,Pt.sound g0 p E env σ F H _ hL hs ?_⟩;rw[e];intro F1 H1 v u c' x1 hv hu hc hr;rw[e1]at hc;cases hc;obtain⟨p',us,rfl,nd,r⟩:=hr.nd;rcases r.get (ns.idxOf n)with⟨z,_⟩|⟨d',w,g4,g5,g6⟩
       ·rw[lj hz.2]at z;cases z
       have i6:=nd;obtain⟨dx,g3,gl⟩:=nd;exact⟨dx,_,w,g3,zdj_ g5 gl,q F1 H1 v w d' x1 hv (zez_ rfl i6 g5 hu) (zhr_ rfl g4 e1) g6⟩
      ·cases e2
     ·cases e2
 |.s p x,E,env=>by
  intro σ F H Q hL hs q;unfold Pt.ev at q;cases e:p.ev G env with
  |no=>rw[e]at q;exact q.elim
  |ex c=>rw[e]at q;exact Pt.sound g0 p E env σ F H _ hL hs (by rw[e];exact q)
  |ok q0=>
   rw[e]at q;refine Pt.sound g0 p E env σ F H _ hL hs ?_;rw[e];intro F1 H1 v u c x1 hv hu hc hr;dsimp only[Mo.bind]at q;cases ex:x.ev G env with
   |no=>rw[ex]at q;exact q.elim
   |ex c=>
    rw[ex]at q;refine X.sound g0 x E env σ F1 H1 _ (hL.mono x1.1) x1.2.1 ?_;rw[ex];exact λF2 H2 x2=>(q F2 H2 (x1.trans x2)).up x1.2.2.1
   |ok d0=>
    rw[ex]at q;dsimp only at q;rw[hc]at q;cases e2:stepS c d0 with
    |none=>rw[show(Option.bind (uD c) λc=>(stepS c d0).map λj=>(q0.1,q0.2++[j]))=uE from by simp[e2]]at q;exact q.elim
    |some j=>
     rw[show(Option.bind (uD c) λc=>(stepS c d0).map λj=>(q0.1,q0.2++[j]))=uD (q0.1,q0.2++[j])from by simp[e2]]at q
     refine ex_v (X.sound g0 x E env) σ F1 H1 _ (hL.mono x1.1) x1.2.1 ?_;rw[ex];intro F2 H2 x2 y hy;have dv:=DR.un hy;have dC:=hr.mono x2.2.2.1;have fin:∀{k:Nd}{ds:List D}{p':lu}{us:List V},k.own=uF->c=.nd k ds->u=.ref p'->NdR K k p' us H2->DRs K ds us H2->j<ds.length->∃w,us[j]?=uD w/\Q w H2:=λ{k ds p' us} hk ec eu nd r hj=>by
      subst ec;subst eu;rcases r.get j with⟨z,_⟩|⟨d',w,g4,g5,g6⟩
      ·rw[lj hj]at z;cases z
      exact⟨w,g5,q F2 H2 v w d' (x1.trans x2) hv (zez_ hk nd g5 (zcS_ x2.2.2.1 hu)) (zhr_ hk g4 hc) g6⟩
     unfold stepS at e2;split at e2
     ·split at e2
      ·rename_i i ei
       rw[ei]at dv;cases dv.int;obtain⟨j',ej,e2⟩:=lM.mp e2;split at e2
       ·rename_i hj
        cases e2;obtain⟨p',us,rfl,nd,r⟩:=dC.nd;obtain⟨w,g5,fin⟩:=fin rfl rfl rfl nd r hj;refine .inl ⟨us,.inl (.of nd),?_⟩;rw[show atI us i=uD w from by unfold atI;rw[<- r.len,ej];exact g5];exact fin
       ·cases e2
      ·cases e2
     ·split at e2
      ·rename_i i ei
       rw[ei]at dv;cases dv.int;obtain⟨j',ej,e2⟩:=lM.mp e2;split at e2
       ·rename_i hj
        cases e2;obtain⟨p',us,rfl,nd,r⟩:=dC.nd;obtain⟨w,g5,fin⟩:=fin rfl rfl rfl nd r hj;refine .inl ⟨us,.inr (.of nd),?_⟩;rw[show atI us i=uD w from by unfold atI;rw[<- r.len,ej];exact g5];exact fin
       ·cases e2
      ·cases e2
     ·rename_i ks ds
      obtain⟨k,ek,e2⟩:=lM.mp e2;split at e2
      ·rename_i hz
       cases e2;obtain⟨p',us,rfl,nd,r⟩:=dC.nd;obtain⟨w,g5,fin⟩:=fin rfl rfl rfl nd r (by rw[<- hz.2];exact hz.1)
       exact .inr (zeu_ rfl (zng_ ek hy).1 nd.1 ⟨w,zhR_ g5 hz.1,fin⟩)
      ·cases e2
     ·cases e2
end
def Mr.bind {s α β:Type}(m:Mr s α)(k:α->s->Mr s β):Mr s β:=match m with |.ok a t=>k a t |.ex c t=>.ex c t |.no=>.no
inductive A where
 |x (x:X)|l (p:Pt)
def A.t:A->X
 |.x y=>y
 |.l p=>p.x
inductive Ag where
 |d (d:D)|l (q:Pl)
def evG (G:Gi):Env->List A->Mr Env (List Ag)
 |env,[]=>.ok [] env
 |env,.x x::as=>(stX G env x).bind λd e=>(evG G e as).bind λgs e'=>.ok (.d d::gs) e'
 |env,.l p::as=>match p.ev G env with
  |.ok q=>(evG G env as).bind λgs e'=>.ok (.l q::gs) e'
  |.ex c=>.ex c env
  |.no=>.no
section
variable {K:mT}{E:XK}{F F' F0 F1 F2 H0 h h1 h2 H H' H1 H2:Hp}{d c:D}{ds:List D}{v u:V}{vs:List V}{p:lu}{Q:VK}{env:Env}{t:TE}{ws:Ws}{σ:L2.St}{G:Gi}{q:Pl}{ta:TA}{f:Fn}
def AgR (K:l4)(σ:L2.St)(F H:Hp):List Ag->List V->Hp->Prop
 |[],vs,h=>vs=[]/\∀p,h p=uE
 |.d d::gs,vs,h=>∃v bw h1 h2,vs=v::bw/\Jn h1 h2 h/\OD K d v F h1/\AgR K σ F H gs bw h2
 |.l q::gs,vs,h=>∃u v bw,vs=u::bw/\σ[q.1]?=uD (uD v)/\vAt H v q.2=uD u/\AgR K σ F H gs bw h
def FinG (K:l4)(r:Mr Env (List Ag))(E:XK)(ws:Ws)(σ:L2.St)(F0 H0 Hs:Hp)(Q:List V->Hp->Prop):Prop:=match r with
 |.ok gs env=>∀vs F hA hE h H,Hold (LofW K ws env) σ F hE->AgR K σ F H gs vs hA->Jn hA hE h->Okk F0 H0 F h H->Same Hs H->Q vs H
 |.ex c env=>∀F h H,Hold (LofW K ws env) σ F h->Okk F0 H0 F h H->Tell K E c H0 F H
 |.no=>False
def EvG (K:l4)(t:TA)(E:XK)(ws:Ws)(env:Env)(r:Mr Env (List Ag)):Prop:=
 ∀F0 H0 σ F h H (Q:List V->Hp->Prop),Hold (LofW K ws env) σ F h->Okk F0 H0 F h H->FinG K r E ws σ F0 H0 H Q->t σ H Q
theorem no_l (z:Hp)(hz:∀p,z p=uE):Jn z h h:=λp=>.inl ⟨hz p,rfl⟩
theorem zo7_ {a b c:Hp}(d1:Dj a b)(d2:Dj a c)(d3:Dj b c):Jn (un a b) c (un a (un b c)):=λp=>by
 unfold un;cases x:a p with
 |some o=>
  right;rcases d2 p with y |y
  ·rw[y]at x;cases x
  ·exact⟨y,rfl⟩
 |none=>
  cases y:b p with
  |some o=>
   right;rcases d3 p with z |z
   ·rw[z]at y;cases y
   ·exact⟨z,rfl⟩
  |none=>left;exact⟨rfl,rfl⟩
theorem zc5_ (j:Jn h1 h2 h):h=un h1 h2:=funext λp=>by
 unfold un;rcases j p with⟨a,b⟩|⟨a,b⟩
 ·rw[a,b]
 ·rw[b]
  cases h1 p with
  |none=>exact a.symm
  |some o=>rfl
theorem zpm_:EvG K tNil E ws env (.ok [] env):=λF0 H0 σ F h H Q hL ok fin=>fin [] F (λ_=>uE) h h H hL ⟨rfl,λ_=>rfl⟩ (no_l _ λ_=>rfl) ok (Same.refl _)
theorem eg_x {r:Mr Env D}{g:Env->Mr Env (List Ag)}(he:EvK K t E ws env r)(hg:∀e,EvG K ta E ws e (g e)):EvG K (tCons t ta) E ws env (r.bind λd e=>(g e).bind λgs e'=>.ok (.d d::gs) e'):=by
 intro F0 H0 σ F h H Q hL ok fin;refine he F0 H0 σ F h H _ hL ok ?_;cases r with
 |no=>exact fin
 |ex c e=>exact fin
 |ok d e=>
  intro v F1 hr hE h' H1 ao od j au iX;have o2:=zha_ au j;refine hg e F1 (less H1 hE) σ F1 hE H1 _ ao o2 ?_;dsimp only[Mr.bind]at fin;cases e2:g e with
  |no=>rw[e2]at fin;exact fin
  |ex c e'=>
   rw[e2]at fin;intro F2 h2 H2 bA ay;obtain⟨s,dk,bc⟩:=zbc_ au j ay;refine zcE_ au j (fin F2 (un hr h2) H2 (Hold.more bA (zaQ_ dk)) bc)
  |ok gs e'=>
   rw[e2]at fin;intro vs F2 hA eW h2 H2 bA ag j2 ay fu;obtain⟨s,dk,bc⟩:=zbc_ au j ay;have eh:=zc5_ j2;subst eh;have d1:Dj hr hA:=λp=>by rcases dk p with z |z;exact .inl z;exact .inr ((zaQ_ j2.dj).l.free z)
   have d2:Dj hr eW:=λp=>by rcases dk p with z |z;exact .inl z;exact .inr ((zaQ_ j2.dj).r.free z)
   exact fin (v::vs) F2 (un hr hA) eW _ H2 bA ⟨v,vs,hr,hA,rfl,zaQ_ d1,od.mono s,ag⟩ (zo7_ d1 d2 j2.dj) bc (iX.trans fu)
theorem eg_l (g0:G.Ok K){pt:Pt}{r:Mr Env (List Ag)}(hg:EvG K ta E ws env r):EvG K (tCons (pt.x.den K G E) ta) E ws env (match pt.ev G env with |.ok q=>r.bind λgs e'=>.ok (.l q::gs) e' |.ex c=>.ex c env |.no=>.no):=by
 intro F0 H0 σ F h H Q hL ok fin;refine Pt.sound g0 pt E env σ (un F h) H _ (zcf_ (hL.froz ok.2.1)) ok.thaw ?_;cases e:pt.ev G env with
 |no=>rw[e]at fin;exact fin
 |ex c=>
  rw[e]at fin;exact λF' H' y=>(fin _ _ _ (hL.mono (ok.back y).2.1) (ok.back y).1).back ok y
 |ok q=>
  rw[e]at fin;intro F1 H1 v u c x1 hv hu _ _;obtain⟨o1,hsF,ht⟩:=ok.back x1;refine hg F0 H0 σ _ h H1 _ (hL.mono hsF) o1 ?_;cases r with
  |no=>exact fin
  |ex c e'=>exact fin
  |ok gs e'=>exact λvs F2 hA eW h2 H2 bA ag j2 ay fu=>fin (u::vs) F2 hA eW h2 H2 bA ⟨u,v,vs,rfl,hv,zcS_ fu hu,ag⟩ j2 ay (x1.2.2.1.trans fu)
theorem zea_ (g0:G.Ok K):∀(as:List A) (env:Env),EvG K (X.dens K G E (as.map A.t)) E ws env (evG G env as)
 |[],env=>zpm_
 |.x x::as,env=>eg_x (ek_x g0 x) λe=>zea_ g0 as e
 |.l p::as,env=>eg_l g0 (zea_ g0 as env)
def resolve (env:Env):List Ag->Option (List D)
 |[]=>uD []
 |.d d::gs=>(resolve env gs).map λds=>d::ds
 |.l q::gs=>(atE env q).bind λc=>(resolve env gs).map λds=>c::ds
def apartOf (q:Pl):List Ag->Bool
 |[]=>uF
 |.d _::gs=>apartOf q gs
 |.l q'::gs=>apart q q' && apartOf q gs
def apartAll:List Ag->Bool
 |[]=>uF
 |.d _::gs=>apartAll gs
 |.l q::gs=>apartOf q gs && apartAll gs
def restE (env:Env):List Ag->List D->Env
 |.d _::gs,_::ds=>restE env gs ds
 |.l q::gs,d::ds=>putE (restE env gs ds) q d
 |_,_=>env
theorem zb6_ {c:D}:∀{gs:List Ag},apartOf q gs=uF->resolve (putE env q c) gs=resolve env gs
 |[],_=>rfl
 |.d d::gs,h=>by unfold apartOf at h;unfold resolve;rw[zb6_ h]
 |.l q'::gs,h=>by
  unfold apartOf at h;obtain⟨h1,h2⟩:=mj.mp h;unfold resolve;rw[zb6_ h2,zfu_ h1]
theorem zeR_ {c:D}:∀{gs:List Ag}{ds:List D},apartOf q gs=uF->restE (putE env q c) gs ds=putE (restE env gs ds) q c
 |[],_,_=>by unfold restE;rfl
 |.d d::gs,[],_=>by unfold restE;rfl
 |.l q'::gs,[],_=>by unfold restE;rfl
 |.d d::gs,_::ds,h=>by unfold apartOf at h;unfold restE;exact zeR_ h
 |.l q'::gs,d::ds,h=>by
  unfold apartOf at h;obtain⟨h1,h2⟩:=mj.mp h;unfold restE;rw[zeR_ h2,zi9_ h1]
theorem zhP_:∀{gs:List Ag}{ds:List D},apartOf q gs=uF->atE (restE env gs ds) q=atE env q
 |[],_,_=>by unfold restE;rfl
 |.d d::gs,[],_=>by unfold restE;rfl
 |.l q'::gs,[],_=>by unfold restE;rfl
 |.d d::gs,_::ds,h=>by unfold apartOf at h;unfold restE;exact zhP_ h
 |.l q'::gs,d::ds,h=>by
  unfold apartOf at h;obtain⟨h1,h2⟩:=mj.mp h;unfold restE;have h1':apart q' q=uF:=by
   unfold apart at h1 ⊢;rw[mK]at h1 ⊢;rcases h1 with h1 |h1
   ·left;simpa [bne_iff_ne,ne_comm]using h1
   ·right;exact zdf_ h1
  rw[zfu_ h1',zhP_ h2]
theorem lend:∀{gs:List Ag}{env:Env}{ds:List D}{vs:List V}{hA hE h:Hp},resolve env gs=uD ds->apartAll gs=uF->AgR K σ F H gs vs hA->Hold (LofW K ws env) σ F hE->Jn hA hE h->Same F H->Same h H ->
  ∃hD hR,Jn hD hR h/\ODs K ds vs F hD/\ds.length=gs.length/\∀ds' F' eX h',Same F F'->ODs K ds' vs F' eX->Jn eX hR h'->Hold (LofW K ws (restE env gs ds')) σ F' h'
 |[],env,ds,vs,hA,hE,h,e,_,ag,hL,j,sF,sH=>by
  unfold resolve at e;cases e;obtain⟨rfl,n⟩:=ag;refine⟨hA,hE,j,by unfold ODs;exact⟨rfl,n⟩,rfl,λds' F' eX h' s os j'=>?_⟩
  unfold restE;exact Hold.more (hL.mono s) j'
 |.d d::gs,env,ds,vs,hA,hE,h,e,ap,ag,hL,j,sF,sH=>by
  unfold resolve at e;obtain⟨kl,e1,rfl⟩:=lP.mp e;obtain⟨v,bw,h1,h2,rfl,j1,od,ag⟩:=ag;obtain⟨m,jm,jh⟩:=zn_ j1 j;obtain⟨hD,hR,jd,os,ln,f⟩:=lend e1 (by unfold apartAll at ap;exact ap) ag hL jm sF (jh.r.trans sH)
  obtain⟨a,ja,jb⟩:=zn_ (zaL_ jh |> λz=>z |> zaL_) (show Jn h (λ_=>uE) h from λp=>.inr ⟨rfl,rfl⟩)
  have dd:Dj h1 hD:=λp=>by rcases jh.dj p with z |z;exact .inl z;exact .inr (jd.l.free z)
  have dr:Dj h1 hR:=λp=>by rcases jh.dj p with z |z;exact .inl z;exact .inr (jd.r.free z)
  refine⟨un h1 hD,hR,?_,by unfold ODs;exact⟨v,bw,h1,hD,rfl,zaQ_ dd,od,os⟩,by rw[ly,ly,ln],λds' F' eX h' s aF j'=>?_⟩
  ·have:=zo7_ dd dr jd.dj
   rw[<- zc5_ jd,<- zc5_ jh]at this;exact this
  ·cases ds' with
   |nil=>unfold ODs at aF;cases aF.1
   |cons d' ds'=>
    unfold ODs at aF;obtain⟨v',vs2,m1,m2,ee,jm2,_,aF⟩:=aF;cases ee;obtain⟨b,jb1,jb2⟩:=zn_ jm2 j';unfold restE;exact Hold.more (f ds' F' m2 b s aF jb1) jb2
 |.l q::gs,env,ds,vs,hA,hE,h,e,ap,ag,hL,j,sF,sH=>by
  unfold resolve at e;obtain⟨c,ec,e⟩:=lM.mp e;obtain⟨kl,e1,rfl⟩:=lP.mp e;obtain⟨u,v,bw,rfl,ev,vp,ag⟩:=ag;unfold apartAll at ap;obtain⟨gZ,ap2⟩:=mj.mp ap;rcases zfW_ env q.1 with⟨d0,hd⟩|hd
  rotate_left
  ·unfold atE at ec;split at ec
   ·rename_i d z;exact absurd z (hd d)
   ·cases ec
  have hc:d0.at q.2=uD c:=by rw[<- zal_ hd];exact ec
  obtain⟨v',u',k1,k2,ev',vp',jk,oc,g⟩:=zcA_ hL hd hc;rw[ev]at ev';cases ev';have jX:Same hE H:=j.r.trans sH;have eu:u'=u:=mD ((vp' H sF jX).symm.trans vp);subst eu;have hp:putE env q (.pin u')=env.set q.1 (uD (d0.put q.2 (.pin u'))):=zj_ hd;have ao:Hold (LofW K ws (putE env q (.pin u'))) σ F k2:=by
   rw[hp];exact g (.pin u') F (λ_=>uE) k2 (Same.refl _) (by unfold OD;exact⟨λ_=>rfl,by unfold DR;rfl⟩) (no_l _ λ_=>rfl)
  obtain⟨m,jm,jh⟩:=zn_ jk (zaL_ j);have jA:Jn hA k2 m:=zaL_ jm;obtain⟨hD,hR,jd,os,ln,f⟩:=lend (gs:=gs) (env:=putE env q (.pin u')) (by rw[zb6_ gZ];exact e1) ap2 ag ao jA sF (jh.r.trans sH)
  have dd:Dj k1 hD:=λp=>by rcases jh.dj p with z |z;exact .inl z;exact .inr (jd.l.free z)
  have dr:Dj k1 hR:=λp=>by rcases jh.dj p with z |z;exact .inl z;exact .inr (jd.r.free z)
  refine⟨un k1 hD,hR,?_,by unfold ODs;exact⟨u',bw,k1,hD,rfl,zaQ_ dd,oc,os⟩,by rw[ly,ly,ln],λds' F' eX h' s aF j'=>?_⟩
  ·have:=zo7_ dd dr jd.dj
   rw[<- zc5_ jd,<- zc5_ jh]at this;exact this
  ·cases ds' with
   |nil=>unfold ODs at aF;cases aF.1
   |cons d' ds'=>
    unfold ODs at aF;obtain⟨w,vs2,m1,m2,ee,jm2,fS,aF⟩:=aF;cases ee;obtain⟨b,jb1,jb2⟩:=zn_ jm2 j';have h2:=f ds' F' m2 b s aF jb1;have ea:atE (restE (putE env q (.pin u')) gs ds') q=uD (.pin u'):=by rw[zhP_ gZ];exact zml_ ec
    rcases zfW_ (restE (putE env q (.pin u')) gs ds') q.1 with⟨d2,hd2⟩|hd2
    rotate_left
    ·unfold atE at ea;split at ea
     ·rename_i d z;exact absurd z (hd2 d)
     ·cases ea
    have cY:d2.at q.2=uD (.pin u'):=by rw[<- zal_ hd2];exact ea
    obtain⟨v3,u3,n1,n2,_,_,jn,on,g2⟩:=zcA_ h2 hd2 cY;unfold OD at on;obtain⟨nn,on⟩:=on;unfold DR at on;subst on;have en:b=n2:=by rw[zc5_ jn];funext p;unfold un;rw[nn p]
    subst en;have:=g2 d' F' m1 h' (Same.refl _) fS jb2;unfold restE;rw[show putE (restE env gs ds') q d'=putE (restE (putE env q (.pin u3)) gs ds') q d' from by rw[zeR_ gZ,zib_],zj_ hd2]
    exact this
def callG (f:Fn)(gs:List Ag)(env:Env):Mr Env D:=match resolve env gs with
 | some ds=>if apartAll gs then(match f ds with
   |.ok d ds'=>.ok d (restE env gs ds')
   |.ex c ds'=>.ex c (restE env gs ds')
   |.no=>.no)else .no
 |none=>.no
def CtX (K:l4)(f:Fn)(ds:List D)(vs:List V)(H:Hp)(Q:VK)(E:XK):Prop:=∃F h,Same F H/\Dj F h/\Same h H/\ODs K ds vs F h/\FinC K (f ds) E F (less H h) vs Q
theorem CtX.g {ds:List D}(h:CtX K f ds vs H Q E):CtG K f vs H Q E:=by obtain⟨F,h,a⟩:=h;exact⟨F,h,ds,a⟩
theorem zhh_ {gs:List Ag}{hA hE:Hp}(hL:Hold (LofW K ws env) σ F hE)(ag:AgR K σ F H gs vs hA)(j:Jn hA hE h)(ok:Okk F0 H0 F h H)(fin:FinE K (callG f gs env) E ws σ F0 H0 Q):∃ds,resolve env gs=uD ds/\CtX K f ds vs H Q E:=by
 unfold callG at fin;cases er:resolve env gs with
 |none=>rw[er]at fin;exact fin.elim
 |some ds=>
  rw[er]at fin;dsimp only at fin;by_cases ap:apartAll gs=uF
  rotate_left
  ·rw[if_neg ap]at fin;exact fin.elim
  rw[if_pos ap]at fin;obtain⟨hD,hR,jd,os,ln,g⟩:=lend er ap ag hL j ok.1.2.1 ok.2.2.1;have fW:=zaL_ jd;refine⟨ds,rfl,F,hD,ok.1.2.1,dj_l ok.2.1 jd,jd.l.trans ok.2.2.1,os,?_⟩;cases ef:f ds with
  |no=>rw[ef]at fin;exact fin
  |ex c ds'=>
   rw[ef]at fin;intro F2 h2 H2 ay os2;obtain⟨s,dk,bc⟩:=zbc_ ok fW ay;exact zcE_ ok fW (fin F2 (un hR h2) H2 (g ds' F2 h2 _ s os2 (zaL_ (zaQ_ dk))) bc)
  |ok d ds'=>
   rw[ef]at fin;intro v F2 h2 H2 hr hm ay j2 od os2;obtain⟨s,dk,bc⟩:=zbc_ ok fW ay;have d1:Dj hR hr:=λp=>by rcases dk p with z |z;exact .inl z;exact .inr (j2.l.free z)
   have d2:Dj hR hm:=λp=>by rcases dk p with z |z;exact .inl z;exact .inr (j2.r.free z)
   have dm:Dj hm hR:=λp=>(d2 p).symm
   refine fin v F2 hr (un hm hR) (un hR h2) H2 (g ds' F2 hm _ s os2 (zaQ_ dm)) od ?_ bc;rw[zc5_ j2];intro p;unfold un;cases x:hr p with
   |some o=>
    right;rcases j2.dj p with z |z
    ·rw[z]at x;cases x
    ·rcases d1 p with y |y
     ·rw[z,y];exact⟨rfl,rfl⟩
     ·rw[y]at x;cases x
   |none=>
    left;refine⟨rfl,?_⟩;cases y:hR p with
    |some o=>
     rcases d2 p with z |z
     ·rw[z]at y;cases y
     ·rw[z]
    |none=>cases hm p<;>rfl
theorem zdv_ {gs:List Ag}{hA hE:Hp}(hL:Hold (LofW K ws env) σ F hE)(ag:AgR K σ F H gs vs hA)(j:Jn hA hE h)(ok:Okk F0 H0 F h H)(fin:FinE K (callG f gs env) E ws σ F0 H0 Q):CtG K f vs H Q E:=by
 obtain⟨ds,_,c⟩:=zhh_ hL ag j ok fin;exact c.g
theorem zmB_ {r:Mr Env (List Ag)}(hg:EvG K ta E ws env r):EvE K (tCall (CtG K f) [] E ta) E ws env (r.bind (callG f)):=by
 intro F0 H0 σ F h H Q hL ok fin;refine hg F0 H0 σ F h H _ hL ok ?_;cases r with
 |no=>exact fin
 |ex c e=>exact fin
 |ok gs e=>
  intro vs F1 hA hE h1 H1 ao ag j au _;rw[mU];exact zdv_ ao ag j au fin
end
inductive Fl where
 |nx |rt (d:D)|ct |bk
section
variable {K:mT}{E:XK}{F F' F0 F1 F2 H0 h h1 h2 H H' H1 H2:Hp}{d c:D}{ds:List D}{v u:V}{vs:List V}{p:lu}{env:Env}{t:TE}{ws:Ws}{σ:L2.St}{q:Pl}{ta:TA}{f:Fn}{s s1 s2:TS}{i:Nat}
def FinS (K:l4)(r:Mr Env Fl)(E:XK)(ws:Ws)(F0 H0:Hp)(N:Ends):Prop:=match r with
 |.ok .nx env=>∀σ F h H,Hold (LofW K ws env) σ F h->Okk F0 H0 F h H->N.nx σ H
 |.ok .ct env=>∀σ F h H,Hold (LofW K ws env) σ F h->Okk F0 H0 F h H->N.ct σ H
 |.ok .bk env=>∀σ F h H,Hold (LofW K ws env) σ F h->Okk F0 H0 F h H->N.bk σ H
 |.ok (.rt d) env=>∀v σ F hr h2 h H,Hold (LofW K ws env) σ F h2->OD K d v F hr->Jn hr h2 h->Okk F0 H0 F h H->N.rt v H
 |.ex c env=>∀σ F h H,Hold (LofW K ws env) σ F h->Okk F0 H0 F h H->Tell K E c H0 F H
 |.no=>False
def EvS (K:l4)(t:TS)(E:XK)(ws:Ws)(env:Env)(r:Mr Env Fl):Prop:=
 ∀F0 H0 σ F h H (N:Ends),Hold (LofW K ws env) σ F h->Okk F0 H0 F h H->FinS K r E ws F0 H0 N->t N σ H
theorem zj1_:EvS K tNext E ws env (.ok .nx env):=λF0 H0 σ F h H N hL ok fin=>fin σ F h H hL ok
theorem zm8_:EvS K tCont E ws env (.ok .ct env):=λF0 H0 σ F h H N hL ok fin=>fin σ F h H hL ok
def seqM (r:Mr Env Fl)(g:Env->Mr Env Fl):Mr Env Fl:=r.bind λo e=>match o with |.nx=>g e |_=>.ok o e
theorem zoG_ {r:Mr Env Fl}{g:Env->Mr Env Fl}(d5:EvS K s1 E ws env r)(aO:∀e,EvS K s2 E ws e (g e)):EvS K (tSeq s1 s2) E ws env (seqM r g):=by
 intro F0 H0 σ F h H N hL ok fin;refine d5 F0 H0 σ F h H {N with nx:=s2 N} hL ok ?_;cases r with
 |no=>exact fin
 |ex c e=>exact fin
 |ok o e=>
  cases o with
  |nx=>exact λσ F h H hL ok=>aO e F0 H0 σ F h H N hL ok fin
  |rt d=>exact fin
  |ct=>exact fin
  |bk=>exact fin
theorem zhQ_ {hr hE:Hp}(hw:ws i=uE)(hi:i<env.length)(hL:Hold (LofW K ws env) σ F hE)(od:OD K d v F hr)(j:Jn hr hE h):Hold (LofW K ws (env.set i (uD d))) (σ.set i (uD v)) F h:=by
 obtain⟨o,k1,k2,e1,jk,pp,g⟩:=Hold.atG hL (zaw_ (lj hi));have d1:Dj hr k2:=λp=>by rcases j.dj p with z |z;exact .inl z;exact .inr (jk.r.free z)
 have:=g (slotW K (ws i) (uD d)) (uD v) F hr (un hr k2) (Same.refl _) (zdk_ (λu z=>by rw[hw]at z;cases z) od) (zaQ_ d1)
 rw[zdr_]at this;refine Hold.more this (g:=k1) ?_;rw[zc5_ j,zc5_ jk];intro p;unfold un;cases x:hr p with
 |some o=>
  left;refine⟨?_,rfl⟩;rcases j.dj p with z |z
  ·rw[z]at x;cases x
  ·exact jk.l.free z
 |none=>
  cases y:k1 p with
  |some o=>
   right;refine⟨?_,rfl⟩;rcases jk.dj p with z |z
   ·rw[z]at y;cases y
   ·exact z
  |none=>left;exact⟨rfl,rfl⟩
def asgM (pn:Nat->Bool)(i:Nat)(r:Mr Env D):Mr Env Fl:=r.bind λd e=>if pn i=uG/\i<e.length then .ok .nx (e.set i (uD d))else .no
theorem zrj_ {pn:Nat->Bool}{r:Mr Env D}(hp:∀i,pn i=uG->ws i=uE)(he:EvE K t E ws env r):EvS K (tAsg t (gName i)) E ws env (asgM pn i r):=by
 intro F0 H0 σ F h H N hL ok fin;refine he F0 H0 σ F h H _ hL ok ?_;cases r with
 |no=>exact fin
 |ex c e=>exact λF h H hL ok=>fin σ F h H hL ok
 |ok d e=>
  have fin:FinS K (if pn i=uG/\i<e.length then .ok .nx (e.set i (uD d))else .no) E ws F0 H0 N:=fin
  split at fin
  ·rename_i z
   exact λv F1 hr hE h1 H1 ao od j au=>fin _ F1 h1 H1 (zhQ_ (hp i z.1) z.2 ao od j) au
  ·exact fin.elim
def dropM (r:Mr Env D):Mr Env Fl:=r.bind λ_ e=>.ok .nx e
theorem znJ_ {r:Mr Env D}(he:EvE K t E ws env r):EvS K (tDrop t) E ws env (dropM r):=by
 intro F0 H0 σ F h H N hL ok fin;refine he F0 H0 σ F h H _ hL ok ?_;cases r with
 |no=>exact fin
 |ex c e=>exact λF h H hL ok=>fin σ F h H hL ok
 |ok d e=>exact λv F1 hr hE h1 H1 ao od j au=>fin σ F1 h1 H1 (Hold.more ao j) au
def retM (r:Mr Env D):Mr Env Fl:=r.bind λd e=>.ok (.rt d) e
theorem zrs_ {r:Mr Env D}(he:EvE K t E ws env r):EvS K (tRet t) E ws env (retM r):=by
 intro F0 H0 σ F h H N hL ok fin;refine he F0 H0 σ F h H _ hL ok ?_;cases r with
 |no=>exact fin
 |ex c e=>exact λF h H hL ok=>fin σ F h H hL ok
 |ok d e=>exact λv F1 hr hE h1 H1 ao od j au=>fin v σ F1 hr hE h1 H1 ao od j au
theorem znC_:EvS K tRetN E ws env (.ok (.rt .non) env):=λF0 H0 σ F h H N hL ok fin=>
 fin .non σ F (λ_=>uE) h h H hL (by unfold OD;exact⟨λ_=>rfl,by unfold DR;rfl⟩) (no_l _ λ_=>rfl) ok
def ifM (env:Env)(b:Mo Bool)(r1 r2:Mr Env Fl):Mr Env Fl:=match b with
 |.ok c=>if c then r1 else r2
 |.ex c=>.ex c env
 |.no=>.no
theorem es_if {tt:TT}{b:Mo Bool}{r1 r2:Mr Env Fl}(hc:EvT K tt E (Lof K env) b)(d5:EvS K s1 E ws env r1)(aO:EvS K s2 E ws env r2):EvS K (mIfS tt s1 s2) E ws env (ifM env b r1 r2):=by
 intro F0 H0 σ F h H N hL ok fin;refine hc σ (un F h) H _ (zcf_ (hL.froz ok.2.1)) ok.thaw ?_;cases b with
 |no=>exact fin
 |ex c=>exact λF' H' y=>(fin σ _ _ _ (hL.mono (ok.back y).2.1) (ok.back y).1).back ok y
 |ok c=>
  intro F' H' y;obtain⟨o,hsF,ht⟩:=ok.back y;refine⟨λz=>?_,λz=>?_⟩
  ·subst z;exact d5 F0 H0 σ _ h H' N (hL.mono hsF) o fin
  ·subst z;exact aO F0 H0 σ _ h H' N (hL.mono hsF) o fin
def forM (step:Env->List D->Mr Env Fl):List (List D)->Env->Mr Env Fl
 |[],e=>.ok .nx e
 |x::xs,e=>(step e x).bind λo e'=>match o with |.nx=>forM step xs e' |.ct=>forM step xs e' |.bk=>.ok .nx e' |.rt d=>.ok (.rt d) e'
def setG (pn:Nat->Bool):Env->List Nat->List D->Option Env
 |e,i::is,d::ds=>if pn i=uG/\i<e.length then setG pn (e.set i (uD d.vw)) is ds else uE
 |e,[],[]=>uD e
 |_,_,_=>uE
theorem zfk_ {pn:Nat->Bool}(hp:∀i,pn i=uG->ws i=uE):∀{is:List Nat}{ds:List D}{env e:Env}{σ:L2.St}{vs:List (Nat×Option V)},setG pn env is ds=uD e->Plain F (ssT K is ds) vs->Hold (LofW K ws env) σ F h->Hold (LofW K ws e) (setS σ vs) F h
 |[],[],env,e,σ,vs,z,pl,hL=>by unfold setG at z;cases z;cases pl;exact hL
 |i::is,d::ds,env,e,σ,vs,z,pl,hL=>by
  unfold setG at z;split at z
  ·rename_i y
   cases pl with
   |cons hv pl=>
    refine zfk_ hp (is:=is) (ds:=ds) (σ:=σ.set i (uD _)) z pl ?_;exact zhQ_ (hp i y.1) y.2 hL (OD.vw (h:=λ_=>uE) (λ_=>rfl) hv) (no_l _ λ_=>rfl)
  ·cases z
 |[],_::_,_,_,_,_,z,_,_=>by unfold setG at z;cases z
 |_::_,[],_,_,_,_,z,_,_=>by unfold setG at z;cases z
theorem zjJ_ {hr hE:Hp}(od:ODs K ds vs F hr)(j:Jn hr hE h)(ok:Okk F0 H0 F h H):DRs K ds vs (un F hr)/\Same F (un F hr)/\Okk F0 H0 (un F hr) hE H:=by
 obtain⟨o1,o2,o3,o4,o5⟩:=ok;refine⟨OD.view.go zau_ (zeZ_ (dj_l o2 j)) od,zau_,⟨o1.1.trans zau_,λp o e=>?_,o1.2.2.1,λp a b=>?_⟩,λp=>?_,j.r.trans o3,λp z=>?_,λp xs e=>o5 p xs (j.r _ _ e)⟩
 ·unfold un at e
  cases z:F p with
  |some w=>rw[z]at e;cases e;exact o1.2.1 _ _ z
  |none=>rw[z]at e;exact o3 _ _ (j.l _ _ e)
 ·unfold un at b
  cases z:F p with
  |some w=>exact o1.2.2.2 p a (by rw[z];exact sN _)
  |none=>
   rw[z]at b;cases y:hr p with
   |none=>exact absurd y b
   |some w=>exact o4 p (by rw[j.l _ _ y];exact sN _)
 ·unfold un
  cases z:F p with
  |some w=>
   rcases dj_r o2 j p with y |y
   ·rw[y]at z;cases z
   ·exact .inr y
  |none=>exact j.dj p
 ·cases y:hE p with
  |none=>exact absurd y z
  |some w=>exact o4 p (by rw[j.r _ _ y];exact sN _)
noncomputable def dsOf:List Ag->Option (List D)
 |[]=>uD []
 |.d d::gs=>(dsOf gs).map λds=>d::ds
 |.l _::_=>uE
theorem ag_ds:∀{gs:List Ag}{ds:List D}{vs:List V}{h:Hp},dsOf gs=uD ds->AgR K σ F H gs vs h->ODs K ds vs F h
 |[],_,_,_,e,r=>by unfold dsOf at e;cases e;unfold ODs;exact r
 |.d d::gs,_,_,_,e,q_=>by
  obtain⟨v,bw,h1,h2,e1,j,o,r⟩:=q_;unfold dsOf at e;obtain⟨ds,e2,rfl⟩:=lP.mp e;unfold ODs;exact⟨v,bw,h1,h2,e1,j,o,ag_ds e2 r⟩
 |.l _::_,_,_,_,e,_=>by unfold dsOf at e;cases e
def forS (pn:Nat->Bool)(ik:Ik)(g:Tg)(r:Mr Env (List Ag))(body:Env->Mr Env Fl):Mr Env Fl:=r.bind λgs e=>match dsOf gs with
 |some ds=>(match ik.f ds with
  |.ok items=>(match tgsD g items with
   |some xs=>forM (λe x=>match setG pn e g.is x with |some e'=>body e' |none=>.no) xs e
   |none=>.no)
  |_=>.no)
 |none=>.no
theorem zra_ {pn:Nat->Bool}{ik:Ik}{g:Tg}{r:Mr Env (List Ag)}{body:Env->Mr Env Fl}(hp:∀i,pn i=uG->ws i=uE)(hg:EvG K ta E ws env r)(hb:∀e,EvS K s E ws e (body e)):EvS K (tFor (ik.t K ta) (tgT K g) s) E ws env (forS pn ik g r body):=by
 intro F0 H0 σ F h H N hL ok fin;refine hg F0 H0 σ F h H _ hL ok ?_;cases r with
 |no=>exact fin
 |ex c e=>exact λF h H hL ok=>fin σ F h H hL ok
 |ok gs e=>
  intro vs F1 hA hE h1 H1 ao ag j au _
  have fin:FinS K (match dsOf gs with
   |some ds=>(match ik.f ds with
    |.ok items=>(match tgsD g items with
     |some xs=>forM (λe x=>match setG pn e g.is x with |some e'=>body e' |none=>.no) xs e
     |none=>.no)
    |_=>.no)
   |none=>.no) E ws F0 H0 N:=fin
  cases e1:dsOf gs with
  |none=>rw[e1]at fin;exact fin.elim
  |some ds=>
   rw[e1]at fin;dsimp only at fin;obtain⟨dr,sF,ay⟩:=zjJ_ (ag_ds e1 ag) j au;cases e2:ik.f ds with
   |no=>rw[e2]at fin;exact fin.elim
   |ex c=>rw[e2]at fin;exact fin.elim
   |ok items=>
    rw[e2]at fin;dsimp only at fin;cases e3:tgsD g items with
    |none=>rw[e3]at fin;exact fin.elim
    |some xs=>
     rw[e3]at fin;dsimp only at fin;refine ik_w (E:=E) ik ds vs σ (un F1 hA) H1 _ ay.1.2.1 dr ?_;rw[e2];intro F2 H2 x2 J Y;have bc:=ay.cold x2;obtain⟨l,gx⟩:=zeP_ e3;have xx:Ext F0 H0 F2 H2:=bc.1
     refine⟨λn m σ H=>m=xs.length-n/\n<=xs.length/\∃e F h,Hold (LofW K ws e) σ F h/\Okk F2 H0 F h H/\FinS K (forM (λe x=>match setG pn e g.is x with |some e'=>body e' |none=>.no) (xs.drop n) e) E ws F0 H0 N,
      ⟨_,rfl,ny _,e,F2,hE,ao.mono (sF.trans x2.1),bc.rebase xx (Same.refl _),fin⟩,?_⟩
     rintro n m σ H ⟨rfl,hn,e,F,h,hL,ok,fin⟩;have s1:Same F2 H:=ok.1.1.trans ok.1.2.1;by_cases aA:n<xs.length
     ·right
      obtain⟨d,hd,td⟩:=gx n xs[n] (lj aA);obtain⟨g1,g2⟩:=Y.go n H d s1 hd;refine⟨g1,λaf H'=>n+1<=xs.length/\∃e F h,Hold (LofW K ws e) af F h/\Okk F2 H0 F h H'/\FinS K (forM (λe x=>match setG pn e g.is x with |some e'=>body e' |none=>.no) (xs.drop (n+1)) e) E ws F0 H0 N,λaf H' z=>⟨xs.length-(n+1),by lia,rfl,z⟩,λv H3 hy=>?_⟩
      obtain⟨F3,x3,hv⟩:=g2 v H3 hy F ok.1.1 ok.1.2.1;refine tg_R g xs[n] v σ F3 H3 _ x3.2.1 (tgD_R td hv) λvs pl=>?_
      rw[qd aA]at fin;unfold forM at fin;cases es:setG pn e g.is xs[n]with
      |none=>rw[es]at fin;exact fin.elim
      |some e'=>
       rw[es]at fin;refine hb e' F2 H0 _ F3 h H3 _ (zfk_ hp es pl (hL.mono x3.1)) (ok.cold x3) ?_;dsimp only[Mr.bind]at fin;cases eb:body e' with
       |no=>rw[eb]at fin;exact fin
       |ex c e2=>rw[eb]at fin;exact λσ F h H hL ok=>fin σ F h H hL (ok.unbase xx)
       |ok o e2=>
        rw[eb]at fin;cases o with
        |nx=>exact λaf F' h' H' bB aM=>⟨aA,e2,F',h',bB,aM,fin⟩
        |ct=>exact λaf F' h' H' bB aM=>⟨aA,e2,F',h',bB,aM,fin⟩
        |bk=>exact λaf F' h' H' bB aM=>fin af F' h' H' bB (aM.unbase xx)
        |rt a=>exact λv σ F hr h2 h H a1 a2 a3 ok=>fin v σ F hr h2 h H a1 a2 a3 (ok.unbase xx)
     ·left
      have en:n=xs.length:=by lia
      subst en;rw[pU]at fin;exact⟨by rw[l];exact Y.stop H s1,fin σ F h H hL (ok.unbase xx)⟩
def whileM (c:Env->Mo Bool)(body:Env->Mr Env Fl):Nat->Env->Mr Env Fl
 |0,_=>.no
 |n+1,e=>ifM e (c e) ((body e).bind λo e'=>match o with |.nx=>whileM c body n e' |.ct=>whileM c body n e' |.bk=>.ok .nx e' |.rt d=>.ok (.rt d) e') (.ok .nx e)
theorem zk9_ {tt:TT}(n:Nat){c:Env->Mo Bool}{body:Env->Mr Env Fl}(hc:∀e,EvT K tt E (Lof K e) (c e))(hb:∀e,EvS K s E ws e (body e)):EvS K (tWhile tt s) E ws env (whileM c body n env):=by
 intro F0 H0 σ F h H N hL ok fin;refine⟨λm σ H=>∃e F h,Hold (LofW K ws e) σ F h/\Okk F0 H0 F h H/\FinS K (whileM c body m e) E ws F0 H0 N,⟨n,env,F,h,hL,ok,fin⟩,?_⟩
 rintro m σ H ⟨e,F,h,hL,ok,fin⟩;cases m with
 |zero=>exact fin.elim
 |succ m=>
  unfold whileM at fin;refine hc e σ (un F h) H _ (zcf_ (hL.froz ok.2.1)) ok.thaw ?_;cases ec:c e with
  |no=>rw[ec]at fin;exact fin
  |ex x=>rw[ec]at fin;exact λF' H' y=>(fin σ _ _ _ (hL.mono (ok.back y).2.1) (ok.back y).1).back ok y
  |ok b=>
   rw[ec]at fin;intro F' H' y;obtain⟨o,hsF,ht⟩:=ok.back y;cases b with
   |false=>rw[if_neg (by decide)];exact fin σ _ h H' (hL.mono hsF) o
   |true=>
    rw[if_pos rfl];refine⟨λaf df=>∃e F h,Hold (LofW K ws e) af F h/\Okk F0 H0 F h df/\FinS K (whileM c body m e) E ws F0 H0 N,λaf df z=>⟨m,pj _,z⟩,?_⟩
    refine hb e F0 H0 σ _ h H' _ (hL.mono hsF) o ?_;have aQ:FinS K ((body e).bind λo e'=>match o with |.nx=>whileM c body m e' |.ct=>whileM c body m e' |.bk=>.ok .nx e' |.rt d=>.ok (.rt d) e') E ws F0 H0 N:=fin
    cases eb:body e with
    |no=>rw[eb]at aQ;exact aQ
    |ex x e2=>rw[eb]at aQ;exact aQ
    |ok o e2=>
     rw[eb]at aQ;cases o with
     |nx=>exact λaf F' h' H' bB aM=>⟨e2,F',h',bB,aM,aQ⟩
     |ct=>exact λaf F' h' H' bB aM=>⟨e2,F',h',bB,aM,aQ⟩
     |bk=>exact aQ
     |rt a=>exact aQ
theorem zic_:∀{gs:List Ag}{vs:List V}{h:Hp},AgR K σ F H gs vs h->vs.length=gs.length
 |[],_,_,r=>by rw[r.1];rfl
 |.d d::gs,_,_,r=>by obtain⟨v,bw,h1,h2,e,j,o,r⟩:=r;rw[e,ly,ly,zic_ r]
 |.l q::gs,_,_,r=>by obtain⟨u,v,bw,e,e1,f,r⟩:=r;rw[e,ly,ly,zic_ r]
variable {h3 k:Hp}{us:List V}{Q:VK}{G:Gi}
theorem ODs.snoc:∀{ds:List D}{us:List V}{h1 h:Hp},ODs K ds us F h1->OD K d v F h2->Jn h1 h2 h->ODs K (ds++[d]) (us++[v]) F h
 |[],_,h1,h,q,o,j=>by
  unfold ODs at q;rw[q.1,nO,nO];have:h=h2:=by rw[zc5_ j];funext p;unfold un;rw[q.2 p]
  subst this;unfold ODs;exact⟨v,[],h,λ_=>uE,rfl,no_r _ λ_=>rfl,o,by unfold ODs;exact⟨rfl,λ_=>rfl⟩⟩
 |e::es,_,h1,h,q,o,j=>by
  unfold ODs at q;obtain⟨w,ws,k1,k2,rfl,jk,a,r⟩:=q;obtain⟨m,jm,jh⟩:=zn_ jk j;rw[l6,l6];unfold ODs;exact⟨w,ws++[v],k1,m,rfl,jh,a,ODs.snoc r o jm⟩
theorem ODs.app:∀{ds es:List D}{us ws:List V}{h1 h2 h:Hp},ODs K ds us F h1->ODs K es ws F h2->Jn h1 h2 h->ODs K (ds++es) (us++ws) F h
 |[],es,_,ws,h1,h2,h,q,o,j=>by
  unfold ODs at q;rw[q.1,nO,nO];have:h=h2:=by rw[zc5_ j];funext p;unfold un;rw[q.2 p]
  subst this;exact o
 |e::ds,es,_,ws,h1,h2,h,q,o,j=>by
  unfold ODs at q;obtain⟨w,dF,k1,k2,rfl,jk,a,r⟩:=q;obtain⟨m,jm,jh⟩:=zn_ jk j;rw[l6,l6];unfold ODs;exact⟨w,dF++ws,k1,m,rfl,jh,a,ODs.app r o jm⟩
theorem zeH_ {o o':HO}{hc ha k:Hp}{ds':List D}(hs:Same F H)(dj:Dj F h)(sh:Same h H)(nt:∀p xs,h p≠uD (.tup xs))(jh:Jn (one p o) k h)(n':∀xs,o'≠.tup xs){d:D}{v:V}{hr h2:Hp}(jk:Jn hr h2 (un (one p o') k))
  (od:OD K d v F hr) (os:ODs K ds' vs F h2) (fin:∀v F' h' H' hr h2,Okk F (less H h) F' h' H'->Jn hr h2 h'->OD K d v F' hr->ODs K ds' vs F' h2->Q v H'):Q v (upd H p o'):=by
 have ok:=zcc_ hs dj sh nt;have hp:h p≠uE:=by rw[jh.l _ _ zy_];exact sN _
 have aM:=zg1_ (h1':=h) (hr:=h) (h':=h) ok hp n' (un (one p o') k) λq=>by
  unfold un;rw[zi_];by_cases e:q=p
  ·rw[if_pos e,if_pos e]
  ·rw[if_neg e,if_neg e]
   rcases jh q with⟨_,b⟩|⟨a,b⟩
   ·exact b.symm
   ·rw[a,b,zi_,if_neg e]
 exact fin v F _ _ hr h2 aM jk od os
def BmOk (K:l4)(r:V->List V->Hp->VK->Prop)(f:Fn):Prop:=∀x xs H Q E,CtG K f (x::xs) H Q E->r x xs H Q
def appendF:Fn:=λds=>match ds with
 |[.nd .lst xs,d]=>if xs.length<lE then .ok .non [.nd .lst (xs++[d]),.gone]else .no
 |_=>.no
theorem zfH_ (os:ODs K ds vs F h):∀p xs,h p≠uD (.tup xs):=OD.notup.go os
theorem zbk_ {h:Hp}(hn:∀p,h p=uE):OD K .gone v F h:=by unfold OD;exact⟨hn,by unfold DR;trivial⟩
theorem zdw_ {h:Hp}(hn:∀p,h p=uE):OD K .non .non F h:=by unfold OD;exact⟨hn,by unfold DR;rfl⟩
theorem ziG_:BmOk K rAppend appendF:=by
 rintro x xs H Q E ⟨F,h,ds,hs,dj,sh,os,fin⟩;have nt:=zfH_ os;unfold appendF at fin;split at fin
 ·rename_i ys d
  split at fin
  ·rename_i hl
   unfold ODs at os;obtain⟨w,ws,m1,m2,e1,jm,o1,os⟩:=os;cases e1;unfold ODs at os;obtain⟨y,ws2,n1,n2,e2,jn,o2,os⟩:=os;cases e2;unfold ODs at os;obtain⟨rfl,nn⟩:=os;unfold OD at o1;obtain⟨p,us,h0,hc,rfl,cl,jc,oc⟩:=o1;have e0:h0=one p (.lst us):=cl;subst e0;have em:m2=n1:=by rw[zc5_ jn];funext q;unfold un;cases z:n1 q with |none=>exact nn q |some o=>rfl
   subst em;obtain⟨a,ja,jb⟩:=zn_ jc jm;have hp:H p=uD (.lst us):=sh _ _ (jb.l _ _ zy_);refine⟨p,us,y,rfl,rfl,hp,by rw[<- ODs.len oc];exact hl,?_⟩
   have d1:Dj (one p (.lst (us++[y]))) a:=λq=>by
    rw[zi_];split
    ·rename_i e;subst e;right;exact(by rcases jb.dj q with z |z;rw[zy_]at z;cases z;exact z)
    ·exact .inl rfl
   refine zeH_ (vs:=[.ref p,y]) (ds':=[.nd .lst (ys++[d]),.gone]) (hr:=λ_=>uE) (h2:=un (one p (.lst (us++[y]))) a) (hc:=h) (ha:=h) hs dj sh nt jb (λxs z=>by cases z) (no_l _ λ_=>rfl) (zdw_ λ_=>rfl) ?_ fin
   unfold ODs;refine⟨.ref p,[y],_,λ_=>uE,rfl,no_r _ λ_=>rfl,?_,?_⟩
   ·unfold OD
    exact⟨p,us++[y],_,a,rfl,rfl,zaQ_ d1,ODs.snoc oc o2 ja⟩
   ·unfold ODs
    exact⟨y,[],λ_=>uE,λ_=>uE,rfl,no_r _ λ_=>rfl,zbk_ λ_=>rfl,by unfold ODs;exact⟨rfl,λ_=>rfl⟩⟩
  ·exact fin.elim
 ·exact fin.elim
theorem recv1 {k:Nd}{ys args:List D}{x:V}{xs:List V}(os:ODs K (.nd k ys::args) (x::xs) F h):∃p us h0 hc ha a,x=.ref p/\Cell K k p us F h0/\Jn h0 a h/\Jn hc ha a/\ODs K ys us F hc/\ODs K args xs F ha:=by
 unfold ODs at os;obtain⟨w,ws,m1,m2,e1,jm,o1,os⟩:=os;cases e1;unfold OD at o1;obtain⟨p,us,h0,hc,rfl,cl,jc,oc⟩:=o1;obtain⟨a,ja,jb⟩:=zn_ jc jm;exact⟨p,us,h0,hc,m2,a,rfl,cl,jb,ja,oc,os⟩
theorem zfV_ {o o':HO}{a:Hp}(jb:Jn (one p o) a h):Dj (one p o') a:=λq=>by
 rw[zi_];split
 ·rename_i e;subst e;right;rcases jb.dj q with z |z
  ·rw[zy_]at z;cases z
  ·exact z
 ·exact .inl rfl
theorem recv2 {cb cD:List D}{cG:List V}{xs:List V}{a b aW:Hp}(d1:Dj (one p (.lst cG)) a)(jc:Jn aW b a)(oc:ODs K cb cG F aW)(oa:ODs K cD xs F b):ODs K (.nd .lst cb::cD) (.ref p::xs) F (un (one p (.lst cG)) a):=by
 have d2:Dj (one p (.lst cG)) aW:=λq=>by rcases d1 q with z |z;exact .inl z;exact .inr (jc.l.free z)
 have d3:Dj (one p (.lst cG)) b:=λq=>by rcases d1 q with z |z;exact .inl z;exact .inr (jc.r.free z)
 unfold ODs;refine⟨.ref p,xs,un (one p (.lst cG)) aW,b,rfl,?_,?_,oa⟩
 ·have:=zo7_ d2 d3 jc.dj
  rw[<- zc5_ jc]at this;exact this
 ·unfold OD
  exact⟨p,cG,_,aW,rfl,rfl,zaQ_ d2,oc⟩
theorem ziJ_ {y:V}:ODs K [.gone] [y] F (λ_=>uE):=by
 unfold ODs;exact⟨y,[],λ_=>uE,λ_=>uE,rfl,no_r _ λ_=>rfl,zbk_ λ_=>rfl,by unfold ODs;exact⟨rfl,λ_=>rfl⟩⟩
theorem zfn_:∀{ds:List D}{us:List V},ds.length=us.length->ODs K (ds.map λ_=>.gone) us F (λ_=>uE)
 |[],[],_=>by rw[nF];unfold ODs;exact⟨rfl,λ_=>rfl⟩
 |d::ds,u::us,l=>by rw[lq];unfold ODs;exact⟨u,us,λ_=>uE,λ_=>uE,rfl,no_r _ λ_=>rfl,zbk_ λ_=>rfl,zfn_ (by simpa using l)⟩
 |[],_::_,l=>by simp at l
 |_::_,[],l=>by simp at l
theorem zdz_:ODs K [] [] F (λ_=>uE):=by unfold ODs;exact⟨rfl,λ_=>rfl⟩
theorem ze7_ {y:V}(h1:ODs K [d] [y] F h):OD K d y F h:=by
 unfold ODs at h1;obtain⟨v,vs,m1,m2,e,j,o,r⟩:=h1;cases e;unfold ODs at r;have:h=m1:=by rw[zc5_ j];funext q;unfold un;cases z:m1 q with |none=>exact r.2 q |some o=>rfl
 rw[this];exact o
theorem zgA_ {xs:List V}(h1:ODs K [d] xs F h):∃y,xs=[y]:=m4.mp (ODs.len h1).symm
theorem len2_ {l:List V}(h:l.length=2):∃a b,l=[a,b]:=by
 obtain⟨a,t,rfl⟩:=mB h;obtain⟨b,rfl⟩:=m4.mp (mZ h);exact⟨a,b,rfl⟩
theorem len3_ {l:List V}(h:l.length=3):∃a b c,l=[a,b,c]:=by
 obtain⟨a,t,rfl⟩:=mB h;obtain⟨b,c,rfl⟩:=len2_ (mZ h);exact⟨a,b,c,rfl⟩
def extendF:Fn:=λds=>match ds with
 |[.nd .lst xs,.nd .lst ys]=>if xs.length+ys.length<=lE then .ok .non [.nd .lst (xs++ys),.nd .lst (ys.map λ_=>.gone)]else .no
 |[.nd .lst xs,.fz d]=>(match d.un with |.nd .lst ys=>if xs.length+ys.length<=lE then .ok .non [.nd .lst (xs++ys.map .vw),.gone]else .no |_=>.no)
 |_=>.no
theorem ziv_:BmOk K rExtend extendF:=by
 rintro x xs H Q E ⟨F,h,ds,hs,dj,sh,os,fin⟩;have nt:=zfH_ os;unfold extendF at fin;split at fin
 ·rename_i ys zs
  split at fin
  ·rename_i hl
   obtain⟨p,us,h0,hc,ha,a,rfl,cl,jb,ja,oc,oa⟩:=recv1 os;have e0:h0=one p (.lst us):=cl;subst e0;obtain⟨y,rfl⟩:=zgA_ oa;have o2:=ze7_ oa;unfold OD at o2;obtain⟨p2,us2,h2,cY,rfl,cl2,jc2,dt⟩:=o2;have e2:h2=one p2 (.lst us2):=cl2;subst e2;have hp:H p=uD (.lst us):=sh _ _ (jb.l _ _ zy_);have cT:H p2=uD (.lst us2):=sh _ _ (jb.r _ _ (ja.r _ _ (jc2.l _ _ zy_)));refine⟨p,p2,us,us2,rfl,rfl,hp,cT,by rw[<- ODs.len oc,<- ODs.len dt];exact hl,?_⟩
   obtain⟨m,jm,jh⟩:=zn_ (zaL_ jc2) (zaL_ ja);obtain⟨m3,jm3,jh3⟩:=zn_ jm (zaL_ jh);have i5:=ODs.app oc dt jm3;have jg:Jn m3 (one p2 (.lst us2)) a:=zaL_ jh3;refine zeH_ (vs:=[.ref p,.ref p2]) (ds':=[.nd .lst (ys++zs),.nd .lst (zs.map λ_=>.gone)]) (hr:=λ_=>uE) (h2:=un (one p (.lst (us++us2))) a) (hc:=h) (ha:=h) hs dj sh nt jb (λxs z=>by cases z) (no_l _ λ_=>rfl) (zdw_ λ_=>rfl) (recv2 (zfV_ jb) jg i5 ?_) fin
   unfold ODs;refine⟨.ref p2,[],_,λ_=>uE,rfl,no_r _ λ_=>rfl,?_,zdz_⟩
   unfold OD;exact⟨p2,us2,_,λ_=>uE,rfl,rfl,no_r _ λ_=>rfl,zfn_ (ODs.len dt)⟩
  ·exact fin.elim
 ·rename_i ys d
  split at fin
  ·rename_i zs e
   split at fin
   ·rename_i hl
    obtain⟨p,us,h0,hc,ha,a,rfl,cl,jb,ja,oc,oa⟩:=recv1 os;have e0:h0=one p (.lst us):=cl;subst e0;obtain⟨y,rfl⟩:=zgA_ oa;have o2:=ze7_ oa;unfold OD at o2;obtain⟨n2,r2⟩:=o2;have r2:=DR.un r2;rw[show(D.fz d).un=d.un from by rw[D.un],e]at r2
    obtain⟨p2,us2,rfl,n,r⟩:=r2.nd;have hp:H p=uD (.lst us):=sh _ _ (jb.l _ _ zy_);refine⟨p,p2,us,us2,rfl,rfl,hp,hs _ _ n,by rw[<- ODs.len oc,<- r.len];exact hl,?_⟩
    have ea:a=hc:=by rw[zc5_ ja];funext q;unfold un;cases z:hc q with |none=>exact n2 q |some o=>rfl
    subst ea;exact zeH_ (vs:=[.ref p,.ref p2]) (ds':=[.nd .lst (ys++zs.map D.vw),.gone]) (hr:=λ_=>uE) (h2:=un (one p (.lst (us++us2))) a) (hc:=h) (ha:=h) hs dj sh nt jb (λxs z=>by cases z) (no_l _ λ_=>rfl) (zdw_ λ_=>rfl) (recv2 (zfV_ jb) (no_r _ λ_=>rfl) (ODs.app oc (ODs.vw (h:=λ_=>uE) (λ_=>rfl) r) (no_r _ λ_=>rfl)) ziJ_) fin
   ·exact fin.elim
  ·exact fin.elim
 ·exact fin.elim
theorem recvV {v0 d0:D}{args:List D}{x y:V}{xs:List V}(os:ODs K (v0::d0::args) (x::y::xs) F h):∃h1 h2 h3 a,Jn h1 a h/\Jn h2 h3 a/\OD K v0 x F h1/\OD K d0 y F h2/\ODs K args xs F h3:=by
 unfold ODs at os;obtain⟨w,ws,m1,m2,e1,jm,o1,os⟩:=os;cases e1;unfold ODs at os;obtain⟨w2,ws2,n1,n2,e2,jn,o2,os⟩:=os;cases e2;exact⟨m1,n1,n2,m2,jm,jn,o1,o2,os⟩
def rSetD:TSet:=λo i v H Q=>atD o i H λa kvs k=>kvs.length<lE/\Q (upd H a (.dK (putK kvs k v)))
def rSetA:TSet:=λo i v H Q=>mSet o i v H Q\/rSetD o i v H Q
theorem set_A {X:Cx}(hu:X.A.units+60<cLine):PSet X rSetA:=by
 intro pins s σ H o i v ov iv u Q I ro ri rv h;rcases h with h |h
 ·exact set_M pins s σ H o i v ov iv u Q I ro ri rv h
 ·obtain⟨a,kvs,k,rfl,rfl,hd,hl,q⟩:=zhj_ h
  cases ro;exact zi7_ (by lia) I (DPut.k hd hl) ri rv λs4 I4=>⟨_,I4,q⟩
def setIF:Fn:=λds=>match ds with
 |[v,.nd .lst xs,.int i]=>(match ixN xs.length i with |some j=>.ok .non [.gone,.nd .lst (xs.set j v),.int i]|none=>.no)
 |[v,.nd (.dct ks) xs,k]=>(match keyD k with
  |some k'=>if kIx ks k'<ks.length/\xs.length<lE then .ok .non [.gone,.nd (.dct ks) (xs.set (kIx ks k') v),k]else if xs.length<lE/\¬kIx ks k'<ks.length then .ok .non [.gone,.nd (.dct (ks++[k'])) (xs++[v]),k]else .no
  |none=>.no)
 |_=>.no
theorem zfx_ {o o':HO}{k m:Hp}{ds':List D}(hs:Same F H)(dj:Dj F h)(sh:Same h H)(nt:∀p xs,h p≠uD (.tup xs))(jh:Jn (one p o) k h)(n':∀xs,o'≠.tup xs)(sm:Same m (un (one p o') k)){d:D}{v:V}{hr h2:Hp}(jk:Jn hr h2 m)
  (od:OD K d v F hr) (os:ODs K ds' vs F h2) (fin:∀v F' h' H' hr h2,Okk F (less H h) F' h' H'->Jn hr h2 h'->OD K d v F' hr->ODs K ds' vs F' h2->Q v H'):Q v (upd H p o'):=by
 have ok:=zcc_ hs dj sh nt;have hp:h p≠uE:=by rw[jh.l _ _ zy_];exact sN _
 have aM:=zg1_ (h1':=h) (hr:=h) (h':=h) ok hp n' (un (one p o') k) λq=>by
  unfold un;rw[zi_];by_cases e:q=p
  ·rw[if_pos e,if_pos e]
  ·rw[if_neg e,if_neg e]
   rcases jh q with⟨_,b⟩|⟨a,b⟩
   ·exact b.symm
   ·rw[a,b,zi_,if_neg e]
 exact fin v F _ _ hr h2 (zdY_ aM sm) jk od os
theorem ziT_:∀{ks:List Key}{k:Key},kIx ks k<ks.length↔k∈ks
 |[],k=>by simp[kIx]
 |k0::ks,k=>by
  unfold kIx;by_cases e:k0=k
  ·subst e;simp
  ·rw[if_neg e,ly,Nat.succ_lt_succ_iff,ziT_,lC]
   exact⟨.inr,λz=>by rcases z with z |z;exact absurd z.symm e;exact z⟩
theorem zoi_:∀{ks:List Key}{us:List V}{k:Key}{v:V},k∈ks->ks.Nodup->ks.length=us.length->putK (ks.zip us) k v=ks.zip (us.set (kIx ks k) v):=λ{ks us k v} hk nd hl=>by
 have ha:((ks.zip us).any λkv=>decide (kv.1=k))=uF:=by
  rw[qr];obtain⟨i,hi,e⟩:=p7 hk;exact⟨(ks[i],us[i]'(by lia)),nG (i:=i) (by rw[pB];exact⟨by rw[lj hi],by rw[lj]⟩),by simpa using e⟩
 unfold putK;rw[if_pos ha];clear ha;induction ks generalizing us with
 |nil=>simp at hk
 |cons k0 ks ih=>
  cases us with
  |nil=>simp at hl
  |cons u us=>
   obtain⟨n1,n2⟩:=pH.mp nd;rw[mh,lq];unfold kIx;by_cases e:k0=k
   ·subst e
    rw[if_pos rfl,if_pos rfl,m8,mh];congr 1;have:∀q∈ks.zip us,(if q.1=k0 then(q.1,v)else q)=q:=λq hq=>by
     have h1:=(ou (a:=q.1) (b:=q.2) hq).1;rw[if_neg (show¬q.1=k0 from λz=>n1 (z ▸ h1))]
    exact(pE this).trans (uu _)
   ·rw[if_neg e,if_neg e,nE,mh]
    congr 1;exact ih (by rcases lC.mp hk with z |z;exact absurd z.symm e;exact z) n2 (by simpa using hl)
theorem zgl_ {ks:List Key}{us:List V}{k:Key}{v:V}(hk:k∉ks)(hl:ks.length=us.length):putK (ks.zip us) k v=(ks++[k]).zip (us++[v]):=by
 have ha:¬((ks.zip us).any λkv=>decide (kv.1=k))=uF:=by
  rw[qr];rintro⟨q,hq,e⟩;exact hk (by have:=(ou hq).1;simp at e;rw[<- e];exact this)
 unfold putK;rw[if_neg ha,List.zip_append hl];rfl
theorem zkO_ {k:Nd}{ys:List D}(o:OD K (.nd k ys) v F h):∃p us h0 hc,v=.ref p/\Cell K k p us F h0/\Jn h0 hc h/\ODs K ys us F hc:=by unfold OD at o;exact o
theorem ods3 {a b c:D}{x y z:V}{h1 h2 h3 m:Hp}(o1:OD K a x F h1)(o2:OD K b y F h2)(o3:OD K c z F h3)(j1:Jn h2 h3 m)(j2:Jn h1 m h):ODs K [a,b,c] [x,y,z] F h:=by
 unfold ODs;refine⟨x,[y,z],h1,m,rfl,j2,o1,?_⟩;unfold ODs;refine⟨y,[z],h2,h3,rfl,j1,o2,?_⟩;unfold ODs;exact⟨z,[],h3,λ_=>uE,rfl,no_r _ λ_=>rfl,o3,zdz_⟩
theorem zqR_ {x o i:V}{QQ:Hp->Prop}(h0:CtG K setIF [x,o,i] H (λv H'=>v=.non->QQ H') E):rSetA o i x H QQ:=by
 obtain⟨F,h,ds,hs,dj,sh,os,fin⟩:=h0;have nt:=zfH_ os;unfold setIF at fin;split at fin
 ·rename_i v0 ys j0
  obtain⟨h1,h2,h3,a,ja,jb,ov,orr,oi⟩:=recvV os;have oi:=ze7_ oi;unfold OD at oi;obtain⟨n3,r3⟩:=oi;cases r3.int;obtain⟨p,us,c0,hc,rfl,cl,jc,oc⟩:=zkO_ orr;have e0:c0=one p (.lst us):=cl;subst e0;have ea:a=h2:=by rw[zc5_ jb];funext q;unfold un;cases z:h2 q with |none=>exact n3 q |some o=>rfl
  subst ea;cases ej:ixN ys.length j0 with
  |none=>rw[ej]at fin;exact fin.elim
  |some j=>
   rw[ej]at fin;dsimp only at fin;have gC:=(zf8_ ej).2.1;obtain⟨u,k1,k2,eu,jk,ow,g⟩:=ODs.focus oc (lj gC);obtain⟨m,jm,jh⟩:=zn_ jc (zaL_ ja);have d1:Dj h1 hc:=λq=>(jm.dj q).symm
   have d2:Dj h1 k2:=λq=>by rcases d1 q with z |z;exact .inl z;exact .inr (jk.r.free z)
   have on:=g v0 F x h1 (un h1 k2) (Same.refl _) ov (zaQ_ d2);have hp:H p=uD (.lst us):=sh _ _ (jh.l _ _ zy_);have sm:Same (un h1 k2) m:=λq o e=>by
    unfold un at e;cases z:h1 q with
    |some w=>rw[z]at e;cases e;exact jm.r _ _ z
    |none=>rw[z]at e;exact jm.l _ _ (jk.r _ _ e)
   have dp:Dj (one p (.lst (us.set j x))) (un h1 k2):=λq=>by
    rcases zfV_ (o':=.lst (us.set j x)) jh q with z |z
    ·exact .inl z
    ·exact .inr (sm.free z)
   refine .inl ⟨us,hp,?_⟩;rw[<- ODs.len oc,ej];refine zfx_ (vs:=[x,.ref p,.int j0]) (m:=un (one p (.lst (us.set j x))) (un h1 k2)) (d:=.non) (v:=.non) (Q:=λv H'=>v=.non->QQ H') (hr:=λ_=>uE) hs dj sh nt jh (λxs z=>by cases z) (λq o e=>?_) (no_l _ λ_=>rfl) (zdw_ λ_=>rfl) (ods3 (zbk_ λ_=>rfl) ?_ (by unfold OD;exact⟨λ_=>rfl,by unfold DR;rfl⟩) (no_r _ λ_=>rfl) (no_l _ λ_=>rfl)) fin rfl
   ·unfold un at e ⊢
    cases z:one p (.lst (us.set j x)) q with
    |some w=>rw[z]at e;exact e
    |none=>rw[z]at e;exact sm _ _ e
   ·unfold OD
    exact⟨p,us.set j x,_,un h1 k2,rfl,rfl,zaQ_ dp,on⟩
 ·rename_i v0 ks ys key
  obtain⟨h1,h2,h3,a,ja,jb,ov,orr,oi⟩:=recvV os;have oi:=ze7_ oi;obtain⟨p,us,c0,hc,rfl,cl,jc,oc⟩:=zkO_ orr;obtain⟨e0,el,nd⟩:=cl;subst e0;cases ek:keyD key with
  |none=>rw[ek]at fin;exact fin.elim
  |some k'=>
   rw[ek]at fin;dsimp only at fin;have ck:(∀q,h3 q=uE)/\DR K key i F:=by
    have:∀{d:D}{k:Key},keyD d=uD k->d.cold=uF:=λ{d}=>by
     cases d with
     |nd=>intro k e;cases e
     |_=>intro k e;rfl
    exact OD.cold (this ek) oi
   obtain⟨n3,r3⟩:=ck;have kv:=zng_ ek r3;have ea:a=h2:=by rw[zc5_ jb];funext q;unfold un;cases z:h2 q with |none=>exact n3 q |some o=>rfl
   subst ea;obtain⟨m,jm,jh⟩:=zn_ jc (zaL_ ja);have hp:H p=uD (.dK (ks.zip us)):=sh _ _ (jh.l _ _ zy_);have d1:Dj h1 hc:=λq=>(jm.dj q).symm
   split at fin
   ·rename_i jI
    obtain⟨hk,eB⟩:=jI;have hj:kIx ks k'<ys.length:=by rw[ODs.len oc,<- el];exact hk
    obtain⟨u,k1,k2,eu,jk,ow,g⟩:=ODs.focus oc (lj hj);have d2:Dj h1 k2:=λq=>by rcases d1 q with z |z;exact .inl z;exact .inr (jk.r.free z)
    have on:=g v0 F x h1 (un h1 k2) (Same.refl _) ov (zaQ_ d2);have sm:Same (un h1 k2) m:=λq o e=>by
     unfold un at e;cases z:h1 q with
     |some w=>rw[z]at e;cases e;exact jm.r _ _ z
     |none=>rw[z]at e;exact jm.l _ _ (jk.r _ _ e)
    have dp:Dj (one p (.dK (ks.zip (us.set (kIx ks k') x)))) (un h1 k2):=λq=>by
     rcases zfV_ (o':=.dK (ks.zip (us.set (kIx ks k') x))) jh q with z |z
     ·exact .inl z
     ·exact .inr (sm.free z)
    refine .inr (zeu_ rfl kv.1 hp ⟨?_,?_⟩)
    ·rw[nA,el,oS,<- ODs.len oc];exact eB
    ·rw[zoi_ (ziT_.mp hk) nd el]
     refine zfx_ (vs:=[x,.ref p,i]) (m:=un (one p (.dK (ks.zip (us.set (kIx ks k') x)))) (un h1 k2)) (d:=.non) (v:=.non) (Q:=λv H'=>v=.non->QQ H') (hr:=λ_=>uE) hs dj sh nt jh (λxs z=>by cases z) (λq o e=>?_) (no_l _ λ_=>rfl) (zdw_ λ_=>rfl) (ods3 (zbk_ λ_=>rfl) ?_ oi (λq=>.inr ⟨n3 q,rfl⟩) (no_l _ λ_=>rfl)) fin rfl
     ·unfold un at e ⊢
      cases z:one p (.dK (ks.zip (us.set (kIx ks k') x))) q with
      |some w=>rw[z]at e;exact e
      |none=>rw[z]at e;exact sm _ _ e
     ·unfold OD
      exact⟨p,us.set (kIx ks k') x,_,un h1 k2,rfl,⟨rfl,by rw[nz];exact el,nd⟩,zaQ_ dp,on⟩
   ·split at fin
    ·rename_i eB
     obtain⟨hl,hk⟩:=eB;have bo:k'∉ks:=λz=>hk (ziT_.mpr z)
     refine .inr (zeu_ rfl kv.1 hp ⟨by rw[nA,el,oS,<- ODs.len oc];exact hl,?_⟩)
     rw[zgl_ bo el];have on:=ODs.snoc oc ov jm;have dp:=zfV_ (o':=.dK ((ks++[k']).zip (us++[x]))) jh;refine zfx_ (vs:=[x,.ref p,i]) (m:=un (one p (.dK ((ks++[k']).zip (us++[x])))) m) (d:=.non) (v:=.non) (Q:=λv H'=>v=.non->QQ H') (hr:=λ_=>uE) hs dj sh nt jh (λxs z=>by cases z) (Same.refl _) (no_l _ λ_=>rfl) (zdw_ λ_=>rfl) (ods3 (zbk_ λ_=>rfl) ?_ oi (λq=>.inr ⟨n3 q,rfl⟩) (no_l _ λ_=>rfl)) fin rfl
     unfold OD;exact⟨p,us++[x],_,m,rfl,⟨rfl,by simp[el],rB.mpr ⟨nd,by simp,by rintro a ha b hb rfl;simp at hb;subst hb;exact bo ha⟩⟩,zaQ_ dp,on⟩
    ·exact fin.elim
 ·exact fin.elim
theorem zgB_ {dx:lu}{o o':HO}{k m:Hp}{ds':List D}(hs:Same F H)(dj:Dj F h)(sh:Same h H)(nt:∀p xs,h p≠uD (.tup xs))(jh:Jn (two p dx o) k h)(n':∀xs,o'≠.tup xs)(sm:Same m (un (two p dx o') k)){d:D}{v:V}{hr h2:Hp}(jk:Jn hr h2 m)
  (od:OD K d v F hr) (os:ODs K ds' vs F h2) (fin:∀v F' h' H' hr h2,Okk F (less H h) F' h' H'->Jn hr h2 h'->OD K d v F' hr->ODs K ds' vs F' h2->Q v H'):Q v (upd H p o'):=by
 have ok:=zcc_ hs dj sh nt;have hp:h p≠uE:=by rw[jh.l _ _ zpH_];exact sN _
 have aM:=zg1_ (h1':=h) (hr:=h) (h':=h) ok hp n' (un (two p dx o') k) λq=>by
  unfold un;rw[zaz_];by_cases e:q=p
  ·rw[if_pos e,if_pos e]
  ·rw[if_neg e,if_neg e]
   rcases jh q with⟨a,b⟩|⟨a,b⟩
   ·rw[zaz_,if_neg e]at a
    rw[b];split at a
    ·cases a
    ·rename_i z;rw[if_neg z]
   ·rw[a,b,zaz_,if_neg e];split<;>(rename_i z;exact z.symm)
 exact fin v F _ _ hr h2 (zdY_ aM sm) jk od os
theorem zjs_:∀{ns:List Str}{us:List V}{f:Str}{v:V},f∈ns->ns.length=us.length->putF f v (ns.zip us)=ns.zip (us.set (ns.idxOf f) v)
 |[],_,_,_,h,_=>by simp at h
 |n::ns,[],_,_,_,l=>by simp at l
 |n::ns,u::us,f,v,h,l=>by
  rw[mh,putF];by_cases e:n=f
  ·subst e;rw[if_pos rfl];simp
  ·rw[if_neg e,zjs_ (by rcases lC.mp h with z |z;exact absurd z.symm e;exact z) (by simpa using l),se,show(n == f)=uG from beq_eq_false_iff_ne.mpr e,cond_false,nE,mh]
def setFF (f:Str):Fn:=λds=>match ds with
 |[v,.nd (.obj c ns) xs]=>if ns.length<1000 then(if f∈ns then .ok .non [.gone,.nd (.obj c ns) (xs.set (ns.idxOf f) v)]else .ok .non [.gone,.nd (.obj c (ns++[f])) (xs++[v])])else .no
 |_=>.no
theorem zmC_ {dx:lu}{o o':HO}{a:Hp}(jb:Jn (two p dx o) a h):Dj (two p dx o') a:=λq=>by
 rcases jb.dj q with z |z
 ·left
  rw[zaz_]at z ⊢;split at z
  ·cases z
  ·rename_i e;rw[if_neg e];exact z
 ·exact .inr z
theorem ods2 {a b:D}{x y:V}{h1 h2:Hp}(o1:OD K a x F h1)(o2:OD K b y F h2)(j2:Jn h1 h2 h):ODs K [a,b] [x,y] F h:=by
 unfold ODs;refine⟨x,[y],h1,h2,rfl,j2,o1,?_⟩;unfold ODs;exact⟨y,[],h2,λ_=>uE,rfl,no_r _ λ_=>rfl,o2,zdz_⟩
theorem zlO_ {x o:V}{n:Str}{v0:D}{c':Str}{ns:List Str}{ys:List D}{QQ:Hp->Prop}(h0:CtX K (setFF n) [v0,.nd (.obj c' ns) ys] [x,o] H (λv H'=>v=.non->QQ H') E):
  ∃a,o=.ref a/\∃dx fs,H a=uD (.ins (gA K c') dx fs)/\fs.length<1000/\QQ (upd H a (.ins (gA K c') dx (putF n x fs))):=by
 obtain⟨F,h,hs,dj,sh,os,fin⟩:=h0;have nt:=zfH_ os;unfold setFF at fin;dsimp only at fin
 ·split at fin
  ·rename_i hl
   obtain⟨h1,h2,h3,a,ja,jb,ov,orr,oi⟩:=recvV os;obtain⟨p,us,c0,hcc,rfl,cl,jc,oc⟩:=zkO_ orr;obtain⟨dx,du,e0,el⟩:=cl;subst e0;unfold ODs at oi;have ea:a=h2:=by rw[zc5_ jb];funext q;unfold un;cases z:h2 q with |none=>exact oi.2 q |some o=>rfl
   subst ea;obtain⟨m,jm,jh⟩:=zn_ jc (zaL_ ja);have hp:H p=uD (.ins (gA K c') dx (ns.zip us)):=sh _ _ (jh.l _ _ zpH_);have d1:Dj h1 hcc:=λq=>(jm.dj q).symm
   refine⟨p,rfl,dx,ns.zip us,hp,by rw[nA,el,oS,<- el];exact hl,?_⟩
   split at fin
   ·rename_i hn
    have hj:ns.idxOf n<ys.length:=by rw[ODs.len oc,<- el];exact List.idxOf_lt_length_iff.mpr hn
    obtain⟨u,k1,k2,eu,jk,ow,g⟩:=ODs.focus oc (lj hj);have d2:Dj h1 k2:=λq=>by rcases d1 q with z |z;exact .inl z;exact .inr (jk.r.free z)
    have on:=g v0 F x h1 (un h1 k2) (Same.refl _) ov (zaQ_ d2);have sm:Same (un h1 k2) m:=λq o e=>by
     unfold un at e;cases z:h1 q with
     |some w=>rw[z]at e;cases e;exact jm.r _ _ z
     |none=>rw[z]at e;exact jm.l _ _ (jk.r _ _ e)
    have dp:Dj (two p dx (.ins (gA K c') dx (ns.zip (us.set (ns.idxOf n) x)))) (un h1 k2):=λq=>by
     rcases zmC_ (o':=.ins (gA K c') dx (ns.zip (us.set (ns.idxOf n) x))) jh q with z |z
     ·exact .inl z
     ·exact .inr (sm.free z)
    rw[zjs_ hn el];refine zgB_ (vs:=[x,.ref p]) (m:=un (two p dx (.ins (gA K c') dx (ns.zip (us.set (ns.idxOf n) x)))) (un h1 k2)) (d:=.non) (v:=.non) (Q:=λv H'=>v=.non->QQ H') (hr:=λ_=>uE) hs dj sh nt jh (λxs z=>by cases z) (λq o e=>?_) (no_l _ λ_=>rfl) (zdw_ λ_=>rfl) (ods2 (zbk_ λ_=>rfl) ?_ (no_l _ λ_=>rfl)) fin rfl
    ·unfold un at e ⊢
     cases z:two p dx (.ins (gA K c') dx (ns.zip (us.set (ns.idxOf n) x))) q with
     |some w=>rw[z]at e;exact e
     |none=>rw[z]at e;exact sm _ _ e
    ·unfold OD
     exact⟨p,us.set (ns.idxOf n) x,_,un h1 k2,rfl,⟨dx,du,rfl,by rw[nz];exact el⟩,zaQ_ dp,on⟩
   ·rename_i hn
    rw[zhG_ x hn el.symm];have on:=ODs.snoc oc ov jm;have dp:=zmC_ (o':=.ins (gA K c') dx ((ns++[n]).zip (us++[x]))) jh;refine zgB_ (vs:=[x,.ref p]) (m:=un (two p dx (.ins (gA K c') dx ((ns++[n]).zip (us++[x])))) m) (d:=.non) (v:=.non) (Q:=λv H'=>v=.non->QQ H') (hr:=λ_=>uE) hs dj sh nt jh (λxs z=>by cases z) (Same.refl _) (no_l _ λ_=>rfl) (zdw_ λ_=>rfl) (ods2 (zbk_ λ_=>rfl) ?_ (no_l _ λ_=>rfl)) fin rfl
    unfold OD;exact⟨p,us++[x],_,m,rfl,⟨dx,du,rfl,by simp[el]⟩,zaQ_ dp,on⟩
  ·exact fin.elim
def tSFldA (K:l4)(cs:List Str)(t tv:TE)(f:Str):TS:=λN σ H=>∃c∈cs,mSFld (gA K c) t tv f N σ H
def clsAt (env:Env)(q:Pl):Option Str:=match atE env q with |some (.nd (.obj c _) _)=>uD c |_=>uE
def setFM (G:Gi)(n:Str)(p:Pt)(x:X)(env:Env):Mr Env Fl:=(evG G env [.x x,.l p]).bind λgs e=>match gs with
 |[g,.l q]=>(match clsAt e q with |some c=>if c∈G.cs then dropM (callG (setFF n) [g,.l q] e)else .no |none=>.no)
 |_=>.no
theorem zoH_ (g0:G.Ok K)(n:Str)(pt:Pt)(x:X):EvS K (tSFldA K G.cs (pt.x.den K G E) (x.den K G E) n) E ws env (setFM G n pt x env):=by
 intro F0 H0 σ F h H N hL ok fin;unfold setFM at fin;have main:∀c∈G.cs,(∀gs e,evG G env [.x x,.l pt]=.ok gs e->∃g q,gs=[g,.l q]/\clsAt e q=uD c)->tSFldA K G.cs (pt.x.den K G E) (x.den K G E) n N σ H:=λc hc hg=>⟨c,hc,by
  have:=zea_ (K:=K) (E:=E) (ws:=ws) g0 [.x x,.l pt] env;rw[show X.dens K G E ([A.x x,.l pt].map A.t)=tCons (x.den K G E) (tCons (pt.x.den K G E) tNil)from rfl]at this
  have key:FinG K (evG G env [.x x,.l pt]) E ws σ F0 H0 H (λvs H2=>match vs with |[y,.ref a]=>∃dx fs,H2 a=uD (.ins (gA K c) dx fs)/\fs.length<1000/\N.nx σ (upd H2 a (.ins (gA K c) dx (putF n y fs)))|_=>False):=by
   cases e:evG G env [.x x,.l pt]with
   |no=>rw[e]at fin;exact fin
   |ex c e'=>rw[e]at fin;exact λF h H hL ok=>fin σ F h H hL ok
   |ok gs e'=>
    rw[e]at fin;obtain⟨g,q,rfl,cq⟩:=hg gs e' e;dsimp only[Mr.bind]at fin;rw[cq]at fin;dsimp only at fin;rw[if_pos hc]at fin;intro vs F1 hA hE h1 H1 ao ag j au _;have fe:FinE K (callG (setFF n) [g,.l q] e') E ws σ F0 H0 (λv H'=>v=.non->N.nx σ H'):=by
     cases ec:callG (setFF n) [g,.l q] e' with
     |no=>rw[ec]at fin;exact fin
     |ex c e2=>rw[ec]at fin;exact λF h H hL ok=>fin σ F h H hL ok
     |ok d e2=>rw[ec]at fin;exact λv F hr h2 h H hL od j ok _=>fin σ F h H (Hold.more hL j) ok
    obtain⟨ds,er,cx⟩:=zhh_ ao ag j au fe;have hlen:=zic_ ag;obtain⟨y,o,rfl⟩:=len2_ hlen;unfold clsAt at cq;split at cq
    ·rename_i c1 ns ys ea
     cases cq;have ed:∃v0,ds=[v0,.nd (.obj c ns) ys]:=by
      cases g with
      |d v0=>simp[resolve,ea]at er;exact⟨v0,er.symm⟩
      |l q'=>
       cases eq':atE e' q' with
       |none=>simp[resolve,eq']at er
       |some v0=>simp[resolve,ea,eq']at er;exact⟨v0,er.symm⟩
     obtain⟨v0,rfl⟩:=ed;obtain⟨a,rfl,r⟩:=zlO_ cx;exact r
    ·cases cq
  ·-- the same,read as an assignment
   have z:=this F0 H0 σ F h H _ hL ok key;unfold mSFld;unfold tCons tNil at z;have e:(λ(y:V) (H1:Hp)=>(pt.x.den K G E) σ H1 λo H2=>(match([y,o]:List V)with |[y,.ref a]=>∃dx fs,H2 a=uD (.ins (gA K c) dx fs)/\fs.length<1000/\N.nx σ (upd H2 a (.ins (gA K c) dx (putF n y fs)))|_=>False))=λy H1=>(pt.x.den K G E) σ H1 λo H2=>(match o with |.ref a=>∃dx fs,H2 a=uD (.ins (gA K c) dx fs)/\fs.length<1000/\N.nx σ (upd H2 a (.ins (gA K c) dx (putF n y fs)))|_=>False):=by
    funext y H1;congr 1;funext o H2;cases o<;>rfl
   have z2:=z;rw[e]at z2;exact z2⟩
 cases e:evG G env [.x x,.l pt]with
 |no=>rw[e]at fin;exact fin.elim
 |ex c e'=>
  cases hcs:G.cs with
  |nil=>exact absurd hcs g0.cs
  |cons c0 cs=>
   have:=main c0 (by rw[hcs];exact lR ..) λgs e2 z=>by rw[e]at z;cases z
   rw[hcs]at this;exact this
 |ok gs e'=>
  rw[e]at fin;dsimp only[Mr.bind]at fin;split at fin
  ·rename_i g q
   cases ec:clsAt e' q with
   |none=>rw[ec]at fin;exact fin.elim
   |some c=>
    rw[ec]at fin;dsimp only at fin;by_cases hc:c∈G.cs
    ·exact main c hc λgs e2 z=>by rw[e]at z;cases z;exact⟨g,q,rfl,ec⟩
    ·rw[if_neg hc]at fin;exact fin.elim
  ·exact fin.elim
def setIM (G:Gi)(p:Pt)(k x:X)(env:Env):Mr Env Fl:=dropM ((evG G env [.x x,.l p,.x k]).bind (callG setIF))
theorem zoZ_ (g0:G.Ok K)(pt:Pt)(k x:X):EvS K (tAsg (x.den K G E) (gSub (pt.x.den K G E) (k.den K G E) rSetA)) E ws env (setIM G pt k x env):=by
 intro F0 H0 σ F h H N hL ok fin;unfold setIM at fin;have:=zea_ (K:=K) (E:=E) (ws:=ws) g0 [.x x,.l pt,.x k] env;rw[show X.dens K G E ([A.x x,.l pt,.x k].map A.t)=tCons (x.den K G E) (tCons (pt.x.den K G E) (tCons (k.den K G E) tNil))from rfl]at this
 refine this F0 H0 σ F h H (λvs H2=>match vs with |[y,o,i]=>rSetA o i y H2 (N.nx σ)|_=>False) hL ok ?_
 cases e:evG G env [.x x,.l pt,.x k]with
 |no=>rw[e]at fin;exact fin
 |ex c e'=>rw[e]at fin;exact λF h H hL ok=>fin σ F h H hL ok
 |ok gs e'=>
  rw[e]at fin;intro vs F1 hA hE h1 H1 ao ag j au _;have fin:FinS K (dropM (callG setIF gs e')) E ws F0 H0 N:=fin;have fe:FinE K (callG setIF gs e') E ws σ F0 H0 (λv H'=>v=.non->N.nx σ H'):=by
   cases ec:callG setIF gs e' with
   |no=>rw[ec]at fin;exact fin
   |ex c e2=>rw[ec]at fin;exact λF h H hL ok=>fin σ F h H hL ok
   |ok d e2=>rw[ec]at fin;exact λv F hr h2 h H hL od j ok _=>fin σ F h H (Hold.more hL j) ok
  have cx:=zdv_ ao ag j au fe;have hlen:=zic_ ag;have jM:gs.length=3:=by
   have:∀{as:List A}{env e:Env}{gs:List Ag},evG G env as=.ok gs e->gs.length=as.length:=λ{as}=>by
    induction as with
    |nil=>intro env e gs h;unfold evG at h;cases h;rfl
    |cons a as ih=>
     intro env e gs h;cases a with
     |x y=>
      unfold evG at h;cases e1:stX G env y with
      |no=>rw[e1]at h;cases h
      |ex c t=>rw[e1]at h;cases h
      |ok d t=>
       rw[e1]at h;dsimp only[Mr.bind]at h;cases e2:evG G t as with
       |no=>rw[e2]at h;cases h
       |ex c t=>rw[e2]at h;cases h
       |ok gs' t'=>rw[e2]at h;cases h;rw[ly,ly,ih e2]
     |l p=>
      unfold evG at h;split at h
      ·cases e2:evG G env as with
       |no=>rw[e2]at h;cases h
       |ex c t=>rw[e2]at h;cases h
       |ok gs' t'=>rw[e2]at h;cases h;rw[ly,ly,ih e2]
      ·cases h
      ·cases h
   exact this e
  rw[jM]at hlen;obtain⟨y,o,i,rfl⟩:=len3_ hlen;exact zqR_ cx
theorem zdT_ (g0:G.Ok K){pt:Pt}(hL:Hold (LofW K ws env) σ F h)(ok:Okk F0 H0 F h H)(e:pt.ev G env=.ok q)(hc:atE env q=uD c)
  (hk:∀u F1 H1 k1 v,Okk F0 H0 F1 h H1->Hold (LofW K ws env) σ F1 h->Same k1 h->OD K c u F1 k1->σ[q.1]?=uD (uD v)->vAt H1 v q.2=uD u->Q u H1):pt.x.den K G E σ H Q:=by
 refine Pt.sound g0 pt E env σ (un F h) H _ (zcf_ (hL.froz ok.2.1)) ok.thaw ?_;rw[e];intro F1 H1 v u c' x1 hv hu _ _;obtain⟨o1,hsF,ht⟩:=ok.back x1;rcases zfW_ env q.1 with⟨d,hd⟩|hd
 ·rw[zal_ hd]at hc
  obtain⟨v',u',k1,k2,ev,vp,j,oc,_⟩:=zcA_ hL hd hc;rw[hv]at ev;cases ev;cases mD ((zcS_ x1.2.2.1 (vp H ok.1.2.1 ok.2.2.1)).symm.trans hu);exact hk u _ H1 k1 v o1 (hL.mono hsF) j.l (oc.mono hsF) hv hu
 ·unfold atE at hc;split at hc
  ·rename_i d z;exact absurd z (hd d)
  ·cases hc
theorem pt_ex (g0:G.Ok K){pt:Pt}{x:Xc}(hL:Hold (LofW K ws env) σ F h)(ok:Okk F0 H0 F h H)(e:pt.ev G env=.ex x)(fin:∀F h H,Hold (LofW K ws env) σ F h->Okk F0 H0 F h H->Tell K E x H0 F H):pt.x.den K G E σ H Q:=by
 refine Pt.sound g0 pt E env σ (un F h) H _ (zcf_ (hL.froz ok.2.1)) ok.thaw ?_;rw[e];exact λF' H' y=>(fin _ _ _ (hL.mono (ok.back y).2.1) (ok.back y).1).back ok y
def lentG (G:Gi)(env:Env)(p:Pt)(as:List A)(ok:D->Bool)(k:Pl->List Ag->Env->Mr Env D):Mr Env D:=match p.ev G env with
 |.ok q=>(match atE env q with |some c=>if ok c then(evG G env as).bind (k q)else .no |none=>.no)
 |.ex c=>.ex c env
 |.no=>.no
theorem zjM_ {gs:List Ag}{v:V}{hA:Hp}(ev:σ[q.1]?=uD (uD v))(vp:vAt H1 v q.2=uD u)(sm:Same H1 H2)(ag:AgR K σ F2 H2 gs vs hA):AgR K σ F2 H2 (.l q::gs) (u::vs) hA:=⟨u,v,vs,rfl,ev,zcS_ sm vp,ag⟩
def isK (T:String)(c:D):Bool:=match c with |.nd .lst _=>T=="list" |.nd (.dct _) _=>T=="dict" |_=>uG
theorem zrx_ {T:String}(h0:isK T c=uF)(oc:OD K c u F k)(sF:Same F H)(sk:Same k H):tyV K T u H:=by
 unfold isK at h0;split at h0
 ·obtain⟨p,us,c0,hc,rfl,cl,jc,_⟩:=zkO_ oc
  have e0:c0=one p (.lst us):=cl;subst e0;have:T="list":=by simpa using h0
  exact .inl ⟨this,us,.of (sk _ _ (jc.l _ _ zy_))⟩
 ·obtain⟨p,us,c0,hc,rfl,cl,jc,_⟩:=zkO_ oc
  obtain⟨e0,_⟩:=cl;subst e0;have:T="dict":=by simpa using h0
  exact .inr (.inr (.inl ⟨this,.inl ⟨_,sk _ _ (jc.l _ _ zy_)⟩⟩))
 ·cases h0
theorem ee_bm (g0:G.Ok K){T:String}{r:V->List V->Hp->VK->Prop}(b:BmOk K r f)(pt:Pt)(as:List A):EvE K (tBM K T r (pt.x.den K G E) (X.dens K G E (as.map A.t))) E ws env (lentG G env pt as (isK T) λq gs e=>callG f (.l q::gs) e):=by
 intro F0 H0 σ F h H Q hL ok fin;unfold lentG at fin;cases e:pt.ev G env with
 |no=>rw[e]at fin;exact fin.elim
 |ex c=>rw[e]at fin;exact pt_ex g0 hL ok e fin
 |ok q=>
  rw[e]at fin;dsimp only at fin;cases hc:atE env q with
  |none=>rw[hc]at fin;exact fin.elim
  |some c=>
   rw[hc]at fin;dsimp only at fin;by_cases hk:isK T c=uF
   rotate_left
   ·rw[if_neg hk]at fin;exact fin.elim
   rw[if_pos hk]at fin;refine zdT_ g0 hL ok e hc λu F1 H1 k1 v o1 ao sk oc ev vp=>⟨zrx_ hk oc o1.1.2.1 (sk.trans o1.2.2.1),?_⟩
   refine zea_ (K:=K) (E:=E) (ws:=ws) g0 as env F0 H0 σ F1 h H1 _ ao o1 ?_;cases eg:evG G env as with
   |no=>rw[eg]at fin;exact fin
   |ex x e'=>rw[eg]at fin;exact fin
   |ok gs e'=>
    rw[eg]at fin;intro vs F2 hA hE h2 H2 bA ag j ay sm;exact b u vs H2 Q E (zdv_ bA (zjM_ ev vp sm ag) j ay fin)
theorem zrH_ (g0:G.Ok K){T:String}{r:V->List V->Hp->VK->Prop}(b:BmOk K r f)(pt:Pt):EvE K (tBM0 K T r (pt.x.den K G E)) E ws env (lentG G env pt [] (isK T) λq gs e=>callG f (.l q::gs) e):=by
 intro F0 H0 σ F h H Q hL ok fin;have:=ee_bm (ws:=ws) (env:=env) (E:=E) g0 (T:=T) b pt [] F0 H0 σ F h H Q hL ok fin;exact this
def setdF:Fn:=λds=>match ds with
 | [.nd (.dct ks) ys,key,v]=>if v.cold then(match keyD key with
   |some k'=>if kIx ks k'<ks.length then(match ys[kIx ks k']? with |some y=>if y.cold then .ok y [.nd (.dct ks) ys,key,v]else .no |none=>.no)
    else if ys.length<lE then .ok v [.nd (.dct (ks++[k'])) (ys++[v]),key,v]else .no
   |none=>.no)else .no
 |_=>.no
def rSetd:V->List V->Hp->VK->Prop:=λx xs H Q=>match xs with
 |[y,z]=>atD x y H λa kvs k=>match valV kvs k with |some v=>Q v H |none=>kvs.length<lE/\Q z (upd H a (.dK (putK kvs k z)))
 |_=>False
theorem zkH_ {ks:List Key}{us:List V}{k:Key}(hk:k∉ks):valV (ks.zip us) k=uE:=by
 unfold valV;rw[List.find?_eq_none.mpr]
 ·rfl
 ·intro q hq z
  exact hk (by have:=(ou (a:=q.1) (b:=q.2) hq).1;simp at z;rw[<- z];exact this)
theorem zkG_:∀{d:D}{k:Key},keyD d=uD k->d.cold=uF:=λ{d}=>by
 cases d with
 |nd=>intro k e;cases e
 |_=>intro k e;rfl
theorem zlR_:BmOk K rSetd setdF:=by
 rintro x xs H Q E ⟨F,h,ds,hs,dj,sh,os,fin⟩;have nt:=zfH_ os;have i4:=os;unfold setdF at fin;split at fin
 ·rename_i ks ys key v0
  split at fin
  rotate_left
  ·exact fin.elim
  rename_i hc
  unfold ODs at os;obtain⟨xr,vs1,hA,hB,e1,jA,oR,os1⟩:=os;unfold ODs at os1;obtain⟨xk,vs2,hK,hV,e2,jK,oK,os2⟩:=os1;unfold ODs at os2;obtain⟨xz,vs3,hZ,hN,e3,jZ,oZ,os3⟩:=os2;unfold ODs at os3;obtain⟨e4,nN⟩:=os3;cases e1;subst e2;subst e3;subst e4;obtain⟨nZ,rZ⟩:=OD.cold hc oZ;cases ek:keyD key with
  |none=>rw[ek]at fin;exact fin.elim
  |some k'=>
   rw[ek]at fin;dsimp only at fin;obtain⟨nK,rK⟩:=OD.cold (zkG_ ek) oK;have kv:=zng_ ek rK;obtain⟨p,us,c0,aW,rfl,cl,jc,oc⟩:=zkO_ oR;obtain⟨e0,el,nd⟩:=cl;subst e0;have nV:∀q,hV q=uE:=λq=>by rw[zc5_ jZ];unfold un;rw[nZ q];exact nN q
   have nB:∀q,hB q=uE:=λq=>by rw[zc5_ jK];unfold un;rw[nK q];exact nV q
   have eh:h=hA:=by rw[zc5_ jA];funext q;unfold un;cases z:hA q with |none=>exact nB q |some o=>rfl
   subst eh;have hp:H p=uD (.dK (ks.zip us)):=sh _ _ (jc.l _ _ zy_);have zK:hK=λ_=>uE:=funext nK
   have zZ:hZ=λ_=>uE:=funext nZ
   split at fin
   ·rename_i hk
    cases ey:ys[kIx ks k']? with
    |none=>rw[ey]at fin;exact fin.elim
    |some y=>
     rw[ey]at fin;dsimp only at fin;split at fin
     rotate_left
     ·exact fin.elim
     rename_i hy
     obtain⟨u,k1,k2,eu,jk,ow,g⟩:=ODs.focus oc ey;obtain⟨n1,r1⟩:=OD.cold hy ow;unfold rSetd;refine zeu_ rfl kv.1 hp ?_;rw[zhR_ eu hk];have:k1=λ_=>uE:=funext n1
     rw[this]at ow;exact fin u F h H (λ_=>uE) h (zcc_ hs dj sh nt) (no_l _ λ_=>rfl) ow i4
   ·rename_i hk
    split at fin
    rotate_left
    ·exact fin.elim
    rename_i hl
    have bo:k'∉ks:=λz=>hk (ziT_.mpr z)
    unfold rSetd;refine zeu_ rfl kv.1 hp ?_;rw[zkH_ bo];refine⟨by rw[nA,el,oS,<- ODs.len oc];exact hl,?_⟩
    rw[zgl_ bo el];have on:=ODs.snoc oc oZ (no_r _ nZ);have dp:=zfV_ (o':=.dK ((ks++[k']).zip (us++[xz]))) jc;rw[zK]at oK;rw[zZ]at oZ;have o1:OD K (.nd (.dct (ks++[k'])) (ys++[v0])) (.ref p) F (un (one p (.dK ((ks++[k']).zip (us++[xz])))) aW):=by
     unfold OD;exact⟨p,us++[xz],_,aW,rfl,⟨rfl,by simp[el],rB.mpr ⟨nd,by simp,by rintro a ha b hb rfl;simp at hb;subst hb;exact bo ha⟩⟩,zaQ_ dp,on⟩
    exact zfx_ (vs:=[.ref p,xk,xz]) (m:=un (one p (.dK ((ks++[k']).zip (us++[xz])))) aW) (d:=v0) (v:=xz) (Q:=Q) (hr:=λ_=>uE) hs dj sh nt jc (λxs z=>by cases z) (Same.refl _) (no_l _ λ_=>rfl) oZ (ods3 o1 oK oZ (no_l _ λ_=>rfl) (no_r _ λ_=>rfl)) fin
 ·exact fin.elim
theorem znN_ (g0:G.Ok K)(pt:Pt)(k v:X):EvE K (mSetD (pt.x.den K G E) (k.den K G E) (v.den K G E)) E ws env (lentG G env pt [.x k,.x v] (isK "dict") λq gs e=>callG setdF (.l q::gs) e):=by
 intro F0 H0 σ F h H Q hL ok fin;unfold lentG at fin;cases e:pt.ev G env with
 |no=>rw[e]at fin;exact fin.elim
 |ex c=>rw[e]at fin;exact pt_ex g0 hL ok e fin
 |ok q=>
  rw[e]at fin;dsimp only at fin;cases hc:atE env q with
  |none=>rw[hc]at fin;exact fin.elim
  |some c=>
   rw[hc]at fin;dsimp only at fin;by_cases hk:isK "dict" c=uF
   rotate_left
   ·rw[if_neg hk]at fin;exact fin.elim
   rw[if_pos hk]at fin;refine zdT_ g0 hL ok e hc λu F1 H1 k1 v0 o1 ao sk oc ev vp=>⟨?_,?_⟩
   ·unfold isK at hk
    split at hk
    ·cases hk
    ·obtain⟨p,us,c0,hc,rfl,cl,jc,_⟩:=zkO_ oc
     obtain⟨e0,_⟩:=cl;subst e0;exact⟨_,(sk.trans o1.2.2.1) _ _ (jc.l _ _ zy_)⟩
    ·cases hk
   ·have key:=zea_ (K:=K) (E:=E) (ws:=ws) g0 [.x k,.x v] env F0 H0 σ F1 h H1 (λvs H2=>rSetd u vs H2 Q) ao o1
    rw[show X.dens K G E ([A.x k,.x v].map A.t)=tCons (k.den K G E) (tCons (v.den K G E) tNil)from rfl]at key
    refine key ?_;cases eg:evG G env [.x k,.x v]with
    |no=>rw[eg]at fin;exact fin
    |ex x e'=>rw[eg]at fin;exact fin
    |ok gs e'=>
     rw[eg]at fin;intro vs F2 hA hE h2 H2 bA ag j ay sm;exact zlR_ u vs H2 Q E (zdv_ bA (zjM_ ev vp sm ag) j ay fin)
end
inductive Bm where
 |append |extend
noncomputable def Bm.ty:Bm->String
 |_ => "list"
def Bm.r:Bm->V->List V->Hp->VK->Prop
 |.append=>rAppend |.extend=>rExtend
def Bm.f:Bm->Fn
 |.append=>appendF |.extend=>extendF
theorem bm_ok {K:l4}(o:Bm):BmOk K o.r o.f:=by
 cases o with
 |append=>exact ziG_
 |extend=>exact ziv_
inductive Y where
 |pu (x:X)|mv (i:Nat)
 |call (f:Fn) (x:Str) (as:List A)
 |bm (o:Bm) (p:Pt) (as:List A)
 |bin (o:Bo) (y z:Y)
 |sd (p:Pt) (k v:X)
 |not (y:Y)
inductive S where
 |asg (i:Nat) (y:Y)
 |setF (p:Pt) (n:Str) (x:X)|setI (p:Pt) (k x:X)
 |ex (y:Y)|ret (y:Y)|retN
 |if_ (c:X) (a b:List S)|ifY (c:Y) (a b:List S)|ifL (c:X) (a b:List S)
 |for_ (ik:Ik) (src:List X) (tg:Tg) (b:List S)
 |while_ (c:X) (b:List S)
 |pass |cont |never
 |try0 (b bE:List S)
 |view (is:List Nat) (s:S)
section
variable (K:mT)(G:Gi)
def Y.den (E:XK):Y->TE
 |.pu x=>x.den K G E
 |.mv i=>mVar i
 |.call f _ as=>tCall (CtG K f) [] E (X.dens K G E (as.map A.t))
 |.bm o p as=>(match as with |[]=>tBM0 K o.ty o.r (p.x.den K G E)|_=>tBM K o.ty o.r (p.x.den K G E) (X.dens K G E (as.map A.t)))
 |.bin o y z=>tOp (o.r K) (y.den E) (z.den E)
 |.sd p k v=>mSetD (p.x.den K G E) (k.den K G E) (v.den K G E)
 |.not y=>mNotV (y.den E)
mutual
def S.den (E:XK):S->TS
 |.asg i y=>tAsg (y.den K G E) (gName i)
 |.setF p n x=>tSFldA K G.cs (p.x.den K G E) (x.den K G E) n
 |.setI p k x=>tAsg (x.den K G E) (gSub (p.x.den K G E) (k.den K G E) rSetA)
 |.ex y=>tDrop (y.den K G E)
 |.ret y=>tRet (y.den K G E)
 |.retN=>tRetN
 |.if_ c a b=>mIfS (mTest (c.den K G E)) (S.dens E a) (S.dens E b)
 |.ifY c a b=>mIfS (mTest (c.den K G E)) (S.dens E a) (S.dens E b)
 |.ifL c a b=>mIfS (mTrL K (c.den K G E)) (S.dens E a) (S.dens E b)
 |.for_ ik src tg b=>tFor (ik.t K (X.dens K G E src)) (tgT K tg) (S.dens E b)
 |.while_ c b=>tWhile (mTest (c.den K G E)) (S.dens E b)
 |.pass=>tNext
 |.cont=>tCont
 |.never=>tNever
 |.try0 b bE=>tSeq (S.dens E0 b) (S.dens E bE)
 |.view _ s=>s.den E
def S.dens (E:XK):List S->TS
 |[]=>tNext
 |s::ss=>tSeq (s.den E) (S.dens E ss)
end
end
def trD (d:D):Mo Bool:=match d.un with |.bl b=>.ok b |.nd .lst xs=>.ok (!xs.isEmpty)|_=>.no
theorem zpG_ {K:l4}{E:XK}{env:Env}{t:TE}{r:Mo D}(h:EvX K t E env r):EvT K (mTrL K t) E (Lof K env) (r.bind trD):=by
 intro σ F H Q hL hs q;refine ex_v h σ F H _ hL hs (q.bind.imp λa F1 H1 x1 k1 v1 aH=>?_)
 have ha:=DR.un aH;unfold trD at k1;split at k1
 ·rename_i b e;rw[e]at ha;cases ha.bl;exact k1.ok x1.2.1
 ·rename_i xs e;rw[e]at ha;obtain⟨p,us,rfl,n,r⟩:=ha.nd
  refine⟨us,.of (x1.2.1 _ _ n),?_⟩;rw[show us.isEmpty=xs.isEmpty from by have:=r.len;cases us<;>cases xs<;>first |rfl |cases this]
  exact k1.ok x1.2.1
 ·exact k1.elim
def moTo {α:Type}(m:Mo α)(e:Env):Mr Env α:=match m with |.ok a=>.ok a e |.ex c=>.ex c e |.no=>.no
def noEx (r:Mr Env Fl):Mr Env Fl:=match r with |.ex _ _=>.no |r=>r
section
variable (G:Gi)
def mvM (env:Env)(i:Nat):Mr Env D:=match env[i]? with |some (uD d)=>.ok d (env.set i uE)|_=>.no
def Y.ev:Y->Env->Mr Env D
 |.pu x,env=>stX G env x
 |.mv i,env=>mvM env i
 |.call f _ as,env=>(evG G env as).bind (callG f)
 |.bm o p as,env=>lentG G env p as (isK o.ty) λq gs e=>callG o.f (.l q::gs) e
 |.bin o y z,env=>(y.ev env).bind λd e=>(z.ev e).bind λd2 e2=>moTo (o.f d d2) e2
 |.sd p k v,env=>lentG G env p [.x k,.x v] (isK "dict") λq gs e=>callG setdF (.l q::gs) e
 |.not y,env=>(y.ev env).bind λd e=>moTo ((blD d).bind λb=>.ok (.bl (!b))) e
def vwE (env:Env):Env:=env.map λo=>o.map D.vw
def deadAt (env:Env)(is:List Nat):Bool:=is.all λi=>match env[i]? with |some uE=>uF |_=>uG
def liveB:Env->Env->Bool
 |[],[]=>uF
 |o::e,o'::e'=>(!o.isSome ||o'.isSome) && liveB e e'
 |_,_=>uG
def viewM (is:List Nat)(env:Env)(r:Mr Env Fl):Mr Env Fl:=if deadAt env is=uF then(match r with
 |.ok .nx e=>if liveB env e=uF then .ok .nx env else .no
 |.ok (.rt d) _=>if d.flat?.isSome=uF then .ok (.rt d) env else .no
 |_=>.no)else .no
noncomputable def pnV (is:List Nat)(i:Nat):Bool:=!is.contains i
mutual
def S.run:(Nat->Bool)->S->Env->Mr Env Fl
 |pn,.asg i y,env=>asgM pn i (y.ev G env)
 |pn,.setF p n x,env=>setFM G n p x env
 |pn,.setI p k x,env=>setIM G p k x env
 |pn,.ex y,env=>dropM (y.ev G env)
 |pn,.ret y,env=>retM (y.ev G env)
 |pn,.retN,env=>.ok (.rt .non) env
 |pn,.if_ c a b,env=>ifM env ((c.ev G env).bind blD) (S.runs pn a env) (S.runs pn b env)
 |pn,.ifY c a b,env=>(c.ev G env).bind λd e=>ifM e (blD d) (S.runs pn a e) (S.runs pn b e)
 |pn,.ifL c a b,env=>ifM env ((c.ev G env).bind trD) (S.runs pn a env) (S.runs pn b env)
 |pn,.for_ ik src tg b,env=>forS pn ik tg (evG G env (src.map .x)) (λe=>S.runs pn b e)
 |pn,.while_ c b,env=>whileM (λe=>(c.ev G e).bind blD) (λe=>S.runs pn b e) fuelW env
 |pn,.pass,env=>.ok .nx env
 |pn,.cont,env=>.ok .ct env
 |pn,.never,env=>.no
 |pn,.view is s,env=>viewM is env (S.run (pnV is) s (vwE env))
 |pn,.try0 b bE,env=>seqM (noEx (S.runs pn b env)) λe=>S.runs pn bE e
def S.runs:(Nat->Bool)->List S->Env->Mr Env Fl
 |pn,[],env=>.ok .nx env
 |pn,s::ss,env=>seqM (S.run pn s env) (λe=>S.runs pn ss e)
end
end
section
variable {K:mT}{E:XK}{F F0 H0 h H:Hp}{env:Env}{t:TE}{ws:Ws}{G:Gi}{i:Nat}{pn:Nat->Bool}{s1 s2:TS}
theorem ee_mv:EvE K (mVar i) E ws env (mvM env i):=by
 intro F0 H0 σ F h H Q hL ok fin;unfold mvM at fin;split at fin
 ·rename_i d hd
  obtain⟨o,k1,k2,e1,j,pp,g⟩:=Hold.atG hL (zaw_ hd);obtain⟨v,rfl,hv,od⟩:=zcs_ pp;unfold mVar;rw[e1];refine fin v F k1 k2 h H ?_ od j ok;have:=g (slotW K (ws i) uE) (uD v) F (λ_=>uE) k2 (Same.refl _) trivial (no_l _ λ_=>rfl)
  rw[zdr_,zdD_ e1]at this;exact this
 ·exact fin.elim
theorem zjL_ {m:Mo D}{e:Env}{σ:L2.St}{Q:VK}{hE:Hp}(hL:Hold (LofW K ws e) σ F hE)(ok:Okk F0 H0 F hE H)(fin:FinE K (moTo m e) E ws σ F0 H0 Q):After K m E F H (OwnK (owD K) H Q):=by
 cases m with
 |no=>exact fin
 |ex c=>exact λF' H' x=>Tell.up ok.1.2.2.1 (fin F' hE H' (hL.mono x.1) (ok.cold x))
 |ok d=>
  intro F' H' x v hn fresh dj s o;have o1:=ok.cold x;have dh:Dj hn hE:=zk6_ ok.2.2.1 fresh;refine fin v F' hn hE (un hn hE) H' (hL.mono x.1) o (zaQ_ dh) ⟨o1.1,λp=>?_,λp o e=>?_,λp z=>?_,λp xs z=>?_⟩
  ·unfold un
   cases z:hn p with
   |some w=>
    rcases dj p with y |y
    ·exact .inl y
    ·rw[y]at z;cases z
   |none=>exact o1.2.1 p
  ·unfold un at e
   cases z:hn p with
   |some w=>rw[z]at e;cases e;exact s _ _ z
   |none=>rw[z]at e;exact o1.2.2.1 _ _ e
  ·unfold un at z
   cases y:hn p with
   |some w=>exact ok.1.2.2.1.free (fresh p (by rw[y];exact sN _))
   |none=>rw[y]at z;exact ok.2.2.2.1 p z
  ·unfold un at z
   cases y:hn p with
   |some w=>rw[y]at z;cases z;exact OD.notup o p xs y
   |none=>rw[y]at z;exact ok.2.2.2.2 p xs z
theorem zie_ {d:D}{v:V}{hr hE:Hp}(od:OD K d v F hr)(j:Jn hr hE h)(ok:Okk F0 H0 F h H):DR K d v (un F hr)/\Same F (un F hr)/\Okk F0 H0 (un F hr) hE H:=by
 obtain⟨a,b,c⟩:=zjJ_ (ds:=[d]) (vs:=[v]) (by unfold ODs;exact⟨v,[],hr,λ_=>uE,rfl,no_r _ λ_=>rfl,od,zdz_⟩) j ok
 obtain⟨v',e,r⟩:=DRs.one a;cases e;exact⟨r,b,c⟩
theorem zpb_ {o:Bo}{r:Mr Env D}{g:Env->Mr Env D}{t2:TE}(h1:EvE K t E ws env r)(h2:∀e,EvE K t2 E ws e (g e)):EvE K (tOp (o.r K) t t2) E ws env (r.bind λd e=>(g e).bind λd2 e2=>moTo (o.f d d2) e2):=by
 intro F0 H0 σ F h H Q hL ok fin;refine h1 F0 H0 σ F h H _ hL ok ?_;cases r with
 |no=>exact fin
 |ex c e=>exact fin
 |ok d e=>
  intro v F1 hr hE h' H1 ao od j au;obtain⟨dr,sF,ay⟩:=zie_ od j au;have fB:Jn (λ_=>uE) hE hE:=no_l _ λ_=>rfl
  have ob:=zha_ ay fB;have hJ:∀x:Hp,un (λ_=>uE) x=x:=λx=>rfl
  refine h2 e _ (less H1 hE) σ _ hE H1 _ (ao.mono sF) ob ?_;dsimp only[Mr.bind]at fin;cases e2:g e with
  |no=>rw[e2]at fin;exact fin
  |ex c e'=>
   rw[e2]at fin;intro F2 h2 H2 bA bc;obtain⟨s,_,ok4⟩:=zbc_ ay fB bc;rw[hJ]at ok4;exact zcE_ ay fB (fin F2 h2 H2 bA ok4)
  |ok d2 e'=>
   rw[e2]at fin;intro v2 F2 dC eW b9 H2 bA dq j2 bc;obtain⟨s,_,ok4⟩:=zbc_ ay fB bc;rw[hJ]at ok4;obtain⟨km,sF2,ok5⟩:=zie_ dq j2 ok4;exact zkc_ o d d2 v v2 _ H2 Q ok5.1.2.1 (dr.mono (s.trans sF2)) km (zjL_ (bA.mono sF2) ok5 fin)
theorem zp0_ {r:Mr Env D}(h1:EvE K t E ws env r):EvE K (mNotV t) E ws env (r.bind λd e=>moTo ((blD d).bind λb=>.ok (.bl (!b))) e):=by
 intro F0 H0 σ F h H Q hL ok fin;refine h1 F0 H0 σ F h H _ hL ok ?_;cases r with
 |no=>exact fin
 |ex c e=>exact fin
 |ok d e=>
  intro v F1 hr hE h' H1 ao od j au;obtain⟨dr,sF,ay⟩:=zie_ od j au;have k1:=zjL_ (m:=(blD d).bind λb=>.ok (.bl (!b))) (ao.mono sF) ay fin
  have ha:=DR.un dr;unfold blD at k1;split at k1
  ·rename_i b e2;rw[e2]at ha;cases ha.bl;exact gotB k1 ay.1.2.1
  ·exact k1.elim
theorem Y.sound (g0:G.Ok K):∀(y:Y) (env:Env),EvE K (y.den K G E) E ws env (y.ev G env)
 |.pu x,env=>ee_x g0 x
 |.mv i,env=>ee_mv
 |.call f x as,env=>zmB_ (zea_ g0 as env)
 |.bm o p as,env=>by
  cases as with
  |nil=>exact zrH_ g0 (bm_ok o) p
  |cons a as=>exact ee_bm g0 (bm_ok o) p (a::as)
 |.bin o y z,env=>zpb_ (Y.sound g0 y env) λe=>Y.sound g0 z e
 |.sd p k v,env=>znN_ g0 p k v
 |.not y,env=>zp0_ (Y.sound g0 y env)
theorem zqa_ {r:Mr Env D}{g1 g2:Env->Mr Env Fl}(he:EvE K t E ws env r)(d5:∀e,EvS K s1 E ws e (g1 e))(aO:∀e,EvS K s2 E ws e (g2 e)):EvS K (mIfS (mTest t) s1 s2) E ws env (r.bind λd e=>ifM e (blD d) (g1 e) (g2 e)):=by
 intro F0 H0 σ F h H N hL ok fin;refine he F0 H0 σ F h H _ hL ok ?_;cases r with
 |no=>exact fin
 |ex c e=>exact λF h H hL ok=>fin σ F h H hL ok
 |ok d e=>
  intro v F1 hr hE h1 H1 ao od j au;obtain⟨dr,sF,ay⟩:=zie_ od j au;have ha:=DR.un dr;have fin:FinS K (ifM e (blD d) (g1 e) (g2 e)) E ws F0 H0 N:=fin;unfold blD at fin;split at fin
  ·rename_i b e2
   rw[e2]at ha;cases ha.bl;refine⟨λz=>?_,λz=>?_⟩
   ·subst z;exact d5 e F0 H0 σ _ hE H1 N (ao.mono sF) ay fin
   ·subst z;exact aO e F0 H0 σ _ hE H1 N (ao.mono sF) ay fin
  ·exact fin.elim
theorem zoT_ {t:TS}{r:Mr Env Fl}(h:EvS K t E0 ws env r):EvS K t E ws env (noEx r):=by
 intro F0 H0 σ F h0 H N hL ok fin;refine h F0 H0 σ F h0 H N hL ok ?_;cases r with
 |no=>exact fin
 |ex c e=>exact fin.elim
 |ok a e=>cases a<;>exact fin
theorem map_x (as:List X):(as.map A.x).map A.t=as:=by
 rw[mC];exact(pE λa _=>rfl).trans (uu _)
theorem zji_:∀{L:List Sl}{σ:L2.St}{F:Hp},L.length=σ.length->(∀(i:Nat) s,L[i]?=uD s->s.P (σ[i]?.join) F λ_=>uE)->Hold L σ F λ_=>uE
 |[],[],_,_,_=>trivial
 |s::L,o::σ,F,hl,h=>⟨λ_=>uE,λ_=>uE,no_l _ λ_=>rfl,h 0 s rfl,zji_ (by simpa using hl) λi s e=>h (i+1) s (by simpa using e)⟩
 |[],_::_,_,hl,_=>by cases hl
 |_::_,[],_,hl,_=>by cases hl
theorem zhU_:∀{L:List Sl}{σ af:L2.St}{F h:Hp},Hold L σ F h->af.length=σ.length->(∀(i:Nat) s,L[i]?=uD s->s=.dead\/af[i]?=σ[i]?)->Hold L af F h
 |[],[],[],_,_,_,_,_=>trivial
 |s::L,o::σ,o'::af,F,h,q_,hl,hs=>by
  obtain⟨h1,h2,j,p,q⟩:=q_;refine⟨h1,h2,j,?_,zhU_ q (by simpa using hl) λi s e=>by simpa using hs (i+1) s (by simpa using e)⟩
  rcases hs 0 s rfl with z |z
  ·subst z;trivial
  ·simp at z;rw[z];exact p
 |[],[],_::_,_,_,_,hl,_=>by cases hl
 |_::_,_::_,[],_,_,_,hl,_=>by cases hl
 |[],_::_,_,_,_,q,_,_=>q.elim
 |_::_,[],_,_,_,q,_,_=>q.elim
theorem zgf_:∀{e e':Env},liveB e e'=uF->e.length=e'.length
 |[],[],_=>rfl
 |_::e,_::e',h=>by unfold liveB at h;rw[k9]at h;rw[ly,ly,zgf_ h.2]
 |[],_::_,h=>by cases h
 |_::_,[],h=>by cases h
theorem zjB_:∀{e e':Env}{i:Nat}{d:D},liveB e e'=uF->e[i]?=uD (uD d)->∃d',e'[i]?=uD (uD d')
 |o::e,o'::e',0,d,h,z=>by
  unfold liveB at h;rw[k9]at h;simp at z;subst z;cases o' with
  |none=>cases h.1
  |some d'=>exact⟨d',rfl⟩
 |o::e,o'::e',i+1,d,h,z=>by
  unfold liveB at h;rw[k9]at h;obtain⟨d',q⟩:=zjB_ h.2 (by simpa using z)
  exact⟨d',by simpa using q⟩
 |[],_,_,_,_,z=>by simp at z
 |_::_,[],_,_,h,_=>by cases h
theorem znm_ {t:TS}{is:List Nat}{r:Mr Env Fl}(hv:∀dF:Ws,(∀i,pnV is i=uG->dF i=uE)->EvS K t E dF (vwE env) r):EvS K t E ws env (viewM is env r):=by
 intro F0 H0 σ F h H N hL ok fin;unfold viewM at fin;split at fin
 rotate_left
 ·exact fin.elim
 rename_i dd
 have hlen:env.length=σ.length:=by have:=hL.len;rw[pK]at this;exact this
 have dead:∀i,is.contains i=uF->∀d,env[i]?≠uD (uD d):=λi hi d z=>by
  unfold deadAt at dd;have:=mL.mp dd i (by simpa using hi)
  rw[z]at this;cases this
 refine hv (λi=>if is.contains i=uF then uE else σ[i]?.join) (λi hi=>by unfold pnV at hi;rw[if_pos (by simpa using hi)]) (un F h) H σ (un F h) (λ_=>uE) H N (zji_ (by rw[pK];unfold vwE;rw[k8];exact hlen) λi s e=>?_) ⟨Ext.refl ok.thaw,λp=>.inr rfl,(λp o z=>by cases z),λp z=>absurd rfl z,(λp xs z=>by cases z)⟩ ?_
 ·rw [oA]at e
  unfold vwE at e;rw[lB]at e;cases z:env[i]? with
  |none=>rw[z]at e;cases e
  |some o=>
   rw[z]at e;cases o with
   |none=>cases e;trivial
   |some d=>
    cases e;obtain⟨o,k1,k2,e1,j,pp,g⟩:=Hold.atG hL (zaw_ z);obtain⟨v,rfl,dY,od⟩:=zcs_ pp;have hf:=zcf_ (hL.froz ok.2.1) i (slot K (uD d)) (by show(env.map (slot K))[i]?=_;rw[lB,z];rfl)
    rw[e1]at hf ⊢;obtain⟨v',e2,dr⟩:=hf;cases e2;have fS:OD K d.vw v (un F h) λ_=>uE:=OD.vw (h:=λ_=>uE) (λ_=>rfl) dr
    have nc:is.contains i=uG:=by
     cases y:is.contains i with
     |false=>rfl
     |true=>exact absurd z (dead i y d)
    show(slotW K (if is.contains i=uF then uE else σ[i]?.join) (uD d.vw)).P (uD v) (un F h) λ_=>uE
    rw[nc,if_neg (by decide),e1]
    exact⟨v,rfl,rfl,fS⟩
 ·cases r with
  |no=>exact fin
  |ex c e=>exact fin.elim
  |ok o e=>
   cases o with
   |ct=>exact fin.elim
   |bk=>exact fin.elim
   |nx=>
    intro af F' h' H' bB aM;have fin:FinS K (if liveB env e=uF then .ok .nx env else .no) E ws F0 H0 N:=fin
    split at fin
    rotate_left
    ·exact fin.elim
    rename_i lv
    obtain⟨o1,hsF,ht⟩:=ok.back aM.1;have d_:e.length=af.length:=by have:=bB.len;rw[pK]at this;exact this
    refine fin af (less F' h) h H' (zhU_ (hL.mono hsF) (by rw[<- hlen,<- d_,zgf_ lv]) λi s z=>?_) o1
    rw[oA]at z;cases y:env[i]? with
    |none=>rw[y]at z;cases z
    |some o=>
     rw[y]at z;cases o with
     |none=>cases z;exact .inl rfl
     |some d=>
      right;obtain⟨d',y'⟩:=zjB_ lv y;obtain⟨o,k1,k2,e1,j,pp,g⟩:=Hold.atG hL (zaw_ y);obtain⟨v,rfl,dY,od⟩:=zcs_ pp;obtain⟨o2,k3,k4,e2,j2,pp2,g2⟩:=Hold.atG bB (zaw_ y');have nc:is.contains i=uG:=by
       cases y:is.contains i with
       |false=>rfl
       |true=>exact absurd (by assumption) (dead i y d)
      rw[nc,if_neg (by decide),e1]at pp2
      obtain⟨v2,rfl,q2⟩:=pp2;rw[e1,e2,q2.1]
   |rt d=>
    intro v af F' hr h2 h' H' bB od j aM;have fin:FinS K (if d.flat?.isSome=uF then .ok (.rt d) env else .no) E ws F0 H0 N:=fin
    split at fin
    rotate_left
    ·exact fin.elim
    rename_i fl
    obtain⟨o1,hsF,ht⟩:=ok.back aM.1;have dq:OD K d v (less F' h) λ_=>uE:=by
     cases d with
     |non=>unfold OD at od ⊢;exact⟨λ_=>rfl,by have:=od.2;unfold DR at this ⊢;exact this⟩
     |bl=>unfold OD at od ⊢;exact⟨λ_=>rfl,by have:=od.2;unfold DR at this ⊢;exact this⟩
     |int=>unfold OD at od ⊢;exact⟨λ_=>rfl,by have:=od.2;unfold DR at this ⊢;exact this⟩
     |str=>unfold OD at od ⊢;exact⟨λ_=>rfl,by have:=od.2;unfold DR at this ⊢;exact this⟩
     |_=>cases fl
    exact fin v σ (less F' h) (λ_=>uE) h h H' (hL.mono hsF) dq (no_l _ λ_=>rfl) o1
mutual
theorem S.sound (g0:G.Ok K):∀(s:S) {pn:Nat->Bool}{ws:Ws}(hp:∀i,pn i=uG->ws i=uE) {E:XK}(env:Env),EvS K (s.den K G E) E ws env (S.run G pn s env)
 |.asg i y,pn,ws,hp,E,env=>zrj_ hp (Y.sound g0 y env)
 |.setF p n x,pn,ws,hp,E,env=>zoH_ g0 n p x
 |.setI p k x,pn,ws,hp,E,env=>zoZ_ g0 p k x
 |.ex y,pn,ws,hp,E,env=>znJ_ (Y.sound g0 y env)
 |.ret y,pn,ws,hp,E,env=>zrs_ (Y.sound g0 y env)
 |.retN,pn,ws,hp,E,env=>znC_
 |.if_ c a b,pn,ws,hp,E,env=>es_if (zfy_ (X.sound g0 c E env)) (S.sounds g0 a hp env) (S.sounds g0 b hp env)
 |.ifL c a b,pn,ws,hp,E,env=>es_if (zpG_ (X.sound g0 c E env)) (S.sounds g0 a hp env) (S.sounds g0 b hp env)
 |.ifY c a b,pn,ws,hp,E,env=>zqa_ (Y.sound g0 c env) (λe=>S.sounds g0 a hp e) λe=>S.sounds g0 b hp e
 |.for_ ik src tg b,pn,ws,hp,E,env=>by
  have:=zea_ (K:=K) (E:=E) (ws:=ws) g0 (src.map .x) env;rw[map_x]at this;exact zra_ hp this λe=>S.sounds g0 b hp e
 |.while_ c b,pn,ws,hp,E,env=>zk9_ fuelW (λe=>zfy_ (X.sound g0 c E e)) λe=>S.sounds g0 b hp e
 |.pass,pn,ws,hp,E,env=>zj1_
 |.cont,pn,ws,hp,E,env=>zm8_
 |.never,pn,ws,hp,E,env=>λF0 H0 σ F h H N hL ok fin=>fin.elim
 |.view is s,pn,ws,hp,E,env=>znm_ (λdF jy=>S.sound g0 s jy (vwE env))
 |.try0 b bE,pn,ws,hp,E,env=>zoG_ (zoT_ (S.sounds g0 b hp env)) λe=>S.sounds g0 bE hp e
theorem S.sounds (g0:G.Ok K):∀(ss:List S) {pn:Nat->Bool}{ws:Ws}(hp:∀i,pn i=uG->ws i=uE) {E:XK}(env:Env),EvS K (S.dens K G E ss) E ws env (S.runs G pn ss env)
 |[],pn,ws,hp,E,env=>zj1_
 |s::ss,pn,ws,hp,E,env=>zoG_ (S.sound g0 s hp env) λe=>S.sounds g0 ss hp e
end
end
def pins (ds:List D)(i:Nat):Bool:=match ds[i]? with |some d=>!d.cold |none=>uG
def outs:List D->Env->List D
 |[],_=>[]
 |d::ds,o::env=>(if d.cold then d else match o with |some d'=>d' |none=>.gone)::outs ds env
 |d::ds,[]=>(if d.cold then d else .gone)::outs ds []
def fnOf (G:Gi)(n m:Nat)(body:List S):Fn:=λds=>if ds.length=n then(match S.runs G (pins ds) body (ds.map uD++lF m uE)with
 |.ok (.rt d) env=>.ok d (outs ds env)
 |.ok .nx env=>.ok .non (outs ds env)
 |.ex c env=>.ex c (outs ds env)
 |_=>.no)else .no
section
variable {K:mT}{E:XK}{F F' h H:Hp}{env:Env}{ws:Ws}{G:Gi}{σ:L2.St}
theorem zco_ {o:Option D}:LofW K ws (o::env)=slotW K (ws 0) o::LofW K (λi=>ws (i+1)) env:=by
 show List.mapIdx _ _=_
 rw[List.mapIdx_cons]
theorem zdS_:∀(m:Nat) {ws:Ws}{h:Hp},Hold (LofW K ws (lF m uE)) (lF m uE) F h
 |0,ws,h=>trivial
 |m+1,ws,h=>by
  rw[mH,mH,zco_];exact⟨λ_=>uE,h,no_l _ λ_=>rfl,trivial,zdS_ m⟩
def wsOf (ds:List D)(vs:List V):Ws:=λi=>if pins ds i then vs[i]? else uE
theorem zfq_ (m:Nat):∀{ds:List D}{vs:List V}{h:Hp}{ws:Ws},(∀(i:Nat) u,ws i=uD u->vs[i]?=uD u)->ODs K ds vs F h->Hold (LofW K ws (ds.map uD++lF m uE)) (vs.map uD++lF m uE) F h
 |[],_,h,ws,hw,q=>by
  unfold ODs at q;rw[q.1];exact zdS_ m
 |d::ds,_,h,ws,hw,q=>by
  unfold ODs at q;obtain⟨v,vs,h1,h2,rfl,j,o,r⟩:=q;rw[lq,lq,l6,l6,zco_];exact⟨h1,h2,j,zdk_ (λu z=>by have:=hw 0 u z;simpa using this) o,zfq_ m (λi u z=>by have:=hw (i+1) u z;simpa using this) r⟩
theorem zbN_:∀{ds:List D}{vs:List V}{env:Env}{σ:L2.St}{h h0:Hp}{ws:Ws},(∀(i:Nat) d,ds[i]?=uD d->d.cold=uG->ws i=vs[i]?)->ODs K ds vs F h0->Same F F'->Hold (LofW K ws env) σ F' h->∃h3,Same h3 h/\ODs K (outs ds env) vs F' h3
 |[],_,env,σ,h,h0,ws,hw,q,s,hL=>by
  unfold ODs at q;rw[q.1];refine⟨λ_=>uE,(λp o z=>by cases z),?_⟩
  unfold outs ODs;exact⟨rfl,λ_=>rfl⟩
 |d::ds,_,[],σ,h,h0,ws,hw,q,s,hL=>by
  unfold ODs at q;obtain⟨v,vs,h1,h2,rfl,j,od,r⟩:=q;obtain⟨h3,s3,os⟩:=zbN_ (env:=[]) (σ:=σ) (h:=h) (ws:=λi=>ws (i+1)) (λi d' e c=>by have:=hw (i+1) d' (by simpa using e) c;simpa using this) r s hL
  refine⟨h3,s3,?_⟩;unfold outs ODs;refine⟨v,vs,λ_=>uE,h3,rfl,no_l _ λ_=>rfl,?_,os⟩
  by_cases hc:d.cold=uF
  ·rw[if_pos hc]
   have:=od.mono s;obtain⟨n,_⟩:=OD.cold hc this;have e:h1=λ_=>uE:=funext n
   rw[e]at this;exact this
  ·rw[if_neg hc];exact zbk_ λ_=>rfl
 |d::ds,_,o::env,[],h,h0,ws,hw,q,s,hL=>by rw[zco_]at hL;exact hL.elim
 |d::ds,_,o::env,x::σ,h,h0,ws,hw,q,s,hL=>by
  unfold ODs at q;obtain⟨v,vs,h1,h2,rfl,j,od,r⟩:=q;rw[zco_]at hL;obtain⟨k1,k2,jk,pp,hL⟩:=hL;obtain⟨h3,s3,os⟩:=zbN_ (ws:=λi=>ws (i+1)) (λi d' e c=>by have:=hw (i+1) d' (by simpa using e) c;simpa using this) r s hL
  have d1:∀{m:Hp},Same m k1->Dj m h3:=λ{m} sm p=>by
   rcases jk.dj p with z |z
   ·exact .inl (sm.free z)
   ·exact .inr (s3.free z)
  have key:∃c m,Same m k1/\(if d.cold then d else match o with |some d'=>d' |none=>.gone)=c/\OD K c v F' m:=by
   by_cases hc:d.cold=uF
   ·obtain⟨_,dr⟩:=OD.cold hc od
    refine⟨d,λ_=>uE,(λp o z=>by cases z),by rw[if_pos hc],?_⟩
    have:=od.mono s;obtain⟨n,_⟩:=OD.cold hc this;have e:h1=λ_=>uE:=funext n
    rw[e]at this;exact this
   ·have hf:d.cold=uG:=by simpa using hc
    rw[if_neg hc];cases o with
    |none=>exact⟨.gone,λ_=>uE,(λp o z=>by cases z),rfl,zbk_ λ_=>rfl⟩
    |some d'=>
     obtain⟨v',e1,e2,o'⟩:=zcs_ pp;have:ws 0=uD v:=by have:=hw 0 d (by simp) hf;simpa using this
     have:=e2 v this;subst this;exact⟨d',k1,Same.refl _,rfl,o'⟩
  obtain⟨c,m,sm,ec,oc⟩:=key;refine⟨un m h3,λp o z=>?_,?_⟩
  ·unfold un at z
   cases y:m p with
   |some w=>rw[y]at z;cases z;exact jk.l _ _ (sm _ _ y)
   |none=>rw[y]at z;exact jk.r _ _ (s3 _ _ z)
  ·unfold outs;rw[ec]
   unfold ODs;exact⟨v,vs,m,h3,rfl,zaQ_ (d1 sm),oc,os⟩
theorem zmn_ (g0:G.Ok K){N:List Str}{n m:Nat}{body:List S}(hN:N.length=n+m):
  ∀vs H Q E,CtG K (fnOf G n m body) vs H Q E->S.dens K G E body {nx:=λ_ H'=>Q .non H',rt:=Q} (L2.start N vs) H:=by
 rintro vs H Q E ⟨F,h,ds,hs,dj,sh,os,fin⟩;have nt:=zfH_ os;have ln:=ODs.len os;unfold fnOf at fin;split at fin
 rotate_left
 ·exact fin.elim
 rename_i hd
 have cP:L2.start N vs=vs.map uD++lF m uE:=by unfold L2.start;rw[hN,<- ln,hd,Nat.add_sub_cancel_left]
 rw[cP];have hw:∀(i:Nat) u,wsOf ds vs i=uD u->vs[i]?=uD u:=λi u z=>by
  unfold wsOf at z;split at z
  ·exact z
  ·cases z
 have hp:∀i,pins ds i=uG->wsOf ds vs i=uE:=λi z=>by unfold wsOf;rw[z];rfl
 have gd:∀(i:Nat) d,ds[i]?=uD d->d.cold=uG->wsOf ds vs i=vs[i]?:=λi d e c=>by
  unfold wsOf pins;rw[e];simp[c]
 refine S.sounds g0 body hp _ F (less H h) _ F h H _ (zfq_ m hw os) (zcc_ hs dj sh nt) ?_;cases e:S.runs G (pins ds) body (ds.map uD++lF m uE)with
 |no=>rw[e]at fin;exact fin
 |ex c env=>
  rw[e]at fin;intro σ F' h' H' hL ok;obtain⟨h3,s3,aF⟩:=zbN_ gd os ok.1.1 hL;exact fin F' h3 H' (zdY_ ok s3) aF
 |ok o env=>
  rw[e]at fin;cases o with
  |nx=>
   intro σ F' h' H' hL ok;obtain⟨h3,s3,aF⟩:=zbN_ gd os ok.1.1 hL;exact fin .non F' h3 H' (λ_=>uE) h3 (zdY_ ok s3) (no_l _ λ_=>rfl) (zdw_ λ_=>rfl) aF
  |rt d=>
   intro v σ F' hr h2 h' H' hL od j ok;obtain⟨h3,s3,aF⟩:=zbN_ gd os ok.1.1 hL;have dd:Dj hr h3:=λp=>by rcases j.dj p with z |z;exact .inl z;exact .inr (s3.free z)
   refine fin v F' (un hr h3) H' hr h3 (zdY_ ok λp o z=>?_) (zaQ_ dd) od aF
   unfold un at z;cases y:hr p with
   |some w=>rw[y]at z;cases z;exact j.l _ _ y
   |none=>rw[y]at z;exact j.r _ _ (s3 _ _ z)
  |ct=>exact fin.elim
  |bk=>exact fin.elim
end
noncomputable def noStar (e:lN):Bool:=e.ctorIdx != 22
def noSup:lN->Bool
 |.Call (.Name x _) [] [] _=>x != "super" |_=>uF
noncomputable def noIf (e:lN):Bool:=e.ctorIdx != 5
noncomputable def noSl (e:lN):Bool:=e.ctorIdx != 26
noncomputable def noSet (e:lN):Bool:=e.ctorIdx != 7
noncomputable def noCmp (e:lN):Bool:=e.ctorIdx<8 ||10<e.ctorIdx
section
variable {env:PySem.Env}{e o:lN}{es:List lN}{pos:Pos}{m:Str}
theorem zs_ (h:noStar e=uF):l7 (e::es) env=(uG,eval e env)::l7 es env:=by
 cases e<;>first |rfl |cases h
theorem zbr_:∀{es:List lN},es.all noStar=uF->l7 es env=es.map λe=>(uG,eval e env)
 |[],_=>rfl
 |e::es,h=>by
  rw[mV,k9]at h;rw[zs_ h.1,zbr_ h.2];rfl
theorem za5_ (h:es.all noStar=uF):((oP pos (l7 es env)).any λx=>x.1)=uG:=by
 rw[zbr_ h];unfold oP;simp
theorem zky_ (h:es.all noStar=uF):((oP pos (l7 es env)).all λx=>!x.1)=uF:=by
 rw[zbr_ h];unfold oP;simp
theorem zgC_ (h:noSup o=uF):attributeBase o m env (eval o env)=eval o env:=by
 cases o with
 |Call f es ks q=>cases f with
  |Name id p=>cases es with
   |nil=>cases ks with
    |nil=>
     have h:(id != "super")=uF:=h;unfold attributeBase;dsimp only;rw[h];rfl
    |cons=>rfl
   |cons=>rfl
  |_=>rfl
 |_=>rfl
theorem zlV_ (h:es.all noStar=uF)(hl:es.length<29):methodCallForm (es.length+([]:List Keyword).length) (oP pos (l7 es env)) (rp pos (qf [] env))=uF:=by
 unfold methodCallForm;rw[zky_ h];simp[qf,rp];lia
theorem zox_ (h:es.all noStar=uF)(hl:es.length<29):((((oP pos (l7 es env)).all λx=>!x.fst) && (rp pos (qf [] env)).all λx=>x.fst.isSome) && decide ((es.length+([]:List Keyword).length+if([]:List Keyword).isEmpty=uF then 0 else 1)<30))=uF:=zlV_ h hl
theorem zkD_ (h:noSl e=uF):PlainIx e:=λ_ _=>by
 cases e<;>first |rfl |cases h
theorem zbe_ {op:CmpOp}(h:noSet e=uF):behindInMarks op e=uG:=by
 cases e<;>first |rfl |cases h
theorem zds_ (h:noSet e=uF)(x:aT):foldedSetIterable e env x=pure x:=by
 cases e<;>first |rfl |cases h
theorem zgc_ (h:noCmp e=uF)(t:Option lN)(n:Nat):swapsWith e t n env=pure uG:=by
 cases e<;>first |rfl |cases h
theorem zhM_ {o i:lN}{p:Pos}:swappedStores [.Subscript o i p] e env=pure uE:=by
 unfold swappedStores;rfl
noncomputable def plainT:lN->Bool
 |.UnaryOp .Not ..=>uG |.BoolOp ..=>uG |.IfExp ..=>uG |.Compare ..=>uG |_=>uF
theorem zem_ (h:plainT e=uF)(whole:Sem aT):isTrue e env whole=(do let v <- whole;standAt e.pos;holding [v] (truthy v)):=by
 cases e with
 |UnaryOp op a p=>cases op<;>first |rfl |cases h
 |_=>first |rfl |cases h
end
structure Ck where
 N:List Str
 nm:List (Str×og)
structure Ft where
 bs:List Str
 at_:List Str
 gc:List (Str×V)
structure Ft.Ok (T:Ft)(G:Gi)(K:l4)(mg:Str->Option aT):Prop where
 bs:∀x∈T.bs,mg x=uE
 cls:∀c∈G.cs,Cls K (gA K c)
 at_:∀c∈G.cs,∀a∈T.at_,NoAttr K (gA K c) a
 gc:∀q∈T.gc,Gc mg q.1 q.2
 kt:∀q∈G.kt,Gc mg q.1 (.ref (gA K q.1))
inductive Fc where
 |call (f:Fn) (x:Str)|make (f:Fn) (c:Str)
def Fc.H (P:lY)(w:mq)(K:l4)(mg:Str->Option aT)(base:Heap)(k:Nat):Fc->Prop
 |.call f x=>∃ps j,j<=k/\Gd P w K mg base CX0 j x ps (CtG K f)
 |.make f c=>∃ps j,j+1<=k/\Gk P w K mg base CX0 j c (gA K c) ps (CtG K f)
mutual
def X.fcs:X->List Fc
 |.v _=>[]|.k _=>[]|.g _ _=>[]|.gt _ _=>[]
 |.bin _ a b=>a.fcs++b.fcs
 |.ch _ _ a b c=>a.fcs++(b.fcs++c.fcs)
 |.and a b=>a.fcs++b.fcs
 |.or a b=>a.fcs++b.fcs
 |.not a=>a.fcs
 |.neg a=>a.fcs
 |.ifx c a b=>c.fcs++(a.fcs++b.fcs)
 |.sl a lo hi=>a.fcs++(X.fcsO lo++X.fcsO hi)
 |.tup as=>X.fcss as
 |.lst as=>X.fcss as
 |.fld a _=>a.fcs
 |.call f x as=>.call f x::X.fcss as
 |.bf _ as=>X.fcss as
 |.comp _ _ _ src _ c e=>X.fcss src++(X.fcsO c++e.fcs)
 |.make f c as=>.make f c::X.fcss as
 |.rv a=>a.fcs
 |.lr a b=>a.fcs++b.fcs
 |.isa a _=>a.fcs
 |.dct0=>[]
 |.ch3 _ _ _ a b c d=>(a.fcs++b.fcs)++(c.fcs++d.fcs)
def X.fcss:List X->List Fc
 |[]=>[]
 |a::as=>a.fcs++X.fcss as
def X.fcsO:Option X->List Fc
 |none=>[]
 |some a=>a.fcs
end
noncomputable def visB:Option og->Bool
 |some .local=>uF |some .cell=>uF |some .free=>uF |_=>uG
noncomputable def locB:Option og->Bool
 |some .local=>uF |some .cell=>uF |_=>uG
def nmOk (x:Str):Bool:=!(x=="__debug__") && !(x=="__classdict__")
def glB (c:Ck)(x:Str):Bool:=c.nm.lookup x==uD .globalImplicit && !(x=="__debug__")
def constB (d:D):Const->Bool
 |.int i=>(match d with |.int j=>i == j |_=>uG)
 |.bool b=>(match d with |.bl c=>b == c |_=>uG)
 |.none=>(match d with |.non=>uF |_=>uG)
 |.str x=>(match d with |.str l=>x.cps.toList == l |_=>uG)
 |_=>uG
noncomputable def Bo.op:Bo->Option Operator
 |.add=>uD .Add |.sub=>uD .Sub |.mul=>uD .Mult |.mod=>uD .Mod |.div=>uD .FloorDiv |_=>uE
noncomputable def Bo.cmp:Bo->Option CmpOp
 |.lt=>uD .Lt |.le=>uD .LtE |.gt=>uD .Gt |.ge=>uD .GtE |.eq=>uD .Eq |.ne=>uD .NotEq |.is=>uD .Is |.isn=>uD .IsNot |.inn=>uD .In |.nin=>uD .NotIn |_=>uE
noncomputable def Bo.isIx:Bo->Bool
 |.ix=>uF |_=>uG
noncomputable def Bf.nm:Bf->Str
 |.len => "len" |.list => "list" |.min => "min" |.all => "all" |.sorted => "sorted"
noncomputable def tyNm:String->Option Str
 |"int" => uD "int" |"bool" => uD "bool" |"str" => uD "str" |"list" => uD "list" |"tuple" => uD "tuple" |"dict" => uD "dict" |_=>uE
def relab (nm names:List (Str×og)):List (Str×og):=names.map λ(n,k)=>if k == .free && nm.lookup n == uD .cell then(n,.cell)else(n,k)
def tgB (c:Ck)(i:Nat):lN->Bool
 |.Name x _=>c.N[i]? == uD x && locB (c.nm.lookup x)
 |_=>uG
def tgsB (c:Ck):List Nat->List lN->Bool
 |[],[]=>uF
 |i::is,e::es=>tgB c i e && tgsB c is es
 |_,_=>uG
def tgOk (c:Ck)(g:Tg)(e:lN):Bool:=match g.tup,e with
 |true,.Tuple es _ _=>tgsB c g.is es
 |false,e=>g.is.length == 1 && tgB c (g.is.headD 0) e
 |_,_=>uG
def locals? (c:Ck)(g:Tg):Bool:=g.is.all λi=>match c.N[i]? with |some x=>c.nm.lookup x == uD .local |none=>uG
def scB (c:Ck)(sc:Scope)(lv:List Str)(fr:List (Str×Nat)):Bool:=
 sc.names.all (λy=>y.2 != .cell && (y.2 != .free ||c.nm.lookup y.1 == uD .cell ||c.nm.lookup y.1 == uD .free) && (y.2 != .local ||sc.names.lookup y.1 == uD .local)) && sc.kind == .function &&
 fr.all (λq=>c.N[q.2]? == uD q.1 && sc.names.contains (q.1,NameKind.free) && (c.nm.lookup q.1 == uD .cell ||c.nm.lookup q.1 == uD .free) && ((relab c.nm sc.names).lookup q.1 == uD .cell ||(relab c.nm sc.names).lookup q.1 == uD .free)) && decide (cN lv fr).Nodup
def kN:lN->(Str->Bool)->Bool
 |.Name x _,k=>k x |_,_=>uG
def kC:lN->(lN->List lN->Pos->Bool)->Bool
 |.Call f es [] q,k=>k f es q |_,_=>uG
noncomputable def kA:lN->(lN->Str->Pos->Bool)->Bool
 |.Attribute o m p,k=>k o m p |_,_=>uG
def kB:lN->(lN->Operator->lN->Bool)->Bool
 |.BinOp l o r _,k=>k l o r |_,_=>uG
def kM:lN->(lN->List CmpOp->List lN->Bool)->Bool
 |.Compare l o r _,k=>k l o r |_,_=>uG
def kS:lN->(lN->lN->Bool)->Bool
 |.Subscript l r _,k=>k l r |_,_=>uG
def kL:lN->(Option lN->Option lN->Option lN->Bool)->Bool
 |.Slice a b c _,k=>k a b c |_,_=>uG
def kU:lN->(UnaryOp->lN->Bool)->Bool
 |.UnaryOp o x _,k=>k o x |_,_=>uG
def kI:lN->(lN->lN->lN->Bool)->Bool
 |.IfExp t x y _,k=>k t x y |_,_=>uG
noncomputable def kT:lN->(List lN->Bool)->Bool
 |.Tuple es _ _,k=>k es |_,_=>uG
noncomputable def kW:lN->(List lN->Bool)->Bool
 |.List es _,k=>k es |_,_=>uG
def kK:lN->(Const->Bool)->Bool
 |.Constant c _ _,k=>k c |_,_=>uG
def kG:lN->(lN->List Comprehension->Scope->Bool)->Bool
 |.ListComp x g s _,k=>k x g s |_,_=>uG
noncomputable def kDi:lN->Bool
 |.Dict [] [] _=>uF |_=>uG
def kO (o:BoolOp):lN->(lN->lN->Bool->Bool)->Bool
 |.BoolOp o' (x::y::l) p,k=>o' == o && k x (bif l.isEmpty then y else .BoolOp o (y::l) p) l.isEmpty |_,_=>uG
noncomputable def kc:List lN->(lN->List lN->Bool)->Bool
 |a::l,k=>k a l |[],_=>uG
section
variable {e:lN}{C:lN->Prop}
theorem kN_ {k}(h:kN e k=uF)(H:∀x p,k x=uF->C (.Name x p)):C e:=by cases e<;>first |exact H _ _ h |cases h
theorem kC_ {k}(h:kC e k=uF)(H:∀f es q,k f es q=uF->C (.Call f es [] q)):C e:=by
 cases e with
 |Call f es ks q=>cases ks with |nil=>exact H _ _ _ h |cons=>cases h
 |_=>cases h
theorem kA_ {k}(h:kA e k=uF)(H:∀o m p,k o m p=uF->C (.Attribute o m p)):C e:=by cases e<;>first |exact H _ _ _ h |cases h
theorem kB_ {k}(h:kB e k=uF)(H:∀l o r p,k l o r=uF->C (.BinOp l o r p)):C e:=by cases e<;>first |exact H _ _ _ _ h |cases h
theorem kM_ {k}(h:kM e k=uF)(H:∀l o r p,k l o r=uF->C (.Compare l o r p)):C e:=by cases e<;>first |exact H _ _ _ _ h |cases h
theorem kS_ {k}(h:kS e k=uF)(H:∀l r p,k l r=uF->C (.Subscript l r p)):C e:=by cases e<;>first |exact H _ _ _ h |cases h
theorem kL_ {k}(h:kL e k=uF)(H:∀a b c p,k a b c=uF->C (.Slice a b c p)):C e:=by cases e<;>first |exact H _ _ _ _ h |cases h
theorem kU_ {k}(h:kU e k=uF)(H:∀o x p,k o x=uF->C (.UnaryOp o x p)):C e:=by cases e<;>first |exact H _ _ _ h |cases h
theorem kI_ {k}(h:kI e k=uF)(H:∀t x y p,k t x y=uF->C (.IfExp t x y p)):C e:=by cases e<;>first |exact H _ _ _ _ h |cases h
theorem kT_ {k}(h:kT e k=uF)(H:∀es n p,k es=uF->C (.Tuple es n p)):C e:=by cases e<;>first |exact H _ _ _ h |cases h
theorem kW_ {k}(h:kW e k=uF)(H:∀es p,k es=uF->C (.List es p)):C e:=by cases e<;>first |exact H _ _ h |cases h
theorem kK_ {k}(h:kK e k=uF)(H:∀c n p,k c=uF->C (.Constant c n p)):C e:=by cases e<;>first |exact H _ _ _ h |cases h
theorem kG_ {k}(h:kG e k=uF)(H:∀x g s p,k x g s=uF->C (.ListComp x g s p)):C e:=by cases e<;>first |exact H _ _ _ _ h |cases h
theorem kDi_ (h:kDi e=uF)(H:∀p,C (.Dict [] [] p)):C e:=by
 unfold kDi at h;split at h
 ·exact H _
 ·cases h
theorem kc_ {l:List lN}{C:List lN->Prop}{k}(h:kc l k=uF)(H:∀a t,k a t=uF->C (a::t)):C l:=by cases l with |nil=>cases h |cons a t=>exact H a t h
theorem kO_ {o:BoolOp}{k}(h:kO o e k=uF)(H:∀x y l p,k x (bif l.isEmpty then y else .BoolOp o (y::l) p) l.isEmpty=uF->C (.BoolOp o (x::y::l) p)):C e:=by
 cases e with
 |BoolOp o' es p=>
  cases es with
  |nil=>cases h
  |cons x es=>cases es with
   |nil=>cases h
   |cons y l=>have h:=mj.mp h;cases eq_of_beq h.1;exact H x y l p h.2
 |_=>cases h
end
noncomputable def Ik.isAny:Ik->Bool
 |.any=>uF |_=>uG
noncomputable def Ik.nm:Ik->Str
 |.en => "enumerate" |.rev => "reversed" |.zip => "zip" |_ => "range"
noncomputable def Ik.ar:Ik->Nat
 |.r2=>2 |.zip=>2 |.r3=>3 |_=>1
noncomputable def Ik.tp:Ik->Bool
 |.en=>uF |.zip=>uF |_=>uG
section
variable (T:Ft)(G:Gi)
def srcB (c:Ck)(ik:Ik)(tg:Tg)(it:lN)(k1:Bool)(ks:List lN->Bool):Bool:=bif ik.isAny then k1 else
 kC it λf es _=>kN f λy=>y == ik.nm && es.length == ik.ar && glB c y && T.bs.contains y && (tg.tup || !ik.tp) && ks es
mutual
def chkE:Ck->X->lN->Bool
 |c,.v i,e=>kN e λx=>c.N[i]? == uD x && visB (c.nm.lookup x) && nmOk x
 |c,.k d,e=>kK e (constB d)
 |c,.g x d,e=>kN e λy=>x == y && glB c x && (d.flat?).any λv=>T.gc.contains (x,v)
 |c,.gt x ls,e=>kN e λy=>x == y && glB c x && G.kt.any (λq=>q.1 == x)
 | c,.bin o a b,e=>kB e (λl op r=>o.op == uD op && chkE c a l && chkE c b r)||
   (kM e (λl os rs=>kc rs λr t=>os.map uD == [o.cmp] && t.isEmpty && noSet r && chkE c a l && chkE c b r)||
   kS e (λl r=>o.isIx && noSl r && chkE c a l && chkE c b r))
 |c,.ch o o' a b d,e=>kM e λl os rs=>kc rs λr t=>kc t λr' t'=>os.map uD == [o.cmp,o'.cmp] && t'.isEmpty && noSet r' && chkE c a l && chkE c b r && chkE c d r'
 |c,.and a b,e=>kO .And e λx y l=>noIf x && (!l ||noIf y) && chkE c a x && chkE c b y
 |c,.or a b,e=>kO .Or e λx y l=>noIf x && (!l ||noIf y) && chkE c a x && chkE c b y
 |c,.not a,e=>kU e λo x=>o == .Not && noIf x && chkE c a x
 |c,.neg a,e=>kU e λo x=>o == .USub && chkE c a x
 |c,.ifx d a b,e=>kI e λt x y=>noIf t && chkE c d t && chkE c a x && chkE c b y
 |c,.sl a lo hi,e=>kS e λl r=>kL r λl1 l2 l3=>l3.isNone && chkE c a l && chkO c lo l1 && chkO c hi l2
 |c,.tup as,e=>kT e (chkEs c as)
 |c,.lst as,e=>kW e (chkEs c as)
 |c,.fld a f,e=>kA e λo f' _=>f == f' && T.at_.contains f && noSup o && chkE c a o
 |c,.call f x as,e=>kC e λy es _=>kN y λy=>x == y && glB c x && chkEs c as es
 |c,.bf o as,e=>kC e λy es _=>kN y λy=>y == o.nm && glB c y && T.bs.contains y && !as.isEmpty && chkEs c as es
 | c,.comp lv fr ik src tg d x,e=>kG e λelt gs sc=>gs.length == 1 && gs.all λq=>q.is_async == 0 && scB c sc lv fr && tgOk ⟨cN lv fr,relab c.nm sc.names⟩ tg q.target && locals? ⟨cN lv fr,relab c.nm sc.names⟩ tg && noSet q.iter &&
   srcB T c ik tg q.iter (chk1 c src q.iter) (λes=>chkEs c src es) && chkIf ⟨cN lv fr,relab c.nm sc.names⟩ d q.ifs && chkE ⟨cN lv fr,relab c.nm sc.names⟩ x elt
 |c,.make f k as,e=>kC e λy es _=>kN y λy=>k == y && glB c y && chkEs c as es
 |c,.rv a,e=>kS e λl r=>kL r λa1 a2 a3=>a1.isNone && a2.isNone && a3.any (λu=>kU u λo w=>o == .USub && kK w λz=>z == .int 1) && chkE c a l
 |c,.lr a b,e=>kC e λy es _=>kN y λy=>kc es λr t=>kC r λz xs _=>kN z λz=>kc xs λx t1=>kc t1 λw t2=>y=="list" && z=="range" && t.isEmpty && t2.isEmpty && glB c y && glB c z && T.bs.contains y && T.bs.contains z && noStar x && noStar w && chkE c a x && chkE c b w
 |c,.isa a n,e=>kC e λy es _=>kN y λy=>kc es λx t=>kc t λz t2=>kN z λz=>y=="isinstance" && t2.isEmpty && glB c y && T.bs.contains y && noStar x && tyNm n==uD z && glB c z && T.bs.contains z && chkE c a x
 |_,.dct0,e=>kDi e
 |c,.ch3 o o' aD a b d f,e=>kM e λl os rs=>kc rs λr t=>kc t λr' t'=>kc t' λaU cI=>os.map uD == [o.cmp,o'.cmp,aD.cmp] && cI.isEmpty && noSet aU && chkE c a l && chkE c b r && chkE c d r' && chkE c f aU
def chk1:Ck->List X->lN->Bool
 |_,[],_=>uG
 |c,a::as,e=>as.isEmpty && chkE c a e
def chkEs:Ck->List X->List lN->Bool
 |_,[],es=>es.isEmpty
 |c,a::as,es=>kc es λe es=>noStar e && chkE c a e && chkEs c as es
def chkO:Ck->Option X->Option lN->Bool
 |_,uE,e=>e.isNone
 |c,uD a,e=>e.any (chkE c a)
def chkIf:Ck->Option X->List lN->Bool
 |_,uE,es=>es.isEmpty
 |c,uD a,es=>kc es λe t=>t.isEmpty && noIf e && chkE c a e
end
end
theorem zkI_ {X:Cx}{E:XK}:Passes CX0 X E:=λ_ _ _ _ _ _ _ h=>h.elim
structure Cg (Z:Cx)(c:Ck)(k:Nat)(E:XK):Prop where
 N:Z.N=c.N
 nm:Z.env.scope.names=c.nm
 kind:Z.env.scope.kind=.function
 calm:Z.calm=uF
 room:Room k Z.A
 pass:Passes CX0 Z E
 cells:∀x,(c.nm.lookup x=uD .cell\/c.nm.lookup x=uD .free)->∃a,Z.env.cells.lookup x=uD a
section
variable {Z:Cx}{c:Ck}{k:Nat}{E:XK}{x:Str}{e:lN}{es:List lN}{t:TE}{ta:TA}{p pos:Pos}
theorem Cg.units (g:Cg Z c k E):Z.A.units+60<cLine:=by have:=g.room.un;lia
theorem zqk_ (g:Cg Z c k E)(h:visB (c.nm.lookup x)=uF):Vis Z.env.scope x:=by
 unfold Vis;rw[g.nm]
 revert h;cases c.nm.lookup x with
 |none=>intro h;cases h
 |some k=>cases k<;>intro h<;>first |exact .inl rfl |exact .inr (.inl rfl)|exact .inr (.inr rfl)|cases h
theorem zoC_ (g:Cg Z c k E)(h:locB (c.nm.lookup x)=uF):L2.Loc Z.env.scope x:=by
 unfold L2.Loc;rw[g.nm]
 revert h;cases c.nm.lookup x with
 |none=>intro h;cases h
 |some k=>cases k<;>intro h<;>first |exact .inl rfl |exact .inr rfl |cases h
theorem zh6_ (g:Cg Z c k E)(h:glB c x=uF):Gl Z x/\(x==("__debug__":Str))=uG:=by
 unfold glB at h;rw[k9]at h;refine⟨?_,by simpa using h.2⟩
 unfold Gl qt;rw[g.nm];exact eq_of_beq h.1
structure Rd (Z:Cx)(e:lN)(t:TE):Prop where
 pe:PE Z e t
 pt:noIf e=uF->PT Z e (mTest t)
 pw:∀op vs p,e=.BoolOp op vs p->PW Z e (mTest t)
theorem zk_ (h:PE Z e t)(hp:plainT e=uF):Rd Z e t:=⟨h,λ_=>zoo_ h (zem_ hp),λop vs p z=>by rw[z]at hp;cases hp⟩
theorem rd_if (h:PE Z e t)(hp:noIf e=uG):Rd Z e t:=⟨h,(λz=>by rw[hp]at z;cases z),(λop vs p z=>by rw[z]at hp;cases hp)⟩
theorem zoO_ {a b:lN}{t1 t2:TE}{op:CmpOp}{r:R2}(ho:OpR Z (lX op) r)(ha:Rd Z a t1)(hb:Rd Z b t2)(hs:noSet b=uF):Rd Z (.Compare a [op] [b] pos) (tOp r t1 t2):=
 ⟨znF_ ho ha.pe hb.pe (zbe_ hs),λ_=>zl2_ ho ha.pe hb.pe (zbe_ hs),λ_ _ _ z=>by cases z⟩
theorem zk8_ {a b d:lN}{t1 t2 t3:TE}{op aC:CmpOp}{r r':R2}(ho:OpR Z (lX op) r)(aI:OpR Z (lX aC) r')(ha:Rd Z a t1)(hb:Rd Z b t2)(hd:Rd Z d t3)(hs:noSet d=uF):Rd Z (.Compare a [op,aC] [b,d] pos) (mChain r r' t1 t2 t3):=
 ⟨ziY_ ho aI ha.pe hb.pe hd.pe (zbe_ hs),λ_=>ziU_ ho aI ha.pe hb.pe hd.pe (zbe_ hs),λ_ _ _ z=>by cases z⟩
theorem zgo_ (t1 t2:TE):mTest (mAndV t1 t2)=mAnd (mTest t1) (mTest t2):=by
 funext σ H Q;exact congrArg (t1 σ H) (funext λx=>funext λH1=>by cases x<;>rfl)
theorem zjx_ (t1 t2:TE):mTest (mOrV t1 t2)=mOr (mTest t1) (mTest t2):=by
 funext σ H Q;exact congrArg (t1 σ H) (funext λx=>funext λH1=>by cases x<;>rfl)
theorem zkU_ (t1:TE):mTest (mNotV t1)=tNot (mTest t1):=by
 funext σ H Q;exact congrArg (t1 σ H) (funext λx=>funext λH1=>by cases x<;>rfl)
theorem zfb_ {op:BoolOp}{vs:List lN}(h:PE Z (.BoolOp op vs pos) t)(h2:PW Z (.BoolOp op vs pos) (mTest t)):Rd Z (.BoolOp op vs pos) t:=⟨h,λ_=>h2.pt,λ_ _ _ _=>h2⟩
theorem zoS_ {a b:lN}{t1 t2:TE}(ha:Rd Z a t1)(hb:Rd Z b t2)(na:noIf a=uF)(nb:noIf b=uF):Rd Z (.BoolOp .And [a,b] pos) (mAndV t1 t2):=
 zfb_ (zjI_ ha.pe (znp_ hb.pe)) (by rw[zgo_];exact zjG_ (ha.pt na) (zlN_ (hb.pt nb)))
theorem zrm_ {a b d:lN}{r:List lN}{t1 t2:TE}(ha:Rd Z a t1)(hb:Rd Z (.BoolOp .And (b::d::r) pos) t2)(na:noIf a=uF):Rd Z (.BoolOp .And (a::b::d::r) pos) (mAndV t1 t2):=
 zfb_ (zjI_ ha.pe hb.pe) (by rw[zgo_];exact zjG_ (ha.pt na) (hb.pw _ _ _ rfl))
theorem zpA_ {a b:lN}{t1 t2:TE}(ha:Rd Z a t1)(hb:Rd Z b t2)(na:noIf a=uF)(nb:noIf b=uF):Rd Z (.BoolOp .Or [a,b] pos) (mOrV t1 t2):=
 zfb_ (zo1_ ha.pe (znp_ hb.pe)) (by rw[zjx_];exact zns_ (ha.pt na) (zpt_ (hb.pt nb)))
theorem rd_or {a b d:lN}{r:List lN}{t1 t2:TE}(ha:Rd Z a t1)(hb:Rd Z (.BoolOp .Or (b::d::r) pos) t2)(na:noIf a=uF):Rd Z (.BoolOp .Or (a::b::d::r) pos) (mOrV t1 t2):=
 zfb_ (zo1_ ha.pe hb.pe) (by rw[zjx_];exact zns_ (ha.pt na) (hb.pw _ _ _ rfl))
theorem znO_ {a:lN}{t1:TE}(ha:Rd Z a t1)(na:noIf a=uF):Rd Z (.UnaryOp .Not a pos) (mNotV t1):=
 ⟨znn_ ha.pe,λ_=>by rw[zkU_];exact zps_ (ha.pt na),λ_ _ _ z=>by cases z⟩
theorem bo_op {b:Bo}{op:Operator}(h:b.op=uD op):OpR Z (nR op) (b.r Z.K):=by
 cases b<;>cases h
 ·exact znZ_
 ·exact znz_
 ·exact zoX_
 ·exact zmU_
 ·exact znY_
theorem zeT_ (hu:Z.A.units+60<cLine){b:Bo}{op:CmpOp}(h:b.cmp=uD op):OpR Z (lX op) (b.r Z.K):=by
 cases b<;>cases h
 ·exact zqB_
 ·exact zqv_
 ·exact zrG_
 ·exact zrl_
 ·exact zph_ hu
 ·exact zqL_ hu
 ·exact zpd_
 ·exact zi5_
 ·exact zqA_ hu
 ·exact zh9_ hu
theorem zkf_ {d:D}{kc:Const}{j:Nat}(h:constB d kc=uF):PE Z (.Constant kc j pos) (tC (d.flat?.getD .non)):=by
 cases kc with
 |int i=>cases d<;>first |(cases eq_of_beq h;exact zmI_)|cases h
 |bool b=>cases d<;>first |(cases eq_of_beq h;exact pe_bl)|cases h
 |none=>cases d<;>first |exact zpF_ |cases h
 |str z=>cases d<;>first |(have h:=eq_of_beq h;subst h;exact zrz_ (by cases z;rfl))|cases h
 |_=>cases h
theorem zkY_ {sp:Sp}{ps:List Str}{j:Nat}(F:Gd Z.prog Z.w Z.K Z.mg Z.base CX0 j x ps sp)(hr:Room j Z.A)(hx:Passes CX0 Z E)(ha:PA Z es ta)(hs:es.all noStar=uF)(hg:Gl Z x)(hd:(x==("__debug__":Str))=uG)(h0:es=[]->ta=tNil):
  PE Z (.Call (.Name x p) es [] pos) (tCall sp [] E ta):=by
 cases es with
 |nil=>
  rw[h0 rfl];obtain⟨f,fd,F,hm,hk,hb⟩:=F;exact zkw_ F hr hg hm hk hb .nil hx hd
 |cons e es=>
  rw[mV,k9]at hs;obtain⟨f,fd,F,hm,hk,hb⟩:=F;exact zm1_ F hr hg hm hk hb .nil hx ha hd (zs_ hs.1) (za5_ hs.2)
theorem zkB_ {sp:Sp}{ps:List Str}{j:Nat}{C:lu}(F:Gk Z.prog Z.w Z.K Z.mg Z.base CX0 j x C ps sp)(hr:Room (j+1) Z.A)(hx:Passes CX0 Z E)(ha:PA Z es ta)(hs:es.all noStar=uF)(hg:Gl Z x)(hd:(x==("__debug__":Str))=uG)(h0:es=[]->ta=tNil):
  PE Z (.Call (.Name x p) es [] pos) (tMake C sp [] E ta):=by
 cases es with
 |nil=>
  rw[h0 rfl];obtain⟨f,fd,F,M,hm,hb⟩:=F;exact zkm_ M F hr hg hm hb .nil hx hd
 |cons e es=>
  rw[mV,k9]at hs;obtain⟨f,fd,F,M,hm,hb⟩:=F;exact zl5_ M F hr hg hm hb .nil hx ha hd (zs_ hs.1) (za5_ hs.2)
theorem bf_pe (g:Cg Z c k E){b:Bf}(hm:Z.mg b.nm=uE)(ha:PA Z es ta)(hs:es.all noStar=uF)(h0:es≠[])(hg:glB c b.nm=uF):PE Z (.Call (.Name b.nm p) es [] pos) (tCB (b.r Z.K) ta):=by
 obtain⟨g1,g2⟩:=zh6_ g hg;cases es with
 |nil=>exact absurd rfl h0
 |cons e es=>
  rw[mV,k9]at hs;have s1:=zs_ (env:=Z.env) (es:=es) hs.1;have s2:=za5_ (env:=Z.env) (pos:=pos) hs.2;cases b with
  |len=>exact zl7_ ziH_ hm ha g1 rfl (by decide) g2 s1 s2
  |list=>exact zqD_ "list" (zhc_ g.calm) hm ha g1 rfl (by decide) g2 s1 s2
  |min=>exact zl7_ (ziz_ g.calm) hm ha g1 rfl (by decide) g2 s1 s2
  |all=>exact zl7_ (zh7_ g.calm) hm ha g1 rfl (by decide) g2 s1 s2
  |sorted=>exact zl7_ (zg9_ g.calm) hm ha g1 rfl (by decide) g2 s1 s2
variable {T:Ft}{G:Gi}{o:lN}
theorem zcw_ {cells:List (Str×lu)}:∀(names:List (Str×og)) (acc:List (Str×lu)),(∀y∈names,y.2=.free->∃a,cells.lookup y.1=uD a)->∃cl,closeL cells names acc=uD cl
 |[],acc,_=>⟨acc,rfl⟩
 |(n,k)::r,acc,h=>by
  unfold closeL;split
  ·rename_i hk
   obtain⟨a,ha⟩:=h (n,k) (lR ..) (eq_of_beq hk);rw[show cells.lookup n=uD a from ha]
   exact zcw_ r _ λy hy=>h y (lQ _ hy)
  ·exact zcw_ r _ λy hy=>h y (lQ _ hy)
theorem zeE_ (g:Cg Z c k E){sc:Scope}:(relabel sc Z.env).names=relab c.nm sc.names:=by
 unfold relabel relab qt;rw[g.kind,g.nm];simp
theorem zhg_ (g:Cg Z c k E){sc:Scope}{lv:List Str}{fr:List (Str×Nat)}(h:scB c sc lv fr=uF):
  (cN lv fr).Nodup/\∃cl,CScope Z sc cl lv fr/\∀C fp s2 H2,Cg (cxComp Z sc cl C (cN lv fr) fp s2 H2) ⟨cN lv fr,relab c.nm sc.names⟩ k E0:=by
 unfold scB at h;rw[k9,k9,k9]at h;obtain⟨⟨⟨h1,h2⟩,h3⟩,h4⟩:=h;have h1:=mL.mp h1;have h3:=mL.mp h3;have h2:sc.kind=.function:=eq_of_beq h2;have hc:∀y∈sc.names,y.2≠.cell:=λy hy=>by have:=h1 y hy;simp at this;exact this.1.1
 have hf:∀y∈sc.names,y.2=.free->c.nm.lookup y.1=uD .cell\/c.nm.lookup y.1=uD .free:=λy hy z=>by
  have:=h1 y hy;simp[z]at this;exact this
 obtain⟨cl,bp⟩:=zcw_ (cells:=Z.env.cells) sc.names [] λy hy z=>g.cells _ (hf y hy z)
 refine⟨of_decide_eq_true h4,cl,⟨bp,hc,h2,λz hz e=>?_,λq hq=>?_⟩,λC fp s2 H2=>⟨rfl,zeE_ g,h2,g.calm,g.room,zkI_,λx hx=>?_⟩⟩
 ·have:=h1 z hz;simp[e]at this;exact this
 ·have:=h3 q hq
  simp at this;obtain⟨⟨⟨a,b⟩,d⟩,e⟩:=this;unfold qt;rw[g.N,g.nm,zeE_ g];exact⟨a,b,d,e⟩
 ·have hx:(relabel sc Z.env).names.lookup x=uD .cell\/(relabel sc Z.env).names.lookup x=uD .free:=by rw[zeE_ g];exact hx
  have hm:(x,NameKind.free)∈sc.names:=hx.elim (λz=>zbb_ z (.inl rfl) hc) λz=>zbb_ z (.inr rfl) hc
  exact zbR_ sc.names [] cl bp x (.inl hm)
theorem zlg_ (g:Cg Z c k E)(nd:c.N.Nodup){i:Nat}(hf:(∀x,Z.fn x=uF)\/∀x,c.N[i]?=uD x->c.nm.lookup x=uD .local)(h:tgB c i e=uF):PG Z e (gName i)/\∃x p,e=.Name x p:=by
 unfold tgB at h;split at h
 ·rename_i x p
  rw[k9]at h;have hi:c.N[i]?=uD x:=eq_of_beq h.1;exact⟨znQ_ (by rw[g.N];exact nd) (by rw[g.N];exact hi) (zoC_ g h.2) (hf.elim (λz=>.inl (z x)) λz=>.inr (by rw[g.nm];exact z x hi)),x,p,rfl⟩
 ·cases h
theorem zom_ (g:Cg Z c k E)(nd:c.N.Nodup):∀{is:List Nat}{es:List lN},((∀x,Z.fn x=uF)\/∀i∈is,∀x,c.N[i]?=uD x->c.nm.lookup x=uD .local)->tgsB c is es=uF->PGs Z es (tgS is)/\(nD es Z.env).length=is.length/\(nD es Z.env).findIdx? (·.1)=uE
 |[],[],_,_=>⟨zkV_,rfl,rfl⟩
 |[],_::_,_,h=>by cases h
 |_::_,[],_,h=>by cases h
 |i::is,e::es,hf,h=>by
  unfold tgsB at h;rw[k9]at h;obtain⟨h1,x,p,rfl⟩:=zlg_ g nd (i:=i) (hf.imp id λz=>z i (lR ..)) h.1
  obtain⟨a,b,d⟩:=zom_ g nd (is:=is) (es:=es) (hf.imp id λz j hj=>z j (lQ _ hj)) h.2
  refine⟨ziF_ h1 a,?_,?_⟩
  ·show(nD es Z.env).length+1=_;rw[b];rfl
  ·show List.findIdx? _ ((uG,_)::nD es Z.env)=uE
   rw[List.findIdx?_cons];simp[d]
theorem tg_ok (g:Cg Z c k E)(nd:c.N.Nodup){tg:Tg}(hf:(∀x,Z.fn x=uF)\/locals? c tg=uF)(h:tgOk c tg e=uF):PG Z e (tgT Z.K tg):=by
 have hf:(∀x,Z.fn x=uF)\/∀i∈tg.is,∀x,c.N[i]?=uD x->c.nm.lookup x=uD .local:=hf.imp id λz i hi x hx=>by
  have:=mL.mp z i hi;rw[hx]at this;exact eq_of_beq this
 unfold tgOk at h;unfold tgT;split at h
 ·rename_i es _ _ ht
  rw[if_pos ht];obtain⟨a,b,d⟩:=zom_ g nd hf h;exact zlM_ g.calm a b d
 ·rename_i ht
  rw[if_neg (by rw[ht];decide)]
  rw[k9]at h;refine(zlg_ g nd (hf.imp id λz=>?_) h.2).1
  have hl:=eq_of_beq h.1;cases hi:tg.is with
  |nil=>rw[hi]at hl;cases hl
  |cons i r=>rw[hi]at z;exact z i (lR ..)
 ·cases h
theorem zok_ {f:Str}(hc:∀d∈G.cs,Cls Z.K (gA Z.K d)/\NoAttr Z.K (gA Z.K d) f)(he:PE Z e t)(hb:noSup e=uF):PE Z (.Attribute e f pos) (tFld Z.K G.cs t f):=by
 intro pins s σ H Q I h;obtain⟨d,hd,h⟩:=h;exact zme_ (hc d hd).1 (hc d hd).2 he (zgC_ hb) pins s σ H Q I h
theorem zpr_ (g:Cg Z c k E){n:String}{y:Str}{p1 p2:Pos}(ha:PE Z e t)(he:noStar e=uF)(h1:glB c "isinstance"=uF)(h2:Z.mg "isinstance"=uE)(hn:tyNm n=uD y)(h3:glB c y=uF)(h4:Z.mg y=uE):PE Z (.Call (.Name "isinstance" p1) [e,.Name y p2] [] pos) (tCB (mIsaV Z.K) (tCons t (tCons (tC (.ty n)) tNil))):=by
 obtain⟨g1,g2⟩:=zh6_ g h1;obtain⟨g3,g4⟩:=zh6_ g h3;have hb:nS y=uD (.type n)/\y ≠ "__name__":=by
  unfold tyNm at hn;split at hn<;>cases hn<;>exact⟨rfl,by decide⟩
 exact zl7_ zi0_ h2 (zdb_ ha (zdb_ (pe_ty n h4 g3 hb.1 hb.2 g4) zih_ (zs_ rfl)) (zs_ he)) g1 rfl (by decide) g2 (zs_ he) (za5_ rfl)
theorem zhJ_ {a b c d:lN}{ta tb tc td:TE}{op aC aB:CmpOp}{r r' aU:R2}(ho:OpR Z (lX op) r)(aI:OpR Z (lX aC) r')(bz:OpR Z (lX aB) aU)(ha:PE Z a ta)(hb:PE Z b tb)(hc:PE Z c tc)(hd:PE Z d td)
  (hm:lastMarks [op,aC,aB] [b,c,d]=uG):PT Z (.Compare a [op,aC,aB] [b,c,d] pos) (mTest (mChain3 r r' aU ta tb tc td)):=by
 intro pins s σ H Q I h;refine isTrue_chain (thn (ha pins s σ H _ I h) λv s1 ⟨x,H1,I1,r1,q1⟩=>test_link (thn (hb pins s1 σ H1 _ I1 q1) λu s2 ⟨y,H2,I2,r2,q2⟩=>
  thn (ho pins s2 σ H2 x y v u _ I2 r1 r2 q2) λd s3 ⟨z,H3,I3,r3,q3⟩=>?_)) hm
 cases z with
 |bl k=>
  cases r3;refine mr ?_;cases k with
  |false=>exact ite_ff ⟨H3,I3,q3.2 rfl⟩
  |true=>
   refine ite_tt (test_link (thn (hc pins s3 σ H3 _ I3 (q3.1 rfl)) λw' s4 ⟨z',H4,I4,r4,q4⟩=>thn (aI pins s4 σ H4 y z' u w' _ I4 r2 r4 q4) λd' s5 ab=>?_))
   obtain⟨z2,H5,I5,r5,q5⟩:=ab;cases z2 with
   |bl k2=>
    cases r5;refine mr ?_;cases k2 with
    |false=>exact ite_ff ⟨H5,I5,q5.2 rfl⟩
    |true=>
     refine ite_tt (test_last (thn (hd pins s5 σ H5 _ I5 (q5.1 rfl)) λw2 s6 ⟨z3,H6,I6,r6,q6⟩=>thn (bz pins s6 σ H6 z' z3 w' w2 _ I6 r4 r6 q6) λd' s7 ab=>?_))
     obtain⟨z4,H7,I7,r7,q7⟩:=ab;cases z4 with
     |bl k4=>cases r7;exact mr ⟨H7,I7,q7⟩
     |_=>exact q7.elim
   |_=>exact q5.elim
 |_=>exact q3.elim
theorem zqS_ {a b d f:lN}{t1 t2 t3 t4:TE}{op aC aB:CmpOp}{r r' aU:R2}(ho:OpR Z (lX op) r)(aI:OpR Z (lX aC) r')(bz:OpR Z (lX aB) aU)(ha:Rd Z a t1)(hb:Rd Z b t2)(hd:Rd Z d t3)(hf:Rd Z f t4)(hs:noSet f=uF):Rd Z (.Compare a [op,aC,aB] [b,d,f] pos) (mChain3 r r' aU t1 t2 t3 t4):=
 ⟨zge_ ho aI bz ha.pe hb.pe hd.pe hf.pe (zbe_ hs),λ_=>zhJ_ ho aI bz ha.pe hb.pe hd.pe hf.pe (zbe_ hs),λ_ _ _ z=>by cases z⟩
theorem os1 {os:List CmpOp}{a:Option CmpOp}(h:[a]=os.map uD):∃x,a=uD x/\os=[x]:=by
 cases os with
 |nil=>cases h
 |cons x l=>cases l with |nil=>cases h;exact⟨x,rfl,rfl⟩|cons=>cases h
theorem os2 {os:List CmpOp}{a b:Option CmpOp}(h:[a,b]=os.map uD):∃x y,a=uD x/\b=uD y/\os=[x,y]:=by
 cases os with
 |nil=>cases h
 |cons x l=>
  obtain⟨y,rfl,rfl⟩:=os1 (qk h).2;exact⟨x,y,(qk h).1,rfl,rfl⟩
theorem os3 {os:List CmpOp}{a b d:Option CmpOp}(h:[a,b,d]=os.map uD):∃x y z,a=uD x/\b=uD y/\d=uD z/\os=[x,y,z]:=by
 cases os with
 |nil=>cases h
 |cons x l=>
  obtain⟨y,z,rfl,rfl,rfl⟩:=os2 (qk h).2;exact⟨x,y,z,(qk h).1,rfl,rfl,rfl⟩
theorem zI_:∀{as:List X}{es:List lN},chkEs T G c as es=uF->es.all noStar=uF/\(es=[]↔as=[])
 |[],es,h=>by
  unfold chkEs at h;rw[mE.mp h];exact⟨rfl,Iff.rfl.trans ⟨λ_=>rfl,λ_=>rfl⟩⟩
 |a::as,es,h=>by
  apply kc_ h;intro e es h;simp only[k9]at h;exact⟨by rw[mV,h.1.1,(zI_ h.2).1];rfl,(λz=>by cases z),(λz=>by cases z)⟩
theorem zhZ_ {K:l4}{as:List X}(h:chkEs T G c as es=uF)(h0:es=[]):X.dens K G E as=tNil:=by rw[(zI_ h).2.mp h0,X.dens]
theorem zp1_ {as:List X}(h:chkEs T G c as es=uF)(h0:(!as.isEmpty)=uF):es≠[]:=λz=>by
 rw[(zI_ h).2.mp z]at h0;cases h0
theorem zi8_ {os:List CmpOp}{l:List (Option CmpOp)}(h:(os.map uD == l)=uF):l=os.map uD:=(eq_of_beq h).symm
abbrev AllH (Z:Cx)(k:Nat)(l:List Fc):Prop:=∀φ∈l,φ.H Z.prog Z.w Z.K Z.mg Z.base k
theorem AllH.l {a b:List Fc}(h:AllH Z k (a++b)):AllH Z k a:=λφ cJ=>h φ (pb _ cJ)
theorem AllH.r {a b:List Fc}(h:AllH Z k (a++b)):AllH Z k b:=λφ cJ=>h φ (lV _ cJ)
theorem znT_ {tg:Tg}(h:tgOk c tg e=uF)(ht:tg.tup=uF):∃es k p,e=.Tuple es k p:=by
 unfold tgOk at h;split at h
 ·exact⟨_,_,_,rfl⟩
 ·rename_i z;rw[z]at ht;cases ht
 ·cases h
theorem zoP_ {ik:Ik}{src:List X}{tg:Tg}{t it:lN}{k1:Bool}{ks:List lN->Bool}(fo:T.Ok G Z.K Z.mg)(g:Cg Z c k E)(h3:tg.tup=uF->∃es k p,t=.Tuple es k p)(h:srcB T c ik tg it k1 ks=uF)
  (H0:k1=uF->∃s,src=[s]/\PE Z it (s.den Z.K G E)) (H1:∀es,ks es=uF->PA Z es (X.dens Z.K G E src)/\es.all noStar=uF):PI Z t it (ik.t Z.K (X.dens Z.K G E src)):=by
 unfold srcB at h;cases ha:ik.isAny with
 |true=>
  rw[ha,cond_true]at h;obtain⟨s,rfl,hs⟩:=H0 h;cases ik<;>first |exact zrn_ hs |cases ha
 |false=>
  rw[ha,cond_false]at h;apply kC_ h;intro f es q h;apply kN_ h;intro y p h;simp only[k9]at h;obtain⟨⟨⟨⟨⟨h1,h2⟩,h4⟩,h5⟩,h6⟩,h7⟩:=h;obtain⟨pa,st⟩:=H1 es h7;have b:=fo.bs y (by simpa using h5)
  have gl:=(zh6_ g h4).1;have hy:=eq_of_beq h1;have hl:=eq_of_beq h2;have tp:ik.tp=uF->∃es k p,t=.Tuple es k p:=λz=>h3 (by rw[z]at h6;simpa using h6)
  have sm:=zbr_ (env:=Z.env) st;cases ik with
  |any=>cases ha
  |r1=>obtain⟨a,rfl⟩:=m4.mp hl;cases hy;exact zki_ b pa gl sm
  |r2=>match es,hl with |[a,d],_=>cases hy;exact zj8_ b pa gl sm (zbr_ (by rw[mV,k9]at st;exact st.2))
  |en=>obtain⟨a,rfl⟩:=m4.mp hl;cases hy;obtain⟨_,_,_,rfl⟩:=tp rfl;exact zmp_ b pa gl sm
  |r3=>match es,hl with |[a,d,f],_=>cases hy;rw[mV,k9]at st;exact zk2_ b pa gl (zs_ st.1) (za5_ st.2)
  |rev=>obtain⟨a,rfl⟩:=m4.mp hl;cases hy;exact zrE_ b pa gl sm
  |zip=>match es,hl with |[a,d],_=>cases hy;obtain⟨_,_,_,rfl⟩:=tp rfl;exact zoI_ b pa gl sm (zbr_ (by rw[mV,k9]at st;exact st.2))
theorem zjT_ (lv:List Str)(fr:List (Str×Nat))(ik:Ik)(src:List X)(tg:Tg)(d:Option X)(x:X)
  (H0:∀{Z:Cx}{c:Ck}{E:XK}{e:lN},T.Ok G Z.K Z.mg->Cg Z c k E->AllH Z k (X.fcss src)->chk1 T G c src e=uF->∃s,src=[s]/\PE Z e (s.den Z.K G E))
  (H1:∀{Z:Cx}{c:Ck}{E:XK}{es:List lN},T.Ok G Z.K Z.mg->Cg Z c k E->AllH Z k (X.fcss src)->chkEs T G c src es=uF->PA Z es (X.dens Z.K G E src))
  (H2:∀{Z:Cx}{c:Ck}{E:XK}{es:List lN},T.Ok G Z.K Z.mg->Cg Z c k E->AllH Z k (X.fcsO d)->chkIf T G c d es=uF->PIf Z es (X.denT Z.K G E d))
  (H3:∀{Z:Cx}{c:Ck}{E:XK}{e:lN},T.Ok G Z.K Z.mg->Cg Z c k E->AllH Z k x.fcs->chkE T G c x e=uF->Rd Z e (x.den Z.K G E)):∀{Z:Cx}{c:Ck}{E:XK}{e:lN},T.Ok G Z.K Z.mg->Cg Z c k E->AllH Z k (X.comp lv fr ik src tg d x).fcs->chkE T G c (.comp lv fr ik src tg d x) e=uF ->
  ∃t it ifs elt sc pos,e=.ListComp elt [⟨t,it,ifs,0⟩] sc pos/\∃cl,CScope Z sc cl lv fr/\PI Z t it (ik.t Z.K (X.dens Z.K G E src))/\(∀C fp s2 H2,PG (cxComp Z sc cl C (cN lv fr) fp s2 H2) t (tgT Z.K tg)) /\
   (∀C fp s2 H2,PIf (cxComp Z sc cl C (cN lv fr) fp s2 H2) ifs (X.denT Z.K G E0 d))/\(∀C fp s2 H2,PE (cxComp Z sc cl C (cN lv fr) fp s2 H2) elt (x.den Z.K G E0))/\noSet it=uF:=by
 intro Z c E e fo g fs h;apply kG_ h;intro elt gs sc pos h;rw[k9]at h;obtain⟨⟨t,it,ifs,as⟩,rfl⟩:=m4.mp (eq_of_beq h.1);have h:=h.2;rw[mV,List.all_nil,pW]at h;simp only[k9]at h;obtain⟨⟨⟨⟨⟨⟨⟨h1,h2⟩,h3⟩,h4⟩,h5⟩,h6⟩,h7⟩,h8⟩:=h;cases eq_of_beq h1;obtain⟨nd,cl,S,cg⟩:=zhg_ g h2
 exact⟨t,it,ifs,elt,sc,pos,rfl,cl,S,zoP_ fo g (znT_ h3) h6 (H0 fo g fs.l) λes z=>⟨H1 fo g fs.l z,(zI_ z).1⟩,λC fp s2 H2=>tg_ok (Z:=cxComp Z sc cl C (cN lv fr) fp s2 H2) (cg C fp s2 H2) nd (.inr h4) h3,λC fp s2 iS=>H2 (Z:=cxComp Z sc cl C (cN lv fr) fp s2 iS) fo (cg C fp s2 iS) fs.r.l h7,
   λC fp s2 H2=>(H3 (Z:=cxComp Z sc cl C (cN lv fr) fp s2 H2) fo (cg C fp s2 H2) fs.r.r h8).pe,h5⟩
mutual
theorem zc_:∀(x:X) {Z:Cx}{c:Ck}{E:XK}{e:lN},T.Ok G Z.K Z.mg->Cg Z c k E->AllH Z k x.fcs->chkE T G c x e=uF->Rd Z e (x.den Z.K G E)
 |.v i,Z,c,E,e,fo,g,fs,h=>by
  apply kN_ h;intro x p h;rw[k9,k9]at h;have h3:=h.2;unfold nmOk at h3;rw[k9]at h3;exact zk_ (zm5_ i (by rw[g.N];exact eq_of_beq h.1.1) (zqk_ g h.1.2) (by simpa using h3.1) (by simpa using h3.2)) rfl
 |.k d,Z,c,E,e,fo,g,fs,h=>by
  apply kK_ h;intro x n p h;exact zk_ (zkf_ h) rfl
 |.g x d,Z,c,E,e,fo,g,fs,h=>by
  show Rd Z e (tC (d.flat?.getD .non))
  apply kN_ h;intro y p h;rw[k9,k9]at h;cases eq_of_beq h.1.1;obtain⟨g1,g2⟩:=zh6_ g h.1.2;have h2:=h.2;cases hv:d.flat? with
  |none=>rw[hv]at h2;cases h2
  |some v=>rw[hv]at h2;exact zk_ (pe_gc (fo.gc _ (by simpa using h2)) g1 g2) rfl
 |.gt x ls,Z,c,E,e,fo,g,fs,h=>by
  apply kN_ h;intro y p h;rw[k9,k9]at h;cases eq_of_beq h.1.1;obtain⟨g1,g2⟩:=zh6_ g h.1.2;obtain⟨q,hq,e⟩:=qr.mp h.2;have:=fo.kt q hq;rw[eq_of_beq e]at this;exact zk_ (pe_gc this g1 g2) rfl
 |.bin o a b,Z,c,E,e,fo,g,fs,h=>by
  rcases(mK _ _).mp h with h |h
  rotate_left
  rcases(mK _ _).mp h with h |h
  rotate_right
  ·apply kB_ h;intro l op r p h
   simp only[k9]at h;exact zk_ (pe_op (bo_op (eq_of_beq h.1.1)) (zc_ a fo g fs.l h.1.2).pe (zc_ b fo g fs.r h.2).pe) rfl
  ·apply kM_ h;intro l os rs p h
   apply kc_ h;intro r t h;simp only[k9]at h;cases mE.mp h.1.1.1.2;obtain⟨op,ho,rfl⟩:=os1 (zi8_ h.1.1.1.1);exact zoO_ (zeT_ g.units ho) (zc_ a fo g fs.l h.1.2) (zc_ b fo g fs.r h.2) h.1.1.2
  ·apply kS_ h;intro l r p h
   simp only[k9]at h;have ho:o=.ix:=by
    have:=h.1.1.1;cases o<;>first |rfl |cases this
   subst ho;exact zk_ (pe_ix (ix_A g.units) (zc_ a fo g fs.l h.1.2).pe (zc_ b fo g fs.r h.2).pe (zkD_ h.1.1.2)) rfl
 |.ch o o' a b d,Z,c,E,e,fo,g,fs,h=>by
  apply kM_ h;intro l os rs p h;apply kc_ h;intro r t h;apply kc_ h;intro r' t' h;simp only[k9]at h;cases mE.mp h.1.1.1.1.2;obtain⟨op,aC,h1,h2,rfl⟩:=os2 (zi8_ h.1.1.1.1.1);exact zk8_ (zeT_ g.units h1) (zeT_ g.units h2) (zc_ a fo g fs.l h.1.1.2) (zc_ b fo g fs.r.l h.1.2) (zc_ d fo g fs.r.r h.2) h.1.1.1.2
 |.and a b,Z,c,E,e,fo,g,fs,h=>by
  apply kO_ h;intro x y l p h;simp only[k9]at h;cases l with
  |nil=>exact zoS_ (zc_ a fo g fs.l h.1.2) (zc_ b fo g fs.r h.2) h.1.1.1 h.1.1.2
  |cons z l=>exact zrm_ (zc_ a fo g fs.l h.1.2) (zc_ b fo g fs.r h.2) h.1.1.1
 |.or a b,Z,c,E,e,fo,g,fs,h=>by
  apply kO_ h;intro x y l p h;simp only[k9]at h;cases l with
  |nil=>exact zpA_ (zc_ a fo g fs.l h.1.2) (zc_ b fo g fs.r h.2) h.1.1.1 h.1.1.2
  |cons z l=>exact rd_or (zc_ a fo g fs.l h.1.2) (zc_ b fo g fs.r h.2) h.1.1.1
 |.not a,Z,c,E,e,fo,g,fs,h=>by
  apply kU_ h;intro o x p h;simp only[k9]at h;cases eq_of_beq h.1.1;exact znO_ (zc_ a fo g fs h.2) h.1.2
 |.neg a,Z,c,E,e,fo,g,fs,h=>by
  apply kU_ h;intro o x p h;rw[k9]at h;cases eq_of_beq h.1;exact zk_ (zof_ (zc_ a fo g fs h.2).pe) rfl
 |.ifx d a b,Z,c,E,e,fo,g,fs,h=>by
  apply kI_ h;intro t x y p h;simp only[k9]at h;exact rd_if (zpy_ ((zc_ d fo g fs.l h.1.1.2).pt h.1.1.1) (zc_ a fo g fs.r.l h.1.2).pe (zc_ b fo g fs.r.r h.2).pe) rfl
 |.sl a lo hi,Z,c,E,e,fo,g,fs,h=>by
  apply kS_ h;intro l r p h;apply kL_ h;intro l1 l2 l3 q h;simp only[k9]at h;cases nC.mp h.1.1.1;exact zk_ (zlB_ sl_A (zc_ a fo g fs.l h.1.1.2).pe (zjj_ lo fo g fs.r.l h.1.2) (zjj_ hi fo g fs.r.r h.2)) rfl
 |.tup as,Z,c,E,e,fo,g,fs,h=>by
  apply kT_ h;intro es n p h;exact zk_ (zpL_ (zaj_ as fo g fs h)) rfl
 |.lst as,Z,c,E,e,fo,g,fs,h=>by
  apply kW_ h;intro es p h;exact zk_ (zp4_ (zaj_ as fo g fs h)) rfl
 |.fld a f,Z,c,E,e,fo,g,fs,h=>by
  apply kA_ h;intro o f' p h;simp only[k9]at h;cases eq_of_beq h.1.1.1;exact zk_ (zok_ (λd hd=>⟨fo.cls d hd,fo.at_ d hd _ (by simpa using h.1.1.2)⟩) (zc_ a fo g fs h.2).pe h.1.2) rfl
 |.call f x as,Z,c,E,e,fo,g,fs,h=>by
  apply kC_ h;intro y es q h;apply kN_ h;intro y p h;simp only[k9]at h;cases eq_of_beq h.1.1;obtain⟨g1,g2⟩:=zh6_ g h.1.2;obtain⟨ps,j,hj,F⟩:=fs _ (lR ..);exact zk_ (zkY_ F (g.room.mono hj) g.pass (zaj_ as fo g (λφ cJ=>fs φ (lQ _ cJ)) h.2) (zI_ h.2).1 g1 g2 (zhZ_ h.2)) rfl
 |.bf o as,Z,c,E,e,fo,g,fs,h=>by
  apply kC_ h;intro y es q h;apply kN_ h;intro y p h;simp only[k9]at h;cases eq_of_beq h.1.1.1.1;exact zk_ (bf_pe g (fo.bs _ (by simpa using h.1.1.2)) (zaj_ as fo g fs h.2) (zI_ h.2).1 (zp1_ h.2 h.1.2) h.1.1.1.2) rfl
 |.comp lv fr ik src tg d x,Z,c,E,e,fo,g,fs,h=>by
  obtain⟨t,it,ifs,elt,sc,pos,rfl,cl,S,q1,q2,q3,q4,q5⟩:=zjT_ lv fr ik src tg d x (zgS_ src) (zaj_ src) (zhA_ d) (zc_ x) fo g fs h;exact zk_ (znu_ g.calm S q1 q2 q3 q4 (zds_ q5)) rfl
 |.make f d as,Z,c,E,e,fo,g,fs,h=>by
  apply kC_ h;intro y es q h;apply kN_ h;intro y p h;simp only[k9]at h;cases eq_of_beq h.1.1;obtain⟨g1,g2⟩:=zh6_ g h.1.2;obtain⟨ps,j,hj,F⟩:=fs _ (lR ..);exact zk_ (zkB_ F (g.room.mono hj) g.pass (zaj_ as fo g (λφ cJ=>fs φ (lQ _ cJ)) h.2) (zI_ h.2).1 g1 g2 (zhZ_ h.2)) rfl
 |.rv a,Z,c,E,e,fo,g,fs,h=>by
  apply kS_ h;intro l r p h;apply kL_ h;intro a1 a2 a3 q h;simp only[k9]at h;cases nC.mp h.1.1.1;cases nC.mp h.1.1.2;cases a3 with
  |none=>cases h.1.2
  |some u=>
   apply kU_ (show kU u _=uF from h.1.2);intro o w p' h'
   rw[k9]at h';cases eq_of_beq h'.1;apply kK_ h'.2;intro z n' p2 h2;cases eq_of_beq h2;exact zk_ (zro_ (zc_ a fo g fs h.2).pe (po_M (zof_ zmI_))) rfl
 |.lr a b,Z,c,E,e,fo,g,fs,h=>by
  apply kC_ h;intro y es q h;apply kN_ h;intro y p h;apply kc_ h;intro r t h;apply kC_ h;intro z xs q2 h;apply kN_ h;intro z p2 h;apply kc_ h;intro x t1 h;apply kc_ h;intro w t2 h;simp only[k9]at h;obtain⟨⟨⟨⟨⟨⟨⟨⟨⟨⟨⟨h1,h2⟩,ht⟩,ht2⟩,h3⟩,h4⟩,h5⟩,h6⟩,h7⟩,h8⟩,h9⟩,h10⟩:=h;cases eq_of_beq h1;cases eq_of_beq h2;cases mE.mp ht;cases mE.mp ht2;obtain⟨g1,g2⟩:=zh6_ g h3;obtain⟨g3,g4⟩:=zh6_ g h4;exact zk_ (zqD_ "list" (zel_ g.calm) (fo.bs _ (by simpa using h5)) (zdb_ (zqD_ "range" zfC_ (fo.bs _ (by simpa using h6)) (zdb_ (zc_ a fo g fs.l h9).pe (zdb_ (zc_ b fo g fs.r h10).pe zih_ (zs_ h8)) (zs_ h7)) g3 rfl (by decide) g4 (zs_ h7) (za5_ (by simp[h8]))) zih_ (zs_ rfl)) g1 rfl (by decide) g2 (zs_ rfl) (za5_ rfl)) rfl
 |.isa a n,Z,c,E,e,fo,g,fs,h=>by
  apply kC_ h;intro y es q h;apply kN_ h;intro y p h;apply kc_ h;intro x t h;apply kc_ h;intro z t2 h;apply kN_ h;intro z p2 h;simp only[k9]at h;obtain⟨⟨⟨⟨⟨⟨⟨⟨h1,ht⟩,h2⟩,h3⟩,h4⟩,h5⟩,h6⟩,h7⟩,h8⟩:=h;cases eq_of_beq h1;cases mE.mp ht;exact zk_ (zpr_ g (zc_ a fo g fs h8).pe h4 h2 (fo.bs _ (by simpa using h3)) (eq_of_beq h5) h6 (fo.bs _ (by simpa using h7))) rfl
 |.dct0,Z,c,E,e,fo,g,fs,h=>by
  apply kDi_ h;intro p;exact zk_ zlw_ rfl
 |.ch3 o o' aD a b d f,Z,c,E,e,fo,g,fs,h=>by
  apply kM_ h;intro l os rs p h;apply kc_ h;intro r t h;apply kc_ h;intro r' t' h;apply kc_ h;intro aU cI h;simp only[k9]at h;obtain⟨⟨⟨⟨⟨⟨h1,ht⟩,h4⟩,h5⟩,h6⟩,h7⟩,h8⟩:=h;cases mE.mp ht;obtain⟨op,aC,aB,g1,g2,g3,rfl⟩:=os3 (zi8_ h1);exact zqS_ (zeT_ g.units g1) (zeT_ g.units g2) (zeT_ g.units g3) (zc_ a fo g fs.l.l h5) (zc_ b fo g fs.l.r h6) (zc_ d fo g fs.r.l h7) (zc_ f fo g fs.r.r h8) h4
theorem zgS_:∀(as:List X) {Z:Cx}{c:Ck}{E:XK}{e:lN},T.Ok G Z.K Z.mg->Cg Z c k E->AllH Z k (X.fcss as)->chk1 T G c as e=uF->∃s,as=[s]/\PE Z e (s.den Z.K G E)
 |[],Z,c,E,e,fo,g,fs,h=>by unfold chk1 at h;cases h
 |s::as,Z,c,E,e,fo,g,fs,h=>by
  have h:=mj.mp h;cases mE.mp h.1;exact⟨s,rfl,(zc_ s fo g fs.l h.2).pe⟩
theorem zaj_:∀(as:List X) {Z:Cx}{c:Ck}{E:XK}{es:List lN},T.Ok G Z.K Z.mg->Cg Z c k E->AllH Z k (X.fcss as)->chkEs T G c as es=uF->PA Z es (X.dens Z.K G E as)
 |[],Z,c,E,es,fo,g,fs,h=>by
  show PA Z es tNil;rw[mE.mp h]
  exact zih_
 |a::as,Z,c,E,es,fo,g,fs,h=>by
  apply kc_ h;intro e t h;simp only[k9]at h;exact zdb_ (zc_ a fo g fs.l h.1.2).pe (zaj_ as fo g fs.r h.2) (zs_ h.1.1)
theorem zjj_:∀(a:Option X) {Z:Cx}{c:Ck}{E:XK}{e:Option lN},T.Ok G Z.K Z.mg->Cg Z c k E->AllH Z k (X.fcsO a)->chkO T G c a e=uF->PO Z e (X.denO Z.K G E a)
 |none,Z,c,E,e,fo,g,fs,h=>by
  show PO Z e tNoPart;rw[nC.mp h]
  exact znK_
 |some a,Z,c,E,e,fo,g,fs,h=>by
  cases e with
  |none=>cases h
  |some e=>exact po_M (zc_ a fo g fs h).pe
theorem zhA_:∀(a:Option X) {Z:Cx}{c:Ck}{E:XK}{es:List lN},T.Ok G Z.K Z.mg->Cg Z c k E->AllH Z k (X.fcsO a)->chkIf T G c a es=uF->PIf Z es (X.denT Z.K G E a)
 |none,Z,c,E,es,fo,g,fs,h=>by
  show PIf Z es tTrue;rw[mE.mp h]
  exact zlU_
 |some a,Z,c,E,es,fo,g,fs,h=>by
  apply kc_ h;intro e t h;simp only[k9]at h;cases mE.mp h.1.1;exact zor_ ((zc_ a fo g fs h.2).pt h.1.2)
end
end
structure Cq (Z:Cx)(c:Ck)(k:Nat)(E:XK):Prop extends Cg Z c k E where
 fn:∀x,Z.fn x=uF
 nd:c.N.Nodup
 own:PassesOwn (model Z.prog Z.w) Z.A Z.env Z.xe
 ex:Z.ex=[]
 stack:Z.stack=Z.env::Z.outer/\Z.env.frame=uD Z.env.locals
noncomputable def Y.isC:Y->Bool
 |.pu (.comp ..)=>uF |_=>uG
noncomputable def Bm.nm:Bm->Str
 |.append => "append" |.extend => "extend"
def Y.fcs:Y->List Fc
 |.pu x=>x.fcs
 |.mv i=>[]
 |.call f x as=>(X.call f x (as.map A.t)).fcs
 |.bm _ p as=>p.x.fcs++X.fcss (as.map A.t)
 |.bin _ y z=>y.fcs++z.fcs
 |.sd p k v=>p.x.fcs++(k.fcs++v.fcs)
 |.not y=>y.fcs
mutual
def S.fcs:S->List Fc
 |.asg _ y=>y.fcs
 |.setF p _ x=>p.x.fcs++x.fcs
 |.setI p k x=>p.x.fcs++(k.fcs++x.fcs)
 |.ex y=>y.fcs
 |.ret y=>y.fcs
 |.retN=>[]
 |.if_ c a b=>c.fcs++(S.fcss a++S.fcss b)
 |.ifY c a b=>c.fcs++(S.fcss a++S.fcss b)
 |.ifL c a b=>c.fcs++(S.fcss a++S.fcss b)
 |.view _ s=>s.fcs
 |.for_ _ src _ b=>X.fcss src++S.fcss b
 |.while_ c b=>c.fcs++S.fcss b
 |.pass=>[]
 |.cont=>[]
 |.never=>[]
 |.try0 b bE=>S.fcss b++S.fcss bE
def S.fcss:List S->List Fc
 |[]=>[]
 |s::ss=>s.fcs++S.fcss ss
end
section
variable (T:Ft)(G:Gi)
def chkY (c:Ck):Y->lN->Bool
 |.pu x,e=>chkE T G c x e
 |.mv i,e=>chkE T G c (.v i) e
 |.call f x as,e=>chkE T G c (.call f x (as.map A.t)) e
 |.bm o p as,e=>kC e λr es q=>kA r λr m ap=>m == o.nm && noSup r && ap.endLine == q.line && decide (es.length<29) && chkE T G c p.x r && chkEs T G c (as.map A.t) es
 | .bin o y z,e=>kB e (λl op r=>o.op == uD op && chkY c y l && chkY c z r)||
   kM e (λl os rs=>kc rs λr t=>os.map uD == [o.cmp] && t.isEmpty && noSet r && chkY c y l && chkY c z r)
 |.sd p k v,e=>kC e λr es q=>kA r λr m ap=>kc es λa t=>kc t λb t=>m=="setdefault" && t.isEmpty && noSup r && ap.endLine==q.line && noStar a && noStar b && chkE T G c p.x r && chkE T G c k a && chkE T G c v b
 |.not y,e=>kU e λo x=>o == .Not && noIf x && chkY c y x
noncomputable def sA:me->(lN->lN->Bool)->Bool
 |.Assign [g] e _,k=>k g e |_,_=>uG
noncomputable def sE:me->(lN->Bool)->Bool
 |.Expr e _,k=>k e |_,_=>uG
noncomputable def sR:me->(Option lN->Bool)->Bool
 |.Return e _,k=>k e |_,_=>uG
noncomputable def sI:me->(lN->List me->List me->Bool)->Bool
 |.If e a b _,k=>k e a b |_,_=>uG
def sF:me->(lN->lN->List me->Bool)->Bool
 |.For t i b [] _,k=>k t i b |_,_=>uG
noncomputable def sW:me->(lN->List me->Bool)->Bool
 |.While e b [] _,k=>k e b |_,_=>uG
noncomputable def sT:me->(List me->List me->Bool)->Bool
 |.Try b (_::_) l [] _,k=>k b l |_,_=>uG
noncomputable def sP:me->Bool
 |.Pass _=>uF |_=>uG
noncomputable def sC:me->Bool
 |.Continue _=>uF |_=>uG
section
variable {s:me}{C:me->Prop}
theorem sA_ {k}(h:sA s k=uF)(H:∀g e q,k g e=uF->C (.Assign [g] e q)):C s:=by
 unfold sA at h;split at h
 ·exact H _ _ _ h
 ·cases h
theorem sE_ {k}(h:sE s k=uF)(H:∀e q,k e=uF->C (.Expr e q)):C s:=by cases s<;>first |exact H _ _ h |cases h
theorem sR_ {k}(h:sR s k=uF)(H:∀e q,k e=uF->C (.Return e q)):C s:=by cases s<;>first |exact H _ _ h |cases h
theorem sI_ {k}(h:sI s k=uF)(H:∀e a b q,k e a b=uF->C (.If e a b q)):C s:=by cases s<;>first |exact H _ _ _ _ h |cases h
theorem sF_ {k}(h:sF s k=uF)(H:∀t i b q,k t i b=uF->C (.For t i b [] q)):C s:=by
 unfold sF at h;split at h
 ·exact H _ _ _ _ h
 ·cases h
theorem sW_ {k}(h:sW s k=uF)(H:∀e b q,k e b=uF->C (.While e b [] q)):C s:=by
 unfold sW at h;split at h
 ·exact H _ _ _ h
 ·cases h
theorem sT_ {k}(h:sT s k=uF)(H:∀b a r l q,k b l=uF->C (.Try b (a::r) l [] q)):C s:=by
 unfold sT at h;split at h
 ·exact H _ _ _ _ _ h
 ·cases h
theorem sP_ (h:sP s=uF)(H:∀q,C (.Pass q)):C s:=by cases s<;>first |exact H _ |cases h
theorem sC_ (h:sC s=uF)(H:∀q,C (.Continue q)):C s:=by cases s<;>first |exact H _ |cases h
end
noncomputable def sc:List me->(me->List me->Bool)->Bool
 |a::l,k=>k a l |[],_=>uG
theorem sc_ {l:List me}{C:List me->Prop}{k}(h:sc l k=uF)(H:∀a t,k a t=uF->C (a::t)):C l:=by cases l with |nil=>cases h |cons a t=>exact H a t h
noncomputable def isStr:Const->Bool
 |.str _=>uF |_=>uG
mutual
def chkS (c:Ck):S->me->Bool
 |.asg i y,s=>sA s λg e=>tgB c i g && (noCmp e ||y.isC) && chkY T G c y e
 |.setF p n x,s=>sA s λg e=>kA g λo f _=>n == f && T.at_.contains n && chkE T G c p.x o && chkE T G c x e
 |.setI p k x,s=>sA s λg e=>kS g λo i=>noSl i && chkE T G c p.x o && chkE T G c k i && chkE T G c x e
 |.ex y,s=>sE s λe=>noCmp e && chkY T G c y e
 |.ret y,s=>sR s λe=>e.any (chkY T G c y)
 |.retN,s=>sR s λe=>e.isNone
 |.if_ d a b,s=>sI s λe x y=>noIf e && chkE T G c d e && chkSs c a x && chkSs c b y
 |.view _ d,s=>chkS c d s
 |.ifL d a b,s=>sI s λe x y=>plainT e && chkE T G c d e && chkSs c a x && chkSs c b y
 |.ifY d a b,s=>sI s λe x y=>noIf e && chkY T G c d e && chkSs c a x && chkSs c b y
 |.for_ ik src tg b,s=>sF s λt it x=>noSet it && tgOk c tg t && srcB T c ik tg it (chk1 T G c src it) (chkEs T G c src) && chkSs c b x
 |.while_ d b,s=>sW s λe x=>noIf e && chkE T G c d e && chkSs c b x
 |.pass,s=>sP s ||sE s λe=>kK e isStr
 |.cont,s=>sC s
 |.never,_=>uF
 |.try0 b bE,s=>sT s λx y=>chkSs c b x && chkSs c bE y
def chkSs (c:Ck):List S->List me->Bool
 |[],ss=>ss.isEmpty
 |a::as,ss=>sc ss λs ss=>chkS c a s && chkSs c as ss
end
end
section
variable {Z:Cx}{c:Ck}{k:Nat}{E:XK}{T:Ft}{G:Gi}{e o:lN}{es:List lN}{t:TE}{p pos apos:Pos}
def bmT (K:l4)(G:Gi)(E:XK)(b:Bm)(t:TE)(as:List A):TE:=match as with |[]=>tBM0 K b.ty b.r t |_=>tBM K b.ty b.r t (X.dens K G E (as.map A.t))
theorem bm_pe {b:Bm}{as:List A}(ho:PE Z o t)(ha:PA Z es (X.dens Z.K G E (as.map A.t)))(hs:es.all noStar=uF)(hb:noSup o=uF)(hl:(apos.endLine == pos.line)=uF)(hn:es.length<29)(h0:es=[]↔as=[]):PE Z (.Call (.Attribute o b.nm apos) es [] pos) (bmT Z.K G E b t as):=by
 have b0:=λn=>zgC_ (env:=Z.env) (m:=n) hb
 cases as with
 |nil=>
  rw[h0.mpr rfl];cases b with
  |append=>exact zoU_ zfw_ zbL_ zbO_ zdl_ ho (b0 _) hl
  |extend=>exact zoU_ zfw_ zbS_ zbU_ zfc_ ho (b0 _) hl
 |cons a as=>
  cases es with
  |nil=>cases h0.mp rfl
  |cons e es=>
   have f:=zox_ (env:=Z.env) (pos:=pos) hs hn;rw[mV,k9]at hs;have s1:=zs_ (env:=Z.env) (es:=es) hs.1;have s2:=za5_ (env:=Z.env) (pos:=pos) hs.2;cases b with
   |append=>exact pe_bm zfw_ zbL_ zbO_ zdl_ ho ha (b0 _) f hl s1 s2
   |extend=>exact pe_bm zfw_ zbS_ zbU_ zfc_ ho ha (b0 _) f hl s1 s2
theorem zbK_:∀(y:Y) {e:lN},T.Ok G Z.K Z.mg->Cg Z c k E->AllH Z k y.fcs->chkY T G c y e=uF->Rd Z e (y.den Z.K G E)
 |.pu x,e,fo,g,fs,h=>zc_ x fo g fs h
 |.mv i,e,fo,g,fs,h=>by
  exact zc_ (.v i) fo g (λ_ z=>by cases z) h
 |.call f x as,e,fo,g,fs,h=>by
  exact zc_ (.call f x (as.map A.t)) fo g fs h
 |.bm b p as,e,fo,g,fs,h=>by
  apply kC_ h;intro r es q h;apply kA_ h;intro r m ap h;simp only[k9]at h;cases eq_of_beq h.1.1.1.1.1;exact zk_ (bm_pe (b:=b) (zc_ p.x fo g fs.l h.1.2).pe (zaj_ _ fo g fs.r h.2) (zI_ h.2).1 h.1.1.1.1.2 h.1.1.1.2 (of_decide_eq_true h.1.1.2) ((zI_ h.2).2.trans List.map_eq_nil_iff)) rfl
 |.bin o y z,e,fo,g,fs,h=>by
  rcases(mK _ _).mp h with h |h
  ·apply kB_ h;intro l op r p h
   simp only[k9]at h;exact zk_ (pe_op (bo_op (eq_of_beq h.1.1)) (zbK_ y fo g fs.l h.1.2).pe (zbK_ z fo g fs.r h.2).pe) rfl
  ·apply kM_ h;intro l os rs p h
   apply kc_ h;intro r t h;simp only[k9]at h;cases mE.mp h.1.1.1.2;obtain⟨op,ho,rfl⟩:=os1 (zi8_ h.1.1.1.1);exact zoO_ (zeT_ g.units ho) (zbK_ y fo g fs.l h.1.2) (zbK_ z fo g fs.r h.2) h.1.1.2
 |.sd p k v,e,fo,g,fs,h=>by
  apply kC_ h;intro r es q h;apply kA_ h;intro r m ap h;apply kc_ h;intro a t h;apply kc_ h;intro b t h;simp only[k9]at h;obtain⟨⟨⟨⟨⟨⟨⟨⟨h1,ht⟩,h2⟩,h3⟩,h4⟩,h5⟩,h6⟩,h7⟩,h8⟩:=h;cases eq_of_beq h1;cases mE.mp ht;have st:[a,b].all noStar=uF:=by simp[h4,h5]
  exact zk_ (zkn_ g.units (zc_ p.x fo g fs.l h6).pe (zc_ k fo g fs.r.l h7).pe (zc_ v fo g fs.r.r h8).pe ⟨zgC_ h2,zox_ st (show 2<29 by decide),h3,by rw[zbr_ st];rfl⟩) rfl
 |.not y,e,fo,g,fs,h=>by
  apply kU_ h;intro o x p h;simp only[k9]at h;cases eq_of_beq h.1.1;exact znO_ (zbK_ y fo g fs h.2) h.1.2
theorem zhO_ {elt:lN}{gs:List Comprehension}{sc:Scope}{x:Str}{p:Pos}{env:PySem.Env}{n:Nat}:∃b,swapsWith (.ListComp elt gs sc pos) (uD (.Name x p)) n env=pure b:=⟨_,rfl⟩
theorem zhV_ {f:Str}{n:Nat}:swapsWith e (uD (.Attribute o f p)) n Z.env=pure uG:=by cases e<;>rfl
theorem ziD_ {i:lN}{n:Nat}:swapsWithSole [.Subscript o i p] e n Z.env=pure uG:=by cases e<;>rfl
theorem zq2_ {i:lN}(h:noSl i=uF)(v:aT):assign (.Subscript o i p) Z.env v=(do
   let ov <- holding [v] (eval o Z.env)
   let iv <- holding [v,ov] (eval i Z.env)
   standAt p
   holding [v,ov,iv] (setItem ov iv v)
   release [v,ov,iv] []):=by
 cases i<;>first |rfl |cases h
theorem zrK_ (fo:T.Ok G Z.K Z.mg)(g:Cq Z c k E){i:Nat}{y:Y}{q:Pos}(fs:AllH Z k y.fcs)(h1:tgB c i o=uF)(h2:(noCmp e ||y.isC)=uF)(h3:chkY T G c y e=uF):
  PS Z (.Assign [o] e q) (tAsg (y.den Z.K G E) (gName i)):=by
 have hv:=(zbK_ y fo g.toCg fs h3).pe;obtain⟨jq,x,p,rfl⟩:=zlg_ g.toCg g.nd (.inl g.fn) h1;unfold tgB at h1;rw[k9]at h1;have hi:Z.N[i]?=uD x:=by rw[g.N];exact eq_of_beq h1.1
 have hn:Z.N.Nodup:=by rw[g.N];exact g.nd
 have hl:=zoC_ g.toCg h1.2;by_cases hc:noCmp e=uF
 ·exact zo0_ hn hi hl hv (zgc_ hc _ _) (.inl (g.fn x))
 ·have hc:noCmp e=uG:=by simpa using hc
  rw[hc,qj]at h2;unfold Y.isC at h2;split at h2
  ·rename_i lv fr ik src tg d z
   obtain⟨t,it,ifs,elt,sc,pos,rfl,cl,S,q1,q2,q3,q4,q5⟩:=zjT_ lv fr ik src tg d z (zgS_ src) (zaj_ src) (zhA_ d) (zc_ z) fo g.toCg fs h3;obtain⟨b,hb⟩:=zhO_ (elt:=elt) (gs:=[⟨t,it,ifs,0⟩]) (sc:=sc) (pos:=pos) (x:=x) (p:=p) (env:=Z.env) (n:=q.line);cases b with
   |true=>
    exact zhE_ g.calm S q1 q2 q3 q4 jq hb (zds_ q5)
   |false=>exact zo0_ hn hi hl hv hb (.inl (g.fn x))
  ·cases h2
theorem Cq.nox (g:Cq Z c k E):Cq Z.nox c k E0 where
 N:=g.N
 nm:=g.nm
 kind:=g.kind
 calm:=g.calm
 room:=g.room
 pass:=zkI_
 cells:=g.cells
 fn:=g.fn
 nd:=g.nd
 own:=PassesOwn.never
 ex:=g.ex
 stack:=g.stack
theorem zlI_ {body orelse:List me}{h₀:ExceptHandler}{hs:List ExceptHandler}{tb te:TS}(hb:PSs Z.nox body tb)(hl:PSs Z orelse te):PS Z (.Try body (h₀::hs) orelse [] pos) (tSeq tb te):=by
 intro pins s σ H D I h;refine wpAny_Try_except (nq (hb pins s σ H _ (I.wish _) h) (λf s1 q=>?_) λe s1 q=>mx q)
 replace q:=q.unwish;cases f with
 |next=>obtain⟨af,H',I',q⟩:=q;exact hl pins s1 af H' D I' q
 |ret v=>exact q
 |brk=>exact q
 |cont=>exact q
mutual
theorem zjW_:∀{Z:Cx}{E:XK}(fo:T.Ok G Z.K Z.mg) (g:Cq Z c k E) (s:S) {st:me},AllH Z k s.fcs->chkS T G c s st=uF->PS Z st (s.den Z.K G E)
 |Z,E,fo,g,.asg i y,st,fs,h=>by
  apply sA_ h;intro o e q h;simp only[k9]at h;exact zrK_ fo g fs h.1.1 h.1.2 h.2
 |Z,E,fo,g,.setF p n x,st,fs,h=>by
  apply sA_ h;intro o e q h;apply kA_ h;intro o f r h;simp only[k9]at h;cases eq_of_beq h.1.1.1;have ha:=(zc_ p.x fo g.toCg fs.l h.1.2).pe;have hv:=(zc_ x fo g.toCg fs.r h.2).pe;intro pins s σ H D I q;obtain⟨d,hd,q⟩:=q;exact znS_ (fo.cls d hd) (fo.at_ d hd _ (by simpa using h.1.1.2)) ha hv zhV_ pins s σ H D I q
 |Z,E,fo,g,.setI p k x,st,fs,h=>by
  apply sA_ h;intro o e q h;apply kS_ h;intro o i r h;simp only[k9]at h;exact zpO_ (zc_ x fo g.toCg fs.r.r h.2).pe (zpY_ (zc_ p.x fo g.toCg fs.l h.1.1.2).pe (zc_ k fo g.toCg fs.r.l h.1.2).pe (set_A g.units) (zq2_ h.1.1.1)) ziD_ zhM_
 |Z,E,fo,g,.ex y,st,fs,h=>by
  apply sE_ h;intro e q h;simp only[k9]at h;exact zoV_ (zbK_ y fo g.toCg fs h.2).pe (zgc_ h.1 _ _)
 |Z,E,fo,g,.ret y,st,fs,h=>by
  apply sR_ h;intro e q h;cases e with
  |none=>cases h
  |some e=>exact zqz_ (zbK_ y fo g.toCg fs h).pe
 |Z,E,fo,g,.retN,st,fs,h=>by
  apply sR_ h;intro e q h;cases nC.mp h;exact zoy_
 |Z,E,fo,g,.if_ d a b,st,fs,h=>by
  apply sI_ h;intro e x y q h;simp only[k9]at h;exact zkM_ ((zc_ d fo g.toCg fs.l h.1.1.2).pt h.1.1.1) (zV_ fo g a fs.r.l h.1.2) (zV_ fo g b fs.r.r h.2)
 |Z,E,fo,g,.view is d,st,fs,h=>zjW_ fo g d fs h
 |Z,E,fo,g,.ifL d a b,st,fs,h=>by
  apply sI_ h;intro e x y q h;simp only[k9]at h;exact zkM_ (zpM_ (zc_ d fo g.toCg fs.l h.1.1.2).pe (zem_ h.1.1.1)) (zV_ fo g a fs.r.l h.1.2) (zV_ fo g b fs.r.r h.2)
 |Z,E,fo,g,.ifY d a b,st,fs,h=>by
  apply sI_ h;intro e x y q h;simp only[k9]at h;exact zkM_ ((zbK_ d fo g.toCg fs.l h.1.1.2).pt h.1.1.1) (zV_ fo g a fs.r.l h.1.2) (zV_ fo g b fs.r.r h.2)
 |Z,E,fo,g,.for_ ik src tg b,st,fs,h=>by
  apply sF_ h;intro t it x q h;simp only[k9]at h;exact zpc_ g.own g.calm (zoP_ fo g.toCg (znT_ h.1.1.2) h.1.2 (zgS_ src fo g.toCg fs.l) λes z=>⟨zaj_ src fo g.toCg fs.l z,(zI_ z).1⟩) (tg_ok g.toCg g.nd (.inl g.fn) h.1.1.2) (zV_ fo g b fs.r h.2) (zds_ h.1.1.1)
 |Z,E,fo,g,.while_ d b,st,fs,h=>by
  apply sW_ h;intro e x q h;simp only[k9]at h;exact zkz_ g.own ((zc_ d fo g.toCg fs.l h.1.2).pt h.1.1) (zV_ fo g b fs.r h.2)
 |Z,E,fo,g,.pass,st,fs,h=>by
  rcases(mK _ _).mp h with h |h
  ·apply sP_ h;intro q;exact zmq_
  ·apply sE_ h;intro e q h
   apply kK_ h;intro d n p h;cases d<;>first |exact zq5_ |cases h
 |Z,E,fo,g,.cont,st,fs,h=>by
  apply sC_ h;intro q;exact zfY_
 |Z,E,fo,g,.never,st,fs,h=>zj4_
 |Z,E,fo,g,.try0 b bE,st,fs,h=>by
  apply sT_ h;intro x a r y q h;simp only[k9]at h;have hb:=zV_ (Z:=Z.nox) (E:=E0) fo g.nox b fs.l h.1;have hl:=zV_ fo g bE fs.r h.2;exact zlI_ hb hl
theorem zV_:∀{Z:Cx}{E:XK}(fo:T.Ok G Z.K Z.mg) (g:Cq Z c k E) (ss:List S) {st:List me},AllH Z k (S.fcss ss)->chkSs T G c ss st=uF->PSs Z st (S.dens Z.K G E ss)
 |Z,E,fo,g,[],st,fs,h=>by
  unfold chkSs at h;rw[S.dens,mE.mp h];exact zmZ_
 |Z,E,fo,g,s::ss,st,fs,h=>by
  apply sc_ h;intro a t h;simp only[k9]at h;exact zj7_ (zjW_ fo g s fs.l h.1) (zV_ fo g ss fs.r h.2)
end
end
theorem zeA_ {α:Type}{p:α->Prop}:∀x∈([]:List α),p x:=λ_ h=>by cases h
theorem ze_ {α:Type}{p:α->Prop}{a:α}{l:List α}(h:p a)(t:∀x∈l,p x):∀x∈a::l,p x:=λx hx=>by
 rcases lC.mp hx with rfl |hx
 ·exact h
 ·exact t x hx
theorem ftt_u {K:l4}{x:Str}{xs:List (List Nat)}(h:FtT K x xs):SqU K (gA K x) (xs.map tx):=by
 rcases h (λ_=>uE)with h |h
 ·rcases h with h |⟨_,h⟩<;>cases h
 ·exact h
noncomputable def AllF (Φ:Fc->Prop):List Fc->Prop
 |[]=>True
 |φ::l=>Φ φ/\AllF Φ l
theorem AllF.mem {Φ:Fc->Prop}:∀{l:List Fc},AllF Φ l->∀φ∈l,Φ φ
 |[],_,_,h=>by cases h
 |ψ::l,h,φ,hm=>by
  rcases lC.mp hm with rfl |hm
  ·exact h.1
  ·exact AllF.mem h.2 φ hm
section
variable {P:lY}{w:mq}{K:mT}{mg:Str->Option aT}{base:Heap}{x q:Str}{st:me}{N ps:List Str}{k:Nat}{T:Ft}{G:Gi}{body:List S}
theorem cq_of (S:FnScope N ps (defScope st)){f:lu}{ah:aT}{A:mG}{outer:List PySem.Env}{s:ll}{H:Hp}{E:XK}(hr:Room k (A.deeper (envOfC q (defScope st) s.heap.objs.size f ah))):
  Cq (cxOf CX0 P w K mg base N q (defScope st) f ah A outer s H E) ⟨N,(defScope st).names⟩ k E where
 N:=rfl
 nm:=rfl
 kind:=S.kind
 calm:=rfl
 room:=hr
 pass:=zkI_
 cells:=λx hx=>by
  rcases hx with hx |hx
  ·exact zeF_ hx
  ·exact absurd rfl (S.nofree _ (nu hx))
 fn:=λ_=>rfl
 nd:=S.nd
 own:=PassesOwn.leaving
 ex:=rfl
 stack:=⟨rfl,rfl⟩
theorem zjZ_ {n m:Nat}{vs:List V}{H:Hp}{Q:VK}{E:XK}(h:CtG K (fnOf G n m body) vs H Q E):vs.length=n:=by
 obtain⟨F,h,ds,hs,dj,sh,os,fin⟩:=h;unfold fnOf at fin;split at fin
 ·rename_i hd
  rw[<- ODs.len os,hd]
 ·exact fin.elim
theorem _root_.L2.Fun.ok0 {f:lu}{fd:mW}{sp:Sp}(F:Fun K x q st f fd)(S:FnScope N ps (defScope st))(len:∀vs H Q E,sp vs H Q E->vs.length=ps.length)
  (hb:∀(ah:aT) (A:mG) (outer:List PySem.Env) (s:ll) (H:Hp) (vs:List V) (Q:VK) (E:XK),Room k (A.deeper (envOfC q (defScope st) s.heap.objs.size f ah))->sp vs H Q E ->
   ∃t,PSs (cxOf CX0 P w K mg base N q (defScope st) f ah A outer s H E) (defBody st) t/\t {nx:=λ_ H'=>Q .non H',rt:=Q} (start N vs) H):FnOk P w K mg base CX0 (k+1) f fd ps sp:=by
 obtain⟨oc,od,kV,doc,pm,an,ah,ct,aj,rfl,lk,bt⟩:=F.ex;exact fn_of lk bt S len (hb ah)
theorem _root_.L2.FunD.ok0 {f:lu}{fd:mW}{sp:Sp}{T:lu}(F:FunD K T x q st f fd)(S:FnScope N ps (defScope st))(len:∀vs H Q E,sp vs H Q E->vs.length=ps.length)
  (hb:∀(ah:aT) (A:mG) (outer:List PySem.Env) (s:ll) (H:Hp) (vs:List V) (Q:VK) (E:XK),Room k (A.deeper (envOfC q (defScope st) s.heap.objs.size f ah))->sp vs H Q E ->
   ∃t,PSs (cxOf CX0 P w K mg base N q (defScope st) f ah A outer s H E) (defBody st) t/\t {nx:=λ_ H'=>Q .non H',rt:=Q} (start N vs) H):FnOk P w K mg base CX0 (k+1) f fd ps sp:=by
 obtain⟨oc,od,kV,doc,pm,an,ah,ct,aj,rfl,lk,bt⟩:=F.ex;exact fn_of lk bt S len (hb ah)
theorem okV {n m:Nat}(g0:G.Ok K)(fo:T.Ok G K mg)(fs:AllF (Fc.H P w K mg base k) (S.fcss body))(hc:chkSs T G ⟨N,(defScope st).names⟩ body (defBody st)=uF)
  (S:FnScope N ps (defScope st)) (b:Bnd K x q st ps) (hp:ps.length=n) (hm:N.length=n+m):OkF P w K mg base CX0 (k+1) x q st ps (CtG K (fnOf G n m body)):=λf fd F=>
 ⟨F.ok0 S (λvs H Q E h=>(zjZ_ h).trans hp.symm) λah A outer s H vs Q E hr h=>⟨VI.S.dens K G E body,zV_ fo (cq_of S hr) body fs.mem hc,zmn_ g0 hm vs H Q E h⟩,b f fd F⟩
theorem okVD {n m:Nat}(g0:G.Ok K)(fo:T.Ok G K mg)(fs:AllF (Fc.H P w K mg base k) (S.fcss body))(hc:chkSs T G ⟨N,(defScope st).names⟩ body (defBody st)=uF)
  (S:FnScope N ps (defScope st)) (hp:ps.length=n) (hm:N.length=n+m):OkFD P w K mg base CX0 (k+1) x q st ps (CtG K (fnOf G n m body)):=λT f fd F=>
 F.ok0 S (λvs H Q E h=>(zjZ_ h).trans hp.symm) λah A outer s H vs Q E hr h=>⟨VI.S.dens K G E body,zV_ fo (cq_of S hr) body fs.mem hc,zmn_ g0 hm vs H Q E h⟩
noncomputable abbrev X.n (i:Int):X:=.k (.int i)
abbrev X.i (a:X)(n:Int):X:=.bin .ix a (.k (.int n))
abbrev GG (P:lY)(w:mq)(K:l4)(mg:Str->Option aT)(base:Heap)(k:Nat)(x:Str)(ps:List Str)(f:Fn):Prop:=Gd P w K mg base CX0 k x ps (CtG K f)
theorem fkc {j:Nat}{f:Fn}(g:GG P w K mg base j x ps f)(h:j<=k:=by decide):Fc.H P w K mg base k (.call f x):=⟨ps,j,h,g⟩
theorem fkk {j:Nat}{f:Fn}(g:Gk P w K mg base CX0 j x (gA K x) ps (CtG K f))(h:j+1<=k:=by decide):Fc.H P w K mg base k (.make f x):=⟨ps,j,h,g⟩
theorem okW {n m:Nat}(g0:G.Ok K)(fo:T.Ok G K mg)(fs:AllF (Fc.H P w K mg base k) (S.fcss body))(hc:chkSs T G ⟨N,(defScope st).names⟩ body (defBody st)=uF:=by decide +kernel)
  (S:FnScope N ps (defScope st):=by exact⟨rfl,rfl,rfl,by decide +kernel,rfl,by decide +kernel,by decide +kernel⟩)
  (b:Bnd K x q st ps:=by first |exact λ_ _ F=>Fun.binds1 rfl F λ_ _ _ _ _ _ _=>rfl |exact λ_ _ F=>Fun.binds2 rfl F λ_ _ _ _ _ _ _ _=>rfl |exact λ_ _ F=>Fun.binds3 rfl F λ_ _ _ _ _ _ _ _ _=>rfl |exact λ_ _ F=>Fun.binds4 rfl F λ_ _ _ _ _ _ _ _ _ _=>rfl)
  (hp:ps.length=n:=by rfl) (hm:N.length=n+m:=by rfl):OkF P w K mg base CX0 (k+1) x q st ps (CtG K (fnOf G n m body)):=okV g0 fo fs hc S b hp hm
theorem zmE_ {CX:CXT}{C:lu}{sp:Sp}(F:GkD P w K mg base CX k x C ps [] sp):Gk P w K mg base CX k x C ps sp:=by
 obtain⟨f,fd,ds,F,M,hm,hv,hb⟩:=F;cases hv;exact⟨f,fd,F,M,hm,hb⟩
theorem bnd10 {T f:lu}{fd:mW}{arr:Array aT}{n:Nat}{oc:aT}{od:Option lu}{aj:Array (Option aT)}(hp:ps.length=10)(F:FunD K T x q st f fd)(lT:K.lookup T=uD ⟨oc,od,.seq arr n,aj⟩)(hl:arr.toList.length=5)
  (h:∀(d0 d1 d2 d3 d4:aT) (kV doc pm:aT) (an:Option lu) (ah ct:aT) (u0 u1 u2 u3 u4 u5 u6 u7 u8 u9:aT) (s:ll),(∃o,s.heap.get? T=uD o/\o.data=.seq #[d0,d1,d2,d3,d4] n)->BindsTo s (W.fnOf x q (defArgs st) (defBody st) (defScope st) (.ref T) kV doc pm an ah ct) ⟨[u0,u1,u2,u3,u4,u5,u6,u7,u8,u9],[]⟩ (ps.zip [u0,u1,u2,u3,u4,u5,u6,u7,u8,u9])):Binds K fd ps (arr.toList.drop 5):=by
 obtain⟨d0,d1,d2,d3,d4,rfl⟩:=arr5 hl;exact zkh_ hp F lT (h d0 d1 d2 d3 d4)
theorem FnOk.cx0 {f:lu}{fd:mW}{sp ib:Sp}(F:FnOk P w K mg base CX0 k f fd ps sp)(h:∀vs H Q E,ib vs H Q E->sp vs H Q E0):FnOk P w K mg base CX0 k f fd ps ib:=by
 refine⟨λvs H Q E q=>F.len _ _ _ _ (h _ _ _ _ q),λA outer s H args us vs Q E hr e0 hb r q=>codeAny_mono (F.run A outer s H args us vs Q E0 hr e0 hb r (h _ _ _ _ q)) λr s' z=>?_⟩
 cases r with
 |ok fl=>cases fl<;>exact z
 |error e=>exact z.elim
theorem zhp_:∀(ns:List Int) {H:Hp},DRs K (ns.map D.int) (ns.map V.int) H
 |[],_=>by unfold DRs;rfl
 |n::ns,H=>by rw[lq,lq];unfold DRs;exact⟨_,_,rfl,by unfold DR;rfl,zhp_ ns⟩
noncomputable def scr (ns:List Int):D:=.fz (.nd .scr (ns.map .int))
theorem zmi_ {f:Fn}(hf:∀ns:List Int,ns.length<=63->BitsOk ns->f.val [scr ns]=.ok (.bl uF)):∀vs H Q E,spL K vs H Q E->CtG K f vs H Q E0:=by
 rintro vs H Q E ⟨a,ns,rfl,hS,hl,hb,q⟩;refine zgY_ (ds:=[.nd .scr (ns.map .int)]) (Same.refl H) ?_ ?_
 ·unfold DRs;exact⟨_,_,rfl,by unfold DR;exact⟨a,_,rfl,hS,zhp_ ns⟩,by unfold DRs;rfl⟩
 ·have:[D.nd .scr (ns.map .int)].map D.vw=[scr ns]:=by
   unfold D.vw scr D.imm;rfl
  rw[this,hf ns hl hb];rintro F' H' x v h fresh d s o;have o:(∀p,h p=uE)/\DR K (.bl uF) v F':=by
   have o:OD K (.bl uF) v F' h:=o;unfold OD at o;exact o
  cases o.2.bl;exact q H'
theorem okLV {fa:lu}{fd:mW}{f:Fn}(F:FnOk P w K mg base CX0 k fa fd ps (CtG K f))(hf:∀ns:List Int,ns.length<=63->BitsOk ns->f.val [scr ns]=.ok (.bl uF)):FnOk P w K mg base CX0 k fa fd ps (spL K):=FnOk.cx0 F (zmi_ hf)
end
section
variable {G:Gi}{pn:Nat->Bool}{env e:Env}{ss a b:List S}{y:Y}{c:X}{d:D}{i:Nat}{ds:List D}
theorem rf_ {α:Type}{a:α}:a=a:=of_eq_true (eq_self a)
theorem zh1_ (r:Mr Env Fl)(f g:Env->Mr Env Fl):seqM (seqM r f) g=seqM r λe=>seqM (f e) g:=by
 cases r with
 |ok o e=>cases o<;>rfl
 |ex c e=>rfl
 |no=>rfl
theorem zhv_:∀(a:List S) (env:Env),seqM (S.runs G pn a env) (λe=>S.runs G pn b e)=S.runs G pn (a++b) env
 |[],env=>by rw[S.runs];rfl
 |s::a,env=>by
  rw[l6,S.runs,S.runs,zh1_];congr 1;funext e;exact zhv_ a e
theorem zlh_ (h:y.ev G env=.ok d e)(hp:pn i=uG)(hi:i<e.length):S.runs G pn (.asg i y::ss) env=S.runs G pn ss (e.set i (uD d)):=by
 rw[S.runs,S.run,h];show seqM (if pn i=uG/\i<e.length then .ok .nx (e.set i (uD d))else .no) _=_
 rw[if_pos ⟨hp,hi⟩];rfl
theorem zjm_ (h:y.ev G env=.ok d e):S.runs G pn (.ex y::ss) env=S.runs G pn ss e:=by
 rw[S.runs,S.run,h];rfl
theorem zcx_ (h:(c.ev G env).bind blD=.ok uF):S.runs G pn (.if_ c a b::ss) env=S.runs G pn (a++ss) env:=by
 rw[S.runs,S.run,h,<- zhv_];rfl
theorem zbG_ (h:(c.ev G env).bind blD=.ok uG):S.runs G pn (.if_ c a b::ss) env=S.runs G pn (b++ss) env:=by
 rw[S.runs,S.run,h,<- zhv_];rfl
theorem zbI_ (h:D.colds ds=uF)(i:Nat):pins ds i=uG:=by
 unfold pins;induction ds generalizing i with
 |nil=>rfl
 |cons d ds ih=>
  unfold D.colds at h;rw[k9]at h;cases i with
  |zero=>show(!d.cold)=uG;rw[h.1];rfl
  |succ i=>exact ih h.2 i
theorem zbH_:∀{ds:List D}{env:Env},D.colds ds=uF->outs ds env=ds
 |[],_,_=>by unfold outs;rfl
 |d::ds,[],h=>by
  unfold D.colds at h;rw[k9]at h;unfold outs;rw[if_pos h.1,zbH_ h.2]
 |d::ds,o::env,h=>by
  unfold D.colds at h;rw[k9]at h;unfold outs;rw[if_pos h.1,zbH_ h.2]
theorem zgP_ {f:Fn}{ds':List D}(h:f ds=.ok d ds'):f.val ds=.ok d:=by unfold Fn.val;rw[h]
theorem zlH_ (ns:List Int):(scr ns).vw=scr ns:=by unfold scr D.vw D.imm;rfl
theorem znk_ (i:Int):(D.int i).vw=.int i:=rfl
theorem zl3_ (l:List Nat):(D.str l).vw=.str l:=rfl
theorem bl_vw (b:Bool):(D.bl b).vw=.bl b:=rfl
theorem zrB_:D.non.vw=.non:=rfl
theorem zgR_ (ns:List Int):lenA [scr ns]=.ok (.int ns.length):=by
 show Mo.ok (D.int ((ns.map D.int).length:Nat))=_
 rw[k8]
theorem zhL_ {α:Type}{l:List α}{i:Int}{a:α}(h0:0<=i)(h:l[i.toNat]?=uD a):atI l i=uD a:=by
 have hi:=(lD.mp h).1;unfold atI ixN;rw[if_pos h0,if_pos (by omega)]
 exact h
section
variable (i j:Int)
theorem vd_lt:ltD (.int i) (.int j)=.ok (.bl (decide (i<j))):=rfl
theorem vd_le:leD (.int i) (.int j)=.ok (.bl (decide (i<=j))):=rfl
theorem vd_gt:gtD (.int i) (.int j)=.ok (.bl (decide (j<i))):=rfl
theorem vd_ge:geD (.int i) (.int j)=.ok (.bl (decide (j<=i))):=rfl
theorem zqM_:addA (.int i) (.int j)=.ok (.int (i+j)):=rfl
theorem zp8_:subD (.int i) (.int j)=.ok (.int (i-j)):=rfl
theorem zqm_:negD (.int i)=.ok (.int (-i)):=rfl
theorem vd_bl (b:Bool):blD (.bl b)=.ok b:=rfl
theorem vd_int:intD (.int i)=.ok i:=rfl
theorem zrt_ (l:List Nat):strOf (.str l)=.ok l:=rfl
end
theorem vd_mod {i j:Int}(h:0<j):modD (.int i) (.int j)=.ok (.int (i % j)):=by
 show Mo.grd _ _=_
 exact if_pos h
theorem zpE_ {i j:Int}(h:CDivG i j):divD (.int i) (.int j)=.ok (.int (i / j)):=by
 show Mo.grd _ _=_
 exact if_pos h
theorem zmj_ {i j:Int}(h:IntMulOk i j):mulD (.int i) (.int j)=.ok (.int (i*j)):=by
 show Mo.grd _ _=_
 exact if_pos h
theorem vd_ix {ns:List Int}{k:Int}(h0:0<=k)(h:k<ns.length):ixA (scr ns) (.int k)=.ok (.int (ns.getD k.toNat 0)):=by
 show Mo.opt ((atI (ns.map D.int) k).map D.vw)=_
 have hk:k.toNat<ns.length:=by lia
 rw[zhL_ h0 (a:=.int (ns.getD k.toNat 0)) (by rw[lB,lj hk];simp[mQ,hk])]
 rfl
end
section
variable {α β s:Type}{G:Gi}{pn:Nat->Bool}{env e:Env}{d x y:D}
theorem zcn_ (g:Env->Mr Env Fl):seqM (.ok .nx e) g=g e:=of_eq_true (eq_self _)
theorem zrf_ (g:Env->Mr Env Fl):seqM (.ok (.rt d) e) g=.ok (.rt d) e:=of_eq_true (eq_self _)
theorem sq_ct (g:Env->Mr Env Fl):seqM (.ok .ct e) g=.ok .ct e:=of_eq_true (eq_self _)
theorem sq_ex (c:Xc)(g:Env->Mr Env Fl):seqM (.ex c e) g=.ex c e:=of_eq_true (eq_self _)
theorem zh5_ (a:α)(t:s)(k:α->s->Mr s β):(Mr.ok a t).bind k=k a t:=of_eq_true (eq_self _)
theorem mr_ex (c:Xc)(t:s)(k:α->s->Mr s β):(Mr.ex c t:Mr s α).bind k=.ex c t:=of_eq_true (eq_self _)
theorem zdO_ (a:α)(k:α->Mo β):(Mo.ok a).bind k=k a:=of_eq_true (eq_self _)
theorem zoK_ (a:α):Mo.opt (uD a)=.ok a:=of_eq_true (eq_self _)
theorem ifM_t (r1 r2:Mr Env Fl):ifM env (.ok uF) r1 r2=r1:=of_eq_true (eq_self _)
theorem ifM_f (r1 r2:Mr Env Fl):ifM env (.ok uG) r1 r2=r2:=of_eq_true (eq_self _)
theorem and_t (r:Mo D):andD (.bl uF) r=r:=of_eq_true (eq_self _)
theorem and_f (r:Mo D):andD (.bl uG) r=.ok (.bl uG):=of_eq_true (eq_self _)
theorem or_t (r:Mo D):orD (.bl uF) r=.ok (.bl uF):=of_eq_true (eq_self _)
theorem or_f (r:Mo D):orD (.bl uG) r=r:=of_eq_true (eq_self _)
theorem noE (o:Fl):noEx (.ok o e)=.ok o e:=of_eq_true (eq_self _)
theorem ag_d (d:D)(gs:List Ag):dsOf (.d d::gs)=(dsOf gs).map λds=>d::ds:=of_eq_true (eq_self _)
theorem ag_0:dsOf []=uD []:=of_eq_true (eq_self _)
theorem zcg_ (i:Nat)(hp:pn i=uG)(hi:i<e.length):asgM pn i (.ok d e)=.ok .nx (e.set i (uD d)):=by
 unfold asgM;rw[zh5_,if_pos ⟨hp,hi⟩]
theorem zrq_:dropM (.ok d e)=.ok .nx e:=of_eq_true (eq_self _)
theorem zq3_:retM (.ok d e)=.ok (.rt d) e:=of_eq_true (eq_self _)
theorem zqh_ (l:Env):getE (uD d::l) 0=.ok d.vw:=of_eq_true (eq_self _)
theorem get_s (o:Option D)(l:Env)(n:Nat):getE (o::l) (n+1)=getE l n:=of_eq_true (eq_self _)
theorem mv_0 (l:Env):mvM (uD d::l) 0=.ok d (uE::l):=of_eq_true (eq_self _)
theorem mv_s (o:Option D)(l:Env)(n:Nat):mvM (o::l) (n+1)=match mvM l n with |.ok d e=>.ok d (o::e)|.ex c e=>.ex c (o::e)|.no=>.no:=by
 unfold mvM;rw[m9]
 match l[n]? with
 |some (uD d)=>rfl
 |some uE=>rfl
 |none=>rfl
def keep (m:Mo D)(env:Env)(u:List Nat):Mr Env D:=match m with
 |.ok d=>if d.new then .ok d env else .ok d (frzE env u)
 |.ex c=>.ex c env
 |.no=>.no
theorem zh4_ (x:X):stX G env x=keep (x.ev G env) env x.uses:=rfl
theorem zr_ (u:List Nat)(hn:d.new=uF):keep (.ok d) env u=.ok d env:=if_pos hn
theorem zcd_ (u:List Nat)(hn:d.new=uG):keep (.ok d) env u=.ok d (frzE env u):=if_neg (by rw[hn];decide)
section
variable (neg:Bool)(lo hi:Option Int)
theorem fz_ix:ixA (.fz d) x=ixA d x:=of_eq_true (eq_self _)
theorem fz_in:inA neg x (.fz d)=inA neg x d:=of_eq_true (eq_self _)
theorem zpQ_:lenA [.fz d]=lenA [d]:=of_eq_true (eq_self _)
theorem zmv_:addA (.fz d) x=addA d x:=of_eq_true (eq_self _)
theorem zmc_:addA x (.fz d)=addA x d:=of_eq_true (eq_self _)
theorem zrL_:slA (.fz d) lo hi=slA d lo hi:=of_eq_true (eq_self _)
theorem zqX_ (cs:List Str)(f:Str):fldD cs f (.fz d)=fldD cs f d:=of_eq_true (eq_self _)
theorem zmL_:listA [.fz d]=listA [d]:=of_eq_true (eq_self _)
theorem zn9_:walkA [.fz d]=walkA [d]:=of_eq_true (eq_self _)
theorem zrM_:allD [.fz d]=allD [d]:=of_eq_true (eq_self _)
theorem zog_:sortI [.fz d]=sortI [d]:=of_eq_true (eq_self _)
theorem fz_is:isD neg (.fz d) x=isD neg d x:=of_eq_true (eq_self _)
theorem zpJ_ (n:String):isaD n (.fz d)=isaD n d:=of_eq_true (eq_self _)
theorem fz_bl:blD (.fz d)=blD d:=of_eq_true (eq_self _)
theorem zpX_:intD (.fz d)=intD d:=of_eq_true (eq_self _)
theorem zp9_:revD [.fz d]=revD [d]:=of_eq_true (eq_self _)
theorem fz_rv:rvD (.fz d)=rvD d:=of_eq_true (eq_self _)
theorem zmo_:zipD [.fz d,x]=zipD [d,x]:=of_eq_true (eq_self _)
theorem znL_:zipD [x,.fz d]=zipD [x,d]:=of_eq_true (eq_self _)
theorem zn6_:enumD [.fz d]=enumD [d]:=of_eq_true (eq_self _)
theorem zp3_ (n:Nat):eqT n (.fz d) x=eqT n d x:=by cases n<;>rfl
theorem zhB_ (n:Nat):eqT n x (.fz d)=eqT n x d:=by cases n<;>rfl
theorem fz_eq:eqD neg (.fz d) x=eqD neg d x:=by unfold eqD;rw[zp3_]
theorem zpD_:eqD neg x (.fz d)=eqD neg x d:=by unfold eqD;rw[zhB_]
theorem zlE_ (h:d.imm=uG):(D.fz d).vw=.fz d:=by unfold D.vw;rw[if_neg];rw[show(D.fz d).imm=d.imm from by rw[D.imm]];rw[h];decide
end
theorem zfU_ (i:Int):X.ev G env (.k (.int i))=.ok (.int i):=rf_
theorem zpS_ (l:List Nat):X.ev G env (.k (.str l))=.ok (.str l):=rf_
theorem xk_bl (b:Bool):X.ev G env (.k (.bl b))=.ok (.bl b):=rf_
theorem zmT_:X.ev G env (.k .non)=.ok .non:=rf_
theorem zrN_ (n:Str)(i:Int):X.ev G env (.g n (.int i))=.ok (.int i):=rf_
theorem zqg_ (n:Str)(l:List Nat):X.ev G env (.g n (.str l))=.ok (.str l):=rf_
theorem or_b (a b:Bool):orD (.bl a) (.ok (.bl b))=.ok (.bl (a ||b)):=by cases a<;>rfl
theorem and_b (a b:Bool):andD (.bl a) (.ok (.bl b))=.ok (.bl (a && b)):=by cases a<;>rfl
theorem min_i (i j:Int):minD [.int i,.int j]=.ok (.int (min i j)):=of_eq_true (eq_self _)
theorem zci_ {i j:Int}(h0:0<j)(h1:j<1073741824):divD (.int i) (.int j)=.ok (.int (i / j)):=zpE_ (zmV_ h0 (by lia))
theorem zcp_ {i j:Int}(h0 : -18446744073709551616<i)(h1:i<18446744073709551616):mulD (.int i) (.int j)=.ok (.int (i*j)):=zmj_ (zeg_ (.inl ⟨by lia,by lia⟩))
theorem zmy_ {i j:Int}(h0 : -18446744073709551616<j)(h1:j<18446744073709551616):mulD (.int i) (.int j)=.ok (.int (i*j)):=zmj_ (zeg_ (.inr ⟨by lia,by lia⟩))
theorem nw_bl (b:Bool):(D.bl b).new=uF:=by rw[D.new]<;>simp
theorem zd4_ (i:Int):(D.int i).new=uF:=by rw[D.new]<;>simp
theorem zgu_ (l:List Nat):(D.str l).new=uF:=by rw[D.new]<;>simp
theorem zm6_:D.non.new=uF:=by rw[D.new]<;>simp
theorem zgH_ (k:Nd)(ds:List D):(D.nd k ds).new=D.news ds:=by rw[D.new]
theorem nw_c (d:D)(ds:List D):D.news (d::ds)=(d.new && D.news ds):=by rw[D.news]
theorem nw_0:D.news []=uF:=by rw[D.news]
section
variable (a b c x:X)(as:List X)
theorem xv_v (i:Nat):X.ev G env (.v i)=getE env i:=rf_
theorem xv_gt (n:Str)(ls:List (List Nat))(h:(n,ls)∈G.kt):X.ev G env (.gt n ls)=.ok (.nd .ktup (ls.map .str)):=by rw[X.ev,if_pos h]
theorem zqt_ (o:Bo):X.ev G env (.bin o a b)=(a.ev G env).bind λx=>(b.ev G env).bind λy=>o.f x y:=rf_
theorem xv_ch (o o':Bo):X.ev G env (.ch o o' a b c)=(a.ev G env).bind λx=>(b.ev G env).bind λy=>chD o o' x y (c.ev G env):=rf_
theorem zrF_ (o o' aD:Bo):X.ev G env (.ch3 o o' aD a b c x)=(a.ev G env).bind λu=>(b.ev G env).bind λy=>ch3D o o' aD u y (c.ev G env) (x.ev G env):=rf_
theorem zpq_:X.ev G env (.and a b)=(a.ev G env).bind λx=>andD x (b.ev G env):=rf_
theorem xv_or:X.ev G env (.or a b)=(a.ev G env).bind λx=>orD x (b.ev G env):=rf_
theorem zrc_:X.ev G env (.not a)=(a.ev G env).bind λx=>(blD x).bind λb=>.ok (.bl (!b)):=rf_
theorem zmF_:X.ev G env (.neg a)=(a.ev G env).bind negD:=rf_
theorem zpn_:X.ev G env (.ifx c a b)=((c.ev G env).bind blD).bind λt=>if t=uF then a.ev G env else b.ev G env:=rf_
theorem xv_sl (lo hi:Option X):X.ev G env (.sl a lo hi)=(a.ev G env).bind λx=>(X.evO G env lo).bind λl=>(X.evO G env hi).bind λh=>slA x l h:=rf_
theorem zq9_:X.ev G env (.tup as)=(X.evs G env as).bind λds=>.lim ds.length (.ok (.nd .tup ds)):=rf_
theorem zqq_:X.ev G env (.lst as)=(X.evs G env as).bind λds=>.lim ds.length (.ok (.nd .lst ds)):=rf_
theorem zrA_ (f:Str):X.ev G env (.fld a f)=(a.ev G env).bind (fldD G.cs f):=rf_
theorem zgK_ (f:Fn)(n:Str):X.ev G env (.call f n as)=(X.evs G env as).bind λds=>f.val (ds.map .vw):=rf_
theorem xv_bf (o:Bf):X.ev G env (.bf o as)=(X.evs G env as).bind o.f:=rf_
theorem zl1_ (f:Fn)(n:Str):X.ev G env (.make f n as)=(X.evs G env as).bind (makeD f n):=rf_
theorem xv_rv:X.ev G env (.rv a)=(a.ev G env).bind rvD:=rf_
theorem xv_lr:X.ev G env (.lr a b)=(a.ev G env).bind λx=>(b.ev G env).bind λy=>lrD x y:=rf_
theorem zpz_ (n:String):X.ev G env (.isa a n)=(a.ev G env).bind (isaD n):=rf_
theorem zir_:X.ev G env .dct0=.ok (.nd (.dct []) []):=rf_
theorem xs_0:X.evs G env []=.ok []:=rf_
theorem xs_c:X.evs G env (a::as)=(a.ev G env).bind λd=>(X.evs G env as).bind λds=>.ok (d::ds):=rf_
theorem xo_0:X.evO G env uE=.ok uE:=rf_
theorem xo_s:X.evO G env (uD a)=(a.ev G env).bind λd=>(intD d).bind λi=>.ok (uD i):=rf_
theorem xt_0:X.evT G env uE=.ok uF:=rf_
theorem xt_s:X.evT G env (uD a)=(a.ev G env).bind blD:=rf_
end
def En (r:Mr Env Fl)(Q:Fl->Env->Prop):Prop:=∃o e,r=.ok o e/\Q o e
theorem zb5_ {l:List β}{enc:β->List D}{is:List Nat}{body k:Env->Mr Env Fl}{Q:Fl->Env->Prop}(P:List β->Env->Prop)(h0:P [] env)
  (hs:∀d x r e,l=d++x::r->P d e->∃e',setG pn e is (enc x)=uD e'/\En (body e') λo bV=>((o=.nx\/o=.ct)/\P (d++[x]) bV)\/((∃v,o=.rt v)/\Q o bV))
  (hk:∀e,P l e->En (k e) Q):En (seqM (forM (λe x=>match setG pn e is x with |some e'=>body e' |none=>.no) (l.map enc) env) k) Q:=by
 suffices main:∀(r d:List β) (e:Env),l=d++r->P d e->En (forM (λe x=>match setG pn e is x with |some e'=>body e' |none=>.no) (r.map enc) e) (λo e=>(o=.nx/\P l e)\/((∃v,o=.rt v)/\Q o e)) by
  obtain⟨o,e,h,q⟩:=main l [] env rfl h0;rw[h];rcases q with⟨rfl,q⟩|⟨⟨v,rfl⟩,q⟩
  ·rw[zcn_];exact hk e q
  ·rw[zrf_];exact⟨_,_,rfl,q⟩
 intro r;induction r with
 |nil=>intro d e hl hp;rw[mU]at hl;subst hl;exact⟨.nx,e,rfl,.inl ⟨rfl,hp⟩⟩
 |cons x r ih=>
  intro d e hl hp;obtain⟨e',h1,o,bV,h2,q⟩:=hs d x r e hl hp;rw[lq];unfold forM;simp only[h1,h2];rcases q with⟨h |h,q⟩|⟨⟨v,h⟩,q⟩
  ·subst h;exact ih (d++[x]) bV (by rw[hl,oy];rfl) q
  ·subst h;exact ih (d++[x]) bV (by rw[hl,oy];rfl) q
  ·subst h;exact⟨_,_,rfl,.inr ⟨⟨v,rfl⟩,q⟩⟩
theorem zlT_ {l:List β}{enc:β->List D}{ik:Ik}{x:X}{tg:Tg}{b ss:List S}{Q:Fl->Env->Prop}{e1:Env}{items:List D}(P:List β->Env->Prop)(hg:keep (x.ev G env) env x.uses=.ok d e1)(hi:ik.f [d]=.ok items)(ht:tgsD tg items=uD (l.map enc))(h0:P [] e1)
  (hs:∀d x r e,l=d++x::r->P d e->∃e',setG pn e tg.is (enc x)=uD e'/\En (S.runs G pn b e') λo bV=>((o=.nx\/o=.ct)/\P (d++[x]) bV)\/((∃v,o=.rt v)/\Q o bV))
  (hk:∀e,P l e->En (S.runs G pn ss e) Q):En (S.runs G pn (.for_ ik [x] tg b::ss) env) Q:=by
 have e0:evG G env ([x].map .x)=.ok [.d d] e1:=by
  show((stX G env x).bind λd e=>(evG G e []).bind λgs e'=>.ok (.d d::gs) e')=_
  rw[zh4_,hg];rfl
 rw[S.runs,S.run,e0];have e1:forS pn ik tg (.ok [.d d] e1) (λe=>S.runs G pn b e)=forM (λe x=>match setG pn e tg.is x with |some e'=>S.runs G pn b e' |none=>.no) (l.map enc) e1:=by
  unfold forS;show(match ik.f [d]with |.ok items=>_ |_=>_)=_
  rw[hi];show(match tgsD tg items with |some xs=>_ |none=>_)=_
  rw[ht]<;>rfl
 rw[e1];exact zb5_ P h0 hs hk
theorem zaq_ {y:Y}{i:Nat}{ss:List S}(h:y.ev G env=.ok d env)(hp:pn i=uG)(hi:Nat.ble (i+1) env.length=uF:=by rfl):S.runs G pn (.asg i y::ss) env=S.runs G pn ss (env.set i (uD d)):=zlh_ h hp (Nat.le_of_ble_eq_true hi)
theorem zbi_ {l:List β}{enc:β->List D}{ik:Ik}{x:X}{tg:Tg}{b ss:List S}{Q:Fl->Env->Prop}{items:List D}(P:List β->Env->Prop)(hg:keep (x.ev G env) env x.uses=.ok d env)(hi:ik.f [d]=.ok items)(ht:tgsD tg items=uD (l.map enc))(h0:P [] env)
  (hs:∀d x r e,l=d++x::r->P d e->∃e',setG pn e tg.is (enc x)=uD e'/\En (S.runs G pn b e') λo bV=>((o=.nx\/o=.ct)/\P (d++[x]) bV)\/((∃v,o=.rt v)/\Q o bV))
  (hk:∀e,P l e->En (S.runs G pn ss e) Q):En (S.runs G pn (.for_ ik [x] tg b::ss) env) Q:=zlT_ P hg hi ht h0 hs hk
theorem zdU_ {l:List β}{enc:β->D}{i:Nat}{a:Env}{b:Env}{o:Option D}{body k:Env->Mr Env Fl}{Q:Fl->Env->Prop}(hi:a.length=i)(hp:pn i=uG)
  (hs:∀x∈l,En (body (a++uD (enc x).vw::b)) λo e=>o=.nx/\e=a++uD (enc x).vw::b)
  (hk:∀o,En (k (a++o::b)) Q):En (seqM (forM (λe x=>match setG pn e [i] x with |some e'=>body e' |none=>.no) (l.map λx=>[enc x]) (a++o::b)) k) Q:=by
 refine zb5_ (enc:=λx=>[enc x]) (λ_ e=>∃o,e=a++o::b) ⟨o,rfl⟩ (λd x r e hl he=>?_) (λe he=>?_)
 ·obtain⟨o,rfl⟩:=he
  refine⟨a++uD (enc x).vw::b,?_,?_⟩
  ·unfold setG
   rw[if_pos ⟨hp,by rw[lb,ly];lia⟩]
   unfold setG;rw[<- hi,qN _ _ (lp _),p9,m8]
  ·obtain⟨o',e',h1,rfl,rfl⟩:=hs x (by rw[hl];simp)
   exact⟨_,_,h1,.inl ⟨.inl rfl,_,rfl⟩⟩
 ·obtain⟨o,rfl⟩:=he;exact hk o
theorem znh_ (l:Env):frz1 (uD d::l) 0=uD d.vw::l:=of_eq_true (eq_self _)
theorem frz_n (l:Env):frz1 (uE::l) 0=uE::l:=of_eq_true (eq_self _)
theorem zpR_ (o:Option D)(l:Env)(n:Nat):frz1 (o::l) (n+1)=o::frz1 l n:=by
 unfold frz1;rw[m9]
 match l[n]? with
 |some (uD d)=>rfl
 |some uE=>rfl
 |none=>rfl
theorem zg7_ {c:Env->Mo Bool}{body k:Env->Mr Env Fl}{Q:Fl->Env->Prop}(P:Nat->Env->Prop)(m:Nat)(hm:m<100000)(h0:P 0 env)
  (hs:∀i e,i<=m->P i e->(c e=.ok uG/\En (k e) Q)\/(i<m/\c e=.ok uF/\En (body e) λo e'=>o=.nx/\P (i+1) e')):En (seqM (whileM c body fuelW env) k) Q:=by
 have fl:m<fuelW:=by unfold fuelW;lia
 suffices main:∀(n i:Nat) (e:Env),m<n+i->i<=m->P i e->En (whileM c body n e) (λo e=>o=.nx/\En (k e) Q) by
  obtain⟨o,e,h,rfl,q⟩:=main fuelW 0 env (by lia) (by lia) h0
  rw[h,zcn_];exact q
 intro n;induction n with
 |zero=>intro i e h1 h2;lia
 |succ n ih=>
  intro i e h1 h2 hp;unfold whileM;rcases hs i e h2 hp with⟨h,q⟩|⟨hi,h,o,e',hb,rfl,q⟩
  ·rw[h,ifM_f];exact⟨_,_,rfl,rfl,q⟩
  ·rw[h,ifM_t,hb];exact ih (i+1) e' (by lia) (by lia) q
def atS (env:Env)(i:Nat):Option D:=match env[i]? with |some o=>o |none=>uE
theorem atS_0 (o:Option D)(l:Env):atS (o::l) 0=o:=of_eq_true (eq_self _)
theorem atS_s (o:Option D)(l:Env)(n:Nat):atS (o::l) (n+1)=atS l n:=by unfold atS;rw[m9]
theorem zj0_ (i:Nat):atE env (i,[])=atS env i:=by
 unfold atE atS
 match env[i]? with
 |some (uD d)=>show d.at []=_;rw[D.at]
 |some uE=>rfl
 |none=>rfl
theorem zid_ {i:Nat}{c c':D}(h:atS env i=uD c):putE env (i,[]) c'=env.set i (uD c'):=by
 unfold putE;unfold atS at h
 match e:env[i]?,h with
 |some (uD d),_=>show env.set i (uD (d.put [] c'))=_;rw[D.put]
def call1 (f:Fn)(i:Nat)(ds:List D)(e:Env):Mr Env D:=match atS e i with
 |some c=>(match f (c::ds)with
  |.ok r (c'::_)=>.ok r (e.set i (uD c'))
  |.ok r []=>.ok r e
  |.ex x (c'::_)=>.ex x (e.set i (uD c'))
  |.ex x []=>.ex x e
  |.no=>.no)
 |none=>.no
def agD (ds:List D):List Ag:=ds.map .d
theorem zoq_:∀(ds:List D),resolve e (agD ds)=uD ds
 |[]=>rfl
 |d::ds=>by show(resolve e (agD ds)).map _=_;rw[zoq_ ds];rfl
theorem zoN_ (q:Pl):∀(ds:List D),apartOf q (agD ds)=uF
 |[]=>rfl
 |d::ds=>zoN_ q ds
theorem zl9_:∀(ds:List D),apartAll (agD ds)=uF
 |[]=>rfl
 |d::ds=>zl9_ ds
theorem zli_:∀(ds ds':List D),restE e (agD ds) ds'=e
 |[],ds'=>by cases ds'<;>rfl
 |d::ds,[]=>rfl
 |d::ds,_::ds'=>zli_ ds ds'
theorem zjE_ {f:Fn}{i:Nat}{ds:List D}:callG f (.l (i,[])::agD ds) e=call1 f i ds e:=by
 unfold callG;show(match(atE e (i,[])).bind λc=>(resolve e (agD ds)).map λds=>c::ds with |some ds'=>_ |none=>_)=_
 rw[zj0_,zoq_];unfold call1;cases h:atS e i with
 |none=>rfl
 |some c=>
  show(if(apartOf (i,[]) (agD ds) && apartAll (agD ds))=uF then _ else _)=_
  rw[zoN_,zl9_,if_pos (show(uF && uF)=uF from rfl)]
  dsimp only;cases f (c::ds)with
  |no=>rfl
  |ok r ds'=>
   cases ds' with
   |nil=>rfl
   |cons c' ds'=>show Mr.ok r (putE (restE e (agD ds) ds') (i,[]) c')=_;rw[zli_,zid_ h]
  |ex x ds'=>
   cases ds' with
   |nil=>rfl
   |cons c' ds'=>show Mr.ex x (putE (restE e (agD ds) ds') (i,[]) c')=_;rw[zli_,zid_ h]
def onS (T:String)(env:Env)(i:Nat)(m:Mr Env D):Mr Env D:=match atS env i with |some c=>if isK T c=uF then m else .no |none=>.no
theorem zmu_ (i:Nat)(as:List A)(T:String)(k:Pl->List Ag->Env->Mr Env D):lentG G env (.v i) as (isK T) k=onS T env i ((evG G env as).bind (k (i,[]))):=by
 unfold lentG onS;have e:Pt.ev G env (.v i)=if(atS env i).isSome then Mo.ok (i,[])else Mo.no:=by rw[Pt.ev,zj0_]
 rw[e];cases h:atS env i with
 |none=>rfl
 |some c=>
  have e2:=zj0_ (env:=env) i;rw[h]at e2;simp only[rf,if_true,e2]
theorem bm_v (o:Bm)(i:Nat)(x:X):Y.ev G (.bm o (.v i) [.x x]) env=onS o.ty env i ((keep (x.ev G env) env x.uses).bind λd e=>call1 o.f i [d] e):=by
 rw[Y.ev,zmu_];congr 1;show((stX G env x).bind λd e=>(evG G e []).bind λgs e'=>.ok (.d d::gs) e').bind _=_
 rw[zh4_];cases keep (x.ev G env) env x.uses with
 |ok d e=>exact zjE_ (ds:=[d])
 |ex c e=>rfl
 |no=>rfl
theorem sd_v (i:Nat)(k v:X):Y.ev G (.sd (.v i) k v) env=onS "dict" env i ((keep (k.ev G env) env k.uses).bind λa e=>(keep (v.ev G e) e v.uses).bind λd e'=>call1 setdF i [a,d] e'):=by
 rw[Y.ev,zmu_];congr 1;show((stX G env k).bind λa e=>((stX G e v).bind λd e'=>(evG G e' []).bind λgs e'=>.ok (.d d::gs) e').bind λgs e'=>.ok (.d a::gs) e').bind _=_
 rw[zh4_];cases keep (k.ev G env) env k.uses with
 |ok a e=>
  rw[zh5_,zh5_,zh4_];cases keep (v.ev G e) e v.uses with
  |ok d e'=>exact zjE_ (ds:=[a,d])
  |ex c e=>rfl
  |no=>rfl
 |ex c e=>rfl
 |no=>rfl
theorem zdc_ (x:X):Y.ev G (.pu x) env=keep (x.ev G env) env x.uses:=by rw[Y.ev,zh4_]
theorem ye_mv (i:Nat):Y.ev G (.mv i) env=mvM env i:=by rw[Y.ev]
theorem zqb_ (y:Y):Y.ev G (.not y) env=(y.ev G env).bind λd e=>moTo ((blD d).bind λb=>.ok (.bl (!b))) e:=by rw[Y.ev]
theorem zqQ_ (o:Bo)(y z:Y):Y.ev G (.bin o y z) env=(y.ev G env).bind λd e=>(z.ev G e).bind λd2 e2=>moTo (o.f d d2) e2:=by rw[Y.ev]
theorem to_ok (a:α):moTo (.ok a) e=.ok a e:=of_eq_true (eq_self _)
theorem zls_ {i:Nat}{k x:X}{d a c c' r d' a':D}(hx:x.ev G env=.ok d)(hd:d.new=uF)(hk:k.ev G env=.ok a)(ha:a.new=uF)(hc:atS env i=uD c)(hf:setIF [d,c,a]=.ok r [d',c',a']):setIM G (.v i) k x env=.ok .nx (env.set i (uD c')):=by
 unfold setIM;have e:Pt.ev G env (.v i)=Mo.ok (i,[]):=by rw[Pt.ev,zj0_,hc];rfl
 have e1:evG G env [.x x,.l (.v i),.x k]=.ok [.d d,.l (i,[]),.d a] env:=by
  unfold evG;rw[zh4_,hx,zr_ _ hd,zh5_];unfold evG;rw[e];show(Mr.bind (Mr.bind (evG G env [.x k]) _) _)=_
  unfold evG;rw[zh4_,hk,zr_ _ ha];rfl
 rw[e1,zh5_];unfold callG;have e2:resolve env [.d d,.l (i,[]),.d a]=uD [d,c,a]:=by
  show((atE env (i,[])).bind λc=>uD [c,a]).map (λds=>d::ds)=_
  rw[zj0_,hc];rfl
 rw[e2];show dropM (if _ then(match setIF [d,c,a]with |.ok r ds'=>Mr.ok r (restE env [.d d,.l (i,[]),.d a] ds')|.ex x ds'=>_ |.no=>_)else _)=_
 rw[hf,if_pos (show apartAll _=uF from rfl)]
 show Mr.ok Fl.nx (putE env (i,[]) c')=_
 rw[zid_ hc]
theorem zdm_ {i:Nat}{x:X}{d:D}{n C:Str}{ns:List Str}{xs:List D}(hx:x.ev G env=.ok d)(hd:d.new=uF)(hc:atS env i=uD (.nd (.obj C ns) xs))(hC:C∈G.cs)(hl:ns.length<1000)(hn:n∉ns):setFM G n (.v i) x env=.ok .nx (env.set i (uD (.nd (.obj C (ns++[n])) (xs++[d])))):=by
 unfold setFM;have e:Pt.ev G env (.v i)=Mo.ok (i,[]):=by rw[Pt.ev,zj0_,hc];rfl
 have e1:evG G env [.x x,.l (.v i)]=.ok [.d d,.l (i,[])] env:=by
  unfold evG;rw[zh4_,hx,zr_ _ hd,zh5_];unfold evG;rw[e];rfl
 rw[e1,zh5_];have e3:clsAt env (i,[])=uD C:=by unfold clsAt;rw[zj0_,hc]
 simp only[e3,if_pos hC];unfold callG;have e2:resolve env [.d d,.l (i,[])]=uD [d,.nd (.obj C ns) xs]:=by
  show((atE env (i,[])).bind λc=>uD [c]).map (λds=>d::ds)=_
  rw[zj0_,hc];rfl
 rw[e2];have hf:setFF n [d,.nd (.obj C ns) xs]=.ok .non [.gone,.nd (.obj C (ns++[n])) (xs++[d])]:=by
  unfold setFF;simp only[if_pos hl,if_neg hn]
 show dropM (if _ then(match setFF n [d,.nd (.obj C ns) xs]with |.ok r ds'=>Mr.ok r (restE env [.d d,.l (i,[])] ds')|.ex x ds'=>_ |.no=>_)else _)=_
 rw[hf,if_pos (show apartAll _=uF from rfl)]
 show Mr.ok Fl.nx (putE env (i,[]) _)=_
 rw[zid_ hc]
theorem fn_en {ds:List D}{n m:Nat}{body:List S}(hl:ds.length=n)(hc:D.colds ds=uF)(h:∀pn,(∀i,pn i=uG)->En (S.runs G pn body (ds.map uD++lF m uE)) λo _=>o=.rt d\/(o=.nx/\d=.non)):fnOf G n m body ds=.ok d ds:=by
 obtain⟨o,e,h,q⟩:=h _ (zbI_ hc);unfold fnOf;rw[if_pos hl,h];rcases q with rfl |⟨rfl,rfl⟩
 ·show Mr.ok d (outs ds e)=_;rw[zbH_ hc]
 ·show Mr.ok D.non (outs ds e)=_;rw[zbH_ hc]
theorem zQ_ {ds:List D}{n m:Nat}{body:List S}(hl:ds.length=n)(hc:D.colds ds=uF)(h:∀pn,(∀i,pn i=uG)->En (S.runs G pn body (ds.map uD++lF m uE)) λo _=>o=.rt d\/(o=.nx/\d=.non)):(fnOf G n m body).val ds=.ok d:=zgP_ (fn_en hl hc h)
theorem zrd_ {ds:List D}{n m:Nat}{body:List S}(hl:ds.length=n)(h:S.runs G (pins ds) body (ds.map uD++lF m uE)=.ok .nx e):fnOf G n m body ds=.ok .non (outs ds e):=by
 unfold fnOf;rw[if_pos hl,h]
end
class Im {α:Type}(g:α->D):Prop where
 im:∀x,(g x).imm=uF
section
variable {α:Type}{g:α->D}[Im g]{l:List α}{x:α}
theorem zo4_ (x:α):(g x).vw=g x:=by unfold D.vw;rw[if_pos (Im.im x)]
theorem zS_ (l:List α):D.imms (l.map g)=uF:=by
 induction l with
 |nil=>rw[nF,D.imms]
 |cons x l ih=>rw[lq,D.imms,Im.im x,ih];rfl
theorem zhi_ (l:List α):(l.map g).map D.vw=l.map g:=by
 rw[mC];exact pE λx _=>zo4_ x
mutual
theorem zfr_:∀(d:D),d.imm=uF->d.new=uF
 |.non,_=>by rw[D.new]<;>simp
 |.bl _,_=>by rw[D.new]<;>simp
 |.int _,_=>by rw[D.new]<;>simp
 |.str _,_=>by rw[D.new]<;>simp
 |.nd .tup ds,h=>by rw[D.imm]at h;rw[D.new];exact zbx_ ds h
 |.nd .ktup ds,h=>by rw[D.imm]at h;rw[D.new];exact zbx_ ds h
 |.nd .lst _,h=>by simp[D.imm]at h
 |.nd .scr _,h=>by simp[D.imm]at h
 |.nd (.dct _) _,h=>by simp[D.imm]at h
 |.nd (.obj _ _) _,h=>by simp[D.imm]at h
 |.fz d,h=>by rw[D.imm]at h;rw[D.new];exact h
 |.pin _,h=>by simp[D.imm]at h
 |.gone,h=>by simp[D.imm]at h
theorem zbx_:∀(ds:List D),D.imms ds=uF->D.news ds=uF
 |[],_=>by rw[D.news]
 |d::ds,h=>by rw[D.imms,k9]at h;rw[D.news,zfr_ d h.1,zbx_ ds h.2];rfl
end
theorem zkv_ (x:α):(g x).new=uF:=zfr_ _ (Im.im x)
theorem zjF_ (x:α):(g x).cold=uF:=ze0_ (Im.im x)
instance:Im D.int:=⟨λ_=>rfl⟩
instance:Im D.str:=⟨λ_=>rfl⟩
instance:Im D.bl:=⟨λ_=>rfl⟩
noncomputable def LS (g:α->D)(l:List α):D:=.nd .lst (l.map g)
theorem zpK_:(LS g l).vw=.fz (LS g l):=rfl
theorem zoY_:(D.fz (LS g l)).vw=.fz (LS g l):=zlE_ rfl
theorem zZ_:(LS g l).new=uF:=by unfold LS;rw[D.new];exact zbx_ _ (zS_ l)
theorem zhu_ (l:List α):D.news (l.map g)=uF:=zbx_ _ (zS_ l)
theorem zeI_:(D.fz (LS g l)).new=uG:=by rw[D.new];rfl
theorem zqE_:lenA [LS g l]=.ok (.int l.length):=by
 show Mo.ok (D.int ((l.map g).length:Nat))=_;rw[k8]
theorem zpa_:ixA (LS g l) (.int i)=.opt ((atI l i).map g):=by
 show Mo.opt ((atI (l.map g) i).map D.vw)=_
 unfold atI;rw[k8];cases ixN l.length i with
 |none=>rfl
 |some k=>
  show Mo.opt (((l.map g)[k]?).map D.vw)=_
  rw[lB,Option.map_map];show _=Mo.opt ((l[k]?).map g)
  congr 2;funext x;exact zo4_ x
theorem zop_ (lo hi:Option Int)(l:List α)(g:α->β):cutG (l.map g) lo hi=(cutG l lo hi).map g:=by
 unfold cutG;rw[k8,<- List.map_drop,<- List.map_take]
theorem zo5_ (lo hi:Option Int):slA (LS g l) lo hi=.ok (LS g (cutG l lo hi)):=by
 show Mo.ok (D.nd .lst ((cutG (l.map g) lo hi).map .vw))=_
 rw[zop_,zhi_];rfl
theorem zd7_ (h:a.length+b.length<=100000):addA (LS g a) (LS g b)=.ok (LS g (a++b)):=by
 show Mo.lim ((a.map g).length+(b.map g).length) (Mo.ok (D.nd .lst ((a.map g++b.map g).map .vw)))=_
 rw[Mo.lim_ok (by rw[k8,k8];exact h),<- mX,zhi_,LS]
theorem zgD_:listA [LS g l]=.ok (LS g l):=by
 show Mo.ok (D.nd .lst ((l.map g).map .vw))=_;rw[zhi_];rfl
theorem zoh_:walkA [LS g l]=.ok (l.map g):=of_eq_true (eq_self _)
theorem zqO_:isK "list" (LS g l)=uF:=rfl
theorem zdC_ (h:l.length<100000):appendF [LS g l,g x]=.ok .non [LS g (l++[x]),.gone]:=by
 have h2:l.length<lE:=by have:=za1_ (n:=l.length+1) (by lia);lia
 show(if(l.map g).length<lE then _ else _)=_
 rw[k8,if_pos h2];unfold LS;rw[mX];rfl
theorem zko_ (h:a.length+b.length<=100000):extendF [LS g a,LS g b]=.ok .non [LS g (a++b),.nd .lst (b.map λ_=>.gone)]:=by
 show(if(a.map g).length+(b.map g).length<=lE then Mr.ok D.non [D.nd .lst (a.map g++b.map g),D.nd .lst ((b.map g).map λ_=>D.gone)]else _)=_
 rw[k8,k8,if_pos (za1_ h),mC];unfold LS;rw[mX];rfl
theorem zpg_:revD [LS g l]=.ok (l.reverse.map g):=by
 rw[qu];rfl
theorem ls_rv:rvD (LS g l)=.ok (LS g l.reverse):=by
 show Mo.ok (D.nd .lst ((l.map g).reverse.map .vw))=_
 rw[<- qu,zhi_];rfl
theorem ze8_:∀(l:List Int),flats (l.map .int)=uD (l.map .int)
 |[]=>rfl
 |i::l=>by rw[lq,flats,ze8_ l];rfl
theorem zjP_ (i:Int):∀(l:List Int),inV (.int i) (l.map .int)=decide (i∈l)
 |[]=>rfl
 |j::l=>by
  have:=zjP_ i l;unfold inV at this ⊢;rw[lq,pG,this];by_cases h:i=j
  ·subst h;simp[eqV]
  ·simp[eqV,h,pV h]
theorem ls_in (l:List Int):inA neg (.int i) (LS .int l)=.ok (.bl (if neg=uF then !decide (i∈l)else decide (i∈l))):=by
 show inSeq neg (.int i) (l.map .int)=_
 unfold inSeq;rw[ze8_];show Mo.ok (D.bl (if neg=uF then !(inV (.int i) (l.map .int))else inV (.int i) (l.map .int)))=_
 rw[zjP_]
end
section
variable {β γ:Type}{G:Gi}{env:Env}{lv:List Str}{fr:List (Str×Nat)}{ik:Ik}{src:List X}{tg:Tg}{p:β->Bool}{f:β->γ}{o:γ->D}
theorem zf5_ {F:List D->Mo (Option D)}{T:β->List D}:∀{l:List β}{acc:List D},(∀b∈l,F (T b)=.ok (if p b=uF then uD (o (f b))else uE))->acc.length+l.length<=100000->compM F (l.map T) acc=.ok (acc++((l.filter p).map f).map o)
 |[],acc,_,_=>by rw[nF];unfold compM;simp
 |b::l,acc,h,hl=>by
  rw[ly]at hl;rw[lq];unfold compM;rw[h b lR,zdO_,rQ];cases e:p b with
  |false=>
   rw[if_neg (by decide),if_neg (by decide)]
   exact zf5_ (λy hy=>h y (lQ _ hy)) (by lia)
  |true=>
   rw[if_pos rfl,if_pos rfl];show Mo.lim _ _=_
   rw[Mo.lim_ok (by lia),zf5_ (λy hy=>h y (lQ _ hy)) (by rw[lb,oW];lia)]
   simp
theorem xcomp {c:Option X}{e:X}{items:List D}{T:β->List D}(l:List β)(hi:tg.is.all (·<lv.length)=uF)(hs:(X.evs G env src).bind ik.f=.ok items)(ht:tgsD tg items=uD (l.map T))(hc:∀b∈l,X.evT G (setE (cE lv fr env) tg.is (T b)) c=.ok (p b))(he:∀b∈l,p b=uF->X.ev G (setE (cE lv fr env) tg.is (T b)) e=.ok (o (f b)))(hl:l.length<=100000):X.ev G env (.comp lv fr ik src tg c e)=.ok (LS o ((l.filter p).map f)):=by
 rw[X.ev,if_pos hi,hs,zdO_,ht,zoK_,zdO_,zf5_ (p:=p) (f:=f) (o:=o) (λb hb=>?_) (by rw[m7,tM];exact hl),zdO_]
 ·rfl
 ·unfold cond1
  rw[hc b hb,zdO_];cases cA:p b with
  |false=>rfl
  |true=>rw[if_pos rfl,if_pos rfl,he b hb cA];rfl
theorem xcompN {e:X}{items:List D}{T:β->List D}(l:List β)(hi:tg.is.all (·<lv.length)=uF)(hs:(X.evs G env src).bind ik.f=.ok items)(ht:tgsD tg items=uD (l.map T))(he:∀b∈l,X.ev G (setE (cE lv fr env) tg.is (T b)) e=.ok (o (f b)))(hl:l.length<=100000):X.ev G env (.comp lv fr ik src tg uE e)=.ok (LS o (l.map f)):=by
 rw[xcomp (p:=λ_=>uF) l hi hs ht (λ_ _=>xt_0) (λb hb _=>he b hb) hl]
 rw[List.filter_eq_self.mpr λ_ _=>rfl]
theorem tgs_1 (ds:List D)(i:Nat):tgsD ⟨uG,[i]⟩ ds=uD (ds.map λd=>[d]):=by
 induction ds with
 |nil=>rw[tgsD];rfl
 |cons d ds ih=>rw[tgsD,ih];rfl
theorem zE_ {g:β->D}(l:List β)(i:Nat):tgsD ⟨uG,[i]⟩ (l.map g)=uD (l.map λd=>[g d]):=by rw[tgs_1,mC];rfl
theorem zlj_ {g h:β->D}(l:List β)(i j:Nat):tgsD ⟨uF,[i,j]⟩ (l.map λb=>.nd .tup [g b,h b])=uD (l.map λb=>[g b,h b]):=by
 induction l with
 |nil=>rw[nF,tgsD];rfl
 |cons d ds ih=>rw[lq,tgsD,ih];rfl
end
noncomputable def DI {α:Type}(g:α->D)(m:List (Int×α)):D:=.nd (.dct (m.map λq=>.inl q.1)) (m.map λq=>g q.2)
def dgt {α:Type}:List (Int×α)->Int->Option α
 |[],_=>uE
 |q::m,i=>if q.1=i then uD q.2 else dgt m i
def dput {α:Type}:List (Int×α)->Int->α->List (Int×α)
 |[],i,v=>[(i,v)]
 |q::m,i,v=>if q.1=i then(i,v)::m else q::dput m i v
section
variable {α:Type}{g:α->D}[Im g]{m:List (Int×α)}{i:Int}{v w:α}{neg:Bool}
theorem zfB_ {i j:Int}:((qw i:Key)=.inl j)↔i=j:=⟨λh=>by cases h;rfl,λh=>by rw[h]⟩
theorem zoE_ (m:List (Int×α)):valD (m.map λq=>.inl q.1) (m.map λq=>g q.2) (.inl i)=(dgt m i).map g:=by
 unfold valD;induction m with
 |nil=>rfl
 |cons q m ih=>
  rw[lq,lq,mh,nQ,dgt];by_cases h:q.1=i
  ·rw[decide_eq_true (zfB_.mpr h),if_pos h];rfl
  ·rw[decide_eq_false (λz=>h (zfB_.mp z)),if_neg h];exact ih
theorem di_vw:(DI g m).vw=.fz (DI g m):=rfl
theorem zlx_:isK "dict" (DI g m)=uF:=rfl
theorem zd9_:(DI g m).new=uF:=by
 unfold DI;rw[D.new];refine zbx_ _ ?_;exact@zS_ _ (λq:Int×α=>g q.2) ⟨λq=>Im.im q.2⟩ m
theorem zo2_:ixA (DI g m) (.int i)=.opt ((dgt m i).map g):=by
 show Mo.opt ((valD (m.map λq=>.inl q.1) (m.map λq=>g q.2) (.inl i)).map D.vw)=_
 rw[zoE_];cases dgt m i with
 |none=>rfl
 |some v=>show Mo.ok (g v).vw=_;rw[zo4_];rfl
theorem zpT_:inA neg (.int i) (DI g m)=.ok (.bl (if neg=uF then !(dgt m i).isSome else(dgt m i).isSome)):=by
 show Mo.ok (D.bl (if neg=uF then !(valD (m.map λq=>.inl q.1) (m.map λq=>g q.2) (.inl i)).isSome else(valD (m.map λq=>.inl q.1) (m.map λq=>g q.2) (.inl i)).isSome))=_
 rw[zoE_,pN]
theorem zhn_ (m:List (Int×α)):(dgt m i=uE->¬kIx (m.map λq=>(.inl q.1:Key)) (.inl i)<m.length)/\(∀w,dgt m i=uD w->kIx (m.map λq=>(.inl q.1:Key)) (.inl i)<m.length/\(m.map λq=>g q.2)[kIx (m.map λq=>(.inl q.1:Key)) (.inl i)]?=uD (g w)):=by
 induction m with
 |nil=>exact⟨λ_=>by simp,λw h=>by cases h⟩
 |cons q m ih=>
  rw[lq,kIx,dgt,ly];by_cases h:q.1=i
  ·rw[if_pos h,if_pos (zfB_.mpr h)]
   exact⟨λz=>(nomatch z),λw z=>by cases z;exact⟨by lia,by simp⟩⟩
  ·rw[if_neg h,if_neg (λz=>h (zfB_.mp z))]
   refine⟨λz=>by have:=ih.1 z;lia,λw z=>?_⟩
   have:=ih.2 w z;exact⟨by lia,by rw[lq,m9];exact this.2⟩
theorem zpV_ (i:Int):keyD (.int i)=uD (.inl i):=rfl
theorem zdF_ {n:Nat}(h:n<100000):n<lE:=by have:=za1_ (n:=n+1) (by lia);lia
theorem zmJ_ (h:dgt m i=uE)(hl:m.length<100000):setdF [DI g m,.int i,g v]=.ok (g v) [DI g (m++[(i,v)]),.int i,g v]:=by
 have k:=(zhn_ (g:=g) m).1 h;unfold DI setdF;simp only[zjF_,if_true,zpV_,k8,if_neg k,if_pos (zdF_ hl),mX];rfl
theorem zn4_ (h:dgt m i=uD w):setdF [DI g m,.int i,g v]=.ok (g w) [DI g m,.int i,g v]:=by
 have k:=(zhn_ (g:=g) m).2 w h;unfold DI setdF;simp only[zjF_,if_true,zpV_,k8,if_pos k.1,k.2]
theorem zfz_ (m:List (Int×α)):(dgt m i=uE->dput m i v=m++[(i,v)])/\(∀w,dgt m i=uD w->(m.map λq=>g q.2).set (kIx (m.map λq=>(.inl q.1:Key)) (.inl i)) (g v)=(dput m i v).map (λq=>g q.2)/\(dput m i v).map (λq=>(.inl q.1:Key))=m.map λq=>.inl q.1):=by
 induction m with
 |nil=>exact⟨λ_=>rfl,λw h=>by cases h⟩
 |cons q m ih=>
  rw[lq,lq,kIx,dgt,dput];by_cases h:q.1=i
  ·rw[if_pos h,if_pos h,if_pos (zfB_.mpr h)]
   exact⟨λz=>(nomatch z),λw z=>⟨by rw[m8,lq],by rw[lq,h]⟩⟩
  ·rw[if_neg h,if_neg h,if_neg (λz=>h (zfB_.mp z))]
   refine⟨λz=>by rw[ih.1 z];rfl,λw z=>?_⟩
   have:=ih.2 w z;exact⟨by rw[nE,this.1,lq],by rw[lq,this.2]⟩
theorem zlS_ (hl:m.length<100000):setIF [g v,DI g m,.int i]=.ok .non [.gone,DI g (dput m i v),.int i]:=by
 unfold DI setIF;simp only[zpV_,k8];cases h:dgt m i with
 |none=>rw[if_neg (λz=>(zhn_ (g:=g) m).1 h z.1),if_pos ⟨zdF_ hl,(zhn_ (g:=g) m).1 h⟩,(zfz_ (g:=g) m).1 h,mX,mX];rfl
 |some w=>rw[if_pos ⟨((zhn_ (g:=g) m).2 w h).1,zdF_ hl⟩,((zfz_ m).2 w h).1,((zfz_ (g:=g) (v:=v) m).2 w h).2]
theorem zkp_ (m:List (Int×α)):keysI (m.map λq=>.inl q.1)=uD (m.map (·.1)):=by
 induction m with
 |nil=>rfl
 |cons q m ih=>rw[lq,keysI,ih];rfl
theorem znH_ (h:m.length<=100000):listA [DI g m]=.ok (LS .int (m.map (·.1))):=by
 show Mo.lim (m.map λq=>(.inl q.1:Key)).length (.ok (D.nd .lst (((m.map λq=>(.inl q.1:Key)).map kD).map .vw)))=_
 rw[Mo.lim_ok (by rw[k8];exact h),mC,mC]
 unfold LS;rw[mC];rfl
theorem zjU_:∀(l:List Int),intsD (l.map .int)=uD l
 |[]=>rfl
 |i::l=>by rw[lq,intsD,zjU_ l];rfl
theorem znA_ (l:List Int):sortI [LS .int l]=srtI l:=by
 show(match intsD (l.map .int)with |some is=>srtI is |none=>_)=_
 rw[zjU_]
theorem zjN_:sortI [DI g m]=srtI (m.map (·.1)):=by
 show(match keysI (m.map λq=>(.inl q.1:Key))with |some is=>srtI is |none=>_)=_
 rw[zkp_]
theorem zgh_ (n:Nat)(i j:Int):eqT n (.int i) (.int j)=uD (decide (i=j)):=by
 cases n with
 |zero=>show uD (eqV (.int i) (.int j))=_;rfl
 |succ n=>show uD (eqV (.int i) (.int j))=_;rfl
theorem zmQ_ (n:Nat)(a b:List Nat):eqT n (.str a) (.str b)=uD (decide (a=b)):=by
 have:eqV (tx a) (tx b)=decide (a=b):=by
  by_cases h:a=b
  ·subst h;simp[tx,eqV]
  ·rw[decide_eq_false h]
   show(_ == _)=uG
   refine beq_eq_false_iff_ne.mpr λz=>h ?_
   injection z with z;exact List.toArray_inj z
 cases n with
 |zero=>show uD (eqV (tx a) (tx b))=_;rw[this]
 |succ n=>show uD (eqV (tx a) (tx b))=_;rw[this]
theorem zg6_ {f:D->D->Option Bool}[DecidableEq α]{g:α->D}(h:∀x y,f (g x) (g y)=uD (decide (x=y))):∀(a b:List α),a.length=b.length->allT f (a.map g) (b.map g)=uD (decide (a=b))
 |[],[],_=>by simp[allT]
 |x::a,y::b,hl=>by
  rw[lq,lq,allT,h,zg6_ h a b (by simpa using hl)]
  simp
theorem eq_ls [DecidableEq α]{g:α->D}{n:Nat}(h:∀x y,eqT n (g x) (g y)=uD (decide (x=y)))(a b:List α):eqT (n+1) (LS g a) (LS g b)=uD (decide (a=b)):=by
 show(if(a.map g).length=(b.map g).length then allT (eqT n) (a.map g) (b.map g)else uD uG)=_
 rw[k8,k8];by_cases hl:a.length=b.length
 ·rw[if_pos hl,zg6_ h a b hl]
 ·rw[if_neg hl,decide_eq_false (λz=>hl (by rw[z]))]
theorem zfP_ {a b:D}{c:Bool}(h:eqT 12 a b=uD c):eqD neg a b=.ok (.bl (if neg=uF then !c else c)):=by
 unfold eqD;rw[h];rfl
theorem zoQ_ (a b:List Int):eqD neg (LS .int a) (LS .int b)=.ok (.bl (if neg=uF then !decide (a=b)else decide (a=b))):=zfP_ (eq_ls (n:=11) (zgh_ 11) a b)
theorem zw_ (a b:Int):eqD neg (.int a) (.int b)=.ok (.bl (if neg=uF then !decide (a=b)else decide (a=b))):=zfP_ (zgh_ 12 a b)
theorem zcj_ (a b:List Nat):eqD neg (.str a) (.str b)=.ok (.bl (if neg=uF then !decide (a=b)else decide (a=b))):=zfP_ (zmQ_ 12 a b)
theorem zkE_ {f:D->D->Option Bool}:∀(ds:List D),(∀d∈ds,f d d=uD uF)->allT f ds ds=uD uF
 |[],_=>by simp[allT]
 |d::ds,h=>by rw[allT,h d lR,zkE_ ds λx hx=>h x (lQ _ hx)];rfl
theorem zmS_ {n:Nat}{ds:List D}(h:∀d∈ds,eqT n d d=uD uF):eqT (n+1) (.nd .lst ds) (.nd .lst ds)=uD uF:=by
 show(if ds.length=ds.length then allT (eqT n) ds ds else uD uG)=_
 rw[if_pos rfl,zkE_ ds h]
theorem zeK_ {n:Nat}{ds:List D}(h:∀d∈ds,eqT n d d=uD uF):eqT (n+1) (.nd .tup ds) (.nd .tup ds)=uD uF:=by
 show(allT (eqT n) ds ds).map (λb=>b && ds.length == ds.length)=_
 rw[zkE_ ds h];simp
end
end VI
namespace K64
open PySem PySem.Spec PyProof.Rows L2 VI
open Mo renaming bind→Mb,ok→Mq
open Sl renaming fz→Zf,dead→Zd,ow→Zo
noncomputable abbrev Jx:=List Nat
abbrev Jy:=List Jx
noncomputable abbrev Qm0:List Nat:=[32,48,49,50,51,52,53,54,55,56,57,65,66,67,68,69,70,71,72,73,74,75,76,77,78,79,80,81,82,83,84,85,86,87,88,89,90]
noncomputable abbrev Qm1:List Nat:=[97,98,99,100,101,102,103,104,105,106,107,108,109,110,111,112,113,114,115,116,117,118,119,120,121,122]
noncomputable abbrev Qm2:List Nat:=[97,98,99,100,101,102,103,104,105,106,107,108,109,110,111,112,113,114,115,116,117,118,119,120,121]
abbrev Qn0:List Str:=["asking"]
noncomputable abbrev Qn1:List Str:=["_law_column"]
noncomputable def gi:Gi:={cs:=["Asking"],kt:=[("MATING_WORDS",[[109,97,116,101,115],[119,105,116,104,111,117,116]]),("WORK_WORDS",[[112,108,117,115],[108,101,115,115],[116,105,109,101,115]])]}
def zat_:List S:=[.if_ (.bin .lt (.v 1) (.bf .len [(.v 0)])) [.ret (.pu (.bin .ix (.v 0) (.v 1)))] [],.asg 2 (.pu (.bin .add (.bin .mul (.v 1) (.n 7919)) (.n 5))),.if_ (.bin .gt (.bf .len [(.v 0)]) (.n 0)) [.asg 2 (.pu (.bin .mod (.bin .add (.bin .mul (.bin .ix (.v 0) (.bin .mod (.bin .mul (.v 1) (.n 7)) (.bf .len [(.v 0)]))) (.n 48271)) (.bin .mul (.v 1) (.n 7919))) (.n 2147483647)))] [],.ret (.pu (.bin .mod (.bin .mul (.v 2) (.v 2)) (.n 2147483629)))]
def za_:Fn:=fnOf gi 2 1 zat_
noncomputable abbrev zb_:=X.call za_ "_law_cell"
def zbo_:List S:=[.asg 1 (.pu (.k (.str Qm0))),.asg 2 (.pu (.bin .mod (.v 0) (.n 37))),.asg 3 (.pu (.bin .mod (.bin .add (.bin .add (.v 2) (.n 1)) (.bin .mod (.bin .div (.v 0) (.n 37)) (.n 36))) (.n 37))),.ret (.pu (.lst [(.bin .ix (.v 1) (.v 2)),(.bin .ix (.v 1) (.v 3)),(.bin .ix (.v 1) (.bin .mod (.bin .add (.bin .add (.v 3) (.n 1)) (.bin .mod (.bin .div (.v 0) (.n 1332)) (.n 36))) (.n 37)))]))]
def zbB_:Fn:=fnOf gi 1 3 zbo_
def zaH_:List S:=[.asg 1 (.pu (.k (.str Qm2))),.asg 2 (.pu (.sl (.v 1) (uD (.bin .mod (.v 0) (.n 22))) (uD (.bin .add (.bin .add (.bin .mod (.v 0) (.n 22)) (.n 1)) (.bin .mod (.bin .div (.v 0) (.n 22)) (.n 4)))))),.asg 3 (.pu (.bin .mod (.bin .div (.v 0) (.n 88)) (.bf .len [(.v 2)]))),.asg 4 (.pu (.bin .add (.bin .add (.sl (.v 2) uE (uD (.v 3))) (.k (.str [122]))) (.sl (.v 2) (uD (.bin .add (.v 3) (.n 1))) uE))),.if_ (.bin .eq (.bin .mod (.bin .div (.v 0) (.n 352)) (.n 2)) (.n 1)) [.ret (.pu (.lst [(.v 4),(.v 2)]))] [],.ret (.pu (.lst [(.v 2),(.v 4)]))]
def zbv_:Fn:=fnOf gi 1 4 zaH_
def zcZ_:List S:=[.asg 1 (.pu (.bin .add (.n 1) (.bin .mod (.v 0) (.n 24)))),.ret (.pu (.tup [(.v 1),(.bin .add (.v 1) (.bin .mod (.bin .div (.v 0) (.n 24)) (.bf .min [(.n 6),(.bin .sub (.n 25) (.v 1))])))]))]
def z5_:Fn:=fnOf gi 1 1 zcZ_
noncomputable abbrev za0_:=X.call z5_ "_law_far"
def zA_:List S:=[.asg 2 (.pu .dct0),.asg 3 (.pu (.lst [])),.for_ .r1 [(.bin .ix (.lst [(.n 0),(.n 0),(.n 1),(.n 2),(.n 4)]) (.bin .mod (zb_ [(.v 0),(.n 1)]) (.n 5)))] ⟨uG,[4]⟩ [.asg 5 (.pu (zb_ [(.v 0),(.bin .add (.n 40) (.v 4))])),.asg 6 (.pu (.bin .add (.n 1) (.bin .mod (.v 5) (.n 24)))),.asg 7 (.pu (.tup [(.v 6),(.bf .min [(.n 24),(.bin .add (.v 6) (.bin .mod (.bin .div (.v 5) (.n 24)) (.n 2)))])])),.asg 8 (.pu (.k (.str []))),.for_ .r2 [(.i (.v 7) 0),(.bin .add (.i (.v 7) 1) (.n 1))] ⟨uG,[9]⟩ [.asg 8 (.bin .add (.pu (.v 8)) (.sd (.v 2) (.v 9) (.bin .ix (.v 1) (.bin .mod (.bin .div (.bin .div (.v 5) (.n 48)) (.bin .add (.v 9) (.n 1))) (.n 3)))))],.ex (.bm .append (.v 3) [(.x (.tup [(.v 7),(.v 8)]))])],.ret (.mv 3)]
def zz_:Fn:=fnOf gi 2 8 zA_
def zC_:List S:=[.asg 1 (.pu (.lst [])),.for_ .r1 [(.bin .mod (zb_ [(.v 0),(.n 11)]) (.n 5))] ⟨uG,[2]⟩ [.asg 3 (.pu (zb_ [(.v 0),(.bin .add (.n 44) (.v 2))])),.asg 4 (.pu (za0_ [(.bin .div (.v 3) (.n 7))])),.if_ (.and (.bin .gt (.v 2) (.n 0)) (.bin .eq (.bin .mod (.v 3) (.n 2)) (.n 1))) [.asg 4 (.pu (.i (.bin .ix (.v 1) (.bin .sub (.v 2) (.n 1))) 0))] [],.asg 5 (.pu (.bin .ix (.lst [(.k (.str [112,108,117,115])),(.k (.str [108,101,115,115])),(.k (.str [116,105,109,101,115]))]) (.bin .mod (.bin .div (.v 3) (.n 3)) (.n 3)))),.ex (.bm .append (.v 1) [(.x (.tup [(.tup [(.bin .add (.n 25) (.bin .mul (.n 3) (.v 2))),(.bin .add (.n 27) (.bin .mul (.n 3) (.v 2)))]),(za0_ [(.bin .div (.v 3) (.n 5))]),(.v 5),(.v 4)]))])],.ret (.mv 1)]
def zK_:Fn:=fnOf gi 1 5 zC_
def zb9_:List S:=[.asg 3 (.pu (.comp ["_law_k"] [("_law_script",0)] .r1 [(.bin .mod (zb_ [(.v 0),(.n 6)]) (.n 7))] ⟨uG,[0]⟩ uE (za0_ [(zb_ [(.v 1),(.bin .add (.n 48) (.v 0))])]))),.asg 4 (.pu (zb_ [(.v 0),(.n 4)])),.asg 5 (.pu (za0_ [(.bin .div (.v 4) (.n 4))])),.asg 6 (.pu (.bin .add (.n 1) (.bin .mod (zb_ [(.v 0),(.n 5)]) (.bin .add (.bin .sub (.n 36) (.i (.v 5) 1)) (.i (.v 5) 0))))),.asg 7 (.pu (.k .non)),.if_ (.bin .eq (.bin .mod (.v 4) (.n 4)) (.n 1)) [.asg 7 (.pu (.tup [(.k (.str [102,105,114,115,116])),(.v 5)]))] [.if_ (.bin .gt (.bin .mod (.v 4) (.n 4)) (.n 1)) [.asg 7 (.pu (.tup [(.bin .ix (.lst [(.k (.str [109,97,116,101,115])),(.k (.str [119,105,116,104,111,117,116]))]) (.bin .sub (.bin .mod (.v 4) (.n 4)) (.n 2))),(.i (.v 1) 1),(.v 5),(.tup [(.v 6),(.bin .sub (.bin .add (.v 6) (.i (.v 5) 1)) (.i (.v 5) 0))])]))] []],.asg 8 (.pu (.comp ["_law_k"] [("_law_script",0)] .r1 [(.bin .mod (zb_ [(.v 0),(.n 12)]) (.n 5))] ⟨uG,[0]⟩ uE (za0_ [(.bin .div (zb_ [(.v 1),(.n 12)]) (.bin .add (.v 0) (.n 2)))]))),.asg 9 (.pu (.comp ["_law_k"] [("_law_cell_here",4)] .r1 [(.n 9)] ⟨uG,[0]⟩ uE (.tup [(.bin .add (.n 1) (.bin .mod (.bin .add (.bin .mul (.n 7) (.v 0)) (.v 1)) (.n 40))),(.bin .add (.n 1) (.bin .mul (.n 4) (.v 0)))]))),.asg 10 (.pu (.bin .mod (zb_ [(.v 0),(.n 10)]) (.bin .add (.bf .min [(.n 3),(.bf .len [(.v 3)])]) (.n 1)))),.asg 11 (.pu (.call zz_ "_law_far_picks" [(.v 0),(.v 2)])),.ret (.pu (.lst [(.i (.v 1) 0),(.v 11),(.v 7),(.v 3),(.call zK_ "_law_far_works" [(.v 0)]),(.v 10),(.v 8),(.bin .add (.n 1) (.bin .mod (.bin .div (.v 4) (.n 60)) (.n 12))),(.v 9)]))]
def zb8_:Fn:=fnOf gi 3 9 zb9_
def zbp_:List S:=[.asg 2 (.pu (.bin .mod (.v 0) (.n 5))),.ret (.pu (.tup [(.bin .add (.v 1) (.v 2)),(.bin .add (.bin .add (.v 1) (.v 2)) (.bin .mod (.bin .div (.v 0) (.n 5)) (.bf .min [(.n 3),(.bin .sub (.n 5) (.v 2))])))]))]
def z4_:Fn:=fnOf gi 2 1 zbp_
noncomputable abbrev zU_:=X.call z4_ "_law_field"
def zY_:List S:=[.asg 3 (.pu (zb_ [(.v 0),(.n 4)])),.asg 4 (.pu (zU_ [(.bin .div (.v 3) (.n 4)),(.v 1)])),.asg 5 (.pu (.bin .sub (.i (.v 4) 1) (.i (.v 4) 0))),.asg 6 (.pu (.bin .add (.n 1) (.bin .mod (zb_ [(.v 0),(.n 5)]) (.bin .sub (.n 36) (.v 5))))),.if_ (.bin .eq (.bin .mod (.v 3) (.n 4)) (.n 0)) [.ret (.pu (.k .non))] [],.if_ (.bin .eq (.bin .mod (.v 3) (.n 4)) (.n 1)) [.ret (.pu (.tup [(.k (.str [102,105,114,115,116])),(.v 4)]))] [],.ret (.pu (.tup [(.bin .ix (.lst [(.k (.str [109,97,116,101,115])),(.k (.str [119,105,116,104,111,117,116]))]) (.bin .sub (.bin .mod (.v 3) (.n 4)) (.n 2))),(.v 2),(.v 4),(.tup [(.v 6),(.bin .add (.v 6) (.v 5))])]))]
def zaT_:Fn:=fnOf gi 3 4 zY_
def zac_:List S:=[.asg 3 (.pu .dct0),.asg 4 (.pu (.lst [])),.for_ .r1 [(.bin .mod (zb_ [(.v 0),(.n 1)]) (.n 3))] ⟨uG,[5]⟩ [.asg 6 (.pu (zb_ [(.v 0),(.bin .add (.n 2) (.v 5))])),.asg 7 (.pu (zU_ [(.v 6),(.v 1)])),.asg 8 (.pu (.k (.str []))),.for_ .r1 [(.bin .add (.bin .sub (.i (.v 7) 1) (.i (.v 7) 0)) (.n 1))] ⟨uG,[9]⟩ [.asg 8 (.bin .add (.pu (.v 8)) (.sd (.v 3) (.bin .add (.i (.v 7) 0) (.v 9)) (.bin .ix (.v 2) (.bin .mod (.bin .div (.v 6) (.bin .ix (.lst [(.n 15),(.n 45),(.n 135)]) (.v 9))) (.n 3)))))],.ex (.bm .append (.v 4) [(.x (.tup [(.v 7),(.v 8)]))])],.ret (.mv 4)]
def z1_:Fn:=fnOf gi 3 7 zac_
def zB_:List S:=[.asg 2 (.pu (zb_ [(.v 0),(.n 11)])),.asg 3 (.pu (.lst [(.tup [(.n 1),(.n 2)]),(.tup [(.n 3),(.n 4)])])),.if_ (.bin .lt (.v 1) (.n 28)) [.asg 3 (.pu (.lst [(.tup [(.n 33),(.n 34)]),(.tup [(.n 35),(.n 36)])]))] [],.asg 4 (.pu (.lst [])),.for_ .r1 [(.bin .mod (.v 2) (.n 3))] ⟨uG,[5]⟩ [.asg 6 (.pu (zU_ [(.bin .div (.bin .div (.v 2) (.n 45)) (.bin .add (.n 1) (.v 5))),(.v 1)])),.if_ (.and (.bin .eq (.v 5) (.n 1)) (.bin .eq (.bin .mod (.bin .div (.v 2) (.n 3)) (.n 2)) (.n 1))) [.asg 6 (.pu (.i (.v 3) 0))] [],.asg 7 (.pu (.bin .ix (.lst [(.k (.str [112,108,117,115])),(.k (.str [108,101,115,115])),(.k (.str [116,105,109,101,115]))]) (.bin .mod (.bin .div (.bin .div (.v 2) (.n 9)) (.bin .add (.n 1) (.v 5))) (.n 3)))),.ex (.bm .append (.v 4) [(.x (.tup [(.bin .ix (.v 3) (.v 5)),(zU_ [(.bin .div (.bin .div (.v 2) (.n 7)) (.bin .add (.n 1) (.v 5))),(.v 1)]),(.v 7),(.v 6)]))])],.ret (.mv 4)]
def zaF_:Fn:=fnOf gi 2 6 zB_
def zl_:List S:=[.asg 1 (.pu (.bin .add (.n 1) (.bin .mod (zb_ [(.v 0),(.n 0)]) (.n 32)))),.asg 2 (.pu (.call zbB_ "_law_signs" [(.bin .div (zb_ [(.v 0),(.n 0)]) (.n 32))])),.asg 3 (.pu (.call zbv_ "_law_names" [(zb_ [(.v 0),(.n 13)])])),.if_ (.bin .eq (.bin .mod (zb_ [(.v 0),(.n 14)]) (.n 4)) (.n 3)) [.ret (.pu (.call zb8_ "_law_wide" [(.v 0),(.v 3),(.v 2)]))] [],.asg 4 (.pu (.comp ["_law_k"] [("_law_base",1),("_law_script",0)] .r1 [(.bin .mod (zb_ [(.v 0),(.n 6)]) (.n 4))] ⟨uG,[0]⟩ uE (zU_ [(zb_ [(.v 2),(.bin .add (.n 7) (.v 0))]),(.v 1)]))),.asg 5 (.pu (.bin .mod (zb_ [(.v 0),(.n 10)]) (.bin .add (.bf .min [(.n 3),(.bf .len [(.v 4)])]) (.n 1)))),.asg 6 (.pu (zb_ [(.v 0),(.n 12)])),.asg 7 (.pu (.comp ["_law_k"] [("_law_base",1),("_law_cell_here",6)] .r1 [(.bin .mod (.v 6) (.n 3))] ⟨uG,[0]⟩ uE (zU_ [(.bin .div (.v 2) (.bin .add (.n 3) (.v 0))),(.v 1)]))),.asg 6 (.pu (zb_ [(.v 0),(.n 14)])),.asg 8 (.pu (.comp ["_law_k"] [("_law_cell_here",6)] .r1 [(.bin .mod (.v 6) (.n 5))] ⟨uG,[0]⟩ uE (.tup [(.bin .add (.n 1) (.bin .mod (.bin .add (.bin .div (.v 1) (.n 5)) (.bin .mul (.n 11) (.v 0))) (.n 40))),(.bin .add (.n 2) (.bin .mul (.n 3) (.v 0)))]))),.asg 9 (.pu (.call zaT_ "_law_middle" [(.v 0),(.v 1),(.i (.v 3) 1)])),.asg 10 (.pu (.call z1_ "_law_picks" [(.v 0),(.v 1),(.v 2)])),.ret (.pu (.lst [(.i (.v 3) 0),(.v 10),(.v 9),(.v 4),(.call zaF_ "_law_works" [(.v 0),(.v 1)]),(.v 5),(.v 7),(.bin .add (.n 1) (.bin .mod (.bin .div (.v 6) (.n 60)) (.n 12))),(.v 8)]))]
def zah_:Fn:=fnOf gi 1 10 zl_
noncomputable def zc4_:List S:=[.ret (.pu (.ifx (.bin .is (.v 0) (.k .non)) (.lst []) (.bf .list [(.v 0)])))]
def zcz_:Fn:=fnOf gi 1 0 zc4_
noncomputable abbrev zcY_:=X.call zcz_ "own_list"
noncomputable def ze9_:List S:=[.if_ (.not (.v 0)) [.never] []]
def zdG_:Fn:=fnOf gi 2 0 ze9_
noncomputable abbrev zg_:=X.call zdG_ "ask_for"
def zan_:List S:=[.ex (.pu (zg_ [(.bin .le (.bf .len [(.fld (.v 0) "picks")]) (.g "MOST_PICKS" (.int 8))),(.k (.str [97,110,32,97,115,107,105,110,103,32,104,97,115,32,56,32,112,105,99,107,115,32,97,116,32,109,111,115,116]))])),.ex (.pu (zg_ [(.bin .le (.bf .len [(.fld (.v 0) "order")]) (.g "MOST_KEYS" (.int 6))),(.k (.str [97,110,32,97,115,107,105,110,103,32,104,97,115,32,54,32,107,101,121,115,32,97,116,32,109,111,115,116]))])),.ex (.pu (zg_ [(.bin .le (.bf .len [(.fld (.v 0) "works")]) (.g "MOST_WORKS" (.int 4))),(.k (.str [97,110,32,97,115,107,105,110,103,32,104,97,115,32,52,32,119,111,114,107,115,32,97,116,32,109,111,115,116]))])),.ex (.pu (zg_ [(.bin .le (.bf .len [(.fld (.v 0) "sums")]) (.g "MOST_SUMS" (.int 4))),(.k (.str [97,110,32,97,115,107,105,110,103,32,104,97,115,32,52,32,115,117,109,115,32,97,116,32,109,111,115,116]))]))]
def zap_:Fn:=fnOf gi 1 0 zan_
def zdR_:List S:=[.ret (.pu (.and (.bin .isn (.fld (.v 0) "middle") (.k .non)) (.bin .inn (.i (.fld (.v 0) "middle") 0) (.gt "MATING_WORDS" [[109,97,116,101,115],[119,105,116,104,111,117,116]]))))]
def zcQ_:Fn:=fnOf gi 1 0 zdR_
noncomputable abbrev za7_:=X.call zcQ_ "mates_by"
def zad_:List S:=[.if_ (.bin .is (.fld (.v 0) "middle") (.k .non)) [.retN] [],.asg 1 (.pu (.bf .len [(.fld (.v 0) "middle")])),.ex (.pu (zg_ [(.and (.bin .gt (.v 1) (.n 0)) (.or (za7_ [(.v 0)]) (.bin .eq (.i (.fld (.v 0) "middle") 0) (.k (.str [102,105,114,115,116]))))),(.k (.str [97,32,109,105,100,100,108,101,32,104,97,115,32,111,110,101,32,111,102,32,116,104,114,101,101,32,119,111,114,100,115]))])),.ex (.pu (zg_ [(.bin .eq (.v 1) (.ifx (za7_ [(.v 0)]) (.n 4) (.n 2))),(.k (.str [97,32,109,105,100,100,108,101,32,104,97,115,32,119,104,97,116,32,105,116,115,32,119,111,114,100,32,119,97,110,116,115]))]))]
def zL_:Fn:=fnOf gi 1 1 zad_
def zef_:List S:=[.ret (.pu (.ifx (za7_ [(.v 0)]) (.lst [(.fld (.v 0) "deck"),(.i (.fld (.v 0) "middle") 1)]) (.lst [(.fld (.v 0) "deck")])))]
def zaM_:Fn:=fnOf gi 1 0 zef_
def zdA_:List S:=[.ret (.pu (.and (.ch .le .le (.n 1) (.bf .len [(.v 0)]) (.g "LONGEST_NAME" (.int 8))) (.bf .all [(.comp ["letter"] [] .any [(.v 0)] ⟨uG,[0]⟩ uE (.bin .inn (.v 0) (.g "SMALL_LETTERS" (.str Qm1))))])))]
def zdM_:Fn:=fnOf gi 1 0 zdA_
def za6_:List S:=[.asg 1 (.pu (.call zaM_ "names_of" [(.v 0)])),.for_ .any [(.v 1)] ⟨uG,[2]⟩ [.ex (.pu (zg_ [(.call zdM_ "is_name" [(.v 2)]),(.k (.str [97,32,110,97,109,101,32,104,97,115,32,111,110,101,32,116,111,32,101,105,103,104,116,32,115,109,97,108,108,32,108,101,116,116,101,114,115]))]))],.ex (.pu (zg_ [(.or (.bin .ne (.i (.v 1) 0) (.bin .ix (.v 1) (.neg (.n 1)))) (.bin .eq (.bf .len [(.v 1)]) (.n 1))),(.k (.str [116,104,101,32,116,119,111,32,110,97,109,101,115,32,97,114,101,32,117,110,108,105,107,101]))]))]
def zaf_:Fn:=fnOf gi 1 2 za6_
def zbn_:List S:=[.if_ (.bin .is (.fld (.v 0) "middle") (.k .non)) [.ret (.pu (.lst []))] [],.ret (.pu (.ifx (za7_ [(.v 0)]) (.bf .list [(.sl (.fld (.v 0) "middle") (uD (.n 2)) uE)]) (.lst [(.i (.fld (.v 0) "middle") 1)])))]
def zao_:Fn:=fnOf gi 1 0 zbn_
noncomputable abbrev zm_:=X.call zao_ "middle_fields"
def zbu_:List S:=[.asg 1 (.pu (.bin .add (.bin .add (.bin .add (.comp ["pick"] [] .any [(.fld (.v 0) "picks")] ⟨uG,[0]⟩ uE (.i (.v 0) 0)) (zm_ [(.v 0)])) (.fld (.v 0) "order")) (.fld (.v 0) "sums"))),.for_ .any [(.fld (.v 0) "works")] ⟨uG,[2]⟩ [.ex (.bm .extend (.v 1) [(.x (.lst [(.i (.v 2) 0),(.i (.v 2) 1),(.i (.v 2) 3)]))])],.ret (.mv 1)]
def zby_:Fn:=fnOf gi 1 2 zbu_
noncomputable def zd3_:List S:=[.ret (.pu (.and (.isa (.v 0) "int") (.not (.isa (.v 0) "bool"))))]
def zc3_:Fn:=fnOf gi 1 0 zd3_
noncomputable abbrev zaU_:=X.call zc3_ "is_whole"
def zcv_:List S:=[.ret (.pu (.and (zaU_ [(.v 0)]) (.and (zaU_ [(.v 1)]) (.ch3 .le .le .le (.n 1) (.v 0) (.v 1) (.g "BODY_WIDTH" (.int 36))))))]
def zc2_:Fn:=fnOf gi 2 0 zcv_
def zdQ_:List S:=[.ret (.pu (.bin .add (.bin .sub (.i (.v 0) 1) (.i (.v 0) 0)) (.n 1)))]
def zcV_:Fn:=fnOf gi 1 0 zdQ_
noncomputable abbrev zcK_:=X.call zcV_ "width_of"
def zb0_:List S:=[.ret (.pu (.bf .all [(.comp ["sign"] [] .any [(.v 0)] ⟨uG,[0]⟩ uE (.bin .inn (.v 0) (.g "SIGNS" (.str Qm0))))]))]
def zba_:Fn:=fnOf gi 1 0 zb0_
def zaB_:List S:=[.asg 1 (.pu .dct0),.for_ .any [(.v 0)] ⟨uG,[2]⟩ [.if_ (.bin .eq (.i (.v 2) 0) (.k (.str [112,105,99,107]))) [.ifY (.bin .ne (.sd (.v 1) (.i (.v 2) 1) (.i (.v 2) 2)) (.pu (.i (.v 2) 2))) [.ret (.pu (.k .non))] []] []],.ret (.mv 1)]
def zO_:Fn:=fnOf gi 1 2 zaB_
def zbs_:List S:=[.ret (.pu (.lr (.i (.v 0) 0) (.bin .add (.i (.v 0) 1) (.n 1))))]
def zab_:Fn:=fnOf gi 1 0 zbs_
noncomputable abbrev zbD_:=X.call zab_ "columns_of"
def zaP_:List S:=[.asg 1 (.pu (.lst [])),.for_ .any [(.fld (.v 0) "picks")] ⟨uG,[2]⟩ [.ex (.bm .extend (.v 1) [(.x (.comp ["column", "sign"] [] .zip [(zbD_ [(.i (.v 2) 0)]),(.i (.v 2) 1)] ⟨uF,[0,1]⟩ uE (.tup [(.k (.str [112,105,99,107])),(.v 0),(.v 1)])))])],.ret (.mv 1)]
def zae_:Fn:=fnOf gi 1 2 zaP_
def zaS_:List S:=[.for_ .any [(.fld (.v 0) "picks")] ⟨uG,[1]⟩ [.ex (.pu (zg_ [(.bin .eq (.bf .len [(.i (.v 1) 1)]) (zcK_ [(.i (.v 1) 0)])),(.k (.str [97,32,112,105,99,107,39,115,32,116,101,120,116,32,105,115,32,97,115,32,119,105,100,101,32,97,115,32,105,116,115,32,102,105,101,108,100]))])),.ex (.pu (zg_ [(.call zba_ "are_signs" [(.i (.v 1) 1)]),(.k (.str [97,32,112,105,99,107,39,115,32,116,101,120,116,32,105,115,32,111,102,32,115,105,103,110,115]))]))],.ex (.pu (zg_ [(.bin .isn (.call zO_ "picked_signs" [(.call zae_ "pick_passes" [(.v 0)])]) (.k .non)),(.k (.str [116,119,111,32,112,105,99,107,115,32,119,97,110,116,32,117,110,108,105,107,101,32,115,105,103,110,115,32,111,102,32,111,110,101,32,99,111,108,117,109,110]))]))]
def zaX_:Fn:=fnOf gi 1 1 zaS_
def zf_:List S:=[.asg 1 (.pu (zm_ [(.v 0)])),.ifL (.v 1) [.ex (.pu (zg_ [(.bin .eq (zcK_ [(.i (.v 1) 0)]) (zcK_ [(.bin .ix (.v 1) (.neg (.n 1)))])),(.k (.str [116,104,101,32,109,105,100,100,108,101,39,115,32,102,105,101,108,100,115,32,97,114,101,32,111,102,32,111,110,101,32,119,105,100,116,104]))]))] []]
def zF_:Fn:=fnOf gi 1 1 zf_
def zb2_:List S:=[.ret (.pu (.and (zaU_ [(.v 0)]) (.ch .le .le (.n 1) (.v 0) (.v 1))))]
def zbd_:Fn:=fnOf gi 2 0 zb2_
def zbC_:List S:=[.for_ .any [(.v 0)] ⟨uG,[1]⟩ [.if_ (.or (.not (.call zbd_ "is_column" [(.i (.v 1) 0),(.g "CARD_WIDTH" (.int 40))])) (.not (.call zbd_ "is_column" [(.i (.v 1) 1),(.g "BODY_WIDTH" (.int 36))]))) [.never] []],.asg 2 (.pu .dct0),.for_ .any [(.v 0)] ⟨uG,[1]⟩ [.if_ (.bin .inn (.i (.v 1) 1) (.v 2)) [.never] [],.setI (.v 2) (.i (.v 1) 1) (.v 1)],.ret (.pu (.comp ["column"] [("leading",2)] .any [(.bf .sorted [(.v 2)])] ⟨uG,[0]⟩ uE (.bin .ix (.v 1) (.v 0))))]
def zbE_:Fn:=fnOf gi 1 2 zbC_
def zcU_:List S:=[.try0 [.asg 1 (.pu (.call zbE_ "make_board" [(.v 0)]))] [],.ret (.pu (.bin .eq (.v 1) (.v 0)))]
def zcW_:Fn:=fnOf gi 1 1 zcU_
def z9_:List S:=[.ex (.pu (zg_ [(.and (zaU_ [(.fld (.v 0) "breaks")]) (.ch .le .le (.n 0) (.fld (.v 0) "breaks") (.g "MOST_BREAKS" (.int 3)))),(.k (.str [116,104,101,114,101,32,97,114,101,32,48,32,116,111,32,51,32,98,114,101,97,107,115]))])),.ex (.pu (zg_ [(.bin .le (.fld (.v 0) "breaks") (.bf .len [(.fld (.v 0) "order")])),(.k (.str [116,104,101,114,101,32,97,114,101,32,110,111,32,109,111,114,101,32,98,114,101,97,107,115,32,116,104,97,110,32,107,101,121,115]))])),.ex (.pu (zg_ [(.and (zaU_ [(.fld (.v 0) "figures")]) (.ch .le .le (.n 1) (.fld (.v 0) "figures") (.g "MOST_FIGURES" (.int 12)))),(.k (.str [119,104,101,101,108,115,32,104,97,118,101,32,49,32,116,111,32,49,50,32,102,105,103,117,114,101,115]))])),.ex (.pu (zg_ [(.call zcW_ "is_board" [(.fld (.v 0) "board")]),(.k (.str [116,104,101,32,98,111,97,114,100,32,105,115,32,110,111,110,101,44,32,111,114,32,110,111,116,32,115,111,114,116,101,100]))]))]
def z7_:Fn:=fnOf gi 1 0 z9_
def zaR_:List S:=[.asg 2 (.pu (.bin .add (.bin .add (.comp ["pick"] [] .any [(.fld (.v 0) "picks")] ⟨uG,[0]⟩ uE (.i (.v 0) 0)) (.sl (zm_ [(.v 0)]) uE (uD (.n 1)))) (.fld (.v 0) "order"))),.for_ .en [(.fld (.v 0) "works")] ⟨uF,[3,4]⟩ [.if_ (.bin .ne (.v 3) (.v 1)) [.ex (.bm .append (.v 2) [(.x (.i (.v 4) 0))])] [],.if_ (.bin .le (.v 3) (.v 1)) [.ex (.bm .extend (.v 2) [(.x (.lst [(.i (.v 4) 1),(.i (.v 4) 3)]))])] []],.ret (.mv 2)]
def za3_:Fn:=fnOf gi 2 3 zaR_
def zb7_:List S:=[.ret (.pu (.or (.bin .lt (.i (.v 0) 1) (.i (.v 1) 0)) (.bin .lt (.i (.v 1) 1) (.i (.v 0) 0))))]
def zbY_:Fn:=fnOf gi 2 0 zb7_
def zaZ_:List S:=[.for_ .en [(.fld (.v 0) "works")] ⟨uF,[1,2]⟩ [.ex (.pu (zg_ [(.bin .inn (.i (.v 2) 2) (.gt "WORK_WORDS" [[112,108,117,115],[108,101,115,115],[116,105,109,101,115]])),(.k (.str [97,32,119,111,114,107,32,104,97,115,32,111,110,101,32,111,102,32,116,104,114,101,101,32,119,111,114,100,115]))])),.for_ .any [(.call za3_ "fields_kept" [(.v 0),(.v 1)])] ⟨uG,[3]⟩ [.ex (.pu (zg_ [(.call zbY_ "are_apart" [(.i (.v 2) 0),(.v 3)]),(.k (.str [97,32,119,111,114,107,32,112,117,110,99,104,101,115,32,105,110,116,111,32,97,32,102,105,101,108,100,32,116,104,97,116,32,105,116,32,109,117,115,116,32,98,101,32,97,112,97,114,116,32,102,114,111,109]))]))]]]
def zaV_:Fn:=fnOf gi 1 3 zaZ_
def zaG_:List S:=[.ex (.pu (.call zap_ "check_lengths" [(.v 0)])),.ex (.pu (.call zL_ "check_middle_word" [(.v 0)])),.ex (.pu (.call zaf_ "check_names" [(.v 0)])),.for_ .any [(.call zby_ "fields_due" [(.v 0)])] ⟨uG,[1]⟩ [.ex (.pu (zg_ [(.call zc2_ "is_field" [(.i (.v 1) 0),(.i (.v 1) 1)]),(.k (.str [97,32,102,105,101,108,100,32,103,111,101,115,32,102,114,111,109,32,97,32,102,105,114,115,116,32,116,111,32,97,32,108,97,115,116,32,99,111,108,117,109,110,44,32,102,114,111,109,32,49,32,116,111,32,51,54]))]))],.ex (.pu (.call zaX_ "check_picks" [(.v 0)])),.ex (.pu (.call zF_ "check_middle_widths" [(.v 0)])),.ex (.pu (.call z7_ "check_counting" [(.v 0)])),.ex (.pu (.call zaV_ "check_works" [(.v 0)]))]
def zaA_:Fn:=fnOf gi 1 1 zaG_
def zt_:List S:=[.setF (.v 0) "deck" (.v 1),.setF (.v 0) "picks" (.bf .list [(.v 2)]),.setF (.v 0) "middle" (.v 3),.setF (.v 0) "order" (.bf .list [(.v 4)]),.setF (.v 0) "works" (zcY_ [(.v 5)]),.setF (.v 0) "breaks" (.v 6),.setF (.v 0) "sums" (zcY_ [(.v 7)]),.setF (.v 0) "figures" (.v 8),.setF (.v 0) "board" (zcY_ [(.v 9)]),.ex (.pu (.call zaA_ "check_asking" [(.v 0)]))]
def zJ_:Fn:=fnOf gi 10 0 zt_
def zca_:List S:=[.ret (.pu (.make zJ_ "Asking" [(.i (.v 0) 0),(.bf .list [(.i (.v 0) 1)]),(.i (.v 0) 2),(.bf .list [(.i (.v 0) 3)]),(.bf .list [(.i (.v 0) 4)]),(.i (.v 0) 5),(.bf .list [(.i (.v 0) 6)]),(.i (.v 0) 7),(.bf .list [(.i (.v 0) 8)])]))]
def zcb_:Fn:=fnOf gi 1 0 zca_
def zcM_:List S:=[.asg 1 (.pu (.lst [])),.for_ .any [(.v 0)] ⟨uG,[2]⟩ [.for_ .r2 [(.i (.v 2) 0),(.bin .add (.i (.v 2) 1) (.n 1))] ⟨uG,[3]⟩ [.if_ (.bin .nin (.v 3) (.v 1)) [.ex (.bm .append (.v 1) [(.x (.v 3))])] []]],.ret (.mv 1)]
def zas_:Fn:=fnOf gi 1 3 zcM_
def zh_:List S:=[.asg 3 (.pu (.bf .list [(.i (.v 0) 3)])),.if_ (.bin .isn (.i (.v 0) 2) (.k .non)) [.ex (.bm .append (.v 3) [(.x (.bin .ix (.i (.v 0) 2) (.bin .div (.bf .len [(.i (.v 0) 2)]) (.n 2))))])] [],.asg 4 (.pu (.lst [])),.for_ .any [(.call zas_ "_law_all" [(.v 3)])] ⟨uG,[5]⟩ [.asg 6 (.pu (.and (.bin .isn (.i (.v 0) 2) (.k .non)) (.and (.bin .eq (.i (.i (.v 0) 2) 0) (.k (.str [102,105,114,115,116]))) (.bin .eq (.bf .len [(.comp ["_law_one"] [("_law_found",4)] .any [(.v 1)] ⟨uG,[0]⟩ (uD (.bin .nin (.v 0) (.v 1))) (.v 0))]) (.n 0))))),.if_ (.and (.bin .nin (.v 5) (.v 2)) (.not (.v 6))) [.ex (.bm .append (.v 4) [(.x (.v 5))])] []],.ret (.mv 4)]
def zaW_:Fn:=fnOf gi 3 4 zh_
def zb1_:List S:=[.for_ .r1 [(.bin .add (.bf .len [(.v 2)]) (.n 1))] ⟨uG,[3]⟩ [.asg 4 (.pu (.comp Qn1 [("_law_wanted_here",2),("_law_late_here",3)] .any [(.v 1)] ⟨uG,[0]⟩ (uD (.bin .nin (.v 0) (.sl (.v 1) uE (uD (.v 2))))) (.v 0))),.if_ (.bin .eq (.v 4) (.sl (.v 2) (uD (.v 3)) (uD (.bin .add (.v 3) (.bf .len [(.v 4)]))))) [.if_ (.or (.bin .is (.i (.v 0) 2) (.k .non)) (.or (.bin .ne (.i (.i (.v 0) 2) 0) (.k (.str [102,105,114,115,116]))) (.bin .eq (.bin .add (.v 3) (.bf .len [(.v 4)])) (.bf .len [(.v 2)])))) [.ret (.mv 3)] []] []],.ret (.pu (.neg (.n 1)))]
def zb3_:Fn:=fnOf gi 3 2 zb1_
def zd_:List S:=[.asg 1 (.pu .dct0),.for_ .any [(.i (.v 0) 1)] ⟨uF,[2,3]⟩ [.for_ .r1 [(.bf .len [(.v 3)])] ⟨uG,[4]⟩ [.setI (.v 1) (.bin .add (.i (.v 2) 0) (.v 4)) (.bin .ix (.v 3) (.v 4))]],.asg 5 (.pu (.lst [])),.if_ (.bin .isn (.i (.v 0) 2) (.k .non)) [.asg 5 (.pu (.comp Qn1 [("_law_held",1)] .any [(.call zas_ "_law_all" [(.lst [(.bin .ix (.i (.v 0) 2) (.bin .div (.bf .len [(.i (.v 0) 2)]) (.n 2)))])])] ⟨uG,[0]⟩ (uD (.bin .nin (.v 0) (.v 1))) (.v 0)))] [],.asg 6 (.pu (.call zaW_ "_law_wanted" [(.v 0),(.v 5),(.v 1)])),.asg 7 (.pu (.call zb3_ "_law_late" [(.v 0),(.v 5),(.v 6)])),.asg 8 (.pu (.bin .add (.v 5) (.comp Qn1 [("_law_firm",5)] .any [(.sl (.v 6) (uD (.v 7)) uE)] ⟨uG,[0]⟩ (uD (.bin .nin (.v 0) (.v 1))) (.v 0)))),.asg 9 (.pu (.comp Qn1 [("_law_a",0),("_law_held",1)] .any [(.bf .sorted [(.bf .list [(.v 1)])])] ⟨uG,[0]⟩ uE (.tup [(.k (.str [112,105,99,107])),(.i (.v 1) 0),(.v 0),(.bin .ix (.v 2) (.v 0))]))),.asg 9 (.pu (.bin .add (.v 9) (.comp Qn1 [("_law_a",0)] .any [(.rv (.v 8))] ⟨uG,[0]⟩ uE (.tup [(.k (.str [100,101,97,108])),(.i (.v 1) 0),(.v 0)])))),.if_ (.and (.bin .isn (.i (.v 0) 2) (.k .non)) (.bin .eq (.i (.i (.v 0) 2) 0) (.k (.str [102,105,114,115,116])))) [.ex (.bm .append (.v 9) [(.x (.bin .add (.bin .add (.sl (.i (.v 0) 2) uE (uD (.n 1))) (.tup [(.i (.v 0) 0)])) (.sl (.i (.v 0) 2) (uD (.n 1)) uE)))])] [.if_ (.bin .isn (.i (.v 0) 2) (.k .non)) [.asg 9 (.pu (.bin .add (.v 9) (.comp Qn1 [("_law_a",0)] .r3 [(.i (.i (.i (.v 0) 2) 3) 1),(.bin .sub (.i (.i (.i (.v 0) 2) 3) 0) (.n 1)),(.neg (.n 1))] ⟨uG,[0]⟩ uE (.tup [(.k (.str [100,101,97,108])),(.i (.i (.v 1) 2) 1),(.v 0)])))),.ex (.bm .append (.v 9) [(.x (.tup [(.k (.str [109,97,116,101])),(.i (.v 0) 0),(.i (.i (.v 0) 2) 1),(.i (.i (.v 0) 2) 2),(.i (.i (.v 0) 2) 3),(.i (.i (.v 0) 2) 0)]))])] []],.asg 9 (.pu (.bin .add (.v 9) (.comp Qn1 [("_law_a",0)] .any [(.rv (.sl (.v 6) uE (uD (.v 7))))] ⟨uG,[0]⟩ uE (.tup [(.k (.str [100,101,97,108])),(.i (.v 1) 0),(.v 0)])))),.asg 9 (.pu (.bin .add (.v 9) (.comp ["_law_work"] [("_law_a",0)] .any [(.i (.v 0) 4)] ⟨uG,[0]⟩ uE (.tup [(.k (.str [112,117,110,99,104])),(.i (.v 1) 0),(.v 0)])))),.ret (.pu (.bin .add (.v 9) (.lst [(.tup [(.k (.str [99,111,117,110,116])),(.i (.v 0) 0),(.sl (.i (.v 0) 3) uE (uD (.i (.v 0) 5))),(.i (.v 0) 6),(.i (.v 0) 7),(.i (.v 0) 8)])])))]
def zcP_:Fn:=fnOf gi 1 9 zd_
def zaC_:List S:=[.ret (.pu (.call zO_ "picked_signs" [(.call zae_ "pick_passes" [(.v 0)])]))]
def z0_:Fn:=fnOf gi 1 0 zaC_
noncomputable def zcJ_:List S:=[.ret (.pu (.comp ["column"] [("name",0)] .rev [(.v 1)] ⟨uG,[0]⟩ uE (.tup [(.k (.str [100,101,97,108])),(.v 1),(.v 0)])))]
def zcX_:Fn:=fnOf gi 2 0 zcJ_
noncomputable abbrev zcu_:=X.call zcX_ "deals_of"
def zaE_:List S:=[.asg 2 (.pu (.call z0_ "wanted_signs" [(.v 0)])),.asg 3 (.pu (.lst [])),.for_ .any [(.v 1)] ⟨uG,[4]⟩ [.for_ .any [(zbD_ [(.v 4)])] ⟨uG,[5]⟩ [.if_ (.and (.bin .nin (.v 5) (.v 2)) (.bin .nin (.v 5) (.v 3))) [.ex (.bm .append (.v 3) [(.x (.v 5))])] []]],.ret (.mv 3)]
def zM_:Fn:=fnOf gi 2 4 zaE_
def z8_:List S:=[.ret (.pu (.call zM_ "free_columns" [(.v 0),(.sl (zm_ [(.v 0)]) uE (uD (.n 1)))]))]
def zaa_:Fn:=fnOf gi 1 0 z8_
noncomputable abbrev z6_:=X.call zaa_ "middle_columns"
def zd2_:List S:=[.ret (.pu (.and (.bin .isn (.fld (.v 0) "middle") (.k .non)) (.bin .eq (.i (.fld (.v 0) "middle") 0) (.k (.str [102,105,114,115,116])))))]
def zaO_:Fn:=fnOf gi 1 0 zd2_
noncomputable abbrev zcr_:=X.call zaO_ "is_first"
def zbt_:List S:=[.asg 2 (.pu (.n 0)),.while_ (.not (.bf .all [(.comp ["column"] [("columns",0),("length",2)] .any [(.v 1)] ⟨uG,[0]⟩ uE (.bin .inn (.v 0) (.sl (.v 1) uE (uD (.v 2)))))])) [.asg 2 (.pu (.bin .add (.v 2) (.n 1)))],.ret (.pu (.sl (.v 0) uE (uD (.v 2))))]
def zbq_:Fn:=fnOf gi 2 1 zbt_
def zP_:List S:=[.asg 1 (.pu (.call zM_ "free_columns" [(.v 0),(.bin .add (.fld (.v 0) "order") (.sl (zm_ [(.v 0)]) uE (uD (.n 1))))])),.ret (.pu (.ifx (zcr_ [(.v 0)]) (.call zbq_ "cut_behind" [(.v 1),(z6_ [(.v 0)])]) (.v 1)))]
def zq_:Fn:=fnOf gi 1 1 zP_
noncomputable abbrev z2_:=X.call zq_ "wanted_columns"
noncomputable def z3_:List S:=[.asg 4 (.pu (.comp ["column"] [("wanted",1),("length",2)] .any [(.v 0)] ⟨uG,[0]⟩ (uD (.bin .nin (.v 0) (.sl (.v 1) uE (uD (.v 2))))) (.v 0))),.asg 5 (.pu (.sl (.v 1) (uD (.v 2)) uE)),.ret (.pu (.bin .eq (.v 4) (.ifx (.v 3) (.v 5) (.sl (.v 5) uE (uD (.bf .len [(.v 4)]))))))]
def zx_:Fn:=fnOf gi 4 2 z3_
def za2_:List S:=[.asg 1 (.pu (z6_ [(.v 0)])),.asg 2 (.pu (z2_ [(.v 0)])),.asg 3 (.pu (.n 0)),.while_ (.not (.call zx_ "is_late_length" [(.v 1),(.v 2),(.v 3),(zcr_ [(.v 0)])])) [.asg 3 (.pu (.bin .add (.v 3) (.n 1)))],.ret (.mv 3)]
def zai_:Fn:=fnOf gi 1 3 za2_
def zam_:List S:=[.asg 1 (.pu (z6_ [(.v 0)])),.asg 2 (.pu (.sl (z2_ [(.v 0)]) (uD (.call zai_ "late_length" [(.v 0)])) uE)),.ret (.pu (.bin .add (.v 1) (.comp ["column"] [("middle",1)] .any [(.v 2)] ⟨uG,[0]⟩ (uD (.bin .nin (.v 0) (.v 1))) (.v 0))))]
def zW_:Fn:=fnOf gi 1 2 zam_
def zX_:List S:=[.if_ (.not (za7_ [(.v 0)])) [.ret (.pu (.lst []))] [],.ret (.pu (zcu_ [(.i (.call zaM_ "names_of" [(.v 0)]) 1),(zbD_ [(.i (zm_ [(.v 0)]) 1)])]))]
def zaY_:Fn:=fnOf gi 1 0 zX_
def zbl_:List S:=[.if_ (.bin .is (.fld (.v 0) "middle") (.k .non)) [.ret (.pu (.lst []))] [],.asg 1 (.pu (zm_ [(.v 0)])),.if_ (zcr_ [(.v 0)]) [.ret (.pu (.lst [(.tup [(.k (.str [102,105,114,115,116])),(.fld (.v 0) "deck"),(.i (.v 1) 0)])]))] [],.ret (.pu (.lst [(.tup [(.k (.str [109,97,116,101])),(.fld (.v 0) "deck"),(.i (.fld (.v 0) "middle") 1),(.i (.v 1) 0),(.i (.v 1) 1),(.i (.fld (.v 0) "middle") 0)])]))]
def zak_:Fn:=fnOf gi 1 1 zbl_
noncomputable def zaI_:List S:=[.ret (.pu (.sl (.fld (.v 0) "order") uE (uD (.fld (.v 0) "breaks"))))]
def zaD_:Fn:=fnOf gi 1 0 zaI_
def zaN_:List S:=[.asg 1 (.pu (.comp ["work"] [("asking",0)] .any [(.fld (.v 0) "works")] ⟨uG,[0]⟩ uE (.tup [(.k (.str [112,117,110,99,104])),(.fld (.v 1) "deck"),(.v 0)]))),.ex (.bm .append (.v 1) [(.x (.tup [(.k (.str [99,111,117,110,116])),(.fld (.v 0) "deck"),(.call zaD_ "break_fields" [(.v 0)]),(.bf .list [(.fld (.v 0) "sums")]),(.fld (.v 0) "figures"),(.bf .list [(.fld (.v 0) "board")])]))]),.ret (.mv 1)]
def za4_:Fn:=fnOf gi 1 1 zaN_
def zdJ_:List S:=[.asg 1 (.pu (.call z0_ "wanted_signs" [(.v 0)])),.asg 2 (.pu (.comp ["column"] [("asking",0),("signs",1)] .any [(.bf .sorted [(.v 1)])] ⟨uG,[0]⟩ uE (.tup [(.k (.str [112,105,99,107])),(.fld (.v 1) "deck"),(.v 0),(.bin .ix (.v 2) (.v 0))]))),.ex (.bm .extend (.v 2) [(.x (zcu_ [(.fld (.v 0) "deck"),(.call zW_ "early_columns" [(.v 0)])]))]),.ex (.bm .extend (.v 2) [(.x (.call zaY_ "other_deals" [(.v 0)]))]),.ex (.bm .extend (.v 2) [(.x (.call zak_ "middle_goings" [(.v 0)]))]),.ex (.bm .extend (.v 2) [(.x (zcu_ [(.fld (.v 0) "deck"),(.sl (z2_ [(.v 0)]) uE (uD (.call zai_ "late_length" [(.v 0)])))]))]),.ex (.bm .extend (.v 2) [(.x (.call za4_ "last_goings" [(.v 0)]))]),.ret (.mv 2)]
def zbf_:Fn:=fnOf gi 1 2 zdJ_
def ziN_:List S:=[.asg 1 (.pu (.call zah_ "_law_asking" [(.v 0)])),.asg 2 (.pu (.call zcb_ "_law_made" [(.v 1)])),.asg 3 (.pu (.call zcP_ "_law_due" [(.v 1)])),.asg 4 (.pu (.call zbf_ "plan_of" [(.v 2)])),.if_ (.or (.not (.isa (.v 4) "list")) (.bin .ne (.v 4) (.v 3))) [.ret (.pu (.k (.bl uG)))] [],.view [5] (.for_ .any [(.v 4)] ⟨uG,[5]⟩ [.if_ (.not (.isa (.v 5) "tuple")) [.ret (.pu (.k (.bl uG)))] []]),.ex (.bm .append (.s (.s (.v 4) (.neg (.n 1))) (.n 2)) [(.x (.tup [(.n 1),(.n 1)]))]),.ex (.bm .append (.s (.s (.v 4) (.neg (.n 1))) (.n 3)) [(.x (.tup [(.n 1),(.n 1)]))]),.ex (.bm .append (.s (.s (.v 4) (.neg (.n 1))) (.n 5)) [(.x (.tup [(.n 1),(.n 1)]))]),.ex (.bm .append (.v 4) [(.x (.tup [(.k (.str [100,101,97,108])),(.k (.str [97])),(.n 1)]))]),.setI (.v 4) (.n 0) (.k .non),.asg 6 (.pu (.call zbf_ "plan_of" [(.v 2)])),.ret (.pu (.and (.isa (.v 6) "list") (.bin .eq (.v 6) (.v 3))))]
def zpf_:Fn:=fnOf gi 1 6 ziN_
set_option hygiene false in
local macro_rules | `(tactic|exists $ts,*) => `(tactic|first |simp only[S.runs, S.run, trD, zdc_, ye_mv, zqb_, zqQ_, to_ok, bm_v, sd_v, onS, call1, atS_0, atS_s, Bm.ty, Bm.f, zqO_, zlx_, ↓zcn_, ↓zrf_, ↓sq_ct, ↓sq_ex, ↓zh5_, ↓mr_ex, ↓zdO_, zcn_, zrf_, sq_ct, sq_ex, zh5_, mr_ex, zdO_, zoK_, ifM_t, ifM_f, and_t, and_f, or_t, or_f, noE, or_b, and_b, min_i, vd_mod, zci_, zmy_, nw_bl, zd4_, zgu_, zm6_, zgH_, nw_c, nw_0, Bool.and_true, Mo.lim_ok, ag_d, ag_0, zcg_, zrq_, zq3_, zqh_, get_s, mv_0, mv_s, zh4_, zr_, zcd_, zeI_, frzE, List.foldl_cons, List.foldl_nil, znh_, frz_n, zpR_, X.uses, X.usesL, X.usesO, zE_, zlj_, xv_v, zqt_, xv_ch, zrF_, zpq_, xv_or, zrc_, zmF_, zpn_, xv_sl, zq9_, zqq_, zrA_, zgK_, xv_bf, zl1_, xv_rv, xv_lr, zpz_, zir_, xs_0, xs_c, xo_0, xo_s, xt_0, xt_s, zfU_, zpS_, xk_bl, zmT_, zrN_, zqg_, fz_ix, fz_in, zpQ_, zmv_, zmc_, zrL_, zqX_, zmL_, zn9_, zrM_, zog_, fz_is, zpJ_, fz_bl, zpX_, zp9_, fz_rv, zmo_, znL_, zn6_, fz_eq, zpD_, Bo.f, Bf.f, Ik.f, forS, evG, List.map_cons, List.map_nil, List.length_cons, List.length_nil, List.set_cons_zero, List.set_cons_succ, List.replicate_succ, List.replicate_zero, List.cons_append, List.nil_append, znk_, zl3_, bl_vw, zrB_, zo4_, zkv_, zpK_, zoY_, zZ_, zqE_, zpa_, zo5_, zgD_, zoh_, zpg_, ls_rv, di_vw, zd9_, zo2_, zpT_, zjN_, ls_in, zoQ_, zw_, zcj_, vd_lt, vd_le, vd_gt, vd_ge, zqM_, zp8_, zqm_, vd_bl, vd_int, zrt_, Bool.not_true, Bool.not_false, if_true, if_false, Bool.false_eq_true, Bool.true_eq_false, Option.map_some, Option.map_none, Nat.reduceAdd, Nat.reduceLT, Nat.reduceLeDiff, Int.reduceLT, Int.reduceLE, Int.reduceNeg, Int.reduceAdd, Int.reduceSub, Nat.lt_add_one, Nat.zero_lt_succ, Nat.zero_add, setE, cE, List.getElem?_cons_succ, List.getElem?_cons_zero, Option.join_some, setG, true_and, Int.toNat_natCast, zlH_, $[$ts:term],*]|skip)
set_option hygiene false in
local macro_rules | `(tactic|fail "q") => `(tactic|first |exact⟨_, _, rfl, .inl rfl⟩|exact⟨_, _, rfl, .inr ⟨rfl, rfl⟩⟩|exact⟨_, _, rfl, .inr ⟨rfl, trivial⟩⟩)
noncomputable abbrev Fd:=Int×Int
def F2 (f:Fd):D:=.nd .tup [.int f.1,.int f.2]
instance:Im F2:=⟨λ_=>rfl⟩
abbrev Pk:=Fd×List Nat
def PK (p:Pk):D:=.nd .tup [F2 p.1,.str p.2]
instance:Im PK:=⟨λ_=>rfl⟩
abbrev Wk:=Fd×Fd×List Nat×Fd
def WK (w:Wk):D:=.nd .tup [F2 w.1,F2 w.2.1,.str w.2.2.1,F2 w.2.2.2]
instance:Im WK:=⟨λ_=>rfl⟩
theorem F2_0 (f:Fd):ixA (F2 f) (.int 0)=.ok (.int f.1):=rfl
theorem F2_1 (f:Fd):ixA (F2 f) (.int 1)=.ok (.int f.2):=rfl
theorem PK_0 (f:Pk):ixA (PK f) (.int 0)=.ok (F2 f.1):=rfl
theorem PK_1 (f:Pk):ixA (PK f) (.int 1)=.ok (.str f.2):=rfl
theorem WK_0 (f:Wk):ixA (WK f) (.int 0)=.ok (F2 f.1):=rfl
theorem WK_1 (f:Wk):ixA (WK f) (.int 1)=.ok (F2 f.2.1):=rfl
theorem WK_2 (f:Wk):ixA (WK f) (.int 2)=.ok (.str f.2.2.1):=rfl
theorem WK_3 (f:Wk):ixA (WK f) (.int 3)=.ok (F2 f.2.2.2):=rfl
theorem zbF_ (f:Fd):(F2 f).vw=F2 f:=rfl
theorem zpi_ (f:Pk):(PK f).vw=PK f:=rfl
theorem zlF_ (f:Wk):(WK f).vw=WK f:=rfl
theorem zbZ_ (f:Fd):(F2 f).new=uF:=zkv_ f
noncomputable def WFi:List Nat:=[102,105,114,115,116]
noncomputable def WMa:List Nat:=[109,97,116,101,115]
noncomputable def WWi:List Nat:=[119,105,116,104,111,117,116]
inductive Md where
 |no |fi (f:Fd)|ma (w n:Jx) (f g:Fd)
def MD:Md->D
 |.no=>.non
 |.fi f=>.nd .tup [.str WFi,F2 f]
 |.ma w n f g=>.nd .tup [.str w,.str n,F2 f,F2 g]
structure Ak where
 dk:List Nat
 pk:List Pk
 md:Md
 od:List Fd
 wk:List Wk
 br:Int
 su:List Fd
 fg:Int
 bd:List Fd
def aFs (A:Ak):List D:=[.str A.dk,LS PK A.pk,MD A.md,LS F2 A.od,LS WK A.wk,.int A.br,LS F2 A.su,.int A.fg,LS F2 A.bd]
def AO (A:Ak):D:=.nd (.obj "Asking" ["deck", "picks", "middle", "order", "works", "breaks", "sums", "figures", "board"]) (aFs A)
section
variable (A:Ak)
theorem zhY_:fldD gi.cs "deck" (AO A)=.ok (.str A.dk):=rfl
theorem zcO_:fldD gi.cs "picks" (AO A)=.ok (.fz (LS PK A.pk)):=rfl
theorem zo6_:fldD gi.cs "middle" (AO A)=.ok (MD A.md):=by cases h:A.md<;>· show Mq (MD A.md).vw=_;rw[h];rfl
theorem zbz_:fldD gi.cs "order" (AO A)=.ok (.fz (LS F2 A.od)):=rfl
theorem zcF_:fldD gi.cs "works" (AO A)=.ok (.fz (LS WK A.wk)):=rfl
theorem zfe_:fldD gi.cs "breaks" (AO A)=.ok (.int A.br):=rfl
theorem zga_:fldD gi.cs "sums" (AO A)=.ok (.fz (LS F2 A.su)):=rfl
theorem zej_:fldD gi.cs "figures" (AO A)=.ok (.int A.fg):=rfl
theorem zh2_:fldD gi.cs "board" (AO A)=.ok (.fz (LS F2 A.bd)):=rfl
theorem zrC_:(AO A).vw=.fz (AO A):=rfl
theorem zo_:(D.fz (AO A)).vw=.fz (AO A):=rfl
end
def OkFd (f:Fd):Prop:=1<=f.1/\f.1<=f.2/\f.2<=36
def SG:List Nat:=Qm0
def LT:List Nat:=Qm1
def OkN (n:Jx):Prop:=1<=n.length/\n.length<=8/\∀c∈n,c∈LT
def OkK (sg:Int->Nat)(p:Pk):Prop:=OkFd p.1/\p.2=(rngI p.1.1 (p.1.2+1-p.1.1).toNat).map sg
def OkM (d:Jx):Md->Prop
 |.no=>True
 |.fi f=>OkFd f
 |.ma w n f g=>(w=WMa\/w=WWi)/\OkN n/\n≠d/\OkFd f/\OkFd g/\f.2-f.1=g.2-g.1
def WWo:Jy:=[[112,108,117,115],[108,101,115,115],[116,105,109,101,115]]
def OkW (w:Wk):Prop:=OkFd w.1/\OkFd w.2.1/\OkFd w.2.2.2/\w.2.2.1∈WWo
def apt (a b:Fd):Bool:=decide (a.2<b.1)||decide (b.2<a.1)
def midF:Md->List Fd
 |.no=>[]
 |.fi f=>[f]
 |.ma _ _ f g=>[f,g]
def gk (k:Int)(q:Int×Wk):List Fd:=(if q.1=k then[]else[q.2.1])++(if q.1<=k then[q.2.2.1,q.2.2.2.2]else[])
def kp (A:Ak)(k:Int):List Fd:=A.pk.map (·.1)++(midF A.md).take 1++A.od++(enumL A.wk).flatMap (gk k)
structure OkA (A:Ak):Prop where
 nm:OkN A.dk
 pl:A.pk.length<=8
 pk:∃sg:Int->Nat,(∀c,sg c∈SG)/\∀p∈A.pk,OkK sg p
 md:OkM A.dk A.md
 ol:A.od.length<=6
 od:∀f∈A.od,OkFd f
 wl:A.wk.length<=4
 wk:∀w∈A.wk,OkW w
 br:0<=A.br/\A.br<=3/\A.br<=A.od.length
 sl:A.su.length<=4
 su:∀f∈A.su,OkFd f
 fg:1<=A.fg/\A.fg<=12
 bl:A.bd.length<=9
 bd:(∀w∈A.bd,1<=w.1/\w.1<=40/\1<=w.2/\w.2<=36)/\A.bd.Pairwise λa b=>a.2<b.2
 ft:∀q∈enumL A.wk,∀f∈kp A q.1,apt q.2.1 f=uF
theorem zkA_ (a b:Fd):zbY_.val [F2 a,F2 b]=.ok (.bl (apt a b)):=by
 refine zQ_ rfl rfl λpn hp=>?_
 unfold zb7_
 exists hp,F2_0,F2_1
 fail "q"
theorem zeS_ (f:Fd):zcV_.val [F2 f]=.ok (.int (f.2-f.1+1)):=rfl
theorem zgM_ (w:Jx):zdG_.val [.bl uF,.str w]=.ok .non:=rfl
theorem zeB_ (i:Int):zc3_.val [.int i]=.ok (.bl uF):=rfl
theorem fieldb {f:Fd}(h:OkFd f):zc2_.val [.int f.1,.int f.2]=.ok (.bl uF):=by
 obtain⟨h1,h2,h3⟩:=h;refine zQ_ rfl rfl λpn hp=>?_
 unfold zcv_
 exists hp,zeB_,ch3D,chD,decide_eq_true h1,decide_eq_true h2,decide_eq_true h3
 fail "q"
theorem zg2_ {f:Fd}(h:OkFd f):zab_.val [F2 f]=.ok (LS .int (rngI f.1 (f.2+1-f.1).toNat)):=by
 obtain⟨h1,h2,h3⟩:=h;refine zQ_ rfl rfl λpn hp=>?_
 unfold zbs_;have e:lrD (.int f.1) (.int (f.2+1))=.ok (LS .int (rngI f.1 (f.2+1-f.1).toNat)):=by
  show Mo.grd _ (Mq (D.nd .lst (((rngI f.1 (f.2+1-f.1).toNat).map D.int).map .vw)))=_
  rw[Mo.grd_ok (by lia),zhi_];rfl
 exists hp,F2_0,F2_1,e
 fail "q"
theorem zle_ {A:Ak}(h:OkM A.dk A.md):zcQ_.val [.fz (AO A)]=.ok (.bl (match A.md with |.ma _ _ _ _=>uF |_=>uG)):=by
 obtain⟨a,b,m,r⟩:=A;cases m with
 |no=>rfl
 |fi=>rfl
 |ma w n f g=>rcases h.1 with rfl |rfl<;>rfl
theorem zlz_ {A:Ak}(h:OkM A.dk A.md):zaO_.val [.fz (AO A)]=.ok (.bl (match A.md with |.fi _=>uF |_=>uG)):=by
 obtain⟨a,b,m,r⟩:=A;cases m with
 |no=>rfl
 |fi=>rfl
 |ma w n f g=>rcases h.1 with rfl |rfl<;>rfl
theorem zgr_ {A:Ak}(h:OkM A.dk A.md):zaM_.val [.fz (AO A)]=.ok (LS .str (match A.md with |.ma _ n _ _=>[A.dk,n]|_=>[A.dk])):=by
 obtain⟨a,b,m,r⟩:=A;cases m with
 |no=>rfl
 |fi=>rfl
 |ma w n f g=>rcases h.1 with rfl |rfl<;>rfl
theorem zeG_ {A:Ak}(h:OkM A.dk A.md):zao_.val [.fz (AO A)]=.ok (LS F2 (midF A.md)):=by
 obtain⟨a,b,m,r⟩:=A;cases m with
 |no=>rfl
 |fi=>rfl
 |ma w n f g=>rcases h.1 with rfl |rfl<;>rfl
theorem zon_ {A:Ak}(h:OkM A.dk A.md):zL_.val [.fz (AO A)]=.ok .non:=by
 obtain⟨a,b,m,r⟩:=A;cases m with
 |no=>rfl
 |fi=>rfl
 |ma w n f g=>rcases h.1 with rfl |rfl<;>rfl
theorem zmk_ {A:Ak}(h:OkA A):zap_.val [.fz (AO A)]=.ok .non:=by
 have h1:=h.pl;have h2:=h.ol;have h3:=h.wl;have h4:=h.sl;refine zQ_ rfl rfl λpn hp=>?_
 unfold zan_
 exists hp,zo_,zcO_,zbz_,zcF_,zga_,decide_eq_true (show(A.pk.length:Int)<=8 by lia),decide_eq_true (show(A.od.length:Int)<=6 by lia),decide_eq_true (show(A.wk.length:Int)<=4 by lia),decide_eq_true (show(A.su.length:Int)<=4 by lia),zgM_
 fail "q"
theorem lt_in {c:Nat}(h:c∈LT):inA uG (.str [c]) (.str LT)=.ok (.bl uF):=by
 show Mq (D.bl (decide (c∈LT)))=_
 rw[decide_eq_true h]
theorem sg_in {c:Nat}(h:c∈SG):inA uG (.str [c]) (.str SG)=.ok (.bl uF):=by
 show Mq (D.bl (decide (c∈SG)))=_
 rw[decide_eq_true h]
theorem bls_t:∀(l:List Bool),blsD (l.map .bl)=uD l
 |[]=>rfl
 |b::l=>by rw[lq,blsD,bls_t l];rfl
theorem zn0_ (l:List Bool):allD [LS .bl l]=.ok (.bl (l.all id)):=by
 show(match blsD (l.map .bl)with |some bs=>Mq (D.bl (bs.all id))|none=>.no)=_
 rw[bls_t]
theorem zlp_ {α:Type}{p:α->Bool}(l:List α)(h:∀x∈l,p x=uF):allD [LS .bl (l.map p)]=.ok (.bl uF):=by
 rw[zn0_,rA,mL.mpr];intro x hx;exact h x hx
theorem lnS_ {l:List Nat}(h:l.length<=100000):lenA [.str l]=.ok (.int l.length):=by
 show Mo.lim _ _=_
 rw[Mo.lim_ok h]
theorem zhx_ (l:Jx):walkA [.str l]=.ok (l.map λc=>.str [c]):=rfl
theorem zlP_ {n:List Nat}(h:OkN n):zdM_.val [.str n]=.ok (.bl uF):=by
 obtain⟨h1,h2,h3⟩:=h;refine zQ_ rfl rfl λpn hp=>?_
 unfold zdA_
 exists hp,chD,lnS_ (show n.length<=100000 by lia),decide_eq_true (show(1:Int)<=n.length by lia),decide_eq_true (show(n.length:Int)<=8 by lia)
 rw[xcompN (f:=λ_:Nat=>uF) (o:=.bl) n rfl (by exists zhx_;rfl) (zE_ _ _) (λc hc=>by exact lt_in (h3 c hc)) (by lia)]
 exists zlp_ n (p:=λ_=>uF) (λ_ _=>rfl)
 fail "q"
theorem zlq_ {n:List Nat}(hl:n.length<=100000)(h:∀c∈n,c∈SG):zba_.val [.str n]=.ok (.bl uF):=by
 refine zQ_ rfl rfl λpn hp=>?_
 unfold zb0_
 exists hp
 rw[xcompN (f:=λ_:Nat=>uF) (o:=.bl) n rfl (by exists zhx_;rfl) (zE_ _ _) (λc hc=>by exact sg_in (h c hc)) hl]
 exists zlp_ n (p:=λ_=>uF) (λ_ _=>rfl)
 fail "q"
theorem zii_ {A:Ak}(h:OkA A):zaf_.val [.fz (AO A)]=.ok .non:=by
 have key:∀(ns:Jy) (c:Bool),zaM_.val [.fz (AO A)]=.ok (LS .str ns)->(∀n∈ns,OkN n)->eqD uF (.str (ns.headD [])) (.str (ns.getLastD []))=.ok (.bl c)->ixA (LS .str ns) (.int 0)=.ok (.str (ns.headD []))->ixA (LS .str ns) (.int (-1))=.ok (.str (ns.getLastD []))->(c ||decide ((ns.length:Int)=1))=uF->zaf_.val [.fz (AO A)]=.ok .non:=λns c e fF hc h0 h1 cY=>by
  refine zQ_ rfl rfl λpn hp=>?_
  unfold za6_
  exists hp,zo_,e
  refine zdU_ (a:=[_,_]) (b:=[]) rfl (hp _) (λn hn=>?_) (λo=>?_)
  ·exists hp,zlP_ (fF n hn),zgM_
   exact⟨_,_,rfl,rfl,rfl⟩
  ·exists hp,h0,h1,hc,cY,zgM_
   fail "q"
 have e:=zgr_ h.md;have hm:=h.md
 revert e hm
 cases A.md with
 |no=>exact λe _=>key _ uG e (λn hn=>by rw[lO.mp hn];exact h.nm) (by rw[zcj_];simp) rfl rfl rfl
 |fi=>exact λe _=>key _ uG e (λn hn=>by rw[lO.mp hn];exact h.nm) (by rw[zcj_];simp) rfl rfl rfl
 |ma w n f g=>
  intro e hm;refine key _ uF e (λx hx=>?_) ?_ rfl rfl rfl
  ·rcases lC.mp hx with rfl |hx
   ·exact h.nm
   ·rw[lO.mp hx];exact hm.2.1
  ·rw[zcj_]
   show Mq (D.bl (if uF=uF then !decide (A.dk=n)else _))=_
   rw[if_pos rfl,decide_eq_false (λz=>hm.2.2.1 z.symm)];rfl
theorem flen {α β:Type}{n:Nat}{f:α->List β}:∀(l:List α),(∀x,(f x).length<=n)->(l.flatMap f).length<=n*l.length
 |[],_=>by simp
 |x::l,h=>by rw[qh,lb,ly,uv];have:=flen l h;have:=h x;lia
theorem zqi_ {A:Ak}(h:OkA A):zby_.val [.fz (AO A)]=.ok (LS F2 (A.pk.map (·.1)++midF A.md++A.od++A.su++A.wk.flatMap λw=>[w.1,w.2.1,w.2.2.2])):=by
 have h1:=h.pl;have h2:=h.ol;have h3:=h.wl;have h4:=h.sl;have h5:(midF A.md).length<=2:=by unfold midF;split<;>simp
 refine zQ_ rfl rfl λpn hp=>?_
 unfold zbu_
 exists hp,zo_
 rw[xcompN (f:=λp:Pk=>p.1) (o:=F2) A.pk rfl (by exists zo_,zcO_;rfl) (zE_ _ _) (λc hc=>rfl) (by lia)]
 exists hp,zo_,zeG_ h.md,zbz_,zga_,zcF_,zd7_ (g:=F2) (a:=A.pk.map (·.1)) (b:=midF A.md) (by rw[k8];lia),zd7_ (g:=F2) (a:=A.pk.map (·.1)++midF A.md) (b:=A.od) (by rw[lb,k8];lia),zd7_ (g:=F2) (a:=A.pk.map (·.1)++midF A.md++A.od) (b:=A.su) (by rw[lb,lb,k8];lia)
 generalize hs:A.pk.map (·.1)++midF A.md++A.od++A.su=s
 have dB:s.length<=20:=by rw[<- hs];simp;lia
 refine zb5_ (l:=A.wk) (enc:=λw=>[WK w]) (λd e=>∃o,e=[uD (.fz (AO A)),uD (LS F2 (s++d.flatMap λw=>[w.1,w.2.1,w.2.2.2])),o]) ⟨_,by rw[qv,mU]⟩ (λd x r e hl he=>?_) (λe he=>?_)
 ·obtain⟨o,rfl⟩:=he
  refine⟨_,by exists hp;rfl,?_⟩
  have e:extendF [LS F2 (s++d.flatMap λw=>[w.1,w.2.1,w.2.2.2]),.nd .lst [F2 x.1,F2 x.2.1,F2 x.2.2.2]]=.ok .non [_,_]:=zko_ (b:=[x.1,x.2.1,x.2.2.2]) (by
   have:=flen (n:=3) (f:=λw:Wk=>[w.1,w.2.1,w.2.2.2]) d (λ_=>by simp)
   rw[hl]at h3;rw[lb]at h3 ⊢;simp only[ly,m7];lia)
  exists hp,zlF_,WK_0,WK_1,WK_3,zbZ_,e
  exact⟨_,_,rfl,.inl ⟨.inl rfl,uD (WK x),by rw[nv];simp⟩⟩
 ·obtain⟨o,rfl⟩:=he
  exists hp
  fail "q"
theorem cpicks1 {A:Ak}(h:OkA A){sg:Int->Nat}(hs:∀c,sg c∈SG){p:Pk}(hk:OkK sg p):zba_.val [.str p.2]=.ok (.bl uF)/\lenA [.str p.2]=.ok (.int (p.1.2-p.1.1+1)):=by
 obtain⟨⟨f1,f2,f3⟩,e⟩:=hk;have el:p.2.length=(p.1.2+1-p.1.1).toNat:=by rw[e,k8,zcy_]
 refine⟨zlq_ (by lia) (λc hc=>?_),?_⟩
 ·rw[e]at hc
  obtain⟨x,_,rfl⟩:=mF.mp hc;exact hs x
 ·rw[lnS_ (by lia),el];congr 2;lia
def cl (f:Fd):List Int:=rngI f.1 (f.2+1-f.1).toNat
def PP (sg:Int->Nat)(c:Int):D:=.nd .tup [.str [112,105,99,107],.int c,.str [sg c]]
def KD (sg:Int->Nat)(ks:List Int):D:=DI .str (ks.map λc=>(c,[sg c]))
def adp (m:List Int)(c:Int):List Int:=if c∈m then m else m++[c]
def ddp (l:List Int):List Int:=l.foldl adp []
section
variable {sg:Int->Nat}
instance:Im (PP sg):=⟨λ_=>rfl⟩
theorem PP_0 (c:Int):ixA (PP sg c) (.int 0)=.ok (.str [112,105,99,107]):=rfl
theorem PP_1 (c:Int):ixA (PP sg c) (.int 1)=.ok (.int c):=rfl
theorem PP_2 (c:Int):ixA (PP sg c) (.int 2)=.ok (.str [sg c]):=rfl
theorem PP_vw (c:Int):(PP sg c).vw=PP sg c:=rfl
theorem zfR_ (ks:List Int)(c:Int):dgt (ks.map λc=>(c,[sg c])) c=if c∈ks then uD [sg c]else uE:=by
 induction ks with
 |nil=>rfl
 |cons k ks ih=>
  rw[lq,dgt];by_cases h:k=c
  ·subst h;rw[if_pos rfl,if_pos (by simp)]
  ·rw[if_neg h,ih]
   simp[pV h]
theorem zlb_ (l:List Int)(c:Int):ddp (l++[c])=adp (ddp l) c:=by unfold ddp;rw[nL];rfl
theorem zoj_ (m:List Int)(c:Int):(adp m c).length<=m.length+1:=by unfold adp;split<;>simp
theorem zcH_:∀(l m:List Int),(l.foldl adp m).length<=m.length+l.length
 |[],m=>by simp
 |c::l,m=>by have:=zcH_ l (adp m c);have:=zoj_ m c;rw[m6,ly];lia
theorem zde_ (l:List Int):(ddp l).length<=l.length:=by have:=zcH_ l [];rw[m7,tM]at this;exact this
theorem zaK_ {f:Fd}(h:OkFd f):(cl f).length<=36:=by unfold cl;rw[zcy_];obtain⟨a,b,c⟩:=h;lia
theorem flenM {α β:Type}{n:Nat}{f:α->List β}:∀(l:List α),(∀x∈l,(f x).length<=n)->(l.flatMap f).length<=n*l.length
 |[],_=>by simp
 |x::l,h=>by rw[qh,lb,ly,uv];have:=flenM l λy hy=>h y (lQ _ hy);have:=h x lR;lia
theorem znd_ (l:List Int):zipD [LS .int l,.str (l.map sg)]=.ok (l.map λc=>.nd .tup [.int c,.str [sg c]]):=by
 show Mq (((l.map D.int).zip (l.map sg)).map λq=>D.nd .tup [q.1,.str [q.2]])=_
 rw[List.zip_map',mC];rfl
theorem ze6_ {A:Ak}(fH:A.pk.length<=8)(hk:∀p∈A.pk,OkK sg p):zae_.val [.fz (AO A)]=.ok (LS (PP sg) (A.pk.flatMap λp=>cl p.1)):=by
 refine zQ_ rfl rfl λpn hp=>?_
 unfold zaP_
 exists hp,zo_,zcO_
 refine zb5_ (l:=A.pk) (enc:=λw=>[PK w]) (λd e=>∃o,e=[uD (.fz (AO A)),uD (LS (PP sg) (d.flatMap λp=>cl p.1)),o]) ⟨uE,rfl⟩ (λd x r e hl he=>?_) (λe he=>?_)
 ·obtain⟨o,rfl⟩:=he
  refine⟨_,by exists hp;rfl,?_⟩
  have hx:=hk x (by rw[hl];simp)
  have e1:x.2=(cl x.1).map sg:=hx.2;have hlen:(d.flatMap λp=>cl p.1).length<=36*d.length:=flenM d λy hy=>zaK_ (hk y (by rw[hl];simp[hy])).1
  have kJ:=zaK_ hx.1;rw[hl,lb]at fH
  exists hp,zpi_
  rw[xcompN (f:=λc:Int=>c) (o:=PP sg) (T:=λc=>[.int c,.str [sg c]]) (cl x.1) rfl (by exists zpi_,PK_0,PK_1,zbF_,zg2_ hx.1,e1,znd_;exact znd_ _) (zlj_ _ _ _) (λc hc=>rfl) (by lia)]
  exists hp,mN,zko_ (g:=PP sg) (a:=d.flatMap λp=>cl p.1) (b:=cl x.1) (by lia)
  exact⟨_,_,rfl,.inl ⟨.inl rfl,uD (PK x),by rw[nv];simp⟩⟩
 ·obtain⟨o,rfl⟩:=he
  exists hp
  fail "q"
theorem ziX_ (cs:List Int)(hl:cs.length<=1000):zO_.val [.fz (LS (PP sg) cs)]=.ok (KD sg (ddp cs)):=by
 refine zQ_ rfl rfl λpn hp=>?_
 unfold zaB_
 exists hp
 refine zb5_ (l:=cs) (enc:=λw=>[PP sg w]) (λd e=>∃o,e=[uD (.fz (LS (PP sg) cs)),uD (KD sg (ddp d)),o]) ⟨uE,rfl⟩ (λd x r e bj he=>?_) (λe he=>?_)
 ·obtain⟨o,rfl⟩:=he
  refine⟨_,by exists hp;rfl,?_⟩
  have hlen:=zde_ d;rw[bj,lb]at hl;rw[zlb_];have ek:eqD uF (.str [sg x]) (.str [sg x])=.ok (.bl uG):=by rw[zcj_];simp
  have ep:eqD uG (.str [112,105,99,107]) (.str [112,105,99,107])=.ok (.bl uF):=by rw[zcj_];simp
  by_cases hc:x∈ddp d
  ·have es:setdF [KD sg (ddp d),.int x,.str [sg x]]=_:=zn4_ (g:=.str) (v:=[sg x]) (w:=[sg x]) (by rw[zfR_,if_pos hc])
   rw[show adp (ddp d) x=ddp d from if_pos hc]
   have ik:isK "dict" (KD sg (ddp d))=uF:=rfl
   exists hp,PP_vw,PP_0,PP_1,PP_2,ep,es,ik,ek
   exact⟨_,_,rfl,.inl ⟨.inl rfl,uD (PP sg x),rfl⟩⟩
  ·have es:setdF [KD sg (ddp d),.int x,.str [sg x]]=_:=zmJ_ (g:=.str) (v:=[sg x]) (by rw[zfR_,if_neg hc]) (by rw[k8];lia)
   have ik:isK "dict" (KD sg (ddp d))=uF:=rfl
   exists hp,PP_vw,PP_0,PP_1,PP_2,ep,es,ik,ek
   exact⟨_,_,rfl,.inl ⟨.inl rfl,uD (PP sg x),by unfold KD adp;rw[if_neg hc,mX];rfl⟩⟩
 ·obtain⟨o,rfl⟩:=he
  exists hp
  fail "q"
end
theorem KD_vw {sg:Int->Nat}(ks:List Int):(KD sg ks).vw=.fz (KD sg ks):=rfl
theorem zpl_ {sg:Int->Nat}(ks:List Int):isD uF (KD sg ks) .non=.ok (.bl uF):=rfl
theorem zfs_ {A:Ak}{sg:Int->Nat}(fH:A.pk.length<=8)(hk:∀p∈A.pk,OkK sg p):zO_.val [.fz (LS (PP sg) (A.pk.flatMap λp=>cl p.1))]=.ok (KD sg (ddp (A.pk.flatMap λp=>cl p.1))):=
 ziX_ _ (by have:(A.pk.flatMap λp=>cl p.1).length<=36*A.pk.length:=flenM A.pk λy hy=>zaK_ (hk y hy).1;lia)
theorem zif_ {A:Ak}(h:OkA A):zaX_.val [.fz (AO A)]=.ok .non:=by
 obtain⟨sg,hs,hk⟩:=h.pk;refine zQ_ rfl rfl λpn hp=>?_
 unfold zaS_
 exists hp,zo_,zcO_
 refine zdU_ (a:=[_]) (b:=[]) rfl (hp _) (λp fE=>?_) (λo=>?_)
 ·obtain⟨e1,e2⟩:=cpicks1 h hs (hk p fE)
  exists hp,zpi_,PK_0,PK_1,zbF_,e1,e2,zeS_,zw_,decide_true,zgM_
  exact⟨_,_,rfl,rfl,rfl⟩
 ·exists hp,zo_,ze6_ h.pl hk,zfs_ h.pl hk,zpl_,zgM_
  fail "q"
theorem znU_ {A:Ak}(h:OkA A):zF_.val [.fz (AO A)]=.ok .non:=by
 have e:=zeG_ h.md;have hm:=h.md
 revert e hm
 cases A.md with
 |no=>
  intro e _;refine zQ_ rfl rfl λpn hp=>?_
  unfold zf_;have e0:trD (LS F2 [])=.ok uG:=rfl
  exists hp,zo_,e,midF
  have:trD (.fz (LS F2 []))=.ok uG:=rfl;exact⟨_,_,rfl,.inr ⟨rfl,by first |rfl |trivial⟩⟩
 |fi f=>
  intro e _;refine zQ_ rfl rfl λpn hp=>?_
  unfold zf_;have e0:ixA (LS F2 [f]) (.int 0)=.ok (F2 f):=rfl;have e1:ixA (LS F2 [f]) (.int (-1))=.ok (F2 f):=rfl
  exists hp,zo_,e,midF,e0,e1,zbF_,zeS_,zw_,decide_true,zgM_
  exact⟨_,_,rfl,.inr ⟨rfl,by first |rfl |trivial⟩⟩
 |ma w n f g=>
  intro e hm;refine zQ_ rfl rfl λpn hp=>?_
  unfold zf_;have e0:ixA (LS F2 [f,g]) (.int 0)=.ok (F2 f):=rfl;have e1:ixA (LS F2 [f,g]) (.int (-1))=.ok (F2 g):=rfl
  exists hp,zo_,e,midF,e0,e1,zbF_,zeS_,zw_,decide_eq_true (show f.2-f.1+1=g.2-g.1+1 by have:=hm.2.2.2.2.2;lia),zgM_
  exact⟨_,_,rfl,.inr ⟨rfl,by first |rfl |trivial⟩⟩
theorem znc_ {v m:Int}(h:1<=v/\v<=m):zbd_.val [.int v,.int m]=.ok (.bl uF):=by
 refine zQ_ rfl rfl λpn hp=>?_
 unfold zb2_
 exists hp,zeB_,chD,decide_eq_true h.1,decide_eq_true h.2
 fail "q"
def ld (ws:List Fd):List (Int×Fd):=ws.map λw=>(w.2,w)
theorem zl6_ {ws:List Fd}{i:Int}(h:∀w∈ws,w.2≠i):dgt (ld ws) i=uE:=by
 induction ws with
 |nil=>rfl
 |cons w ws ih=>unfold ld at ih ⊢;rw[lq,dgt,if_neg (h w lR)];exact ih λx hx=>h x (lQ _ hx)
theorem zmX_ {ws:List Fd}(hp:ws.Pairwise λa b=>a.2<b.2){w:Fd}(h:w∈ws):dgt (ld ws) w.2=uD w:=by
 induction ws with
 |nil=>cases h
 |cons x ws ih=>
  rw[qc]at hp;unfold ld at ih ⊢;rw[lq,dgt];rcases lC.mp h with rfl |h
  ·rw[if_pos rfl]
  ·rw[if_neg (by have:=hp.1 w h;lia)];exact ih hp.2 h
theorem zla_ {ws:List Fd}(hl:ws.length<=9)(h1:∀w∈ws,1<=w.1/\w.1<=40/\1<=w.2/\w.2<=36)(h2:ws.Pairwise λa b=>a.2<b.2):zbE_.val [.fz (LS F2 ws)]=.ok (LS F2 ws):=by
 refine zQ_ rfl rfl λpn hp=>?_
 unfold zbC_
 exists hp
 refine zdU_ (a:=[_]) (b:=[_]) rfl (hp _) (λw hw=>?_) (λo=>?_)
 ·obtain⟨a1,a2,a3,a4⟩:=h1 w hw
  exists hp,zbF_,F2_0,F2_1,znc_ ⟨a1,a2⟩,znc_ ⟨a3,a4⟩
  exact⟨_,_,rfl,rfl,rfl⟩
 ·exists hp
  refine zb5_ (l:=ws) (enc:=λw=>[F2 w]) (λd e=>∃o,e=[uD (.fz (LS F2 ws)),o,uD (DI F2 (ld d))]) ⟨_,rfl⟩ (λd x r e bj he=>?_) (λe he=>?_)
  ·obtain⟨o,rfl⟩:=he
   refine⟨_,by exists hp;rfl,?_⟩
   have hn:dgt (ld d) x.2=uE:=zl6_ λw hw=>by
    rw[bj,List.pairwise_append]at h2;have:=h2.2.2 w hw x lR;lia
   rw[bj,lb]at hl
   exists hp,zbF_,F2_1,hn,Option.isSome_none
   rw[zls_ (d:=F2 x) (a:=.int x.2) rfl (zbZ_ x) rfl rfl rfl (zlS_ (g:=F2) (m:=ld d) (i:=x.2) (v:=x) (by unfold ld;rw[k8];lia))]
   exists hp
   refine⟨_,_,rfl,.inl ⟨.inl rfl,uD (F2 x),?_⟩⟩;rw[(zfz_ (g:=F2) (ld d)).1 hn];unfold ld;rw[mX];rfl
  ·obtain⟨o,rfl⟩:=he
   exists hp
   have es:srtI ((ld ws).map (·.1))=.ok (.nd .lst (ws.map λw=>.int w.2)):=by
    have e0:(ld ws).map (·.1)=ws.map (·.2):=by unfold ld;rw[mC];rfl
    unfold srtI;rw[e0,Mo.grd_ok (by rw[k8];lia),<- zfg_ zou_ (ws:=ws.map (·.2)) (List.Perm.refl _) ?_,mC]
    ·rfl
    ·rw[rD]
     exact h2.imp λ{a b} h=>by show decide _=uG;exact decide_eq_false (by lia)
   rw[xcompN (f:=λw:Fd=>w) (o:=F2) (T:=λw=>[.int w.2]) (items:=ws.map λw=>.int w.2) ws rfl (by exists es;rfl) (zE_ _ _) (λc hc=>?_) (by lia)]
   ·exists hp,mN
    fail "q"
   ·show ixA (.fz (DI F2 (ld ws))) (.int c.2)=_
    rw[fz_ix,zo2_,zmX_ h2 hc];rfl
theorem zjq_ (n:Nat)(w:Fd):eqT (n+1) (F2 w) (F2 w)=uD uF:=zeK_ λd hd=>by
 rcases lC.mp hd with rfl |hd
 ·rw[zgh_,decide_eq_true rfl]
 ·rw[lO.mp hd,zgh_,decide_eq_true rfl]
theorem zql_ {ws:List Fd}(hl:ws.length<=9)(h1:∀w∈ws,1<=w.1/\w.1<=40/\1<=w.2/\w.2<=36)(h2:ws.Pairwise λa b=>a.2<b.2):zcW_.val [.fz (LS F2 ws)]=.ok (.bl uF):=by
 refine zQ_ rfl rfl λpn hp=>?_
 unfold zcU_;have e:eqD uG (LS F2 ws) (LS F2 ws)=.ok (.bl uF):=zfP_ (c:=uF) (zmS_ (n:=11) λd hd=>by obtain⟨w,_,rfl⟩:=mF.mp hd;exact zjq_ 10 w)
 exists hp,zla_ hl h1 h2,e
 fail "q"
theorem zl8_ {A:Ak}(h:OkA A):z7_.val [.fz (AO A)]=.ok .non:=by
 obtain⟨b1,b2,b3⟩:=h.br;obtain⟨g1,g2⟩:=h.fg;refine zQ_ rfl rfl λpn hp=>?_
 unfold z9_
 exists hp,zo_,zfe_,zbz_,zej_,zh2_,zeB_,chD,decide_eq_true b1,decide_eq_true b2,decide_eq_true b3,decide_eq_true g1,decide_eq_true g2,zql_ h.bl h.bd.1 h.bd.2,zgM_
 fail "q"
theorem zjz_ (l:List Wk):enumD [LS WK l]=.ok ((enumL l).map λq=>.nd .tup [.int q.1,WK q.2]):=by
 show Mq ((enumL (l.map WK)).map λq=>D.nd .tup [.int q.1,q.2])=_
 unfold enumL;rw[k8,List.zip_map_right,mC,mC,mC];rfl
theorem zlL_ {A:Ak}(h:OkA A)(k:Int):za3_.val [.fz (AO A),.int k]=.ok (LS F2 (kp A k)):=by
 have h1:=h.pl;have h2:=h.ol;have h3:=h.wl;have h5:((midF A.md).take 1).length<=1:=by rw[l5];lia
 refine zQ_ rfl rfl λpn hp=>?_
 unfold zaR_
 exists hp,zo_
 rw[xcompN (f:=λp:Pk=>p.1) (o:=F2) A.pk rfl (by exists zo_,zcO_;rfl) (zE_ _ _) (λc hc=>rfl) (by lia)]
 exists hp,zo_,zeG_ h.md,zbz_,zcF_,zag_ (show(0:Int)<=1 by lia),show(1:Int).toNat=1 from rfl,zd7_ (g:=F2) (a:=A.pk.map (·.1)) (b:=(midF A.md).take 1) (by rw[k8];lia),zd7_ (g:=F2) (a:=A.pk.map (·.1)++(midF A.md).take 1) (b:=A.od) (by rw[lb,k8];lia),zjz_
 unfold kp
 generalize hs:A.pk.map (·.1)++(midF A.md).take 1++A.od=s
 have dB:s.length<=15:=by rw[<- hs];simp;lia
 refine zb5_ (l:=enumL A.wk) (enc:=λq=>[.int q.1,WK q.2]) (λd e=>∃o o',e=[uD (.fz (AO A)),uD (.int k),uD (LS F2 (s++d.flatMap (gk k))),o,o']) ⟨uE,uE,by rw[qv,mU]⟩ (λd x r e hl he=>?_) (λe he=>?_)
 ·obtain⟨o,o',rfl⟩:=he
  refine⟨_,by exists hp;rfl,?_⟩
  have hlen:(d.flatMap (gk k)).length<=3*d.length:=flenM d λq _=>by unfold gk;split<;>split<;>simp
  have hle:d.length<=4:=by have:=zbW_ A.wk;rw[hl,lb]at this;lia
  generalize hd:s++d.flatMap (gk k)=m
  have bh:m.length<=30:=by rw[<- hd,lb];lia
  rw[nv,<- oy,hd,qh,qv,mU];have ea:appendF [LS F2 m,F2 x.2.1]=_:=zdC_ (g:=F2) (l:=m) (x:=x.2.1) (by lia)
  have eb:∀m:List Fd,m.length<=31->extendF [LS F2 m,.nd .lst [F2 x.2.2.1,F2 x.2.2.2.2]]=.ok .non [LS F2 (m++[x.2.2.1,x.2.2.2.2]),_]:=λm hm=>zko_ (b:=[x.2.2.1,x.2.2.2.2]) (by simp only[ly,m7];lia)
  unfold gk;by_cases c1:x.1=k
  ·have c2:x.1<=k:=by lia
   rw[if_pos c1,if_pos c2]
   exists hp,zlF_,WK_0,WK_1,WK_3,zbF_,zbZ_,zw_,decide_eq_true c1,decide_eq_true c2,eb m (by lia)
   exact⟨_,_,rfl,.inl ⟨.inl rfl,uD (.int x.1),uD (WK x.2),rfl⟩⟩
  ·rw[if_neg c1]
   by_cases c2:x.1<=k
   ·rw[if_pos c2]
    exists hp,zlF_,WK_0,WK_1,WK_3,zbF_,zbZ_,zw_,decide_eq_false c1,decide_eq_true c2,ea,eb (m++[x.2.1]) (by simp;lia)
    exact⟨_,_,rfl,.inl ⟨.inl rfl,uD (.int x.1),uD (WK x.2),by simp⟩⟩
   ·rw[if_neg c2]
    exists hp,zlF_,WK_0,WK_1,WK_3,zbF_,zbZ_,zw_,decide_eq_false c1,decide_eq_false c2,ea
    exact⟨_,_,rfl,.inl ⟨.inl rfl,uD (.int x.1),uD (WK x.2),by simp⟩⟩
 ·obtain⟨o,o',rfl⟩:=he
  exists hp
  fail "q"
theorem zj9_ {w:List Nat}(h:w∈WWo):inA uG (.str w) (.nd .ktup (WWo.map .str))=.ok (.bl uF):=by
 unfold WWo at h;simp only[lC,mR,or_false]at h;rcases h with rfl |rfl |rfl<;>rfl
theorem zmN_ {A:Ak}(h:OkA A):zaV_.val [.fz (AO A)]=.ok .non:=by
 refine zQ_ rfl rfl λpn hp=>?_
 unfold zaZ_
 exists hp,zo_,zcF_,zjz_
 refine zb5_ (l:=enumL A.wk) (enc:=λq=>[.int q.1,WK q.2]) (λd e=>∃a b o,e=[uD (.fz (AO A)),a,b,o]) ⟨uE,uE,uE,rfl⟩ (λd x r e hl he=>?_) (λe he=>?_)
 ·obtain⟨o1,o2,o3,rfl⟩:=he
  refine⟨_,by exists hp;rfl,?_⟩
  have hx:x∈enumL A.wk:=by rw[hl];simp
  have hw:x.2∈A.wk:=by obtain⟨i,_,_,e2⟩:=zdx_ hx;exact nG e2
  have ew:∀env,X.ev gi env (.gt "WORK_WORDS" WWo)=.ok (.nd .ktup (WWo.map .str)):=λenv=>xv_gt _ _ (by decide)
  have e2:=zj9_ (h.wk x.2 hw).2.2.2;unfold WWo at ew e2;simp only[lq,nF]at e2
  exists hp,zlF_,WK_2,zo_,zlL_ h,ew,e2,zgM_
  refine zdU_ (a:=[_,_,_]) (b:=[]) rfl (hp _) (λf hf=>?_) (λo=>?_)
  ·exists hp,zlF_,WK_0,zbF_,zkA_,h.ft x hx f hf,zgM_
   exact⟨_,_,rfl,rfl,rfl⟩
  ·exists hp
   exact⟨_,_,rfl,.inl ⟨.inl rfl,_,_,_,rfl⟩⟩
 ·obtain⟨a,b,o,rfl⟩:=he
  exists hp
  fail "q"
theorem zkk_ {A:Ak}(h:OkA A):zaA_.val [.fz (AO A)]=.ok .non:=by
 refine zQ_ rfl rfl λpn hp=>?_
 unfold zaG_
 exists hp,zo_,zmk_ h,zon_ h.md,zii_ h,zqi_ h
 refine zdU_ (a:=[_]) (b:=[]) rfl (hp _) (λf hf=>?_) (λo=>?_)
 ·have hF:OkFd f:=by
   obtain⟨sg,_,hk⟩:=h.pk;have hm:=h.md;rcases lZ.mp hf with hf |hf
   ·rcases lZ.mp hf with hf |hf
    ·rcases lZ.mp hf with hf |hf
     ·rcases lZ.mp hf with hf |hf
      ·obtain⟨p,hp,rfl⟩:=mF.mp hf;exact(hk p hp).1
      ·revert hm hf
       cases A.md with
       |no=>intro _ hf;cases hf
       |fi g=>intro hm hf;rw[lO.mp hf];exact hm
       |ma w n f g=>
        intro hm hf;rcases lC.mp hf with rfl |hf
        ·exact hm.2.2.2.1
        ·rw[lO.mp hf];exact hm.2.2.2.2.1
     ·exact h.od f hf
    ·exact h.su f hf
   ·obtain⟨w,hw,hf⟩:=rR.mp hf
    obtain⟨a,b,c,_⟩:=h.wk w hw;simp only[lC,mR,or_false]at hf;rcases hf with rfl |rfl |rfl
    ·exact a
    ·exact b
    ·exact c
  exists hp,zbF_,F2_0,F2_1,fieldb hF,zgM_
  exact⟨_,_,rfl,rfl,rfl⟩
 ·exists hp,zo_,zif_ h,znU_ h,zl8_ h,zmN_ h
  fail "q"
theorem zks_ {α:Type}{g:α->D}[Im g](l:List α):zcz_.val [.fz (LS g l)]=.ok (LS g l):=by
 refine zQ_ rfl rfl λpn hp=>?_
 unfold zc4_;have e:isD uG (LS g l) .non=.ok (.bl uG):=rfl
 exists hp,e
 fail "q"
def AL (A:Ak):D:=.nd .lst [.str A.dk,.fz (LS PK A.pk),MD A.md,.fz (LS F2 A.od),LS WK A.wk,.int A.br,.fz (LS F2 A.su),.int A.fg,.fz (LS F2 A.bd)]
theorem zni_ (m:Md):(MD m).imm=uF:=by cases m<;>rfl
theorem zna_ (m:Md):(MD m).vw=MD m:=by unfold D.vw;rw[zni_];rfl
theorem zoM_ (m:Md):(MD m).new=uF:=zfr_ _ (zni_ m)
theorem zot_ {A:Ak}(h:OkA A):∃ds,zJ_ [.nd (.obj "Asking" []) [],.str A.dk,.fz (LS PK A.pk),MD A.md,.fz (LS F2 A.od),.fz (LS WK A.wk),.int A.br,.fz (LS F2 A.su),.int A.fg,.fz (LS F2 A.bd)]=.ok .non (AO A::ds):=by
 have mv:(MD A.md).vw=MD A.md:=zna_ _;have mn:(MD A.md).new=uF:=zoM_ _;have main:∀pn:Nat->Bool,∃e,S.runs gi pn zt_ [uD (.nd (.obj "Asking" []) []),uD (.str A.dk),uD (.fz (LS PK A.pk)),uD (MD A.md),uD (.fz (LS F2 A.od)),uD (.fz (LS WK A.wk)),uD (.int A.br),uD (.fz (LS F2 A.su)),uD (.int A.fg),uD (.fz (LS F2 A.bd))]=.ok .nx (uD (AO A)::e):=λpn=>by
  unfold zt_;rw[S.runs,S.run,zdm_ (d:=.str A.dk) rfl rfl rfl (by decide) (by decide) (by decide),zcn_]
  rw[S.runs,S.run,zdm_ (d:=LS PK A.pk) (by exists zgD_) zZ_ rfl (by decide) (by decide) (by decide),zcn_]
  rw[S.runs,S.run,zdm_ (d:=MD A.md) (by exists mv) mn rfl (by decide) (by decide) (by decide),zcn_]
  rw[S.runs,S.run,zdm_ (d:=LS F2 A.od) (by exists zgD_) zZ_ rfl (by decide) (by decide) (by decide),zcn_]
  rw[S.runs,S.run,zdm_ (d:=LS WK A.wk) (by exists zks_) zZ_ rfl (by decide) (by decide) (by decide),zcn_]
  rw[S.runs,S.run,zdm_ (d:=.int A.br) rfl rfl rfl (by decide) (by decide) (by decide),zcn_]
  rw[S.runs,S.run,zdm_ (d:=LS F2 A.su) (by exists zks_) zZ_ rfl (by decide) (by decide) (by decide),zcn_]
  rw[S.runs,S.run,zdm_ (d:=.int A.fg) rfl rfl rfl (by decide) (by decide) (by decide),zcn_]
  rw[S.runs,S.run,zdm_ (d:=LS F2 A.bd) (by exists zks_) zZ_ rfl (by decide) (by decide) (by decide),zcn_]
  have e0:∀l,getE (uD (D.nd (.obj "Asking" ["deck", "picks", "middle", "order", "works", "breaks", "sums", "figures", "board"]) (aFs A))::l) 0=.ok (.fz (AO A)):=λl=>rfl
  unfold aFs at e0
  exists e0,zo_,zkk_ h
  exact⟨_,rfl⟩
 obtain⟨e,he⟩:=main (pins [.nd (.obj "Asking" []) [],.str A.dk,.fz (LS PK A.pk),MD A.md,.fz (LS F2 A.od),.fz (LS WK A.wk),.int A.br,.fz (LS F2 A.su),.int A.fg,.fz (LS F2 A.bd)]);exact⟨_,zrd_ (G:=gi) (n:=10) (m:=0) (body:=zt_) (ds:=[.nd (.obj "Asking" []) [],.str A.dk,.fz (LS PK A.pk),MD A.md,.fz (LS F2 A.od),.fz (LS WK A.wk),.int A.br,.fz (LS F2 A.su),.int A.fg,.fz (LS F2 A.bd)]) rfl he⟩
theorem AL_2v (A:Ak):ixA (AL A) (.int 2)=.ok (MD A.md).vw:=rfl
theorem zoD_ {A:Ak}(h:OkA A):zcb_.val [.fz (AL A)]=.ok (AO A):=by
 refine zQ_ rfl rfl λpn hp=>?_
 obtain⟨ds,hi⟩:=zot_ h;have mv:(MD A.md).vw=MD A.md:=zna_ _;have e2:ixA (AL A) (.int 2)=.ok (MD A.md):=by rw[AL_2v,mv]
 have em:makeD zJ_ "Asking" [.str A.dk,LS PK A.pk,MD A.md,LS F2 A.od,LS WK A.wk,.int A.br,LS F2 A.su,.int A.fg,LS F2 A.bd]=.ok (AO A):=by
  unfold makeD;simp only[lq,nF,zpK_,zl3_,znk_,mv,hi]
 have ew:(D.fz (AL A)).vw=.fz (AL A):=rfl;have en:(AO A).new=uF:=by
  show D.news (aFs A)=uF
  unfold aFs;simp only[nw_c,nw_0,zgu_,zd4_,zZ_,zoM_,pW]
 have e0:ixA (AL A) (.int 0)=.ok (.str A.dk):=rfl;have e1:ixA (AL A) (.int 1)=.ok (.fz (LS PK A.pk)):=rfl;have e3:ixA (AL A) (.int 3)=.ok (.fz (LS F2 A.od)):=rfl;have e4:ixA (AL A) (.int 4)=.ok (.fz (LS WK A.wk)):=rfl;have e5:ixA (AL A) (.int 5)=.ok (.int A.br):=rfl;have e6:ixA (AL A) (.int 6)=.ok (.fz (LS F2 A.su)):=rfl;have e7:ixA (AL A) (.int 7)=.ok (.int A.fg):=rfl;have e8:ixA (AL A) (.int 8)=.ok (.fz (LS F2 A.bd)):=rfl;unfold zca_
 exists hp,ew,e0,e1,e2,e3,e4,e5,e6,e7,e8,em,en
 fail "q"
theorem rg1 {j:Int}(h0:0<=j)(h:j<=100000):rng1D [D.int j]=Mq ((lH j.toNat).map λi:Nat=>D.int (0+(i:Int))):=by
 unfold rng1D;dsimp only;rw[VI.vd_int,zdO_,Mo.grd_ok ⟨by lia,by lia⟩]
 unfold rngI;rw[mC];rfl
section
variable (ns:List Int)
theorem znG_ {k:Int}(h0:0<=k)(h1:k<=1000):∃c,za_.val [scr ns,.int k]=.ok (.int c):=by
 by_cases hk:k<(ns.length:Int)
 ·refine⟨ns.getD k.toNat 0,zQ_ rfl rfl λpn hp=>?_⟩
  unfold zat_
  exists hp,zgR_,decide_eq_true hk,VI.vd_ix h0 hk
  fail "q"
 ·by_cases hl:(0:Int)<(ns.length:Int)
  ·have m0:=lG (k*7) (show(ns.length:Int)≠0 by lia)
   have m1:=lA (k*7) hl
   generalize hx:ns.getD (k*7 % (ns.length:Int)).toNat 0=x
   have n0:=lG (x*48271+k*7919) (show(2147483647:Int)≠0 by lia)
   have n1:=lA (x*48271+k*7919) (show(0:Int)<2147483647 by lia)
   refine⟨(x*48271+k*7919) % 2147483647*((x*48271+k*7919) % 2147483647) % 2147483629,zQ_ rfl rfl λpn hp=>?_⟩
   unfold zat_;have e1:ixA (scr ns) (.int (k*7 % (ns.length:Int)))=.ok (.int x):=by rw[VI.vd_ix m0 m1,hx]
   have e2:modD (.int (k*7)) (.int (ns.length:Int))=.ok (.int (k*7 % (ns.length:Int))):=VI.vd_mod hl
   generalize hy:(x*48271+k*7919) % 2147483647=y at n0 n1 ⊢
   exists hp,zgR_,decide_eq_false hk,decide_eq_true hl,e1,e2,hy,zcp_ (i:=y) (j:=y) (by lia) (by lia)
   fail "q"
  ·refine⟨(k*7919+5)*(k*7919+5) % 2147483629,zQ_ rfl rfl λpn hp=>?_⟩
   unfold zat_
   exists hp,zgR_,decide_eq_false hk,decide_eq_false hl,zcp_ (i:=k*7919+5) (j:=k*7919+5) (by lia) (by lia)
   fail "q"
def cel (k:Int):Int:=match za_.val [scr ns,.int k]with |.ok (.int c)=>c |_=>0
theorem zD_ {k:Int}(h0:0<=k)(h1:k<=1000):za_.val [scr ns,.int k]=.ok (.int (cel ns k)):=by
 obtain⟨c,e⟩:=znG_ ns h0 h1;unfold cel;rw[e]
end
theorem zbA_ (c b:Int):∃f:Fd,z4_.val [.int c,.int b]=.ok (F2 f)/\b<=f.1/\f.1<=f.2/\f.2<=b+4/\f.2<=f.1+2:=by
 have m0:=lG c (show(5:Int)≠0 by lia)
 have m1:=lA c (show(0:Int)<5 by lia)
 have hm:0<min 3 (5-c % 5):=by lia
 have k0:=lG (c / 5) (show min 3 (5-c % 5)≠0 by lia)
 have k1:=lA (c / 5) hm;refine⟨(b+c % 5,b+c % 5+c / 5 % min 3 (5-c % 5)),zQ_ rfl rfl λpn hp=>?_,by show b<=b+c % 5;lia,by show b+c % 5<=b+c % 5+_;lia,by show b+c % 5+_<=b+4;lia,by show b+c % 5+_<=b+c % 5+2;lia⟩
 unfold zbp_
 exists hp,VI.vd_mod hm
 fail "q"
theorem zh0_ (c:Int):∃f:Fd,z5_.val [.int c]=.ok (F2 f)/\1<=f.1/\f.1<=f.2/\f.2<=24:=by
 have m0:=lG c (show(24:Int)≠0 by lia)
 have m1:=lA c (show(0:Int)<24 by lia)
 have hm:0<min 6 (25-(1+c % 24)):=by lia
 have k0:=lG (c / 24) (show min 6 (25-(1+c % 24))≠0 by lia)
 have k1:=lA (c / 24) hm;refine⟨(1+c % 24,1+c % 24+c / 24 % min 6 (25-(1+c % 24))),zQ_ rfl rfl λpn hp=>?_,by show 1<=1+c % 24;lia,by show 1+c % 24<=1+c % 24+_;lia,by show 1+c % 24+_<=24;lia⟩
 unfold zcZ_
 exists hp,VI.vd_mod hm
 fail "q"
theorem zqK_ {i:Int}(h0:0<=i)(h1:i<37):∃s,s∈SG/\ixA (.str SG) (.int i)=.ok (.str [s]):=by
 obtain⟨s,e,hs⟩:=zh3_ (xs:=SG) h0 (show i<(SG.length:Int)from h1)
 refine⟨s,hs,?_⟩;show Mo.lim SG.length (Mo.opt ((atI SG i).map λc=>D.str [c]))=_
 rw[Mo.lim_ok (by decide),e];rfl
theorem zkx_ (x:Int):∃a b c:Nat,zbB_.val [.int x]=.ok (LS .str [[a],[b],[c]])/\a∈SG/\b∈SG/\c∈SG:=by
 obtain⟨a,ha,ea⟩:=zqK_ (lG x (show(37:Int)≠0 by lia)) (lA x (show(0:Int)<37 by lia))
 obtain⟨b,hb,eb⟩:=zqK_ (lG (x % 37+1+x / 37 % 36) (show(37:Int)≠0 by lia)) (lA (x % 37+1+x / 37 % 36) (show(0:Int)<37 by lia))
 obtain⟨c,hc,ec⟩:=zqK_ (lG ((x % 37+1+x / 37 % 36) % 37+1+x / 1332 % 36) (show(37:Int)≠0 by lia)) (lA ((x % 37+1+x / 37 % 36) % 37+1+x / 1332 % 36) (show(0:Int)<37 by lia))
 refine⟨a,b,c,zQ_ rfl rfl λpn hp=>?_,ha,hb,hc⟩
 unfold zbo_;unfold SG at ea eb ec
 exists hp,ea,eb,ec
 fail "q"
theorem zhw_ {α:Type}(xs:List α)(i k:Nat)(h:i<=xs.length):cutG xs (uD (i:Int)) (uD ((i:Int)+k))=(xs.drop i).take k:=by
 have e:cutG xs (uD (i:Int)) (uD ((i:Int)+k))=(xs.drop i).take (min (i+k) xs.length-i):=by
  unfold cutG HT.sIx;simp only[];rw[if_neg (by lia),if_neg (by lia),show min ((i:Int)+k).toNat xs.length=min (i+k) xs.length by lia,show min (i:Int).toNat xs.length=i by lia]
 rw[e];by_cases z:i+k<=xs.length
 ·congr 1;lia
 ·rw[mY (by rw[mz];lia),mY (by rw[mz];lia)]
def LY:List Nat:=Qm2
theorem zkt_ (x:Int):∃a b:List Nat,zbv_.val [.int x]=.ok (LS .str [a,b])/\OkN a/\OkN b/\b≠a:=by
 have m0:=lG x (show(22:Int)≠0 by lia)
 have m1:=lA x (show(0:Int)<22 by lia)
 have k0:=lG (x / 22) (show(4:Int)≠0 by lia)
 have k1:=lA (x / 22) (show(0:Int)<4 by lia)
 obtain⟨i,hi⟩:=oJ m0;obtain⟨j,hj⟩:=oJ k0
 generalize ho:(LY.drop i).take (1+j)=one
 have dE:one.length=1+j:=by rw[<- ho,l5,mz];show min (1+j) (25-i)=_;lia
 have fJ:∀c∈one,c∈LY:=λc hc=>by rw[<- ho]at hc;exact qQ (pY hc)
 have s1:slA (.str LY) (uD (x % 22)) (uD (x % 22+1+x / 22 % 4))=.ok (.str one):=by
  show Mo.lim LY.length (Mq (D.str (cutG LY _ _)))=_
  rw[Mo.lim_ok (by decide),hi,hj,show((i:Int)+1+j)=(i:Int)+((1+j:Nat):Int) by lia,zhw_ LY i (1+j) (by show i<=25;lia),ho]
 have iB:(0:Int)<(one.length:Int):=by lia
 have a0:=lG (x / 88) (show(one.length:Int)≠0 by lia)
 have a1:=lA (x / 88) iB;obtain⟨t,ht⟩:=oJ a0;have bC:t<one.length:=by lia
 have e2:modD (.int (x / 88)) (.int (one.length:Int))=.ok (.int (x / 88 % (one.length:Int))):=VI.vd_mod iB;have s2:slA (.str one) uE (uD (t:Int))=.ok (.str (one.take t)):=by
  show Mo.lim one.length (Mq (D.str (cutG one _ _)))=_
  rw[Mo.lim_ok (by lia),zag_ (by lia),nI]
 have s3:slA (.str one) (uD ((t:Int)+1)) uE=.ok (.str (one.drop (t+1))):=by
  show Mo.lim one.length (Mq (D.str (cutG one _ _)))=_
  rw[Mo.lim_ok (by lia),za8_ (by lia),show((t:Int)+1).toNat=t+1 by lia]
 have s4:addA (.str (one.take t)) (.str [122])=.ok (.str (one.take t++[122])):=by
  show Mo.lim _ _=_
  rw[Mo.lim_ok (by rw[l5];simp;lia)]
 have s5:addA (.str (one.take t++[122])) (.str (one.drop (t+1)))=.ok (.str (one.take t++[122]++one.drop (t+1))):=by
  show Mo.lim _ _=_
  rw[Mo.lim_ok (by simp;lia)]
 have jW:∀c∈LY,c∈LT:=by decide
 have h1:OkN one:=⟨by lia,by lia,λc hc=>jW c (fJ c hc)⟩
 have h2:OkN (one.take t++[122]++one.drop (t+1)):=⟨by simp;lia,by simp;lia,λc hc=>by
  rcases lZ.mp hc with hc |hc
  ·rcases lZ.mp hc with hc |hc
   ·exact h1.2.2 c (pY hc)
   ·rw[lO.mp hc];decide
  ·exact h1.2.2 c (qQ hc)⟩
 have aP:one.take t++[122]++one.drop (t+1)≠one:=λz=>by
  have e1:(one.take t++[122]++one.drop (t+1))[t]?=uD 122:=by
   rw[oy,my (by rw[l5];lia),l5,rY (by lia),p9];rfl
  rw[z]at e1;have:=fJ 122 (nG e1);exact absurd this (by decide)
 unfold LY at s1;by_cases c:x / 352 % 2=1
 ·refine⟨one.take t++[122]++one.drop (t+1),one,zQ_ rfl rfl λpn hp=>?_,h2,h1,aP.symm⟩
  unfold zaH_
  exists hp,s1,lnS_ (show one.length<=100000 by lia),e2,ht,s2,s3,s4,s5,zw_,decide_eq_true c
  fail "q"
 ·refine⟨one,one.take t++[122]++one.drop (t+1),zQ_ rfl rfl λpn hp=>?_,h1,h2,aP⟩
  unfold zaH_
  exists hp,s1,lnS_ (show one.length<=100000 by lia),e2,ht,s2,s3,s4,s5,zw_,decide_eq_false c
  fail "q"
theorem ziQ_ {n m:Nat}{body:List S}{ds:List D}{d:D}{e:VI.Env}(hl:ds.length=n)(hc:D.colds ds=uF)(h:S.runs gi (pins ds) body (ds.map uD++lF m uE)=.ok (.rt d) e):fnOf gi n m body ds=.ok d ds:=by
 unfold fnOf;rw[if_pos hl,h];show Mr.ok d (outs ds e)=_
 rw[zbH_ hc]
def GM (m:List (Int×List Nat)):Prop:=∀q∈m,∃s,s∈SG/\q.2=[s]
def Has (m:List (Int×List Nat))(f:Int)(t:Jx):Prop:=∀(i:Nat) s,t[i]?=uD s->dgt m (f+(i:Int))=uD [s]
def Le (m m':List (Int×List Nat)):Prop:=∀i v,dgt m i=uD v->dgt m' i=uD v
theorem zf7_:∀{m:List (Int×List Nat)}{i:Int}{v:List Nat},dgt m i=uD v->(i,v)∈m
 |q::m,i,v,h=>by
  rw[dgt]at h;split at h
  ·rename_i e;cases h;rw[<- e];exact lR
  ·exact lQ _ (zf7_ h)
theorem zjf_ {m:List (Int×List Nat)}{i k:Int}{v w:List Nat}(h:dgt m i=uD v):dgt (m++[(k,w)]) i=uD v:=by
 induction m with
 |nil=>cases h
 |cons q m ih=>
  rw[dgt]at h;rw[l6,dgt];split
  ·rename_i e;rw[if_pos e]at h;exact h
  ·rename_i e;rw[if_neg e]at h;exact ih h
theorem znb_ {m:List (Int×List Nat)}{k:Int}{w:List Nat}(h:dgt m k=uE):dgt (m++[(k,w)]) k=uD w:=by
 induction m with
 |nil=>simp[dgt]
 |cons q m ih=>
  rw[dgt]at h;rw[l6,dgt];split
  ·rename_i e;rw[if_pos e]at h;cases h
  ·rename_i e;rw[if_neg e]at h;exact ih h
theorem Has.le {m m':List (Int×List Nat)}{f:Int}{t:List Nat}(h:Has m f t)(l:Le m m'):Has m' f t:=λi s e=>l _ _ (h i s e)
theorem zjw_ {m:List (Int×List Nat)}{f:Int}{t:List Nat}{s:Nat}(g:GM m)(hs:s∈SG)(h:Has m f t)(hl:m.length<1000):∃m' s',setdF [DI .str m,.int (f+(t.length:Int)),.str [s]]=.ok (.str [s']) [DI .str m',.int (f+(t.length:Int)),.str [s]]/\GM m'/\Le m m'/\Has m' f (t++[s'])/\m'.length<=m.length+1:=by
 have fin:∀{m':List (Int×List Nat)}{s':Nat},Le m m'->dgt m' (f+(t.length:Int))=uD [s']->Has m' f (t++[s']):=λ{m' s'} l e i u hu=>by
  by_cases hi:i<t.length
  ·rw[mJ hi]at hu;exact l _ _ (h i u hu)
  ·have:i=t.length:=by have:=(lD.mp hu).1;simp at this;lia
   subst this;rw[my (lp _),p9]at hu;cases hu;exact e
 cases e:dgt m (f+(t.length:Int))with
 |none=>
  refine⟨m++[(_,[s])],s,zmJ_ (g:=.str) (v:=[s]) e (by lia),λq hq=>?_,λi v hv=>zjf_ hv,fin (λi v hv=>zjf_ hv) (znb_ e),by simp⟩
  rcases lZ.mp hq with hq |hq
  ·exact g q hq
  ·rw[lO.mp hq];exact⟨s,hs,rfl⟩
 |some v=>
  obtain⟨s',cv,e'⟩:=g _ (zf7_ e);have e':v=[s']:=e';subst e';exact⟨m,s',zn4_ (g:=.str) (v:=[s]) e,g,λ_ _ h=>h,fin (λ_ _ h=>h) e,by lia⟩
theorem sg3 {a b c:Nat}(ha:a∈SG)(hb:b∈SG)(hc:c∈SG)(y:Int):∃s,s∈SG/\ixA (LS .str [[a],[b],[c]]) (.int (y % 3))=.ok (.str [s]):=by
 obtain⟨x,e,hx⟩:=zh3_ (xs:=[[a],[b],[c]]) (lG y (show(3:Int)≠0 by lia)) (show y % 3<((3:Nat):Int)from lA y (by lia))
 have:∃s,s∈SG/\x=[s]:=by
  simp only[lC,mR,or_false]at hx;rcases hx with rfl |rfl |rfl
  ·exact⟨a,ha,rfl⟩
  ·exact⟨b,hb,rfl⟩
  ·exact⟨c,hc,rfl⟩
 obtain⟨s,hs,rfl⟩:=this;exact⟨s,hs,by rw[zpa_,e];rfl⟩
theorem zqT_ {j:Nat}(h:j<3):∃q:Int,0<q/\q<1000/\ixA (.nd .lst [.int 15,.int 45,.int 135]) (.int (0+(j:Int)))=.ok (.int q):=by
 rcases(show j=0\/j=1\/j=2 by lia)with rfl |rfl |rfl
 ·exact⟨15,by lia,by lia,rfl⟩
 ·exact⟨45,by lia,by lia,rfl⟩
 ·exact⟨135,by lia,by lia,rfl⟩
def PkH (lo hi:Int)(m:List (Int×List Nat))(p:Pk):Prop:=OkFd p.1/\Has m p.1.1 p.2/\p.2.length=(cl p.1).length/\lo<=p.1.1/\p.1.2<=hi/\(cl p.1).length<=3
def PkR (lo hi:Int)(sg:Int->Nat)(ps:List Pk):Prop:=(∀c,sg c∈SG)/\∀p∈ps,OkK sg p/\lo<=p.1.1/\p.1.2<=hi/\(cl p.1).length<=3
theorem zlZ_ {lo hi:Int}{m:List (Int×List Nat)}{ps:List Pk}(g:GM m)(h:∀p∈ps,PkH lo hi m p):∃sg,PkR lo hi sg ps:=by
 refine⟨λc=>match dgt m c with |some [s]=>s |_=>32,λc=>?_,λp hp=>?_⟩
 ·cases e:dgt m c with
  |none=>simp only[e];decide
  |some v=>
   obtain⟨s,hs,e'⟩:=g _ (zf7_ e);have e':v=[s]:=e';subst e';simp only[e];exact hs
 ·obtain⟨h1,h2,h3,h4,h5,h6⟩:=h p hp
  refine⟨⟨h1,?_⟩,h4,h5,h6⟩;show p.2=(cl p.1).map _
  refine qo (by rw[k8,h3]) λi i1 i2=>?_
  rw[qp];have hc:(cl p.1)[i]'(by rw[k8]at i2;exact i2)=p.1.1+(i:Int):=by unfold cl rngI;simp
  rw[hc];have:=h2 i _ (lj i1);simp only[this]
theorem zlu_ (ns:List Int){b:Int}(hb:1<=b/\b<=32){x y z:Nat}(hx:x∈SG)(hy:y∈SG)(hz:z∈SG):∃ps sg,z1_.val [scr ns,.int b,.fz (LS .str [[x],[y],[z]])]=.ok (LS PK ps)/\ps.length<=2/\PkR b (b+4) sg ps:=by
 suffices main:∃ps m,z1_.val [scr ns,.int b,.fz (LS .str [[x],[y],[z]])]=.ok (LS PK ps)/\ps.length<=2/\GM m/\∀p∈ps,PkH b (b+4) m p by
  obtain⟨ps,m,h1,h2,h3,h4⟩:=main;obtain⟨sg,h5⟩:=zlZ_ h3 h4;exact⟨ps,sg,h1,h2,h5⟩
 have m0:=lG (cel ns 1) (show(3:Int)≠0 by lia)
 have m1:=lA (cel ns 1) (show(0:Int)<3 by lia)
 have key:∀pn:Nat->Bool,(∀i,pn i=uG)->En (S.runs gi pn zac_ ([scr ns,.int b,.fz (LS .str [[x],[y],[z]])].map uD++lF 7 uE)) λo _=>∃ps m,o=.rt (LS PK ps)/\ps.length<=2/\GM m/\∀p∈ps,PkH b (b+4) m p:=λpn hp=>by
  unfold zac_;rw[zaq_ (d:=DI .str []) (by rw[zdc_,zir_];exact zr_ (d:=DI .str []) _ zd9_) (hp _)]
  rw[zaq_ (d:=LS PK []) (by rw[zdc_];exact zr_ (d:=LS PK []) _ zZ_) (hp _)]
  have er:rng1D [.int (cel ns 1 % 3)]=_:=rg1 m0 (by lia)
  refine zbi_ (l:=lH (cel ns 1 % 3).toNat) (enc:=λi:Nat=>[.int (0+(i:Int))]) (d:=.int (cel ns 1 % 3)) (λd e=>∃ps m o5 o6 o7 o8 o9,e=[uD (scr ns),uD (.int b),uD (.fz (LS .str [[x],[y],[z]])),uD (DI .str m),uD (LS PK ps),o5,o6,o7,o8,o9]/\ps.length=d.length/\m.length<=3*d.length/\GM m/\∀p∈ps,PkH b (b+4) m p) (by exists zD_ ns (show(0:Int)<=1 by lia) (by lia)) er (zE_ _ _) ⟨[],[],uE,uE,uE,uE,uE,rfl,rfl,ny _,(λq hq=>by cases hq),λp hp=>by cases hp⟩ (λd k r e hl he=>?_) (λe he=>?_)
  ·obtain⟨ps,m,o5,o6,o7,o8,o9,rfl,av,bh,hg,hps⟩:=he
   have eM:d.length+1<=2:=by have:=congrArg oO hl;simp at this;lia
   have gz:k<2:=by
    have:k∈lH (cel ns 1 % 3).toNat:=by rw[hl];simp
    have:=mf.mp this;lia
   refine⟨[uD (scr ns),uD (.int b),uD (.fz (LS .str [[x],[y],[z]])),uD (DI .str m),uD (LS PK ps),uD (.int (0+(k:Int))),o6,o7,o8,o9],(by exists hp),?_⟩
   generalize hc:cel ns (2+(0+(k:Int)))=c
   obtain⟨f,ef,f1,f2,f3,f4⟩:=zbA_ c b;rw[zaq_ (d:=.int c) (by exists zD_ ns (show(0:Int)<=2+(0+(k:Int)) by lia) (by lia),hc) (hp _)]
   rw[zaq_ (d:=F2 f) (by exists ef,zbZ_) (hp _)]
   rw[zaq_ (d:=.str []) (by exists hp) (hp _)]
   have hF:OkFd f:=⟨by lia,f2,by lia⟩
   have eR:(cl f).length=(f.2-f.1+1).toNat:=by unfold cl;rw[zcy_];lia
   have e9:rng1D [.int (f.2-f.1+1)]=_:=rg1 (by lia) (by lia)
   refine zbi_ (l:=lH (f.2-f.1+1).toNat) (enc:=λi:Nat=>[.int (0+(i:Int))]) (d:=.int (f.2-f.1+1)) (λd2 e=>∃m2 t o9,e=[uD (scr ns),uD (.int b),uD (.fz (LS .str [[x],[y],[z]])),uD (DI .str m2),uD (LS PK ps),uD (.int (0+(k:Int))),uD (.int c),uD (F2 f),uD (.str t),o9]/\GM m2/\Le m m2/\Has m2 f.1 t/\t.length=d2.length/\m2.length<=m.length+d2.length) (by exists zbF_,F2_0,F2_1) e9 (zE_ _ _) ⟨m,[],o9,rfl,hg,λ_ _ h=>h,(λi s e=>by simp at e),rfl,by simp⟩ (λd2 j r2 e aV he=>?_) (λe he=>?_)
   ·obtain⟨m2,t,o9,rfl,hg2,hle,aJ,bC,bO⟩:=he
    have hj:j=d2.length:=by
     have:=congrArg (λl=>l[d2.length]?) aV
     simp at this;have aA:d2.length<(f.2-f.1+1).toNat:=by have:=congrArg oO aV;simp at this;lia
     rw[lj (by simpa using aA)]at this
     simpa using this.symm
    have iD:j<3:=by
     have:j∈lH (f.2-f.1+1).toNat:=by rw[aV];simp
     have:=mf.mp this;lia
    refine⟨[uD (scr ns),uD (.int b),uD (.fz (LS .str [[x],[y],[z]])),uD (DI .str m2),uD (LS PK ps),uD (.int (0+(k:Int))),uD (.int c),uD (F2 f),uD (.str t),uD (.int (0+(j:Int)))],(by exists hp),?_⟩
    obtain⟨q,q0,q1,eq⟩:=zqT_ iD;obtain⟨s,hs,es⟩:=sg3 hx hy hz (c / q);obtain⟨m3,s',e3,g3,l3,h3,n3⟩:=zjw_ hg2 hs aJ (by lia)
    have c9:f.1+(0+(j:Int))=f.1+(t.length:Int):=by rw[bC,hj];lia
    have gT:addA (.str t) (.str [s'])=.ok (.str (t++[s'])):=by show Mo.lim _ _=_;rw[Mo.lim_ok (by simp;lia)]
    have gR:divD (.int c) (.int q)=.ok (.int (c / q)):=zci_ q0 (by lia)
    rw[zlh_ (d:=.str (t++[s'])) (e:=[uD (scr ns),uD (.int b),uD (.fz (LS .str [[x],[y],[z]])),uD (DI .str m3),uD (LS PK ps),uD (.int (0+(k:Int))),uD (.int c),uD (F2 f),uD (.str t),uD (.int (0+(j:Int)))]) (by exists zbF_,F2_0,eq,gR,es,c9,e3,gT,zlx_) (hp _) (show 8<10 by decide),S.runs]
    exact⟨_,_,rfl,.inl ⟨.inl rfl,m3,t++[s'],_,rfl,g3,λi v hv=>l3 i v (hle i v hv),h3,by rw[lb,lb,bC];rfl,by rw[lb];simp;lia⟩⟩
   ·obtain⟨m2,t,o9,rfl,hg2,hle,aJ,bC,bO⟩:=he
    rw[lJ]at bC bO;have ea:appendF [LS PK ps,.nd .tup [F2 f,.str t]]=_:=zdC_ (g:=PK) (l:=ps) (x:=(f,t)) (by lia)
    rw[zjm_ (d:=.non) (e:=[uD (scr ns),uD (.int b),uD (.fz (LS .str [[x],[y],[z]])),uD (DI .str m2),uD (LS PK (ps++[(f,t)])),uD (.int (0+(k:Int))),uD (.int c),uD (F2 f),uD (.str t),o9]) (by exists zbF_,zbZ_,ea),S.runs]
    refine⟨_,_,rfl,.inl ⟨.inl rfl,ps++[(f,t)],m2,_,_,_,_,_,rfl,by rw[lb,lb,av];rfl,by rw[lb];simp;lia,hg2,λp hp=>?_⟩⟩
    rcases lZ.mp hp with hp |hp
    ·obtain⟨a1,a2,a3,a4⟩:=hps p hp
     exact⟨a1,a2.le hle,a3,a4⟩
    ·rw[lO.mp hp]
     exact⟨hF,aJ,by rw[bC,eR],f1,f3,by rw[eR];lia⟩
  ·obtain⟨ps,m,o5,o6,o7,o8,o9,rfl,av,bh,hg,hps⟩:=he
   exists hp
   rw[lJ]at av;exact⟨_,_,rfl,ps,m,rfl,by lia,hg,hps⟩
 have hf:z1_=fnOf gi 3 7 zac_:=rfl;obtain⟨o,e,h1,ps,m,rfl,h2,h3,h4⟩:=key (pins [scr ns,.int b,.fz (LS .str [[x],[y],[z]])]) (zbI_ rfl);exact⟨ps,m,by rw[hf];exact zgP_ (ziQ_ rfl rfl h1),h2,h3,h4⟩
theorem zrb_ (y:Int):∃q:Int,0<=q/\q<=4/\ixA (.nd .lst [.int 0,.int 0,.int 1,.int 2,.int 4]) (.int (y % 5))=.ok (.int q):=by
 have m0:=lG y (show(5:Int)≠0 by lia)
 have m1:=lA y (show(0:Int)<5 by lia)
 obtain⟨j,hj⟩:=oJ m0;rw[hj];rcases(show j=0\/j=1\/j=2\/j=3\/j=4 by lia)with rfl |rfl |rfl |rfl |rfl
 ·exact⟨0,by lia,by lia,rfl⟩
 ·exact⟨0,by lia,by lia,rfl⟩
 ·exact⟨1,by lia,by lia,rfl⟩
 ·exact⟨2,by lia,by lia,rfl⟩
 ·exact⟨4,by lia,by lia,rfl⟩
theorem ziR_ (ns:List Int){x y z:Nat}(hx:x∈SG)(hy:y∈SG)(hz:z∈SG):∃ps sg,zz_.val [scr ns,.fz (LS .str [[x],[y],[z]])]=.ok (LS PK ps)/\ps.length<=4/\PkR 1 24 sg ps:=by
 suffices main:∃ps m,zz_.val [scr ns,.fz (LS .str [[x],[y],[z]])]=.ok (LS PK ps)/\ps.length<=4/\GM m/\∀p∈ps,PkH 1 24 m p by
  obtain⟨ps,m,h1,h2,h3,h4⟩:=main;obtain⟨sg,h5⟩:=zlZ_ h3 h4;exact⟨ps,sg,h1,h2,h5⟩
 obtain⟨N,N0,N4,eN⟩:=zrb_ (cel ns 1);have key:∀pn:Nat->Bool,(∀i,pn i=uG)->En (S.runs gi pn zA_ ([scr ns,.fz (LS .str [[x],[y],[z]])].map uD++lF 8 uE)) λo _=>∃ps m,o=.rt (LS PK ps)/\ps.length<=4/\GM m/\∀p∈ps,PkH 1 24 m p:=λpn hp=>by
  unfold zA_;rw[zaq_ (d:=DI .str []) (by rw[zdc_,zir_];exact zr_ (d:=DI .str []) _ zd9_) (hp _)]
  rw[zaq_ (d:=LS PK []) (by rw[zdc_];exact zr_ (d:=LS PK []) _ zZ_) (hp _)]
  have er:rng1D [.int N]=_:=rg1 N0 (by lia)
  refine zbi_ (l:=lH N.toNat) (enc:=λi:Nat=>[.int (0+(i:Int))]) (d:=.int N) (λd e=>∃ps m o4 o5 o6 o7 o8 o9,e=[uD (scr ns),uD (.fz (LS .str [[x],[y],[z]])),uD (DI .str m),uD (LS PK ps),o4,o5,o6,o7,o8,o9]/\ps.length=d.length/\m.length<=3*d.length/\GM m/\∀p∈ps,PkH 1 24 m p) (by exists zD_ ns (show(0:Int)<=1 by lia) (by lia),eN) er (zE_ _ _) ⟨[],[],uE,uE,uE,uE,uE,uE,rfl,rfl,ny _,(λq hq=>by cases hq),λp hp=>by cases hp⟩ (λd k r e hl he=>?_) (λe he=>?_)
  ·obtain⟨ps,m,o4,o5,o6,o7,o8,o9,rfl,av,bh,hg,hps⟩:=he
   have eM:d.length+1<=4:=by have:=congrArg oO hl;simp at this;lia
   have gz:k<4:=by
    have:k∈lH N.toNat:=by rw[hl];simp
    have:=mf.mp this;lia
   refine⟨[uD (scr ns),uD (.fz (LS .str [[x],[y],[z]])),uD (DI .str m),uD (LS PK ps),uD (.int (0+(k:Int))),o5,o6,o7,o8,o9],(by exists hp),?_⟩
   generalize hc:cel ns (40+(0+(k:Int)))=c
   have c0:=lG c (show(24:Int)≠0 by lia)
   have c1:=lA c (show(0:Int)<24 by lia)
   have c2:=lG (c / 24) (show(2:Int)≠0 by lia)
   have c3:=lA (c / 24) (show(0:Int)<2 by lia)
   rw[zaq_ (d:=.int c) (by exists zD_ ns (show(0:Int)<=40+(0+(k:Int)) by lia) (by lia),hc) (hp _)]
   rw[zaq_ (d:=.int (1+c % 24)) (by exists hp) (hp _)]
   obtain⟨f,hf⟩:∃f:Fd,f=(1+c % 24,min 24 (1+c % 24+c / 24 % 2)):=⟨_,rfl⟩;have f1:f.1=1+c % 24:=by rw[hf]
   have f2:f.2=min 24 (1+c % 24+c / 24 % 2):=by rw[hf]
   have j6:=zbZ_ f;have kd:D.nd .tup [D.int (1+c % 24),.int (min 24 (1+c % 24+c / 24 % 2))]=F2 f:=by rw[hf];rfl
   rw[zaq_ (d:=F2 f) (by exists kd,j6) (hp _)]
   rw[zaq_ (d:=.str []) (by exists hp) (hp _)]
   have hF:OkFd f:=⟨by lia,by lia,by lia⟩
   have eR:(cl f).length=(f.2+1-f.1).toNat:=by unfold cl;rw[zcy_]
   have e9:rng2D [.int f.1,.int (f.2+1)]=.ok ((lH (f.2+1-f.1).toNat).map λi:Nat=>.int (f.1+(i:Int))):=by
    show Mo.grd _ _=_
    rw[Mo.grd_ok (by lia)]
    unfold rngI;rw[mC];rfl
   exists hp,zbF_,F2_0,F2_1,e9
   refine zb5_ (l:=lH (f.2+1-f.1).toNat) (enc:=λi:Nat=>[.int (f.1+(i:Int))]) (λd2 e=>∃m2 t o9,e=[uD (scr ns),uD (.fz (LS .str [[x],[y],[z]])),uD (DI .str m2),uD (LS PK ps),uD (.int (0+(k:Int))),uD (.int c),uD (.int (1+c % 24)),uD (F2 f),uD (.str t),o9]/\GM m2/\Le m m2/\Has m2 f.1 t/\t.length=d2.length/\m2.length<=m.length+d2.length) ⟨m,[],o9,rfl,hg,λ_ _ h=>h,(λi s e=>by simp at e),rfl,by simp⟩ (λd2 j r2 e aV he=>?_) (λe he=>?_)
   ·obtain⟨m2,t,o9,rfl,hg2,hle,aJ,bC,bO⟩:=he
    have hj:j=d2.length:=by
     have:=congrArg (λl=>l[d2.length]?) aV
     simp at this;have aA:d2.length<(f.2+1-f.1).toNat:=by have:=congrArg oO aV;simp at this;lia
     rw[lj (by simpa using aA)]at this
     simpa using this.symm
    have iD:j<2:=by
     have:j∈lH (f.2+1-f.1).toNat:=by rw[aV];simp
     have:=mf.mp this;lia
    refine⟨[uD (scr ns),uD (.fz (LS .str [[x],[y],[z]])),uD (DI .str m2),uD (LS PK ps),uD (.int (0+(k:Int))),uD (.int c),uD (.int (1+c % 24)),uD (F2 f),uD (.str t),uD (.int (f.1+(j:Int)))],(by exists hp),?_⟩
    obtain⟨s,hs,es⟩:=sg3 hx hy hz (c / 48 / (f.1+(j:Int)+1));obtain⟨m3,s',e3,g3,l3,h3,n3⟩:=zjw_ hg2 hs aJ (by lia)
    have c9:f.1+(j:Int)=f.1+(t.length:Int):=by rw[bC,hj]
    have gT:addA (.str t) (.str [s'])=.ok (.str (t++[s'])):=by show Mo.lim _ _=_;rw[Mo.lim_ok (by simp;lia)]
    have gR:divD (.int (c / 48)) (.int (f.1+(j:Int)+1))=.ok (.int (c / 48 / (f.1+(j:Int)+1))):=zci_ (by lia) (by lia)
    rw[<- c9]at e3
    exists hp,gR,es,e3,gT,zlx_
    exact⟨_,_,rfl,.inl ⟨.inl rfl,m3,t++[s'],_,rfl,g3,λi v hv=>l3 i v (hle i v hv),h3,by rw[lb,lb,bC];rfl,by rw[lb];simp;lia⟩⟩
   ·obtain⟨m2,t,o9,rfl,hg2,hle,aJ,bC,bO⟩:=he
    rw[lJ]at bC bO;have ea:appendF [LS PK ps,.nd .tup [F2 f,.str t]]=_:=zdC_ (g:=PK) (l:=ps) (x:=(f,t)) (by lia)
    exists hp,zbF_,zbZ_,ea
    refine⟨_,_,rfl,.inl ⟨.inl rfl,ps++[(f,t)],m2,_,_,_,_,_,_,rfl,by rw[lb,lb,av];rfl,by rw[lb];simp;lia,hg2,λp hp=>?_⟩⟩
    rcases lZ.mp hp with hp |hp
    ·obtain⟨a1,a2,a3,a4⟩:=hps p hp
     exact⟨a1,a2.le hle,a3,a4⟩
    ·rw[lO.mp hp]
     exact⟨hF,aJ,by rw[bC,eR],by show 1<=f.1;lia,by show f.2<=24;lia,by rw[eR];lia⟩
  ·obtain⟨ps,m,o4,o5,o6,o7,o8,o9,rfl,av,bh,hg,hps⟩:=he
   exists hp
   rw[lJ]at av;exact⟨_,_,rfl,ps,m,rfl,by lia,hg,hps⟩
 have hf:zz_=fnOf gi 2 8 zA_:=rfl;obtain⟨o,e,h1,ps,m,rfl,h2,h3,h4⟩:=key (pins [scr ns,.fz (LS .str [[x],[y],[z]])]) (zbI_ rfl);exact⟨ps,m,by rw[hf];exact zgP_ (ziQ_ rfl rfl h1),h2,h3,h4⟩
def InB (lo hi:Int)(f:Fd):Prop:=lo<=f.1/\f.1<=f.2/\f.2<=hi
def MdR (lo hi:Int)(n:Jx):Md->Prop
 |.no=>True
 |.fi f=>InB lo hi f
 |.ma w m f g=>(w=WMa\/w=WWi)/\m=n/\InB lo hi f/\OkFd g/\f.2-f.1=g.2-g.1
theorem zjp_ {y:Int}(h0:y % 4≠0)(h1:y % 4≠1):∃w,(w=WMa\/w=WWi)/\ixA (.nd .lst [.str [109,97,116,101,115],.str [119,105,116,104,111,117,116]]) (.int (y % 4-2))=.ok (.str w):=by
 have m0:=lG y (show(4:Int)≠0 by lia)
 have m1:=lA y (show(0:Int)<4 by lia)
 rcases(show y % 4=2\/y % 4=3 by lia)with e |e
 ·exact⟨WMa,.inl rfl,by rw[e];rfl⟩
 ·exact⟨WWi,.inr rfl,by rw[e];rfl⟩
theorem ziW_ (ns:List Int){b:Int}(hb:1<=b/\b<=32)(n:Jx):∃m,zaT_.val [scr ns,.int b,.str n]=.ok (MD m)/\MdR b (b+4) n m:=by
 generalize hc:cel ns 4=c
 obtain⟨f,ef,f1,f2,f3,f4⟩:=zbA_ (c / 4) b;have bM:(0:Int)<36-(f.2-f.1):=by lia
 generalize hg:1+cel ns 5 % (36-(f.2-f.1))=low
 have l0:=lG (cel ns 5) (show(36-(f.2-f.1))≠0 by lia)
 have l1:=lA (cel ns 5) bM;have c4:za_.val [scr ns,.int 4]=.ok (.int c):=by rw[<- hc];exact zD_ ns (by lia) (by lia)
 have c5:za_.val [scr ns,.int 5]=.ok (.int (cel ns 5)):=zD_ ns (by lia) (by lia)
 have em:modD (.int (cel ns 5)) (.int (36-(f.2-f.1)))=.ok (.int (cel ns 5 % (36-(f.2-f.1)))):=VI.vd_mod bM;by_cases h0:c % 4=0
 ·refine⟨.no,zQ_ rfl rfl λpn hp=>?_,trivial⟩
  unfold zY_
  exists hp,c4,c5,ef,zbF_,zbZ_,F2_0,F2_1,em,hg,zw_,decide_eq_true h0
  fail "q"
 ·by_cases h1:c % 4=1
  ·refine⟨.fi f,zQ_ rfl rfl λpn hp=>?_,⟨f1,f2,f3⟩⟩
   unfold zY_
   exists hp,c4,c5,ef,zbF_,zbZ_,F2_0,F2_1,em,hg,zw_,decide_eq_false h0,decide_eq_true h1
   fail "q"
  ·obtain⟨w,hw,ew⟩:=zjp_ h0 h1
   refine⟨.ma w n f (low,low+(f.2-f.1)),zQ_ rfl rfl λpn hp=>?_,hw,rfl,⟨f1,f2,f3⟩,⟨by show 1<=low;lia,by show low<=low+(f.2-f.1);lia,by show low+(f.2-f.1)<=36;lia⟩,by show f.2-f.1=low+(f.2-f.1)-low;lia⟩
   unfold zY_
   exists hp,c4,c5,ef,zbF_,zbZ_,F2_0,F2_1,em,hg,zw_,decide_eq_false h0,decide_eq_false h1,ew
   fail "q"
def WkR (pl:Nat->Fd)(lo hi:Int)(ws:List Wk):Prop:=∀(i:Nat) w,ws[i]?=uD w->w.1=pl i/\InB lo hi w.2.1/\(InB lo hi w.2.2.2\/∃j,j<i/\w.2.2.2=pl j)/\w.2.2.1∈WWo
theorem zjH_ {pl:Nat->Fd}{lo hi:Int}{ws:List Wk}{w:Wk}(h:WkR pl lo hi ws)(hw:w.1=pl ws.length/\InB lo hi w.2.1/\(InB lo hi w.2.2.2\/∃j,j<ws.length/\w.2.2.2=pl j)/\w.2.2.1∈WWo):WkR pl lo hi (ws++[w]):=λi u hu=>by
 by_cases hi:i<ws.length
 ·rw[mJ hi]at hu;exact h i u hu
 ·have:i=ws.length:=by have:=(lD.mp hu).1;simp at this;lia
  subst this;rw[my (lp _),p9]at hu;cases hu;exact hw
theorem ix_wo (y:Int):∃w,w∈WWo/\ixA (.nd .lst [.str [112,108,117,115],.str [108,101,115,115],.str [116,105,109,101,115]]) (.int (y % 3))=.ok (.str w):=by
 have m0:=lG y (show(3:Int)≠0 by lia)
 have m1:=lA y (show(0:Int)<3 by lia)
 rcases(show y % 3=0\/y % 3=1\/y % 3=2 by lia)with e |e |e
 ·exact⟨[112,108,117,115],by decide,by rw[e];rfl⟩
 ·exact⟨[108,101,115,115],by decide,by rw[e];rfl⟩
 ·exact⟨[116,105,109,101,115],by decide,by rw[e];rfl⟩
def plN (b:Int)(i:Nat):Fd:=if b<28 then(33+2*(i:Int),34+2*(i:Int))else(1+2*(i:Int),2+2*(i:Int))
def plF (i:Nat):Fd:=(25+3*(i:Int),27+3*(i:Int))
theorem zeh_ {N:Nat}{d r:List Nat}{k:Nat}(h:lH N=d++k::r):k=d.length/\d.length<N:=by
 have aA:d.length<N:=by have:=congrArg oO h;simp at this;lia
 refine⟨?_,aA⟩;have:=congrArg (λl=>l[d.length]?) h
 simp at this;rw[lj (by simpa using aA)]at this
 simpa using this.symm
theorem zlc_ (ns:List Int){b:Int}(hb:1<=b/\b<=32):∃ws,zaF_.val [scr ns,.int b]=.ok (LS WK ws)/\ws.length<=2/\WkR (plN b) b (b+4) ws:=by
 generalize hc:cel ns 11=c
 have gX:za_.val [scr ns,.int 11]=.ok (.int c):=by rw[<- hc];exact zD_ ns (by lia) (by lia)
 have m0:=lG c (show(3:Int)≠0 by lia)
 have m1:=lA c (show(0:Int)<3 by lia)
 have key:∀pn:Nat->Bool,(∀i,pn i=uG)->En (S.runs gi pn zB_ ([scr ns,.int b].map uD++lF 6 uE)) λo _=>∃ws,o=.rt (LS WK ws)/\ws.length<=2/\WkR (plN b) b (b+4) ws:=λpn hp=>by
  have r1:S.runs gi pn zB_ ([scr ns,.int b].map uD++lF 6 uE)=S.runs gi pn (zB_.drop 4) [uD (scr ns),uD (.int b),uD (.int c),uD (LS F2 [plN b 0,plN b 1]),uD (LS WK []),uE,uE,uE]:=by
   unfold zB_;rw[zaq_ (d:=.int c) (by exists gX) (hp _)]
   rw[zaq_ (d:=LS F2 [(1,2),(3,4)]) (by rw[zdc_];exact zr_ (d:=LS F2 [(1,2),(3,4)]) _ zZ_) (hp _)]
   by_cases h28:b<28
   ·rw[zcx_ (by exists decide_eq_true h28)]
    show S.runs gi pn (S.asg _ _::_) _=_
    rw[zaq_ (d:=LS F2 [(33,34),(35,36)]) (by rw[zdc_];exact zr_ (d:=LS F2 [(33,34),(35,36)]) _ zZ_) (hp _)]
    show S.runs gi pn (S.asg _ _::_) _=_
    rw[zaq_ (d:=LS WK []) (by rw[zdc_];exact zr_ (d:=LS WK []) _ zZ_) (hp _)]
    rw[show plN b 0=(33,34)from if_pos h28,show plN b 1=(35,36)from if_pos h28]
    rfl
   ·rw[zbG_ (by exists decide_eq_false h28)]
    show S.runs gi pn (S.asg _ _::_) _=_
    rw[zaq_ (d:=LS WK []) (by rw[zdc_];exact zr_ (d:=LS WK []) _ zZ_) (hp _)]
    rw[show plN b 0=(1,2)from if_neg h28,show plN b 1=(3,4)from if_neg h28]
    rfl
  rw[r1];unfold zB_;simp only[mw,mM];have er:rng1D [.int (c % 3)]=_:=rg1 m0 (by lia)
  refine zbi_ (l:=lH (c % 3).toNat) (enc:=λi:Nat=>[.int (0+(i:Int))]) (d:=.int (c % 3)) (λd e=>∃ws o5 o6 o7,e=[uD (scr ns),uD (.int b),uD (.int c),uD (LS F2 [plN b 0,plN b 1]),uD (LS WK ws),o5,o6,o7]/\ws.length=d.length/\WkR (plN b) b (b+4) ws) (by exists hp) er (zE_ _ _) ⟨[],uE,uE,uE,rfl,rfl,λi w h=>by simp at h⟩ (λd k r e hl he=>?_) (λe he=>?_)
  ·obtain⟨ws,o5,o6,o7,rfl,aq,hw⟩:=he
   obtain⟨hk,hd⟩:=zeh_ hl;have gz:k<2:=by lia
   refine⟨[uD (scr ns),uD (.int b),uD (.int c),uD (LS F2 [plN b 0,plN b 1]),uD (LS WK ws),uD (.int (0+(k:Int))),o6,o7],(by exists hp),?_⟩
   have gy:(0:Int)<1+(0+(k:Int)):=by lia
   have d1:divD (.int (c / 45)) (.int (1+(0+(k:Int))))=.ok (.int (c / 45 / (1+(0+(k:Int))))):=zci_ gy (by lia)
   have d2:divD (.int (c / 9)) (.int (1+(0+(k:Int))))=.ok (.int (c / 9 / (1+(0+(k:Int))))):=zci_ gy (by lia)
   have d3:divD (.int (c / 7)) (.int (1+(0+(k:Int))))=.ok (.int (c / 7 / (1+(0+(k:Int))))):=zci_ gy (by lia)
   obtain⟨f,ef,f1,f2,f3,_⟩:=zbA_ (c / 45 / (1+(0+(k:Int)))) b;obtain⟨g,eg,g1,g2,g3,_⟩:=zbA_ (c / 7 / (1+(0+(k:Int)))) b;obtain⟨u,hu,eu⟩:=ix_wo (c / 9 / (1+(0+(k:Int))));have ep:ixA (LS F2 [plN b 0,plN b 1]) (.int (0+(k:Int)))=.ok (F2 (plN b k)):=by
    rcases(show k=0\/k=1 by lia)with e |e
    ·rw[e];rfl
    ·rw[e];rfl
   have j8:ixA (LS F2 [plN b 0,plN b 1]) (.int 0)=.ok (F2 (plN b 0)):=rfl;obtain⟨o,eo,ho⟩:∃o:Fd,S.runs gi pn [.asg 6 (.pu (.call z4_ "_law_field" [(.bin .div (.bin .div (.v 2) (.k (.int 45))) (.bin .add (.k (.int 1)) (.v 5))),(.v 1)])),.if_ (.and (.bin .eq (.v 5) (.k (.int 1))) (.bin .eq (.bin .mod (.bin .div (.v 2) (.k (.int 3))) (.k (.int 2))) (.k (.int 1)))) [.asg 6 (.pu (.bin .ix (.v 3) (.k (.int 0))))] []] [uD (scr ns),uD (.int b),uD (.int c),uD (LS F2 [plN b 0,plN b 1]),uD (LS WK ws),uD (.int (0+(k:Int))),o6,o7]=.ok .nx [uD (scr ns),uD (.int b),uD (.int c),uD (LS F2 [plN b 0,plN b 1]),uD (LS WK ws),uD (.int (0+(k:Int))),uD (F2 o),o7]/\(InB b (b+4) o\/∃j,j<k/\o=plN b j):=by
    by_cases z:(0+(k:Int))=1/\c / 3 % 2=1
    ·refine⟨plN b 0,?_,.inr ⟨0,by lia,rfl⟩⟩
     exists hp,d1,ef,zbZ_,zw_,decide_eq_true z.1,decide_eq_true z.2,j8
    ·refine⟨f,?_,.inl ⟨f1,f2,f3⟩⟩
     by_cases z1:(0+(k:Int))=1
     ·have z2:¬c / 3 % 2=1:=λy=>z ⟨z1,y⟩
      exists hp,d1,ef,zbZ_,zw_,decide_eq_true z1,decide_eq_false z2,pd
     ·exists hp,d1,ef,zbZ_,zw_,decide_eq_false z1,nU
   show En (S.runs gi pn ([_,_]++_) _) _
   rw[<- zhv_,eo,zcn_];have ea:appendF [LS WK ws,.nd .tup [F2 (plN b k),F2 g,.str u,F2 o]]=_:=zdC_ (g:=WK) (l:=ws) (x:=(plN b k,g,u,o)) (by lia)
   exists hp,d2,d3,eu,ep,eg,zbF_,zbZ_,ea
   exact⟨_,_,rfl,.inl ⟨.inl rfl,ws++[(plN b k,g,u,o)],_,_,_,rfl,by rw[lb,lb,aq];rfl,zjH_ hw ⟨by rw[aq,<- hk],⟨g1,g2,g3⟩,by rw[aq,<- hk];exact ho,hu⟩⟩⟩
  ·obtain⟨ws,o5,o6,o7,rfl,aq,hw⟩:=he
   exists hp
   rw[lJ]at aq;exact⟨_,_,rfl,ws,rfl,by lia,hw⟩
 have hf:zaF_=fnOf gi 2 6 zB_:=rfl;obtain⟨o,e,h1,ws,rfl,h2,h3⟩:=key (pins [scr ns,.int b]) (zbI_ rfl);exact⟨ws,by rw[hf];exact zgP_ (ziQ_ rfl rfl h1),h2,h3⟩
theorem ziK_ (ns:List Int):∃ws,zK_.val [scr ns]=.ok (LS WK ws)/\ws.length<=4/\WkR plF 1 24 ws:=by
 have gX:za_.val [scr ns,.int 11]=.ok (.int (cel ns 11)):=zD_ ns (by lia) (by lia)
 have m0:=lG (cel ns 11) (show(5:Int)≠0 by lia)
 have m1:=lA (cel ns 11) (show(0:Int)<5 by lia)
 have key:∀pn:Nat->Bool,(∀i,pn i=uG)->En (S.runs gi pn zC_ ([scr ns].map uD++lF 5 uE)) λo _=>∃ws,o=.rt (LS WK ws)/\ws.length<=4/\WkR plF 1 24 ws:=λpn hp=>by
  unfold zC_;rw[zaq_ (d:=LS WK []) (by rw[zdc_];exact zr_ (d:=LS WK []) _ zZ_) (hp _)]
  have er:rng1D [.int (cel ns 11 % 5)]=_:=rg1 m0 (by lia)
  refine zbi_ (l:=lH (cel ns 11 % 5).toNat) (enc:=λi:Nat=>[.int (0+(i:Int))]) (d:=.int (cel ns 11 % 5)) (λd e=>∃ws o2 o3 o4 o5,e=[uD (scr ns),uD (LS WK ws),o2,o3,o4,o5]/\ws.length=d.length/\WkR plF 1 24 ws) (by exists gX) er (zE_ _ _) ⟨[],uE,uE,uE,uE,rfl,rfl,λi w h=>by simp at h⟩ (λd k r e hl he=>?_) (λe he=>?_)
  ·obtain⟨ws,o2,o3,o4,o5,rfl,aq,hw⟩:=he
   obtain⟨hk,hd⟩:=zeh_ hl;have gz:k<4:=by lia
   refine⟨[uD (scr ns),uD (LS WK ws),uD (.int (0+(k:Int))),o3,o4,o5],(by exists hp),?_⟩
   generalize hc:cel ns (44+(0+(k:Int)))=c
   have ec:za_.val [scr ns,.int (44+(0+(k:Int)))]=.ok (.int c):=by rw[<- hc];exact zD_ ns (by lia) (by lia)
   obtain⟨f,ef,f1,f2,f3⟩:=zh0_ (c / 7);obtain⟨g,eg,g1,g2,g3⟩:=zh0_ (c / 5);obtain⟨u,hu,eu⟩:=ix_wo (c / 3);have j7:D.nd .tup [D.int (25+3*(0+(k:Int))),.int (27+3*(0+(k:Int)))]=F2 (plF k):=by unfold plF F2;simp
   have em:mulD (.int 3) (.int (0+(k:Int)))=.ok (.int (3*(0+(k:Int)))):=zcp_ (by lia) (by lia)
   obtain⟨o,eo,ho⟩:∃o:Fd,S.runs gi pn [.asg 3 (.pu (.call za_ "_law_cell" [(.v 0),(.bin .add (.k (.int 44)) (.v 2))])),.asg 4 (.pu (.call z5_ "_law_far" [(.bin .div (.v 3) (.k (.int 7)))])),.if_ (.and (.bin .gt (.v 2) (.k (.int 0))) (.bin .eq (.bin .mod (.v 3) (.k (.int 2))) (.k (.int 1)))) [.asg 4 (.pu (.bin .ix (.bin .ix (.v 1) (.bin .sub (.v 2) (.k (.int 1)))) (.k (.int 0))))] []] [uD (scr ns),uD (LS WK ws),uD (.int (0+(k:Int))),o3,o4,o5]=.ok .nx [uD (scr ns),uD (LS WK ws),uD (.int (0+(k:Int))),uD (.int c),uD (F2 o),o5]/\(InB 1 24 o\/∃j,j<k/\o=plF j):=by
    by_cases z1:(0:Int)<0+(k:Int)
    ·by_cases z2:c % 2=1
     ·obtain⟨w,ew⟩:∃w,ws[k-1]?=uD w:=⟨_,lj (by lia)⟩
      have jl:=(hw _ _ ew).1;have gQ:ixA (LS WK ws) (.int (0+(k:Int)-1))=.ok (WK w):=by
       rw[zpa_,zhL_ (by lia) (by rw[show(0+(k:Int)-1).toNat=k-1 by lia];exact ew)];rfl
      refine⟨w.1,?_,.inr ⟨k-1,by lia,jl⟩⟩
      exists hp,ec,ef,zbZ_,zw_,decide_eq_true z1,decide_eq_true z2,gQ,WK_0
     ·refine⟨f,?_,.inl ⟨f1,f2,f3⟩⟩
      exists hp,ec,ef,zbZ_,zw_,decide_eq_true z1,decide_eq_false z2,pd
    ·refine⟨f,?_,.inl ⟨f1,f2,f3⟩⟩
     exists hp,ec,ef,zbZ_,zw_,decide_eq_false z1,nU
   show En (S.runs gi pn ([_,_,_]++_) _) _
   rw[<- zhv_,eo,zcn_];have ea:appendF [LS WK ws,.nd .tup [F2 (plF k),F2 g,.str u,F2 o]]=_:=zdC_ (g:=WK) (l:=ws) (x:=(plF k,g,u,o)) (by lia)
   exists hp,eu,eg,zbF_,zbZ_,em,j7,ea
   exact⟨_,_,rfl,.inl ⟨.inl rfl,ws++[(plF k,g,u,o)],_,_,_,_,rfl,by rw[lb,lb,aq];rfl,zjH_ hw ⟨by rw[aq,<- hk],⟨g1,g2,g3⟩,by rw[aq,<- hk];exact ho,hu⟩⟩⟩
  ·obtain⟨ws,o2,o3,o4,o5,rfl,aq,hw⟩:=he
   exists hp
   rw[lJ]at aq;exact⟨_,_,rfl,ws,rfl,by lia,hw⟩
 have hf:zK_=fnOf gi 1 5 zC_:=rfl;obtain⟨o,e,h1,ws,rfl,h2,h3⟩:=key (pins [scr ns]) (zbI_ rfl);exact⟨ws,by rw[hf];exact zgP_ (ziQ_ rfl rfl h1),h2,h3⟩
section
variable {A:Ak}{sg:Int->Nat}
def kk (A:Ak):List Int:=ddp (A.pk.flatMap λp=>cl p.1)
def adf (ks m:List Int)(c:Int):List Int:=if c∈ks\/c∈m then m else m++[c]
def fre (ks:List Int)(fs:List Fd):List Int:=(fs.flatMap cl).foldl (adf ks) []
theorem zos_ (ks m:List Int)(c:Int):(adf ks m c).length<=m.length+1:=by unfold adf;split<;>simp
theorem zcm_ (ks:List Int):∀(l m:List Int),(l.foldl (adf ks) m).length<=m.length+l.length
 |[],m=>by simp
 |c::l,m=>by have:=zcm_ ks l (adf ks m c);have:=zos_ ks m c;rw[m6,ly];lia
theorem zht_ (h:OkA A)(hk:∀p∈A.pk,OkK sg p):z0_.val [.fz (AO A)]=.ok (KD sg (kk A)):=by
 refine zQ_ rfl rfl λpn hp=>?_
 unfold zaC_;have en:(KD sg (kk A)).new=uF:=zd9_
 exists hp,zo_,ze6_ h.pl hk,zfs_ h.pl hk,zpK_,en,kk
 have en:(KD sg (ddp (List.flatMap (λp=>cl p.fst) A.pk))).new=uF:=zd9_
 exists en
 fail "q"
theorem zjO_ (h:OkA A)(hk:∀p∈A.pk,OkK sg p){fs:List Fd}(hf:∀f∈fs,OkFd f)(hl:fs.length<=10):zM_.val [.fz (AO A),.fz (LS F2 fs)]=.ok (LS .int (fre (kk A) fs)):=by
 refine zQ_ rfl rfl λpn hp=>?_
 unfold zaE_;have en:(KD sg (kk A)).new=uF:=zd9_
 exists hp,zo_,zht_ h hk,en
 have hlen:∀d:List Fd,(∃r,fs=d++r)->((d.flatMap cl).foldl (adf (kk A)) []).length<=360:=λd ⟨r,e⟩=>by
  have h1:=zcm_ (kk A) (d.flatMap cl) [];have h2:(d.flatMap cl).length<=36*d.length:=flenM d λy hy=>zaK_ (hf y (by rw[e];simp[hy]))
  have h3:d.length<=fs.length:=by rw[e];simp
  rw[m7]at h1;lia
 refine zb5_ (l:=fs) (enc:=λw=>[F2 w]) (λd e=>∃o o',e=[uD (.fz (AO A)),uD (.fz (LS F2 fs)),uD (KD sg (kk A)),uD (LS .int ((d.flatMap cl).foldl (adf (kk A)) [])),o,o']) ⟨uE,uE,rfl⟩ (λd x r e bj he=>?_) (λe he=>?_)
 ·obtain⟨o,o',rfl⟩:=he
  refine⟨_,by exists hp;rfl,?_⟩
  have hx:=hf x (by rw[bj];simp)
  have hm:=hlen d ⟨_,bj⟩;have gG:=zaK_ hx;rw[nv,nL]
  generalize (d.flatMap cl).foldl (adf (kk A)) []=m at hm ⊢
  have ec:zab_.val [F2 x]=.ok (LS .int (cl x)):=zg2_ hx
  exists hp,zbF_,ec
  refine zb5_ (l:=cl x) (enc:=λc=>[.int c]) (λd e=>∃o,e=[uD (.fz (AO A)),uD (.fz (LS F2 fs)),uD (KD sg (kk A)),uD (LS .int (d.foldl (adf (kk A)) m)),uD (F2 x),o]) ⟨o',rfl⟩ (λd2 c r2 e aV he=>?_) (λe he=>?_)
  ·obtain⟨o,rfl⟩:=he
   refine⟨_,by exists hp;rfl,?_⟩
   rw[nL,m6,qR];have bO:=zcm_ (kk A) d2 m;have hd2:d2.length<=36:=by rw[aV,lb]at gG;lia
   generalize d2.foldl (adf (kk A)) m=m2 at bO ⊢
   have ek:inA uF (.int c) (KD sg (kk A))=.ok (.bl (!decide (c∈kk A))):=by
    unfold KD;rw[zpT_,zfR_];by_cases hc:c∈kk A
    ·rw[if_pos hc];simp[hc]
    ·rw[if_neg hc];simp[hc]
   have kY:∀d,inA uF (.int c) (.fz d)=inA uF (.int c) d:=λd=>fz_in uF
   have bT:(KD sg (kk A)).vw=.fz (KD sg (kk A)):=rfl;by_cases c1:c∈kk A
   ·rw[show adf (kk A) m2 c=m2 from if_pos (.inl c1)]
    exists hp,bT,ek,decide_eq_true c1
    exact⟨_,_,rfl,.inl ⟨.inl rfl,uD (.int c),rfl⟩⟩
   ·by_cases c2:c∈m2
    ·rw[show adf (kk A) m2 c=m2 from if_pos (.inr c2)]
     exists hp,bT,ek,decide_eq_false c1,decide_eq_true c2
     exact⟨_,_,rfl,.inl ⟨.inl rfl,uD (.int c),rfl⟩⟩
    ·rw[show adf (kk A) m2 c=m2++[c]from if_neg (by intro z;rcases z with z |z;exact c1 z;exact c2 z)]
     have ea:appendF [LS .int m2,.int c]=_:=zdC_ (g:=.int) (l:=m2) (x:=c) (by lia)
     exists hp,bT,ek,decide_eq_false c1,decide_eq_false c2,ea
     exact⟨_,_,rfl,.inl ⟨.inl rfl,uD (.int c),rfl⟩⟩
  ·obtain⟨o,rfl⟩:=he
   exists hp
   exact⟨_,_,rfl,.inl ⟨.inl rfl,uD (F2 x),o,by simp⟩⟩
 ·obtain⟨o,o',rfl⟩:=he
  exists hp
  fail "q"
def mc (A:Ak):List Int:=fre (kk A) ((midF A.md).take 1)
theorem zjX_ {d:List Nat}{m:Md}(h:OkM d m):∀f∈midF m,OkFd f:=by
 cases m with
 |no=>intro f hf;cases hf
 |fi g=>intro f hf;rw[lO.mp hf];exact h
 |ma w n f g=>
  intro x hf;rcases lC.mp hf with rfl |hf
  ·exact h.2.2.2.1
  ·rw[lO.mp hf];exact h.2.2.2.2.1
theorem midT (h:OkM A.dk A.md):(∀f∈(midF A.md).take 1,OkFd f)/\((midF A.md).take 1).length<=1:=⟨λf hf=>zjX_ h f (pY hf),by rw[l5];lia⟩
theorem zff_ (h:OkA A)(hk:∀p∈A.pk,OkK sg p):zaa_.val [.fz (AO A)]=.ok (LS .int (mc A)):=by
 refine zQ_ rfl rfl λpn hp=>?_
 unfold z8_;have:=midT h.md
 exists hp,zo_,zeG_ h.md,zag_ (show(0:Int)<=1 by lia),show(1:Int).toNat=1 from rfl,zjO_ h hk this.1 (by lia)
 fail "q"
end
theorem least {P:Nat->Prop}[DecidablePred P]:∀(m:Nat),P m->∃n,n<=m/\P n/\∀j,j<n->¬P j
 |0,h=>⟨0,lp _,h,λj hj=>by lia⟩
 |m+1,h=>by
  by_cases z:∃k,k<=m/\P k
  ·obtain⟨k,hk,pk⟩:=z
   by_cases y:∃j,j<=m/\P j/\∀i,i<j->¬P i
   ·obtain⟨j,hj,q⟩:=y;exact⟨j,by lia,q⟩
   ·exfalso
    have:∀n,n<=m->¬P n:=λn=>by
     induction n using Nat.strongRecOn with
     |_ n ih=>exact λhn hp=>y ⟨n,hn,hp,λi hi=>ih i hi (by lia)⟩
    exact this k hk pk
  ·exact⟨m+1,lp _,h,λj hj hp=>z ⟨j,by lia,hp⟩⟩
def Cut (cs nd:List Int)(n:Nat):Prop:=n<=cs.length/\(∀x∈nd,x∈cs.take n)/\∀j,j<n->¬∀x∈nd,x∈cs.take j
theorem zpx_ {cs nd:List Int}(hs:∀x∈nd,x∈cs):∃n,Cut cs nd n:=by
 obtain⟨n,h1,h2,h3⟩:=least (P:=λn=>∀x∈nd,x∈cs.take n) cs.length (by rw[pz];exact hs)
 exact⟨n,h1,h2,h3⟩
theorem zqe_ {cs nd:List Int}{n:Nat}(hc:cs.length<=1000)(hn:nd.length<=1000)(h:Cut cs nd n):zbq_.val [.fz (LS .int cs),.fz (LS .int nd)]=.ok (LS .int (cs.take n)):=by
 obtain⟨h1,h2,h3⟩:=h;refine zQ_ rfl rfl λpn hp=>?_
 unfold zbt_
 exists hp
 have ec:∀i:Nat,X.ev gi [uD (.fz (LS .int cs)),uD (.fz (LS .int nd)),uD (.int (i:Int))] (.comp ["column"] [("columns",0),("length",2)] .any [(.v 1)] ⟨uG,[0]⟩ uE (.bin .inn (.v 0) (.sl (.v 1) uE (uD (.v 2)))))=.ok (LS .bl (nd.map λx=>decide (x∈cs.take i))):=λi=>by
  rw[xcompN (f:=λx:Int=>decide (x∈cs.take i)) (o:=.bl) (T:=λx=>[.int x]) nd rfl (by exists hp) (zE_ _ _) (λx hx=>?_) (by lia)]
  exists zag_ (show(0:Int)<=(i:Int) by lia)
 refine zg7_ (P:=λi e=>e=[uD (.fz (LS .int cs)),uD (.fz (LS .int nd)),uD (.int (i:Int))]) n (by lia) rfl (λi e hi he=>?_)
 subst he;by_cases z:i=n
 ·subst z
  left;refine⟨?_,?_⟩
  ·exists ec,zlp_ nd (p:=λx=>decide (x∈cs.take i)) (λx hx=>decide_eq_true (h2 x hx))
  ·exists hp,zag_ (show(0:Int)<=(i:Int) by lia)
   fail "q"
 ·right
  refine⟨by lia,?_,?_⟩
  ·have:(nd.map λx=>decide (x∈cs.take i)).all id=uG:=by
    rw[rE];intro y;rw[rA,mL]at y;exact h3 i (by lia) λx hx=>of_decide_eq_true (y x hx)
   exists ec,zn0_,this
  ·exists hp
   exact⟨_,_,rfl,rfl,by simp⟩
def isl (m w:List Int)(n:Nat)(f:Bool):Bool:=decide ((m.filter λc=>!decide (c∈w.take n))=if f=uF then w.drop n else(w.drop n).take (m.filter λc=>!decide (c∈w.take n)).length)
theorem zpp_ {m w:List Int}{n:Nat}{f:Bool}(hm:m.length<=1000):zx_.val [.fz (LS .int m),.fz (LS .int w),.int n,.bl f]=.ok (.bl (isl m w n f)):=by
 refine zQ_ rfl rfl λpn hp=>?_
 unfold z3_
 exists hp
 rw[xcomp (p:=λc=>!decide (c∈w.take n)) (f:=λx:Int=>x) (o:=.int) (T:=λx=>[.int x]) m rfl (by exists hp) (zE_ _ _) (λx hx=>by exists zag_ (show(0:Int)<=(n:Int) by lia)) (λx hx _=>rfl) (by lia),mN]
 unfold isl
 generalize (m.filter λc=>!decide (c∈w.take n))=l
 cases f with
 |true=>
  exists hp,za8_ (show(0:Int)<=(n:Int) by lia)
  fail "q"
 |false=>
  exists hp,za8_ (show(0:Int)<=(n:Int) by lia),zag_ (show(0:Int)<=(l.length:Int) by lia)
  fail "q"
def Late (m w:List Int)(f:Bool)(n:Nat):Prop:=n<=w.length/\isl m w n f=uF/\∀j,j<n->isl m w j f=uG
theorem znv_ {m w:List Int}{f:Bool}(hs:∀x∈m,x∈w):∃n,Late m w f n:=by
 obtain⟨n,h1,h2,h3⟩:=least (P:=λn=>isl m w n f=uF) w.length (by
  unfold isl;rw[pz,pU,pQ.mpr (λx hx=>by simp[hs x hx])]
  cases f<;>rfl)
 exact⟨n,h1,h2,λj hj=>rE.mpr (h3 j hj)⟩
section
variable {A:Ak}{sg:Int->Nat}
noncomputable def isF (m:Md):Bool:=match m with |.fi _=>uF |_=>uG
def ac (A:Ak):List Int:=fre (kk A) (A.od++(midF A.md).take 1)
def Wt (A:Ak)(w:List Int):Prop:=if isF A.md=uF then∃n,Cut (ac A) (mc A) n/\w=(ac A).take n else w=ac A
theorem zhy_ (ks:List Int):∀(l m:List Int) (x:Int),x∈l.foldl (adf ks) m↔x∈m\/(x∈l/\x∉ks)
 |[],m,x=>by simp
 |c::l,m,x=>by
  rw[m6,zhy_ ks l,lC];unfold adf;split
  ·rename_i h
   constructor
   ·rintro(h |h)
    ·exact .inl h
    ·exact .inr ⟨.inr h.1,h.2⟩
   ·rintro(h' |⟨h1 |h1,h2⟩)
    ·exact .inl h'
    ·subst h1;rcases h with h |h
     ·exact absurd h h2
     ·exact .inl h
    ·exact .inr ⟨h1,h2⟩
  ·rename_i h
   rw[lZ,lO];constructor
   ·rintro((h' |h')|h')
    ·exact .inl h'
    ·subst h';exact .inr ⟨.inl rfl,λz=>h (.inl z)⟩
    ·exact .inr ⟨.inr h'.1,h'.2⟩
   ·rintro(h' |⟨h1 |h1,h2⟩)
    ·exact .inl (.inl h')
    ·exact .inl (.inr h1)
    ·exact .inr ⟨h1,h2⟩
theorem mc_ac {x:Int}(h:x∈mc A):x∈ac A:=by
 unfold mc fre at h;unfold ac fre;rw[zhy_]at h ⊢;rcases h with h |h
 ·cases h
 ·exact .inr ⟨by rw[nv];exact lV _ h.1,h.2⟩
theorem zru_ {w:List Int}(h:Wt A w):∀x∈mc A,x∈w:=by
 unfold Wt at h;split at h
 ·obtain⟨n,hc,rfl⟩:=h;exact hc.2.1
 ·subst h;exact λx hx=>mc_ac hx
theorem wt_ex (A:Ak):∃w,Wt A w:=by
 unfold Wt;split
 ·obtain⟨n,h⟩:=zpx_ (cs:=ac A) (nd:=mc A) λx hx=>mc_ac hx
  exact⟨_,n,h,rfl⟩
 ·exact⟨_,rfl⟩
theorem zjY_ (ks:List Int){fs:List Fd}(hf:∀f∈fs,OkFd f)(hl:fs.length<=10):(fre ks fs).length<=360:=by
 unfold fre;have h1:=zcm_ ks (fs.flatMap cl) [];have h2:(fs.flatMap cl).length<=36*fs.length:=flenM fs λy hy=>zaK_ (hf y hy)
 rw[m7]at h1;lia
theorem acF (h:OkA A):(∀f∈A.od++(midF A.md).take 1,OkFd f)/\(A.od++(midF A.md).take 1).length<=10:=by
 have h2:=h.ol;have h5:=midT h.md;refine⟨λf hf=>?_,by rw[lb];lia⟩
 rcases lZ.mp hf with hf |hf
 ·exact h.od f hf
 ·exact h5.1 f hf
theorem zeV_ (h:OkA A):(mc A).length<=360:=zjY_ _ (midT h.md).1 (by have:=(midT h.md).2;lia)
theorem zlQ_ (h:OkA A):(ac A).length<=360:=zjY_ _ (acF h).1 (acF h).2
theorem zdZ_ (h:OkA A){w:List Int}(hw:Wt A w):w.length<=360:=by
 have:=zlQ_ h;unfold Wt at hw;split at hw
 ·obtain⟨n,_,rfl⟩:=hw;rw[l5];lia
 ·subst hw;exact this
theorem zdI_ (h:OkM A.dk A.md):zaO_.val [.fz (AO A)]=.ok (.bl (isF A.md)):=zlz_ h
theorem zhN_ (h:OkA A)(hk:∀p∈A.pk,OkK sg p){w:List Int}(hw:Wt A w):zq_.val [.fz (AO A)]=.ok (LS .int w)\/zq_.val [.fz (AO A)]=.ok (.fz (LS .int w)):=by
 have ha:=acF h;have kR:=zlQ_ h;have bh:=zeV_ h;have e0:zM_.val [.fz (AO A),.fz (LS F2 (A.od++(midF A.md).take 1))]=.ok (LS .int (ac A)):=zjO_ h hk ha.1 ha.2;have e1:addA (LS F2 A.od) (LS F2 ((midF A.md).take 1))=.ok (LS F2 (A.od++(midF A.md).take 1)):=zd7_ (by have:=ha.2;rw[lb]at this;lia)
 have ef:=zdI_ h.md;unfold Wt at hw;cases hf:isF A.md with
 |true=>
  left;rw[hf]at hw ef;obtain⟨n,hc,rfl⟩:=hw;refine zQ_ rfl rfl λpn hp=>?_
  unfold zP_
  exists hp,zo_,zbz_,zeG_ h.md,zag_ (show(0:Int)<=1 by lia),show(1:Int).toNat=1 from rfl,e1,e0,ef,zff_ h hk,zqe_ (by lia) (by lia) hc
  fail "q"
 |false=>
  right;rw[hf]at hw ef;have hw:w=ac A:=hw;subst hw;refine zQ_ rfl rfl λpn hp=>?_
  unfold zP_
  exists hp,zo_,zbz_,zeG_ h.md,zag_ (show(0:Int)<=1 by lia),show(1:Int).toNat=1 from rfl,e1,e0,ef
  fail "q"
theorem zjr_ (h:OkA A)(hk:∀p∈A.pk,OkK sg p){w:List Int}(hw:Wt A w){n:Nat}(hn:Late (mc A) w (isF A.md) n):zai_.val [.fz (AO A)]=.ok (.int n):=by
 have aq:=zdZ_ h hw;have bh:=zeV_ h;obtain⟨h1,h2,h3⟩:=hn;refine zQ_ rfl rfl λpn hp=>?_
 unfold za2_;have main:∀d:D,d.vw=.fz (LS .int w)->En (seqM (whileM (λe=>((X.not (.call zx_ "is_late_length" [(.v 1),(.v 2),(.v 3),(.call zaO_ "is_first" [(.v 0)])])).ev gi e).bind blD) (λe=>S.runs gi pn [.asg 3 (.pu (.bin .add (.v 3) (.k (.int 1))))] e) fuelW [uD (.fz (AO A)),uD (LS .int (mc A)),uD d,uD (.int 0)]) λe=>S.runs gi pn [.ret (.mv 3)] e) (λo _=>o=.rt (.int n)\/(o=.nx/\D.int n=.non)):=λd hd=>by
  refine zg7_ (P:=λi e=>e=[uD (.fz (AO A)),uD (LS .int (mc A)),uD d,uD (.int (i:Int))]) n (by lia) rfl (λi e hi he=>?_)
  subst he;have es:zx_.val [.fz (LS .int (mc A)),.fz (LS .int w),.int i,.bl (isF A.md)]=.ok (.bl (isl (mc A) w i (isF A.md))):=zpp_ (by lia)
  by_cases z:i=n
  ·subst z
   left;refine⟨?_,?_⟩
   ·exists hp,zo_,hd,zdI_ h.md,es,h2,zlE_ (show(LS .int w).imm=uG from rfl)
   ·exists hp
    fail "q"
  ·right
   refine⟨by lia,?_,?_⟩
   ·exists hp,zo_,hd,zdI_ h.md,es,h3 i (by lia),zlE_ (show(LS .int w).imm=uG from rfl)
   ·exists hp
    exact⟨_,_,rfl,rfl,by simp⟩
 rcases zhN_ h hk hw with e |e
 ·have:=main (LS .int w) rfl
  simp only[S.runs,S.run,zcn_,zdc_,zgK_,xs_c,xs_0,xv_v,zqh_,zo_,zdO_,lq,nF,zff_ h hk,e,zr_,zZ_,zcg_,hp,nE,m8,ly,m7,sL,tN,zfU_,zd4_,mH,qV,l6,nO]at this ⊢;exact this
 ·have:=main (.fz (LS .int w)) (zlE_ rfl)
  simp only[S.runs,S.run,zcn_,zdc_,zgK_,xs_c,xs_0,xv_v,zqh_,zo_,zdO_,lq,nF,zff_ h hk,e,zr_,zcd_,zZ_,zeI_,frzE,m6,qR,znh_,X.uses,X.usesL,zcg_,hp,nE,m8,ly,m7,sL,tN,zfU_,zd4_,mH,qV,l6,nO]at this ⊢;exact this
def DG (n:Jx)(c:Int):D:=.nd .tup [.str [100,101,97,108],.str n,.int c]
instance (n:Jx):Im (DG n):=⟨λ_=>rfl⟩
def PG (n:Jx)(w:Wk):D:=.nd .tup [.str [112,117,110,99,104],.str n,WK w]
instance (n:Jx):Im (PG n):=⟨λ_=>rfl⟩
def KG (sg:Int->Nat)(n:Jx)(c:Int):D:=.nd .tup [.str [112,105,99,107],.str n,.int c,.str [sg c]]
instance (n:Jx):Im (KG sg n):=⟨λ_=>rfl⟩
theorem zrv_ {xs ys:List D}(h:xs.length+ys.length<=100000):extendF [.nd .lst xs,.nd .lst ys]=.ok .non [.nd .lst (xs++ys),.nd .lst (ys.map λ_=>.gone)]:=by
 show(if xs.length+ys.length<=lE then _ else _)=_
 rw[if_pos (za1_ h)]
theorem zgq_ {xs:List D}{d:D}(h:xs.length<100000):appendF [.nd .lst xs,d]=.ok .non [.nd .lst (xs++[d]),.gone]:=by
 show(if xs.length<lE then _ else _)=_
 rw[if_pos (zdF_ h)]
theorem zeQ_ (n:Jx)(cs:List Int)(h:cs.length<=1000):zcX_.val [.str n,.fz (LS .int cs)]=.ok (LS (DG n) cs.reverse):=by
 refine zQ_ rfl rfl λpn hp=>?_
 unfold zcJ_
 exists hp
 rw[xcompN (f:=λx:Int=>x) (o:=DG n) (T:=λx=>[.int x]) cs.reverse rfl (by exists hp) (zE_ _ _) (λx hx=>rfl) (by rw[l8];lia),mN]
 exists hp
 fail "q"
def ea (A:Ak)(w:List Int)(n:Nat):List Int:=mc A++(w.drop n).filter λc=>!decide (c∈mc A)
theorem zlt_ (h:OkA A)(hk:∀p∈A.pk,OkK sg p){w:List Int}(hw:Wt A w){n:Nat}(hn:Late (mc A) w (isF A.md) n):zW_.val [.fz (AO A)]=.ok (LS .int (ea A w n)):=by
 have aq:=zdZ_ h hw;have bh:=zeV_ h;have el:=zjr_ h hk hw hn;have main:∀d:D,zq_.val [.fz (AO A)]=.ok d->slA d (uD (n:Int)) uE=.ok (LS .int (w.drop n))->zW_.val [.fz (AO A)]=.ok (LS .int (ea A w n)):=λd hd hs=>by
  refine zQ_ rfl rfl λpn hp=>?_
  unfold zam_
  exists hp,zo_,zff_ h hk,hd,el,hs
  rw[xcomp (p:=λc=>!decide (c∈mc A)) (f:=λx:Int=>x) (o:=.int) (T:=λx=>[.int x]) (w.drop n) rfl (by exists hp) (zE_ _ _) (λx hx=>by exists trivial) (λx hx _=>rfl) (by rw[mz];lia),mN]
  have e1:=zd7_ (g:=.int) (a:=mc A) (b:=(w.drop n).filter λc=>!decide (c∈mc A)) (by have:=pR (λc=>!decide (c∈mc A)) (w.drop n);rw[mz]at this;lia)
  exists hp,e1
  fail "q"
 have es:slA (LS .int w) (uD (n:Int)) uE=.ok (LS .int (w.drop n)):=by rw[zo5_,za8_ (by lia),nI]
 rcases zhN_ h hk hw with e |e
 ·exact main _ e es
 ·exact main _ e (by rw[zrL_];exact es)
theorem zlA_ (h:OkA A){w:List Int}(hw:Wt A w)(n:Nat):(ea A w n).length<=720:=by
 have aq:=zdZ_ h hw;have bh:=zeV_ h;have:=pR (λc=>!decide (c∈mc A)) (w.drop n)
 rw[mz]at this;unfold ea;rw[lb];lia
def oth:Md->List D
 |.ma _ n _ g=>(cl g).reverse.map (DG n)
 |_=>[]
def mgo (A:Ak):List D:=match A.md with
 |.no=>[]
 |.fi f=>[.nd .tup [.str WFi,.str A.dk,F2 f]]
 |.ma w n f g=>[.nd .tup [.str [109,97,116,101],.str A.dk,.str n,F2 f,F2 g,.str w]]
theorem zo9_ (h:OkM A.dk A.md):zaY_.val [.fz (AO A)]=.ok (.nd .lst (oth A.md)):=by
 have e0:=zle_ h;have e1:=zgr_ h;have e2:=zeG_ h
 revert h e0 e1 e2
 cases A.md with
 |no=>
  intro h e0 e1 e2;refine zQ_ rfl rfl λpn hp=>?_
  unfold zX_
  exists hp,zo_,e0
  fail "q"
 |fi f=>
  intro h e0 e1 e2;refine zQ_ rfl rfl λpn hp=>?_
  unfold zX_
  exists hp,zo_,e0
  fail "q"
 |ma w n f g=>
  intro h e0 e1 e2;refine zQ_ rfl rfl λpn hp=>?_
  unfold zX_;have i1:ixA (LS .str [A.dk,n]) (.int 1)=.ok (.str n):=rfl;have i2:ixA (LS F2 [f,g]) (.int 1)=.ok (F2 g):=rfl;have ec:zab_.val [F2 g]=.ok (LS .int (cl g)):=zg2_ h.2.2.2.2.1;have ed:=zeQ_ n (cl g) (by have:=zaK_ h.2.2.2.2.1;lia)
  exists hp,zo_,e0,e1,e2,midF,i1,i2,ec,ed,zbF_
  fail "q"
theorem zpo_ (h:OkM A.dk A.md):zak_.val [.fz (AO A)]=.ok (.nd .lst (mgo A)):=by
 obtain⟨a,b,m,r⟩:=A;cases m with
 |no=>rfl
 |fi=>rfl
 |ma w n f g=>rcases h.1 with rfl |rfl<;>rfl
def CN (A:Ak):D:=.nd .tup [.str [99,111,117,110,116],.str A.dk,LS F2 (A.od.take A.br.toNat),LS F2 A.su,.int A.fg,LS F2 A.bd]
theorem zqd_:(CN A).new=uF:=by unfold CN;simp only[zgH_,nw_c,nw_0,zgu_,zd4_,zZ_,pW]
theorem zoz_ (h:OkA A):za4_.val [.fz (AO A)]=.ok (.nd .lst (A.wk.map (PG A.dk)++[CN A])):=by
 have h1:=h.wl;have eb:zaD_.val [.fz (AO A)]=.ok (LS F2 (A.od.take A.br.toNat)):=by
  refine zQ_ rfl rfl λpn hp=>?_
  unfold zaI_
  exists hp,zo_,zbz_,zfe_,zag_ h.br.1
  fail "q"
 refine zQ_ rfl rfl λpn hp=>?_
 unfold zaN_
 exists hp,zo_
 rw[xcompN (f:=λx:Wk=>x) (o:=PG A.dk) (T:=λx=>[WK x]) A.wk rfl (by exists hp,zo_,zcF_) (zE_ _ _) (λx hx=>rfl) (by lia),mN]
 have ea:appendF [LS (PG A.dk) A.wk,CN A]=_:=zgq_ (by rw[k8];lia)
 have en:=zqd_ (A:=A);unfold CN at ea en
 exists hp,zo_,zhY_,zga_,zej_,zh2_,eb,ea,en
 fail "q"
def plan (A:Ak)(sg:Int->Nat)(w:List Int)(n:Nat):List D:=(srtL ltI (kk A)).map (KG sg A.dk)++(ea A w n).reverse.map (DG A.dk)++oth A.md++mgo A++(w.take n).reverse.map (DG A.dk)++(A.wk.map (PG A.dk)++[CN A])
theorem kk_len (h:OkA A)(hk:∀p∈A.pk,OkK sg p):(kk A).length<=288:=by
 have h1:=h.pl;have h2:=zde_ (A.pk.flatMap λp=>cl p.1)
 have h3:(A.pk.flatMap λp=>cl p.1).length<=36*A.pk.length:=flenM A.pk λy hy=>zaK_ (hk y hy).1
 unfold kk;lia
theorem zoL_ (h:OkA A)(hk:∀p∈A.pk,OkK sg p)(cy:(kk A).length<64){w:List Int}(hw:Wt A w){n:Nat}(hn:Late (mc A) w (isF A.md) n):zbf_.val [.fz (AO A)]=.ok (.nd .lst (plan A sg w n)):=by
 have aq:=zdZ_ h hw;have cX:=zlA_ h hw n;have h1:=h.wl;have en:(KD sg (kk A)).new=uF:=zd9_;have bT:(KD sg (kk A)).vw=.fz (KD sg (kk A)):=rfl;have eo:(oth A.md).length<=36:=by
  have:=h.md
  revert this
  cases A.md with
  |no=>intro _;simp[oth]
  |fi=>intro _;simp[oth]
  |ma w n f g=>intro hm;unfold oth;rw[k8,l8];exact zaK_ hm.2.2.2.2.1
 have em:(mgo A).length<=1:=by unfold mgo;split<;>simp
 have es:sortI [KD sg (kk A)]=.ok (.nd .lst ((srtL ltI (kk A)).map .int)):=by
  unfold KD;rw[zjN_];unfold srtI;have:((kk A).map λc=>(c,[sg c])).map (·.1)=kk A:=by rw[mC];exact mN _
  rw[this,Mo.grd_ok (by lia)]
 have iL:(srtL ltI (kk A)).length=(kk A).length:=(zbg_ ltI (kk A)).length_eq;have main:∀d:D,zq_.val [.fz (AO A)]=.ok d->slA d uE (uD (n:Int))=.ok (LS .int (w.take n))->zbf_.val [.fz (AO A)]=.ok (.nd .lst (plan A sg w n)):=λd hd hs=>by
  refine zQ_ rfl rfl λpn hp=>?_
  unfold zdJ_
  exists hp,zo_,zht_ h hk,en
  rw[xcompN (f:=λx:Int=>x) (o:=KG sg A.dk) (T:=λx=>[.int x]) (items:=(srtL ltI (kk A)).map .int) (srtL ltI (kk A)) rfl (by exists hp,bT,es;rfl) (zE_ _ _) (λx hx=>?_) (by lia),mN]
  rotate_left
  ·have dw:x∈kk A:=(zbg_ ltI (kk A)).mem_iff.mp hx
   have e1:ixA (KD sg (kk A)) (.int x)=.ok (.str [sg x]):=by unfold KD;rw[zo2_,zfR_,if_pos dw];rfl
   exists zo_,zhY_,bT,zlE_ (show(KD sg (kk A)).imm=uG from rfl),e1
   rfl
  have s1:∀xs ys:List D,xs.length+ys.length<=100000->extendF [.nd .lst xs,.nd .lst ys]=.ok .non [.nd .lst (xs++ys),.nd .lst (ys.map λ_=>.gone)]:=λxs ys h=>zrv_ h
  have s2:∀(l:List Int),∀(m:Jx),LS (DG m) l=.nd .lst (l.map (DG m)):=λ_ _=>rfl
  have s3:LS (KG sg A.dk) (srtL ltI (kk A))=.nd .lst ((srtL ltI (kk A)).map (KG sg A.dk)):=rfl
  have n2:(D.nd .lst (oth A.md)).new=uF:=by cases A.md with
   |no=>rfl
   |fi=>rfl
   |ma w n f g=>exact zZ_ (g:=DG n) (l:=(cl g).reverse)
  have n3:(D.nd .lst (mgo A)).new=uF:=by unfold mgo;split<;>rfl
  have n4:(D.nd .lst (A.wk.map (PG A.dk)++[CN A])).new=uF:=by
   rw[zgH_];have:∀l:List Wk,D.news (l.map (PG A.dk)++[CN A])=uF:=λl=>by
    induction l with
    |nil=>show D.news [CN A]=uF;rw[nw_c,zqd_,nw_0];rfl
    |cons x l ih=>rw[lq,l6,nw_c,ih,zkv_];rfl
   exact this _
  have k1:∀xs:List D,isK "list" (.nd .lst xs)=uF:=λ_=>rfl
  rw[zgH_]at n2 n3 n4;have n5:=zhu_ (g:=KG sg A.dk) (srtL ltI (kk A));have n1:∀(l:List Int) (m:Jx),D.news (l.map (DG m))=uF:=λl m=>zhu_ (g:=DG m) l
  have b1:((srtL ltI (kk A)).map (KG sg A.dk)).length<64:=by rw[k8];lia
  have b2:((ea A w n).reverse.map (DG A.dk)).length<=720:=by rw[k8,l8];lia
  have b3:((w.take n).reverse.map (DG A.dk)).length<=360:=by rw[k8,l8,l5];lia
  have b4:(A.wk.map (PG A.dk)++[CN A]).length<=5:=by rw[lb,k8];simp;lia
  exists hp,zo_,zhY_,zlt_ h hk hw hn,zeQ_ A.dk (ea A w n) (by lia),zo9_ h.md,zpo_ h.md,hd,zjr_ h hk hw hn,hs,zeQ_ A.dk (w.take n) (by rw[l5];lia),zoz_ h,s2,s3,n1,n2,n3,n4,n5,k1,s1 _ _ (show((srtL ltI (kk A)).map (KG sg A.dk)).length+((ea A w n).reverse.map (DG A.dk)).length<=100000 by lia),s1 _ _ (show((srtL ltI (kk A)).map (KG sg A.dk)++(ea A w n).reverse.map (DG A.dk)).length+(oth A.md).length<=100000 by rw[lb];lia),s1 _ _ (show((srtL ltI (kk A)).map (KG sg A.dk)++(ea A w n).reverse.map (DG A.dk)++oth A.md).length+(mgo A).length<=100000 by rw[lb,lb];lia),s1 _ _ (show((srtL ltI (kk A)).map (KG sg A.dk)++(ea A w n).reverse.map (DG A.dk)++oth A.md++mgo A).length+((w.take n).reverse.map (DG A.dk)).length<=100000 by rw[lb,lb,lb];lia),s1 _ _ (show((srtL ltI (kk A)).map (KG sg A.dk)++(ea A w n).reverse.map (DG A.dk)++oth A.md++mgo A++(w.take n).reverse.map (DG A.dk)).length+(A.wk.map (PG A.dk)++[CN A]).length<=100000 by rw[lb,lb,lb,lb];lia),k1,n1,n2,n3,n4,n5
  fail "q"
 have iM:slA (LS .int w) uE (uD (n:Int))=.ok (LS .int (w.take n)):=by rw[zo5_,zag_ (by lia),nI]
 rcases zhN_ h hk hw with e |e
 ·exact main _ e iM
 ·exact main _ e (by rw[zrL_];exact iM)
theorem znM_ (ks m:List Int)(c:Int):adf ks (m.filter λx=>!decide (x∈ks)) c=(adp m c).filter λx=>!decide (x∈ks):=by
 unfold adf adp;by_cases h1:c∈ks
 ·rw[if_pos (.inl h1)]
  split
  ·rfl
  ·rw[oU];simp[h1]
 ·by_cases h2:c∈m
  ·rw[if_pos (.inr (p0.mpr ⟨h2,by simp[h1]⟩)),if_pos h2]
  ·rw[if_neg (by rintro(z |z);exact h1 z;exact h2 (p0.mp z).1),if_neg h2,oU];simp[h1]
theorem zgF_ (ks:List Int):∀(l m:List Int),l.foldl (adf ks) (m.filter λx=>!decide (x∈ks))=(l.foldl adp m).filter λx=>!decide (x∈ks)
 |[],m=>rfl
 |c::l,m=>by rw[m6,m6,znM_,zgF_ ks l]
theorem zgN_ (ks:List Int)(fs:List Fd):fre ks fs=(ddp (fs.flatMap cl)).filter λx=>!decide (x∈ks):=zgF_ ks (fs.flatMap cl) []
theorem zov_ {fs:List Fd}(hf:∀f∈fs,OkFd f)(hl:fs.length<=10):zas_.val [.fz (LS F2 fs)]=.ok (LS .int (ddp (fs.flatMap cl))):=by
 refine zQ_ rfl rfl λpn hp=>?_
 unfold zcM_
 exists hp
 have hlen:∀d:List Fd,(∃r,fs=d++r)->(ddp (d.flatMap cl)).length<=360:=λd ⟨r,e⟩=>by
  have h1:=zde_ (d.flatMap cl);have h2:(d.flatMap cl).length<=36*d.length:=flenM d λy hy=>zaK_ (hf y (by rw[e];simp[hy]))
  have h3:d.length<=fs.length:=by rw[e];simp
  lia
 refine zb5_ (l:=fs) (enc:=λw=>[F2 w]) (λd e=>∃o o',e=[uD (.fz (LS F2 fs)),uD (LS .int (ddp (d.flatMap cl))),o,o']) ⟨uE,uE,rfl⟩ (λd x r e bj he=>?_) (λe he=>?_)
 ·obtain⟨o,o',rfl⟩:=he
  refine⟨_,by exists hp;rfl,?_⟩
  have hx:=hf x (by rw[bj];simp)
  have hm:=hlen d ⟨_,bj⟩;have gG:=zaK_ hx;rw[nv];unfold ddp at hm ⊢;rw[nL]
  generalize (d.flatMap cl).foldl adp []=m at hm ⊢
  have er:rng2D [.int x.1,.int (x.2+1)]=.ok ((cl x).map .int):=by
   obtain⟨a1,a2,a3⟩:=hx;show Mo.grd _ _=_
   rw[Mo.grd_ok (by lia)];rfl
  exists hp,zbF_,F2_0,F2_1,er
  refine zb5_ (l:=cl x) (enc:=λc=>[.int c]) (λd e=>∃o,e=[uD (.fz (LS F2 fs)),uD (LS .int (d.foldl adp m)),uD (F2 x),o]) ⟨o',rfl⟩ (λd2 c r2 e aV he=>?_) (λe he=>?_)
  ·obtain⟨o,rfl⟩:=he
   refine⟨_,by exists hp;rfl,?_⟩
   rw[nL,m6,qR];have bO:=zcH_ d2 m;have hd2:d2.length<=36:=by rw[aV,lb]at gG;lia
   generalize d2.foldl adp m=m2 at bO ⊢
   by_cases c2:c∈m2
   ·rw[show adp m2 c=m2 from if_pos c2]
    exists hp,decide_eq_true c2
    exact⟨_,_,rfl,.inl ⟨.inl rfl,uD (.int c),rfl⟩⟩
   ·rw[show adp m2 c=m2++[c]from if_neg c2]
    have ea:appendF [LS .int m2,.int c]=_:=zdC_ (g:=.int) (l:=m2) (x:=c) (by lia)
    exists hp,decide_eq_false c2,ea
    exact⟨_,_,rfl,.inl ⟨.inl rfl,uD (.int c),rfl⟩⟩
  ·obtain⟨o,rfl⟩:=he
   exists hp
   exact⟨_,_,rfl,.inl ⟨.inl rfl,uD (F2 x),o,by simp⟩⟩
 ·obtain⟨o,o',rfl⟩:=he
  exists hp
  fail "q"
theorem zbj_:(D.fz (AL A)).vw=.fz (AL A):=rfl
theorem AL_0:ixA (AL A) (.int 0)=.ok (.str A.dk):=rfl
theorem AL_1:ixA (AL A) (.int 1)=.ok (.fz (LS PK A.pk)):=rfl
theorem AL_2:ixA (AL A) (.int 2)=.ok (MD A.md):=by rw[AL_2v,zna_]
theorem AL_3:ixA (AL A) (.int 3)=.ok (.fz (LS F2 A.od)):=rfl
theorem AL_4:ixA (AL A) (.int 4)=.ok (.fz (LS WK A.wk)):=rfl
theorem AL_5:ixA (AL A) (.int 5)=.ok (.int A.br):=rfl
theorem AL_6:ixA (AL A) (.int 6)=.ok (.fz (LS F2 A.su)):=rfl
theorem AL_7:ixA (AL A) (.int 7)=.ok (.int A.fg):=rfl
theorem AL_8:ixA (AL A) (.int 8)=.ok (.fz (LS F2 A.bd)):=rfl
def isN (m:Md):Bool:=match m with |.no=>uF |_=>uG
theorem zeC_ (m:Md):isD uF (MD m) .non=.ok (.bl (!isN m)):=by cases m<;>rfl
theorem md_is (m:Md):isD uG (MD m) .non=.ok (.bl (isN m)):=by cases m<;>rfl
theorem zl4_ {d:List Nat}{m:Md}(h:OkM d m)(hn:isN m=uG):∃f k,∃L:Int,midF m=f::k/\lenA [MD m]=.ok (.int L)/\ixA (MD m) (.int (L / 2))=.ok (F2 f):=by
 cases m with
 |no=>cases hn
 |fi f=>exact⟨f,[],2,rfl,rfl,rfl⟩
 |ma w n f g=>exact⟨f,[g],4,rfl,rfl,rfl⟩
theorem zjt_ {d:List Nat}{m:Md}(h:OkM d m)(hn:isN m=uG):∃u:List Nat,ixA (MD m) (.int 0)=.ok (.str u)/\decide (u=WFi)=isF m:=by
 cases m with
 |no=>cases hn
 |fi f=>exact⟨WFi,rfl,rfl⟩
 |ma w n f g=>rcases h.1 with rfl |rfl<;>exact⟨_,rfl,rfl⟩
theorem zjd_ (c:Int)(ks:List Int):inA uF (.int c) (KD sg ks)=.ok (.bl (!decide (c∈ks))):=by
 unfold KD;rw[zpT_,zfR_];by_cases hc:c∈ks
 ·rw[if_pos hc];simp[hc]
 ·rw[if_neg hc];simp[hc]
theorem ziu_ (ks:List Int):(D.fz (KD sg ks)).vw=.fz (KD sg ks):=zlE_ rfl
def fd (f:Bool)(n:Nat)(ks d:List Int):List Int:=if f=uF then(d.filter λx=>!decide (x∈ks)).take n else d.filter λx=>!decide (x∈ks)
theorem zp6_ (f:Bool)(n:Nat)(ks d:List Int):(fd f n ks d).length<=d.length:=by
 unfold fd;have:=pR (λx=>!decide (x∈ks)) d
 split
 ·rw[l5];lia
 ·exact this
theorem fd_in {f:Bool}{n:Nat}{ks d:List Int}{x:Int}(h:x∈ks):fd f n ks (d++[x])=fd f n ks d:=by
 unfold fd;rw[oU];simp[h]
theorem zqY_ {f:Bool}{n:Nat}{ks d r m:List Int}{x:Int}(h:x∉ks)(hc:f=uF->Cut ((d++x::r).filter λx=>!decide (x∈ks)) m n):((f && decide (∀c∈m,c∈fd f n ks d))=uF/\fd f n ks (d++[x])=fd f n ks d)\/((f && decide (∀c∈m,c∈fd f n ks d))=uG/\fd f n ks (d++[x])=fd f n ks d++[x]):=by
 have e0:(d++[x]).filter (λx=>!decide (x∈ks))=d.filter (λx=>!decide (x∈ks))++[x]:=by rw[oU];simp[h]
 cases f with
 |false=>right;unfold fd;simp only[nU,Bool.false_eq_true,if_false,true_and];exact e0
 |true=>
  obtain⟨c1,c2,c3⟩:=hc rfl;rw[oU,rQ,if_pos (by simp[h])]at c1 c2 c3
  unfold fd;simp only[if_true,qX];rw[e0]
  generalize d.filter (λx=>!decide (x∈ks))=p at c1 c2 c3 ⊢
  by_cases hn:n<=p.length
  ·left
   rw[pZ hn]at c2 ⊢;exact⟨decide_eq_true c2,rfl⟩
  ·right
   rw[mY (show p.length<=n by lia),mY (show(p++[x]).length<=n by rw[lb];simp;lia)]
   refine⟨decide_eq_false λz=>c3 p.length (by lia) ?_,rfl⟩
   rw[pZ (lp _),pz];exact z
theorem zkX_ (h:OkA A){w:List Int}(hw:Wt A w):zaW_.val [.fz (AL A),.fz (LS .int (mc A)),.fz (KD sg (kk A))]=.ok (LS .int w):=by
 have ha:=acF h;have bh:=zeV_ h;have dE:=h.ol;obtain⟨n,hwn⟩:∃n,(isF A.md=uF->Cut (ac A) (mc A) n)/\w=fd (isF A.md) n (kk A) (ddp ((A.od++(midF A.md).take 1).flatMap cl)):=by
  unfold Wt at hw;have e:ac A=_:=zgN_ (kk A) (A.od++(midF A.md).take 1);split at hw
  ·rename_i hf
   obtain⟨n,hc,rfl⟩:=hw;exact⟨n,λ_=>hc,by unfold fd;rw[if_pos hf,<- e]⟩
  ·rename_i hf
   exact⟨0,λz=>absurd z hf,by unfold fd;rw[if_neg hf,<- e,hw]⟩
 obtain⟨gH,rfl⟩:=hwn;have main:∀pn:Nat->Bool,(∀i,pn i=uG)->En (S.runs gi pn (zh_.drop 2) [uD (.fz (AL A)),uD (.fz (LS .int (mc A))),uD (.fz (KD sg (kk A))),uD (LS F2 (A.od++(midF A.md).take 1)),uE,uE,uE]) λo _=>o=.rt (LS .int (fd (isF A.md) n (kk A) (ddp ((A.od++(midF A.md).take 1).flatMap cl))))\/(o=.nx/\LS .int (fd (isF A.md) n (kk A) (ddp ((A.od++(midF A.md).take 1).flatMap cl)))=.non):=λpn hp=>by
  unfold zh_;simp only[mw,mM];rw[S.runs,S.run,zdc_,show X.ev gi [uD (.fz (AL A)),uD (.fz (LS .int (mc A))),uD (.fz (KD sg (kk A))),uD (LS F2 (A.od++(midF A.md).take 1)),uE,uE,uE] (.lst [])=.ok (LS .int [])from rfl,zr_ _ zZ_,zcg_ _ (hp _) (show 4<7 by decide),zcn_]
  have eM:(ddp ((A.od++(midF A.md).take 1).flatMap cl)).length<=360:=by
   have h1:=zde_ ((A.od++(midF A.md).take 1).flatMap cl);have h2:((A.od++(midF A.md).take 1).flatMap cl).length<=36*(A.od++(midF A.md).take 1).length:=flenM _ λy hy=>zaK_ (ha.1 y hy)
   lia
  have iO:ac A=(ddp ((A.od++(midF A.md).take 1).flatMap cl)).filter λx=>!decide (x∈kk A):=zgN_ (kk A) (A.od++(midF A.md).take 1)
  generalize cZ:ddp ((A.od++(midF A.md).take 1).flatMap cl)=all at eM iO ⊢
  refine zbi_ (l:=all) (enc:=λc=>[.int c]) (d:=LS .int all) (items:=all.map .int) (λd e=>∃o o',e=[uD (.fz (AL A)),uD (.fz (LS .int (mc A))),uD (.fz (KD sg (kk A))),uD (LS F2 (A.od++(midF A.md).take 1)),uD (LS .int (fd (isF A.md) n (kk A) d)),o,o']) (by rw[<- cZ];exists hp,zov_ ha.1 ha.2) rfl (zE_ _ _) ⟨uE,uE,by unfold fd;simp⟩ (λd x r e hl he=>?_) (λe he=>?_)
  ·obtain⟨o,o',rfl⟩:=he
   refine⟨_,by exists hp;rfl,?_⟩
   have jO:=zp6_ (isF A.md) n (kk A) d;have jR:d.length<=360:=by rw[hl,lb]at eM;lia
   generalize cz:fd (isF A.md) n (kk A) d=fo at jO ⊢
   have bU:X.ev gi [uD (.fz (AL A)),uD (.fz (LS .int (mc A))),uD (.fz (KD sg (kk A))),uD (LS F2 (A.od++(midF A.md).take 1)),uD (LS .int fo),uD (.int x),o'] (.comp ["_law_one"] [("_law_found",4)] .any [(.v 1)] ⟨uG,[0]⟩ (uD (.bin .nin (.v 0) (.v 1))) (.v 0))=.ok (LS .int ((mc A).filter λc=>!decide (c∈fo))):=by
    rw[xcomp (p:=λc=>!decide (c∈fo)) (f:=λx:Int=>x) (o:=.int) (T:=λx=>[.int x]) (mc A) rfl (by exists hp) (zE_ _ _) (λx hx=>by exists trivial) (λx hx _=>rfl) (by lia),mN]
   have j9:X.ev gi [uD (.fz (AL A)),uD (.fz (LS .int (mc A))),uD (.fz (KD sg (kk A))),uD (LS F2 (A.od++(midF A.md).take 1)),uD (LS .int fo),uD (.int x),o'] (.and (.bin .isn (.bin .ix (.v 0) (.k (.int 2))) (.k .non)) (.and (.bin .eq (.bin .ix (.bin .ix (.v 0) (.k (.int 2))) (.k (.int 0))) (.k (.str [102,105,114,115,116]))) (.bin .eq (.bf .len [(.comp ["_law_one"] [("_law_found",4)] .any [(.v 1)] ⟨uG,[0]⟩ (uD (.bin .nin (.v 0) (.v 1))) (.v 0))]) (.k (.int 0)))))=.ok (.bl (isF A.md && decide (∀c∈mc A,c∈fo))):=by
    cases hN:isN A.md with
    |true=>
     have hF:isF A.md=uG:=by revert hN;cases A.md<;>intro z<;>first |rfl |cases z
     exists zbj_,AL_2,zeC_,hN,hF,nU
    |false=>
     obtain⟨u,e1,e2⟩:=zjt_ h.md hN;have e3:eqD uG (.str u) (.str [102,105,114,115,116])=.ok (.bl (isF A.md)):=by rw[zcj_];show Mq (D.bl (decide (u=WFi)))=_;rw[e2]
     cases hF:isF A.md with
     |false=>
      rw[hF]at e3
      exists zbj_,AL_2,zeC_,hN,e1,e3,nU
      rfl
     |true=>
      rw[hF]at e3;have e4:decide ((((mc A).filter λc=>!decide (c∈fo)).length:Int)=0)=decide (∀c∈mc A,c∈fo):=by
       refine decide_eq_decide.mpr ⟨λz=>?_,λz=>?_⟩
       ·have z:((mc A).filter λc=>!decide (c∈fo))=[]:=ml.mp (by lia)
        intro c hc;have:=pQ.mp z c hc
        simpa using this
       ·rw[pQ.mpr λc hc=>by simp[z c hc]];rfl
      exists zbj_,AL_2,zeC_,hN,e1,e3,bU,e4,qX
   rw[S.runs,S.run,zdc_,j9,zr_ _ (nw_bl _),zcg_ _ (hp _) (show 6<7 by decide),zcn_]
   by_cases hx:x∈kk A
   ·rw[fd_in hx,cz]
    exists hp,ziu_,zjd_,decide_eq_true hx
    exact⟨_,_,rfl,.inl ⟨.inl rfl,_,_,rfl⟩⟩
   ·rcases zqY_ (f:=isF A.md) (n:=n) (d:=d) (r:=r) (m:=mc A) hx (by rw[<- hl,<- iO];exact gH)with⟨z1,z2⟩|⟨z1,z2⟩
    ·rw[cz]at z1
     rw[z1,z2,cz]
     exists hp,ziu_,zjd_,decide_eq_false hx
     exact⟨_,_,rfl,.inl ⟨.inl rfl,_,_,rfl⟩⟩
    ·rw[cz]at z1
     rw[z1,z2,cz];have ea:appendF [LS .int fo,.int x]=_:=zdC_ (g:=.int) (l:=fo) (x:=x) (by lia)
     exists hp,ziu_,zjd_,decide_eq_false hx,ea
     exact⟨_,_,rfl,.inl ⟨.inl rfl,_,_,rfl⟩⟩
  ·obtain⟨o,o',rfl⟩:=he
   exists hp
   fail "q"
 refine zQ_ rfl rfl λpn hp=>?_
 have m0:=main pn hp;cases hN:isN A.md with
 |true=>
  have hm:(midF A.md).take 1=[]:=by revert hN;cases A.md<;>intro z<;>first |rfl |cases z
  rw[hm,mU]at m0 ⊢;have e1:S.runs gi pn zh_ ([.fz (AL A),.fz (LS .int (mc A)),.fz (KD sg (kk A))].map uD++lF 4 uE)=S.runs gi pn (zh_.drop 2) [uD (.fz (AL A)),uD (.fz (LS .int (mc A))),uD (.fz (KD sg (kk A))),uD (LS F2 A.od),uE,uE,uE]:=by
   unfold zh_;rw[S.runs,S.run,show Y.ev gi _ _=Mr.ok (LS F2 A.od) [uD (.fz (AL A)),uD (.fz (LS .int (mc A))),uD (.fz (KD sg (kk A))),uE,uE,uE,uE]from(by exists zbj_,AL_3),zcg_ _ (hp _) (show 3<7 by decide),zcn_,zbG_ (by exists zbj_,AL_2,zeC_,hN)]
   rfl
  rw[e1];exact m0
 |false=>
  obtain⟨f,k,L,hm,hL,hf⟩:=zl4_ h.md hN;rw[hm,show(f::k).take 1=[f]from rfl]at m0 ⊢
  have e1:S.runs gi pn zh_ ([.fz (AL A),.fz (LS .int (mc A)),.fz (KD sg (kk A))].map uD++lF 4 uE)=S.runs gi pn (zh_.drop 2) [uD (.fz (AL A)),uD (.fz (LS .int (mc A))),uD (.fz (KD sg (kk A))),uD (LS F2 (A.od++[f])),uE,uE,uE]:=by
   unfold zh_;have ea:appendF [LS F2 A.od,F2 f]=_:=zdC_ (g:=F2) (l:=A.od) (x:=f) (by lia)
   rw[S.runs,S.run,show Y.ev gi _ _=Mr.ok (LS F2 A.od) [uD (.fz (AL A)),uD (.fz (LS .int (mc A))),uD (.fz (KD sg (kk A))),uE,uE,uE,uE]from(by exists zbj_,AL_3),zcg_ _ (hp _) (show 3<7 by decide),zcn_,zcx_ (by exists zbj_,AL_2,zeC_,hN)]
   show S.runs gi pn (S.ex _::_) _=_
   rw[zjm_ (d:=.non) (e:=[uD (.fz (AL A)),uD (.fz (LS .int (mc A))),uD (.fz (KD sg (kk A))),uD (LS F2 (A.od++[f])),uE,uE,uE]) (by exists zbj_,AL_2,hL,hf,zbZ_,ea)]
   rfl
  rw[e1];exact m0
theorem zn3_ {m w:List Int}{i:Nat}(hi:i<=w.length)(f:Bool):isl m w i f=(decide ((m.filter λc=>!decide (c∈w.take i))=(w.drop i).take (m.filter λc=>!decide (c∈w.take i)).length) && (!f ||decide ((i:Int)+(m.filter λc=>!decide (c∈w.take i)).length=w.length))):=by
 unfold isl
 generalize (m.filter λc=>!decide (c∈w.take i))=l
 cases f with
 |false=>simp
 |true=>
  simp only[if_true,Bool.not_true,qj];rw[<- Bool.decide_and];refine decide_eq_decide.mpr ⟨λz=>?_,λz=>?_⟩
  ·subst z
   rw[pz,mz];exact⟨rfl,by lia⟩
  ·rw[z.1,mY (by rw[mz];lia)]
theorem zk4_ (h:OkA A){w:List Int}(hw:Wt A w){n:Nat}(hn:Late (mc A) w (isF A.md) n):zb3_.val [.fz (AL A),.fz (LS .int (mc A)),.fz (LS .int w)]=.ok (.int n):=by
 have aq:=zdZ_ h hw;have bh:=zeV_ h;obtain⟨h1,h2,h3⟩:=hn;refine zQ_ rfl rfl λpn hp=>?_
 unfold zb1_;have er:rng1D [.int ((w.length:Int)+1)]=.ok ((lH (w.length+1)).map λi:Nat=>D.int (0+(i:Int))):=by
  rw[rg1 (by lia) (by lia),show((w.length:Int)+1).toNat=w.length+1 by lia]
 refine zbi_ (l:=lH (w.length+1)) (enc:=λi:Nat=>[.int (0+(i:Int))]) (d:=.int ((w.length:Int)+1)) (items:=(lH (w.length+1)).map λi:Nat=>D.int (0+(i:Int))) (λd e=>d.length<=n/\∃o o',e=[uD (.fz (AL A)),uD (.fz (LS .int (mc A))),uD (.fz (LS .int w)),o,o']) (by exists hp) er (zE_ _ _) ⟨by simp,uE,uE,rfl⟩ (λd x r e hl he=>?_) (λe he=>?_)
 ·obtain⟨hd,o,o',rfl⟩:=he
  refine⟨_,by exists hp;rfl,?_⟩
  have hx:x=d.length:=by
   have:=congrArg (λl=>l[d.length]?) hl
   simp at this;have aA:d.length<w.length+1:=by have:=congrArg oO hl;simp at this;lia
   rw[lj (by simpa using aA)]at this
   simpa using this.symm
  subst hx;rw[tO]
  generalize hi:d.length=i at hd ⊢
  have iE:i<=w.length:=by lia
  have el:=zn3_ (m:=mc A) iE (isF A.md);have bU:X.ev gi [uD (.fz (AL A)),uD (.fz (LS .int (mc A))),uD (.fz (LS .int w)),uD (.int (i:Int)),o'] (.comp Qn1 [("_law_wanted_here",2),("_law_late_here",3)] .any [(.v 1)] ⟨uG,[0]⟩ (uD (.bin .nin (.v 0) (.sl (.v 1) uE (uD (.v 2))))) (.v 0))=.ok (LS .int ((mc A).filter λc=>!decide (c∈w.take i))):=by
   rw[xcomp (p:=λc=>!decide (c∈w.take i)) (f:=λx:Int=>x) (o:=.int) (T:=λx=>[.int x]) (mc A) rfl (by exists hp) (zE_ _ _) (λx hx=>by exists zag_ (show(0:Int)<=(i:Int) by lia)) (λx hx _=>rfl) (by lia),mN]
  rw[S.runs,S.run,zdc_,bU,zr_ _ zZ_,zcg_ _ (hp _) (show 4<5 by decide),zcn_]
  generalize ((mc A).filter λc=>!decide (c∈w.take i))=l at el ⊢
  have fb:=zhw_ w i l.length iE;have run:En (S.runs gi pn [.if_ (.bin .eq (.v 4) (.sl (.v 2) (uD (.v 3)) (uD (.bin .add (.v 3) (.bf .len [(.v 4)]))))) [.if_ (.or (.bin .is (.bin .ix (.v 0) (.k (.int 2))) (.k .non)) (.or (.bin .ne (.bin .ix (.bin .ix (.v 0) (.k (.int 2))) (.k (.int 0))) (.k (.str [102,105,114,115,116]))) (.bin .eq (.bin .add (.v 3) (.bf .len [(.v 4)])) (.bf .len [(.v 2)])))) [.ret (.mv 3)] []] []] [uD (.fz (AL A)),uD (.fz (LS .int (mc A))),uD (.fz (LS .int w)),uD (.int (i:Int)),uD (LS .int l)]) λo e=>(isl (mc A) w i (isF A.md)=uF/\o=.rt (.int i))\/(isl (mc A) w i (isF A.md)=uG/\o=.nx/\e=[uD (.fz (AL A)),uD (.fz (LS .int (mc A))),uD (.fz (LS .int w)),uD (.int (i:Int)),uD (LS .int l)]):=by
   rw[el];by_cases c1:l=(w.drop i).take l.length
   ·rw[decide_eq_true c1,qX]
    have gW:decide (l=cutG w (uD (i:Int)) (uD ((i:Int)+l.length)))=uF:=by rw[fb];exact decide_eq_true c1
    rw[zcx_ (by exists hp,gW)]
    cases hN:isN A.md with
    |true=>
     have hF:isF A.md=uG:=by revert hN;cases A.md<;>intro z<;>first |rfl |cases z
     rw[hF];rw[mU,zcx_ (by exists zbj_,AL_2,md_is,hN)]
     exists hp
     exact⟨_,_,rfl,by simp⟩
    |false=>
     obtain⟨u,e1,e2⟩:=zjt_ h.md hN;have e3:eqD uF (.str u) (.str [102,105,114,115,116])=.ok (.bl (!isF A.md)):=by rw[zcj_];show Mq (D.bl (!decide (u=WFi)))=_;rw[e2]
     have et:(X.ev gi [uD (.fz (AL A)),uD (.fz (LS .int (mc A))),uD (.fz (LS .int w)),uD (.int (i:Int)),uD (LS .int l)] (.or (.bin .is (.bin .ix (.v 0) (.k (.int 2))) (.k .non)) (.or (.bin .ne (.bin .ix (.bin .ix (.v 0) (.k (.int 2))) (.k (.int 0))) (.k (.str [102,105,114,115,116]))) (.bin .eq (.bin .add (.v 3) (.bf .len [(.v 4)])) (.bf .len [(.v 2)]))))).bind blD=.ok (!isF A.md ||decide ((i:Int)+l.length=w.length)):=by
      exists zbj_,AL_2,md_is,hN,e1,e3,qj
     cases hb:(!isF A.md ||decide ((i:Int)+l.length=w.length))with
     |true=>
      rw[hb]at et;rw[mU,zcx_ et]
      exists hp
      exact⟨_,_,rfl,by simp⟩
     |false=>
      rw[hb]at et;rw[mU,zbG_ et]
      exists hp
      exact⟨_,_,rfl,by simp⟩
   ·rw[decide_eq_false c1,nU]
    have gW:decide (l=cutG w (uD (i:Int)) (uD ((i:Int)+l.length)))=uG:=by rw[fb];exact decide_eq_false c1
    rw[zbG_ (by exists hp,gW)]
    exists hp
    exact⟨_,_,rfl,by simp⟩
  obtain⟨o2,e2,e9,hq⟩:=run;refine⟨o2,e2,e9,?_⟩;rcases hq with⟨z,rfl⟩|⟨z,rfl,rfl⟩
  ·have:i=n:=by
    rcases qa i n with y |y
    ·rw[h3 i y]at z;cases z
    ·lia
   subst this;exact .inr ⟨⟨_,rfl⟩,.inl rfl⟩
  ·refine .inl ⟨.inl rfl,?_,_,_,rfl⟩
   rw[lb,oW,hi];rcases qa i n with y |y
   ·lia
   ·rw[show i=n by lia,h2]at z;cases z
 ·exfalso
  have:=he.1;rw[lJ]at this;lia
theorem zmd_ (ks:List Int)(c:Int):dput (ks.map λc=>(c,[sg c])) c [sg c]=(adp ks c).map λc=>(c,[sg c]):=by
 unfold adp;induction ks with
 |nil=>rfl
 |cons k ks ih=>
  rw[lq,dput];by_cases h:k=c
  ·subst h;rw[if_pos rfl,if_pos (by simp)];rfl
  ·rw[if_neg h,ih]
   by_cases h2:c∈ks
   ·rw[if_pos h2,if_pos (by simp[h2])];rfl
   ·rw[if_neg h2,if_neg (by simp[h2,pV h])];rfl
theorem zqx_ {l:List Nat}{k:Nat}{c:Nat}(h:l[k]?=uD c)(hl:l.length<=100000):ixA (.str l) (.int (0+(k:Int)))=.ok (.str [c]):=by
 show Mo.lim l.length (Mo.opt ((atI l (0+(k:Int))).map λc=>D.str [c]))=_
 rw[Mo.lim_ok hl,zhL_ (by lia) (by rw[show(0+(k:Int)).toNat=k by lia];exact h)];rfl
theorem zkN_ {pn:Nat->Bool}(hp:∀i,pn i=uG)(h:OkA A)(hk:∀p∈A.pk,OkK sg p){ss:List S}{Q:Fl->VI.Env->Prop}
  (hq:∀a b c,En (S.runs gi pn ss [uD (.fz (AL A)),uD (KD sg (kk A)),a,b,c,uE,uE,uE,uE,uE]) Q):
  En (S.runs gi pn (.for_ .any [(.bin .ix (.v 0) (.k (.int 1)))] ⟨uF,[2,3]⟩ [.for_ .r1 [(.bf .len [(.v 3)])] ⟨uG,[4]⟩ [.setI (.v 1) (.bin .add (.bin .ix (.v 2) (.k (.int 0))) (.v 4)) (.bin .ix (.v 3) (.v 4))]]::ss) [uD (.fz (AL A)),uD (DI .str []),uE,uE,uE,uE,uE,uE,uE,uE]) Q:=by
 have av:=h.pl;refine zbi_ (l:=A.pk) (enc:=λp=>[F2 p.1,.str p.2]) (d:=.fz (LS PK A.pk)) (items:=A.pk.map PK) (λd e=>∃a b c,e=[uD (.fz (AL A)),uD (KD sg ((d.flatMap λp=>cl p.1).foldl adp [])),a,b,c,uE,uE,uE,uE,uE]) (by exists zbj_,AL_1) rfl (zlj_ _ _ _) ⟨uE,uE,uE,rfl⟩ (λd x r e hl he=>?_) (λe he=>?_)
 ·obtain⟨a,b,c,rfl⟩:=he
  refine⟨_,by exists hp,zbF_;rfl,?_⟩
  have hx:=hk x (by rw[hl];simp)
  have ex:x.2=(cl x.1).map sg:=hx.2;have bp:=zaK_ hx.1;have bh:((d.flatMap λp=>cl p.1).foldl adp []).length<=288:=by
   have h1:=zcH_ (d.flatMap λp=>cl p.1) []
   have h2:(d.flatMap λp=>cl p.1).length<=36*d.length:=flenM d λy hy=>zaK_ (hk y (by rw[hl];simp[hy])).1
   have h3:d.length<=8:=by rw[hl,lb]at av;lia
   rw[m7]at h1;lia
  rw[nv,nL]
  generalize (d.flatMap λp=>cl p.1).foldl adp []=m at bh ⊢
  have iK:x.2.length=(cl x.1).length:=by rw[ex,k8]
  have cq:cl x.1=(lH (cl x.1).length).map λi:Nat=>x.1.1+(i:Int):=by
   unfold cl;rw[zcy_];rfl
  generalize hM:(cl x.1).length=M at bp iK cq
  have er:rng1D [.int (x.2.length:Int)]=.ok ((lH M).map λi:Nat=>D.int (0+(i:Int))):=by rw[rg1 (by lia) (by lia),nI,iK]
  refine zbi_ (l:=lH M) (enc:=λi:Nat=>[.int (0+(i:Int))]) (d:=.int (x.2.length:Int)) (items:=(lH M).map λi:Nat=>D.int (0+(i:Int))) (λd e=>∃c,e=[uD (.fz (AL A)),uD (KD sg ((d.map λi:Nat=>x.1.1+(i:Int)).foldl adp m)),uD (F2 x.1),uD (.str x.2),c,uE,uE,uE,uE,uE]) (by exists lnS_ (show x.2.length<=100000 by lia)) er (zE_ _ _) ⟨c,rfl⟩ (λd2 k r2 e aV he=>?_) (λe he=>?_)
  ·obtain⟨c,rfl⟩:=he
   refine⟨_,by exists hp;rfl,?_⟩
   rw[mX,nL];have hd2:d2.length+1<=M:=by have:=congrArg oO aV;simp at this;lia
   have bO:((d2.map λi:Nat=>x.1.1+(i:Int)).foldl adp m).length<=400:=by
    have:=zcH_ (d2.map λi:Nat=>x.1.1+(i:Int)) m
    rw[k8]at this;lia
   generalize (d2.map λi:Nat=>x.1.1+(i:Int)).foldl adp m=m2 at bO ⊢
   have jH:k<M:=by
    have:k∈lH M:=by rw[aV];simp
    exact mf.mp this
   have gQ:x.2[k]?=uD (sg (x.1.1+(k:Int))):=by
    rw[ex,cq,mC,lB,qU jH];rfl
   have gp:=zlS_ (g:=D.str) (m:=m2.map λc=>(c,[sg c])) (i:=x.1.1+(0+(k:Int))) (v:=[sg (x.1.1+(k:Int))]) (by rw[k8];lia)
   rw[S.runs,S.run,zls_ (d:=.str [sg (x.1.1+(k:Int))]) (a:=.int (x.1.1+(0+(k:Int)))) (by exists zqx_ gQ (by lia)) (zgu_ _) (by exists zbF_,F2_0) (zd4_ _) rfl gp]
   exists hp
   refine⟨_,_,rfl,.inl ⟨.inl rfl,uD (.int (0+(k:Int))),?_⟩⟩;rw[tO,zmd_];rfl
  ·obtain⟨c,rfl⟩:=he
   rw[<- cq,S.runs];exact⟨_,_,rfl,.inl ⟨.inl rfl,uD (F2 x.1),uD (.str x.2),c,by simp⟩⟩
 ·obtain⟨a,b,c,rfl⟩:=he
  exact hq a b c
theorem zv_:∀{xs ys:List D},D.imms xs=uF->D.imms ys=uF->D.imms (xs++ys)=uF
 |[],ys,_,h=>h
 |x::xs,ys,h1,h2=>by
  rw[D.imms,k9]at h1;rw[l6,D.imms,h1.1,zv_ h1.2 h2];rfl
theorem zhD_:∀{xs:List D},D.imms xs=uF->xs.map D.vw=xs
 |[],_=>rfl
 |x::xs,h=>by
  rw[D.imms,k9]at h;rw[lq,zhD_ h.2];unfold D.vw;rw[if_pos h.1]
theorem zh8_ {xs ys:List D}(h1:D.imms xs=uF)(h2:D.imms ys=uF)(hl:xs.length+ys.length<=100000):addA (.nd .lst xs) (.nd .lst ys)=.ok (.nd .lst (xs++ys)):=by
 show Mo.lim (xs.length+ys.length) (Mq (D.nd .lst ((xs++ys).map D.vw)))=_
 rw[Mo.lim_ok hl,zhD_ (zv_ h1 h2)]
theorem zfO_ (xs:List D):(D.nd .lst xs).vw=.fz (.nd .lst xs):=rfl
theorem zfl_ {xs:List D}(h:D.imms xs=uF):D.news xs=uF:=zbx_ _ h
def CL (A:Ak):D:=.nd .tup [.str [99,111,117,110,116],.str A.dk,LS F2 (A.od.take A.br.toNat),.fz (LS F2 A.su),.int A.fg,.fz (LS F2 A.bd)]
def pre (A:Ak)(sg:Int->Nat)(w:List Int)(n:Nat):List D:=(srtL ltI (kk A)).map (KG sg A.dk)++(ea A w n).reverse.map (DG A.dk)++oth A.md++mgo A++(w.take n).reverse.map (DG A.dk)++A.wk.map (PG A.dk)
theorem zdn_ (w:List Int)(n:Nat):plan A sg w n=pre A sg w n++[CN A]:=by unfold plan pre;simp only[oy]
theorem znX_ {pn:Nat->Bool}(hp:∀i,pn i=uG)(h:OkA A){w:List Int}(aq:w.length<=360){n:Nat}{xs:List D}(hx:D.imms xs=uF)(jf:xs.length<=2000){o1 o2 o3 o4 o5 o8:Option D}:
  En (S.runs gi pn (zd_.drop 10) [uD (.fz (AL A)),o1,o2,o3,o4,o5,uD (LS .int w),uD (.int n),o8,uD (.nd .lst xs)]) λo _=>o=.rt (.nd .lst (xs++(w.take n).reverse.map (DG A.dk)++A.wk.map (PG A.dk)++[.fz (CL A)])):=by
 have h1:=h.wl;unfold zd_;simp only[mw,mM];have i1:D.imms ((w.take n).reverse.map (DG A.dk))=uF:=zS_ (g:=DG A.dk) _;have i2:D.imms (A.wk.map (PG A.dk))=uF:=zS_ (g:=PG A.dk) _;have l1:((w.take n).reverse.map (DG A.dk)).length<=360:=by rw[k8,l8,l5];lia
 exists hp
 rw[xcompN (f:=λx:Int=>x) (o:=DG A.dk) (T:=λx=>[.int x]) (w.take n).reverse rfl (by exists hp,zag_ (show(0:Int)<=(n:Int) by lia)) (zE_ _ _) (λx hx=>rfl) (by rw[l8,l5];lia),mN]
 have a1:addA (.nd .lst xs) (LS (DG A.dk) (w.take n).reverse)=_:=zh8_ hx i1 (by lia)
 have n1:=zfl_ (zv_ hx i1)
 exists hp,zfO_,a1,n1,zgH_
 rw[xcompN (f:=λx:Wk=>x) (o:=PG A.dk) (T:=λx=>[WK x]) A.wk rfl (by exists hp,zbj_,AL_4) (zE_ _ _) (λx hx=>rfl) (by lia),mN]
 have a2:addA (.nd .lst (xs++(w.take n).reverse.map (DG A.dk))) (LS (PG A.dk) A.wk)=_:=zh8_ (zv_ hx i1) i2 (by rw[lb,k8 (f:=PG A.dk)];lia)
 have n2:=zfl_ (zv_ (zv_ hx i1) i2);have ec:addA (.nd .lst (xs++(w.take n).reverse.map (DG A.dk)++A.wk.map (PG A.dk))) (.nd .lst [CL A])=.ok (.nd .lst (xs++(w.take n).reverse.map (DG A.dk)++A.wk.map (PG A.dk)++[.fz (CL A)])):=by
  show Mo.lim ((xs++(w.take n).reverse.map (DG A.dk)++A.wk.map (PG A.dk)).length+1) (Mq (D.nd .lst ((xs++(w.take n).reverse.map (DG A.dk)++A.wk.map (PG A.dk)++[CL A]).map D.vw)))=_
  rw[Mo.lim_ok (by rw[lb,lb,k8 (f:=PG A.dk)];lia),mX,zhD_ (zv_ (zv_ hx i1) i2)];rfl
 unfold CL at ec ⊢
 exists hp,zfO_,a2,n2,zgH_,zbj_,AL_0,AL_3,AL_5,AL_6,AL_7,AL_8,zag_ h.br.1,ec
 have nn:D.news (xs++(w.take n).reverse.map (DG A.dk)++A.wk.map (PG A.dk)++[.fz (CL A)])=uG:=by
  have:∀l:List D,D.news (l++[.fz (CL A)])=uG:=λl=>by
   induction l with
   |nil=>rfl
   |cons y l ih=>rw[l6,nw_c,ih,pd]
  exact this _
 unfold CL at nn
 exists nn
 exact⟨_,_,rfl,rfl⟩
theorem zoF_ (f:Fd):rngD f.2 (f.2-(f.1-1)).toNat=(cl f).reverse:=by
 unfold rngD cl rngI;rw[<- qu];rw[show(f.2-(f.1-1)).toNat=(f.2+1-f.1).toNat by lia]
 refine qo (by simp) λi h1 h2=>?_
 simp at h1 h2 ⊢;lia
theorem zju_ (A:Ak):D.imms (mgo A)=uF:=by unfold mgo;split<;>rfl
theorem zjC_ (m:Md):D.imms (oth m)=uF:=by
 cases m with
 |no=>rfl
 |fi=>rfl
 |ma w n f g=>exact zS_ (g:=DG n) _
theorem zqw_ {pn:Nat->Bool}(hp:∀i,pn i=uG)(h:OkA A){w:List Int}(aq:w.length<=360){n:Nat}{xs:List D}(hx:D.imms xs=uF)(jf:xs.length<=1000){o1 o2 o3 o4 o5 o8:Option D}:
  En (S.runs gi pn (zd_.drop 9) [uD (.fz (AL A)),o1,o2,o3,o4,o5,uD (LS .int w),uD (.int n),o8,uD (.nd .lst xs)]) λo _=>o=.rt (.nd .lst (xs++oth A.md++mgo A++(w.take n).reverse.map (DG A.dk)++A.wk.map (PG A.dk)++[.fz (CL A)])):=by
 have main:∀ys:List D,ys=xs++oth A.md++mgo A->S.runs gi pn (zd_.drop 9) [uD (.fz (AL A)),o1,o2,o3,o4,o5,uD (LS .int w),uD (.int n),o8,uD (.nd .lst xs)]=S.runs gi pn (zd_.drop 10) [uD (.fz (AL A)),o1,o2,o3,o4,o5,uD (LS .int w),uD (.int n),o8,uD (.nd .lst ys)]->En (S.runs gi pn (zd_.drop 9) [uD (.fz (AL A)),o1,o2,o3,o4,o5,uD (LS .int w),uD (.int n),o8,uD (.nd .lst xs)]) λo _=>o=.rt (.nd .lst (xs++oth A.md++mgo A++(w.take n).reverse.map (DG A.dk)++A.wk.map (PG A.dk)++[.fz (CL A)])):=λys hy e=>by
  rw[e,<- hy];have hm:=h.md;have ho:(oth A.md).length<=36:=by
   revert hm
   cases A.md with
   |no=>intro _;simp[oth]
   |fi=>intro _;simp[oth]
   |ma w n f g=>intro hm;unfold oth;rw[k8,l8];exact zaK_ hm.2.2.2.2.1
  have hg:(mgo A).length<=1:=by unfold mgo;split<;>simp
  exact znX_ hp h aq (by rw[hy];exact zv_ (zv_ hx (zjC_ _)) (zju_ A)) (by rw[hy,lb,lb];lia)
 cases aE:A.md with
 |no=>
  refine aE ▸ main xs (by unfold mgo;rw[aE];simp[oth]) ?_
  unfold zd_;simp only[mw,mM];rw[zbG_ (by exists zbj_,AL_2,aE,show isD uF (MD .no) .non=.ok (.bl uG)from rfl)]
  show S.runs gi pn (S.if_ _ _ _::_) _=_
  rw[zbG_ (by exists zbj_,AL_2,aE,show isD uF (MD .no) .non=.ok (.bl uG)from rfl)]
  rfl
 |fi f=>
  refine aE ▸ main (xs++[.nd .tup [.str WFi,.str A.dk,F2 f]]) (by unfold mgo;rw[aE];simp[oth]) ?_
  unfold zd_;simp only[mw,mM];have i0:ixA (MD (.fi f)) (.int 0)=.ok (.str WFi):=rfl;have e0:eqD uG (.str WFi) (.str [102,105,114,115,116])=.ok (.bl uF):=rfl;rw[zcx_ (by exists zbj_,AL_2,aE,show isD uF (MD (.fi f)) .non=.ok (.bl uF)from rfl,i0,e0)]
  show S.runs gi pn (S.ex _::_) _=_
  have s1:slA (MD (.fi f)) uE (uD 1)=.ok (.nd .tup [.str WFi]):=rfl;have s2:slA (MD (.fi f)) (uD 1) uE=.ok (.nd .tup [F2 f]):=rfl;have s3:addA (.nd .tup [.str WFi]) (.nd .tup [.str A.dk])=.ok (.nd .tup [.str WFi,.str A.dk]):=rfl;have s4:addA (.nd .tup [.str WFi,.str A.dk]) (.nd .tup [F2 f])=.ok (.nd .tup [.str WFi,.str A.dk,F2 f]):=rfl;have n1:(D.nd .tup [.str WFi,.str A.dk,F2 f]).new=uF:=rfl;have ea:appendF [.nd .lst xs,.nd .tup [.str WFi,.str A.dk,F2 f]]=_:=zgq_ (by lia)
  have k1:isK "list" (.nd .lst xs)=uF:=rfl;have nf:=zbZ_ f;rw[zjm_ (d:=.non) (e:=[uD (.fz (AL A)),o1,o2,o3,o4,o5,uD (LS .int w),uD (.int n),o8,uD (.nd .lst (xs++[.nd .tup [.str WFi,.str A.dk,F2 f]]))]) (by exists zbj_,AL_2,AL_0,aE,s1,s2,s3,s4,n1,ea,k1,nf)]
  rfl
 |ma u m f g=>
  have hm:=h.md;rw[aE]at hm;refine aE ▸ main (xs++(cl g).reverse.map (DG m)++[.nd .tup [.str [109,97,116,101],.str A.dk,.str m,F2 f,F2 g,.str u]]) (by unfold mgo;rw[aE];simp[oth]) ?_
  unfold zd_;simp only[mw,mM];have i0:ixA (MD (.ma u m f g)) (.int 0)=.ok (.str u):=rfl;have i1:ixA (MD (.ma u m f g)) (.int 1)=.ok (.str m):=rfl;have i2:ixA (MD (.ma u m f g)) (.int 2)=.ok (F2 f):=rfl;have i3:ixA (MD (.ma u m f g)) (.int 3)=.ok (F2 g):=rfl;have e0:eqD uG (.str u) (.str [102,105,114,115,116])=.ok (.bl uG):=by rcases hm.1 with rfl |rfl<;>rfl
  have isn:isD uF (MD (.ma u m f g)) .non=.ok (.bl uF):=rfl;have bp:=zaK_ hm.2.2.2.2.1;obtain⟨g1,g2,g3⟩:=hm.2.2.2.2.1;have bh:(cl g).reverse.length<=36:=by rw[l8];exact bp
  rw[zbG_ (by exists zbj_,AL_2,aE,isn,i0,e0;rfl)]
  show S.runs gi pn (S.if_ _ _ _::_) _=_
  rw[zcx_ (by exists zbj_,AL_2,aE,isn)]
  show S.runs gi pn (S.asg _ _::_) _=_
  have er:rng3D [.int g.2,.int (g.1-1),.int (-1)]=.ok ((cl g).reverse.map .int):=by
   rw[<- zoF_];unfold rng3D;dsimp only;rw[VI.vd_int,zdO_,VI.vd_int,zdO_,VI.vd_int,zdO_,Mo.grd_ok ⟨rfl,by lia,by lia,by lia,by lia⟩]
  have im:D.imms ((cl g).reverse.map (DG m))=uF:=zS_ (g:=DG m) _;have ad:addA (.nd .lst xs) (LS (DG m) (cl g).reverse)=_:=zh8_ hx im (by rw[k8];lia)
  have n1:(D.nd .lst (xs++(cl g).reverse.map (DG m))).new=uF:=by rw[zgH_];exact zfl_ (zv_ hx im)
  have ke:X.ev gi [uD (.fz (AL A)),o1,o2,o3,o4,o5,uD (LS .int w),uD (.int n),o8,uD (.nd .lst xs)] (.comp Qn1 [("_law_a",0)] .r3 [(.bin .ix (.bin .ix (.bin .ix (.v 0) (.k (.int 2))) (.k (.int 3))) (.k (.int 1))),(.bin .sub (.bin .ix (.bin .ix (.bin .ix (.v 0) (.k (.int 2))) (.k (.int 3))) (.k (.int 0))) (.k (.int 1))),(.neg (.k (.int 1)))] ⟨uG,[0]⟩ uE (.tup [(.k (.str [100,101,97,108])),(.bin .ix (.bin .ix (.v 1) (.k (.int 2))) (.k (.int 1))),(.v 0)]))=.ok (LS (DG m) (cl g).reverse):=by
   rw[xcompN (f:=λx:Int=>x) (o:=DG m) (T:=λx=>[.int x]) (cl g).reverse rfl (by exists zbj_,AL_2,aE,i3,F2_0,F2_1,er) (zE_ _ _) (λx hx=>by exists zbj_,AL_2,aE,i1;rfl) (by lia),mN]
  rw[zaq_ (d:=.nd .lst (xs++(cl g).reverse.map (DG m))) (by exists zfO_,ke,ad,n1) (hp _)]
  show S.runs gi pn (S.ex _::_) _=_
  have ea:appendF [.nd .lst (xs++(cl g).reverse.map (DG m)),.nd .tup [.str [109,97,116,101],.str A.dk,.str m,F2 f,F2 g,.str u]]=_:=zgq_ (by rw[lb,k8];lia)
  have k1:isK "list" (.nd .lst (xs++(cl g).reverse.map (DG m)))=uF:=rfl;have n2:(D.nd .tup [.str [109,97,116,101],.str A.dk,.str m,F2 f,F2 g,.str u]).new=uF:=rfl;have nf:=zbZ_ f;have ng:=zbZ_ g;rw[zjm_ (d:=.non) (e:=[uD (.fz (AL A)),o1,o2,o3,o4,o5,uD (LS .int w),uD (.int n),o8,uD (.nd .lst (xs++(cl g).reverse.map (DG m)++[.nd .tup [.str [109,97,116,101],.str A.dk,.str m,F2 f,F2 g,.str u]]))]) (by exists zbj_,AL_2,AL_0,aE,i0,i1,i2,i3,n2,ea,k1,nf,ng)]
  rfl
theorem mc_no (h:isN A.md=uF):mc A=[]:=by
 unfold mc
 revert h
 cases A.md with
 |no=>intro _;rfl
 |fi=>intro h;cases h
 |ma=>intro h;cases h
theorem zmM_ (h:OkA A)(hk:∀p∈A.pk,OkK sg p)(cy:(kk A).length<64){w:List Int}(hw:Wt A w){n:Nat}(hn:Late (mc A) w (isF A.md) n):zcP_.val [.fz (AL A)]=.ok (.nd .lst (pre A sg w n++[.fz (CL A)])):=by
 have aq:=zdZ_ h hw;have bh:=zeV_ h;have cX:=zlA_ h hw n;have bT:(KD sg (kk A)).vw=.fz (KD sg (kk A)):=rfl;have main:∀pn:Nat->Bool,(∀i,pn i=uG)->∀a b c:Option D,En (S.runs gi pn (zd_.drop 4) [uD (.fz (AL A)),uD (KD sg (kk A)),a,b,c,uD (LS .int (mc A)),uE,uE,uE,uE]) λo _=>o=.rt (.nd .lst (pre A sg w n++[.fz (CL A)])):=λpn hp a b c=>by
  have e0:slA (LS .int w) (uD (n:Int)) uE=.ok (LS .int (w.drop n)):=by rw[zo5_,za8_ (by lia),nI]
  have r1:S.runs gi pn (zd_.drop 4) [uD (.fz (AL A)),uD (KD sg (kk A)),a,b,c,uD (LS .int (mc A)),uE,uE,uE,uE]=S.runs gi pn (zd_.drop 6) [uD (.fz (AL A)),uD (KD sg (kk A)),a,b,c,uD (LS .int (mc A)),uD (LS .int w),uD (.int n),uE,uE]:=by
   unfold zd_;simp only[mw,mM];rw[zaq_ (d:=LS .int w) (by exists zbj_,bT,ziu_,zkX_ h hw) (hp _)]
   rw[zaq_ (d:=.int n) (by exists zbj_,zk4_ h hw hn) (hp _)]
   rfl
  have gS:X.ev gi [uD (.fz (AL A)),uD (KD sg (kk A)),a,b,c,uD (LS .int (mc A)),uD (LS .int w),uD (.int n),uE,uE] (.comp Qn1 [("_law_firm",5)] .any [(.sl (.v 6) (uD (.v 7)) uE)] ⟨uG,[0]⟩ (uD (.bin .nin (.v 0) (.v 1))) (.v 0))=.ok (LS .int ((w.drop n).filter λc=>!decide (c∈mc A))):=by
   rw[xcomp (p:=λc=>!decide (c∈mc A)) (f:=λx:Int=>x) (o:=.int) (T:=λx=>[.int x]) (w.drop n) rfl (by exists e0,za8_ (show(0:Int)<=(n:Int) by lia)) (zE_ _ _) (λx hx=>by exists trivial) (λx hx _=>rfl) (by rw[mz];lia),mN]
  have a1:addA (LS .int (mc A)) (LS .int ((w.drop n).filter λc=>!decide (c∈mc A)))=.ok (LS .int (ea A w n)):=zd7_ (by have:=cX;unfold ea at this;rw[lb]at this;lia)
  have es:srtI (kk A)=.ok (.nd .lst ((srtL ltI (kk A)).map .int)):=by unfold srtI;rw[Mo.grd_ok (by lia)]
  have iL:(srtL ltI (kk A)).length=(kk A).length:=(zbg_ ltI (kk A)).length_eq;have kb:listA [KD sg (kk A)]=.ok (LS .int (kk A)):=by
   unfold KD;rw[znH_ (by rw[k8];lia),mC]
   rw[show(kk A).map ((λx:Int×List Nat=>x.1)∘λc=>(c,[sg c]))=kk A from mN _]
  have kg:X.ev gi [uD (.fz (AL A)),uD (KD sg (kk A)),a,b,c,uD (LS .int (mc A)),uD (LS .int w),uD (.int n),uD (LS .int (ea A w n)),uE] (.comp Qn1 [("_law_a",0),("_law_held",1)] .any [(.bf .sorted [(.bf .list [(.v 1)])])] ⟨uG,[0]⟩ uE (.tup [(.k (.str [112,105,99,107])),(.bin .ix (.v 1) (.k (.int 0))),(.v 0),(.bin .ix (.v 2) (.v 0))]))=.ok (LS (KG sg A.dk) (srtL ltI (kk A))):=by
   rw[xcompN (f:=λx:Int=>x) (o:=KG sg A.dk) (T:=λx=>[.int x]) (items:=(srtL ltI (kk A)).map .int) (srtL ltI (kk A)) rfl (by exists bT,kb,znA_,es;rfl) (zE_ _ _) (λx hx=>?_) (by lia),mN]
   have dw:x∈kk A:=(zbg_ ltI (kk A)).mem_iff.mp hx;have e1:ixA (KD sg (kk A)) (.int x)=.ok (.str [sg x]):=by unfold KD;rw[zo2_,zfR_,if_pos dw];rfl
   exists zbj_,AL_0,bT,e1
   rfl
  have i1:D.imms ((srtL ltI (kk A)).map (KG sg A.dk))=uF:=zS_ (g:=KG sg A.dk) _;have i2:D.imms ((ea A w n).reverse.map (DG A.dk))=uF:=zS_ (g:=DG A.dk) _;have kf:∀o9,X.ev gi [uD (.fz (AL A)),uD (KD sg (kk A)),a,b,c,uD (LS .int (mc A)),uD (LS .int w),uD (.int n),uD (LS .int (ea A w n)),o9] (.comp Qn1 [("_law_a",0)] .any [(.rv (.v 8))] ⟨uG,[0]⟩ uE (.tup [(.k (.str [100,101,97,108])),(.bin .ix (.v 1) (.k (.int 0))),(.v 0)]))=.ok (LS (DG A.dk) (ea A w n).reverse):=λo9=>by
   rw[xcompN (f:=λx:Int=>x) (o:=DG A.dk) (T:=λx=>[.int x]) (ea A w n).reverse rfl (by exists zbj_) (zE_ _ _) (λx hx=>rfl) (by rw[l8];lia),mN]
  have a2:addA (LS (KG sg A.dk) (srtL ltI (kk A))) (LS (DG A.dk) (ea A w n).reverse)=_:=zh8_ i1 i2 (by rw[k8,k8,l8];lia)
  have n2:(D.nd .lst ((srtL ltI (kk A)).map (KG sg A.dk)++(ea A w n).reverse.map (DG A.dk))).new=uF:=by rw[zgH_];exact zfl_ (zv_ i1 i2)
  have r2:S.runs gi pn (zd_.drop 6) [uD (.fz (AL A)),uD (KD sg (kk A)),a,b,c,uD (LS .int (mc A)),uD (LS .int w),uD (.int n),uE,uE]=S.runs gi pn (zd_.drop 9) [uD (.fz (AL A)),uD (KD sg (kk A)),a,b,c,uD (LS .int (mc A)),uD (LS .int w),uD (.int n),uD (LS .int (ea A w n)),uD (.nd .lst ((srtL ltI (kk A)).map (KG sg A.dk)++(ea A w n).reverse.map (DG A.dk)))]:=by
   unfold zd_;simp only[mw,mM];rw[zaq_ (d:=LS .int (ea A w n)) (by exists gS,a1) (hp _)]
   rw[zaq_ (d:=LS (KG sg A.dk) (srtL ltI (kk A))) (by rw[zdc_];refine(congrArg (λm=>keep m _ _) kg).trans ?_;exact zr_ _ zZ_) (hp _)]
   rw[zaq_ (d:=.nd .lst ((srtL ltI (kk A)).map (KG sg A.dk)++(ea A w n).reverse.map (DG A.dk))) (by exists kf,a2,n2) (hp _)]
   rfl
  rw[r1,r2];have:=zqw_ hp h aq (n:=n) (zv_ i1 i2) (by rw[lb,k8,k8,l8];lia) (o1:=uD (KD sg (kk A))) (o2:=a) (o3:=b) (o4:=c) (o5:=uD (LS .int (mc A))) (o8:=uD (LS .int (ea A w n)))
  unfold pre;exact this
 refine zQ_ rfl rfl λpn hp=>?_
 have q:∀r:Mr VI.Env Fl,En r (λo _=>o=.rt (.nd .lst (pre A sg w n++[.fz (CL A)])))->En r λo _=>o=.rt (.nd .lst (pre A sg w n++[.fz (CL A)]))\/(o=.nx/\D.nd .lst (pre A sg w n++[.fz (CL A)])=.non):=λr ⟨o,e,h1,h2⟩=>⟨o,e,h1,.inl h2⟩
 refine q _ ?_;have r0:S.runs gi pn zd_ ([.fz (AL A)].map uD++lF 9 uE)=S.runs gi pn (zd_.drop 1) [uD (.fz (AL A)),uD (DI .str []),uE,uE,uE,uE,uE,uE,uE,uE]:=by
  unfold zd_;rw[zaq_ (d:=DI .str []) (by rw[zdc_,zir_];exact zr_ (d:=DI .str []) _ zd9_) (hp _)]
  rfl
 rw[r0];refine zkN_ hp h hk λa b c=>?_
 have m0:=main pn hp a b c;rw[zaq_ (d:=LS .int []) (by rw[zdc_];exact zr_ (d:=LS .int []) _ zZ_) (hp _)]
 cases hN:isN A.md with
 |true=>
  rw[mc_no hN]at m0;rw[zbG_ (by exists zbj_,AL_2,zeC_,hN)]
  exact m0
 |false=>
  obtain⟨f,k,L,hm,hL,hf⟩:=zl4_ h.md hN;have hF:OkFd f:=zjX_ h.md f (by rw[hm];simp)
  rw[zcx_ (by exists zbj_,AL_2,zeC_,hN)]
  show En (S.runs gi pn (S.asg _ _::_) _) _
  have kj:zas_.val [.fz (LS F2 [f])]=.ok (LS .int (ddp ([f].flatMap cl))):=zov_ (λx hx=>by rw[lO.mp hx];exact hF) (by simp)
  have eM:(ddp ([f].flatMap cl)).length<=36:=by have:=zde_ ([f].flatMap cl);have h2:=zaK_ hF;rw[show[f].flatMap cl=cl f by simp]at this ⊢;lia
  have ka:mc A=(ddp ([f].flatMap cl)).filter λx=>!decide (x∈kk A):=by
   unfold mc;rw[hm,show(f::k).take 1=[f]from rfl];exact zgN_ _ _
  have l1:D.nd .lst [F2 f]=LS F2 [f]:=rfl;have ec:X.ev gi [uD (.fz (AL A)),uD (KD sg (kk A)),a,b,c,uD (LS .int []),uE,uE,uE,uE] (.comp Qn1 [("_law_held",1)] .any [(.call zas_ "_law_all" [(.lst [(.bin .ix (.bin .ix (.v 0) (.k (.int 2))) (.bin .div (.bf .len [(.bin .ix (.v 0) (.k (.int 2)))]) (.k (.int 2))))])])] ⟨uG,[0]⟩ (uD (.bin .nin (.v 0) (.v 1))) (.v 0))=.ok (LS .int (mc A)):=by
   rw[xcomp (p:=λc=>!decide (c∈kk A)) (f:=λx:Int=>x) (o:=.int) (T:=λx=>[.int x]) (ddp ([f].flatMap cl)) rfl (by exists zbj_,AL_2,hL,hf,l1,kj) (zE_ _ _) (λx hx=>by exists bT,zjd_) (λx hx _=>rfl) (by lia),mN,<- ka]
  rw[zaq_ (d:=LS .int (mc A)) (by rw[zdc_];refine(congrArg (λm=>keep m _ _) ec).trans ?_;exact zr_ _ zZ_) (hp _)]
  exact m0
end
theorem bm_pt {env:VI.Env}{o:Bm}{p:Pt}{x:X}{q:Pl}{c d r c' d':D}(hq:p.ev gi env=.ok q)(hc:atE env q=uD c)(hk:isK o.ty c=uF)(hx:x.ev gi env=.ok d)(hd:d.new=uF)(hf:o.f [c,d]=.ok r [c',d']):Y.ev gi (.bm o p [.x x]) env=.ok r (putE env q c'):=by
 have e1:evG gi env [.x x]=.ok [.d d] env:=by
  show((stX gi env x).bind λd e=>(evG gi e []).bind λgs e'=>.ok (.d d::gs) e')=_
  rw[zh4_,hx,zr_ _ hd];rfl
 rw[Y.ev];unfold lentG;simp only[hq,hc,hk,if_true,e1,zh5_];unfold callG;have e2:resolve env [.l q,.d d]=uD [c,d]:=by
  show(atE env q).bind (λc=>uD [c,d])=_
  rw[hc];rfl
 simp only[e2,show apartAll [.l q,.d d]=uF from rfl,if_true,hf]
 rfl
theorem zev_ {e0 e1 e2 e3 e5 e6:Option D}{xs t:List D}{j:Nat}{c c':D}(hj:t[j]?=uD c):putE [e0,e1,e2,e3,uD (.nd .lst (xs++[.nd .tup t])),e5,e6] (4,[xs.length,j]) c'=[e0,e1,e2,e3,uD (.nd .lst (xs++[.nd .tup (t.set j c')])),e5,e6]:=by
 have g0:(xs++[D.nd .tup t])[xs.length]?=uD (.nd .tup t):=by simp
 show[e0,e1,e2,e3,uD ((D.nd .lst (xs++[.nd .tup t])).put [xs.length,j] c'),e5,e6]=_
 have p2:(D.nd .tup t).put [j] c'=.nd .tup (t.set j c'):=by
  rw[D.put,hj];show D.nd .tup (t.set j (c.put [] c'))=_;rw[D.put]
 rw[D.put,g0];show[e0,e1,e2,e3,uD (D.nd .lst ((xs++[D.nd .tup t]).set xs.length ((D.nd .tup t).put [j] c'))),e5,e6]=_
 rw[p2,qN _ _ (lp _),p9,m8]
theorem zex_ {e0 e1 e2 e3 e5 e6:Option D}{xs t l:List D}{x:X}{d:D}{j:Nat}{ki:Int}(jG:ki=(j:Int))(hj:t[j]?=uD (.nd .lst l))(hx:∀env,x.ev gi env=.ok d)(hd:d.new=uF)(hl:l.length<100000):Y.ev gi (.bm .append (.s (.s (.v 4) (.neg (.k (.int 1)))) (.k (.int ki))) [.x x]) [e0,e1,e2,e3,uD (.nd .lst (xs++[.nd .tup t])),e5,e6]=.ok .non [e0,e1,e2,e3,uD (.nd .lst (xs++[.nd .tup (t.set j (.nd .lst (l++[d])))])),e5,e6]:=by
 subst jG;have gC:=(lD.mp hj).1;have g0:(xs++[D.nd .tup t])[xs.length]?=uD (.nd .tup t):=by simp
 have x1:ixN (xs++[D.nd .tup t]).length (-1)=uD xs.length:=by
  unfold ixN;rw[if_neg (by lia),if_pos (by simp;lia),lb,oW]
  congr 1;lia
 have x2:ixN t.length (j:Int)=uD j:=by unfold ixN;rw[if_pos (by lia),if_pos (by lia),nI]
 have p1:Pt.ev gi [e0,e1,e2,e3,uD (.nd .lst (xs++[.nd .tup t])),e5,e6] (.s (.v 4) (.neg (.k (.int 1))))=.ok (4,[xs.length]):=by
  rw[Pt.ev,Pt.ev];show(Mq (4,[])).bind _=_
  rw[zdO_,zmF_,zfU_,zdO_];show(Mq (D.int (-1))).bind _=_
  rw[zdO_];show Mo.opt ((stepS (.nd .lst (xs++[.nd .tup t])) (.int (-1))).map _)=_
  have:stepS (.nd .lst (xs++[.nd .tup t])) (.int (-1))=uD xs.length:=by
   show(ixN (xs++[D.nd .tup t]).length (-1)).bind _=_
   rw[x1];show(if _ then _ else _)=_;rw[if_pos (by simp)]
  rw[this];rfl
 have a1:atE [e0,e1,e2,e3,uD (.nd .lst (xs++[.nd .tup t])),e5,e6] (4,[xs.length])=uD (.nd .tup t):=by
  show(D.nd .lst (xs++[.nd .tup t])).at [xs.length]=_
  rw[D.at,g0];show(D.nd .tup t).at []=_;rw[D.at]
 refine(bm_pt (o:=.append) (r:=.non) (d':=.gone) (q:=(4,[xs.length,j])) (c:=.nd .lst l) (c':=.nd .lst (l++[d])) ?_ ?_ rfl (hx _) hd (zgq_ hl)).trans (congrArg (Mr.ok D.non) (zev_ hj))
 ·rw[Pt.ev,p1,zdO_,zfU_,zdO_,a1]
  have:stepS (.nd .tup t) (.int (j:Int))=uD j:=by
   show(ixN t.length (j:Int)).bind _=_
   rw[x2];show(if _ then _ else _)=_;rw[if_pos gC]
  show Mo.opt ((stepS (.nd .tup t) (.int (j:Int))).map _)=_
  rw[this];rfl
 ·show(D.nd .lst (xs++[.nd .tup t])).at [xs.length,j]=_
  rw[D.at,g0];show(D.nd .tup t).at [j]=_;rw[D.at,hj];show(D.nd .lst l).at []=_;rw[D.at]
section
variable {A:Ak}{sg:Int->Nat}
theorem zne_ {xs:List D}{a b:D}{n:Nat}(h:∀d∈xs,eqT n d d=uD uF)(fL:eqT n a b=uD uF):eqT (n+1) (.nd .lst (xs++[a])) (.nd .lst (xs++[b]))=uD uF:=by
 show(if(xs++[a]).length=(xs++[b]).length then allT (eqT n) (xs++[a]) (xs++[b])else uD uG)=_
 rw[if_pos (by simp)]
 induction xs with
 |nil=>show(eqT n a b).bind _=_;rw[fL];simp[allT]
 |cons x xs ih=>
  rw[l6,l6,allT,h x lR,ih λd hd=>h d (lQ _ hd)];rfl
theorem zbw_ (n:Nat)(l:Jx):eqT n (.str l) (.str l)=uD uF:=by rw[zmQ_];simp
theorem zkK_ (n:Nat)(i:Int):eqT n (.int i) (.int i)=uD uF:=by rw[zgh_];simp
theorem rf_WK (n:Nat)(w:Wk):eqT (n+2) (WK w) (WK w)=uD uF:=zeK_ λd hd=>by
 simp only[lC,mR,or_false]at hd;rcases hd with rfl |rfl |rfl |rfl
 ·exact zjq_ n _
 ·exact zjq_ n _
 ·exact zbw_ _ _
 ·exact zjq_ n _
theorem zmO_ (w:List Int)(n:Nat):∀d∈pre A sg w n,eqT 11 d d=uD uF/\∃t,d=.nd .tup t:=λd hd=>by
 have hD:∀(m:Jx) (c:Int),eqT 11 (DG m c) (DG m c)=uD uF/\∃t,DG m c=.nd .tup t:=λm c=>⟨zeK_ λd hd=>by
  simp only[lC,mR,or_false]at hd;rcases hd with rfl |rfl |rfl
  ·exact zbw_ _ _
  ·exact zbw_ _ _
  ·exact zkK_ _ _,_,rfl⟩
 unfold pre at hd;rcases lZ.mp hd with hd |hd
 ·rcases lZ.mp hd with hd |hd
  ·rcases lZ.mp hd with hd |hd
   ·rcases lZ.mp hd with hd |hd
    ·rcases lZ.mp hd with hd |hd
     ·obtain⟨c,_,rfl⟩:=mF.mp hd
      refine⟨zeK_ λd hd=>?_,_,rfl⟩
      simp only[lC,mR,or_false]at hd;rcases hd with rfl |rfl |rfl |rfl
      ·exact zbw_ _ _
      ·exact zbw_ _ _
      ·exact zkK_ _ _
      ·exact zbw_ _ _
     ·obtain⟨c,_,rfl⟩:=mF.mp hd;exact hD _ _
    ·revert hd
     cases A.md with
     |no=>intro hd;cases hd
     |fi=>intro hd;cases hd
     |ma u m f g=>intro hd;obtain⟨c,_,rfl⟩:=mF.mp hd;exact hD _ _
   ·unfold mgo at hd
    split at hd
    ·cases hd
    ·rw[lO.mp hd]
     refine⟨zeK_ λd hd=>?_,_,rfl⟩
     simp only[lC,mR,or_false]at hd;rcases hd with rfl |rfl |rfl
     ·exact zbw_ _ _
     ·exact zbw_ _ _
     ·exact zjq_ 9 _
    ·rw[lO.mp hd]
     refine⟨zeK_ λd hd=>?_,_,rfl⟩
     simp only[lC,mR,or_false]at hd;rcases hd with rfl |rfl |rfl |rfl |rfl |rfl
     ·exact zbw_ _ _
     ·exact zbw_ _ _
     ·exact zbw_ _ _
     ·exact zjq_ 9 _
     ·exact zjq_ 9 _
     ·exact zbw_ _ _
  ·obtain⟨c,_,rfl⟩:=mF.mp hd;exact hD _ _
 ·obtain⟨c,_,rfl⟩:=mF.mp hd
  refine⟨zeK_ λd hd=>?_,_,rfl⟩
  simp only[lC,mR,or_false]at hd;rcases hd with rfl |rfl |rfl
  ·exact zbw_ _ _
  ·exact zbw_ _ _
  ·exact rf_WK 8 _
theorem ls_rf (n:Nat)(l:List Fd):eqT (n+2) (LS F2 l) (LS F2 l)=uD uF:=zmS_ λd hd=>by obtain⟨w,_,rfl⟩:=mF.mp hd;exact zjq_ n w
theorem zjo_ (w:List Int)(n:Nat):eqT 12 (.nd .lst (plan A sg w n)) (.nd .lst (pre A sg w n++[.fz (CL A)]))=uD uF:=by
 rw[zdn_];refine zne_ (λd hd=>(zmO_ w n d hd).1) ?_
 rw[zhB_];unfold CN CL;show(allT (eqT 10) [_,_,_,_,_,_] [_,_,_,_,_,_]).map _=_
 simp only[allT,zbw_,zkK_,ls_rf,zhB_,Option.bind_some,qJ,pW];rfl
theorem zqn_ (w:List Int)(n:Nat)(t:D)(ht:t.new=uF):(D.nd .lst (pre A sg w n++[t])).new=uF:=by
 rw[zgH_];have i:D.imms (pre A sg w n)=uF:=by
  unfold pre;exact zv_ (zv_ (zv_ (zv_ (zv_ (zS_ (g:=KG sg A.dk) _) (zS_ (g:=DG A.dk) _)) (zjC_ _)) (zju_ A)) (zS_ (g:=DG A.dk) _)) (zS_ (g:=PG A.dk) _)
 have:∀l:List D,D.imms l=uF->D.news (l++[t])=uF:=λl=>by
  induction l with
  |nil=>intro _;show D.news [t]=uF;rw[nw_c,ht,nw_0];rfl
  |cons y l ih=>intro hy;rw[D.imms,k9]at hy;rw[l6,nw_c,ih hy.2,zfr_ y hy.1];rfl
 exact this _ i
theorem un_vw (d:D):d.vw.un=d.un:=by unfold D.vw;split;rfl;split<;>rfl
theorem zo3_:(AL A).new=uG:=by
 unfold AL;have:∀l:List Pk,(D.fz (LS PK l)).new=uG:=λl=>zeI_
 simp only[zgH_,nw_c,this,nU,pd]
theorem AO_nw:(AO A).new=uF:=by
 show D.news (aFs A)=uF
 unfold aFs;simp only[nw_c,nw_0,zgu_,zd4_,zZ_,zoM_,pW]
theorem zm4_ (h:OkA A){w:List Int}(hw:Wt A w)(n:Nat)(cy:(kk A).length<64):(pre A sg w n).length<=5000:=by
 have h1:=h.wl;have aq:=zdZ_ h hw;have cX:=zlA_ h hw n;have iL:(srtL ltI (kk A)).length=(kk A).length:=(zbg_ ltI (kk A)).length_eq;have hm:=h.md;have ho:(oth A.md).length<=36:=by
  revert hm
  cases A.md with
  |no=>intro _;simp[oth]
  |fi=>intro _;simp[oth]
  |ma w n f g=>intro hm;unfold oth;rw[k8,l8];exact zaK_ hm.2.2.2.2.1
 have hg:(mgo A).length<=1:=by unfold mgo;split<;>simp
 unfold pre;simp only[lb,k8,l8,l5];lia
theorem zm7_ (h:OkA A)(hk:∀p∈A.pk,OkK sg p)(cy:(kk A).length<64){w:List Int}(hw:Wt A w){n:Nat}(hn:Late (mc A) w (isF A.md) n){ns:List Int}(ha:zah_.val [scr ns]=.ok (AL A)):zpf_.val [scr ns]=.ok (.bl uF):=by
 have aq:=zdZ_ h hw;have dE:=h.ol;have dB:=h.sl;have fK:=h.bl;have ep:=zoL_ h hk cy hw hn;have ed:=zmM_ h hk cy hw hn;have iN:=zfP_ (neg:=uF) (zjo_ (A:=A) (sg:=sg) w n);have e_:=zfP_ (neg:=uG) (zjo_ (A:=A) (sg:=sg) w n);have fR:(D.nd .lst (plan A sg w n)).new=uF:=by rw[zdn_];exact zqn_ w n _ zqd_
 have iP:(D.nd .lst (pre A sg w n++[.fz (CL A)])).new=uG:=by
  rw[zgH_];have:∀l:List D,D.news (l++[.fz (CL A)])=uG:=λl=>by
   induction l with
   |nil=>rfl
   |cons y l ih=>rw[l6,nw_c,ih,pd]
  exact this _
 refine zQ_ rfl rfl λpn hp=>?_
 have iR:(AL A).vw=.fz (AL A):=rfl;have r1:S.runs gi pn ziN_ ([scr ns].map uD++lF 6 uE)=S.runs gi pn (ziN_.drop 5) [uD (scr ns),uD (.fz (AL A)),uD (AO A),uD (.nd .lst (pre A sg w n++[.fz (CL A)])),uD (.nd .lst (plan A sg w n)),uE,uE]:=by
  unfold ziN_;rw[zaq_ (d:=AL A) (by exists ha,zcd_ _ (zo3_ (A:=A)),frzE,znh_) (hp _)]
  rw[zaq_ (d:=AO A) (by exists iR,zbj_,zoD_ h,AO_nw) (hp _)]
  rw[zlh_ (d:=.nd .lst (pre A sg w n++[.fz (CL A)])) (e:=[uD (scr ns),uD (.fz (AL A)),uD (AO A),uE,uE,uE,uE]) (by exists iR,zbj_,ed,zcd_ _ iP,frzE,znh_,zpR_) (hp _) (show 3<7 by decide)]
  rw[zaq_ (d:=.nd .lst (plan A sg w n)) (by exists zrC_,zo_,ep,zr_ _ fR) (hp _)]
  have i1:isaD "list" (.nd .lst (plan A sg w n))=.ok (.bl uF):=rfl;rw[zbG_ (by exists zfO_,i1,iN;rfl)]
  rfl
 have r2:S.runs gi pn (ziN_.drop 5) [uD (scr ns),uD (.fz (AL A)),uD (AO A),uD (.nd .lst (pre A sg w n++[.fz (CL A)])),uD (.nd .lst (plan A sg w n)),uE,uE]=S.runs gi pn (ziN_.drop 6) [uD (scr ns),uD (.fz (AL A)),uD (AO A),uD (.nd .lst (pre A sg w n++[.fz (CL A)])),uD (.nd .lst (plan A sg w n)),uE,uE]:=by
  have hv:En (S.runs gi (pnV [5]) [.for_ .any [(.v 4)] ⟨uG,[5]⟩ [.if_ (.not (.isa (.v 5) "tuple")) [.ret (.pu (.k (.bl uG)))] []]] [uD (scr ns),uD (.fz (AL A)),uD (.fz (AO A)),uD (.fz (.nd .lst (pre A sg w n++[.fz (CL A)]))),uD (.fz (.nd .lst (plan A sg w n))),uE,uE]) λo e=>o=.nx/\∃o5,e=[uD (scr ns),uD (.fz (AL A)),uD (.fz (AO A)),uD (.fz (.nd .lst (pre A sg w n++[.fz (CL A)]))),uD (.fz (.nd .lst (plan A sg w n))),o5,uE]:=by
   have fv:(D.fz (D.nd .lst (plan A sg w n))).vw=.fz (.nd .lst (plan A sg w n)):=rfl;have fn:(D.fz (D.nd .lst (plan A sg w n))).new=uG:=by rw[D.new];rfl
   refine zbi_ (l:=plan A sg w n) (enc:=λd=>[d]) (d:=.fz (.nd .lst (plan A sg w n))) (items:=plan A sg w n) (λ_ e=>∃o5,e=[uD (scr ns),uD (.fz (AL A)),uD (.fz (AO A)),uD (.fz (.nd .lst (pre A sg w n++[.fz (CL A)]))),uD (.fz (.nd .lst (plan A sg w n))),o5,uE]) (by exists fv,zcd_ _ fn,frzE,znh_,zpR_) rfl (tgs_1 _ _) ⟨uE,rfl⟩ (λd x r e hl he=>?_) (λe he=>?_)
   ·obtain⟨o5,rfl⟩:=he
    refine⟨[uD (scr ns),uD (.fz (AL A)),uD (.fz (AO A)),uD (.fz (.nd .lst (pre A sg w n++[.fz (CL A)]))),uD (.fz (.nd .lst (plan A sg w n))),uD x.vw,uE],rfl,?_⟩;have hx:x∈plan A sg w n:=by rw[hl];simp
    have ht:∃t,x=.nd .tup t:=by
     rw[zdn_]at hx;rcases lZ.mp hx with hx |hx
     ·exact(zmO_ w n x hx).2
     ·exact⟨_,lO.mp hx⟩
    obtain⟨t,rfl⟩:=ht;have hi:isaD "tuple" (D.nd .tup t).vw.vw=.ok (.bl uF):=by
     unfold isaD;rw[un_vw,un_vw];rfl
    rw[zbG_ (by exists hi)]
    exact⟨_,_,rfl,.inl ⟨.inl rfl,_,rfl⟩⟩
   ·obtain⟨o5,rfl⟩:=he
    rw[S.runs];exact⟨_,_,rfl,rfl,o5,rfl⟩
  obtain⟨o,e,hr,rfl,o5,rfl⟩:=hv;unfold ziN_;simp only[mw,mM];rw[S.runs,S.run];have dC:S.run gi (pnV [5]) (.for_ .any [(.v 4)] ⟨uG,[5]⟩ [.if_ (.not (.isa (.v 5) "tuple")) [.ret (.pu (.k (.bl uG)))] []]) (vwE [uD (scr ns),uD (.fz (AL A)),uD (AO A),uD (.nd .lst (pre A sg w n++[.fz (CL A)])),uD (.nd .lst (plan A sg w n)),uE,uE])=.ok .nx [uD (scr ns),uD (.fz (AL A)),uD (.fz (AO A)),uD (.fz (.nd .lst (pre A sg w n++[.fz (CL A)]))),uD (.fz (.nd .lst (plan A sg w n))),o5,uE]:=by
   rw[S.runs]at hr;have e0:vwE [uD (scr ns),uD (.fz (AL A)),uD (AO A),uD (.nd .lst (pre A sg w n++[.fz (CL A)])),uD (.nd .lst (plan A sg w n)),uE,uE]=[uD (scr ns),uD (.fz (AL A)),uD (.fz (AO A)),uD (.fz (.nd .lst (pre A sg w n++[.fz (CL A)]))),uD (.fz (.nd .lst (plan A sg w n))),uE,uE]:=by
    unfold vwE;simp only[lq,nF,qJ,Option.map_none,zlH_,zbj_,zrC_,zfO_]
   rw[e0]
   revert hr
   generalize S.run gi (pnV [5]) (.for_ .any [(.v 4)] ⟨uG,[5]⟩ [.if_ (.not (.isa (.v 5) "tuple")) [.ret (.pu (.k (.bl uG)))] []]) _=z
   intro hr;cases z with
   |no=>cases hr
   |ex c e=>cases hr
   |ok o e=>
    cases o with
    |nx=>rw[zcn_,S.runs]at hr;exact hr
    |rt d=>cases hr
    |ct=>cases hr
    |bk=>cases hr
  rw[dC];rfl
 rw[r1,r2,zdn_]
 generalize hP:pre A sg w n=P at ep ed iN e_ fR iP ⊢
 have hd:(D.nd .tup [D.int 1,.int 1]).new=uF:=rfl;have f_:∀env,X.ev gi env (.tup [(.k (.int 1)),(.k (.int 1))])=.ok (.nd .tup [.int 1,.int 1]):=λenv=>by exists hp
 unfold ziN_;simp only[mw,mM];unfold CN;rw[zjm_ (zex_ (ki:=2) (j:=2) rfl (l:=(A.od.take A.br.toNat).map F2) rfl f_ hd (by rw[k8,l5];lia))]
 rw[zjm_ (zex_ (ki:=3) (j:=3) rfl (l:=A.su.map F2) rfl f_ hd (by rw[k8];lia))]
 rw[zjm_ (zex_ (ki:=5) (j:=5) rfl (l:=A.bd.map F2) rfl f_ hd (by rw[k8];lia))]
 have jT:∀ys:List D,ys.length<100000->appendF [.nd .lst ys,.nd .tup [.str [100,101,97,108],.str [97],.int 1]]=.ok .non [.nd .lst (ys++[.nd .tup [.str [100,101,97,108],.str [97],.int 1]]),.gone]:=λys hy=>zgq_ hy
 have fin:∀(ys:List D),ys.length<100000->En (S.runs gi pn [.ex (.bm .append (.v 4) [(.x (.tup [(.k (.str [100,101,97,108])),(.k (.str [97])),(.k (.int 1))]))]),.setI (.v 4) (.k (.int 0)) (.k .non),.asg 6 (.pu (.call zbf_ "plan_of" [(.v 2)])),.ret (.pu (.and (.isa (.v 6) "list") (.bin .eq (.v 6) (.v 3))))] [uD (scr ns),uD (.fz (AL A)),uD (AO A),uD (.nd .lst (P++[.fz (CL A)])),uD (.nd .lst ys),uE,uE]) λo _=>o=.rt (.bl uF)\/(o=.nx/\D.bl uF=.non):=λys hy=>by
  have k1:isK "list" (.nd .lst ys)=uF:=rfl;have n1:(D.nd .tup [D.str [100,101,97,108],.str [97],.int 1]).new=uF:=rfl;rw[zjm_ (d:=.non) (e:=[uD (scr ns),uD (.fz (AL A)),uD (AO A),uD (.nd .lst (P++[.fz (CL A)])),uD (.nd .lst (ys++[.nd .tup [.str [100,101,97,108],.str [97],.int 1]])),uE,uE]) (by exists k1,jT ys hy,n1)]
  generalize hz:ys++[D.nd .tup [D.str [100,101,97,108],.str [97],.int 1]]=zs
  have kF:0<zs.length:=by rw[<- hz];simp
  have gj:setIF [.non,.nd .lst zs,.int 0]=.ok .non [.gone,.nd .lst (zs.set 0 .non),.int 0]:=by
   unfold setIF;have:ixN zs.length 0=uD 0:=by unfold ixN;rw[if_pos (by lia),if_pos (by lia)];rfl
   simp only[this]
  rw[S.runs,S.run,zls_ (d:=.non) (a:=.int 0) zmT_ zm6_ (zfU_ _) (zd4_ _) rfl gj,zcn_];have i1:isaD "list" (.nd .lst (plan A sg w n))=.ok (.bl uF):=rfl;rw[zaq_ (d:=.nd .lst (plan A sg w n)) (by exists zrC_,zo_,ep,zr_ _ fR) (hp _)]
  exists zfO_,i1,e_
  fail "q"
 refine fin _ ?_;have:P.length<=5000:=by rw[<- hP];exact zm4_ h hw n cy
 rw[lb];simp;lia
end
theorem zfQ_ {lo hi:Int}{f:Fd}(h1:1<=lo)(h2:hi<=36)(h:InB lo hi f):OkFd f:=⟨by have:=h.1;lia,h.2.1,by have:=h.2.2;lia⟩
theorem mk_ok {lo hi:Int}{pl:Nat->Fd}{N:Nat}{A:Ak}{nm:List Nat}{sg:Int->Nat}(h1:1<=lo)(h2:hi<=36)(hn:OkN A.dk)(jC:OkN nm)(aP:nm≠A.dk)(hp:PkR lo hi sg A.pk)(av:A.pk.length<=4)(hm:MdR lo hi nm A.md)(ho:∀f∈A.od,InB lo hi f)(dE:A.od.length<=6)(hw:WkR pl lo hi A.wk)(aq:A.wk.length<=N)(hN:N<=4)(iz:∀i,i<N->OkFd (pl i))(d7:∀i,i<N->∀f,InB lo hi f->apt (pl i) f=uF)(iy:∀i j,i<N->j<N->i≠j->apt (pl i) (pl j)=uF)(hb:0<=A.br/\A.br<=3/\A.br<=A.od.length)(hs:∀f∈A.su,InB lo hi f)(dB:A.su.length<=4)(hf:1<=A.fg/\A.fg<=12)(fK:A.bd.length<=9)(cp:(∀w∈A.bd,1<=w.1/\w.1<=40/\1<=w.2/\w.2<=36)/\A.bd.Pairwise λa b=>a.2<b.2):OkA A/\(∀p∈A.pk,OkK sg p)/\(kk A).length<64:=by
 have jF:(kk A).length<64:=by
  have a1:=zde_ (A.pk.flatMap λp=>cl p.1)
  have a2:(A.pk.flatMap λp=>cl p.1).length<=3*A.pk.length:=flenM A.pk λp hq=>(hp.2 p hq).2.2.2
  unfold kk;lia
 have fE:∀p∈A.pk,OkK sg p:=λp hq=>(hp.2 p hq).1
 have cB:∀(i:Nat) w,A.wk[i]?=uD w->i<N:=λi w e=>by have:=(lD.mp e).1;lia
 have aE:OkM A.dk A.md:=by
  revert hm
  cases A.md with
  |no=>exact λ_=>trivial
  |fi f=>exact λhm=>zfQ_ h1 h2 hm
  |ma w n f g=>exact λhm=>⟨hm.1,by rw[hm.2.1];exact jC,by rw[hm.2.1];exact aP,zfQ_ h1 h2 hm.2.2.1,hm.2.2.2.1,hm.2.2.2.2⟩
 have jE:∀f∈(midF A.md).take 1,InB lo hi f:=by
  revert hm
  cases A.md with
  |no=>intro _ f hf;cases hf
  |fi g=>intro hm f hf;rw[lO.mp hf];exact hm
  |ma w n g k=>intro hm f hf;rw[lO.mp hf];exact hm.2.2.1
 refine⟨⟨hn,by lia,⟨sg,hp.1,fE⟩,aE,dE,λf hf=>zfQ_ h1 h2 (ho f hf),by lia,λw hq=>?_,hb,dB,λf hf=>zfQ_ h1 h2 (hs f hf),hf,fK,cp,λq hq f hf=>?_⟩,fE,jF⟩
 ·obtain⟨i,hi,e⟩:=p7 hq
  have e':A.wk[i]?=uD w:=by rw[lj hi,e]
  obtain⟨a,b,c,d⟩:=hw i w e';refine⟨by rw[a];exact iz i (cB i w e'),zfQ_ h1 h2 b,?_,d⟩
  rcases c with c |⟨j,hj,c⟩
  ·exact zfQ_ h1 h2 c
  ·rw[c];exact iz j (by have:=cB i w e';lia)
 ·obtain⟨i,hi,e1,e2⟩:=zdx_ hq
  have cW:=cB i _ e2;obtain⟨a,_⟩:=hw i _ e2;rw[a];unfold kp at hf;rcases lZ.mp hf with hf |hf
  ·rcases lZ.mp hf with hf |hf
   ·rcases lZ.mp hf with hf |hf
    ·obtain⟨p,hq,rfl⟩:=mF.mp hf
     obtain⟨⟨z1,_⟩,z2,z3,_⟩:=hp.2 p hq;exact d7 i cW _ ⟨z2,z1.2.1,z3⟩
    ·exact d7 i cW _ (jE f hf)
   ·exact d7 i cW _ (ho f hf)
  ·obtain⟨u,hu,hf⟩:=rR.mp hf
   obtain⟨j,hj,e3,e4⟩:=zdx_ hu;have jJ:=cB j _ e4;obtain⟨b1,b2,b3,_⟩:=hw j _ e4;unfold gk at hf;rcases lZ.mp hf with hf |hf
   ·split at hf
    ·cases hf
    ·rename_i aP
     rw[lO.mp hf,b1];exact iy i j cW jJ λz=>aP (by rw[e3,e1,z])
   ·split at hf
    ·rename_i hle
     rw[e3,e1]at hle;have hle:j<=i:=by lia
     simp only[lC,mR,or_false]at hf;rcases hf with rfl |rfl
     ·exact d7 i cW _ b2
     ·rcases b3 with b3 |⟨j',hj',b3⟩
      ·exact d7 i cW _ b3
      ·rw[b3];exact iy i j' cW (by lia) (by lia)
    ·cases hf
def fl (c b:Int):Fd:=(zbA_ c b).choose
theorem fl_eq (c b:Int):z4_.val [.int c,.int b]=.ok (F2 (fl c b)):=(zbA_ c b).choose_spec.1
theorem fl_in (c b:Int):InB b (b+4) (fl c b):=let h:=(zbA_ c b).choose_spec;⟨h.2.1,h.2.2.1,h.2.2.2.1⟩
def fr (c:Int):Fd:=(zh0_ c).choose
theorem zqH_ (c:Int):z5_.val [.int c]=.ok (F2 (fr c)):=(zh0_ c).choose_spec.1
theorem zrw_ (c:Int):InB 1 24 (fr c):=let h:=(zh0_ c).choose_spec;⟨h.2.1,h.2.2.1,h.2.2.2⟩
theorem bd_ok {N:Nat}{g:Nat->Int}{a s:Int}(hN:N<=9)(hg:∀i,0<=g i/\g i<40)(ha:1<=a)(hs:0<s)(hx:a+s*8<=36\/(a+s*4<=36/\N<=5)):(∀w∈(lH N).map λi:Nat=>((1+g i,a+s*(0+(i:Int))):Fd),1<=w.1/\w.1<=40/\1<=w.2/\w.2<=36)/\((lH N).map λi:Nat=>((1+g i,a+s*(0+(i:Int))):Fd)).Pairwise λa b=>a.2<b.2:=by
 have mono:∀i j:Nat,i<j->s*(0+(i:Int))<s*(0+(j:Int)):=λi j h=>Int.mul_lt_mul_of_pos_left (by lia) hs
 have bJ:∀i j:Nat,i<=j->s*(0+(i:Int))<=s*(0+(j:Int)):=λi j h=>Int.mul_le_mul_of_nonneg_left (by lia) (by lia)
 refine⟨λw hw=>?_,?_⟩
 ·obtain⟨i,hi,rfl⟩:=mF.mp hw
  have hi:=mf.mp hi;have:=hg i;have m1:=bJ 0 i (by lia)
  have z:s*(0+((0:Nat):Int))=0:=by simp
  refine⟨by show 1<=1+g i;lia,by show 1+g i<=40;lia,by show 1<=a+s*_;lia,?_⟩
  show a+s*(0+(i:Int))<=36
  rcases hx with hx |⟨hx,hN5⟩
  ·have:=bJ i 8 (by lia)
   have e:s*(0+((8:Nat):Int))=s*8:=by simp
   lia
  ·have:=bJ i 4 (by lia)
   have e:s*(0+((4:Nat):Int))=s*4:=by simp
   lia
 ·rw[rD]
  refine List.pairwise_lt_range.imp λ{i j} h=>?_
  show a+s*_<a+s*_
  have:=mono i j h;lia
theorem zja_ (ns:List Int){b:Int}(hb:1<=b/\b<=32){x y z:Nat}(hx:x∈SG)(hy:y∈SG)(hz:z∈SG){n1 n2:List Nat}(h1:OkN n1)(h2:OkN n2)(aP:n2≠n1):∃A sg,(OkA A/\(∀p∈A.pk,OkK sg p)/\(kk A).length<64)/\∀pn:Nat->Bool,(∀i,pn i=uG)->En (S.runs gi pn (zl_.drop 4) [uD (scr ns),uD (.int b),uD (LS .str [[x],[y],[z]]),uD (LS .str [n1,n2]),uE,uE,uE,uE,uE,uE,uE]) λo _=>o=.rt (AL A):=by
 obtain⟨md,emd,aE⟩:=ziW_ ns hb n2;obtain⟨ps,sg,eps,av,hps⟩:=zlu_ ns hb hx hy hz;obtain⟨ws,ews,aq,hws⟩:=zlc_ ns hb;have c6:za_.val [scr ns,.int 6]=.ok (.int (cel ns 6)):=zD_ ns (by lia) (by lia)
 have gY:za_.val [scr ns,.int 10]=.ok (.int (cel ns 10)):=zD_ ns (by lia) (by lia)
 have fO:za_.val [scr ns,.int 12]=.ok (.int (cel ns 12)):=zD_ ns (by lia) (by lia)
 have fN:za_.val [scr ns,.int 14]=.ok (.int (cel ns 14)):=zD_ ns (by lia) (by lia)
 have k0:=lG (cel ns 6) (show(4:Int)≠0 by lia)
 have k1:=lA (cel ns 6) (show(0:Int)<4 by lia)
 have s0:=lG (cel ns 12) (show(3:Int)≠0 by lia)
 have s1:=lA (cel ns 12) (show(0:Int)<3 by lia)
 have d0:=lG (cel ns 14) (show(5:Int)≠0 by lia)
 have d1:=lA (cel ns 14) (show(0:Int)<5 by lia)
 have g0:=lG (cel ns 14 / 60) (show(12:Int)≠0 by lia)
 have g1:=lA (cel ns 14 / 60) (show(0:Int)<12 by lia)
 obtain⟨od,hod⟩:∃od,od=(lH (cel ns 6 % 4).toNat).map λi:Nat=>fl (cel ns (7+(0+(i:Int)))) b:=⟨_,rfl⟩
 obtain⟨su,hsu⟩:∃su,su=(lH (cel ns 12 % 3).toNat).map λi:Nat=>fl (cel ns 12 / (3+(0+(i:Int)))) b:=⟨_,rfl⟩
 obtain⟨bd,cp⟩:∃bd,bd=(lH (cel ns 14 % 5).toNat).map λi:Nat=>((1+(cel ns 14 / 5+11*(0+(i:Int))) % 40,2+3*(0+(i:Int))):Fd):=⟨_,rfl⟩
 have dE:od.length=(cel ns 6 % 4).toNat:=by rw[hod,k8,lJ]
 have dB:su.length=(cel ns 12 % 3).toNat:=by rw[hsu,k8,lJ]
 have fK:bd.length=(cel ns 14 % 5).toNat:=by rw[cp,k8,lJ]
 have eS:(0:Int)<min 3 (od.length:Int)+1:=by lia
 have b0:=lG (cel ns 10) (show min 3 (od.length:Int)+1≠0 by lia)
 have b1:=lA (cel ns 10) eS;refine⟨⟨n1,ps,md,od,ws,cel ns 10 % (min 3 (od.length:Int)+1),su,1+cel ns 14 / 60 % 12,bd⟩,sg,mk_ok (lo:=b) (hi:=b+4) (pl:=plN b) (N:=2) (nm:=n2) hb.1 (by lia) h1 h2 aP hps (by show ps.length<=4;lia) aE (λf hf=>?_) (by show od.length<=6;lia) hws aq (by lia) (λi hi=>?_) (λi hi f hf=>?_) (λi j hi hj jL=>?_) ⟨b0,by show cel ns 10 % (min 3 (od.length:Int)+1)<=3;lia,by show cel ns 10 % (min 3 (od.length:Int)+1)<=(od.length:Int);lia⟩ (λf hf=>?_) (by show su.length<=4;lia) ⟨by show 1<=1+_;lia,by show 1+_<=12;lia⟩ (by show bd.length<=9;lia) ?_,λpn hp=>?_⟩
 ·have hf:f∈od:=hf
  rw[hod]at hf;obtain⟨i,_,rfl⟩:=mF.mp hf;exact fl_in _ _
 ·unfold plN;split
  ·exact⟨by show 1<=33+2*(i:Int);lia,by show 33+2*(i:Int)<=34+2*(i:Int);lia,by show 34+2*(i:Int)<=36;lia⟩
  ·exact⟨by show 1<=1+2*(i:Int);lia,by show 1+2*(i:Int)<=2+2*(i:Int);lia,by show 2+2*(i:Int)<=36;lia⟩
 ·obtain⟨q1,q2,q3⟩:=hf
  unfold plN apt;split
  ·rw[mK];right;exact decide_eq_true (by show f.2<33+2*(i:Int);lia)
  ·rw[mK];left;exact decide_eq_true (by show 2+2*(i:Int)<f.1;lia)
 ·unfold plN apt;split
  ·rw[mK]
   rcases qa i j with q |q
   ·left;exact decide_eq_true (by show 34+2*(i:Int)<33+2*(j:Int);lia)
   ·right;exact decide_eq_true (by show 34+2*(j:Int)<33+2*(i:Int);lia)
  ·rw[mK]
   rcases qa i j with q |q
   ·left;exact decide_eq_true (by show 2+2*(i:Int)<1+2*(j:Int);lia)
   ·right;exact decide_eq_true (by show 2+2*(j:Int)<1+2*(i:Int);lia)
 ·have hf:f∈su:=hf
  rw[hsu]at hf;obtain⟨i,_,rfl⟩:=mF.mp hf;exact fl_in _ _
 ·show(∀w∈bd,_)/\bd.Pairwise _
  rw[cp];exact bd_ok (g:=λi:Nat=>(cel ns 14 / 5+11*(0+(i:Int))) % 40) (a:=2) (s:=3) (by lia) (λi=>⟨lG _ (by lia),lA _ (by lia)⟩) (by lia) (by lia) (.inl (by lia))
 ·unfold zl_
  simp only[mw,mM];have e1:rng1D [.int (cel ns 6 % 4)]=_:=rg1 k0 (by lia)
  have e2:rng1D [.int (cel ns 12 % 3)]=_:=rg1 s0 (by lia)
  have e3:rng1D [.int (cel ns 14 % 5)]=_:=rg1 d0 (by lia)
  exists hp
  rw[xcompN (f:=λi:Nat=>fl (cel ns (7+(0+(i:Int)))) b) (o:=F2) (T:=λi:Nat=>[.int (0+(i:Int))]) (lH (cel ns 6 % 4).toNat) rfl (by exists c6,e1) (zE_ _ _) (λi hi=>by
   have hi:=mf.mp hi
   exists zD_ ns (show(0:Int)<=7+(0+(i:Int)) by lia) (by lia),fl_eq) (by rw[lJ];lia),<- hod]
  have em:modD (.int (cel ns 10)) (.int (min 3 (od.length:Int)+1))=.ok (.int (cel ns 10 % (min 3 (od.length:Int)+1))):=VI.vd_mod eS
  exists hp,gY,fO,em
  rw[xcompN (f:=λi:Nat=>fl (cel ns 12 / (3+(0+(i:Int)))) b) (o:=F2) (T:=λi:Nat=>[.int (0+(i:Int))]) (lH (cel ns 12 % 3).toNat) rfl (by exists e2) (zE_ _ _) (λi hi=>by
   have hi:=mf.mp hi;have ed:divD (.int (cel ns 12)) (.int (3+(0+(i:Int))))=.ok (.int (cel ns 12 / (3+(0+(i:Int))))):=zci_ (by lia) (by lia)
   exists ed,fl_eq) (by rw[lJ];lia),<- hsu]
  exists hp,fN
  rw[xcompN (f:=λi:Nat=>((1+(cel ns 14 / 5+11*(0+(i:Int))) % 40,2+3*(0+(i:Int))):Fd)) (o:=F2) (T:=λi:Nat=>[.int (0+(i:Int))]) (lH (cel ns 14 % 5).toNat) rfl (by exists e3) (zE_ _ _) (λi hi=>by
   have hi:=mf.mp hi;have gP:mulD (.int 11) (.int (0+(i:Int)))=.ok (.int (11*(0+(i:Int)))):=zcp_ (by lia) (by lia)
   have gO:mulD (.int 3) (.int (0+(i:Int)))=.ok (.int (3*(0+(i:Int)))):=zcp_ (by lia) (by lia)
   exists gP,gO
   rfl) (by rw[lJ];lia),<- cp]
  have i0:ixA (LS .str [n1,n2]) (.int 0)=.ok (.str n1):=rfl;have i1:ixA (LS .str [n1,n2]) (.int 1)=.ok (.str n2):=rfl;have mv:(MD md).vw=MD md:=zna_ _;have mn:(MD md).new=uF:=zoM_ _
  exists hp,i0,i1,emd,eps,ews,mv,mn
  have nn:=zo3_ (A:=⟨n1,ps,md,od,ws,cel ns 10 % (min 3 (od.length:Int)+1),su,1+cel ns 14 / 60 % 12,bd⟩);unfold AL at nn ⊢
  exists zcd_ _ nn
  exact⟨_,_,rfl,rfl⟩
theorem znq_ (ns:List Int){x y z:Nat}(hx:x∈SG)(hy:y∈SG)(hz:z∈SG){n1 n2:List Nat}(h1:OkN n1)(h2:OkN n2)(aP:n2≠n1):∃A sg,(OkA A/\(∀p∈A.pk,OkK sg p)/\(kk A).length<64)/\zb8_.val [scr ns,.fz (LS .str [n1,n2]),.fz (LS .str [[x],[y],[z]])]=.ok (AL A):=by
 obtain⟨ps,sg,eps,av,hps⟩:=ziR_ ns hx hy hz;obtain⟨ws,ews,aq,hws⟩:=ziK_ ns
 generalize hc:cel ns 4=c
 have c4:za_.val [scr ns,.int 4]=.ok (.int c):=by rw[<- hc];exact zD_ ns (by lia) (by lia)
 have c5:za_.val [scr ns,.int 5]=.ok (.int (cel ns 5)):=zD_ ns (by lia) (by lia)
 have c6:za_.val [scr ns,.int 6]=.ok (.int (cel ns 6)):=zD_ ns (by lia) (by lia)
 have gY:za_.val [scr ns,.int 10]=.ok (.int (cel ns 10)):=zD_ ns (by lia) (by lia)
 have fO:za_.val [scr ns,.int 12]=.ok (.int (cel ns 12)):=zD_ ns (by lia) (by lia)
 have k0:=lG (cel ns 6) (show(7:Int)≠0 by lia)
 have k1:=lA (cel ns 6) (show(0:Int)<7 by lia)
 have s0:=lG (cel ns 12) (show(5:Int)≠0 by lia)
 have s1:=lA (cel ns 12) (show(0:Int)<5 by lia)
 have g0:=lG (c / 60) (show(12:Int)≠0 by lia)
 have g1:=lA (c / 60) (show(0:Int)<12 by lia)
 obtain⟨od,hod⟩:∃od,od=(lH (cel ns 6 % 7).toNat).map λi:Nat=>fr (cel ns (48+(0+(i:Int)))):=⟨_,rfl⟩
 obtain⟨su,hsu⟩:∃su,su=(lH (cel ns 12 % 5).toNat).map λi:Nat=>fr (cel ns 12 / (0+(i:Int)+2)):=⟨_,rfl⟩
 obtain⟨bd,cp⟩:∃bd,bd=(lH 9).map λi:Nat=>((1+(7*(0+(i:Int))+c) % 40,1+4*(0+(i:Int))):Fd):=⟨_,rfl⟩
 have dE:od.length=(cel ns 6 % 7).toNat:=by rw[hod,k8,lJ]
 have dB:su.length=(cel ns 12 % 5).toNat:=by rw[hsu,k8,lJ]
 have fK:bd.length=9:=by rw[cp,k8,lJ]
 have eS:(0:Int)<min 3 (od.length:Int)+1:=by lia
 have b0:=lG (cel ns 10) (show min 3 (od.length:Int)+1≠0 by lia)
 have b1:=lA (cel ns 10) eS
 generalize cz:fr (c / 4)=f
 have ef:z5_.val [.int (c / 4)]=.ok (F2 f):=by rw[<- cz];exact zqH_ _
 have jP:InB 1 24 f:=by rw[<- cz];exact zrw_ _
 obtain⟨f1,f2,f3⟩:=jP;have bM:(0:Int)<36-f.2+f.1:=by lia
 have l0:=lG (cel ns 5) (show(36-f.2+f.1)≠0 by lia)
 have l1:=lA (cel ns 5) bM
 generalize hg:1+cel ns 5 % (36-f.2+f.1)=low
 have j_:modD (.int (cel ns 5)) (.int (36-f.2+f.1))=.ok (.int (cel ns 5 % (36-f.2+f.1))):=VI.vd_mod bM;have i0:ixA (LS .str [n1,n2]) (.int 0)=.ok (.str n1):=rfl;have i1:ixA (LS .str [n1,n2]) (.int 1)=.ok (.str n2):=rfl;obtain⟨md,emd,aE⟩:∃md,(∀pn:Nat->Bool,(∀i,pn i=uG)->∀ss,S.runs gi pn (.asg 7 (.pu (.k .non))::.if_ (.bin .eq (.bin .mod (.v 4) (.k (.int 4))) (.k (.int 1))) [.asg 7 (.pu (.tup [(.k (.str [102,105,114,115,116])),(.v 5)]))] [.if_ (.bin .gt (.bin .mod (.v 4) (.k (.int 4))) (.k (.int 1))) [.asg 7 (.pu (.tup [(.bin .ix (.lst [(.k (.str [109,97,116,101,115])),(.k (.str [119,105,116,104,111,117,116]))]) (.bin .sub (.bin .mod (.v 4) (.k (.int 4))) (.k (.int 2)))),(.bin .ix (.v 1) (.k (.int 1))),(.v 5),(.tup [(.v 6),(.bin .sub (.bin .add (.v 6) (.bin .ix (.v 5) (.k (.int 1)))) (.bin .ix (.v 5) (.k (.int 0))))])]))] []]::ss) [uD (scr ns),uD (.fz (LS .str [n1,n2])),uD (.fz (LS .str [[x],[y],[z]])),uD (LS F2 od),uD (.int c),uD (F2 f),uD (.int low),uE,uE,uE,uE,uE]=S.runs gi pn ss [uD (scr ns),uD (.fz (LS .str [n1,n2])),uD (.fz (LS .str [[x],[y],[z]])),uD (LS F2 od),uD (.int c),uD (F2 f),uD (.int low),uD (MD md),uE,uE,uE,uE])/\MdR 1 24 n2 md:=by
  have m0:=lG c (show(4:Int)≠0 by lia)
  by_cases h0:c % 4=1
  ·refine⟨.fi f,λpn hp ss=>?_,⟨f1,f2,f3⟩⟩
   rw[zaq_ (d:=.non) (by exists hp) (hp _)]
   rw[zcx_ (by exists zw_,decide_eq_true h0)]
   show S.runs gi pn (S.asg _ _::_) _=_
   rw[zaq_ (d:=MD (.fi f)) (by exists zbF_,zbZ_;rfl) (hp _)]
   rfl
  ·by_cases h1:1<c % 4
   ·obtain⟨w,hw,ew⟩:=zjp_ (y:=c) (by lia) h0
    refine⟨.ma w n2 f (low,low+f.2-f.1),λpn hp ss=>?_,hw,rfl,⟨f1,f2,f3⟩,⟨by show 1<=low;lia,by show low<=low+f.2-f.1;lia,by show low+f.2-f.1<=36;lia⟩,by show f.2-f.1=low+f.2-f.1-low;lia⟩
    rw[zaq_ (d:=.non) (by exists hp) (hp _)]
    rw[zbG_ (by exists zw_,decide_eq_false h0)]
    show S.runs gi pn (S.if_ _ _ _::_) _=_
    rw[zcx_ (by exists decide_eq_true h1)]
    show S.runs gi pn (S.asg _ _::_) _=_
    rw[zaq_ (d:=MD (.ma w n2 f (low,low+f.2-f.1))) (by exists zbF_,zbZ_,F2_0,F2_1,ew,i1;rfl) (hp _)]
    rfl
   ·refine⟨.no,λpn hp ss=>?_,trivial⟩
    rw[zaq_ (d:=.non) (by exists hp) (hp _)]
    rw[zbG_ (by exists zw_,decide_eq_false h0)]
    show S.runs gi pn (S.if_ _ _ _::_) _=_
    rw[zbG_ (by exists decide_eq_false h1)]
    rfl
 refine⟨⟨n1,ps,md,od,ws,cel ns 10 % (min 3 (od.length:Int)+1),su,1+c / 60 % 12,bd⟩,sg,mk_ok (lo:=1) (hi:=24) (pl:=plF) (N:=4) (nm:=n2) (by lia) (by lia) h1 h2 aP hps av aE (λf hf=>?_) (by show od.length<=6;lia) hws aq (by lia) (λi hi=>?_) (λi hi f hf=>?_) (λi j hi hj jL=>?_) ⟨b0,by show cel ns 10 % (min 3 (od.length:Int)+1)<=3;lia,by show cel ns 10 % (min 3 (od.length:Int)+1)<=(od.length:Int);lia⟩ (λf hf=>?_) (by show su.length<=4;lia) ⟨by show 1<=1+_;lia,by show 1+_<=12;lia⟩ (by show bd.length<=9;lia) ?_,zQ_ rfl rfl λpn hp=>?_⟩
 ·have hf:f∈od:=hf
  rw[hod]at hf;obtain⟨i,_,rfl⟩:=mF.mp hf;exact zrw_ _
 ·exact⟨by show 1<=25+3*(i:Int);lia,by show 25+3*(i:Int)<=27+3*(i:Int);lia,by show 27+3*(i:Int)<=36;lia⟩
 ·obtain⟨q1,q2,q3⟩:=hf
  unfold plF apt;rw[mK];right;exact decide_eq_true (by show f.2<25+3*(i:Int);lia)
 ·unfold plF apt
  rw[mK];rcases qa i j with q |q
  ·left;exact decide_eq_true (by show 27+3*(i:Int)<25+3*(j:Int);lia)
  ·right;exact decide_eq_true (by show 27+3*(j:Int)<25+3*(i:Int);lia)
 ·have hf:f∈su:=hf
  rw[hsu]at hf;obtain⟨i,_,rfl⟩:=mF.mp hf;exact zrw_ _
 ·show(∀w∈bd,_)/\bd.Pairwise _
  rw[cp];exact bd_ok (g:=λi:Nat=>(7*(0+(i:Int))+c) % 40) (a:=1) (s:=4) (by lia) (λi=>⟨lG _ (by lia),lA _ (by lia)⟩) (by lia) (by lia) (.inl (by lia))
 ·unfold zb9_
  have e1:rng1D [.int (cel ns 6 % 7)]=_:=rg1 k0 (by lia)
  have e2:rng1D [.int (cel ns 12 % 5)]=_:=rg1 s0 (by lia)
  have e3:rng1D [.int 9]=_:=rg1 (j:=9) (by lia) (by lia)
  have gS:X.ev gi ([scr ns,.fz (LS .str [n1,n2]),.fz (LS .str [[x],[y],[z]])].map uD++lF 9 uE) (.comp ["_law_k"] [("_law_script",0)] .r1 [(.bin .mod (.call za_ "_law_cell" [(.v 0),(.k (.int 6))]) (.k (.int 7)))] ⟨uG,[0]⟩ uE (.call z5_ "_law_far" [(.call za_ "_law_cell" [(.v 1),(.bin .add (.k (.int 48)) (.v 0))])]))=.ok (LS F2 od):=by
   rw[xcompN (f:=λi:Nat=>fr (cel ns (48+(0+(i:Int))))) (o:=F2) (T:=λi:Nat=>[.int (0+(i:Int))]) (lH (cel ns 6 % 7).toNat) rfl (by exists c6,e1) (zE_ _ _) (λi hi=>by
    have hi:=mf.mp hi
    exists zD_ ns (show(0:Int)<=48+(0+(i:Int)) by lia) (by lia),zqH_) (by rw[lJ];lia),<- hod]
  rw[zaq_ (d:=LS F2 od) (by rw[zdc_,gS];exact zr_ _ zZ_) (hp _)]
  rw[zaq_ (d:=.int c) (by exists c4) (hp _)]
  rw[zaq_ (d:=F2 f) (by exists ef,zbZ_) (hp _)]
  rw[zaq_ (d:=.int low) (by exists c5,zbF_,F2_0,F2_1,j_,hg) (hp _)]
  refine emd pn hp _ ▸ ?_;have mv:(MD md).vw=MD md:=zna_ _;have mn:(MD md).new=uF:=zoM_ _
  exists hp
  rw[xcompN (f:=λi:Nat=>fr (cel ns 12 / (0+(i:Int)+2))) (o:=F2) (T:=λi:Nat=>[.int (0+(i:Int))]) (lH (cel ns 12 % 5).toNat) rfl (by exists fO,e2) (zE_ _ _) (λi hi=>by
   have hi:=mf.mp hi;have ed:divD (.int (cel ns 12)) (.int (0+(i:Int)+2))=.ok (.int (cel ns 12 / (0+(i:Int)+2))):=zci_ (by lia) (by lia)
   exists fO,ed,zqH_) (by rw[lJ];lia),<- hsu]
  exists hp
  rw[xcompN (f:=λi:Nat=>((1+(7*(0+(i:Int))+c) % 40,1+4*(0+(i:Int))):Fd)) (o:=F2) (T:=λi:Nat=>[.int (0+(i:Int))]) (lH 9) rfl (by exists e3;rfl) (zE_ _ _) (λi hi=>by
   have hi:=mf.mp hi;have gP:mulD (.int 7) (.int (0+(i:Int)))=.ok (.int (7*(0+(i:Int)))):=zcp_ (by lia) (by lia)
   have gO:mulD (.int 4) (.int (0+(i:Int)))=.ok (.int (4*(0+(i:Int)))):=zcp_ (by lia) (by lia)
   exists gP,gO
   rfl) (by rw[lJ];lia),<- cp]
  have em:modD (.int (cel ns 10)) (.int (min 3 (od.length:Int)+1))=.ok (.int (cel ns 10 % (min 3 (od.length:Int)+1))):=VI.vd_mod eS
  exists hp,gY,em,i0,eps,ews,mv,mn
  have nn:=zo3_ (A:=⟨n1,ps,md,od,ws,cel ns 10 % (min 3 (od.length:Int)+1),su,1+c / 60 % 12,bd⟩);unfold AL at nn ⊢
  exists zcd_ _ nn
  exact⟨_,_,rfl,.inl rfl⟩
theorem zi4_ (ns:List Int):∃A sg,(OkA A/\(∀p∈A.pk,OkK sg p)/\(kk A).length<64)/\zah_.val [scr ns]=.ok (AL A):=by
 have c0:za_.val [scr ns,.int 0]=.ok (.int (cel ns 0)):=zD_ ns (by lia) (by lia)
 have ku:za_.val [scr ns,.int 13]=.ok (.int (cel ns 13)):=zD_ ns (by lia) (by lia)
 have fN:za_.val [scr ns,.int 14]=.ok (.int (cel ns 14)):=zD_ ns (by lia) (by lia)
 have m0:=lG (cel ns 0) (show(32:Int)≠0 by lia)
 have m1:=lA (cel ns 0) (show(0:Int)<32 by lia)
 obtain⟨x,y,z,es,hx,hy,hz⟩:=zkx_ (cel ns 0 / 32);obtain⟨n1,n2,en,h1,h2,aP⟩:=zkt_ (cel ns 13);have r1:∀pn:Nat->Bool,(∀i,pn i=uG)->S.runs gi pn zl_ ([scr ns].map uD++lF 10 uE)=S.runs gi pn (zl_.drop 3) [uD (scr ns),uD (.int (1+cel ns 0 % 32)),uD (LS .str [[x],[y],[z]]),uD (LS .str [n1,n2]),uE,uE,uE,uE,uE,uE,uE]:=λpn hp=>by
  unfold zl_;rw[zaq_ (d:=.int (1+cel ns 0 % 32)) (by exists c0) (hp _)]
  rw[zaq_ (d:=LS .str [[x],[y],[z]]) (by exists c0,es) (hp _)]
  rw[zaq_ (d:=LS .str [n1,n2]) (by exists ku,en) (hp _)]
  rfl
 by_cases h3:cel ns 14 % 4=3
 ·obtain⟨A,sg,hA,ea⟩:=znq_ ns hx hy hz h1 h2 aP
  refine⟨A,sg,hA,zQ_ rfl rfl λpn hp=>?_⟩
  rw[r1 pn hp];unfold zl_;simp only[mw,mM];rw[zcx_ (by exists fN,zw_,decide_eq_true h3)]
  show En (S.runs gi pn (S.ret _::_) _) _
  exists ea,zcd_ _ (zo3_ (A:=A))
  exact⟨_,_,rfl,.inl rfl⟩
 ·obtain⟨A,sg,hA,ea⟩:=zja_ ns (b:=1+cel ns 0 % 32) ⟨by lia,by lia⟩ hx hy hz h1 h2 aP
  refine⟨A,sg,hA,zQ_ rfl rfl λpn hp=>?_⟩
  obtain⟨o,e,e1,e2⟩:=ea pn hp;rw[r1 pn hp];refine⟨o,e,?_,.inl e2⟩;rw[<- e1];unfold zl_;simp only[mw,mM];rw[zbG_ (by exists fN,zw_,decide_eq_false h3)]
  rfl
theorem zkl_:∀ns:List Int,ns.length<=63->BitsOk ns->zpf_.val [scr ns]=.ok (.bl uF):=λns _ _=>by
 obtain⟨A,sg,⟨hA,hk,cy⟩,ea⟩:=zi4_ ns;obtain⟨w,hw⟩:=wt_ex A;obtain⟨n,hn⟩:=znv_ (m:=mc A) (w:=w) (f:=isF A.md) (zru_ hw);exact zm7_ hA hk cy hw hn ea
def top (i:Nat):me:=PySem.Challenge.pw_cardshop_k64_the_plan_told.main.body.getD i (.Pass ⟨0,0,0,0⟩)
abbrev zfS_:me:=top 69
abbrev zeM_:me:=top 71
abbrev zew_:me:=top 72
abbrev zhH_:me:=top 76
abbrev zcI_:me:=top 77
abbrev zcT_:me:=top 78
abbrev zfZ_:me:=top 79
abbrev zeY_:me:=top 70
abbrev zeo_:me:=top 74
abbrev zes_:me:=top 73
abbrev zeJ_:me:=top 75
abbrev zep_:me:=top 80
abbrev zg8_:me:=top 34
abbrev ziS_:me:=top 42
abbrev zc7_:me:=top 44
abbrev zgZ_:me:=top 35
abbrev zbV_:me:=top 45
abbrev zf9_:me:=top 36
abbrev zjc_:me:=top 40
abbrev zeb_:me:=top 46
abbrev zda_:me:=top 37
abbrev zeD_:me:=top 47
abbrev zgV_:me:=top 11
abbrev zhW_:me:=top 16
abbrev zgk_:me:=top 17
abbrev zfF_:me:=top 9
abbrev zdH_:me:=top 21
abbrev zeX_:me:=top 18
abbrev zd6_:me:=top 39
abbrev zer_:me:=top 48
abbrev zbh_:me:=top 49
abbrev zfJ_:me:=top 13
abbrev zeW_:me:=top 14
abbrev zho_:me:=top 41
abbrev zcL_:me:=top 50
abbrev zen_:me:=top 52
abbrev zfM_:me:=top 19
abbrev zdX_:me:=top 51
abbrev zdt_:me:=top 43
abbrev zaJ_:me:=inClass (top 33) 0
abbrev zfD_:me:=top 81
abbrev zgt_:me:=top 82
abbrev zed_:me:=top 83
abbrev zfL_:me:=top 84
abbrev zf3_:me:=top 85
abbrev zdo_:me:=top 54
abbrev zg4_:me:=top 63
abbrev zdy_:me:=top 55
abbrev zcN_:me:=top 56
abbrev zgG_:me:=top 57
abbrev ze2_:me:=top 58
abbrev zcB_:me:=top 59
abbrev zcG_:me:=top 61
abbrev zd8_:me:=top 60
abbrev zc6_:me:=top 62
abbrev zdW_:me:=top 64
abbrev zc8_:me:=top 65
abbrev zdE_:me:=top 38
abbrev zdP_:me:=top 66
abbrev zi2_:me:=top 67
abbrev s_law:me:=top 86
structure Ek (K:Fgg):Prop where
 u0:Fg K "_law_cell" zfS_
 u1:Fg K "_law_signs" zeM_
 u2:Fg K "_law_names" zew_
 u3:Fg K "_law_far" zhH_
 u4:Fg K "_law_far_picks" zcI_
 u5:Fg K "_law_far_works" zcT_
 u6:Fg K "_law_wide" zfZ_
 u7:Fg K "_law_field" zeY_
 u8:Fg K "_law_middle" zeo_
 u9:Fg K "_law_picks" zes_
 u10:Fg K "_law_works" zeJ_
 u11:Fg K "_law_asking" zep_
 u12:Fg K "own_list" zg8_
 u13:Fg K "ask_for" ziS_
 u14:Fg K "check_lengths" zc7_
 u15:Fg K "mates_by" zgZ_
 u16:Fg K "check_middle_word" zbV_
 u17:Fg K "names_of" zf9_
 u18:Fg K "is_name" zjc_
 u19:Fg K "check_names" zeb_
 u20:Fg K "middle_fields" zda_
 u21:Fg K "fields_due" zeD_
 u22:Fg K "is_whole" zgV_
 u23:Fg K "is_field" zhW_
 u24:Fg K "width_of" zgk_
 u25:Fg K "are_signs" zfF_
 u26:Fg K "picked_signs" zdH_
 u27:Fg K "columns_of" zeX_
 u28:Fg K "pick_passes" zd6_
 u29:Fg K "check_picks" zer_
 u30:Fg K "check_middle_widths" zbh_
 u31:Fg K "is_column" zfJ_
 u32:Fg K "make_board" zeW_
 u33:Fg K "is_board" zho_
 u34:Fg K "check_counting" zcL_
 u35:Fg K "fields_kept" zen_
 u36:Fg K "are_apart" zfM_
 u37:Fg K "check_works" zdX_
 u38:Fg K "check_asking" zdt_
 u39:Fg K "_law_made" zfD_
 u40:Fg K "_law_all" zgt_
 u41:Fg K "_law_wanted" zed_
 u42:Fg K "_law_late" zfL_
 u43:Fg K "_law_due" zf3_
 u44:Fg K "wanted_signs" zdo_
 u45:Fg K "deals_of" zg4_
 u46:Fg K "free_columns" zdy_
 u47:Fg K "middle_columns" zcN_
 u48:Fg K "is_first" zgG_
 u49:Fg K "cut_behind" ze2_
 u50:Fg K "wanted_columns" zcB_
 u51:Fg K "is_late_length" zcG_
 u52:Fg K "late_length" zd8_
 u53:Fg K "early_columns" zc6_
 u54:Fg K "other_deals" zdW_
 u55:Fg K "middle_goings" zc8_
 u56:Fg K "break_fields" zdE_
 u57:Fg K "last_goings" zdP_
 u58:Fg K "plan_of" zi2_
 u59:Fg K "law" s_law
 u60:FmD K "Asking" "__init__" "Asking.__init__" zaJ_ [.non,(.int 0),.non,(.int 6),.non]
 u61:Fc K "Asking"
 u62:Fa K "Asking" "board"
 u63:Fa K "Asking" "breaks"
 u64:Fa K "Asking" "deck"
 u65:Fa K "Asking" "figures"
 u66:Fa K "Asking" "middle"
 u67:Fa K "Asking" "order"
 u68:Fa K "Asking" "picks"
 u69:Fa K "Asking" "sums"
 u70:Fa K "Asking" "works"
 u71:Fb K "all"
 u72:Fb K "bool"
 u73:Fb K "enumerate"
 u74:Fb K "int"
 u75:Fb K "isinstance"
 u76:Fb K "len"
 u77:Fb K "list"
 u78:Fb K "min"
 u79:Fb K "range"
 u80:Fb K "reversed"
 u81:Fb K "sorted"
 u82:Fb K "tuple"
 u83:Fb K "zip"
 u84:Fv K "BODY_WIDTH" (.int 36)
 u85:Fv K "CARD_WIDTH" (.int 40)
 u86:Fv K "LONGEST_NAME" (.int 8)
 u87:Fv K "MOST_BREAKS" (.int 3)
 u88:Fv K "MOST_FIGURES" (.int 12)
 u89:Fv K "MOST_KEYS" (.int 6)
 u90:Fv K "MOST_PICKS" (.int 8)
 u91:Fv K "MOST_SUMS" (.int 4)
 u92:Fv K "MOST_WORKS" (.int 4)
 u93:Fv K "SIGNS" (tx Qm0)
 u94:Fv K "SMALL_LETTERS" (tx Qm1)
 u95:Fk K "MATING_WORDS"
 u96:FtT K "MATING_WORDS" [[109,97,116,101,115],[119,105,116,104,111,117,116]]
 u97:Fk K "WORK_WORDS"
 u98:FtT K "WORK_WORDS" [[112,108,117,115],[108,101,115,115],[116,105,109,101,115]]
structure En (K:Fgg)(mg:Str->Option aT):Prop extends Ek K where
 m:Mgo K mg
def ft:Ft:={bs:=["all", "bool", "enumerate", "int", "isinstance", "len", "list", "min", "range", "reversed", "sorted", "tuple", "zip"],at_:=["board", "breaks", "deck", "figures", "middle", "order", "picks", "sums", "works"],gc:=[("BODY_WIDTH",(.int 36)),("CARD_WIDTH",(.int 40)),("LONGEST_NAME",(.int 8)),("MOST_BREAKS",(.int 3)),("MOST_FIGURES",(.int 12)),("MOST_KEYS",(.int 6)),("MOST_PICKS",(.int 8)),("MOST_SUMS",(.int 4)),("MOST_WORKS",(.int 4)),("SIGNS",(tx Qm0)),("SMALL_LETTERS",(tx Qm1))]}
theorem gok {K:Fgg}(e:Ek K):gi.Ok K:=⟨by decide,(ze_ (ftt_u e.u96) (ze_ (ftt_u e.u98) zeA_))⟩
theorem fo {K:Fgg}{mg:Str->Option aT}(e:En K mg):ft.Ok gi K mg:=⟨(ze_ (e.m.gb e.u71) (ze_ (e.m.gb e.u72) (ze_ (e.m.gb e.u73) (ze_ (e.m.gb e.u74) (ze_ (e.m.gb e.u75) (ze_ (e.m.gb e.u76) (ze_ (e.m.gb e.u77) (ze_ (e.m.gb e.u78) (ze_ (e.m.gb e.u79) (ze_ (e.m.gb e.u80) (ze_ (e.m.gb e.u81) (ze_ (e.m.gb e.u82) (ze_ (e.m.gb e.u83) zeA_))))))))))))),(ze_ e.u61.cls zeA_),(ze_ (ze_ e.u62.no (ze_ e.u63.no (ze_ e.u64.no (ze_ e.u65.no (ze_ e.u66.no (ze_ e.u67.no (ze_ e.u68.no (ze_ e.u69.no (ze_ e.u70.no zeA_))))))))) zeA_),(ze_ (e.m.gv e.u84) (ze_ (e.m.gv e.u85) (ze_ (e.m.gv e.u86) (ze_ (e.m.gv e.u87) (ze_ (e.m.gv e.u88) (ze_ (e.m.gv e.u89) (ze_ (e.m.gv e.u90) (ze_ (e.m.gv e.u91) (ze_ (e.m.gv e.u92) (ze_ (e.m.gv e.u93) (ze_ (e.m.gv e.u94) zeA_))))))))))),(ze_ (e.m.gkc e.u95) (ze_ (e.m.gkc e.u97) zeA_))⟩
section
variable {P:lY}{w:mq}{K:Fgg}{mg:Str->Option aT}{base:Heap}
theorem g0 (e:En K mg):GG P w K mg base 1 "_law_cell" ["_law_script", "_law_k"] za_:=zN_ e.m e.u0 (okW (N:=["_law_script", "_law_k", "_law_number"]) (body:=zat_) (n:=2) (m:=1) (gok e.toEk) (fo e) trivial)
theorem g1 (e:En K mg):GG P w K mg base 1 "_law_signs" ["_law_cell_here"] zbB_:=zN_ e.m e.u1 (okW (N:=["_law_cell_here", "_law_some", "_law_one", "_law_two"]) (body:=zbo_) (n:=1) (m:=3) (gok e.toEk) (fo e) trivial)
theorem g2 (e:En K mg):GG P w K mg base 1 "_law_names" ["_law_cell_here"] zbv_:=zN_ e.m e.u2 (okW (N:=["_law_cell_here", "_law_letters", "_law_one", "_law_at", "_law_two"]) (body:=zaH_) (n:=1) (m:=4) (gok e.toEk) (fo e) trivial)
theorem g3 (e:En K mg):GG P w K mg base 1 "_law_far" ["_law_cell_here"] z5_:=zN_ e.m e.u3 (okW (N:=["_law_cell_here", "_law_low"]) (body:=zcZ_) (n:=1) (m:=1) (gok e.toEk) (fo e) trivial)
theorem g4 (e:En K mg):GG P w K mg base 2 "_law_far_picks" ["_law_script", "_law_signs_here"] zz_:=zN_ e.m e.u4 (okW (N:=["_law_script", "_law_signs_here", "_law_held", "_law_picks_here", "_law_k", "_law_cell_here", "_law_low", "_law_field_here", "_law_text", "_law_j"]) (body:=zA_) (n:=2) (m:=8) (gok e.toEk) (fo e) ⟨fkc (g0 e),fkc (g0 e),trivial⟩)
theorem g5 (e:En K mg):GG P w K mg base 2 "_law_far_works" ["_law_script"] zK_:=zN_ e.m e.u5 (okW (N:=["_law_script", "_law_works_here", "_law_k", "_law_cell_here", "_law_other", "_law_word"]) (body:=zC_) (n:=1) (m:=5) (gok e.toEk) (fo e) ⟨fkc (g0 e),fkc (g0 e),fkc (g3 e),fkc (g3 e),trivial⟩)
theorem g6 (e:En K mg):GG P w K mg base 3 "_law_wide" ["_law_script", "_law_names_here", "_law_signs_here"] zb8_:=zN_ e.m e.u6 (okW (N:=["_law_script", "_law_names_here", "_law_signs_here", "_law_keys", "_law_cell_here", "_law_field_here", "_law_low", "_law_middle_here", "_law_sums", "_law_board", "_law_breaks", "_law_picks_here"]) (body:=zb9_) (n:=3) (m:=9) (gok e.toEk) (fo e) ⟨fkc (g0 e),fkc (g3 e),fkc (g0 e),fkc (g0 e),fkc (g3 e),fkc (g0 e),fkc (g0 e),fkc (g3 e),fkc (g0 e),fkc (g0 e),fkc (g4 e),fkc (g5 e),trivial⟩)
theorem g7 (e:En K mg):GG P w K mg base 1 "_law_field" ["_law_cell_here", "_law_base"] z4_:=zN_ e.m e.u7 (okW (N:=["_law_cell_here", "_law_base", "_law_low"]) (body:=zbp_) (n:=2) (m:=1) (gok e.toEk) (fo e) trivial)
theorem g8 (e:En K mg):GG P w K mg base 2 "_law_middle" ["_law_script", "_law_base", "_law_name"] zaT_:=zN_ e.m e.u8 (okW (N:=["_law_script", "_law_base", "_law_name", "_law_cell_here", "_law_field_here", "_law_wide_here", "_law_low"]) (body:=zY_) (n:=3) (m:=4) (gok e.toEk) (fo e) ⟨fkc (g0 e),fkc (g7 e),fkc (g0 e),trivial⟩)
theorem g9 (e:En K mg):GG P w K mg base 2 "_law_picks" ["_law_script", "_law_base", "_law_signs_here"] z1_:=zN_ e.m e.u9 (okW (N:=["_law_script", "_law_base", "_law_signs_here", "_law_held", "_law_picks_here", "_law_k", "_law_cell_here", "_law_field_here", "_law_text", "_law_j"]) (body:=zac_) (n:=3) (m:=7) (gok e.toEk) (fo e) ⟨fkc (g0 e),fkc (g0 e),fkc (g7 e),trivial⟩)
theorem g10 (e:En K mg):GG P w K mg base 2 "_law_works" ["_law_script", "_law_base"] zaF_:=zN_ e.m e.u10 (okW (N:=["_law_script", "_law_base", "_law_cell_here", "_law_places", "_law_works_here", "_law_k", "_law_other", "_law_word"]) (body:=zB_) (n:=2) (m:=6) (gok e.toEk) (fo e) ⟨fkc (g0 e),fkc (g7 e),fkc (g7 e),trivial⟩)
theorem g11 (e:En K mg):GG P w K mg base 4 "_law_asking" ["_law_script"] zah_:=zN_ e.m e.u11 (okW (N:=["_law_script", "_law_base", "_law_signs_here", "_law_names_here", "_law_fields", "_law_breaks", "_law_cell_here", "_law_sums", "_law_board", "_law_middle_here", "_law_picks_here"]) (body:=zl_) (n:=1) (m:=10) (gok e.toEk) (fo e) ⟨fkc (g0 e),fkc (g1 e),fkc (g0 e),fkc (g2 e),fkc (g0 e),fkc (g0 e),fkc (g6 e),fkc (g0 e),fkc (g7 e),fkc (g0 e),fkc (g0 e),fkc (g0 e),fkc (g7 e),fkc (g0 e),fkc (g8 e),fkc (g9 e),fkc (g10 e),trivial⟩)
theorem g12 (e:En K mg):GG P w K mg base 1 "own_list" ["values"] zcz_:=zN_ e.m e.u12 (okW (N:=["values"]) (body:=zc4_) (n:=1) (m:=0) (gok e.toEk) (fo e) trivial)
theorem g13 (e:En K mg):GG P w K mg base 1 "ask_for" ["holds", "words"] zdG_:=zN_ e.m e.u13 (okW (N:=["holds", "words"]) (body:=ze9_) (n:=2) (m:=0) (gok e.toEk) (fo e) trivial)
theorem g14 (e:En K mg):GG P w K mg base 2 "check_lengths" Qn0 zap_:=zN_ e.m e.u14 (okW (N:=Qn0) (body:=zan_) (n:=1) (m:=0) (gok e.toEk) (fo e) ⟨fkc (g13 e),fkc (g13 e),fkc (g13 e),fkc (g13 e),trivial⟩)
theorem g15 (e:En K mg):GG P w K mg base 1 "mates_by" Qn0 zcQ_:=zN_ e.m e.u15 (okW (N:=Qn0) (body:=zdR_) (n:=1) (m:=0) (gok e.toEk) (fo e) trivial)
theorem g16 (e:En K mg):GG P w K mg base 2 "check_middle_word" Qn0 zL_:=zN_ e.m e.u16 (okW (N:=["asking", "many"]) (body:=zad_) (n:=1) (m:=1) (gok e.toEk) (fo e) ⟨fkc (g13 e),fkc (g15 e),fkc (g13 e),fkc (g15 e),trivial⟩)
theorem g17 (e:En K mg):GG P w K mg base 2 "names_of" Qn0 zaM_:=zN_ e.m e.u17 (okW (N:=Qn0) (body:=zef_) (n:=1) (m:=0) (gok e.toEk) (fo e) ⟨fkc (g15 e),trivial⟩)
theorem g18 (e:En K mg):GG P w K mg base 1 "is_name" ["text"] zdM_:=zN_ e.m e.u18 (okW (N:=["text"]) (body:=zdA_) (n:=1) (m:=0) (gok e.toEk) (fo e) trivial)
theorem g19 (e:En K mg):GG P w K mg base 3 "check_names" Qn0 zaf_:=zN_ e.m e.u19 (okW (N:=["asking", "names", "name"]) (body:=za6_) (n:=1) (m:=2) (gok e.toEk) (fo e) ⟨fkc (g17 e),fkc (g13 e),fkc (g18 e),fkc (g13 e),trivial⟩)
theorem g20 (e:En K mg):GG P w K mg base 2 "middle_fields" Qn0 zao_:=zN_ e.m e.u20 (okW (N:=Qn0) (body:=zbn_) (n:=1) (m:=0) (gok e.toEk) (fo e) ⟨fkc (g15 e),trivial⟩)
theorem g21 (e:En K mg):GG P w K mg base 3 "fields_due" Qn0 zby_:=zN_ e.m e.u21 (okW (N:=["asking", "fields", "work"]) (body:=zbu_) (n:=1) (m:=2) (gok e.toEk) (fo e) ⟨fkc (g20 e),trivial⟩)
theorem g22 (e:En K mg):GG P w K mg base 1 "is_whole" ["value"] zc3_:=zN_ e.m e.u22 (okW (N:=["value"]) (body:=zd3_) (n:=1) (m:=0) (gok e.toEk) (fo e) trivial)
theorem g23 (e:En K mg):GG P w K mg base 2 "is_field" ["first", "last"] zc2_:=zN_ e.m e.u23 (okW (N:=["first", "last"]) (body:=zcv_) (n:=2) (m:=0) (gok e.toEk) (fo e) ⟨fkc (g22 e),fkc (g22 e),trivial⟩)
theorem g24 (e:En K mg):GG P w K mg base 1 "width_of" ["field"] zcV_:=zN_ e.m e.u24 (okW (N:=["field"]) (body:=zdQ_) (n:=1) (m:=0) (gok e.toEk) (fo e) trivial)
theorem g25 (e:En K mg):GG P w K mg base 1 "are_signs" ["text"] zba_:=zN_ e.m e.u25 (okW (N:=["text"]) (body:=zb0_) (n:=1) (m:=0) (gok e.toEk) (fo e) trivial)
theorem g26 (e:En K mg):GG P w K mg base 1 "picked_signs" ["row"] zO_:=zN_ e.m e.u26 (okW (N:=["row", "signs", "step"]) (body:=zaB_) (n:=1) (m:=2) (gok e.toEk) (fo e) trivial)
theorem g27 (e:En K mg):GG P w K mg base 1 "columns_of" ["field"] zab_:=zN_ e.m e.u27 (okW (N:=["field"]) (body:=zbs_) (n:=1) (m:=0) (gok e.toEk) (fo e) trivial)
theorem g28 (e:En K mg):GG P w K mg base 2 "pick_passes" Qn0 zae_:=zN_ e.m e.u28 (okW (N:=["asking", "row", "pick"]) (body:=zaP_) (n:=1) (m:=2) (gok e.toEk) (fo e) ⟨fkc (g27 e),trivial⟩)
theorem g29 (e:En K mg):GG P w K mg base 3 "check_picks" Qn0 zaX_:=zN_ e.m e.u29 (okW (N:=["asking", "pick"]) (body:=zaS_) (n:=1) (m:=1) (gok e.toEk) (fo e) ⟨fkc (g13 e),fkc (g24 e),fkc (g13 e),fkc (g25 e),fkc (g13 e),fkc (g26 e),fkc (g28 e),trivial⟩)
theorem g30 (e:En K mg):GG P w K mg base 3 "check_middle_widths" Qn0 zF_:=zN_ e.m e.u30 (okW (N:=["asking", "fields"]) (body:=zf_) (n:=1) (m:=1) (gok e.toEk) (fo e) ⟨fkc (g20 e),fkc (g13 e),fkc (g24 e),fkc (g24 e),trivial⟩)
theorem g31 (e:En K mg):GG P w K mg base 2 "is_column" ["value", "most"] zbd_:=zN_ e.m e.u31 (okW (N:=["value", "most"]) (body:=zb2_) (n:=2) (m:=0) (gok e.toEk) (fo e) ⟨fkc (g22 e),trivial⟩)
theorem g32 (e:En K mg):GG P w K mg base 3 "make_board" ["wires"] zbE_:=zN_ e.m e.u32 (okW (N:=["wires", "wire", "leading"]) (body:=zbC_) (n:=1) (m:=2) (gok e.toEk) (fo e) ⟨fkc (g31 e),fkc (g31 e),trivial⟩)
theorem g33 (e:En K mg):GG P w K mg base 4 "is_board" ["wires"] zcW_:=zN_ e.m e.u33 (okW (N:=["wires", "board"]) (body:=zcU_) (n:=1) (m:=1) (gok e.toEk) (fo e) ⟨fkc (g32 e),trivial⟩)
theorem g34 (e:En K mg):GG P w K mg base 5 "check_counting" Qn0 z7_:=zN_ e.m e.u34 (okW (N:=Qn0) (body:=z9_) (n:=1) (m:=0) (gok e.toEk) (fo e) ⟨fkc (g13 e),fkc (g22 e),fkc (g13 e),fkc (g13 e),fkc (g22 e),fkc (g13 e),fkc (g33 e),trivial⟩)
theorem g35 (e:En K mg):GG P w K mg base 3 "fields_kept" ["asking", "place"] za3_:=zN_ e.m e.u35 (okW (N:=["asking", "place", "fields", "other_place", "work"]) (body:=zaR_) (n:=2) (m:=3) (gok e.toEk) (fo e) ⟨fkc (g20 e),trivial⟩)
theorem g36 (e:En K mg):GG P w K mg base 1 "are_apart" ["one", "other"] zbY_:=zN_ e.m e.u36 (okW (N:=["one", "other"]) (body:=zb7_) (n:=2) (m:=0) (gok e.toEk) (fo e) trivial)
theorem g37 (e:En K mg):GG P w K mg base 4 "check_works" Qn0 zaV_:=zN_ e.m e.u37 (okW (N:=["asking", "place", "work", "field"]) (body:=zaZ_) (n:=1) (m:=3) (gok e.toEk) (fo e) ⟨fkc (g13 e),fkc (g35 e),fkc (g13 e),fkc (g36 e),trivial⟩)
theorem g38 (e:En K mg):GG P w K mg base 6 "check_asking" Qn0 zaA_:=zN_ e.m e.u38 (okW (N:=["asking", "field"]) (body:=zaG_) (n:=1) (m:=1) (gok e.toEk) (fo e) ⟨fkc (g14 e),fkc (g16 e),fkc (g19 e),fkc (g21 e),fkc (g13 e),fkc (g23 e),fkc (g29 e),fkc (g30 e),fkc (g34 e),fkc (g37 e),trivial⟩)
theorem g39 (e:En K mg):Gk P w K mg base CX0 7 "Asking" (gA K "Asking") ["self", "deck", "picks", "middle", "order", "works", "breaks", "sums", "figures", "board"] (CtG K zJ_):=zmE_ (zpk_ 5 e.m e.u61 e.u60 (λT f fd arr n oc od aj F lT hl=>bnd10 rfl F lT hl λd0 d1 d2 d3 d4 kV doc pm an ah ct u0 u1 u2 u3 u4 u5 u6 u7 u8 u9 s ⟨o,ho,hd⟩=>BindsTo.of_defaults rfl ho hd rfl rfl) (okVD (st:=zaJ_) (N:=["self", "deck", "picks", "middle", "order", "works", "breaks", "sums", "figures", "board"]) (body:=zt_) (n:=10) (m:=0) (gok e.toEk) (fo e) ⟨fkc (g12 e),fkc (g12 e),fkc (g12 e),fkc (g38 e),trivial⟩ (by decide +kernel) ⟨rfl,rfl,rfl,by decide +kernel,rfl,by decide +kernel,by decide +kernel⟩ rfl rfl))
theorem g40 (e:En K mg):GG P w K mg base 9 "_law_made" ["_law_a"] zcb_:=zN_ e.m e.u39 (okW (N:=["_law_a"]) (body:=zca_) (n:=1) (m:=0) (gok e.toEk) (fo e) ⟨fkk (g39 e),trivial⟩)
theorem g41 (e:En K mg):GG P w K mg base 1 "_law_all" ["_law_fields"] zas_:=zN_ e.m e.u40 (okW (N:=["_law_fields", "_law_found", "_law_field_here", "_law_column"]) (body:=zcM_) (n:=1) (m:=3) (gok e.toEk) (fo e) trivial)
theorem g42 (e:En K mg):GG P w K mg base 2 "_law_wanted" ["_law_a", "_law_firm", "_law_held"] zaW_:=zN_ e.m e.u41 (okW (N:=["_law_a", "_law_firm", "_law_held", "_law_fields", "_law_found", "_law_column", "_law_over"]) (body:=zh_) (n:=3) (m:=4) (gok e.toEk) (fo e) ⟨fkc (g41 e),trivial⟩)
theorem g43 (e:En K mg):GG P w K mg base 1 "_law_late" ["_law_a", "_law_firm", "_law_wanted_here"] zb3_:=zN_ e.m e.u42 (okW (N:=["_law_a", "_law_firm", "_law_wanted_here", "_law_late_here", "_law_left"]) (body:=zb1_) (n:=3) (m:=2) (gok e.toEk) (fo e) trivial)
theorem g44 (e:En K mg):GG P w K mg base 3 "_law_due" ["_law_a"] zcP_:=zN_ e.m e.u43 (okW (N:=["_law_a", "_law_held", "_law_field_here", "_law_text", "_law_k", "_law_firm", "_law_wanted_here", "_law_late_here", "_law_early", "_law_due_here"]) (body:=zd_) (n:=1) (m:=9) (gok e.toEk) (fo e) ⟨fkc (g41 e),fkc (g42 e),fkc (g43 e),trivial⟩)
theorem g45 (e:En K mg):GG P w K mg base 3 "wanted_signs" Qn0 z0_:=zN_ e.m e.u44 (okW (N:=Qn0) (body:=zaC_) (n:=1) (m:=0) (gok e.toEk) (fo e) ⟨fkc (g26 e),fkc (g28 e),trivial⟩)
theorem g46 (e:En K mg):GG P w K mg base 1 "deals_of" ["name", "columns"] zcX_:=zN_ e.m e.u45 (okW (N:=["name", "columns"]) (body:=zcJ_) (n:=2) (m:=0) (gok e.toEk) (fo e) trivial)
theorem g47 (e:En K mg):GG P w K mg base 4 "free_columns" ["asking", "fields"] zM_:=zN_ e.m e.u46 (okW (N:=["asking", "fields", "signs", "columns", "field", "column"]) (body:=zaE_) (n:=2) (m:=4) (gok e.toEk) (fo e) ⟨fkc (g45 e),fkc (g27 e),trivial⟩)
theorem g48 (e:En K mg):GG P w K mg base 5 "middle_columns" Qn0 zaa_:=zN_ e.m e.u47 (okW (N:=Qn0) (body:=z8_) (n:=1) (m:=0) (gok e.toEk) (fo e) ⟨fkc (g47 e),fkc (g20 e),trivial⟩)
theorem g49 (e:En K mg):GG P w K mg base 1 "is_first" Qn0 zaO_:=zN_ e.m e.u48 (okW (N:=Qn0) (body:=zd2_) (n:=1) (m:=0) (gok e.toEk) (fo e) trivial)
theorem g50 (e:En K mg):GG P w K mg base 1 "cut_behind" ["columns", "needed"] zbq_:=zN_ e.m e.u49 (okW (N:=["columns", "needed", "length"]) (body:=zbt_) (n:=2) (m:=1) (gok e.toEk) (fo e) trivial)
theorem g51 (e:En K mg):GG P w K mg base 6 "wanted_columns" Qn0 zq_:=zN_ e.m e.u50 (okW (N:=["asking", "columns"]) (body:=zP_) (n:=1) (m:=1) (gok e.toEk) (fo e) ⟨fkc (g47 e),fkc (g20 e),fkc (g49 e),fkc (g50 e),fkc (g48 e),trivial⟩)
theorem g52 (e:En K mg):GG P w K mg base 1 "is_late_length" ["middle", "wanted", "length", "first"] zx_:=zN_ e.m e.u51 (okW (N:=["middle", "wanted", "length", "first", "left", "behind"]) (body:=z3_) (n:=4) (m:=2) (gok e.toEk) (fo e) trivial)
theorem g53 (e:En K mg):GG P w K mg base 7 "late_length" Qn0 zai_:=zN_ e.m e.u52 (okW (N:=["asking", "middle", "wanted", "length"]) (body:=za2_) (n:=1) (m:=3) (gok e.toEk) (fo e) ⟨fkc (g48 e),fkc (g51 e),fkc (g52 e),fkc (g49 e),trivial⟩)
theorem g54 (e:En K mg):GG P w K mg base 8 "early_columns" Qn0 zW_:=zN_ e.m e.u53 (okW (N:=["asking", "middle", "behind"]) (body:=zam_) (n:=1) (m:=2) (gok e.toEk) (fo e) ⟨fkc (g48 e),fkc (g51 e),fkc (g53 e),trivial⟩)
theorem g55 (e:En K mg):GG P w K mg base 3 "other_deals" Qn0 zaY_:=zN_ e.m e.u54 (okW (N:=Qn0) (body:=zX_) (n:=1) (m:=0) (gok e.toEk) (fo e) ⟨fkc (g15 e),fkc (g46 e),fkc (g17 e),fkc (g27 e),fkc (g20 e),trivial⟩)
theorem g56 (e:En K mg):GG P w K mg base 3 "middle_goings" Qn0 zak_:=zN_ e.m e.u55 (okW (N:=["asking", "fields"]) (body:=zbl_) (n:=1) (m:=1) (gok e.toEk) (fo e) ⟨fkc (g20 e),fkc (g49 e),trivial⟩)
theorem g57 (e:En K mg):GG P w K mg base 1 "break_fields" Qn0 zaD_:=zN_ e.m e.u56 (okW (N:=Qn0) (body:=zaI_) (n:=1) (m:=0) (gok e.toEk) (fo e) trivial)
theorem g58 (e:En K mg):GG P w K mg base 2 "last_goings" Qn0 za4_:=zN_ e.m e.u57 (okW (N:=["asking", "goings"]) (body:=zaN_) (n:=1) (m:=1) (gok e.toEk) (fo e) ⟨fkc (g57 e),trivial⟩)
theorem g59 (e:En K mg):GG P w K mg base 9 "plan_of" Qn0 zbf_:=zN_ e.m e.u58 (okW (N:=["asking", "signs", "plan"]) (body:=zdJ_) (n:=1) (m:=2) (gok e.toEk) (fo e) ⟨fkc (g45 e),fkc (g46 e),fkc (g54 e),fkc (g55 e),fkc (g56 e),fkc (g46 e),fkc (g51 e),fkc (g53 e),fkc (g58 e),trivial⟩)
theorem g60 (e:En K mg):OkF P w K mg base CX0 10 "law" "law" s_law ["_law_script"] (CtG K zpf_):=okW (N:=["_law_script", "_law_a", "_law_asking_here", "_law_due_here", "_law_found", "_law_going", "_law_again"]) (body:=ziN_) (n:=1) (m:=6) (gok e.toEk) (fo e) ⟨fkc (g11 e),fkc (g40 e),fkc (g44 e),fkc (g59 e),fkc (g59 e),trivial⟩
end
theorem all_mk {l:sQ}{w:mq}{K:Fgg}{h:Heap}{mg:Str->Option aT}{fa:lu}(X:K.In h)(G:h.Ns lS mg)(gF:mg "law"=uD (.ref fa))(k:Ek K):
  ∃fd:mW,(∀(s:ll) (v:aT),BindsTo s fd ⟨[v],[]⟩ [("_law_script",v)])/\∀base:Heap,K.In base->base.Ns lS mg->FnOk l.prog w K mg base CX0 10 fa fd ["_law_script"] (spL K):=by
 have e:En K mg:=⟨k,_,X,G⟩;refine okLaw e.m e.u59 gF (λ_ _ _ _ _ _ _ _=>rfl) λbase f fd F=>?_
 exact okLV (g60 (P:=l.prog) (w:=w) (base:=base) e f fd F).1 zkl_
theorem walk {l:sQ}{q:lY}{loose:List Str}{XP:(Str->Option aT)->Heap->Prop}{YP:mq->Heap->Prop}{d:DefRec}{K:Params->Fgg}(hn:l.most=uD 63)(eO:d.params.defaults=[])
  (hY:∀(w:mq) (h:Heap),YP w h->(K w.params).In h)
  (F:∀(w:mq) (mg:Str->Option aT) (fa:lu) (h:Heap),(K w.params).In h->h.Ns lS mg->mg d.name=uD (.ref fa) ->
   ∃fd:mW,(∀(s:ll) (u:aT),BindsTo s fd ⟨[u],[]⟩ [("_law_script",u)])/\∀base:Heap,(K w.params).In base->base.Ns lS mg->FnOk l.prog w (K w.params) mg base CX0 10 fa fd ["_law_script"] (spL (K w.params))):
  W.WalkO q loose XP YP l.row.toRowW d [] (λf vs=>sr f vs):=
 L2.zkZ_ (n:=63) (k:=10) (x:="_law_script") (CX:=λ_=>CX0) (sp:=λw=>spL (K w.params)) hn (by decide) eO ⟨rfl,by decide,by decide⟩ hY F (λ_ _ a ns hl hb _ hS=>⟨a,ns,rfl,hS,hl,hb,λ_=>rfl⟩) λ_ _ _ _ _ z=>z
end K64
open PySem PySem.W PyProof.Rows
set_option maxRecDepth 100000 in
set_option maxHeartbeats 0 in
theorem PySem.Challenge.cw_cardshop_k64_the_plan_told_holds : PySem.Challenge.rw_cardshop_k64_the_plan_told.Holds := by
 w_on;o_law;k_head;(case hw=>w_witness2)
 k_fill
 refine K64.walk (l:=PySem.Challenge.rw_cardshop_k64_the_plan_told) rfl rfl (λw h Y=>W.kIn_of Y) ?F
 case F=>
  intro w mg fa h KX G d9;refine K64.all_mk KX G d9 ?_;constructor
  all_goals first |(refine' L2.FmD.mk_ ?x0 ?x1 ?x2 ?x3 ?x4 ?x5 ?x6 ?x7;(case x0=>k_is);(case x1=>k_is);(case x2=>k_is);(case x3=>k_is);(case x4=>k_is);(case x5=>k_is);(case x6=>k_is);(case x7=>(show _=_;kernel_rfl!)))|(refine' L2.Fg.mk_ ?x0 ?x1 ?x2 ?x3;(case x0=>k_is);(case x1=>k_is);(case x2=>k_is);(case x3=>k_is))|(refine' L2.Fm.mk_ ?x0 ?x1 ?x2 ?x3 ?x4 ?x5;(case x0=>k_is);(case x1=>k_is);(case x2=>k_is);(case x3=>k_is);(case x4=>k_is);(case x5=>k_is))|(refine' L2.Fc.mk_ ?x0 ?x1 ?x2 ?x3 ?x4 ?x5 ?x6;(case x0=>k_is);(case x1=>k_is);(case x2=>k_is);(case x3=>k_is);(case x4=>k_is);(case x5=>k_is);(case x6=>k_is))|(refine' L2.Fa.mk_ ?x0 ?x1;(case x0=>k_is);(case x1=>k_is))|(delta L2.Fb;k_is)|(refine' L2.Fv.mk_ ?x0 ?x1;(case x0=>k_is);(case x1=>first |exact⟨_,rfl⟩|rfl))|(refine' L2.Fk.mk_ ?x0;(case x0=>k_is))|(refine' L2.Fe1.mk_ ?x0 ?x1;(case x0=>k_is);(case x1=>(show _=_;kernel_rfl!)))|(refine' L2.FtT.mk_ ?x0 ?x1 ?x2 ?x3;(case x0=>k_is);(case x1=>k_is);(case x2=>(show _=_;kernel_rfl!));(case x3=>decide))
#print axioms PySem.Challenge.cw_cardshop_k64_the_plan_told_holds
