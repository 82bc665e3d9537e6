import PyProof.Rows.All
import Wide.All
import OpenK.AllK
import Wide.FinOn
import Lean
import PyProof.EqAt
import PyProof.EqKinds
import PyProof.TupleCall
import PyProof.StrLawsRepr
import PyProof.NeKinds
import KE.KTryMore
import PyProof.Rows.TupIter
import PyProof.InstStoreFacts
import PyProof.ExcInit
import KE.KEqDict
import KE.KDictOf
import KE.KPairComp
import PySem.Challenge.RW_cardshop_k51_worked
set_option Elab.async false
set_option compiler.extract_closed false
set_option linter.all false
set_option maxRecDepth 100000
set_option maxHeartbeats 4000000
namespace PySem.W.Fast
def tw13954473944891837024:=()
def tw508802881046058227:=()
def tw11129593003068814740:=()
def tw18007023121436706530:=()
def tw728861488153640255:=()
def tw11340649944885987865:=()
def tw2080623915259362944:=()
def tw890580014916187912:=()
def tw9788292734158419402:=()
def tw15947945660893566259:=()
def tw5062288339596173722:=()
def tw13041078663609460190:=()
def tw6831411035315329735:=()
def tw6671052053078785404:=()
def tw9515779731057225927:=()
def tw10389177073917081284:=()
def tw10014294662908978058:=()
def tw17435301869235773681:=()
def tw17296313519088852521:=()
def tw7152675812849448283:=()
def tw18079607563597393332:=()
def tw1435461100878425038:=()
def tw10726858851701073734:=()
def tw4827063073106765653:=()
def tw1195848406549026722:=()
def tw16599921514369313293:=()
def tw13127244025241531716:=()
def tw199791446664657716:=()
def tw17286932588179162830:=()
def tw9117443840327497748:=()
def tw9780819919914731537:=()
def tw12905637312164535896:=()
def tw12722041080248117607:=()
def tw10370014469761825677:=()
def tw13787905215286943168:=()
def tw11726510126416498780:=()
def tw5148000818307845932:=()
def tw7959669238287004931:=()
def tw2275953715479112436:=()
def tw4739985187773204:=()
def tw792538785449286576:=()
def tw11207100468990517877:=()
def tw13960783290247841372:=()
def tw9201332315994961301:=()
def tw12741159123383200105:=()
def tw4144868544493325323:=()
def tw629617579276753557:=()
def tw7871324115301962753:=()
def tw4182230309961562161:=()
def tw3624049775451176150:=()
def tw1429105796756603833:=()
def tw1379828039761297313:=()
def tw9996219953626649544:=()
def tw354994188045177647:=()
def tw13112947520612473087:=()
def tw6468734121886240337:=()
def tw2345218838028593777:=()
def tw8399844329128978810:=()
def tw16320340950954199317:=()
def tw11025699429068844166:=()
def tw11546491506407703182:=()
def tw6171826769322660756:=()
def tw11650869972176631930:=()
def tw12224409419280869080:=()
def tw5960313296110465518:=()
def tw824337957872152278:=()
def tw491201838701859074:=()
def tw7138771099122528380:=()
def tw6059008134606819967:=()
def tw2425720188435089106:=()
def tw13604797245977744137:=()
def tw16262289596963512840:=()
def tw17702017848571605604:=()
def tw9204884467563345707:=()
def tw4657467955518114067:=()
def tw8288895916628852367:=()
def tw2539656952154443248:=()
def tw12629813400640974802:=()
def tw896741974620581981:=()
def tw14806186558355521943:=()
def tw7236050590010569188:=()
def tw16754392476998434319:=()
def tw6277487813192585483:=()
def tw16025569526408704107:=()
def tw17641839621832890259:=()
def tw9070413274546329487:=()
def tw9541496846603396176:=()
def tw3880201515998835129:=()
def tw10085062362650020356:=()
def tw2701965435042116943:=()
def tw3669891738923884368:=()
def tw18344455624013347885:=()
def tw3289817155685282623:=()
def tw10100674056971557199:=()
def tw960466638209389026:=()
def tw10002805269246291587:=()
def tw12560360421208639473:=()
def tw3174356404841221607:=()
def tw8676641960932541498:=()
def tw8886808741243399184:=()
def tw14793520612563933856:=()
def tw469201640916053720:=()
def tw15039957495073815095:=()
def tw11117871342980181939:=()
def tw9990728323926436134:=()
def tw5747559487957567722:=()
def tw7199658254304154129:=()
def tw11684695794185356852:=()
def tw6962075255897489451:=()
def tw9875501145631444554:=()
def tw1351823916582135440:=()
def tw11542999868718146302:=()
def tw7812599537975001686:=()
def tw11781418011212307422:=()
def tw2690837068136376812:=()
def tw14829683613767378070:=()
def tw12755241724361183:=()
def tw2174460892456856693:=()
def tw7288382141410589940:=()
def tw5220224766091451753:=()
def tw15742388064867109073:=()
def tw9691250378948940117:=()
def tw4679611585962033150:=()
def tw8363500209808736484:=()
def tw1434349074138653879:=()
def tw16498162772519240981:=()
def tw6584140852502066314:=()
def tw7826784487381818466:=()
def tw15215284641355031380:=()
def tw8661974198622465140:=()
def tw1736742888278377875:=()
def tw424223843210678467:=()
def tw10383995929456667317:=()
def tw17626697129913340767:=()
def tw3319972449620615829:=()
def tw8260169194421187477:=()
def tw14422844681613523982:=()
def tw2079543984825074907:=()
def tw16942713559333329168:=()
def tw16273126201511444957:=()
def tw11775176219613188579:=()
def tw2793369086107974643:=()
def tw8882339277780623300:=()
def tw2752526682395573685:=()
def tw9726262520803279331:=()
def tw7164356423716155362:=()
def tw15977462334351852668:=()
def tw5551958698360874447:=()
def tw5322038808500943125:=()
def tw13863991087017878975:=()
def tw1741862078489627118:=()
def tw5189660230790510254:=()
def tw14739924314157678885:=()
def tw17691246256996953615:=()
def tw9064163154745273545:=()
def tw16639212038515658543:=()
def tw3983436701284247497:=()
def tw15419084576301784622:=()
def tw13543915661325785460:=()
def tw6568667288736096274:=()
def tw9513879555449716266:=()
def tw16583354450074056592:=()
def tw13667976849752070993:=()
def tw16904731676162604694:=()
def tw7462565684545061598:=()
def tw11604626170084991296:=()
def tw15093176622998055840:=()
def tw14853190641147889289:=()
def tw5578680003792291460:=()
def tw11336868221372831761:=()
def tw11916323392275012308:=()
def tw9726720582214134659:=()
def tw8862503094018827745:=()
def tw5639545322765640292:=()
def tw18413955280002847610:=()
def tw9078034769562074146:=()
def tw12301030701454307642:=()
def tw18409030769565908327:=()
def tw3867876594452574400:=()
def tw14318588625479858908:=()
def tw8546901943699708394:=()
def tw9998848427329230960:=()
def tw7199945400527149047:=()
def tw18099082634256857084:=()
def tw12979819162913414858:=()
def tw17545164207569855629:=()
def tw16463697117731897777:=()
def tw9616496217495128185:=()
def tw6030355142610139828:=()
def tw3860168172346958921:=()
def tw12395214037722233103:=()
def tw11513455746714985932:=()
def tw11446178522752507069:=()
def tw628246496156512487:=()
def tw11169289390006401741:=()
def tw12059505620552056616:=()
def tw13313909918399075720:=()
def tw2476823072957997451:=()
def tw14054348622289483943:=()
def tw17049913934127532128:=()
def tw15440533731310307404:=()
def tw11220445177707065339:=()
def tw7869126039903891030:=()
def tw10714468076871412770:=()
def tw8193548940039720592:=()
def tw10856105189022857129:=()
def tw3419945028823363024:=()
def tw8838921603566377138:=()
def tw8160655736476268922:=()
def tw1033268732310593977:=()
def tw7950469049514699734:=()
def tw4773812599076027673:=()
def tw11494053034572393998:=()
def tw17097887018839296584:=()
def tw4730139424925803246:=()
def tw5054034298611373460:=()
def tw371801858074752747:=()
def tw6113366748465121330:=()
def tw4472309416881015862:=()
def tw12696040284981770171:=()
def tw7177191113224682072:=()
def tw7486758280355869224:=()
def tw15231271968933254986:=()
def tw5291245341992865627:=()
def tw11188506447992686417:=()
def tw4425646081311960567:=()
def tw12273529817830038386:=()
def tw3094382015781177813:=()
def tw575275778574818810:=()
def tw9849460973844097450:=()
def tw14773137932360068215:=()
def tw9524159783635558679:=()
def tw11965219865154602411:=()
def tw4827168016529570458:=()
def tw10579748865206456540:=()
def tw7968241634892763499:=()
def tw17433477371767383373:=()
def tw6463230977058712518:=()
def tw18377116244313407483:=()
def tw17118780129831499684:=()
def tw459633165317262853:=()
def tw16139436841848998717:=()
def tw11072467316778247528:=()
def tw9341486798975811190:=()
def tw11753664734966132619:=()
def tw1584279015889916129:=()
def tw3979990674445264030:=()
end PySem.W.Fast
set_option genSizeOf false
set_option genSizeOfSpec false
set_option bootstrap.genMatcherCode false
noncomputable section
open PySem renaming Value→aU,wpAny_bind→kP,Shared→kR,Addr→k9,sizeLine→lA,wpAny_pure→lB,Expr→lF,mainGlobals→lH,wpAny→lK,compareOp→lP,Program→lQ,starEach→lW,wpAny_truthy_bool→l6,strIterType→l7,World→l9,Around→mh,Stmt→mi,mem_of_lookup→ml,wpAny_mono→mK,FuncData→mO,binaryOp→m8,assignEach→nh,bootBuiltins→nH,wpAny_field→nO,wpAny_Call_Name_kw→nS,NameKind→nU,wpAny_setField_rec→nX,IsPair→og,backTo→oz,wpAny_passesOwn→pz,keywordEach→pQ,Builtin→qd,Within→qw,backToKw→qO,call→sQ,Obj→sX,Args→uI
open Bool renaming and_eq_true→kJ,and_eq_true_iff→l4,false_ne_true→mw,or_eq_true→oq,false_eq_true→p6,not_eq_true'→qb,and_true→qY,false_or→tj,true→uP,false→uQ
open PySem.Heap renaming get?_push_of_some→kQ,lt_size→lh,get?_push_size→lC,size_push→nR,ExtBut→oy,SameBut→o6,get?_update_other→qB,get?_push_cases→qP,get?_push_ne→rN,size_update→rX
open List renaming length_map→kX,getElem?_eq_getElem→kY,size_toArray→k8,length_cons→lg,map_cons→lj,getElem?_map→lu,getElem?_eq_some_iff→lD,length_append→lE,mem_cons→lI,replicate→lJ,mem_cons_of_mem→lL,getD_eq_getElem?_getD→lM,mem_cons_self→lO,getElem?_set_ne→lR,mem_append_right→lU,zip_cons_cons→l0,isEmpty_iff→l5,map_map→l8,range→mf,exists_cons_of_length_eq_add_one→mj,length_eq_zero_iff→mn,length_range→mr,all_eq_true→mC,all_cons→mD,length_zip→mF,length_drop→mG,cons_append→mH,replicate_succ→mJ,getElem?_eq_none→mL,getElem?_append_right→mP,length_take→mQ,getElem?_append_left→mS,singleton_append→mT,mem_of_getElem?→mV,mem_range→mZ,getElem?_set_self→m4,length_eq_one_iff→m5,length_set→m6,find?_cons→m7,length_singleton→m9,mem_singleton→nj,flatten_cons→nr,append_assoc→nu,getElem?_set→nv,ext_getElem?→ny,getElem?_cons_succ→nz,nil_append→nC,map_congr_left→nG,map_nil→nJ,mem_map→nL,find?_cons_of_neg→nM,of_mem_zip→oj,map_append→om,take_of_length_le→oI,set_cons_zero→oM,append_nil→oO,nodup_cons→oP,foldl_cons→oQ,mem_append_left→oX,not_mem_nil→o8,getElem?_zip_eq_some→pd,drop_eq_getElem_cons→pf,any_cons→pq,length_nil→pA,set_cons_succ→pB,getElem?_take→pC,getElem?_drop→pD,lookup→pF,set_set→pG,foldl_append→pI,lookup_cons→pM,getElem?_mapIdx→pR,filterMap_cons→pV,getElem_of_mem→pX,findIdx?_eq_none_iff→p7,getElem?_eq_none_iff→p8,nodup_append→qf,take_nil→qi,getElem_mem→qp,drop_length→qq,map_snd_zip→qt,any_eq_true→qv,foldl→qC,drop_eq_nil_of_le→qH,mem_append→qI,forIn_cons→qK,getElem?_toArray→qL,length→qN,getElem?_append→qS,filter_eq_self→qV,flatMap_append→qW,mem_filterMap→rf,getElem_range→rp,pairwise_cons→rB,zip_map_right→rE,any_eq_false→rF,toArray→rL,flatMap_cons→rO,getElem_inj→rP,zipIdx_cons→rV,map_reverse→r9,mem_filter→sj,zipIdx_nil→sy,idxOf_cons→sD,drop_zero→sM,forIn_nil→sS,findIdx?→sZ,drop_nil→tm,set_comm→tq,map_drop→tu,map_take→tw,map_id→uD
open Nat renaming le_refl→kZ,lt_of_lt_of_le→lG,ne_of_lt→lN,zero_le→me,le_trans→mq,le_of_lt→nI,le_of_ble_eq_true→nY,le_succ→ot,min_self→ox,ne_of_gt→oH,lt_irrefl→oT,lt_succ_of_lt→oV,lt_succ_self→o7,le_of_not_lt→pL,toDigits_of_lt_base→qo,le_of_eq→qz,pow_succ→qE,toDigits→qF,pow_le_pow_right→qR,digitChar→qX,mul_comm→rG,zero_add→rM,le_add_right→rY,le_antisymm→sv,lt_trans→tM,sub_self→tN
open Option renaming bind_eq_some_iff→lp,map_eq_some_iff→lq,isNone_iff_eq_none→n6,isSome_map→qc,isSome_iff_exists→qg,isSome_some→rq,getD_none→rT,none→uy,some→uN,none→uO
open PySem.Obj renaming mapSeq→lV
open Option.some renaming inj→lX
open PySem.W renaming Frag→lY,Frag→mB,nsIn→ng,findIn→nQ,keepIn→oF,emptyDict→oG,kia_one→oU,instObj→pJ,codeIn→pP,kla_fn→p5,hasDictIn→p9,plainGet→qy,plainOver→qM,mg_of→rJ,makesIn→rQ,cellsFrom_some→rR,methodObj→sf,specialIn→si,tabIn→sG,kla_fn→sU,takerIn→tB,OpenLaw→tE,callWith_K→tJ,isFn→tK,lookIn→uw,kitOne→ux
open False renaming elim→lZ
open Int renaming emod_nonneg→mm,emod_lt_of_pos→mx,eq_ofNat_of_zero_le→nA,ne_of_gt→oN,natCast_pow→oS,pow_succ→pH,mul_assoc→pO,toNat_natCast→qe,lt_of_lt_of_le→rD,ediv_one→tL,mul_comm→t7
open Array renaming getElem?_toList→my,length_toList→mz,getD_eq_getD_getElem?→mM,getElem?_eq_some_iff→nW,getElem?_eq_none_iff→oY,perm_iff_toList_perm→p4,toList→qx,getD→rA
open PySem.Value renaming ref→mE,none→mY,bool→oW,str→pE,int→qk,type→rd,float→se,isStrOf→sY,isInt→uu,bytes→uv
open True renaming intro→mN
open Nat.succ renaming inj→mR
open PySem.Builtin.SmallTypes renaming ownedTupleIsFree→mU,nextOf→oh,ownedTupleHandOut→ph
open PyProof.Rows renaming callWith_type1→mW,slot_tuple_getitem→oE,callWith_builtin1→rS,lt_int→uE
open PySem.Builtin.Str renaming strSliceIndices→mX,occurrences→nq,tooLong→pW,padded→rm,glued→uK
open PySem.Str renaming length→ni,ofString→ou,empty→tD
open PySem.Builtin.Int renaming intBits→nE,intTooBig→t9
open PySem.Builtin.Slice renaming slicePlaces→n5,sliceAdjust→pb,sliceApplied→pZ,slicePartIndex→so,sliceFields→sW
open PySem.Builtin.Tuple renaming tupleExact→oA,tupleItemsOf→sL
open PySem.Builtin.List renaming listTooLong→oB,listExtendWith→sJ
open PySem.SeqAt renaming RcAt→oJ,RcNeAt→o9,ne_of_list_tuple→qG,EqAt→rg
open PySem.Heap.SameBut renaming update→pj
open PySem.Env renaming kindOf→pN
open PySem.Builtin renaming divisionGoesByPylong→pS
open PySem.F renaming slot_zip_next→pT,slot_dict_setdefault→pU,args_tuple_add_2→qh,entry_tuple_add→qm,plain_list_iadd→qr,slot_tuple_add→qA,slot_list_lt→qQ,args_zip_next_1→rH,entry_zip_next→rW,slot_int_rmul→sr
open Ne renaming symm→pY
open PySem.StrLaws renaming subAt_one→qa
open List.cons renaming inj→qj
open PySem.Builtin.Range renaming rangeSize→ql
open PySem.SeqAt.EqAt renaming same→qJ,int_str→qZ,str_int→q9,int_int→rj
open Sum renaming inl→qT,inr→qU
open PySem.SeqAt.RcNeAt renaming lists_lengths→sO,tuple_none→tF,tuple_bool→tG,none_tuple→tH,bool_tuple→tI,none_none→tO,none_bool→tP,bool_none→tQ,bool_bool→tR,list_none→tS,list_bool→tT,none_list→tU,bool_list→tV,tuple_int→tW,tuple_str→tX,int_tuple→tY,str_tuple→tZ,none_int→ud,none_str→ue,bool_int→uf,bool_str→ug,int_none→uh,int_bool→ui,str_none→uj,str_bool→uk,list_int→um,list_str→uo,int_list→uq,str_list→ur,int_int→uz,int_str→uA,str_int→uB,str_str→uC,tuples→uF,lists→uH
open List.Perm renaming refl→sV
open PySem.Heap.IsSliceOf renaming new→uG
open PySem.Within renaming cons→uJ
open List.Pairwise renaming nil→uL
open PySem.Heap.DictOf renaming new→uM
namespace L2
open PySem PySem.Spec PyProof.Rows
theorem sN.{u}{α:Type u}(a:α):uN a≠uO:=Option.some_ne_none a
noncomputable abbrev Fgg:=lY
noncomputable abbrev Pnn:=List (k9×sX)
noncomputable abbrev Key:=Sum Int Str
def keyIs:Key->aU->Bool
 |.inl k,v=>uu k v
 |.inr x,v=>sY x v
def keyH (w:l9):Key->Int
 |.inl k=>hashInt k
 |.inr x=>hashStr w x
theorem zn_:∀{k:Key}{v:aU},keyIs k v=uP->(∃i t,k=qT i/\v=qk i t)\/(∃x t,k=qU x/\v=pE x t)
 |.inl i,v,h=>by
  obtain⟨t,e⟩:=Value.isInt_shape (k:=i) (v:=v) h;exact .inl ⟨i,t,rfl,e⟩
 |.inr x,v,h=>by
  obtain⟨t,e⟩:=Value.isStrOf_shape (x:=x) (v:=v) h;exact .inr ⟨x,t,rfl,e⟩
theorem zhk_ (i:Int)(t:Tok):keyIs (.inl i) (.int i t)=uP:=by simp[keyIs,uu]
theorem zhM_ (x:Str)(t:Tok):keyIs (.inr x) (.str x t)=uP:=by simp[keyIs,sY]
theorem zou_ (a b:Int):decide ((qT a:Key)=qT b)=(a == b):=by
 by_cases e:a=b
 ·subst e;simp
 ·have h:¬(qT a:Key)=qT b:=λq=>e (Sum.inl.inj q)
  rw[decide_eq_false h];exact(beq_eq_false_iff_ne.mpr e).symm
theorem zp1_ (a b:Str):decide ((qU a:Key)=qU b)=decide (a=b):=by
 by_cases e:a=b
 ·subst e;simp
 ·have h:¬(qU a:Key)=qU b:=λq=>e (Sum.inr.inj q)
  rw[decide_eq_false h,decide_eq_false e]
theorem zqE_ (a:Int)(b:Str):decide ((qT a:Key)=qU b)=uQ:=decide_eq_false (λq=>nomatch q)
theorem zoB_ (a:Str)(b:Int):decide ((qU a:Key)=qT b)=uQ:=decide_eq_false (λq=>nomatch q)
def mixKind (prog:lQ)(w:l9):PySem.KeyKind prog w Key where
 is:=keyIs
 hash:=keyH w
 inj:=λv a b ha hb=>by
  rcases zn_ ha with⟨i,t,rfl,rfl⟩|⟨x,t,rfl,rfl⟩
  ·rcases zn_ hb with⟨j,u,rfl,e⟩|⟨y,u,rfl,e⟩
   ·injection e with e1 _;rw[e1]
   ·exact nomatch e
  ·rcases zn_ hb with⟨j,u,rfl,e⟩|⟨y,u,rfl,e⟩
   ·exact nomatch e
   ·injection e with e1 _;rw[e1]
 byValue:=λk v h=>by
  rcases zn_ h with⟨i,t,rfl,rfl⟩|⟨x,t,rfl,rfl⟩<;>rfl
 pyHash:=λhv h=>by
  rcases zn_ hv with⟨i,t,rfl,rfl⟩|⟨x,t,rfl,rfl⟩
  ·exact wpAny_pyHash_int h
  ·exact wpAny_pyHash_str h
 eqBool:=λhu hv h=>by
  rcases zn_ hu with⟨i,t,rfl,rfl⟩|⟨x,t,rfl,rfl⟩
  ·rcases zn_ hv with⟨j,u,rfl,rfl⟩|⟨y,u,rfl,rfl⟩
   ·rw[zou_]at h;exact wpAny_eqBool_int h
   ·rw[zqE_]at h;exact qZ i t y u _ _ _ _ h
  ·rcases zn_ hv with⟨j,u,rfl,rfl⟩|⟨y,u,rfl,rfl⟩
   ·rw[zoB_]at h;exact q9 x t j u _ _ _ _ h
   ·rw[zp1_]at h;exact wpAny_eqBool_str h
 «strs»:=λk x t v h=>by
  rcases zn_ h with⟨i,u,rfl,e⟩|⟨y,u,rfl,e⟩
  ·exact nomatch e
  ·injection e with e1 _
   subst e1;cases v<;>rfl
theorem zgT_ (prog:lQ)(w:l9)(k:Key)(v:aU):(mixKind prog w).is k v=keyIs k v:=rfl
theorem ze3_ (prog:lQ)(w:l9)(i:Int)(t:Tok):(mixKind prog w).is (.inl i) (.int i t)=uP:=zhk_ i t
theorem zeW_ (prog:lQ)(w:l9)(x:Str)(t:Tok):(mixKind prog w).is (.inr x) (.str x t)=uP:=zhM_ x t
inductive V where
 |non |bl (b:Bool)|int (i:Int)|str (x:Str)|byt (b:Array UInt8)|flt (b:UInt64)|ref (a:k9)|ty (n:String)
 deriving DecidableEq
noncomputable def RelV:V->aU->Prop
 |.non,u=>u=mY
 |.bl b,u=>u=oW b
 |.int i,u=>∃t,u=qk i t
 |.str x,u=>∃t,u=pE x t
 |.byt b,u=>∃t,u=uv b t
 |.flt b,u=>∃t,u=se b t
 |.ref a,u=>u=mE a
 |.ty n,u=>u=rd n
abbrev Vals:List V->List aU->Prop:=Paired RelV
theorem Vals.length {xs:List V}{us:List aU}(r:Vals xs us):xs.length=us.length:=Paired.length r
theorem Vals.get:∀{xs:List V}{us:List aU}{i:Nat}{x:V},Vals xs us->xs[i]?=uN x->∃u,us[i]?=uN u/\RelV x u
 |_,_,_,_,.nil,e=>by simp at e
 |_,_,0,_,.cons r _,e=>by simp at e;subst e;exact⟨_,rfl,r⟩
 |_,_,i+1,x,.cons _ t,e=>by
  obtain⟨u,h1,h2⟩:=Vals.get (i:=i) (x:=x) t (by simpa using e)
  exact⟨u,by simpa using h1,h2⟩
theorem Vals.set {x:V}{u:aU}(r:RelV x u):∀{xs:List V}{us:List aU}(i:Nat),Vals xs us->Vals (xs.set i x) (us.set i u)
 |_,_,_,.nil=>.nil
 |_,_,0,.cons _ t=>.cons r t
 |_,_,i+1,.cons q t=>.cons q (Vals.set r i t)
theorem Vals.append:∀{xs ys:List V}{us ws:List aU},Vals xs us->Vals ys ws->Vals (xs++ys) (us++ws)
 |_,_,_,_,.nil,s=>s
 |_,_,_,_,.cons r t,s=>.cons r (Vals.append t s)
theorem Vals.take:∀{xs:List V}{us:List aU}(n:Nat),Vals xs us->Vals (xs.take n) (us.take n)
 |_,_,0,_=>.nil
 |_,_,_+1,.nil=>.nil
 |_,_,n+1,.cons r t=>.cons r (Vals.take n t)
theorem Vals.drop:∀{xs:List V}{us:List aU}(n:Nat),Vals xs us->Vals (xs.drop n) (us.drop n)
 |_,_,0,r=>r
 |_,_,_+1,.nil=>.nil
 |_,_,n+1,.cons _ t=>Vals.drop n t
def RelO:Option V->Option aU->Prop
 |some v,uN u=>RelV v u
 |none,uO=>True
 |_,_=>False
def KV {κ:Type}:List (κ×V)->List (κ×aU)->Prop:=Paired λ(p:κ×V) (q:κ×aU)=>p.1=q.1/\RelV p.2 q.2
def kV:Key->V
 |.inl i=>.int i
 |.inr x=>.str x
inductive HO where
 |lst (xs:List V)
 |tup (xs:List V)
 |dK (kvs:List (Key×V))|dT (kvs:List (List Key×V))
 |set (S:Int->Bool) (n:Nat)
 |ins (C dx:k9) (fs:List (Str×V))
 |own (x:k9)
 |xd (fs:List (Str×V))
 |met (f x:k9)
 |rng (lo hi:Int)
 |frz (o:sX) (u:HO)
 |tbl (pos:Pos) (qual:Str)
 |ext (φ:Heap->Prop)
noncomputable abbrev Hp:=k9->Option HO
def upd (H:Hp)(a:k9)(o:HO):Hp:=λb=>if b=a then uN o else H b
theorem ze_ {H:Hp}{a:k9}{o:HO}:upd H a o a=uN o:=by unfold upd;rw[if_pos rfl]
theorem zc_ {H:Hp}{a b:k9}{o:HO}(h:b≠a):upd H a o b=H b:=by unfold upd;rw[if_neg h]
theorem ne_of {H:Hp}{a b:k9}{o u:HO}(h:H a=uN o)(h':H b=uN u)(d:o≠u):a≠b:=by
 intro e;subst e;rw[h]at h';exact d (lX h')
theorem zd_ {H:Hp}{a b:k9}{o:HO}(h:H a=uN o)(h':H b=uO):a≠b:=by
 intro e;subst e;rw[h]at h';cases h'
section
variable (P:lQ)(w:l9)
def ObjOk (H:Hp)(h:Heap)(a:k9):HO->Prop
 |.lst xs=>xs.length<=lA/\∃(aa:List aU) (n:Nat),Vals xs aa/\h.get? a=uN {cls:=.type "list",data:=.seq aa.toArray n}
 |.tup xs=>xs.length<=lA/\∃aa:List aU,Vals xs aa/\IsTup h a aa.toArray
 |.dK kvs=>kvs.length<=lA/\(a == sysModules)=uQ/\∃vs,KV kvs vs/\h.DictOf (mixKind P w) a vs
 | .dT kvs=>kvs.length<=lA/\(a == sysModules)=uQ/\∃xs:List (List Key×k9×aU),
   Paired (λ(p:List Key×V) (q:List Key×k9×aU)=>p.1=q.1/\H q.2.1=uN (.tup (p.1.map kV))/\RelV p.2 q.2.2) kvs xs /\
   ∃o es ep,h.get? a=uN o/\o.ExactDict/\o.data=.dict es ep/\es.toList=xs.map (entryOfKey (tupleKind (mixKind P w)))/\(xs.map (·.1)).Nodup
 |.set S n=>h.SetOf (intKind P w) a S n
 | .ins C dx fs=>H dx=uN (.own a)/\fs.length<=1000/\dx≠a/\h.get? a=uN (pJ C dx) /\
   ∃mA,h.Ns1 dx mA/\(∀f,RelO (fs.lookup f) (mA f))/\qw mA (fs.map (·.1))
 |.own _=>∃o,h.get? a=uN o
 |.xd fs=>∃mA,h.Ns1 a mA/\∀f,RelO (fs.lookup f) (mA f)
 |.rng lo hi=>∃t u v,h.get? a=uN {cls:=.type "range",data:=.fields #[.int lo t,.int hi u,.int 1 v]}
 |.frz o u=>h.get? a=uN o/\ObjOk H h a u
 |.tbl pos qual=>∃ps:Array aU,h.get? a=uN {cls:=.none,data:=.fields ps}/\TriplesOk ps.toList/\∀cv,codeAmong pos ps.toList=uN cv->∃c o vs t,cv=.ref c/\H c=uN (.frz o (.own a))/\o.data=.fields vs/\vs[1]?=uN (.str qual t)
 |.met f x=>h.get? a=uN (sf (.ref f) (.ref x))
 |.ext φ=>φ h/\(∃o,h.get? a=uN o)/\∀h1 h2:Heap,φ h1->(∀o,h1.get? a=uN o->h2.get? a=uN o)->φ h2
def HOk (H:Hp)(h:Heap):Prop:=∀a o,H a=uN o->ObjOk P w H h a o
end
section
variable {P:lQ}{w:l9}{H H':Hp}{h h':Heap}{a:k9}{o:HO}
theorem ObjOk.lt (x:ObjOk P w H h a o):a<h.objs.size:=by
 cases o with
 |lst xs=>obtain⟨_,_,_,_,e⟩:=x;exact lh e
 |tup xs=>obtain⟨_,_,_,p⟩:=x;exact p.lt
 |dK kvs=>obtain⟨_,_,_,_,o,_,_,e,_⟩:=x;exact lh e
 |dT kvs=>obtain⟨_,_,_,_,o,_,_,e,_⟩:=x;exact lh e
 |set S n=>obtain⟨o,_,_,_,e,_⟩:=x;exact lh e
 |ins C dx fs=>obtain⟨_,_,_,e,_⟩:=x;exact lh e
 |own y=>obtain⟨_,e⟩:=x;exact lh e
 |xd fs=>obtain⟨_,⟨_,_,_,e,_⟩,_⟩:=x;exact lh e
 |rng lo hi=>obtain⟨_,_,_,e⟩:=x;exact lh e
 |frz ob u=>obtain⟨e,_⟩:=x;exact lh e
 |tbl pos qual=>obtain⟨_,e,_⟩:=x;exact lh e
 |met f y=>exact lh (show h.get? a=uN _ from x)
 |ext φ=>obtain⟨_,⟨_,e⟩,_⟩:=x;exact lh e
theorem Paired.mapP {α β:Type}{F G:α->β->Prop}:∀{d8:List α}{d7:List β},Paired F d8 d7->(∀a b,F a b->G a b)->Paired G d8 d7
 |_,_,.nil,_=>.nil
 |_,_,.cons r t,f=>.cons (f _ _ r) (Paired.mapP t f)
theorem ObjOk.stay (x:ObjOk P w H h a o)(k:∀b u,(b=a\/H b=uN (.own a))->h.get? b=uN u->h'.get? b=uN u)
  (ho:∀b,H b=uN (.own a)->H' b=uN (.own a)) (ht:∀b xs,H b=uN (.tup xs)->H' b=uN (.tup xs)) (hf:∀b ob,H b=uN (.frz ob (.own a))->H' b=uN (.frz ob (.own a)):=by exact λ_ _ q=>q):ObjOk P w H' h' a o:=by
 induction o with
 |lst xs=>obtain⟨z,aa,n,r,e⟩:=x;exact⟨z,aa,n,r,k _ _ (.inl rfl) e⟩
 |tup xs=>obtain⟨z,aa,r,ob,e,c⟩:=x;exact⟨z,aa,r,ob,k _ _ (.inl rfl) e,c⟩
 |dK kvs=>obtain⟨z,y,vs,r,ob,es,ep,e,c⟩:=x;exact⟨z,y,vs,r,ob,es,ep,k _ _ (.inl rfl) e,c⟩
 |dT kvs=>
  obtain⟨z,y,xs,r,ob,es,ep,e,c⟩:=x;exact⟨z,y,xs,Paired.mapP r λp q z=>⟨z.1,ht _ _ z.2.1,z.2.2⟩,ob,es,ep,k _ _ (.inl rfl) e,c⟩
 |set S n=>obtain⟨ob,es,ep,t,e,c⟩:=x;exact⟨ob,es,ep,t,k _ _ (.inl rfl) e,c⟩
 |ins C dx fs=>
  obtain⟨d,z,ne,e,mA,⟨od,es,ep,e2,c⟩,r⟩:=x;exact⟨ho _ d,z,ne,k _ _ (.inl rfl) e,mA,⟨od,es,ep,k _ _ (.inr d) e2,c⟩,r⟩
 |own y=>obtain⟨ob,e⟩:=x;exact⟨ob,k _ _ (.inl rfl) e⟩
 |xd fs=>obtain⟨mA,⟨od,es,ep,e,c⟩,r⟩:=x;exact⟨mA,⟨od,es,ep,k _ _ (.inl rfl) e,c⟩,r⟩
 |rng lo hi=>obtain⟨t,u,v,e⟩:=x;exact⟨t,u,v,k _ _ (.inl rfl) e⟩
 |frz ob u ih=>obtain⟨e,q⟩:=x;exact⟨k _ _ (.inl rfl) e,ih q⟩
 |tbl pos qual=>
  obtain⟨ps,e,t,f⟩:=x;exact⟨ps,k a _ (.inl rfl) e,t,λcv q=>let⟨c,ob,vs,t,q1,q2,q3⟩:=f cv q;⟨c,ob,vs,t,q1,hf _ _ q2,q3⟩⟩
 |met f y=>
  have e:h.get? a=uN (sf (.ref f) (.ref y)):=x;show h'.get? a=uN (sf (.ref f) (.ref y))
  exact k a _ (.inl rfl) e
 |ext φ=>obtain⟨p,⟨o,e⟩,st⟩:=x;exact⟨st _ _ p λo q=>k _ _ (.inl rfl) q,⟨o,k _ _ (.inl rfl) e⟩,st⟩
theorem HOk.lt (x:HOk P w H h)(e:H a=uN o):a<h.objs.size:=(x a o e).lt
theorem HOk.fresh (x:HOk P w H h)(e:h.objs.size<=a):H a=uO:=by
 cases q:H a with
 |none=>rfl
 |some u=>exact absurd (lG (x.lt q) e) (oT _)
theorem HOk.kept (x:HOk P w H h)(k:∀b u,h.get? b=uN u->h'.get? b=uN u):HOk P w H h':=λa o e=>
 (x a o e).stay (λb u _ q=>k b u q) (λ_ q=>q) λ_ _ q=>q
theorem HOk.laid (x:HOk P w H h)(k:∀b u,h.get? b=uN u->h'.get? b=uN u)(hp:h.objs.size<=a)(new:ObjOk P w (upd H a o) h' a o):HOk P w (upd H a o) h':=λb u e=>by
 have hn:=x.fresh hp;by_cases hb:b=a
 ·subst hb;rw[ze_]at e;cases e;exact new
 ·rw[zc_ hb]at e
  exact(x b u e).stay (λc v _ q=>k c v q) (λc q=>by rw[zc_ (zd_ q hn)];exact q) (λc xs q=>by rw[zc_ (zd_ q hn)];exact q) λc ob q=>by rw[zc_ (zd_ q hn)];exact q
end
def Rd (H:Hp)(a:k9)(u:HO):Prop:=H a=uN u\/∃o,H a=uN (.frz o u)
theorem Rd.ok {P:lQ}{w:l9}{H:Hp}{h:Heap}{a:k9}{u:HO}(r:Rd H a u)(x:HOk P w H h):ObjOk P w H h a u:=by
 rcases r with r |⟨o,r⟩
 ·exact x a u r
 ·obtain⟨_,q⟩:=x a _ r
  exact q
noncomputable def Mut:Option HO->Prop
 |some (.lst _)=>True
 |some (.dK _)=>True
 |some (.dT _)=>True
 |some (.set _ _)=>True
 |some (.ins _ _ _)=>True
 |some (.ext _)=>True
 |_=>False
section
variable {P:lQ}{w:l9}{H:Hp}{h h':Heap}{x e:k9}{o':HO}
theorem HOk.write (ok:HOk P w H h)(mu:Mut (H x))(he:e=x\/H e=uN (.own x))(k:∀b u,b≠e->h.get? b=uN u->h'.get? b=uN u)(bH:∃u,h'.get? e=uN u)
  (new:ObjOk P w (upd H x o') h' x o'):HOk P w (upd H x o') h':=λb u q=>by
 have dZ:∀c y,H c=uN (.own y)->c≠x:=λc y r z=>by subst z;rw[r]at mu;exact mu
 have f7:∀c xs,H c=uN (.tup xs)->c≠x:=λc xs r z=>by subst z;rw[r]at mu;exact mu
 by_cases hb:b=x
 ·subst hb;rw[ze_]at q;cases q;exact new
 ·rw[zc_ hb]at q
  by_cases hbe:b=e
  ·have q':H b=uN (.own x):=by
    rcases he with z |z
    ·exact absurd (hbe.trans z) hb
    ·rw[hbe];exact z
   rw[q]at q';cases q';obtain⟨v,hv⟩:=bH;exact⟨v,by rw[hbe];exact hv⟩
  ·refine(ok b u q).stay (λc v hc r=>k c v ?_ r) (λc r=>by rw[zc_ (dZ c b r)];exact r) (λc xs r=>by rw[zc_ (f7 c xs r)];exact r) λc ob r=>by rw[zc_ (λz=>by subst z;rw[r]at mu;exact mu)];exact r
   rcases hc with rfl |hc
   ·exact hbe
   ·rintro rfl
    rcases he with z |z
    ·exact dZ c b hc z
    ·rw[hc]at z;cases z;exact hb rfl
end
structure Un (fs ex:List k9)(H H':Hp)(h h':Heap):Prop where
 keep:∀b o,h.get? b=uN o->H b=uO->b∉fs->b∉ex->h'.get? b=uN o
 slot:∀b o,h.get? b=uN o->H b=uO->b∈fs->b∉ex->∃sl,h'.get? b=uN {o with slots:=sl}
 free:∀b o,h.get? b=uN o->H b=uO->b∉ex->H' b=uO
 there:∀b o,h.get? b=uN o->b∉ex->∃o',h'.get? b=uN o'
 tups:∀b xs,H b=uN (.tup xs)->H' b=uN (.tup xs)
 frzs:∀b o u,H b=uN (.frz o u)->H' b=uN (.frz o u)
 tbls:∀b p q,H b=uN (.tbl p q)->H' b=uN (.tbl p q)
section
variable {fs ex:List k9}{H H1 H2:Hp}{h h1 h2 h':Heap}{a x e:k9}{o:HO}
theorem Un.any (u:Un fs ex H H1 h h1){b:k9}{ob:sX}(q:h.get? b=uN ob)(n:H b=uO)(hx:b∉ex):∃sl,h1.get? b=uN {ob with slots:=sl}:=by
 by_cases hb:b∈fs
 ·exact u.slot b ob q n hb hx
 ·exact⟨ob.slots,u.keep b ob q n hb hx⟩
theorem Un.trans (a:Un fs ex H H1 h h1)(b:Un fs ex H1 H2 h1 h2):Un fs ex H H2 h h2 where
 keep:=λc ob q n hc hx=>b.keep c ob (a.keep c ob q n hc hx) (a.free c ob q n hx) hc hx
 slot:=λc ob q n hc hx=>by
  obtain⟨sl,e1⟩:=a.slot c ob q n hc hx;obtain⟨fX,e2⟩:=b.slot c _ e1 (a.free c ob q n hx) hc hx;exact⟨fX,e2⟩
 free:=λc ob q n hx=>by
  obtain⟨o',e1⟩:=a.there c ob q hx;exact b.free c o' e1 (a.free c ob q n hx) hx
 there:=λc ob q hx=>by
  obtain⟨o',e1⟩:=a.there c ob q hx;exact b.there c o' e1 hx
 tups:=λc xs q=>b.tups c xs (a.tups c xs q)
 frzs:=λc ob xs q=>b.frzs c ob xs (a.frzs c ob xs q)
 tbls:=λc p' q' q=>b.tbls c p' q' (a.tbls c p' q' q)
theorem Un.kept (k:∀b u,h.get? b=uN u->h'.get? b=uN u):Un fs ex H H h h':=
 ⟨λb ob q _ _ _=>k b ob q,λb ob q _ _ _=>⟨ob.slots,k b ob q⟩,λ_ _ _ n _=>n,λb ob q _=>⟨ob,k b ob q⟩,λ_ _ q=>q,λ_ _ _ q=>q,λ_ _ _ q=>q⟩
theorem Un.refl:Un fs ex H H h h:=Un.kept λ_ _ q=>q
theorem Un.laid (k:∀b u,h.get? b=uN u->h'.get? b=uN u)(hp:h.objs.size<=a)(hn:H a=uO):Un fs ex H (upd H a o) h h' where
 keep:=λb u q _ _ _=>k b u q
 slot:=λb u q _ _ _=>⟨u.slots,k b u q⟩
 free:=λb u q n _=>by rw[zc_ (lN (lG (lh q) hp))];exact n
 there:=λb u q _=>⟨u,k b u q⟩
 tups:=λb xs q=>by rw[zc_ (zd_ q hn)];exact q
 frzs:=λb u xs q=>by rw[zc_ (zd_ q hn)];exact q
 tbls:=λb p' q' q=>by rw[zc_ (zd_ q hn)];exact q
theorem Un.write (mu:Mut (H x))(he:e=x\/H e=uN (.own x))(k:∀b u,b≠e->h.get? b=uN u->h'.get? b=uN u)(bH:∃u,h'.get? e=uN u):Un fs ex H (upd H x o) h h':=by
 have hx:∀b,H b=uO->b≠x:=λb n z=>by subst z;rw[n]at mu;exact mu
 have hb:∀b,H b=uO->b≠e:=λb n z=>by
  subst z;rcases he with r |r
  ·exact hx b n r
  ·rw[n]at r;cases r
 have hm:∀b u,H b=uN u->¬Mut (uN u)->b≠x:=λb u q nm z=>by subst z;rw[q]at mu;exact nm mu
 refine⟨λb u q n _ _=>k b u (hb b n) q,λb u q n _ _=>⟨u.slots,k b u (hb b n) q⟩,λb u q n _=>by rw[zc_ (hx b n)];exact n,λb u q _=>?_,
  λb xs q=>by rw[zc_ (hm b _ q λz=>z)];exact q,λb u xs q=>by rw[zc_ (hm b _ q λz=>z)];exact q,λb p' q' q=>by rw[zc_ (hm b _ q λz=>z)];exact q⟩
 by_cases hbe:b=e
 ·subst hbe;exact bH
 ·exact⟨u,k b u hbe q⟩
end
def trk (h:Heap)(H:Hp):List k9:=(mf h.objs.size).filter λa=>(H a).isSome
def hidT (h:Heap)(H:Hp):Heap:=W.hideAll h (trk h H)
theorem zip_ (h:Heap)(H:Hp):(hidT h H).objs.size=h.objs.size:=W.hideAll_size _ _
theorem zjr_ {h:Heap}{H:Hp}{b:k9}{o:sX}(e:h.get? b=uN o)(n:H b=uO):(hidT h H).get? b=uN o:=
 W.hideAll_get _ e λhm=>by
  have q:(H b).isSome=uP:=(sj.mp hm).2;rw[n]at q;simp at q
theorem zm5_ {h:Heap}{H:Hp}{b:k9}{o:sX}(e:(hidT h H).get? b=uN o):h.get? b=uN o/\H b=uO:=by
 have e':h.get? b=uN o:=W.of_hideAll (trk h H) e;refine⟨e',?_⟩;cases q:H b with
 |none=>rfl
 |some x=>
  have hm:b∈trk h H:=sj.mpr ⟨mZ.mpr (lh e'),by simp[q]⟩
  have z:(hidT h H).get? b=uO:=W.hideAll_none (trk h H) hm;rw[z]at e;cases e
def lamK (K:Fgg):Option (k9×Pos×Str):=match ng K lH "put_in_order" with
 |some (uN (.ref f))=>(match K.lookup f with
  |some ⟨_,_,.func fd,_⟩=>(match fd.body,sG K "put_in_order" with
   |.stmts [.Return (uN (.Call _ _ [⟨_,.Lambda _ _ _ pos,_⟩] _)) _],uN (_,P)=>uN (P,pos,fd.qualname ++ ".<locals>." ++ "<lambda>")
   |_,_=>uO)
  |_=>uO)
 |_=>uO
def Tb (K:Fgg)(H:Hp):Prop:=∀P pos q,lamK K=uN (P,pos,q)->H P=uN (.tbl pos q)
structure Mod (K:Fgg)(mg:Str->Option aU)(base:Heap):Prop where
 kin:K.In base
 glob:base.Ns lH mg
 blt:∃mb,base.Ns builtinsNs mb/\∀x:Str,x ≠ "__name__" -> mb x=nH x
 nolimit:base.NoLimit
 bm:∃bm ob,mg "__builtins__"=uN (.ref bm)/\bm≠builtinsNs/\base.get? bm=uN ob/\ob.cls=.type "module" /\ ob.dict=uN builtinsNs/\ob.data=.plain
structure Cx where
 prog:lQ
 w:l9
 K:Fgg
 mg:Str->Option aU
 base:Heap
 A:mh
 N:List Str
 s₀:kR
 H₀:Hp
 env:Env
 outer:List Env
 stack:List Env
 ex:List k9
 fn:Str->Bool
 calm:Bool
 pn:Pnn
 xe:aU->kR->Prop
noncomputable def frs (l:List Env):List k9:=l.filterMap (·.frame)
abbrev Cx.fs (X:Cx):List k9:=frs X.outer
def Vis (sc:Scope)(x:Str):Prop:=sc.names.lookup x=uN .local\/sc.names.lookup x=uN .cell\/sc.names.lookup x=uN .free
def Loc (sc:Scope)(x:Str):Prop:=sc.names.lookup x=uN .local\/sc.names.lookup x=uN .cell
def Look (env:Env)(h:Heap)(m:Str->Option aU)(x:Str)(u:aU):Prop:=
 (env.kindOf x=uN .local/\m x=uN u)\/((env.kindOf x=uN .cell\/env.kindOf x=uN .free)/\∃c,env.cells.lookup x=uN c/\h.IsCell c (uN u))
structure Cx.Ok (X:Cx):Prop where
 mod:Mod X.K X.mg X.base
 kind:X.env.scope.kind=.function
 glob:X.env.globals=lH
 blt:X.env.builtins=builtinsNs
 above:X.s₀.heap.objs.size<=X.env.locals
 inj:∀x y c,X.env.cells.lookup x=uN c->X.env.cells.lookup y=uN c->x=y
 has:∀x,(X.env.kindOf x=uN .cell\/X.env.kindOf x=uN .free)->∃c,X.env.cells.lookup x=uN c
 cab:∀x c,X.fn x=uP->X.env.cells.lookup x=uN c->X.s₀.heap.objs.size<=c
 hd:X.calm=uP->X.A.handled=uO
 frames:X.A.frames=uN X.stack
 stk:X.stack=X.outer\/(X.stack=X.env::X.outer/\X.env.frame=uN X.env.locals)
 exf:∀b∈X.ex,b≠X.env.locals/\∀x c,X.env.cells.lookup x=uN c->c≠b
 bs:∀b o,X.base.get? b=uN o->X.s₀.heap.get? b=uN o/\X.H₀ b=uO
 bsz:X.base.objs.size<=X.s₀.heap.objs.size
 noex:∀b o,X.base.get? b=uN o->b∉X.ex
 exfs:∀b∈X.ex,b∉X.fs
 funs:X.s₀.heap.FunFrames X.base X.outer
 frf:∀b∈X.fs,X.H₀ b=uO
 tb:Tb X.K X.H₀
structure Inv (X:Cx)(pins:Pnn)(σ:List (Option V))(H:Hp)(s:kR):Prop where
 ok:X.Ok
 os:s.os=X.s₀.os
 bare:AllBare s.gens
 base:Un X.fs X.ex X.H₀ H X.s₀.heap s.heap
 loc:∃m,s.heap.Ns X.env.locals m/\∀(i:Nat) (x:Str) (v:V),X.N[i]?=uN x->σ[i]?=uN (uN v)->Vis X.env.scope x->∃u,RelV v u/\Look X.env s.heap m x u
 cell:∀x c,X.env.cells.lookup x=uN c->∃v,s.heap.IsCell c v
 free:H X.env.locals=uO
 freeC:∀x c,X.env.cells.lookup x=uN c->H c=uO
 pin:∀p∈X.pn++pins,s.heap.get? p.1=uN p.2/\H p.1=uO/\p.1≠X.env.locals/\p.1∉X.fs/\∀v,p.2.data≠.cell v
 hok:HOk X.prog X.w H s.heap
 len:σ.length=X.N.length
section
variable {X:Cx}{pins:Pnn}{σ:List (Option V)}{H H':Hp}{s:kR}{h':Heap}
theorem Cx.Ok.nofr (ok:X.Ok){b:k9}{o:sX}(e:X.base.get? b=uN o):b∉X.fs:=λhb=>by
 have:=(ok.funs.mem hb).1;rw[e]at this;cases this
theorem Inv.bs (I:Inv X pins σ H s):∀b o,X.base.get? b=uN o->s.heap.get? b=uN o/\H b=uO:=λb o e=>
 ⟨I.base.keep b o (I.ok.bs b o e).1 (I.ok.bs b o e).2 (I.ok.nofr e) (I.ok.noex b o e),I.base.free b o (I.ok.bs b o e).1 (I.ok.bs b o e).2 (I.ok.noex b o e)⟩
theorem Inv.tb (I:Inv X pins σ H s):Tb X.K H:=λP p q e=>I.base.tbls _ _ _ (I.ok.tb P p q e)
theorem Inv.bk (I:Inv X pins σ H s):∀b o,X.base.get? b=uN o->s.heap.get? b=uN o:=λb o e=>(I.bs b o e).1
theorem Inv.mod (I:Inv X pins σ H s):Mod X.K X.mg X.base:=I.ok.mod
theorem Inv.kIn (I:Inv X pins σ H s):X.K.In s.heap:=I.ok.mod.kin.keeps I.bk
theorem Inv.nolimit (I:Inv X pins σ H s):s.heap.NoLimit:=I.ok.mod.nolimit.keeps I.bk
theorem Inv.lt (I:Inv X pins σ H s):X.env.locals<s.heap.objs.size:=let⟨_,hn,_⟩:=I.loc;hn.lt
theorem Inv.sz (I:Inv X pins σ H s):X.s₀.heap.objs.size<=s.heap.objs.size:=mq I.ok.above (nI I.lt)
theorem Inv.nofs (I:Inv X pins σ H s){a:k9}(h:s.heap.objs.size<=a):a∉X.fs:=λhb=>by
 obtain⟨_,o,ho,_⟩:=I.ok.funs.mem hb;exact absurd (lG (lh ho) (mq I.sz h)) (oT _)
theorem Inv.cne (I:Inv X pins σ H s):∀x c,X.env.cells.lookup x=uN c->c≠X.env.locals:=λx c e z=>by
 obtain⟨v,o,ho,hd⟩:=I.cell x c e;obtain⟨m,⟨o',es,ep,aI,eY,_⟩,_⟩:=I.loc;rw[z,aI]at ho;cases ho;rw[eY]at hd;cases hd
theorem Inv.funs (I:Inv X pins σ H s):s.heap.FunFrames X.base X.outer:=by
 have all:∀(l:List Env),(∀b∈frs l,b∈X.fs)->X.s₀.heap.FunFrames X.base l->s.heap.FunFrames X.base l:=by
  intro l;induction l with
  |nil=>intro _ _;trivial
  |cons env r ih=>
   intro hs hl;obtain⟨hk,⟨L,o,hf,hn,ho,hd⟩,hr⟩:=hl;have hL:L∈X.fs:=hs L (by unfold frs;rw[pV,hf];exact lO)
   obtain⟨sl,e⟩:=I.base.slot L o ho (I.ok.frf L hL) hL λz=>I.ok.exfs L z hL
   exact⟨hk,⟨L,_,hf,hn,e,hd⟩,ih (λb hb=>hs b (by unfold frs;rw[pV,hf];exact lL _ hb)) hr⟩
 exact all X.outer (λ_ hb=>hb) I.ok.funs
theorem Inv.stack (I:Inv X pins σ H s):s.heap.FunFrames X.base X.stack:=by
 rcases I.ok.stk with e |⟨e,hf⟩
 ·rw[e];exact I.funs
 ·rw[e]
  obtain⟨m,hn,_⟩:=I.loc;refine .cons (by rw[I.ok.kind];decide) hf hn ?_ I.funs
  exact Heap.get?_none_of_le (mq I.ok.bsz I.ok.above)
theorem Inv.stkSub (I:Inv X pins σ H s):∀b∈frs X.stack,b∈X.env.locals::X.fs:=λb hb=>by
 rcases I.ok.stk with e |⟨e,hf⟩
 ·rw[e]at hb;exact lL _ hb
 ·rw[e]at hb
  unfold frs at hb;rw[pV,hf]at hb;exact hb
theorem Inv.stkFree (I:Inv X pins σ H s):∀b∈frs X.stack,H b=uO:=λb hb=>by
 rcases lI.mp (I.stkSub b hb)with e |hb
 ·rw[e];exact I.free
 ·obtain⟨_,o,ho,_⟩:=I.ok.funs.mem hb
  exact I.base.free b o ho (I.ok.frf b hb) λz=>I.ok.exfs b z hb
theorem Inv.step {g':Array GenState}{t':Nat}{d':Drawn}{ch:List k9}(I:Inv X pins σ H s)
  (cj:∀b∈ch,(b∈X.ex\/X.s₀.heap.objs.size<=b)/\b≠X.env.locals/\(∀x c,X.env.cells.lookup x=uN c->c≠b)/\∀p∈X.pn++pins,p.1≠b)
  (keep:∀b o,b≠X.env.locals->b∉X.fs->b∉ch->s.heap.get? b=uN o->H b=uO->h'.get? b=uN o)
  (slot:∀b o,b≠X.env.locals->b∈X.fs->b∉ch->s.heap.get? b=uN o->H b=uO->∃sl,h'.get? b=uN {o with slots:=sl}) (free:∀b o,b∉ch->s.heap.get? b=uN o->H b=uO->H' b=uO)
  (there:∀b o,b∉ch->s.heap.get? b=uN o->∃o',h'.get? b=uN o')
  (tups:∀b xs,H b=uN (.tup xs)->H' b=uN (.tup xs)) (frzs:∀b o u,H b=uN (.frz o u)->H' b=uN (.frz o u)) (tbls:∀b p q,H b=uN (.tbl p q)->H' b=uN (.tbl p q))
  (ns:∀m,s.heap.Ns X.env.locals m->h'.Ns X.env.locals m) (hok:HOk X.prog X.w H' h') (hg:AllBare g'):
  Inv X pins σ H' {s with heap:=h',gens:=g',drawn:=d',toks:=t'}:=by
 have iz:∀b o,X.s₀.heap.get? b=uN o->b≠X.env.locals:=λb o e=>lN (lG (lh e) I.ok.above)
 have fH:∀b o,X.s₀.heap.get? b=uN o->b∉X.ex->b∉ch:=λb o e hx hb=>by
  rcases(cj b hb).1 with z |z
  ·exact hx z
  ·exact absurd (lG (lh e) z) (oT _)
 have cellK:∀x c,X.env.cells.lookup x=uN c->∀v,s.heap.IsCell c v->h'.IsCell c v:=λx c e v ⟨o,ho,hd⟩=>by
  have d6:c∉ch:=λz=>(cj c z).2.2.1 x c e rfl
  by_cases hc:c∈X.fs
  ·obtain⟨sl,q⟩:=slot c o (I.cne x c e) hc d6 ho (I.freeC x c e)
   exact⟨_,q,hd⟩
  ·exact⟨o,keep c o (I.cne x c e) hc d6 ho (I.freeC x c e),hd⟩
 refine⟨I.ok,I.os,hg,⟨λb o e n hb hx=>?_,λb o e n hb hx=>?_,λb o e n hx=>?_,λb o e hx=>?_,λb xs e=>tups b xs (I.base.tups b xs e),λb o xs e=>frzs b o xs (I.base.frzs b o xs e),λb p q e=>tbls b p q (I.base.tbls b p q e)⟩,?_,λx c e=>?_,?_,λx c e=>?_,λp hp=>?_,hok,I.len⟩
 ·exact keep b o (iz b o e) hb (fH b o e hx) (I.base.keep b o e n hb hx) (I.base.free b o e n hx)
 ·obtain⟨sl,e1⟩:=I.base.slot b o e n hb hx
  obtain⟨fX,e2⟩:=slot b _ (iz b o e) hb (fH b o e hx) e1 (I.base.free b o e n hx);exact⟨fX,e2⟩
 ·obtain⟨o',e1⟩:=I.base.there b o e hx
  exact free b o' (fH b o e hx) e1 (I.base.free b o e n hx)
 ·obtain⟨o',e1⟩:=I.base.there b o e hx
  exact there b o' (fH b o e hx) e1
 ·obtain⟨m,hn,hl⟩:=I.loc
  refine⟨m,ns m hn,λi x v e1 e2 e3=>?_⟩
  obtain⟨u,r,l⟩:=hl i x v e1 e2 e3;refine⟨u,r,?_⟩;rcases l with l |⟨k,c,e,z⟩
  ·exact .inl l
  ·exact .inr ⟨k,c,e,cellK x c e _ z⟩
 ·obtain⟨v,z⟩:=I.cell x c e
  exact⟨v,cellK x c e v z⟩
 ·obtain⟨m,⟨o,_,_,ho,_⟩,_⟩:=I.loc
  exact free _ o (λz=>(cj _ z).2.1 rfl) ho I.free
 ·obtain⟨v,o,ho,hd⟩:=I.cell x c e
  exact free c o (λz=>(cj c z).2.2.1 x c e rfl) ho (I.freeC x c e)
 ·obtain⟨e,n,ne,nf,d⟩:=I.pin p hp
  have d6:p.1∉ch:=λz=>(cj p.1 z).2.2.2 p hp rfl
  exact⟨keep p.1 p.2 ne nf d6 e n,free p.1 p.2 d6 e n,ne,nf,d⟩
theorem Inv.un {t':Nat}(I:Inv X pins σ H s)(u:Un X.fs [] H H' s.heap h')(hok:HOk X.prog X.w H' h'):Inv X pins σ H' {s with heap:=h',toks:=t'}:=by
 obtain⟨m,⟨o,es,ep,ho,r⟩,_⟩:=id I.loc;obtain⟨sl,hL⟩:=u.any ho I.free (by simp)
 exact I.step (g':=s.gens) (d':=s.drawn) (ch:=[]) (λ_ z=>nomatch z) (λb o _ hb _ e n=>u.keep b o e n hb (by simp)) (λb o _ hb _ e n=>u.slot b o e n hb (by simp)) (λb o _ e n=>u.free b o e n (by simp)) (λb o _ e=>u.there b o e (by simp)) u.tups u.frzs u.tbls (λm' hm=>by
  obtain⟨o',es',ep',aI,r'⟩:=hm;rw[ho]at aI;cases aI;exact⟨_,es',ep',hL,r'⟩) hok I.bare
theorem Inv.call {g':Array GenState}{t':Nat}{d':Drawn}{ch:List k9}(I:Inv X pins σ H s)(u:Un (frs X.stack) ch H H' s.heap h')(hok:HOk X.prog X.w H' h')(hg:AllBare g')
  (cj:∀b∈ch,(b∈X.ex\/X.s₀.heap.objs.size<=b)/\b≠X.env.locals/\(∀x c,X.env.cells.lookup x=uN c->c≠b)/\∀p∈X.pn++pins,p.1≠b):
  Inv X pins σ H' {s with heap:=h',gens:=g',drawn:=d',toks:=t'}:=by
 obtain⟨m,⟨o,es,ep,ho,r⟩,_⟩:=id I.loc;obtain⟨sl,hL⟩:=u.any ho I.free λz=>(cj _ z).2.1 rfl
 exact I.step (ch:=ch) cj (λb o hL hb hc e n=>u.keep b o e n (λz=>(lI.mp (I.stkSub b z)).elim hL hb) hc) (λb o _ _ hc e n=>u.any e n hc) (λb o hc e n=>u.free b o e n hc) (λb o hc e=>u.there b o e hc) u.tups u.frzs u.tbls (λm' hm=>by
  obtain⟨o',es',ep',aI,r'⟩:=hm;rw[ho]at aI;cases aI;exact⟨_,es',ep',hL,r'⟩) hok hg
theorem Inv.turned {t':Nat}{it:k9}(I:Inv X pins σ H s)(k:∀b o,b≠it->s.heap.get? b=uN o->h'.get? b=uN o)(hn:H it=uO)(hL:it≠X.env.locals)
  (h1:it∈X.ex\/X.s₀.heap.objs.size<=it) (h2:∀x c,X.env.cells.lookup x=uN c->c≠it) (h3:∀p∈X.pn++pins,p.1≠it):Inv X pins σ H {s with heap:=h',toks:=t'}:=by
 have d5:∀b u,H b=uN u->b≠it:=λb u e z=>by rw[z,hn]at e;cases e
 refine I.step (g':=s.gens) (d':=s.drawn) (ch:=[it]) (λb hb=>?_) (λb o _ _ hc e _=>k b o (λz=>hc (by simp[z])) e) (λb o _ _ hc e _=>⟨o.slots,k b o (λz=>hc (by simp[z])) e⟩) (λ_ _ _ _ n=>n)
  (λb o hc e=>⟨o,k b o (λz=>hc (by simp[z])) e⟩) (λ_ _ e=>e) (λ_ _ _ e=>e) (λ_ _ _ e=>e) (λm hm=>?_) (λb u e=>?_) I.bare
 ·have e:b=it:=by simpa using hb
  subst e;exact⟨h1,hL,h2,h3⟩
 ·obtain⟨o,es,ep,ho,r⟩:=hm
  exact⟨o,es,ep,k _ o (pY hL) ho,r⟩
 ·refine(I.hok b u e).stay (λc v hc q=>k c v ?_ q) (λ_ q=>q) λ_ _ q=>q
  rcases hc with z |z
  ·rw[z];exact d5 b u e
  ·exact d5 c _ z
theorem Inv.tok (I:Inv X pins σ H s)(t:Nat):Inv X pins σ H {s with toks:=t}:=I.un (h':=s.heap) (t':=t) Un.refl I.hok
theorem Inv.kept {t':Nat}(I:Inv X pins σ H s)(k:∀b u,s.heap.get? b=uN u->h'.get? b=uN u):Inv X pins σ H {s with heap:=h',toks:=t'}:=I.un (Un.kept k) (I.hok.kept k)
theorem Inv.laid {a:k9}{o:HO}{t':Nat}(I:Inv X pins σ H s)(k:∀b u,s.heap.get? b=uN u->h'.get? b=uN u)(hp:s.heap.objs.size<=a)(new:ObjOk X.prog X.w (upd H a o) h' a o):
  Inv X pins σ (upd H a o) {s with heap:=h',toks:=t'}:=I.un (Un.laid k hp (I.hok.fresh hp)) (I.hok.laid k hp new)
theorem Inv.write {x e:k9}{o:HO}{t':Nat}(I:Inv X pins σ H s)(mu:Mut (H x))(he:e=x\/H e=uN (.own x))(k:∀b u,b≠e->s.heap.get? b=uN u->h'.get? b=uN u)(bH:∃u,h'.get? e=uN u)
  (new:ObjOk X.prog X.w (upd H x o) h' x o):Inv X pins σ (upd H x o) {s with heap:=h',toks:=t'}:=I.un (Un.write mu he k bH) (I.hok.write mu he k bH new)
theorem Inv.pins_of {cO:Pnn}(I:Inv X pins σ H s)(h:∀p∈cO,s.heap.get? p.1=uN p.2/\H p.1=uO/\p.1≠X.env.locals/\p.1∉X.fs/\∀v,p.2.data≠.cell v):Inv X cO σ H s:=
 ⟨I.ok,I.os,I.bare,I.base,I.loc,I.cell,I.free,I.freeC,λp hp=>(qI.mp hp).elim (λz=>I.pin p (oX _ z)) (h p),I.hok,I.len⟩
theorem zfk_ {N:List Str}(hN:N.Nodup){i j:Nat}{x:Str}(a:N[i]?=uN x)(b:N[j]?=uN x):i=j:=by
 obtain⟨h1,e1⟩:=lD.mp a;obtain⟨h2,e2⟩:=lD.mp b;exact(rP hN).mp (e1.trans e2.symm)
theorem zhx_ {M:Model}{A:mh}{E:aU->kR->Prop}{i:Nat}{x:Str}{v:V}{u:aU}{Q:Unit->kR->Prop}(I:Inv X pins σ H s)(hN:X.N.Nodup)(hi:X.N[i]?=uN x)(hx:Loc X.env.scope x)(r:RelV v u)
  (h:∀s',Inv X pins (σ.set i (uN v)) H s'->(∃a,o6 a s.heap s'.heap/\(a=X.env.locals\/X.env.cells.lookup x=uN a))->Q () s') (hf:X.fn x=uP\/X.env.scope.names.lookup x=uN .local:=by first |exact .inl rfl |exact .inr rfl |assumption):lK M A (storeName X.env x u) Q E s:=by
 obtain⟨m,hn,hl⟩:=id I.loc;have gT:(X.env.scope.kind == .class ||(X.env.scope.kind == .module && X.env.locals != X.env.globals))=uQ:=by rw[I.ok.kind];rfl
 have eQ:i<σ.length:=by rw[I.len];exact(lD.mp hi).1
 have cne:=I.cne;have tracked:∀{a:k9}{h':Heap},(∃o,s.heap.get? a=uN o/\H a=uO)->o6 a s.heap h'->HOk X.prog X.w H h':=λ{a h'} ha hs b ob e=>by
  obtain⟨_,_,hfree⟩:=ha;refine(I.hok b ob e).stay (λc w' hc q=>(hs.2 c ?_).trans q) (λ_ q=>q) λ_ _ q=>q
  rintro rfl;rcases hc with rfl |hc
  ·rw[hfree]at e;cases e
  ·rw[hfree]at hc;cases hc
 rcases hx with hk |hk
 ·refine wpAny_storeName_local hk hn (λh' gF hs=>?_) gT
  obtain⟨oL,_,_,cP,_⟩:=id hn;refine h _ ⟨I.ok,I.os,I.bare,⟨λb o e n hb hx=>?_,λb o e n hb hx=>?_,I.base.free,λb o e hx=>?_,I.base.tups,I.base.frzs,I.base.tbls⟩,⟨_,gF,λj y v' e1 e2 e3=>?_⟩,λy c e=>?_,I.free,I.freeC,λp hp=>?_,tracked ⟨oL,cP,I.free⟩ hs,by simpa using I.len⟩ ⟨_,hs,.inl rfl⟩
  ·exact(hs.2 b (lN (lG (lh e) I.ok.above))).trans (I.base.keep b o e n hb hx)
  ·obtain⟨sl,e1⟩:=I.base.slot b o e n hb hx
   exact⟨sl,(hs.2 b (lN (lG (lh e) I.ok.above))).trans e1⟩
  ·obtain⟨o',e1⟩:=I.base.there b o e hx
   exact⟨o',(hs.2 b (lN (lG (lh e) I.ok.above))).trans e1⟩
  ·by_cases hj:j=i
   ·subst hj
    rw[hi]at e1;cases e1;rw[m4 eQ]at e2;cases e2;exact⟨u,r,.inl ⟨hk,by simp⟩⟩
   ·rw[lR (pY hj)]at e2
    obtain⟨u',r',q⟩:=hl j y v' e1 e2 e3;refine⟨u',r',?_⟩;rcases q with⟨k,e⟩|⟨k,c,e,z⟩
    ·refine .inl ⟨k,?_⟩
     have:y≠x:=λe=>hj (zfk_ hN e1 (e ▸ hi))
     simp[this,e]
    ·exact .inr ⟨k,c,e,z.sameBut hs (cne y c e)⟩
  ·obtain⟨w',z⟩:=I.cell y c e
   exact⟨w',z.sameBut hs (cne y c e)⟩
  ·obtain⟨e,n,ne,nf,d⟩:=I.pin p hp
   exact⟨(hs.2 p.1 ne).trans e,n,ne,nf,d⟩
 ·have du:X.fn x=uP:=by
   rcases hf with z |z
   ·exact z
   ·rw[z]at hk;cases hk
  obtain⟨c,hc⟩:=I.ok.has x (.inl hk);obtain⟨w',z⟩:=I.cell x c hc;refine wpAny_storeName_cell I.ok.kind hk hc z (λh' aA hs=>?_)
  obtain⟨oc,hoc,hocd⟩:=id z;refine h {s with heap:=h'} ⟨I.ok,I.os,I.bare,⟨λb o e n hb hx=>?_,λb o e n hb hx=>?_,I.base.free,λb o e hx=>?_,I.base.tups,I.base.frzs,I.base.tbls⟩,⟨m,hn.sameBut hs (pY (cne x c hc)),λj y v' e1 e2 e3=>?_⟩,λy c' e=>?_,I.free,I.freeC,λp hp=>?_,tracked ⟨oc,hoc,I.freeC x c hc⟩ hs,by simpa using I.len⟩ ⟨c,hs,.inr hc⟩
  ·exact(hs.2 b (lN (lG (lh e) (I.ok.cab x c du hc)))).trans (I.base.keep b o e n hb hx)
  ·obtain⟨sl,e1⟩:=I.base.slot b o e n hb hx
   exact⟨sl,(hs.2 b (lN (lG (lh e) (I.ok.cab x c du hc)))).trans e1⟩
  ·obtain⟨o',e1⟩:=I.base.there b o e hx
   exact⟨o',(hs.2 b (lN (lG (lh e) (I.ok.cab x c du hc)))).trans e1⟩
  ·by_cases hj:j=i
   ·subst hj
    rw[hi]at e1;cases e1;rw[m4 eQ]at e2;cases e2;exact⟨u,r,.inr ⟨.inl hk,c,hc,aA⟩⟩
   ·rw[lR (pY hj)]at e2
    obtain⟨u',r',q⟩:=hl j y v' e1 e2 e3;refine⟨u',r',?_⟩;rcases q with q |⟨k,c',e,z'⟩
    ·exact .inl q
    ·refine .inr ⟨k,c',e,z'.sameBut hs ?_⟩
     rintro rfl;exact hj (zfk_ hN e1 (I.ok.inj _ _ _ e hc ▸ hi))
  ·by_cases hcc:c'=c
   ·subst hcc;exact⟨_,aA⟩
   ·obtain⟨w2,z2⟩:=I.cell y c' e
    exact⟨w2,z2.sameBut hs hcc⟩
  ·obtain⟨e,n,ne,nf,d⟩:=I.pin p hp
   refine⟨(hs.2 p.1 ?_).trans e,n,ne,nf,d⟩;intro q;rw[q,hoc]at e;have q':oc=p.2:=lX e;exact d w' (by rw[<- q'];exact hocd)
theorem zgn_ {M:Model}{A:mh}{E:aU->kR->Prop}{i:Nat}{x:Str}{v:V}{u:aU}{Q:Unit->kR->Prop}(I:Inv X pins σ H s)(hN:X.N.Nodup)(hi:X.N[i]?=uN x)(hx:Loc X.env.scope x)(r:RelV v u)
  (h:∀s',Inv X pins (σ.set i (uN v)) H s'->Q () s') (hf:X.fn x=uP\/X.env.scope.names.lookup x=uN .local:=by first |exact .inl rfl |exact .inr rfl |assumption):lK M A (storeName X.env x u) Q E s:=
 zhx_ I hN hi hx r (λs' I' _=>h s' I') hf
theorem Inv.call' {s':kR}{ch:List k9}(I:Inv X pins σ H s)(ho:s'.os=s.os)(u:Un (frs X.stack) ch H H' s.heap s'.heap)(hok:HOk X.prog X.w H' s'.heap)(hg:AllBare s'.gens)
  (cj:∀b∈ch,(b∈X.ex\/X.s₀.heap.objs.size<=b)/\b≠X.env.locals/\(∀x c,X.env.cells.lookup x=uN c->c≠b)/\∀p∈X.pn++pins,p.1≠b):Inv X pins σ H' s':=by
 obtain⟨h',g',d',t',o'⟩:=s';have e:o'=s.os:=ho;subst e;exact I.call (g':=g') (t':=t') (d':=d') u hok hg cj
end
abbrev XK:=aU->Option k9->Hp->Prop
noncomputable abbrev St:=List (Option V)
abbrev VK:=V->Hp->Prop
abbrev TE:=St->Hp->VK->Prop
abbrev TT:=St->Hp->(Bool->Hp->Prop)->Prop
abbrev TA:=St->Hp->(List V->Hp->Prop)->Prop
structure Ends where
 nx:St->Hp->Prop
 rt:VK
 bk:St->Hp->Prop:=λ_ _=>False
 ct:St->Hp->Prop:=λ_ _=>False
abbrev TS:=Ends->St->Hp->Prop
def EP (X:Cx)(pins:Pnn)(σ:St)(Q:VK)(u:aU)(s':kR):Prop:=∃v H',Inv X pins σ H' s'/\RelV v u/\Q v H'
def TP (X:Cx)(pins:Pnn)(σ:St)(Q:Bool->Hp->Prop)(b:Bool)(s':kR):Prop:=∃H',Inv X pins σ H' s'/\Q b H'
def AP (X:Cx)(pins:Pnn)(σ:St)(Q:List V->Hp->Prop)(us:List aU)(s':kR):Prop:=∃vs H',Inv X pins σ H' s'/\Vals vs us/\Q vs H'
def SP (X:Cx)(pins:Pnn)(D:Ends)(f:Flow)(s':kR):Prop:=
 match f with
 |.next=>∃ah H',Inv X pins ah H' s'/\D.nx ah H'
 |.brk=>∃ah H',Inv X pins ah H' s'/\D.bk ah H'
 |.cont=>∃ah H',Inv X pins ah H' s'/\D.ct ah H'
 |.ret u=>∃v ah H',Inv X pins ah H' s'/\RelV v u/\D.rt v H'
def PE (X:Cx)(e:lF)(t:TE):Prop:=
 ∀(pins:Pnn) (s:kR) (σ:St) (H:Hp) (Q:VK),Inv X pins σ H s->t σ H Q->lK (model X.prog X.w) X.A (eval e X.env) (EP X pins σ Q) X.xe s
def PT (X:Cx)(e:lF)(t:TT):Prop:=
 ∀(pins:Pnn) (s:kR) (σ:St) (H:Hp) (Q:Bool->Hp->Prop),Inv X pins σ H s->t σ H Q->lK (model X.prog X.w) X.A (isTrue e X.env (eval e X.env)) (TP X pins σ Q) X.xe s
def PW (X:Cx)(e:lF)(t:TT):Prop:=
 ∀(whole:Sem aU) (pins:Pnn) (s:kR) (σ:St) (H:Hp) (Q:Bool->Hp->Prop),Inv X pins σ H s->t σ H Q->lK (model X.prog X.w) X.A (isTrue e X.env whole) (TP X pins σ Q) X.xe s
theorem PW.pt {X:Cx}{e:lF}{t:TT}(h:PW X e t):PT X e t:=h _
def PA (X:Cx)(es:List lF)(t:TA):Prop:=
 ∀(pos:Pos) (pins:Pnn) (s:kR) (σ:St) (H:Hp) (Q:List V->Hp->Prop),Inv X pins σ H s->t σ H Q->lK (model X.prog X.w) X.A (spliced (oz pos (lW es X.env))) (AP X pins σ Q) X.xe s
def PS (X:Cx)(st:mi)(t:TS):Prop:=
 ∀(pins:Pnn) (s:kR) (σ:St) (H:Hp) (D:Ends),Inv X pins σ H s->t D σ H->lK (model X.prog X.w) X.A (exec st X.env) (SP X pins D) X.xe s
def PSs (X:Cx)(st:List mi)(t:TS):Prop:=
 ∀(pins:Pnn) (s:kR) (σ:St) (H:Hp) (D:Ends),Inv X pins σ H s->t D σ H->lK (model X.prog X.w) X.A (execs st X.env) (SP X pins D) X.xe s
theorem thn {α:Type}{t:Sem α}{Q Q':α->kR->Prop}{M:Model}{A:mh}{E:aU->kR->Prop}{s:kR}(h:lK M A t Q E s)(hQ:∀a s,Q a s->Q' a s):lK M A t Q' E s:=mK h hQ λ_ _ x=>x
section
variable {X:Cx}
def tVar (i:Nat):TE:=λσ H Q=>∃v,σ[i]?=uN (uN v)/\Q v H
def tC (v:V):TE:=λ_ H Q=>Q v H
theorem zp3_ {i:Nat}{x:Str}{pos:Pos}(hN:X.N[i]?=uN x)(hv:Vis X.env.scope x)(hd:(x==("__debug__":Str))=uQ:=by decide)(aD:(x==("__classdict__":Str))=uQ:=by decide):PE X (.Name x pos) (tVar i):=by
 intro pins s σ H Q I h;obtain⟨v,e,h⟩:=h;obtain⟨m,hn,hl⟩:=I.loc;obtain⟨u,r,l⟩:=hl i x v hN e hv;have fin:EP X pins σ Q u s:=⟨v,H,I,r,h⟩;rcases l with⟨hk,hm⟩|⟨hk,c,hc,bu⟩
 ·exact wpAny_Name (wpAny_loadName_local I.ok.kind hk hn hm fin) hd
 ·rcases hk with hk |hk
  ·exact wpAny_Name (wpAny_loadName_cell I.ok.kind hk hc bu fin) hd
  ·exact wpAny_Name (wpAny_loadName_free I.ok.kind hk hc bu fin aD) hd
theorem zn7_ {i j pos}:PE X (.Constant (.int i) j pos) (tC (.int i)):=λ_ _ _ H _ I h=>wpAny_Constant_int ⟨.int i,H,I.tok _,⟨_,rfl⟩,h⟩
theorem pe_bl {b j pos}:PE X (.Constant (.bool b) j pos) (tC (.bl b)):=λ_ _ _ H _ I h=>Constant_bool ⟨.bl b,H,I,rfl,h⟩
theorem zqg_ {j pos}:PE X (.Constant .none j pos) (tC .non):=λ_ _ _ H _ I h=>Constant_none ⟨.non,H,I,rfl,h⟩
theorem zon_ {x j pos}:PE X (.Constant (.str x) j pos) (tC (.str x)):=λ_ _ _ H _ I h=>Calls.Constant_str ⟨.str x,H,I.tok _,⟨_,rfl⟩,h⟩
def Gl (X:Cx)(x:Str):Prop:=X.env.kindOf x=uN .globalImplicit
theorem zea_ {E:aU->kR->Prop}{pins:Pnn}{s:kR}{σ:St}{H:Hp}{x:Str}{u:aU}{pos:Pos}{Q:aU->kR->Prop}(I:Inv X pins σ H s)(hg:Gl X x)(hm:X.mg x=uN u)(h:Q u s)
  (hd:(x==("__debug__":Str))=uQ:=by decide):lK (model X.prog X.w) X.A (eval (.Name x pos) X.env) Q E s:=
 Calls.Name_function_global I.ok.kind hg (Calls.loadGlobal_global (by rw[I.ok.glob];exact I.mod.glob.keeps I.bk) hm h) hd
theorem zde_ {E:aU->kR->Prop}{pins:Pnn}{s:kR}{σ:St}{H:Hp}{x:Str}{u:aU}{pos:Pos}{Q:aU->kR->Prop}(I:Inv X pins σ H s)(hg:Gl X x)(hm:X.mg x=uO)(hv:nH x=uN u)(h:Q u s)
  (hn:x ≠ "__name__":=by decide) (hd:(x==("__debug__":Str))=uQ:=by decide):lK (model X.prog X.w) X.A (eval (.Name x pos) X.env) Q E s:=by
 obtain⟨mb,h1,h2⟩:=I.mod.blt;exact Calls.Name_function_global I.ok.kind hg (Calls.loadGlobal_builtin (by rw[I.ok.glob];exact I.mod.glob.keeps I.bk) hm (by rw[I.ok.blt];exact h1.keeps I.bk) ((h2 x hn).trans hv) h) hd
theorem zlU_ {x:Str}{v:V}{u:aU}{pos:Pos}(hg:Gl X x)(hm:X.mg x=uN u)(r:RelV v u)(hd:(x==("__debug__":Str))=uQ:=by decide):PE X (.Name x pos) (tC v):=
 λ_ _ _ H _ I h=>zea_ I hg hm ⟨v,H,I,r,h⟩ hd
theorem znK_ {x:Str}{v:V}{u:aU}{pos:Pos}(hg:Gl X x)(hm:X.mg x=uO)(hv:nH x=uN u)(r:RelV v u)(hn:x ≠ "__name__":=by decide)(hd:(x==("__debug__":Str))=uQ:=by decide):PE X (.Name x pos) (tC v):=
 λ_ _ _ H _ I h=>zde_ I hg hm hv ⟨v,H,I,r,h⟩ hn hd
variable {a:lF}{pos:Pos}
variable {tA:TT}
def tNot (t:TT):TT:=λσ H Q=>t σ H λc H1=>Q (!c) H1
theorem zk9_ (ha:PT X a tA):PW X (.BoolOp .And [a] pos) tA:=by
 intro wh pins s σ H Q I h;refine isTrue_and (thn (ha pins s σ H Q I h) λc s1 e=>?_)
 cases c with
 |true=>exact isTrue_and_nil e
 |false=>exact e
theorem zp9_ (ha:PT X a tA):PW X (.BoolOp .Or [a] pos) tA:=by
 intro wh pins s σ H Q I h;refine isTrue_or (thn (ha pins s σ H Q I h) λc s1 e=>?_)
 cases c with
 |false=>exact isTrue_or_nil e
 |true=>exact e
theorem zop_ (ha:PT X a tA):PT X (.UnaryOp .Not a pos) (tNot tA):=by
 intro pins s σ H Q I h;exact isTrue_not (ha pins s σ H (λc H1=>Q (!c) H1) I h)
theorem zle_ {op}{t:TE}(h:PE X a t):PE X (.BoolOp op [a] pos) t:=λpins s σ H Q I hw=>BoolOp_one (h pins s σ H Q I hw)
end
def SqL (K:Fgg)(H:Hp)(a:k9)(xs:List V):Prop:=
 Rd H a (.lst xs) \/
  ∃(o:sX) (aa:Array aU) (n:Nat),K.lookup a=uN o/\o.cls=.type "list" /\ o.dict=uO/\o.data=.seq aa n/\aa.size<=lA/\Vals xs aa.toList
def SqT (K:Fgg)(H:Hp)(a:k9)(xs:List V):Prop:=
 Rd H a (.tup xs) \/
  ∃(o:sX) (aa:Array aU) (n:Nat),K.lookup a=uN o/\o.cls=.type "tuple" /\ o.data=.seq aa n/\aa.size<=lA/\Vals xs aa.toList
noncomputable def absV:aU->Option V
 |.none=>uN .non
 |.bool b=>uN (.bl b)
 |.int i _=>uN (.int i)
 |.str x _=>uN (.str x)
 |.bytes b _=>uN (.byt b)
 |.float b _=>uN (.flt b)
 |.ref a=>uN (.ref a)
 |.type n=>uN (.ty n)
 |_=>uO
theorem RelV.abs {x:V}{u:aU}(r:RelV x u):absV u=uN x:=by
 cases x with
 |non=>cases r;rfl
 |bl _=>cases r;rfl
 |int _=>obtain⟨t,rfl⟩:=r;rfl
 |str _=>obtain⟨t,rfl⟩:=r;rfl
 |byt _=>obtain⟨t,rfl⟩:=r;rfl
 |flt _=>obtain⟨t,rfl⟩:=r;rfl
 |ref _=>cases r;rfl
 |ty _=>cases r;rfl
theorem RelV.inj {x y:V}{u:aU}(r:RelV x u)(q:RelV y u):x=y:=lX (r.abs.symm.trans q.abs)
theorem Vals.inj:∀{xs ys:List V}{us:List aU},Vals xs us->Vals ys us->xs=ys
 |_,_,_,.nil,.nil=>rfl
 |_,_,_,.cons r t,.cons r' t'=>by rw[r.inj r',Vals.inj t t']
section
variable {X:Cx}{pins:Pnn}{σ:St}{H:Hp}{s:kR}{a:k9}{xs ys:List V}
theorem SqL.of {K:Fgg}(h:H a=uN (.lst xs)):SqL K H a xs:=.inl (.inl h)
theorem SqT.of {K:Fgg}(h:H a=uN (.tup xs)):SqT K H a xs:=.inl (.inl h)
theorem Inv.list (I:Inv X pins σ H s)(h:SqL X.K H a xs):∃aa:List aU,Vals xs aa/\PlainL s.heap a aa.toArray/\xs.length<=lA:=by
 rcases h with h |⟨o,aa,n,hk,hc,hd,hs,hz,r⟩
 ·obtain⟨z,aa,n,r,e⟩:=h.ok I.hok
  exact⟨aa,r,⟨_,n,e,rfl,rfl,rfl⟩,z⟩
 ·refine⟨aa.toList,r,⟨o,n,I.kIn a o hk,hc,hd,by simpa using hs⟩,?_⟩
  have e:=r.length;simp only[mz]at e;lia
theorem Inv.tuple (I:Inv X pins σ H s)(h:SqT X.K H a xs):∃aa:List aU,Vals xs aa/\IsTup s.heap a aa.toArray/\xs.length<=lA:=by
 rcases h with h |⟨o,aa,n,hk,hc,hs,hz,r⟩
 ·obtain⟨z,aa,r,p⟩:=h.ok I.hok
  exact⟨aa,r,p,z⟩
 ·refine⟨aa.toList,r,⟨o,I.kIn a o hk,hc,n,by simpa using hs⟩,?_⟩
  have e:=r.length;simp only[mz]at e;lia
theorem Inv.list_inj (I:Inv X pins σ H s)(h:SqL X.K H a xs)(h':SqL X.K H a ys):xs=ys:=by
 obtain⟨aa,r,⟨o,n,e,_,_,d⟩,_⟩:=I.list h;obtain⟨its',r',⟨o',n',e',_,_,d'⟩,_⟩:=I.list h';rw[e]at e';cases e';rw[d]at d';injection d' with d1 _;have:aa=its':=by simpa using congrArg qx d1
 subst this;exact r.inj r'
theorem Inv.tuple_inj (I:Inv X pins σ H s)(h:SqT X.K H a xs)(h':SqT X.K H a ys):xs=ys:=by
 obtain⟨aa,r,⟨o,e,_,n,d⟩,_⟩:=I.tuple h;obtain⟨its',r',⟨o',e',_,n',d'⟩,_⟩:=I.tuple h';rw[e]at e';cases e';rw[d]at d';injection d' with d1 _;have:aa=its':=by simpa using congrArg qx d1
 subst this;exact r.inj r'
end
noncomputable abbrev Cx.wish (X:Cx)(E:aU->kR->Prop):Cx:={X with xe:=E}
abbrev Cx.nox (X:Cx):Cx:=X.wish λ_ _=>False
theorem Cx.Ok.wish {X:Cx}(ok:X.Ok)(E:aU->kR->Prop):(X.wish E).Ok:=
 ⟨ok.mod,ok.kind,ok.glob,ok.blt,ok.above,ok.inj,ok.has,ok.cab,ok.hd,ok.frames,ok.stk,ok.exf,ok.bs,ok.bsz,ok.noex,ok.exfs,ok.funs,ok.frf,ok.tb⟩
theorem Cx.Ok.unwish {X:Cx}{E:aU->kR->Prop}(ok:(X.wish E).Ok):X.Ok:=
 ⟨ok.mod,ok.kind,ok.glob,ok.blt,ok.above,ok.inj,ok.has,ok.cab,ok.hd,ok.frames,ok.stk,ok.exf,ok.bs,ok.bsz,ok.noex,ok.exfs,ok.funs,ok.frf,ok.tb⟩
section
variable {X:Cx}{pins:Pnn}{σ:St}{H:Hp}{s:kR}{E:aU->kR->Prop}
theorem Inv.wish (I:Inv X pins σ H s)(E:aU->kR->Prop):Inv (X.wish E) pins σ H s:=⟨I.ok.wish E,I.os,I.bare,I.base,I.loc,I.cell,I.free,I.freeC,I.pin,I.hok,I.len⟩
theorem Inv.unwish (I:Inv (X.wish E) pins σ H s):Inv X pins σ H s:=⟨I.ok.unwish,I.os,I.bare,I.base,I.loc,I.cell,I.free,I.freeC,I.pin,I.hok,I.len⟩
theorem SP.unwish {D:Ends}{f:Flow}{s':kR}(h:SP (X.wish E) pins D f s'):SP X pins D f s':=by
 cases f with
 |next=>obtain⟨ah,H',I,q⟩:=h;exact⟨ah,H',I.unwish,q⟩
 |brk=>obtain⟨ah,H',I,q⟩:=h;exact⟨ah,H',I.unwish,q⟩
 |cont=>obtain⟨ah,H',I,q⟩:=h;exact⟨ah,H',I.unwish,q⟩
 |ret u=>obtain⟨v,ah,H',I,r,q⟩:=h;exact⟨v,ah,H',I.unwish,r,q⟩
end
section
variable {X:Cx}{st:mi}{rest:List mi}{t u:TS}{e:lF}{te:TE}{pos:Pos}
def tNext:TS:=λD σ H=>D.nx σ H
def tSeq (t u:TS):TS:=λD σ H=>t {D with nx:=u D} σ H
theorem ziA_:PSs X [] tNext:=λ_ _ σ H _ I h=>wpAny_execs_nil ⟨σ,H,I,h⟩
theorem zgP_ (h1:PS X st t)(h2:PSs X rest u):PSs X (st::rest) (tSeq t u):=by
 intro pins s σ H D I h;refine wpAny_execs_cons (thn (h1 pins s σ H {D with nx:=u D} I h) λf s1 q=>?_)
 cases f with
 |next=>
  obtain⟨ah,H',I',q⟩:=q;exact h2 pins s1 ah H' D I' q
 |ret v=>exact q
 |brk=>exact q
 |cont=>exact q
def tCont:TS:=λD σ H=>D.ct σ H
theorem zlw_:PS X (.Pass pos) tNext:=λ_ _ σ H _ I h=>wpAny_Pass ⟨σ,H,I,h⟩
theorem ze8_:PS X (.Continue pos) tCont:=λ_ _ σ H _ I h=>wpAny_Continue ⟨σ,H,I,h⟩
theorem Inv.quiet {pins:Pnn}{σ:St}{H:Hp}{s:kR}(I:Inv X pins σ H s):interactive X.env=uQ:=by simp[interactive,I.ok.kind]
theorem zp8_ {x j pos pos'}:PS X (.Expr (.Constant (.str x) j pos) pos') tNext:=λ_ s σ H _ I h=>wpAny_Expr (Calls.Constant_str (show SP X _ _ .next {s with toks:=s.toks+1}from⟨σ,H,I.tok _,h⟩)) I.quiet
def tDrop (te:TE):TS:=λD σ H=>te σ H λ_ H1=>D.nx σ H1
theorem zm2_ (he:PE X e te)(hs:swapsWith e uO pos.line X.env=pure uQ:=by rfl):PS X (.Expr e pos) (tDrop te):=by
 intro pins s σ H D I h;exact wpAny_Expr_any (thn (he pins s σ H _ I h) λv s1 ⟨x,H1,I1,r1,q1⟩=>⟨σ,H1,I1,q1⟩) I.quiet hs
def tRet (te:TE):TS:=λD σ H=>te σ H D.rt
theorem zlR_ (he:PE X e te):PS X (.Return (uN e) pos) (tRet te):=by
 intro pins s σ H D I h;exact wpAny_Return_some (thn (he pins s σ H _ I h) λv s1 ⟨x,H1,I1,r1,q1⟩=>⟨x,σ,H1,I1,r1,q1⟩)
def tRetN:TS:=λD _ H=>D.rt .non H
theorem zmh_:PS X (.Return uO pos) tRetN:=λ_ _ σ H _ I h=>wpAny_Return_none ⟨.non,σ,H,I,rfl,h⟩
def tNever:TS:=λ_ _ _=>False
theorem zkb_:PS X st tNever:=λ_ _ _ _ _ _ h=>h.elim
end
abbrev TG:=V->St->Hp->(St->Hp->Prop)->Prop
abbrev TGs:=List V->St->Hp->(St->Hp->Prop)->Prop
def PG (X:Cx)(target:lF)(t:TG):Prop:=
 ∀(pins:Pnn) (s:kR) (σ:St) (H:Hp) (v:V) (u:aU) (Q:St->Hp->Prop),Inv X pins σ H s->RelV v u->t v σ H Q ->
  lK (model X.prog X.w) X.A (assign target X.env u) (λ_ s'=>∃ah H',Inv X pins ah H' s'/\Q ah H') X.xe s
def PGs (X:Cx)(ts:List lF)(t:TGs):Prop:=
 ∀(pins:Pnn) (s:kR) (σ:St) (H:Hp) (vs:List V) (us:List aU) (Q:St->Hp->Prop),Inv X pins σ H s->Vals vs us->t vs σ H Q ->
  lK (model X.prog X.w) X.A (assignInOrder ((nh ts X.env).map (·.2)) us) (λ_ s'=>∃ah H',Inv X pins ah H' s'/\Q ah H') X.xe s
abbrev TSet:=V->V->V->Hp->(Hp->Prop)->Prop
def PSet (X:Cx)(t:TSet):Prop:=
 ∀(pins:Pnn) (s:kR) (σ:St) (H:Hp) (o i v:V) (ov iv u:aU) (Q:Hp->Prop),Inv X pins σ H s->RelV o ov->RelV i iv->RelV v u->t o i v H Q ->
  lK (model X.prog X.w) X.A (setItem ov iv u) (λ_ s'=>∃H',Inv X pins σ H' s'/\Q H') X.xe s
section
variable {X:Cx}{pos:Pos}
def gName (i:Nat):TG:=λv σ H Q=>Q (σ.set i (uN v)) H
theorem znr_ {i:Nat}{x:Str}(hN:X.N.Nodup)(hi:X.N[i]?=uN x)(hx:Loc X.env.scope x)(hf:X.fn x=uP\/X.env.scope.names.lookup x=uN .local:=by first |exact .inl rfl |exact .inr rfl |assumption):PG X (.Name x pos) (gName i):=by
 intro pins s σ H v u Q I r h;exact wpAny_assign_Name (zgn_ I hN hi hx r (λs' I'=>⟨_,H,I',h⟩) hf)
def gNil:TGs:=λvs σ H Q=>vs=[]/\Q σ H
def gCons (t:TG)(u:TGs):TGs:=λvs σ H Q=>∃v r,vs=v::r/\t v σ H λah H'=>u r ah H' Q
theorem zlQ_:PGs X [] gNil:=by
 intro pins s σ H vs us Q I r h;obtain⟨e,h⟩:=h;subst e;cases r;exact assignInOrder_nil ⟨σ,H,I,h⟩
theorem zjd_ {e:lF}{es:List lF}{t:TG}{u:TGs}(h1:PG X e t)(h2:PGs X es u)
  (hs:(nh (e::es) X.env).map (·.2)=assign e X.env::(nh es X.env).map (·.2):=by rfl):PGs X (e::es) (gCons t u):=by
 intro pins s σ H vs us Q I r h;obtain⟨v,vr,e1,h⟩:=h;subst e1;cases r with
 |cons r rr=>
  rw[hs];refine assignInOrder_cons (thn (h1 pins s σ H _ _ _ I r h) λ_ s1 ae=>?_)
  obtain⟨iZ,H1,I1,q1⟩:=ae;exact h2 pins s1 iZ H1 _ _ Q I1 rr q1
def gTup (K:Fgg)(n:Nat)(t:TGs):TG:=λv σ H Q=>∃a xs,v=.ref a/\SqT K H a xs/\xs.length=n/\t xs σ H Q
theorem zqC_ {es:List lF}{k:Nat}{t:TGs}{n:Nat}(hc:X.calm=uP)(h:PGs X es t)
  (hn:(nh es X.env).length=n:=by rfl) (gB:(nh es X.env).findIdx? (·.1)=uO:=by rfl):PG X (.Tuple es k pos) (gTup X.K n t):=by
 intro pins s σ H v u Q I r hw;obtain⟨a,xs,e1,hq,hl,hw⟩:=hw;subst e1;cases r;obtain⟨aa,rv,ht,hz⟩:=I.tuple hq;refine assign_Tuple_tuple (I.ok.hd hc) ht (by simp[hn,<- hl,rv.length]) gB λh' hx=>?_
 have I1:Inv X pins σ H {s with heap:=h'}:=I.kept (t':=s.toks) λb o e=>hx b o (lN (lh e)) e
 exact h pins _ σ H xs _ Q I1 (by simpa using rv) hw
def gSub (to ti:TE)(t:TSet):TG:=λv σ H Q=>to σ H λo H1=>ti σ H1 λi H2=>t o i v H2 λH3=>Q σ H3
theorem zoX_ {o i:lF}{to ti:TE}{t:TSet}(ho:PE X o to)(hi:PE X i ti)(hs:PSet X t)
  (ha:∀v,assign (.Subscript o i pos) X.env v=(do
   let ov <- holding [v] (eval o X.env)
   let iv <- holding [v,ov] (eval i X.env)
   standAt pos
   holding [v,ov,iv] (setItem ov iv v)
   release [v,ov,iv] []):=by intro _;rfl):PG X (.Subscript o i pos) (gSub to ti t):=by
 intro pins s σ H v u Q I r h;rw[ha];refine kP (wpAny_holding (thn (ho pins s σ H _ I h) λov s1 ae=>?_))
 obtain⟨x,H1,I1,r1,q1⟩:=ae;refine kP (wpAny_holding (thn (hi pins s1 σ H1 _ I1 q1) λiv s2 ae=>?_))
 obtain⟨y,H2,I2,r2,q2⟩:=ae;refine kP (wpAny_standAt (kP (wpAny_holding (thn (hs pins s2 σ H2 x y v ov iv u _ I2 r1 r2 r q2) λ_ s3 ae=>?_))))
 obtain⟨H3,I3,q3⟩:=ae;exact wpAny_release ⟨σ,H3,I3,q3⟩
def tAsg (te:TE)(g:TG):TS:=λD σ H=>te σ H λx H1=>g x σ H1 D.nx
theorem zlJ_ {tg e:lF}{te:TE}{g:TG}(he:PE X e te)(hg:PG X tg g)(hs:swapsWithSole [tg] e pos.line X.env=pure uQ:=by rfl)(hw:swappedStores [tg] e X.env=pure uO:=by rfl)
  (h1:(nh [tg] X.env).map (·.2)=[assign tg X.env]:=by rfl):PS X (.Assign [tg] e pos) (tAsg te g):=by
 intro pins s σ H D I h;refine wpAny_Assign_stores (thn (he pins s σ H _ I h) λv s1 ae=>?_) hs hw
 obtain⟨x,H1,I1,r1,q1⟩:=ae;rw[h1];exact thn (hg pins s1 σ H1 x v _ I1 r1 q1) λ_ s2 q=>q
theorem zme_ {i:Nat}{x:Str}{e:lF}{te:TE}{pos':Pos}(hN:X.N.Nodup)(hi:X.N[i]?=uN x)(hx:Loc X.env.scope x)(he:PE X e te)(hs:swapsWith e (uN (.Name x pos')) pos.line X.env=pure uQ:=by rfl)(hf:X.fn x=uP\/X.env.scope.names.lookup x=uN .local:=by first |exact .inl rfl |exact .inr rfl |assumption):
  PS X (.Assign [.Name x pos'] e pos) (tAsg te (gName i)):=by
 intro pins s σ H D I h;refine wpAny_Assign_Name (thn (he pins s σ H _ I h) λv s1 ae=>?_) hs
 obtain⟨y,H1,I1,r1,q1⟩:=ae;exact zgn_ I1 hN hi hx r1 (λs2 I2=>⟨_,H1,I2,q1⟩) hf
end
structure It where
 go:Nat->Hp->Prop
 yld:Nat->Hp->V->Hp->Prop
 stop:Nat->Hp->Prop
def FpOk (X:Cx)(pins:Pnn)(H:Hp)(b:k9):Prop:=
 H b=uO/\b≠X.env.locals/\b∉X.fs/\(b∈X.ex\/X.s₀.heap.objs.size<=b)/\(∀x c,X.env.cells.lookup x=uN c->c≠b)/\∀p∈X.pn++pins,p.1≠b
theorem Inv.fpOk {X:Cx}{pins:Pnn}{σ:St}{H H':Hp}{s:kR}{b:k9}(I:Inv X pins σ H s)(hb:s.heap.objs.size<=b)(hn:H' b=uO):FpOk X pins H' b:=by
 refine⟨hn,oH (lG I.lt hb),I.nofs hb,.inr (mq I.sz hb),λx c e z=>?_,λp hp z=>?_⟩
 ·obtain⟨v,q⟩:=I.cell x c e
  exact absurd (lG q.lt (by rw[z];exact hb)) (oT _)
 ·exact absurd (lG (lh (I.pin p hp).1) (by rw[z];exact hb)) (oT _)
structure Turn (P:lQ)(w:l9)(K:Fgg)(tg:lF)(J:It)(fp:List k9)(it:k9)(tn:Nat->Heap->Prop):Prop where
 mem:it∈fp
 obj:∀i h,tn i h->∀b∈fp,∃o,h.get? b=uN o/\∀v,o.data≠.cell v
 keep:∀i h h',tn i h->(∀b∈fp,∀o,h.get? b=uN o->h'.get? b=uN o)->tn i h'
 item:∀(X:Cx),X.prog=P->X.w=w->X.K=K->X.calm=uP->∀(i:Nat) (pins:Pnn) (s:kR) (σ:St) (H:Hp) (E:aU->kR->Prop),Inv X pins σ H s->(∀b∈fp,FpOk X pins H b)->tn i s.heap->J.go i H ->
  lK (model P w) X.A (pyNext (.ref it)) (λr s1=>∃u,r=uN u /\
   lK (model P w) X.A (letOwnedTupleGo tg (.ref it) u) (λ_ s2=>∃x H',Inv X pins σ H' s2/\RelV x u/\J.yld i H x H'/\tn (i+1) s2.heap/\∀b∈fp,H' b=uO) E s1) E s
 done:∀(X:Cx),X.prog=P->X.w=w->X.K=K->X.calm=uP->∀(i:Nat) (pins:Pnn) (s:kR) (σ:St) (H:Hp) (E:aU->kR->Prop),Inv X pins σ H s->(∀b∈fp,FpOk X pins H b)->tn i s.heap->J.stop i H ->
  lK (model P w) X.A (pyNext (.ref it)) (λr s1=>r=uO/\Inv X pins σ H s1) E s
 self:∀(A:mh) (i:Nat) (s:kR) (Q:aU->kR->Prop) (E:aU->kR->Prop),tn i s.heap->Q (.ref it) s->lK (model P w) A (pyIter (.ref it)) Q E s
abbrev TI:=St->Hp->(It->Hp->Prop)->Prop
def PIE (X:Cx)(pins:Pnn)(σ:St)(tg:lF)(R:It->Hp->Prop)(fJ:aU)(s2:kR):Prop:=
 ∃(it:k9) (fp:List k9) (tn:Nat->Heap->Prop) (J:It) (H':Hp),fJ=.ref it/\Inv X pins σ H' s2/\Turn X.prog X.w X.K tg J fp it tn/\tn 0 s2.heap/\(∀b∈fp,FpOk X pins H' b)/\R J H'
def PI (X:Cx)(tg iter:lF)(wi:TI):Prop:=
 ∀(pins:Pnn) (s:kR) (σ:St) (H:Hp) (R:It->Hp->Prop),Inv X pins σ H s->wi σ H R ->
  lK (model X.prog X.w) X.A (eval iter X.env) (λv s1=>lK (model X.prog X.w) X.A (pyIter v) (PIE X pins σ tg R) X.xe s1) X.xe s
theorem znV_ {M:Model}{A:mh}{E:aU->kR->Prop}{s:kR}{tg:lF}{it:k9}{u:aU}{o:sX}{n:String}{vs:Array aU}{Q:Unit->kR->Prop}(ho:s.heap.get? it=uN o)(hc:o.cls=.type n)(hd:o.data=.fields vs)
  (hn:["enumerate", "zip", "dict_itemiterator", "dict_reverseitemiterator", "odict_iterator", "itertools.zip_longest", "itertools.pairwise"].contains n=uQ) (hQ:Q () s):lK M A (letOwnedTupleGo tg (.ref it) u) Q E s:=by
 unfold letOwnedTupleGo
 cases tg<;>first
  |exact lB hQ
  | (cases u<;>first
    |exact lB hQ
    | (refine kP (wpAny_load ho ?_)
       rw[hc,hd];show lK M A (if(["enumerate", "zip", "dict_itemiterator", "dict_reverseitemiterator", "odict_iterator", "itertools.zip_longest", "itertools.pairwise"].contains n && vs[0]?==uN (rawInt _))=uP then _ else _) Q E s
       rw[if_neg (by intro h;rw[hn,Bool.false_and]at h;cases h)]
       exact lB hQ))
def Itl (K:Fgg)(a:k9):It:=
 ⟨λi H=>∃xs x,SqL K H a xs/\xs[i]?=uN x,λi H x H'=>H'=H/\∀xs,SqL K H a xs->xs[i]?=uN x,λi H=>∃xs,SqL K H a xs/\xs.length<=i⟩
def Itt (K:Fgg)(a:k9):It:=
 ⟨λi H=>∃xs x,SqT K H a xs/\xs[i]?=uN x,λi H x H'=>H'=H/\∀xs,SqT K H a xs->xs[i]?=uN x,λi H=>∃xs,SqT K H a xs/\xs.length<=i⟩
noncomputable def Itr (lo:Int)(n:Nat):It:=⟨λi _=>i<n,λi H x H'=>H'=H/\x=.int (lo+i),λi _=>n<=i⟩
theorem zh0_ {P:lQ}{w:l9}{K:Fgg}{tg:lF}(a it:k9):Turn P w K tg (Itl K a) [it] it (λi h=>h.IsListIter it a i) where
 mem:=by simp
 obj:=λi h st b hb=>by
  have e:b=it:=by simpa using hb
  subst e;obtain⟨o,e,c,d⟩:=st;exact⟨o,e,λv z=>by rw[d]at z;cases z⟩
 keep:=λi h h' st k=>st.at λo e=>k it (by simp) o e
 item:=by
  intro X hP hw hK hc i pins s σ H E I hf st hg;subst hP hw hK;obtain⟨xs,x,hq,hx⟩:=hg;obtain⟨aa,rv,p,hz⟩:=I.list hq;obtain⟨u,hu,ru⟩:=rv.get hx;obtain⟨f0,f1,f2,f3,f4,f5⟩:=hf it (by simp)
  refine wpAny_pyNext_list_item st p.isList (x:=u) (by simpa using hu) λh' st' sb=>?_
  have I1:Inv X pins σ H {s with heap:=h'}:=I.turned (t':=s.toks) (λb o hb e=>(sb.2 b hb).trans e) f0 f1 f3 f4 f5
  obtain⟨o,e,c,d⟩:=id st';exact⟨u,rfl,znV_ (s:={s with heap:=h'}) e c d (by decide) ⟨x,H,I1,ru,⟨rfl,λys hy=>by rw[I.list_inj hy hq];exact hx⟩,st',λb hb=>(hf b hb).1⟩⟩
 done:=by
  intro X hP hw hK hc i pins s σ H E I hf st hg;subst hP hw hK;obtain⟨xs,hq,hx⟩:=hg;obtain⟨aa,rv,p,hz⟩:=I.list hq;obtain⟨f0,f1,f2,f3,f4,f5⟩:=hf it (by simp)
  have hl:=rv.length;exact wpAny_pyNext_list_end (I.ok.hd hc) st p.isList (by simp;lia) λh' eb=>⟨rfl,I.turned (t':=s.toks) (λb o hb e=>eb b o hb e) f0 f1 f3 f4 f5⟩
 self:=λ_ _ _ _ _ st h=>wpAny_pyIter_listiter st h
theorem zfi_ {P:lQ}{w:l9}{K:Fgg}{tg:lF}(a it:k9):Turn P w K tg (Itt K a) [it] it (λi h=>h.IsTupleIter it a i) where
 mem:=by simp
 obj:=λi h st b hb=>by
  have e:b=it:=by simpa using hb
  subst e;obtain⟨o,e,c,d⟩:=st;exact⟨o,e,λv z=>by rw[d]at z;cases z⟩
 keep:=λi h h' st k=>st.at λo e=>k it (by simp) o e
 item:=by
  intro X hP hw hK hc i pins s σ H E I hf st hg;subst hP hw hK;obtain⟨xs,x,hq,hx⟩:=hg;obtain⟨aa,rv,p,hz⟩:=I.tuple hq;obtain⟨u,hu,ru⟩:=rv.get hx;obtain⟨f0,f1,f2,f3,f4,f5⟩:=hf it (by simp)
  refine wpAny_pyNext_tuple_item st (show s.heap.IsTuple a aa.toArray from p) (x:=u) (by simpa using hu) λh' st' sb=>?_
  have I1:Inv X pins σ H {s with heap:=h'}:=I.turned (t':=s.toks) (λb o hb e=>(sb.2 b hb).trans e) f0 f1 f3 f4 f5
  obtain⟨o,e,c,d⟩:=id st';exact⟨u,rfl,znV_ (s:={s with heap:=h'}) e c d (by decide) ⟨x,H,I1,ru,⟨rfl,λys hy=>by rw[I.tuple_inj hy hq];exact hx⟩,st',λb hb=>(hf b hb).1⟩⟩
 done:=by
  intro X hP hw hK hc i pins s σ H E I hf st hg;subst hP hw hK;obtain⟨xs,hq,hx⟩:=hg;obtain⟨aa,rv,p,hz⟩:=I.tuple hq;obtain⟨f0,f1,f2,f3,f4,f5⟩:=hf it (by simp)
  have hl:=rv.length;exact wpAny_pyNext_tuple_end (I.ok.hd hc) st (show s.heap.IsTuple a aa.toArray from p) (by simp;lia) λh' eb=>⟨rfl,I.turned (t':=s.toks) (λb o hb e=>eb b o hb e) f0 f1 f3 f4 f5⟩
 self:=λ_ _ _ _ _ st h=>wpAny_pyIter_tupleiter st h
theorem zgx_ {P:lQ}{w:l9}{K:Fgg}{tg:lF}(it:k9)(lo:Int)(n:Nat):Turn P w K tg (Itr lo n) [it] it (λi h=>IsRangeIter h it (lo+(i:Nat)*1) ((n:Int)-(i:Nat)) 1) where
 mem:=by simp
 obj:=λi h st b hb=>by
  have e:b=it:=by simpa using hb
  subst e;exact⟨_,st,λv z=>by
   have z':Data.fields _=Data.cell v:=z;cases z'⟩
 keep:=λi h h' st k=>k it (by simp) _ st
 item:=by
  intro X hP hw hK hc i pins s σ H E I hf st hg;subst hP hw hK;obtain⟨f0,f1,f2,f3,f4,f5⟩:=hf it (by simp)
  have W:=Walks.range (prog:=X.prog) (w:=X.w) (I.ok.hd hc) it lo 1 n;refine W.item i s _ _ hg st λv h' tk hv st' kk=>?_
  obtain⟨t,rfl⟩:=hv;have I1:Inv X pins σ H {s with heap:=h',toks:=tk}:=I.turned (λb o hb e=>kk b o (by simpa using hb) e) f0 f1 f3 f4 f5
  refine⟨_,rfl,znV_ (s:={s with heap:=h',toks:=tk}) (n:="range_iterator") st' rfl rfl (by decide) ⟨.int (lo+i),H,I1,⟨t,?_⟩,⟨rfl,rfl⟩,st',λb hb=>(hf b hb).1⟩⟩
  rw[Int.mul_one]
 done:=by
  intro X hP hw hK hc i pins s σ H E I hf st hg;subst hP hw hK;obtain⟨f0,f1,f2,f3,f4,f5⟩:=hf it (by simp)
  exact wpAny_pyNext_range_end (I.ok.hd hc) st (by have:n<=i:=hg;lia) λh' eb=>⟨rfl,I.turned (t':=s.toks) (λb o hb e=>eb b o hb e) f0 f1 f3 f4 f5⟩
 self:=λ_ _ _ _ _ st h=>wpAny_pyIter_rangeiter st h
section
variable {X:Cx}{tg:lF}
theorem zg7_ {pins:Pnn}{σ:St}{H:Hp}{s:kR}{R:It->Hp->Prop}{E:aU->kR->Prop}{lo hi:Int}{t u v:Tok}{tk:Nat}(I:Inv X pins σ H s)(h1 : -(2 ^ 62)<=lo)(h2:lo<2 ^ 62)(h3 : -(2 ^ 62)<=hi)(h4:hi<2 ^ 62)
  (q:R (Itr lo (hi-lo).toNat) H):lK (model X.prog X.w) X.A (pyIter (.ref s.heap.objs.size)) (PIE X pins σ tg R) E {s with heap:=s.heap.push {cls:=.type "range",data:=.fields #[.int lo t,.int hi u,.int 1 v]},toks:=tk}:=by
 refine wpAny_pyIter_range (IsRange.new ..) (small_one h1 h2 h3 h4) ?_;have I1:Inv X pins σ H {s with heap:=s.heap.push {cls:=.type "range",data:=.fields #[.int lo t,.int hi u,.int 1 v]},toks:=tk}:=I.kept λb o e=>kQ _ e
 refine⟨(s.heap.push {cls:=.type "range",data:=.fields #[.int lo t,.int hi u,.int 1 v]}).objs.size,[(s.heap.push {cls:=.type "range",data:=.fields #[.int lo t,.int hi u,.int 1 v]}).objs.size],_,_,H,rfl,
  I1.kept (t':=tk) λb o e=>kQ _ e,zgx_ _ lo (hi-lo).toNat,?_,λb hb=>?_,q⟩
 ·have e1:lo+((0:Nat):Int)*1=lo:=by simp
  have e2:(((hi-lo).toNat:Nat):Int)-((0:Nat):Int)=ql lo hi 1:=by rw[rangeSize_one];split<;>omega
  show IsRangeIter _ _ (lo+((0:Nat):Int)*1) ((((hi-lo).toNat:Nat):Int)-((0:Nat):Int)) 1
  rw[e1,e2];exact lC _ rfl
 ·have e:b=(s.heap.push {cls:=.type "range",data:=.fields #[.int lo t,.int hi u,.int 1 v]}).objs.size:=by simpa using hb
  subst e;exact I1.fpOk (kZ _) (I1.hok.fresh (kZ _))
def tFor (wi:TI)(g:TG)(tb:TS):TS:=λD σ H=>wi σ H λJ H1=>∃W:Nat->Nat->St->Hp->Prop,(∃m,W 0 m σ H1)/\∀i m σ H,W i m σ H ->
 (J.stop i H/\D.nx σ H)\/(J.go i H/\∃N:St->Hp->Prop,(∀ah H',N ah H'->∃m',m'<m/\W (i+1) m' ah H')/\∀x H',J.yld i H x H'->g x σ H' λdG H2=>tb {D with nx:=N,ct:=N,bk:=D.nx} dG H2)
def pinsAt (fp:List k9)(h:Heap):Pnn:=fp.filterMap λb=>(h.get? b).map λo=>(b,o)
theorem zaR_ {fp:List k9}{h:Heap}{b:k9}{o:sX}(hb:b∈fp)(e:h.get? b=uN o):(b,o)∈pinsAt fp h:=rf.mpr ⟨b,hb,by rw[e];rfl⟩
theorem zhC_ {fp:List k9}{h:Heap}{p:k9×sX}(hp:p∈pinsAt fp h):p.1∈fp/\h.get? p.1=uN p.2:=by
 obtain⟨b,hb,e⟩:=rf.mp hp;cases q:h.get? b with
 |none=>rw[q]at e;cases e
 |some o=>
  rw[q]at e;have e':(b,o)=p:=lX e;subst e';exact⟨hb,q⟩
theorem Inv.pinned {pins:Pnn}{σ:St}{H:Hp}{s:kR}{fp:List k9}(I:Inv X pins σ H s)(hf:∀b∈fp,FpOk X pins H b)(ho:∀b∈fp,∃o,s.heap.get? b=uN o/\∀v,o.data≠.cell v):Inv X (pins++pinsAt fp s.heap) σ H s:=
 I.pins_of λp hp=>(qI.mp hp).elim (λz=>I.pin p (lU _ z)) λz=>by
  obtain⟨hb,e⟩:=zhC_ z;obtain⟨f0,f1,f2,_⟩:=hf p.1 hb;obtain⟨o,e',d⟩:=ho p.1 hb;rw[e]at e';cases e';exact⟨e,f0,f1,f2,d⟩
theorem Inv.unpinned {pins pl:Pnn}{σ:St}{H:Hp}{s:kR}(I:Inv X (pins++pl) σ H s):Inv X pins σ H s:=I.pins_of λp hp=>I.pin p (lU _ (oX _ hp))
theorem zpO_ {iter:lF}{body:List mi}{wi:TI}{g:TG}{tb:TS}{pos:Pos}(hp:PassesOwn (model X.prog X.w) X.A X.env X.xe)(hc:X.calm=uP)(hi:PI X tg iter wi)(hg:PG X tg g)(hb:PSs X body tb)
  (hs:∀x,foldedSetIterable iter X.env x=pure x:=by intro _;rfl):PS X (.For tg iter body [] pos) (tFor wi g tb):=by
 intro pins s σ H D I h;refine wpAny_For (thn (hi pins s σ H _ I h) λv s1 h1=>thn h1 λfJ s2 h2=>?_) hs
 obtain⟨it,fp,tn,J,H2,e,I2,T,bx,f2,W,⟨m0,w0⟩,turn⟩:=h2;subst e;have aW:∀{H':Hp},(∀b∈fp,H' b=uO)->∀b∈fp,FpOk X pins H' b:=λhn b hb=>⟨hn b hb,(f2 b hb).2⟩
 refine codeAny_forLoop_any (λn s'=>∃i ah H',Inv X pins ah H' s'/\tn i s'.heap/\(∀b∈fp,H' b=uO)/\W i n ah H') ?_ m0 ⟨0,σ,H2,I2,bx,λb hb=>(f2 b hb).1,w0⟩
 rintro n s3 ⟨i,bE,H3,I3,st3,fr3,w3⟩;rcases turn i n bE H3 w3 with⟨stop,qn⟩|⟨go,N,hN,step⟩
 ·refine pz hp (thn (T.done X rfl rfl rfl hc i pins s3 bE H3 X.xe I3 (aW fr3) st3 stop) λr s4 ae=>?_)
  obtain⟨hr,I4⟩:=ae;subst hr;exact wpAny_execs_nil ⟨bE,H3,I4,qn⟩
 ·refine pz hp (thn (T.item X rfl rfl rfl hc i pins s3 bE H3 X.xe I3 (aW fr3) st3 go) λr s4 ae=>?_)
  obtain⟨u,hr,h4⟩:=ae;subst hr;refine pz hp (thn h4 λ_ s5 ae=>?_)
  obtain⟨x,H5,I5,r5,y5,st5,fr5⟩:=ae;have ia:=I5.pinned (aW fr5) (T.obj _ _ st5);refine pz hp (thn (hg _ s5 bE H5 x u _ ia r5 (step x H5 y5)) λ_ s6 ae=>?_)
  obtain⟨b_,H6,I6,q6⟩:=ae;refine pz hp (thn (hb _ s6 b_ H6 _ I6 q6) λf s7 q7=>?_)
  have again:∀{bK:St}{H7:Hp},Inv X (pins++pinsAt fp s5.heap) bK H7 s7->N bK H7->∃m,m<n/\∃i ah H',Inv X pins ah H' s7/\tn i s7.heap/\(∀b∈fp,H' b=uO)/\W i m ah H':=λ{bK H7} I7 n7=>by
   obtain⟨m',hm,w7⟩:=hN bK H7 n7;refine⟨m',hm,i+1,bK,H7,I7.unpinned,T.keep _ _ _ st5 λb hb o e=>(I7.pin (b,o) (lU _ (lU _ (zaR_ hb e)))).1,λb hb=>?_,w7⟩
   obtain⟨o,e,d⟩:=T.obj _ _ st5 b hb;exact(I7.pin (b,o) (lU _ (lU _ (zaR_ hb e)))).2.1
  cases f with
  |next=>obtain⟨bK,H7,I7,n7⟩:=q7;exact again I7 n7
  |cont=>obtain⟨bK,H7,I7,n7⟩:=q7;exact again I7 n7
  |brk=>obtain⟨bK,H7,I7,q7⟩:=q7;exact⟨bK,H7,I7.unpinned,q7⟩
  |ret v=>obtain⟨x7,bK,H7,I7,r7,q7⟩:=q7;exact⟨x7,bK,H7,I7.unpinned,r7,q7⟩
end
abbrev R2:=V->V->Hp->VK->Prop
def OpR (X:Cx)(f:aU->aU->Sem aU)(r:R2):Prop:=
 ∀(pins:Pnn) (s:kR) (σ:St) (H:Hp) (x y:V) (v u:aU) (Q:VK),Inv X pins σ H s->RelV x v->RelV y u->r x y H Q ->
  lK (model X.prog X.w) X.A (f v u) (EP X pins σ Q) X.xe s
def UnR (X:Cx)(f:aU->Sem aU)(r:V->Hp->VK->Prop):Prop:=
 ∀(pins:Pnn) (s:kR) (σ:St) (H:Hp) (x:V) (v:aU) (Q:VK),Inv X pins σ H s->RelV x v->r x H Q ->
  lK (model X.prog X.w) X.A (f v) (EP X pins σ Q) X.xe s
def CallR (X:Cx)(f:aU)(r:List V->Hp->VK->Prop):Prop:=
 ∀(pins:Pnn) (s:kR) (σ:St) (H:Hp) (xs:List V) (us:List aU) (Q:VK),Inv X pins σ H s->Vals xs us->r xs H Q ->
  lK (model X.prog X.w) X.A (call f us) (EP X pins σ Q) X.xe s
def tOp (r:R2)(ta tb:TE):TE:=λσ H Q=>ta σ H λx H1=>tb σ H1 λy H2=>r x y H2 Q
def rI (C:Int->Int->Prop)(g:Int->Int->V):R2:=λx y H Q=>∃i j,x=.int i/\y=.int j/\C i j/\Q (g i j) H
def rI0 (g:Int->Int->V):R2:=λx y H Q=>∃i j,x=.int i/\y=.int j/\Q (g i j) H
def rU (g:Int->V):V->Hp->VK->Prop:=λx H Q=>∃i,x=.int i/\Q (g i) H
section
variable {X:Cx}{a b:lF}{ta tb:TE}{pos:Pos}
theorem binT (ha:PE X a ta)(hb:PE X b tb){pins:Pnn}{s:kR}{σ:St}{H:Hp}{R:V->V->Hp->Prop}(I:Inv X pins σ H s)
  (h:ta σ H λx H1=>tb σ H1 λy H2=>R x y H2) {Q:aU->kR->Prop}{f:aU->aU->Sem aU}
  (hf:∀v u s2 x y H2,Inv X pins σ H2 s2->RelV x v->RelV y u->R x y H2->lK (model X.prog X.w) X.A (f v u) Q X.xe s2):
  lK (model X.prog X.w) X.A (eval a X.env) (λv ab=>lK (model X.prog X.w) X.A (eval b X.env) (λu aO=>lK (model X.prog X.w) X.A (f v u) Q X.xe aO) X.xe ab) X.xe s:=by
 refine thn (ha pins s σ H _ I h) λv s1 ae=>?_
 obtain⟨x,H1,I1,r1,q1⟩:=ae;refine thn (hb pins s1 σ H1 _ I1 q1) λu s2 ae=>?_
 obtain⟨y,H2,I2,r2,q2⟩:=ae;exact hf v u s2 x y H2 I2 r1 r2 q2
theorem pe_op {op:Operator}{r:R2}(ho:OpR X (m8 op) r)(ha:PE X a ta)(hb:PE X b tb):PE X (.BinOp a op b pos) (tOp r ta tb):=by
 intro pins s σ H Q I h;exact wpAny_BinOp (binT ha hb I h λv u s2 x y H2 I2 rx ry q=>ho pins s2 σ H2 x y v u Q I2 rx ry q)
theorem opI {f:aU->aU->Sem aU}{C:Int->Int->Prop}{g:Int->Int->Int}
  (rule:∀(i j:Int) (t u:Tok) (s:kR) (Q:aU->kR->Prop) (E:aU->kR->Prop),C i j->Q (.int (g i j) s.toks) {s with toks:=s.toks+1}->lK (model X.prog X.w) X.A (f (.int i t) (.int j u)) Q E s):
  OpR X f (rI C λi j=>.int (g i j)):=by
 intro pins s σ H x y v u Q I rx ry h;obtain⟨i,j,rfl,rfl,hc,q⟩:=h;obtain⟨t,rfl⟩:=rx;obtain⟨t',rfl⟩:=ry;exact rule i j t t' s _ _ hc ⟨.int (g i j),H,I.tok _,⟨_,rfl⟩,q⟩
theorem opI0 {f:aU->aU->Sem aU}{g:Int->Int->Int}
  (rule:∀(i j:Int) (t u:Tok) (s:kR) (Q:aU->kR->Prop) (E:aU->kR->Prop),Q (.int (g i j) s.toks) {s with toks:=s.toks+1}->lK (model X.prog X.w) X.A (f (.int i t) (.int j u)) Q E s):
  OpR X f (rI0 λi j=>.int (g i j)):=by
 intro pins s σ H x y v u Q I rx ry h;obtain⟨i,j,rfl,rfl,q⟩:=h;obtain⟨t,rfl⟩:=rx;obtain⟨t',rfl⟩:=ry;exact rule i j t t' s _ _ ⟨.int (g i j),H,I.tok _,⟨_,rfl⟩,q⟩
theorem opB0 {f:aU->aU->Sem aU}{g:Int->Int->Bool}
  (rule:∀(i j:Int) (t u:Tok) (s:kR) (Q:aU->kR->Prop) (E:aU->kR->Prop),Q (.bool (g i j)) s->lK (model X.prog X.w) X.A (f (.int i t) (.int j u)) Q E s):
  OpR X f (rI0 λi j=>.bl (g i j)):=by
 intro pins s σ H x y v u Q I rx ry h;obtain⟨i,j,rfl,rfl,q⟩:=h;obtain⟨t,rfl⟩:=rx;obtain⟨t',rfl⟩:=ry;exact rule i j t t' s _ _ ⟨.bl (g i j),H,I,rfl,q⟩
def CDiv (i j:Int):Prop:=0<j/\j<1073741824
def CPow (i j:Int):Prop:=0<=j/\j<=1000000/\i.natAbs<2 ^ 64
def CMul (i j:Int):Prop:=(-(2 ^ 64)<i/\i<2 ^ 64)\/(-(2 ^ 64)<j/\j<2 ^ 64)
theorem CMul.ok {i j:Int}(h:CMul i j):IntMulOk i j:=by
 rcases h with⟨h1,h2⟩|⟨h1,h2⟩
 ·exact .of_left (intBits_le_64 h1 h2)
 ·exact .of_right (intBits_le_64 h1 h2)
theorem zo3_:OpR X (m8 .Add) (rI0 λi j=>.int (i+j)):=opI0 λ_ _ _ _ _ _ _ q=>add_int q
theorem zp4_:OpR X (m8 .Sub) (rI0 λi j=>.int (i-j)):=opI0 λ_ _ _ _ _ _ _ q=>sub_int q
theorem zpb_:OpR X (m8 .Mod) (rI (λ_ j=>0<j) λi j=>.int (i % j)):=opI λi j _ _ _ _ _ hc q=>by
 have h1:(0:Int)<j:=hc;exact mod_int' (by lia) (by rw[Int.fmod_eq_emod_of_nonneg i (by lia)];exact q)
theorem zpR_:OpR X (m8 .Pow) (rI CPow λi j=>.int (i ^ j.toNat)):=opI λ_ _ _ _ _ _ _ hc q=>pow_int_small hc.1 hc.2.1 hc.2.2 q
theorem unI {f:aU->Sem aU}{g:Int->Int}
  (rule:∀(i:Int) (t:Tok) (s:kR) (Q:aU->kR->Prop) (E:aU->kR->Prop),Q (.int (g i) s.toks) {s with toks:=s.toks+1}->lK (model X.prog X.w) X.A (f (.int i t)) Q E s):
  UnR X f (rU λi=>.int (g i)):=by
 intro pins s σ H x v Q I rx h;obtain⟨i,rfl,q⟩:=h;obtain⟨t,rfl⟩:=rx;exact rule i t s _ _ ⟨.int (g i),H,I.tok _,⟨_,rfl⟩,q⟩
theorem zn0_:UnR X (unaryOp .USub) (rU λi=>.int (-i)):=unI λ_ _ _ _ _ q=>neg_int q
theorem zhD_ {pins:Pnn}{σ:St}{H:Hp}{s:kR}{Q:VK}{k k':Bool}(I:Inv X pins σ H s)(q:Q (.bl k) H)(e:k=k'):EP X pins σ Q (.bool k') s:=by
 subst e;exact⟨.bl k,H,I,rfl,q⟩
theorem op_lt:OpR X (lP .Lt) (rI0 λi j=>.bl (decide (i<j))):=opB0 λ_ _ _ _ _ _ _ q=>lt_int q
theorem op_le:OpR X (lP .LtE) (rI0 λi j=>.bl (decide (i<=j))):=opB0 λ_ _ _ _ _ _ _ q=>le_int q
theorem op_gt:OpR X (lP .Gt) (rI0 λi j=>.bl (decide (j<i))):=opB0 λ_ _ _ _ _ _ _ q=>gt_int q
theorem op_ge:OpR X (lP .GtE) (rI0 λi j=>.bl (decide (j<=i))):=opB0 λ_ _ _ _ _ _ _ q=>ge_int q
theorem zii_:OpR X (lP .In) (λx y H Q=>∃i j,x=.str i/\y=.str j/\Q (.bl (!(nq j i 0 j.length 1).isEmpty)) H):=by
 intro pins s σ H x y v u Q I rx ry h;obtain⟨i,j,rfl,rfl,q⟩:=h;obtain⟨t,rfl⟩:=rx;obtain⟨t',rfl⟩:=ry;exact in_str (zhD_ I q rfl)
theorem zqG_:OpR X (lP .Is) (λx y H Q=>y=.non/\Q (.bl (decide (x=.non))) H):=by
 intro pins s σ H x y v u Q I rx ry h;obtain⟨rfl,q⟩:=h;cases ry;refine is_none_gen (zhD_ I q ?_)
 cases x<;>first
  |(cases rx;rfl)
  |(obtain⟨t,rfl⟩:=rx;rfl)
theorem zl8_:OpR X (lP .IsNot) (λx y H Q=>y=.non/\Q (.bl (!decide (x=.non))) H):=by
 intro pins s σ H x y v u Q I rx ry h;obtain⟨rfl,q⟩:=h;cases ry;refine isnot_none_gen (zhD_ I q ?_)
 cases x<;>first
  |(cases rx;rfl)
  |(obtain⟨t,rfl⟩:=rx;rfl)
theorem zdI_:OpR X (lP .NotIn) (λx y H Q=>∃i j,x=.str i/\y=.str j/\Q (.bl (!(!(nq j i 0 j.length 1).isEmpty))) H):=by
 intro pins s σ H x y v u Q I rx ry h;obtain⟨i,j,rfl,rfl,q⟩:=h;obtain⟨t,rfl⟩:=rx;obtain⟨t',rfl⟩:=ry;exact notIn_str (zhD_ I q rfl)
theorem zlX_ {op:CmpOp}{r:R2}(ho:OpR X (lP op) r)(ha:PE X a ta)(hb:PE X b tb)(hm:behindInMarks op b=uQ):PE X (.Compare a [op] [b] pos) (tOp r ta tb):=by
 intro pins s σ H Q I h;exact wpAny_Compare1 (binT ha hb I h λv u s2 x y H2 I2 rx ry q=>ho pins s2 σ H2 x y v u Q I2 rx ry q) hm
theorem line63:(lA:Nat)<2 ^ 63:=by rw[sizeLine_eq];decide
theorem zgA_:OpR X (m8 .Add) (λx y H Q=>∃i j,x=.str i/\y=.str j/\i.length+j.length<=lA/\Q (.str (i++j)) H):=by
 intro pins s σ H x y v u Q I rx ry h;obtain⟨i,j,rfl,rfl,hz,q⟩:=h;obtain⟨t,rfl⟩:=rx;obtain⟨t',rfl⟩:=ry;exact add_str (λt' tk=>⟨.str (i++j),H,I.tok _,⟨_,rfl⟩,q⟩) hz
theorem vals1 {x:V}{us:List aU}(r:Vals [x] us):∃u,us=[u]/\RelV x u:=by
 cases r with
 |cons r1 r2=>cases r2;exact⟨_,rfl,r1⟩
theorem vals2 {x y:V}{us:List aU}(r:Vals [x,y] us):∃u w',us=[u,w']/\RelV x u/\RelV y w':=by
 cases r with
 |cons r1 r2=>
  cases r2 with
  |cons r3 r4=>cases r4;exact⟨_,_,rfl,r1,r3⟩
theorem zil_ (hc:X.calm=uP):CallR X (.builtin "min") (λxs H Q=>∃i j,xs=[.int i,.int j]/\Q (.int (if j<i then j else i)) H):=by
 intro pins s σ H xs us Q I r h;obtain⟨i,j,rfl,q⟩:=h;obtain⟨u,w',rfl,⟨t,rfl⟩,⟨t',rfl⟩⟩:=vals2 r;refine min_two_ints (I.ok.hd hc) λh' tk k=>⟨_,H,I.kept k,?_,q⟩
 by_cases hj:j<i
 ·rw[if_pos hj,if_pos hj];exact⟨_,rfl⟩
 ·rw[if_neg hj,if_neg hj];exact⟨_,rfl⟩
theorem zdH_:CallR X (.type "str") (λxs H Q=>∃i,xs=[.int i]/\i.natAbs.log2<1920/\Q (.str (toString i)) H):=by
 intro pins s σ H xs us Q I r h;obtain⟨i,rfl,hz,q⟩:=h;obtain⟨u,rfl,t,rfl⟩:=vals1 r;exact PySem.P.str_of_int hz ⟨.str _,H,I.tok _,⟨_,rfl⟩,q⟩
end
structure ObjM (h:Heap)(x dx C:k9)(mA:Str->Option aU):Prop where
 obj:h.get? x=uN (pJ C dx)
 ns:h.Ns1 dx mA
 ne:dx≠x
theorem zhT_ {h:Heap}{dx:k9}{mA:Str->Option aU}(n:h.Ns1 dx mA):∃od,h.get? dx=uN od/\∀name,uw name od=uN (mA name):=by
 obtain⟨o,es,ep,ho,hd,hk,_,hm⟩:=n;refine⟨o,ho,λname=>?_⟩
 have e:=hm name;unfold nsFind findBy at e;rw[<- Array.find?_toList]at e;unfold uw;rw[hd];dsimp only;split
 ·rename_i y q
  rw[q]at e;exact congrArg uN e
 ·rename_i q
  rw[q]at e;have a:es.toList.any (·.refKey)=uQ:=by
   rw[rF];intro y hy;obtain⟨z,t,hkey⟩:=hk y (Array.mem_toList_iff.mp hy);simp[DictEntry.refKey,hkey]
  have a':¬es.toList.any (·.refKey)=uP:=by rw[a];exact mw
  rw[if_neg a'];exact congrArg uN e
theorem ObjM.look {h:Heap}{x dx C:k9}{mA:Str->Option aU}(I:ObjM h x dx C mA):∃od,W.InstAt h x (pJ C dx) C (uN od)/\∀name,uw name od=uN (mA name):=
 let⟨od,ho,hl⟩:=zhT_ I.ns
 ⟨od,⟨I.obj,rfl,rfl,ho⟩,hl⟩
section
variable {prog:lQ}{w:l9}{A:mh}{E:aU->kR->Prop}{s:kR}{K:Fgg}{x dx C f:k9}{mA:Str->Option aU}{name:Str}{v:aU}
theorem znq_ {expr:Bool}{Q:aU->kR->Prop}(X:K.In s.heap)(I:ObjM s.heap x dx C mA)(hg:qy K C name=uP)(hh:p9 K C=uP)
  (ha:nQ K (.ref C) name=uN uO) (hv:mA name=uN v) (gy:W.handedIn v=uP) (h:Q v {s with toks:=s.toks+1}):
  lK (model prog w) A (getAttr (.ref x) name expr) Q E s:=by
 obtain⟨od,J,hl⟩:=I.look;exact W.get_value X J (W.plainGet_of hg).1 (W.findObj_own hh ha rfl (by rw[hl,hv])) gy h
theorem znd_ {ns:List Str}{Q:Unit->kR->Prop}(X:K.In s.heap)(I:ObjM s.heap x dx C mA)
  (hs:nQ K (.ref C) "__setattr__"=uN (uN (.builtin "object.__setattr__"))) (hp:qM K C=uP) (ht:tB K C name=uN uO) (hh:p9 K C=uP)
  (hw:qw mA ns) (hsz:ns.length<=lA)
  (h:∀h',ObjM h' x dx C (λy=>if y=name then uN v else mA y)->o6 dx s.heap h'->Q () {s with heap:=h',toks:=s.toks+2}):
  lK (model prog w) A (setAttr (.ref x) name v) Q E s:=by
 obtain⟨od,J,hl⟩:=I.look;refine W.set_plain X J hs (W.osa_open (s:={s with toks:=s.toks+1}) (r:=uO) X J hp ht λb=>?_)
 obtain⟨cd,hc,eY⟩:=W.any_some hh;have hx:s.heap.get? x=uN ⟨.ref C,uN dx,.plain,#[]⟩:=I.obj;refine kP (lB (kP (kP (wpAny_loadPart hx (kP (W.Looks.here (s:={s with toks:=s.toks+1}) (W.looks_clsIn X hc) ?_))))));rw[eY];refine lB (a:=uN dx) (kP (lB (kP ?_)));refine wpAny_nsSet1 (s:={s with toks:=s.toks+1}) I.ns λh' fL aQ=>?_
 obtain⟨oD,esD,epD,hoD,hdD,hcD⟩:=fL.count (uJ name v hw);refine kP (wpAny_lookBehind hoD (by rw[hdD];exact pastItsLine_dict (mq hcD (by rw[lg];lia))) ?_)
 exact lB (h _ ⟨(aQ.2 _ (pY I.ne)).trans I.obj,fL,I.ne⟩ aQ)
theorem zjV_ {R:Result->kR->Prop}{vs:List aU}{kw:List (Str×aU)}(X:K.In s.heap)(hm:rQ K C=uP)
  (hi:nQ K (.ref C) "__init__"=uN (uN (.ref f))) (hf:W.typeIn K (.ref f)=uN (.type "function"))
  (h:codeAny (model prog w) (A.under (.builtin "type.__call__" ⟨.ref C::vs,kw⟩)) (.call (.ref f) ⟨.ref (s.heap.objs.size+1)::vs,kw⟩) (W.InitBack (s.heap.objs.size+1) R)
   {s with heap:=(s.heap.push oG).push (pJ C s.heap.objs.size)}):
  codeAny (model prog w) A (.call (.ref C) ⟨vs,kw⟩) R s:=by
 obtain⟨hh,g,d,t,os⟩:=s;exact W.make_core (W.makes_of X hm) (W.looks_findIn X hi) (λself=>W.bind_fn X self hf) (.inl rfl) h
end
noncomputable def putF (f:Str)(v:V):List (Str×V)->List (Str×V)
 |[]=>[(f,v)]
 |(g,x)::r=>if g=f then(g,v)::r else(g,x)::putF f v r
theorem zcc_ (f g:Str)(v:V):∀fs:List (Str×V),(putF f v fs).lookup g=if g=f then uN v else fs.lookup g
 |[]=>by
  show pF g [(f,v)]=_
  by_cases h:g=f
  ·have hb:(g == f)=uP:=beq_iff_eq.mpr h
   simp only[pF,hb,if_pos h]
  ·have hb:(g == f)=uQ:=beq_eq_false_iff_ne.mpr h
   simp only[pF,hb,if_neg h]
 |(k,x)::r=>by
  have ih:=zcc_ f g v r;rw[show putF f v ((k,x)::r)=(if k=f then(k,v)::r else(k,x)::putF f v r)from rfl]
  by_cases hk:k=f
  ·rw[if_pos hk]
   by_cases h:g=k
   ·have hb:(g == k)=uP:=beq_iff_eq.mpr h
    simp only[pF,hb,if_pos (h.trans hk)]
   ·have hb:(g == k)=uQ:=beq_eq_false_iff_ne.mpr h
    simp only[pF,hb,if_neg (λe:g=f=>h (e.trans hk.symm))]
  ·rw[if_neg hk]
   by_cases h:g=k
   ·have hb:(g == k)=uP:=beq_iff_eq.mpr h
    simp only[pF,hb,if_neg (λe:g=f=>hk (h.symm.trans e))]
   ·have hb:(g == k)=uQ:=beq_eq_false_iff_ne.mpr h
    simp only[pF,hb];exact ih
theorem zcB_ (f:Str)(v:V):∀fs:List (Str×V),f∈(putF f v fs).map (·.1)/\∀g,g∈fs.map (·.1)->g∈(putF f v fs).map (·.1)
 |[]=>⟨by simp[putF],λg h=>by simp at h⟩
 |(k,x)::r=>by
  obtain⟨i1,i2⟩:=zcB_ f v r;rw[show putF f v ((k,x)::r)=(if k=f then(k,v)::r else(k,x)::putF f v r)from rfl]
  by_cases hk:k=f
  ·rw[if_pos hk]
   subst hk;exact⟨by simp,λg h=>by simpa using h⟩
  ·rw[if_neg hk]
   refine⟨?_,λg h=>?_⟩
   ·rw[lj]
    exact lL _ i1
   ·rw[lj]at h ⊢
    rcases lI.mp h with e |e
    ·exact lI.mpr (.inl e)
    ·exact lL _ (i2 g e)
theorem zch_ (f:Str)(v:V):∀fs:List (Str×V),(putF f v fs).length<=fs.length+1
 |[]=>by simp[putF]
 |(k,x)::r=>by
  have ih:=zch_ f v r;rw[show putF f v ((k,x)::r)=(if k=f then(k,v)::r else(k,x)::putF f v r)from rfl]
  by_cases hk:k=f
  ·rw[if_pos hk,lg,lg];lia
  ·rw[if_neg hk,lg,lg];lia
theorem RelO.some_of {v:V}{o:Option aU}(r:RelO (uN v) o):∃u,o=uN u/\RelV v u:=by
 cases o with
 |none=>exact(show False from r).elim
 |some u=>exact⟨u,rfl,r⟩
theorem zhN_ {v:V}{u:aU}(r:RelV v u):W.handedIn u=uP:=by
 cases v with
 |non=>cases(show u=mY from r);rfl
 |bl b=>cases(show u=oW b from r);rfl
 |int i=>obtain⟨t,e⟩:=(show∃t,u=qk i t from r);cases e;rfl
 |str x=>obtain⟨t,e⟩:=(show∃t,u=pE x t from r);cases e;rfl
 |byt b=>obtain⟨t,e⟩:=(show∃t,u=uv b t from r);cases e;rfl
 |flt b=>obtain⟨t,e⟩:=(show∃t,u=se b t from r);cases e;rfl
 |ref a=>cases(show u=mE a from r);rfl
 |ty n=>cases(show u=rd n from r);rfl
section
variable {P:lQ}{w:l9}{H:Hp}{h:Heap}{a C dx:k9}{fs:List (Str×V)}
theorem zfS_ (hok:HOk P w H h)(e:H a=uN (.ins C dx fs)):∃mA,ObjM h a dx C mA/\(∀f,RelO (fs.lookup f) (mA f))/\qw mA (fs.map (·.1))/\fs.length<=1000/\H dx=uN (.own a):=by
 obtain⟨d,z,ne,ob,mA,n,r,q⟩:=(show ObjOk P w H h a (.ins C dx fs)from hok a _ e)
 exact⟨mA,⟨ob,n,ne⟩,r,q,z,d⟩
end
structure Cls (K:Fgg)(C:k9):Prop where
 pg:qy K C tD=uP
 hd:p9 K C=uP
 po:qM K C=uP
 sa:nQ K (.ref C) "__setattr__"=uN (uN (.builtin "object.__setattr__"))
theorem Cls.get {K:Fgg}{C:k9}(c:Cls K C)(f:Str):qy K C f=uP:=c.pg
def NoAttr (K:Fgg)(C:k9)(f:Str):Prop:=nQ K (.ref C) f=uN uO
theorem NoAttr.taker {K:Fgg}{C:k9}{f:Str}(n:NoAttr K C f):tB K C f=uN uO:=by
 unfold tB;rw[show nQ K (.ref C) f=uN uO from n]
 rfl
section
variable {X:Cx}{pins:Pnn}{σ:St}{H:Hp}{s:kR}{a C dx:k9}{fs:List (Str×V)}{f:Str}{v:V}{A:mh}{E:aU->kR->Prop}
theorem zgS_ {b:Bool}{Q:aU->kR->Prop}(I:Inv X pins σ H s)(e:H a=uN (.ins C dx fs))(c:Cls X.K C)(n:NoAttr X.K C f)(l:fs.lookup f=uN v)
  (h:∀u s',Inv X pins σ H s'->RelV v u->Q u s'):lK (model X.prog X.w) A (getAttr (.ref a) f b) Q E s:=by
 obtain⟨mA,O,r,_,_,_⟩:=zfS_ I.hok e;obtain⟨u,hu,ru⟩:=RelO.some_of (v:=v) (o:=mA f) (by rw[<- l];exact r f)
 exact znq_ I.kIn O (c.get f) c.hd n hu (zhN_ ru) (h u _ (I.tok _) ru)
theorem zfR_ {y:V}{u:aU}{Q:Unit->kR->Prop}(I:Inv X pins σ H s)(e:H a=uN (.ins C dx fs))(c:Cls X.K C)(n:NoAttr X.K C f)(hl:fs.length<1000)(ry:RelV y u)
  (h:∀s',Inv X pins σ (upd H a (.ins C dx (putF f y fs))) s'->Q () s'):lK (model X.prog X.w) A (setAttr (.ref a) f u) Q E s:=by
 obtain⟨mA,O,r,wi,_,ho⟩:=zfS_ I.hok e;have hz:(fs.map (·.1)).length<=lA:=by rw[kX,sizeLine_eq];lia
 refine znd_ I.kIn O c.sa c.po n.taker c.hd wi hz λh' O' sb=>h _ ?_
 have hd:∃o,h'.get? dx=uN o:=let⟨o,_,_,e',_⟩:=O'.ns;⟨o,e'⟩
 refine I.write (x:=a) (e:=dx) (by rw[e];exact mN) (.inr ho) (λb q hb z=>(sb.2 b hb).trans z) hd ?_
 refine⟨by rw[zc_ O.ne];exact ho,?_,O.ne,O'.obj,_,O'.ns,λg=>?_,λg hg=>?_⟩
 ·have:=zch_ f y fs;lia
 ·show RelO ((putF f y fs).lookup g) (if g=f then uN u else mA g)
  rw[zcc_];by_cases q:g=f
  ·rw[if_pos q,if_pos q];exact ry
  ·rw[if_neg q,if_neg q];exact r g
 ·by_cases q:g=f
  ·rw[q];exact(zcB_ f y fs).1
  ·refine(zcB_ f y fs).2 g (wi g λz=>hg ?_)
   show(if g=f then uN u else mA g)=uO
   rw[if_neg q];exact z
theorem Inv.made (I:Inv X pins σ H s):Inv X pins σ (upd (upd H s.heap.objs.size (.own (s.heap.objs.size+1))) (s.heap.objs.size+1) (.ins C s.heap.objs.size []))
  {s with heap:=(s.heap.push oG).push (pJ C s.heap.objs.size)}:=by
 have e1:(s.heap.push oG).get? s.heap.objs.size=uN oG:=lC s.heap rfl;have e2:((s.heap.push oG).push (pJ C s.heap.objs.size)).get? (s.heap.objs.size+1)=uN (pJ C s.heap.objs.size):=by
  have:=lC (s.heap.push oG) (o:=pJ C s.heap.objs.size) rfl;rwa[nR]at this
 have e3:(s.heap.push oG).Ns s.heap.objs.size (λ_=>uO):=⟨oG,#[],_,e1,rfl,(λe he=>absurd he (by simp)),λ_=>rfl⟩
 have I1:=I.laid (a:=s.heap.objs.size) (o:=.own (s.heap.objs.size+1)) (h':=s.heap.push oG) (t':=s.toks) (λb u q=>kQ _ q) (kZ _) ⟨_,e1⟩
 refine I1.laid (a:=s.heap.objs.size+1) (o:=.ins C s.heap.objs.size []) (t':=s.toks) (λb u q=>kQ _ q) (qz (nR _ _)) ?_
 have ne:s.heap.objs.size≠s.heap.objs.size+1:=lN (o7 _);refine⟨by rw[zc_ ne,ze_],me _,ne,e2,λ_=>uO,(Heap.Ns1.of_empty e3).at λo q=>kQ _ q,λ_=>mN,λy hy=>absurd rfl hy⟩
theorem znu_ {prog:lQ}{w:l9}{env:Env}{e:lF}{f:Str}{pos:Pos}{s:kR}{Q:aU->kR->Prop}(hb:attributeBase e f env (eval e env)=eval e env)
  (h:lK (model prog w) A (eval e env) (λo ab=>lK (model prog w) A (getAttr o f uP) Q E ab) E s):lK (model prog w) A (eval (.Attribute e f pos) env) Q E s:=
 Attribute_any_ h (by rw[arm_eval_Attribute,hb])
end
section
variable {X:Cx}{pins:Pnn}{σ:St}{H:Hp}{s:kR}{A:mh}{E Q:aU->kR->Prop}{c:aU}{b:Bool}
inductive TyOf (K:Fgg) (H:Hp):V->aU->Prop where
 |non:TyOf K H .non (.type "NoneType")
 |bl (x:Bool):TyOf K H (.bl x) (.type "bool")
 |int (i:Int):TyOf K H (.int i) (.type "int")
 |str (x:Str):TyOf K H (.str x) (.type "str")
 |flt (x:UInt64):TyOf K H (.flt x) (.type "float")
 |lst {a:k9}{xs:List V}(e:H a=uN (.lst xs)):TyOf K H (.ref a) (.type "list")
 |frz {a:k9}{o:sX}{xs:List V}(e:H a=uN (.frz o (.lst xs))):TyOf K H (.ref a) (.type "list")
 |tup {a:k9}{xs:List V}(e:H a=uN (.tup xs)):TyOf K H (.ref a) (.type "tuple")
 |dK {a:k9}{kvs:List (Key×V)}(e:H a=uN (.dK kvs)):TyOf K H (.ref a) (.type "dict")
 |dT {a:k9}{kvs:List (List Key×V)}(e:H a=uN (.dT kvs)):TyOf K H (.ref a) (.type "dict")
 | ins {a C dx:k9}{fs:List (Str×V)}(e:H a=uN (.ins C dx fs)) (cl:Cls K C) (ha:nQ K (.ref C) "__class__"=uN (uN (.builtin "object.__class__")))
   (hn:si K (.builtin "object.__class__") "__get__"=uN (uN (.builtin "getset_descriptor.__get__"))) (iI:W.takesIn K (.builtin "object.__class__")=uN uP)
   (hm:W.mroIn K C (.type "object")=uN uP):TyOf K H (.ref a) (.ref C)
theorem zij_ {x:V}{u t:aU}(I:Inv X pins σ H s)(rx:RelV x u)(ty:TyOf X.K H x t)(e:ux X.K t c=uN b)(h:∀tk,Q (.bool b) {s with toks:=tk}):
  lK (model X.prog X.w) A (call (.builtin "isinstance") [u,c]) Q E s:=by
 cases ty with
 |non=>cases(show u=mY from rx);exact oU W.kitx_none I.kIn mN e (λz=>nomatch z) h
 |bl y=>cases(show u=oW y from rx);exact oU W.kitx_bool I.kIn mN e (λz=>nomatch z) h
 |int i=>obtain⟨t,q⟩:=(show∃t,u=qk i t from rx);cases q;exact oU W.kitx_int I.kIn mN e (λz=>nomatch z) h
 |str y=>obtain⟨t,q⟩:=(show∃t,u=pE y t from rx);cases q;exact oU W.kitx_str I.kIn mN e (λz=>nomatch z) h
 |flt y=>obtain⟨t,q⟩:=(show∃t,u=se y t from rx);cases q;exact oU W.kitx_float I.kIn mN e (λz=>nomatch z) h
 | @lst a xs ea=>
  cases(show u=mE a from rx)
  obtain⟨_,_,n,_,h1⟩:=(show ObjOk X.prog X.w H s.heap a (.lst xs)from I.hok a _ ea)
  exact oU W.kitx_list I.kIn ⟨_,h1,rfl⟩ e (λz=>nomatch z) h
 | @frz a ob xs ea=>
  cases(show u=mE a from rx)
  obtain⟨_,_,_,n,_,h1⟩:=(show ObjOk X.prog X.w H s.heap a (.frz ob (.lst xs))from I.hok a _ ea)
  exact oU W.kitx_list I.kIn ⟨_,h1,rfl⟩ e (λz=>nomatch z) h
 | @tup a xs ea=>
  cases(show u=mE a from rx)
  obtain⟨_,_,_,p⟩:=(show ObjOk X.prog X.w H s.heap a (.tup xs)from I.hok a _ ea)
  obtain⟨o,h1,h2,_⟩:=p;exact oU W.kitx_tuple I.kIn ⟨o,h1,h2⟩ e (λz=>nomatch z) h
 | @dK a kvs ea=>
  cases(show u=mE a from rx)
  obtain⟨_,_,vs,_,p⟩:=(show ObjOk X.prog X.w H s.heap a (.dK kvs)from I.hok a _ ea)
  obtain⟨o,es,ep,h1,h2,_⟩:=p;exact oU W.kitx_dict I.kIn ⟨o,h1,h2.1⟩ e (λz=>nomatch z) h
 | @dT a kvs ea=>
  cases(show u=mE a from rx)
  obtain⟨_,_,xs,_,o,es,ep,h1,h2,_⟩:=(show ObjOk X.prog X.w H s.heap a (.dT kvs)from I.hok a _ ea)
  exact oU W.kitx_dict I.kIn ⟨o,h1,h2.1⟩ e (λz=>nomatch z) h
 | @ins a C dx fs ea cl ha hn iI hm=>
  cases(show u=mE a from rx)
  obtain⟨mA,O,_⟩:=zfS_ I.hok ea;obtain⟨od,J,_⟩:=O.look;exact oU (W.kitx_own (cl.get _) cl.hd ha hn iI hm) I.kIn J e (λz=>nomatch z) h
end
structure Room (k:Nat)(A:mh):Prop where
 hd:A.handled=uO
 dp:A.depth+3*k+5<recursionLimit
 un:A.units+16*k+200<cLine
theorem Room.mono {j k:Nat}{A:mh}(r:Room k A)(h:j<=k):Room j A:=⟨r.hd,by have:=r.dp;lia,by have:=r.un;lia⟩
theorem Room.deeper {k:Nat}{A:mh}(r:Room (k+1) A)(env:Env):Room k (A.deeper env):=
 ⟨r.hd,by have:=r.dp;show A.depth+1+3*k+5<_;lia,by have:=r.un;show A.units+3+16*k+200<_;lia⟩
theorem zgh_ {A:mh}{C:k9}{us:List aU}{kw:List (Str×aU)}:(A.under (.builtin "type.__call__" ⟨.ref C::us,kw⟩)).depth=A.depth+1:=by
 first |rfl |simp[Around.under,Code.weight,Code.isCreation,Code.isGuard,Code.isCaller,Code.frames,Code.isFrame,guardIds]
theorem zgM_ {A:mh}{C:k9}{us:List aU}{kw:List (Str×aU)}:(A.under (.builtin "type.__call__" ⟨.ref C::us,kw⟩)).units=A.units+1:=by
 first |rfl |simp[Around.under,Code.cUnits,Code.frames,Code.isFrame]
theorem Room.make {k:Nat}{A:mh}(r:Room (k+1) A)(C:k9)(us:List aU)(kw:List (Str×aU)):Room k (A.under (.builtin "type.__call__" ⟨.ref C::us,kw⟩)):=
 ⟨r.hd,by have:=r.dp;rw[zgh_];lia,by have:=r.un;rw[zgM_];lia⟩
theorem Room.depth {k:Nat}{A:mh}(r:Room k A):A.depth<recursionLimit:=by have:=r.dp;lia
def tNil:TA:=λ_ H Q=>Q [] H
def tCons (ta:TE)(tr:TA):TA:=λσ H Q=>ta σ H λx H1=>tr σ H1 λxs H2=>Q (x::xs) H2
section
variable {X:Cx}{e:lF}{es:List lF}{te:TE}{t:TA}{pos:Pos}
theorem zfZ_:PA X [] tNil:=λ_ _ _ _ H Q I h=>Calls.spliced_nil ⟨[],H,I,.nil,h⟩
theorem zb0_ (ha:PE X e te)(hr:PA X es t)(hs:lW (e::es) X.env=(uQ,eval e X.env)::lW es X.env:=by rfl):PA X (e::es) (tCons te t):=by
 intro pos pins s σ H Q I h;rw[hs];show lK _ _ (spliced ((uQ,eval e X.env)::oz pos (lW es X.env))) _ _ s
 refine Calls.spliced_cons (thn (ha pins s σ H _ I h) λu s1 ae=>?_)
 obtain⟨x,H1,I1,r1,q1⟩:=ae;exact thn (hr pos pins s1 σ H1 _ I1 q1) λus s2 ⟨xs,H2,I2,r2,q2⟩=>⟨x::xs,H2,I2,.cons r1 r2,q2⟩
def tTup (t:TA):TE:=λσ H Q=>t σ H λxs H1=>xs.length<=lA/\∀p,H1 p=uO->Q (.ref p) (upd H1 p (.tup xs))
def tLst (t:TA):TE:=λσ H Q=>t σ H λxs H1=>xs.length<=lA/\∀p,H1 p=uO->Q (.ref p) (upd H1 p (.lst xs))
theorem zqa_ {x1}(h:PA X es t):PE X (.Tuple es x1 pos) (tTup t):=by
 intro pins s σ H Q I hq;refine wpAny_Tuple_spliced (thn (h pos pins s σ H _ I hq) λus s1 ⟨xs,H1,I1,r,z,q⟩=>⟨by rw[<- r.length];exact z,?_⟩)
 have hf:H1 s1.heap.objs.size=uO:=I1.hok.fresh (kZ _);refine⟨.ref s1.heap.objs.size,upd H1 s1.heap.objs.size (.tup xs),I1.laid (t':=s1.toks) (λb u e=>kQ _ e) (kZ _) ?_,rfl,q _ hf⟩
 exact⟨z,us,r,⟨_,lC _ rfl,rfl,_,rfl⟩⟩
theorem zoy_ (h:PA X es t):PE X (.List es pos) (tLst t):=by
 intro pins s σ H Q I hq;refine wpAny_List_spliced (thn (h pos pins s σ H _ I hq) λus s1 ⟨xs,H1,I1,r,z,q⟩=>⟨by rw[<- r.length];exact z,?_⟩)
 have hf:H1 s1.heap.objs.size=uO:=I1.hok.fresh (kZ _);refine⟨.ref s1.heap.objs.size,upd H1 s1.heap.objs.size (.lst xs),I1.laid (t':=s1.toks) (λb u e=>kQ _ e) (kZ _) ?_,rfl,q _ hf⟩
 exact⟨z,us,0,r,lC _ rfl⟩
end
abbrev Sp:=List V->Hp->VK->XK->Prop
abbrev CXT:=List Env->Hp->kR->XK->aU->kR->Prop
structure Env0 (P:lQ)(w:l9)(K:Fgg)(mg:Str->Option aU)(base:Heap)(A:mh)(outer:List Env)(s:kR)(H:Hp):Prop where
 frames:A.frames=uN outer
 mod:Mod K mg base
 bs:∀b o,base.get? b=uN o->s.heap.get? b=uN o/\H b=uO
 bsz:base.objs.size<=s.heap.objs.size
 funs:s.heap.FunFrames base outer
 frf:∀b∈frs outer,H b=uO
 hok:HOk P w H s.heap
 bare:AllBare s.gens
 tb:Tb K H
def CE (outer:List Env)(P:lQ)(w:l9)(H:Hp)(s:kR)(Q:VK)(u:aU)(s':kR):Prop:=
 ∃v H',s'.os=s.os/\AllBare s'.gens/\Un (frs outer) [] H H' s.heap s'.heap/\HOk P w H' s'.heap/\RelV v u/\Q v H'
def CR (CX:CXT)(outer:List Env)(P:lQ)(w:l9)(H:Hp)(s:kR)(Q:VK)(E:XK)(r:Result)(s':kR):Prop:=
 match r with
 |.ok (.ret u)=>CE outer P w H s Q u s'
 |.ok _=>False
 |.error e=>CX outer H s E e s'
structure FnOk (P:lQ)(w:l9)(K:Fgg)(mg:Str->Option aU)(base:Heap)(CX:CXT)(k:Nat)(f:k9)(fd:mO)(ps:List Str)(sp:Sp):Prop where
 len:∀vs H Q E,sp vs H Q E->vs.length=ps.length
 run:∀(A:mh) (outer:List Env) (s:kR) (H:Hp) (args:Args) (us:List aU) (vs:List V) (Q:VK) (E:XK),Room k A->Env0 P w K mg base A outer s H->BindsTo s fd args (ps.zip us)->Vals vs us->sp vs H Q E ->
  codeAny (model P w) A (.call (.ref f) args) (CR CX outer P w H s Q E) s
theorem Env0.make {P:lQ}{w:l9}{K:Fgg}{mg:Str->Option aU}{base:Heap}{A:mh}{outer:List Env}{s:kR}{H:Hp}(e:Env0 P w K mg base A outer s H)(C:k9)(us:List aU)(kw:List (Str×aU)):
  Env0 P w K mg base (A.under (.builtin "type.__call__" ⟨.ref C::us,kw⟩)) outer s H:=⟨by first |exact e.frames |(simpa [Around.under,Code.envs,Code.isFrame,pushEnvs]using e.frames),e.mod,e.bs,e.bsz,e.funs,e.frf,e.hok,e.bare,e.tb⟩
section
variable {X:Cx}{pins:Pnn}{σ:St}{H:Hp}{s s':kR}
theorem Inv.env0 (I:Inv X pins σ H s):Env0 X.prog X.w X.K X.mg X.base X.A X.stack s H:=
 ⟨I.ok.frames,I.ok.mod,I.bs,mq I.ok.bsz I.sz,I.stack,I.stkFree,I.hok,I.bare,I.tb⟩
theorem Inv.after {Q:VK}{u:aU}(I:Inv X pins σ H s)(h:CE X.stack X.prog X.w H s Q u s'):EP X pins σ Q u s':=by
 obtain⟨v,H',os,bare,un,hok,r,q⟩:=h;obtain⟨hh,g,d,t,aL⟩:=s';obtain rfl:aL=s.os:=os;exact⟨v,H',I.call (h':=hh) (g':=g) (d':=d) (t':=t) (ch:=[]) un hok bare (λb z=>absurd z (by simp)),r,q⟩
end
def tCall (sp:Sp)(au:List V)(E:XK)(t:TA):TE:=λσ H Q=>t σ H λvs H1=>sp (vs++au) H1 Q E
def tMake (C:k9)(sp:Sp)(au:List V)(E:XK)(t:TA):TE:=λσ H Q=>t σ H λvs H1=>∀x dx,H1 x=uO->H1 dx=uO->dx≠x ->
 sp (.ref x::(vs++au)) (upd (upd H1 dx (.own x)) x (.ins C dx [])) (λv H2=>v=.non/\Q (.ref x) H2) E
def Binds (K:Fgg)(fd:mO)(ps:List Str)(ds:List aU):Prop:=
 ∀(s:kR) (us:List aU),K.In s.heap->(us++ds).length=ps.length->BindsTo s fd ⟨us,[]⟩ (ps.zip (us++ds))
theorem Binds.all {K:Fgg}{fd:mO}{ps:List Str}(h:∀us:List aU,us.length=ps.length->bindArgs fd ⟨us,[]⟩=pure (ps.zip us)):Binds K fd ps []:=λs us _ hl=>by
 rw[oO]at hl ⊢;exact .of_eq (h us hl)
def Passes (CX:CXT)(X:Cx)(E:XK):Prop:=∀(pins:Pnn) (σ:St) (H:Hp) (s:kR) (e:aU) (s':kR),Inv X pins σ H s->CX X.stack H s E e s'->X.xe e s'
section
variable {X:Cx}{CX:CXT}{k:Nat}{f C:k9}{fd:mO}{ps:List Str}{sp:Sp}{au:List V}{ds:List aU}{E:XK}{x:Str}{p pos:Pos}{e:lF}{es:List lF}{t:TA}
theorem znl_ {pins:Pnn}{σ:St}{H:Hp}{s:kR}{Q:VK}{us:List aU}{vs:List V}(F:FnOk X.prog X.w X.K X.mg X.base CX k f fd ps sp)(hr:Room k X.A)(hb:Binds X.K fd ps ds)(hd:Vals au ds)(hx:Passes CX X E)
  (I:Inv X pins σ H s) (r:Vals vs us) (h:sp (vs++au) H Q E):lK (model X.prog X.w) X.A (call (.ref f) us) (EP X pins σ Q) X.xe s:=by
 have r2:Vals (vs++au) (us++ds):=r.append hd;have hl:(us++ds).length=ps.length:=by rw[<- r2.length];exact F.len _ _ _ _ h
 refine wpAny_call (codeAny_mono (F.run X.A X.stack s H ⟨us,[]⟩ (us++ds) (vs++au) Q E hr I.env0 (hb s us I.kIn hl) r2 h) λr s' hq=>?_)
 cases r with
 |error e=>exact hx pins σ H s e s' I hq
 |ok fl=>
  cases fl with
  |ret u=>exact I.after hq
  |next=>exact lZ hq
  |brk=>exact lZ hq
  |cont=>exact lZ hq
theorem znf_ (F:FnOk X.prog X.w X.K X.mg X.base CX k f fd ps sp)(hr:Room k X.A)(hg:Gl X x)(hm:X.mg x=uN (.ref f))(hk:oF X.K (.ref f)=uP)(hb:Binds X.K fd ps ds)(hd:Vals au ds)(hx:Passes CX X E)
  (ha:PA X (e::es) t) (aZ:(x==("__debug__":Str))=uQ:=by decide) (he:lW (e::es) X.env=(uQ,eval e X.env)::lW es X.env:=by rfl) (aT:(oz pos (lW es X.env)).any (·.1)=uQ:=by rfl):
  PE X (.Call (.Name x p) (e::es) [] pos) (tCall sp au E t):=by
 intro pins s σ H Q I h;refine nS (zea_ I hg hm ?_ aZ);refine tJ (h₀:=X.base) I.ok.mod.kin hk (thn (ha pos pins s σ H _ I h) λus s1 ⟨vs,H1,I1,r,q⟩=>⟨I1.kIn,?_⟩) he aT
 exact znl_ F hr hb hd hx I1 r q
theorem zku_ (F:FnOk X.prog X.w X.K X.mg X.base CX k f fd ps sp)(hr:Room k X.A)(hg:Gl X x)(hm:X.mg x=uN (.ref f))(hk:oF X.K (.ref f)=uP)(hb:Binds X.K fd ps ds)(hd:Vals au ds)(hx:Passes CX X E)
  (aZ:(x==("__debug__":Str))=uQ:=by decide):PE X (.Call (.Name x p) [] [] pos) (tCall sp au E tNil):=by
 intro pins s σ H Q I h;refine nS (zea_ I hg hm ?_ aZ);exact W.callWith_K0 I.kIn hk (znl_ (us:=[]) F hr hb hd hx I .nil h)
structure Mk (K:Fgg)(C f:k9):Prop where
 makes:rQ K C=uP
 init:nQ K (.ref C) "__init__"=uN (uN (.ref f))
 fn:tK K (.ref f)=uP
 kp:oF K (.ref C)=uP
theorem zjE_ {pins:Pnn}{σ:St}{H:Hp}{s:kR}{Q:VK}{us:List aU}{vs:List V}(M:Mk X.K C f)(F:FnOk X.prog X.w X.K X.mg X.base CX k f fd ps sp)(hr:Room (k+1) X.A)(hb:Binds X.K fd ps ds)(hd:Vals au ds)
  (hx:Passes CX X E) (I:Inv X pins σ H s) (r:Vals vs us)
  (h:∀x dx,H x=uO->H dx=uO->dx≠x->sp (.ref x::(vs++au)) (upd (upd H dx (.own x)) x (.ins C dx [])) (λv H2=>v=.non/\Q (.ref x) H2) E):
  lK (model X.prog X.w) X.A (call (.ref C) us) (EP X pins σ Q) X.xe s:=by
 have hq:=h (s.heap.objs.size+1) s.heap.objs.size (I.hok.fresh (ot _)) (I.hok.fresh (kZ _)) (lN (o7 _));have I2:=Inv.made (C:=C) I;have r2:Vals (V.ref (s.heap.objs.size+1)::(vs++au)) (mE (s.heap.objs.size+1)::(us++ds)):=.cons rfl (r.append hd);have hl:(mE (s.heap.objs.size+1)::us++ds).length=ps.length:=by
  have e:=r2.length;rw[F.len _ _ _ _ hq]at e;exact e.symm
 refine wpAny_call (zjV_ (f:=f) I.kIn M.makes M.init (beq_iff_eq.mp M.fn) (codeAny_mono (F.run _ X.stack _ _ ⟨mE (s.heap.objs.size+1)::us,[]⟩ (mE (s.heap.objs.size+1)::(us++ds)) _ _ E (hr.make C us [])
  (I2.env0.make C us []) (hb _ (mE (s.heap.objs.size+1)::us) I2.kIn hl) r2 hq) λr s' c_=>?_))
 cases r with
 |error e=>exact hx pins σ _ _ e s' I2 c_
 |ok fl=>
  cases fl with
  |ret u=>
   obtain⟨v,H',I3,rv,ev,q3⟩:=I2.after c_;subst ev;exact⟨rv,⟨V.ref (s.heap.objs.size+1),H',I3,rfl,q3⟩⟩
  |next=>exact lZ c_
  |brk=>exact lZ c_
  |cont=>exact lZ c_
theorem zmf_ (M:Mk X.K C f)(F:FnOk X.prog X.w X.K X.mg X.base CX k f fd ps sp)(hr:Room (k+1) X.A)(hg:Gl X x)(hm:X.mg x=uN (.ref C))(hb:Binds X.K fd ps ds)(hd:Vals au ds)(hx:Passes CX X E)
  (ha:PA X (e::es) t) (aZ:(x==("__debug__":Str))=uQ:=by decide) (he:lW (e::es) X.env=(uQ,eval e X.env)::lW es X.env:=by rfl) (aT:(oz pos (lW es X.env)).any (·.1)=uQ:=by rfl):
  PE X (.Call (.Name x p) (e::es) [] pos) (tMake C sp au E t):=by
 intro pins s σ H Q I h;refine nS (zea_ I hg hm ?_ aZ);refine tJ (h₀:=X.base) I.ok.mod.kin M.kp (thn (ha pos pins s σ H _ I h) λus s1 ⟨vs,H1,I1,r,q⟩=>⟨I1.kIn,?_⟩) he aT
 exact zjE_ M F hr hb hd hx I1 r q
end
structure FnScope (N P:List Str)(sc:Scope):Prop where
 kind:sc.kind=.function
 co:sc.isCoroutine=uQ
 gen:sc.isGenerator=uQ
 nd:N.Nodup
 pre:N.take P.length=P
 par:∀x∈P,sc.names.lookup x=uN .local\/sc.names.lookup x=uN .cell
 nofree:∀y∈sc.names,y.2≠.free
theorem zey_ {kindOf:Str->Option nU}{x:Str}:∀{binds:List (Str×aU)}{m:Str->Option aU},(∀v,(x,v)∉binds)->bindL kindOf binds m x=m x
 |[],_,_=>rfl
 |(n,v)::r,m,h=>by
  unfold bindL;rw[zey_ λw hw=>h w (lL _ hw)]
  split
  ·have:x≠n:=by rintro rfl;exact h v lO
   simp[this]
  ·rfl
theorem zeG_ {kindOf:Str->Option nU}{x:Str}:∀{binds:List (Str×aU)}{m:Str->Option aU},(∀v,(x,v)∉binds)->bindC kindOf binds m x=m x
 |[],_,_=>rfl
 |(n,v)::r,m,h=>by
  unfold bindC;rw[zeG_ λw hw=>h w (lL _ hw)]
  split
  ·rfl
  ·have:x≠n:=by rintro rfl;exact h v lO
   simp[this]
theorem zeE_ {kindOf:Str->Option nU}{x:Str}{v:aU}:∀{P:List Str}{vs:List aU}{i:Nat}{m:Str->Option aU},P.Nodup->P[i]?=uN x->vs[i]?=uN v->kindOf x=uN .local ->
  bindL kindOf (P.zip vs) m x=uN v
 |[],_,_,_,_,h,_,_=>by simp at h
 |_::_,[],_,_,_,_,h,_=>by simp at h
 |p::P,w::vs,0,m,nd,h1,h2,hk=>by
  simp at h1 h2;subst h1;subst h2;show bindL kindOf ((p,w)::P.zip vs) m p=_
  unfold bindL;rw[zey_ λv hv=>(oP.mp nd).1 (oj hv).1,if_pos hk]
  simp
 |p::P,w::vs,i+1,m,nd,h1,h2,hk=>by
  show bindL kindOf ((p,w)::P.zip vs) m x=_
  unfold bindL;exact zeE_ (i:=i) (oP.mp nd).2 (by simpa using h1) (by simpa using h2) hk
theorem zeM_ {kindOf:Str->Option nU}{x:Str}{v:aU}:∀{P:List Str}{vs:List aU}{i:Nat}{m:Str->Option aU},P.Nodup->P[i]?=uN x->vs[i]?=uN v->kindOf x≠uN .local ->
  bindC kindOf (P.zip vs) m x=uN v
 |[],_,_,_,_,h,_,_=>by simp at h
 |_::_,[],_,_,_,_,h,_=>by simp at h
 |p::P,w::vs,0,m,nd,h1,h2,hk=>by
  simp at h1 h2;subst h1;subst h2;show bindC kindOf ((p,w)::P.zip vs) m p=_
  unfold bindC;rw[zeG_ λv hv=>(oP.mp nd).1 (oj hv).1,if_neg hk]
  simp
 |p::P,w::vs,i+1,m,nd,h1,h2,hk=>by
  show bindC kindOf ((p,w)::P.zip vs) m x=_
  unfold bindC;exact zeM_ (i:=i) (oP.mp nd).2 (by simpa using h1) (by simpa using h2) hk
def start (N:List Str)(vs:List V):St:=vs.map uN++lJ (N.length-vs.length) uO
def cxOf (CX:CXT)(P:lQ)(w:l9)(K:Fgg)(mg:Str->Option aU)(base:Heap)(N:List Str)(qual:Str)(scope:Scope)(f:k9)(cd:aU)(A:mh)(outer:List Env)(s:kR)(H:Hp)(E:XK):Cx where
 prog:=P
 w:=w
 K:=K
 mg:=mg
 base:=base
 A:=A.deeper (envOfC qual scope s.heap.objs.size f cd)
 N:=N
 s₀:=s
 H₀:=H
 env:=envOfC qual scope s.heap.objs.size f cd
 outer:=outer
 stack:=envOfC qual scope s.heap.objs.size f cd::outer
 ex:=[]
 calm:=uP
 fn:=λ_=>uP
 pn:=[]
 xe:=λe s'=>lK (model P w) (A.deeper (envOfC qual scope s.heap.objs.size f cd)) (leaving (envOfC qual scope s.heap.objs.size f cd) e) (λ_ cB=>CX outer H s E e cB) (λe' cB=>CX outer H s E e' cB) s'
theorem zd0_ {sc:Scope}{n:Nat}{x:Str}(h:sc.names.lookup x=uN .cell):∃c,(cellsFrom n sc.names []).lookup x=uN c:=by
 have q:=rR sc.names n [] (.inl h);exact qg.mp q
theorem zhU_ {CX:CXT}{P:lQ}{w:l9}{K:Fgg}{mg:Str->Option aU}{base:Heap}{N ps:List Str}{qual:Str}{scope:Scope}{f:k9}{cd:aU}{A:mh}{outer:List Env}{s s1:kR}{H:Hp}{E:XK}{us:List aU}{vs:List V}
  (S:FnScope N ps scope) (hd:A.handled=uO) (e0:Env0 P w K mg base A outer s H) (hl:vs.length=ps.length) (r:Vals vs us)
  (x:InCallC s s.heap.objs.size (bindL (envOfC qual scope s.heap.objs.size f cd).kindOf (ps.zip us) λ_=>uO) (cellsFrom (s.heap.objs.size+1) scope.names []) (bindC (envOfC qual scope s.heap.objs.size f cd).kindOf (ps.zip us) λ_=>uO) s1):
  Inv (cxOf CX P w K mg base N qual scope f cd A outer s H E) [] (start N vs) H s1:=by
 have aT:ps.length<=N.length:=by have:=congrArg qN S.pre;rw[mQ]at this;lia
 obtain⟨h1,tk,rfl,hk⟩:=x.done;have cC:∀b:k9,b∉(cxOf CX P w K mg base N qual scope f cd A outer s H E).ex:=λb z=>absurd (show b∈([]:List k9)from z) (by simp)
 refine⟨⟨e0.mod,S.kind,rfl,rfl,kZ _,λy z c h1 h2=>?_,λy hy=>?_,λy c _ h=>?_,λ_=>hd,Around.frames_deeper e0.frames,.inr ⟨rfl,rfl⟩,λb z=>absurd z (cC b),e0.bs,e0.bsz,λb _ _=>cC b,λb z=>absurd z (cC b),e0.funs,e0.frf,e0.tb⟩,
  rfl,e0.bare,Un.kept hk,⟨_,x.toInCall.ns,λi y v h1 h2 h3=>?_⟩,λy c h=>⟨_,x.cell y c h⟩,e0.hok.fresh (kZ _),λy c h=>?_,λp hp=>absurd (show p∈([]:Pnn)from hp) (by simp),e0.hok.kept hk,?_⟩
 ·exact name_of_addr x.apart (ml h1) (ml h2)
 ·have hy:scope.names.lookup y=uN .cell\/scope.names.lookup y=uN .free:=hy
  rcases hy with hy |hy
  ·exact zd0_ hy
  ·exact absurd rfl (S.nofree _ (ml hy))
 ·exact nI (x.above y c (ml h))
 ·have hi:i<vs.length:=by
   unfold start at h2;by_cases hi:i<vs.length
   ·exact hi
   ·rw[mP (by simpa using hi)]at h2
    rw[List.getElem?_replicate]at h2;split at h2<;>cases h2
  have ha:vs[i]?=uN v:=by
   unfold start at h2;rw[mS (by simpa using hi),lu]at h2
   cases e:vs[i]? with
   |none=>rw[e]at h2;cases h2
   |some a=>rw[e]at h2;cases h2;rfl
  obtain⟨u,hu,rv⟩:=r.get ha;have hp:ps[i]?=uN y:=by
   rw[<- S.pre,List.getElem?_take_of_lt (by lia)];exact h1
  have iA:ps.Nodup:=by rw[<- S.pre];exact S.nd.sublist (List.take_sublist _ _)
  refine⟨u,rv,?_⟩;rcases S.par y (mV hp)with k |k
  ·exact .inl ⟨k,zeE_ iA hp hu k⟩
  ·obtain⟨c,e⟩:=zd0_ (n:=s.heap.objs.size+1) k
   refine .inr ⟨.inl k,c,e,?_⟩;have q:=x.cell y c e;rw[zeM_ iA hp hu (by show scope.names.lookup y≠_;rw[k];decide)]at q
   exact q
 ·exact e0.hok.fresh (nI (x.above y c (ml h)))
 ·unfold start
  show _=N.length
  rw[lE,kX,List.length_replicate];lia
theorem zpQ_ {CX:CXT}{P:lQ}{w:l9}{K:Fgg}{mg:Str->Option aU}{base:Heap}{k:Nat}{f:k9}{name qual:Str}{params:Arguments}{body:List mi}{scope:Scope}{dV kV doc pm af ct oc:aU}{an od:Option k9}
  {aq:Array (Option aU)}{N ps:List Str}{sp:Sp}(lk:K.lookup f=uN ⟨oc,od,.func (W.fnOf name qual params body scope dV kV doc pm an af ct),aq⟩) (aD:pP K af qual=uP) (S:FnScope N ps scope)
  (len:∀vs H Q E,sp vs H Q E->vs.length=ps.length)
  (eZ:∀(A:mh) (outer:List Env) (s:kR) (H:Hp) (vs:List V) (Q:VK) (E:XK),Room k (A.deeper (envOfC qual scope s.heap.objs.size f af))->sp vs H Q E ->
   ∃t,PSs (cxOf CX P w K mg base N qual scope f af A outer s H E) body t/\t {nx:=λ_ H'=>Q .non H',rt:=Q} (start N vs) H):
  FnOk P w K mg base CX (k+1) f (W.fnOf name qual params body scope dV kV doc pm an af ct) ps sp:=by
 refine⟨len,λA outer s H args us vs Q E hr e0 hb r dO=>?_⟩
 have hl:=len _ _ _ _ dO;have KX:K.In s.heap:=e0.mod.kin.keeps λb o e=>(e0.bs b o e).1
 have lim:s.heap.NoLimit:=e0.mod.nolimit.keeps λb o e=>(e0.bs b o e).1
 have eM:∀y∈ps.zip us,scope.names.lookup y.1=uN .local\/(scope.names.lookup y.1=uN .cell/\((cellsFrom (s.heap.objs.size+1) scope.names []).lookup y.1).isSome=uP):=λ⟨n,v⟩ hy=>by
  rcases S.par n (oj hy).1 with q |q
  ·exact .inl q
  ·exact .inr ⟨q,rR _ _ _ (.inl q)⟩
 refine codeAny_call_function hr.depth (KX _ _ lk) rfl S.co S.gen rfl (W.codeRec_of KX aD) (hb _ _ _ _ ?_);refine wpAny_newFunctionEnv_cells S.kind eM λenv he s1 x=>?_
 subst he;refine⟨lim.keeps x.toInCall.keep,codeAny_func ?_⟩;obtain⟨t,ht,hq⟩:=eZ A outer s H vs Q E (hr.deeper _) dO;have I:Inv (cxOf CX P w K mg base N qual scope f af A outer s H E) [] (start N vs) H s1:=zhU_ S hr.hd e0 hl r x;refine mK (ht [] s1 (start N vs) H _ I hq) (λfl s' hs=>?_) λe s' hs=>hs
 have fin:∀{ah:St}{H':Hp}{v:V}{u:aU},Inv (cxOf CX P w K mg base N qual scope f af A outer s H E) [] ah H' s'->RelV v u->Q v H'->CE outer P w H s Q u s':=
  λ{ah H' v u} J rv q=>⟨v,H',J.os,J.bare,J.base,J.hok,rv,q⟩
 cases fl with
 |ret u=>
  obtain⟨v,ah,H',J,rv,q⟩:=hs;exact fin J rv q
 |next=>
  obtain⟨ah,H',J,q⟩:=hs;exact fin (v:=V.non) (u:=mY) J rfl q
 |brk=>
  obtain⟨_,_,_,q⟩:=hs;exact lZ q
 |cont=>
  obtain⟨_,_,_,q⟩:=hs;exact lZ q
section
variable {X:Cx}{x:Str}{p pos:Pos}{e:lF}{es:List lF}{t:TA}{id T:String}{r:List V->Hp->VK->Prop}
def tCB (r:List V->Hp->VK->Prop)(t:TA):TE:=λσ H Q=>t σ H λvs H1=>r vs H1 Q
theorem zjP_ (hc:CallR X (.builtin id) r)(hg:Gl X x)(hm:X.mg x=uO)(hv:nH x=uN (.builtin id))(ha:PA X (e::es) t)(hn:x ≠ "__name__":=by decide)(aZ:(x==("__debug__":Str))=uQ:=by decide)
  (he:lW (e::es) X.env=(uQ,eval e X.env)::lW es X.env:=by rfl) (aT:(oz pos (lW es X.env)).any (·.1)=uQ:=by rfl):PE X (.Call (.Name x p) (e::es) [] pos) (tCB r t):=by
 intro pins s σ H Q I h;refine nS (zde_ I hg hm hv ?_ hn aZ);exact rS (thn (ha pos pins s σ H _ I h) λus s1 ⟨vs,H1,I1,r1,q1⟩=>hc pins s1 σ H1 vs us Q I1 r1 q1) he aT
theorem zic_ (hc:CallR X (.type T) r)(hg:Gl X x)(hm:X.mg x=uO)(hv:nH x=uN (.type T))(ha:PA X (e::es) t)(hn:x ≠ "__name__":=by decide)(aZ:(x==("__debug__":Str))=uQ:=by decide)
  (he:lW (e::es) X.env=(uQ,eval e X.env)::lW es X.env:=by rfl) (aT:(oz pos (lW es X.env)).any (·.1)=uQ:=by rfl):PE X (.Call (.Name x p) (e::es) [] pos) (tCB r t):=by
 intro pins s σ H Q I h;refine nS (zde_ I hg hm hv ?_ hn aZ);exact mW (thn (ha pos pins s σ H _ I h) λus s1 ⟨vs,H1,I1,r1,q1⟩=>hc pins s1 σ H1 vs us Q I1 r1 q1) he aT
end
end L2
namespace HT
open PySem PyProof.Rows
noncomputable def lexLt:List Int->List Int->Bool
 |[],[]=>uQ
 |[],_::_=>uP
 |_::_,[]=>uQ
 |x::xs,y::ys=>if x=y then lexLt xs ys else decide (x<y)
theorem lexLt_cons (x y:Int)(xs ys:List Int):lexLt (x::xs) (y::ys)=if x=y then lexLt xs ys else decide (x<y):=rfl
theorem eqAt_int (A:mh)(s:kR)(a:Int)(t:Tok)(c:Int)(u:Tok):∃e,rg A s (.int a t) (.int c u) e/\(e=uP↔a=c):=
 ⟨(a == c),rj a t c u,by simp⟩
theorem rcLt_int (A:mh)(s:kR)(a:Int)(t:Tok)(c:Int)(u:Tok)(prog:lQ)(w:l9)(E:aU->kR->Prop)(Q:aU->kR->Prop)(h:Q (.bool (decide (a<c))) s):
  lK (model prog w) A (richCompare .Lt (.int a t) (.int c u)) Q E s:=
 (uE h:lK (model prog w) A (lP .Lt (.int a t) (.int c u)) Q E s)
section
open PySem.SeqAt
open PySem.AutoSeq1 (wpAny_loadPart')
open PySem.MeetsSeq PySem.MeetsSeq2 PySem.MeetsSeq3
end
section
variable {prog:lQ}{w:l9}{A:mh}{E:aU->kR->Prop}{s:kR}
theorem cat_tup {t b:k9}{vs ws:List aU}{Q:aU->kR->Prop}(ht:IsTup s.heap t vs.toArray)(hb:IsTup s.heap b ws.toArray)(hv:vs≠[])
  (h1:ws=[]->Q (.ref t) s) (h2:ws≠[]->Q (.ref s.heap.objs.size) {s with heap:=s.heap.push {cls:=.type "tuple",data:=.seq (vs++ws).toArray}})
  (hsz:vs.length+ws.length<=lA):lK (model prog w) A (m8 .Add (.ref t) (.ref b)) Q E s:=by
 obtain⟨⟨cls,dd,data,sl⟩,ho,hc,n,hd⟩:=id ht;obtain⟨⟨hX,cK,data2,cA⟩,bG,cp,n2,hd2⟩:=id hb;simp only at hc hd cp hd2;subst hc hd cp hd2;have e:vs.toArray++ws.toArray=(vs++ws).toArray:=by simp
 by_cases hw:ws=[]
 ·exact concat_meets ⟨_,ho,rfl⟩ ⟨_,bG,rfl⟩ noFill_tuple_add seq_tuple_add qA qm (qh _ _)
   (tuple_addW1 t b vs.toArray ws.toArray n n2 dd cK sl cA (by simpa using hv) (by simp[hw])) ⟨ho,bG,h1 hw⟩
 ·refine concat_meets ⟨_,ho,rfl⟩ ⟨_,bG,rfl⟩ noFill_tuple_add seq_tuple_add qA qm (qh _ _)
   (tuple_addW2 t b vs.toArray ws.toArray n n2 dd cK sl cA (by simpa using hv) (by simpa using hw) (by rw[k8,k8];exact hsz)) ⟨ho,bG,?_⟩
  rw[e];exact h2 hw
noncomputable def sIx (n d:Nat):Option Int->Nat
 |none=>d
 |some v=>if v<0 then(v+(n:Int)).toNat else min v.toNat n
theorem sIx_le (n d:Nat)(hd:d<=n)(o:Option Int):sIx n d o<=n:=by
 cases o with
 |none=>exact hd
 |some v=>
  show(if v<0 then(v+(n:Int)).toNat else min v.toNat n)<=n
  by_cases hv:v<0
  ·rw[if_pos hv];lia
  ·rw[if_neg hv];exact Nat.min_le_right _ _
theorem zi0_ (v:Int)(n d:Nat):(if v<0 then max (v+(n:Int)) 0 else min v (n:Int))=((sIx n d (uN v):Nat):Int):=by
 show(if v<0 then max (v+(n:Int)) 0 else min v (n:Int))=(((if v<0 then(v+(n:Int)).toNat else min v.toNat n):Nat):Int)
 by_cases hv:v<0
 ·simp only[if_pos hv];lia
 ·simp only[if_neg hv];lia
theorem zgI_ (lo hi:Option Int)(n:Nat):pb lo hi 1 (n:Int)=(((sIx n 0 lo:Nat):Int),((sIx n n hi:Nat):Int)):=by
 have h1:¬((1:Int)<0):=by lia
 unfold pb;simp only[h1,if_false];refine Prod.ext ?_ ?_
 ·cases lo with
  |none=>rfl
  |some v=>exact zi0_ v n 0
 ·cases hi with
  |none=>rfl
  |some v=>exact zi0_ v n n
theorem zf9_ (i j:Nat):n5 (i:Int) (j:Int) 1=j-i:=by
 unfold n5;have h1:(1:Int) > 0:=by lia
 simp only[h1,if_true,tL];split<;>lia
theorem zc3_ {v:aU}{o:Option Int}{Q:Option Int->kR->Prop}(p:IsPart v o)(h:Q o s):lK (model prog w) A (so v) Q E s:=by
 cases p with
 |none=>exact slicePart_none h
 |int i t=>exact slicePart_int h
theorem zbP_ {sl:k9}{vl vu:aU}{lo hi:Option Int}{n:Nat}{Q:Int×Int×Nat->kR->Prop}(hs:s.heap.IsSliceOf sl vl vu .none)(pl:IsPart vl lo)(pu:IsPart vu hi)
  (h:Q (((sIx n 0 lo:Nat):Int),1,sIx n n hi-sIx n 0 lo) s):lK (model prog w) A (pZ (.ref sl) (pure (n:Int))) Q E s:=by
 obtain⟨os,hos,hcs,hds⟩:=id hs;unfold pZ sW;refine kP (kP (nO hos hds (x:=vl) rfl (kP (nO hos hds (x:=vu) rfl (kP (nO hos hds (x:=.none) rfl (lB ?_)))))));refine kP (slicePart_none ?_);show lK _ _ (if((1:Int) == 0)=uP then _ else _) _ _ s
 rw[if_neg (by decide)]
 refine kP (zc3_ pl (kP (zc3_ pu (kP (lB ?_)))));show lK _ _ (match pb lo hi 1 (n:Int)with |(lo,hi)=>pure (lo,(1:Int),n5 lo hi 1)) _ _ s
 rw[zgI_ lo hi n];show lK _ _ (pure (((sIx n 0 lo:Nat):Int),(1:Int),n5 ((sIx n 0 lo:Nat):Int) ((sIx n n hi:Nat):Int) 1)) _ _ s
 rw[zf9_];exact lB h
theorem zjg_ (xs:Array aU)(i k:Nat):((mf k).filterMap λ(m:Nat)=>xs[((i:Int)+(m:Int)*1).toNat]?).toArray=((xs.toList.drop i).take k).toArray:=by
 have e:(λ(m:Nat)=>xs[((i:Int)+(m:Int)*1).toNat]?)=λm=>xs[i+m]?:=by
  funext m;have:((i:Int)+(m:Int)*1).toNat=i+m:=by lia
  rw[this]
 rw[e];have:=pick_run xs i k;rw[List.filterMap_map]at this;have e2:((λx=>xs[x]?)∘λx=>i+x)=λm=>xs[i+m]?:=rfl
 rw[e2]at this;rw[this]
theorem getItem_tuple_cut {t sl:k9}{items:Array aU}{vl vu:aU}{lo hi:Option Int}{Q:aU->kR->Prop}(ht:IsTup s.heap t items)(hs:s.heap.IsSliceOf sl vl vu .none)(pl:IsPart vl lo)(pu:IsPart vu hi)
  (hw:¬(sIx items.size 0 lo=0/\sIx items.size items.size hi=items.size))
  (h:Q (.ref s.heap.objs.size) {s with heap:=s.heap.push {cls:=.type "tuple",data:=.seq ((items.toList.drop (sIx items.size 0 lo)).take (sIx items.size items.size hi-sIx items.size 0 lo)).toArray}})
  (hsz:items.size<=lA):lK (model prog w) A (getItem (.ref t) (.ref sl)) Q E s:=by
 have bo:sizeOk (.seq ((items.toList.drop (sIx items.size 0 lo)).take (sIx items.size items.size hi-sIx items.size 0 lo)).toArray):=by
  show((items.toList.drop (sIx items.size 0 lo)).take (sIx items.size items.size hi-sIx items.size 0 lo)).toArray.size<=lA
  rw[k8,mQ,mG,mz];lia
 have hj:sIx items.size items.size hi<=items.size:=sIx_le _ _ (kZ _) hi;obtain⟨os,hos,hcs,hds⟩:=id hs;have jW:s.TypeIs (.ref sl) "slice":=⟨os,hos,hcs⟩;unfold getItem
 try with_reducible refine wpAny_holding ?_
 first |refine kP (lB ?_)|skip
 refine kP (wpAny_sequenceKey ht.typeIs (by decide) ?_)
 refine kP (wpAny_callSpecial?_slot (name:=ou "__getitem__") ht.typeIs oE
  (wpAny_call_entry oE ht.typeIs entry_tuple_getitem ?_ (args_tuple_getitem _ _)))
 show lK _ _ (sL (.ref t)>>=_) _ _ s
 refine kP (tupleItemsOf_ ht ?_);refine kP (wpAny_typeOf jW ?_);rw[if_pos (by decide)]
 refine kP (zbP_ hs pl pu ?_);have jH:¬((((sIx items.size 0 lo:Nat):Int) == 0 && (1:Int) == 1 && (sIx items.size items.size hi-sIx items.size 0 lo) == items.size)=uP):=by
  intro q;rw[kJ,kJ]at q;have q1:((sIx items.size 0 lo:Nat):Int)=0:=eq_of_beq q.1.1;have q2:sIx items.size items.size hi-sIx items.size 0 lo=items.size:=eq_of_beq q.2;exact hw ⟨by lia,by lia⟩
 show lK _ _ (if(((sIx items.size 0 lo:Nat):Int) == 0 && (1:Int) == 1 && (sIx items.size items.size hi-sIx items.size 0 lo) == items.size)=uP then _ else _) _ _ s
 rw[if_neg jH,zjg_]
 first
  |exact kP (m:=oA _) (wpAny_newObj_type (lB ⟨_,rfl,lB h⟩) bo)
  |exact kP (m:=oA _) (wpAny_newObj_type (kP (lB (lB ⟨_,rfl,lB h⟩))) bo)
  |exact kP (kP (m:=oA _) (wpAny_newObj_type (lB (lB ⟨_,rfl,lB h⟩)) bo))
  |exact kP (kP (m:=oA _) (wpAny_newObj_type (lB ⟨_,rfl,lB h⟩) bo))
end
end HT
namespace L2
open PySem PySem.Spec PyProof.Rows
abbrev TO:=St->Hp->(Option Int->Hp->Prop)->Prop
def PO (X:Cx)(e:Option lF)(t:TO):Prop:=
 ∀(pins:Pnn) (s:kR) (σ:St) (H:Hp) (Q:Option Int->Hp->Prop),Inv X pins σ H s->t σ H Q ->
  lK (model X.prog X.w) X.A (evalPart e X.env) (λu s'=>∃o H',Inv X pins σ H' s'/\IsPart u o/\Q o H') X.xe s
def tNoPart:TO:=λ_ H Q=>Q uO H
theorem zfn_ {ns:List Int}:∀{us:List aU},Vals (ns.map V.int) us->IntsAre us ns:=by
 induction ns with
 |nil=>intro us r;rw[nJ]at r;cases r;exact .nil
 |cons n ns ih=>
  intro us r;rw[lj]at r;cases r with
  |cons r1 r2=>
   obtain⟨t,e⟩:=r1;subst e;exact .cons n t (ih r2)
section
variable {X:Cx}{e:lF}{te:TE}{lo hi:Option lF}{tl th:TO}{pos p2:Pos}
theorem zne_:PO X uO tNoPart:=by
 intro pins s σ H Q I h;rw[evalPart_none];exact lB ⟨uO,H,I,.none,h⟩
def SlR (X:Cx)(r:V->Option Int->Option Int->Hp->VK->Prop):Prop:=
 ∀(pins:Pnn) (s:kR) (σ:St) (H:Hp) (x:V) (v vl vu:aU) (lo hi:Option Int) (sl:k9) (Q:VK),Inv X pins σ H s->RelV x v->s.heap.IsSliceOf sl vl vu .none->IsPart vl lo->IsPart vu hi->r x lo hi H Q ->
  ∃T id,typeLookup (.type T) "__getitem__"=pure (uN (.builtin id))/\s.TypeIs v T/\lK (model X.prog X.w) X.A (getItem v (.ref sl)) (EP X pins σ Q) X.xe s
theorem SlR.or {r r':V->Option Int->Option Int->Hp->VK->Prop}(h:SlR X r)(h':SlR X r'):SlR X (λx lo hi H Q=>r x lo hi H Q\/r' x lo hi H Q):=by
 intro pins s σ H x v vl vu lo hi sl Q I rx hs pl pu q;rcases q with q |q
 ·exact h pins s σ H x v vl vu lo hi sl Q I rx hs pl pu q
 ·exact h' pins s σ H x v vl vu lo hi sl Q I rx hs pl pu q
def tSl (r:V->Option Int->Option Int->Hp->VK->Prop)(te:TE)(tl th:TO):TE:=λσ H Q=>te σ H λx H1=>tl σ H1 λl H2=>th σ H2 λu H3=>r x l u H3 Q
theorem zkt_ {r:V->Option Int->Option Int->Hp->VK->Prop}(hr:SlR X r)(he:PE X e te)(hl:PO X lo tl)(hu:PO X hi th):PE X (.Subscript e (.Slice lo hi uO p2) pos) (tSl r te tl th):=by
 intro pins s σ H Q I h;refine Subscript_ (thn (he pins s σ H _ I h) λv s1 ae=>?_)
 obtain⟨x,H1,I1,r1,q1⟩:=ae;refine wpAny_Slice (thn (hl pins s1 σ H1 _ I1 q1) λvl s2 ⟨l,H2,I2,pl,q2⟩=>thn (hu pins s2 σ H2 _ I2 q2) λvu s3 ae=>?_)
 obtain⟨u,H3,I3,pu,q3⟩:=ae;rw[evalPart_none];refine lB ?_;have I4:Inv X pins σ H3 {s3 with heap:=s3.heap.push {cls:=.type "slice",data:=.fields #[vl,vu,.none]}}:=I3.kept (t':=s3.toks) λb ob q=>kQ _ q
 obtain⟨T,id,hT,ht,hg⟩:=hr pins {s3 with heap:=s3.heap.push {cls:=.type "slice",data:=.fields #[vl,vu,.none]}} σ H3 x v vl vu l u s3.heap.objs.size Q I4 r1 (uG ..) pl pu q3;show lK (model X.prog X.w) X.A (subscriptTail e (.Slice lo hi uO p2) v (.ref s3.heap.objs.size)) (EP X pins σ Q) X.xe {s3 with heap:=s3.heap.push {cls:=.type "slice",data:=.fields #[vl,vu,.none]}}
 exact tail_any (ops:=[.ref s3.heap.objs.size,v]) ht hT hg (by with_unfolding_all rfl)
def cutV (xs:List V)(lo hi:Option Int):List V:=(xs.drop (HT.sIx xs.length 0 lo)).take (HT.sIx xs.length xs.length hi-HT.sIx xs.length 0 lo)
theorem zck_ (xs:List V)(lo hi:Option Int):(cutV xs lo hi).length<=xs.length:=by
 unfold cutV;rw[mQ,mG];lia
def rSlT (K:Fgg):V->Option Int->Option Int->Hp->VK->Prop:=λx lo hi H Q=>∃a xs,x=.ref a/\SqT K H a xs /\
 ¬(HT.sIx xs.length 0 lo=0/\HT.sIx xs.length xs.length hi=xs.length)/\∀p,H p=uO->Q (.ref p) (upd H p (.tup (cutV xs lo hi)))
theorem zpq_:SlR X (rSlT X.K):=by
 intro pins s σ H x v vl vu lo hi sl Q I rx hs pl pu h;obtain⟨a,xs,rfl,hx,hw,q⟩:=h;cases rx;obtain⟨aa,r,ht,hz⟩:=I.tuple hx;have hlen:aa.toArray.size=xs.length:=by rw[k8];exact r.length.symm
 refine⟨"tuple",_,oE.lookup,ht.typeIs,?_⟩;refine HT.getItem_tuple_cut ht hs pl pu (by rw[hlen];exact hw) ?_ (by rw[hlen];exact hz)
 rw[hlen];refine⟨.ref s.heap.objs.size,_,I.laid (t':=s.toks) (o:=.tup (cutV xs lo hi)) (λb ob q=>kQ _ q) (kZ _) ?_,rfl,q _ (I.hok.fresh (kZ _))⟩
 exact⟨mq (zck_ xs lo hi) hz,_,(r.drop (HT.sIx xs.length 0 lo)).take (HT.sIx xs.length xs.length hi-HT.sIx xs.length 0 lo),IsTup.new _ _⟩
def rCatT (K:Fgg):R2:=λx y H Q=>∃a b xs ys,x=.ref a/\y=.ref b/\SqT K H a xs/\SqT K H b ys/\xs≠[]/\xs.length+ys.length<=lA /\
 (ys=[]->Q (.ref a) H)/\(ys≠[]->∀p,H p=uO->Q (.ref p) (upd H p (.tup (xs++ys))))
theorem Vals.nil_iff {xs:List V}{us:List aU}(r:Vals xs us):us=[]↔xs=[]:=by
 cases r with
 |nil=>simp
 |cons _ _=>simp
theorem zlj_:OpR X (m8 .Add) (rCatT X.K):=by
 intro pins s σ H x y v u Q I rx ry h;obtain⟨a,b,xs,ys,rfl,rfl,ha,hb,hx,hz,q1,q2⟩:=h;cases rx;cases ry;obtain⟨aa,r1,p1,_⟩:=I.tuple ha;obtain⟨ao,r2,p2,_⟩:=I.tuple hb;refine HT.cat_tup p1 p2 (λz=>hx (r1.nil_iff.mp z)) (λz=>⟨.ref a,H,I,rfl,q1 (r2.nil_iff.mp z)⟩) (λz=>?_) (by rw[<- r1.length,<- r2.length];exact hz)
 refine⟨.ref s.heap.objs.size,_,I.laid (t':=s.toks) (o:=.tup (xs++ys)) (λb ob q=>kQ _ q) (kZ _) ?_,rfl,q2 (λw=>z (r2.nil_iff.mpr w)) _ (I.hok.fresh (kZ _))⟩
 exact⟨by rw[lE];exact hz,_,r1.append r2,IsTup.new _ _⟩
end
noncomputable def ixN (n:Nat)(i:Int):Option Nat:=if 0<=i then(if i<n then uN i.toNat else uO)else if -(n:Int)<=i then uN (i+n).toNat else uO
def atI {α:Type}(xs:List α)(i:Int):Option α:=(ixN xs.length i).bind λj=>xs[j]?
theorem zfm_ {n:Nat}{i:Int}{j:Nat}(h:ixN n i=uN j):seqIndex? i n=uN j/\j<n /\ -(n:Int)<=i/\i<n:=by
 unfold ixN at h;by_cases h0:0<=i
 ·rw[if_pos h0]at h
  by_cases h1:i<n
  ·rw[if_pos h1]at h
   have e:i.toNat=j:=lX h;exact⟨by rw[seqIndex_of h0 h1,e],by lia,by lia,h1⟩
  ·rw[if_neg h1]at h;cases h
 ·rw[if_neg h0]at h
  by_cases h1 : -(n:Int)<=i
  ·rw[if_pos h1]at h
   have e:(i+n).toNat=j:=lX h;exact⟨by rw[seqIndex_neg (by lia) h1,e],by lia,h1,by lia⟩
  ·rw[if_neg h1]at h;cases h
theorem zgb_ {α:Type}{xs:List α}{i:Int}{v:α}(h:atI xs i=uN v):∃j,seqIndex? i xs.length=uN j/\xs[j]?=uN v/\j<xs.length /\ -(xs.length:Int)<=i/\i<xs.length:=by
 unfold atI at h;cases e:ixN xs.length i with
 |none=>rw[e]at h;cases h
 |some j=>
  rw[e]at h;obtain⟨h1,h2,h3,h4⟩:=zfm_ e;exact⟨j,h1,h,h2,h3,h4⟩
def PlainIx (b:lF):Prop:=∀o i,subscripted b uQ o i=operate [o,i] (getItem o i)
def IxR (X:Cx)(r:R2):Prop:=
 ∀(value slice:lF) (pins:Pnn) (s:kR) (σ:St) (H:Hp) (x y:V) (v u:aU) (Q:VK),Inv X pins σ H s->RelV x v->RelV y u->r x y H Q ->
  subscripted slice uQ v u=operate [v,u] (getItem v u)->lK (model X.prog X.w) X.A (subscriptTail value slice v u) (EP X pins σ Q) X.xe s
def MtR (X:Cx)(id:String)(r:V->List V->Hp->VK->Prop):Prop:=
 ∀(pins:Pnn) (s:kR) (σ:St) (H:Hp) (x:V) (xs:List V) (v:aU) (us:List aU) (Q:VK),Inv X pins σ H s->RelV x v->Vals xs us->r x xs H Q ->
  lK (model X.prog X.w) X.A (call (.builtin id) (v::us)) (EP X pins σ Q) X.xe s
section
variable {X:Cx}{a b:lF}{ta tb:TE}{pos:Pos}
theorem pe_ix {r:R2}(hr:IxR X r)(ha:PE X a ta)(hb:PE X b tb)(hs:PlainIx b):PE X (.Subscript a b pos) (tOp r ta tb):=by
 intro pins s σ H Q I h;exact Subscript_ (binT ha hb I h λv u s2 x y H2 I2 rx ry q=>hr a b pins s2 σ H2 x y v u Q I2 rx ry q (hs _ _))
def rIxL (K:Fgg):R2:=λx y H Q=>∃p xs i v,x=.ref p/\y=.int i/\SqL K H p xs/\atI xs i=uN v/\Q v H
def rIxT (K:Fgg):R2:=λx y H Q=>∃p xs i v,x=.ref p/\y=.int i/\SqT K H p xs/\atI xs i=uN v/\Q v H
def rIxS:R2:=λx y H Q=>∃z i c,x=.str z/\y=.int i/\z.length<=lA/\atI z.cps.toList i=uN c/\Q (.str ⟨#[c]⟩) H
theorem zmx_:IxR X (rIxL X.K):=by
 intro value slice pins s σ H x y v u Q I rx ry h hs;obtain⟨p,xs,i,z,rfl,rfl,hq,he,q⟩:=h;cases rx;obtain⟨t,rfl⟩:=ry;obtain⟨aa,r,pl,hz⟩:=I.list hq;obtain⟨j,h1,h2,h3,h4,h5⟩:=zgb_ he;obtain⟨w,ew,bM⟩:=r.get h2;have hl:=r.length;have hn:=line63;have fin:EP X pins σ Q w s:=⟨z,H,I,bM,q⟩;by_cases h0:0<=i
 ·have hj:i.toNat=j:=by
   rw[seqIndex_of h0 h5]at h1;exact lX h1
  exact item_listR pl.isList h0 (by lia) (by rw[hj];simpa using ew) fin hs
 ·have hj:(i+(aa.toArray.size:Int)).toNat=j:=by
   rw[seqIndex_neg (by lia) h4]at h1
   rw[k8,<- hl];exact lX h1
  exact subscriptTail_builtinR (x:=w) pl.isList.typeIs slot_list_getitem.lookup
   (wpAny_getItem_list_neg (Q:=λr s'=>r=w/\EP X pins σ Q r s') pl.isList (by lia) (by rw[k8]<;>lia) (by lia) (by rw[hj];simpa using ew) ⟨rfl,fin⟩) hs
theorem zpi_:IxR X (rIxT X.K):=by
 intro value slice pins s σ H x y v u Q I rx ry h hs;obtain⟨p,xs,i,z,rfl,rfl,hq,he,q⟩:=h;cases rx;obtain⟨t,rfl⟩:=ry;obtain⟨aa,r,pl,hz⟩:=I.tuple hq;obtain⟨j,h1,h2,h3,h4,h5⟩:=zgb_ he;obtain⟨w,ew,bM⟩:=r.get h2;have hl:=r.length;have hn:=line63;have fin:EP X pins σ Q w s:=⟨z,H,I,bM,q⟩
 exact subscriptTail_builtinR (x:=w) pl.typeIs slot_tuple_getitem.lookup
  (getItem_tuple (j:=j) (Q:=λr s'=>r=w/\EP X pins σ Q r s') pl (by lia) (by lia) (by rw[k8,<- hl];exact h1) (by simpa using ew) ⟨rfl,fin⟩) hs
theorem zpv_:IxR X rIxS:=by
 intro value slice pins s σ H x y v u Q I rx ry h hs;obtain⟨z,i,c,rfl,rfl,hz,he,q⟩:=h;obtain⟨t,rfl⟩:=rx;obtain⟨t',rfl⟩:=ry;obtain⟨j,h1,h2,h3,h4,h5⟩:=zgb_ he;have hl:z.cps.toList.length=z.length:=by simp[ni]
 rw[hl]at h1 h4 h5;have hn:=line63;exact tail_any (typeIs_str s z t) slot_str_getitem.lookup (getItem_str (c:=c) (by
  have e1:decide (i < -(2 ^ 63:Int))=uQ:=decide_eq_false (by lia)
  have e2:decide (i ≥ 2 ^ 63)=uQ:=decide_eq_false (by lia)
  rw[e1,e2,Bool.or_false]) (by rw[h1];simpa using h2) ⟨.str ⟨#[c]⟩,H,I.tok _,⟨_,rfl⟩,q⟩) hs
theorem zg8_ (aa:List aU)(n j:Nat)(u:aU):lV (·.setIfInBounds j u) {cls:=.type "list",data:=.seq aa.toArray n}={cls:=.type "list",data:=.seq (aa.set j u).toArray n}:=by
 simp[lV]
theorem Inv.lst {pins:Pnn}{σ:St}{H:Hp}{s:kR}{p:k9}{xs:List V}(I:Inv X pins σ H s)(h:H p=uN (.lst xs)):
  ∃(aa:List aU) (n:Nat),Vals xs aa/\s.heap.get? p=uN {cls:=.type "list",data:=.seq aa.toArray n}/\xs.length<=lA:=by
 obtain⟨z,aa,n,r,e⟩:=I.hok p _ h;exact⟨aa,n,r,e,z⟩
theorem Inv.lstUpd {pins:Pnn}{σ:St}{H:Hp}{s:kR}{p:k9}{xs ys:List V}{aa its':List aU}{n n':Nat}{f:sX->sX}(I:Inv X pins σ H s)(h:H p=uN (.lst xs))
  (ho:s.heap.get? p=uN {cls:=.type "list",data:=.seq aa.toArray n}) (hf:f {cls:=.type "list",data:=.seq aa.toArray n}={cls:=.type "list",data:=.seq its'.toArray n'}) (r:Vals ys its') (hz:ys.length<=lA) (t:Nat):
  Inv X pins σ (upd H p (.lst ys)) {s with heap:=s.heap.update p f,toks:=t}:=by
 have e:(s.heap.update p f).get? p=uN {cls:=.type "list",data:=.seq its'.toArray n'}:=by
  rw[Heap.get?_update_self f ho (by rw[hf]<;>rfl),hf]
 refine I.write (x:=p) (e:=p) (by rw[h];trivial) (.inl rfl) (λb u hb q=>(qB _ _ (pY hb)).trans q) ⟨_,e⟩ ?_
 exact⟨hz,its',n',r,e⟩
def rSetL:V->V->V->Hp->(Hp->Prop)->Prop:=λo i v H Q=>∃p xs k j,o=.ref p/\i=.int k/\H p=uN (.lst xs)/\ixN xs.length k=uN j/\Q (upd H p (.lst (xs.set j v)))
theorem zjn_:PSet X rSetL:=by
 intro pins s σ H o i v ov iv u Q I ro ri rv h;obtain⟨p,xs,k,j,rfl,rfl,hp,hj,q⟩:=h;cases ro;obtain⟨t,rfl⟩:=ri;obtain⟨aa,n,r,ho,hz⟩:=I.lst hp;obtain⟨h1,h2,h3,h4⟩:=zfm_ hj;have hl:=r.length;have hn:=line63;have I':Inv X pins σ (upd H p (.lst (xs.set j v))) {s with heap:=s.heap.update p (lV (·.setIfInBounds j u))}:=
  I.lstUpd hp ho (zg8_ aa n j u) (r.set rv j) (by rw[m6];exact hz) s.toks
 by_cases h0:0<=k
 ·have hk:k.toNat=j:=by
   rw[seqIndex_of h0 h4]at h1;exact lX h1
  exact W.ki_setAt ho h0 (by lia) (by rw[k8,<- hl];exact h4) (by rw[hk];exact⟨_,I',q⟩)
 ·have hk:(k+(aa.toArray.size:Int)).toNat=j:=by
   rw[seqIndex_neg (by lia) h3]at h1
   rw[k8,<- hl];exact lX h1
  exact W.ki_setBack ho (by lia) (by rw[k8,<- hl];exact h3) (by lia) (by rw[hk];exact⟨_,I',q⟩)
theorem zd3_ (lo hi:Option Int)(n:Nat):(sliceBounds lo hi uO n).1=((HT.sIx n 0 lo:Nat):Int)/\(sliceBounds lo hi uO n).2.1=((HT.sIx n n hi:Nat):Int)/\(sliceBounds lo hi uO n).2.2=1:=by
 refine⟨?_,?_,rfl⟩
 ·cases lo with
  |none=>simp[sliceBounds,HT.sIx]
  |some i=>
   simp only[sliceBounds,HT.sIx,rT,show(1:Int) > 0 by decide,if_true]
   by_cases h:i<0
   ·simp only[h,if_true]<;>lia
   ·simp only[h,if_false]<;>lia
 ·cases hi with
  |none=>simp[sliceBounds,HT.sIx]
  |some i=>
   simp only[sliceBounds,HT.sIx,rT,show(1:Int) > 0 by decide,if_true]
   by_cases h:i<0
   ·simp only[h,if_true]<;>lia
   ·simp only[h,if_false]<;>lia
theorem zcT_ (aa:List aU)(lo hi:Option Int):slicePick aa.toArray lo hi uO=((aa.drop (HT.sIx aa.length 0 lo)).take (HT.sIx aa.length aa.length hi-HT.sIx aa.length 0 lo)).toArray:=by
 obtain⟨h1,h2,h3⟩:=zd3_ lo hi aa.toArray.size;unfold slicePick;rw[h1,h2,h3];simp only[sliceRange_one,pick_run,k8]<;>rfl
def rSlL (K:Fgg):V->Option Int->Option Int->Hp->VK->Prop:=λx lo hi H Q=>∃a xs,x=.ref a/\SqL K H a xs/\∀p,H p=uO->Q (.ref p) (upd H p (.lst (cutV xs lo hi)))
theorem zmF_:SlR X (rSlL X.K):=by
 intro pins s σ H x v vl vu lo hi sl Q I rx hs pl pu h;obtain⟨a,xs,rfl,hx,q⟩:=h;cases rx;obtain⟨aa,r,ht,hz⟩:=I.list hx;have hlen:=r.length;refine⟨"list",_,slot_list_getitem.lookup,ht.isList.typeIs,?_⟩;refine wpAny_getItem_list_slice ht.isList hs pl pu .none (by simp) ?_ (by rw[k8]<;>lia)
 rw[zcT_,<- hlen];refine⟨.ref s.heap.objs.size,_,I.laid (t':=s.toks) (o:=.lst (cutV xs lo hi)) (λb ob q=>kQ _ q) (kZ _) ?_,rfl,q _ (I.hok.fresh (kZ _))⟩
 exact⟨mq (zck_ xs lo hi) hz,_,0,(r.drop (HT.sIx xs.length 0 lo)).take (HT.sIx xs.length xs.length hi-HT.sIx xs.length 0 lo),lC _ rfl⟩
noncomputable def flatV:V->Bool
 |.non=>uP
 |.bl _=>uP
 |.int _=>uP
 |.str _=>uP
 |_=>uQ
noncomputable def eqV:V->V->Bool
 |.non,.non=>uP
 |.bl a,.bl b=>a == b
 |.bl a,.int b=>(if a then 1 else 0) == b
 |.int a,.bl b=>a == (if b then 1 else 0)
 |.int a,.int b=>a == b
 |.str a,.str b=>a == b
 |_,_=>uQ
theorem znk_ {A:mh}{s:kR}{y x:V}{u v:aU}(ry:RelV y u)(rx:RelV x v)(fy:flatV y=uP)(fx:flatV x=uP):rg A s u v (eqV y x):=by
 cases y with
 |non=>
  cases ry;cases x with
  |non=>cases rx;exact qJ _
  |bl b=>cases rx;exact SeqAt.EqAt.none_bool b
  |int b=>obtain⟨t,rfl⟩:=rx;exact SeqAt.EqAt.none_int b t
  |str b=>obtain⟨t,rfl⟩:=rx;exact SeqAt.EqAt.none_str b t
  |_=>exact absurd (show uQ=uP from fx) mw
 |bl a=>
  cases ry;cases x with
  |non=>cases rx;exact SeqAt.EqAt.bool_none a
  |bl b=>cases rx;exact SeqAt.EqAt.bool_bool a b
  |int b=>obtain⟨t,rfl⟩:=rx;exact SeqAt.EqAt.bool_int a b t
  |str b=>obtain⟨t,rfl⟩:=rx;exact SeqAt.EqAt.bool_str a b t
  |_=>exact absurd (show uQ=uP from fx) mw
 |int a=>
  obtain⟨t',rfl⟩:=ry;cases x with
  |non=>cases rx;exact SeqAt.EqAt.int_none a t'
  |bl b=>cases rx;exact SeqAt.EqAt.int_bool a t' b
  |int b=>obtain⟨t,rfl⟩:=rx;exact rj a t' b t
  |str b=>obtain⟨t,rfl⟩:=rx;exact qZ a t' b t
  |_=>exact absurd (show uQ=uP from fx) mw
 |str a=>
  obtain⟨t',rfl⟩:=ry;cases x with
  |non=>cases rx;exact SeqAt.EqAt.str_none a t'
  |bl b=>cases rx;exact SeqAt.EqAt.str_bool a t' b
  |int b=>obtain⟨t,rfl⟩:=rx;exact q9 a t' b t
  |str b=>obtain⟨t,rfl⟩:=rx;exact SeqAt.EqAt.str_str a t' b t
  |_=>exact absurd (show uQ=uP from fx) mw
 |_=>exact absurd (show uQ=uP from fy) mw
def eqU (x:V)(u:aU):Bool:=match u with
 |.none=>eqV .non x
 |.bool b=>eqV (.bl b) x
 |.int i _=>eqV (.int i) x
 |.str z _=>eqV (.str z) x
 |_=>uQ
theorem zmC_ {x y:V}{u:aU}(r:RelV y u)(f:flatV y=uP):eqU x u=eqV y x:=by
 cases y with
 |non=>cases r;rfl
 |bl b=>cases r;rfl
 |int i=>obtain⟨t,rfl⟩:=r;rfl
 |str z=>obtain⟨t,rfl⟩:=r;rfl
 |_=>exact absurd (show uQ=uP from f) mw
theorem zdr_ {x:V}:∀{xs:List V}{us:List aU},Vals xs us->xs.all flatV=uP->us.any (eqU x)=xs.any λy=>eqV y x
 |_,_,.nil,_=>rfl
 |y::xs,u::us,.cons r t,f=>by
  rw[mD,kJ]at f;rw[pq,pq,zmC_ r f.1,zdr_ t f.2]
theorem zb4_ {A:mh}{s:kR}{x:V}{v:aU}(rx:RelV x v)(fx:flatV x=uP):∀{xs:List V}{us:List aU},Vals xs us->xs.all flatV=uP->∀u∈us,rg A s u v (eqU x u)
 |_,_,.nil,_=>λu hu=>by cases hu
 |y::xs,u::us,.cons r t,f=>λu' hu=>by
  rw[mD,kJ]at f;rcases lI.mp hu with rfl |hu
  ·rw[zmC_ r f.1];exact znk_ r rx f.1 fx
  ·exact zb4_ rx fx t f.2 u' hu
def inV (x:V)(xs:List V):Bool:=xs.any λy=>eqV y x
def rIn (K:Fgg)(neg:Bool):R2:=λx y H Q=>∃p xs,y=.ref p/\(SqL K H p xs\/SqT K H p xs)/\flatV x=uP/\xs.all flatV=uP/\Q (.bl (if neg then !inV x xs else inV x xs)) H
theorem zhm_:OpR X (lP .In) (rIn X.K uQ):=by
 intro pins s σ H x y v u Q I rx ry h;obtain⟨p,xs,rfl,hq,fx,fs,q⟩:=h;cases ry;rcases hq with hq |hq
 ·obtain⟨aa,r,pl,hz⟩:=I.list hq
  refine SeqAt.in_listAt (eqU x) pl.isList (λw hw=>zb4_ rx fx r fs w (by simpa using hw)) ⟨.bl _,H,I,rfl,?_⟩
  rw[show aa.toArray.any (eqU x)=aa.any (eqU x) by simp,zdr_ r fs]
  exact q
 ·obtain⟨aa,r,pl,hz⟩:=I.tuple hq
  refine SeqAt.in_tupleAt (eqU x) pl (λw hw=>zb4_ rx fx r fs w (by simpa using hw)) ⟨.bl _,H,I,rfl,?_⟩
  rw[show aa.toArray.any (eqU x)=aa.any (eqU x) by simp,zdr_ r fs]
  exact q
theorem zdC_:OpR X (lP .NotIn) (rIn X.K uP):=by
 intro pins s σ H x y v u Q I rx ry h;obtain⟨p,xs,rfl,hq,fx,fs,q⟩:=h;cases ry;rcases hq with hq |hq
 ·obtain⟨aa,r,pl,hz⟩:=I.list hq
  refine SeqAt.notIn_listAt (eqU x) pl.isList (λw hw=>zb4_ rx fx r fs w (by simpa using hw)) ⟨.bl _,H,I,rfl,?_⟩
  rw[show aa.toArray.any (eqU x)=aa.any (eqU x) by simp,zdr_ r fs]
  exact q
 ·obtain⟨aa,r,pl,hz⟩:=I.tuple hq
  refine SeqAt.notIn_tupleAt (eqU x) pl (λw hw=>zb4_ rx fx r fs w (by simpa using hw)) ⟨.bl _,H,I,rfl,?_⟩
  rw[show aa.toArray.any (eqU x)=aa.any (eqU x) by simp,zdr_ r fs]
  exact q
theorem zdK_:CallR X (.builtin "len") (λxs H Q=>∃p ys,xs=[.ref p]/\(SqL X.K H p ys\/SqT X.K H p ys)/\Q (.int ys.length) H):=by
 intro pins s σ H xs us Q I r h;obtain⟨p,ys,rfl,hq,q⟩:=h;obtain⟨u,rfl,rx⟩:=vals1 r;cases rx;have hn:=line63;rcases hq with hq |hq
 ·obtain⟨aa,r',pl,hz⟩:=I.list hq
  have hlen:=r'.length;exact Calls.call_len_list pl.isList (by simp only[k8]<;>lia) ⟨.int ys.length,H,I.tok _,⟨s.toks+1,by rw[k8,hlen]⟩,q⟩
 ·obtain⟨aa,r',pl,hz⟩:=I.tuple hq
  have hlen:=r'.length;exact len_tuple pl (by simp only[k8]<;>lia) ⟨.int ys.length,H,I.tok _,⟨s.toks+1,by rw[k8,hlen]⟩,q⟩
theorem zdS_:CallR X (.builtin "len") (λxs H Q=>∃z,xs=[.str z]/\z.length<=lA/\Q (.int z.length) H):=by
 intro pins s σ H xs us Q I r h;obtain⟨z,rfl,hz,q⟩:=h;obtain⟨u,rfl,t,rfl⟩:=vals1 r;have hn:=line63;exact len_str (by lia) ⟨.int z.length,H,I.tok _,⟨_,rfl⟩,q⟩
theorem zd7_:CallR X (.type "list") (λxs H Q=>∃p ys,xs=[.ref p]/\(SqL X.K H p ys\/SqT X.K H p ys)/\∀l,H l=uO->Q (.ref l) (upd H l (.lst ys))):=by
 intro pins s σ H xs us Q I r h;obtain⟨p,ys,rfl,hq,q⟩:=h;obtain⟨u,rfl,rx⟩:=vals1 r;cases rx
 have fin:∀(aa:List aU),Vals ys aa->ys.length<=lA->∀(h':Heap) (c':Nat),(∀b o',s.heap.get? b=uN o'->h'.get? b=uN o') ->
   h'.get? s.heap.objs.size=uN {cls:=.type "list",dict:=uO,data:=.seq aa.toArray c',slots:=#[]}->EP X pins σ Q (.ref s.heap.objs.size) {s with heap:=h'}:=λaa r' hz h' c' kp e=>
  ⟨.ref s.heap.objs.size,_,I.laid (t':=s.toks) kp (kZ _) (show ObjOk X.prog X.w _ h' _ (.lst ys)from⟨hz,aa,c',r',e⟩),rfl,q _ (I.hok.fresh (kZ _))⟩
 rcases hq with hq |hq
 ·obtain⟨aa,r',pl,hz⟩:=I.list hq
  have hlen:=r'.length;obtain⟨o,ho,hc,n,hd⟩:=pl.isList;exact call_list_seq p (.inl rfl) ho hc hd (λh' c' kp e=>fin aa r' hz h' c' kp e) (by simp only[k8]<;>lia)
 ·obtain⟨aa,r',pl,hz⟩:=I.tuple hq
  have hlen:=r'.length;obtain⟨o,ho,hc,n,hd⟩:=pl;exact call_list_seq p (.inr rfl) ho hc hd (λh' c' kp e=>fin aa r' hz h' c' kp e) (by simp only[k8]<;>lia)
def tyV (K:Fgg)(T:String)(x:V)(H:Hp):Prop:=match x with
 |.str _=>T="str"
 |.int _=>T="int"
 | .ref p=>(T="list" /\ ∃xs,SqL K H p xs)\/(T="tuple" /\ ∃o,K.lookup p=uN o/\o.cls=.type "tuple" /\ o.dict=uO) \/
   (T="dict" /\ ((∃kvs,H p=uN (.dK kvs))\/∃kvs,H p=uN (.dT kvs)))\/(T="set" /\ ∃S n,H p=uN (.set S n))
 |_=>False
theorem zlW_ {pins:Pnn}{σ:St}{H:Hp}{s:kR}{T:String}{x:V}{v:aU}(I:Inv X pins σ H s)(r:RelV x v)(ty:tyV X.K T x H):
  s.TypeIs v T/\∀a,v=.ref a->∃ob,s.heap.get? a=uN ob/\ob.dict=uO:=by
 cases x with
 |str z=>
  obtain⟨t,rfl⟩:=r;cases(show T="str" from ty)
  exact⟨typeIs_str s z t,λ_ e=>nomatch e⟩
 |int i=>
  obtain⟨t,rfl⟩:=r;cases(show T="int" from ty)
  exact⟨typeIs_int s i t,λ_ e=>nomatch e⟩
 |ref p=>
  cases r;rcases ty with⟨rfl,xs,hq⟩|⟨rfl,o,hk,hc,hd⟩|⟨rfl,hk⟩|⟨rfl,S,n,hk⟩
  ·obtain⟨aa,_,pl,_⟩:=I.list hq
   refine⟨pl.isList.typeIs,λa e=>?_⟩
   cases e;obtain⟨o,n,e,c,hd,_⟩:=pl;exact⟨o,e,hd⟩
  ·refine⟨⟨o,I.kIn p o hk,hc⟩,λa e=>?_⟩
   cases e;exact⟨o,I.kIn _ o hk,hd⟩
  ·have z:∃o,s.heap.get? p=uN o/\o.ExactDict:=by
    rcases hk with⟨kvs,hk⟩|⟨kvs,hk⟩
    ·obtain⟨_,_,_,_,o,_,_,e,ex,_⟩:=I.hok p _ hk
     exact⟨o,e,ex⟩
    ·obtain⟨_,_,_,_,o,_,_,e,ex,_⟩:=I.hok p _ hk
     exact⟨o,e,ex⟩
   obtain⟨o,e,ex⟩:=z;refine⟨⟨o,e,ex.1⟩,λa e2=>?_⟩
   cases e2;exact⟨o,e,ex.2.1⟩
  ·obtain⟨o,_,_,_,e,ex,_⟩:=I.hok p _ hk
   refine⟨⟨o,e,ex.1⟩,λa e2=>?_⟩
   cases e2;exact⟨o,e,ex.2.1⟩
 |_=>exact lZ ty
def tBM0 (K:Fgg)(T:String)(r:V->List V->Hp->VK->Prop)(to:TE):TE:=λσ H Q=>to σ H λx H1=>tyV K T x H1/\r x [] H1 Q
def tBM (K:Fgg)(T:String)(r:V->List V->Hp->VK->Prop)(to:TE)(t:TA):TE:=λσ H Q=>to σ H λx H1=>tyV K T x H1/\t σ H1 λxs H2=>r x xs H2 Q
variable {o e:lF}{es:List lF}{to:TE}{t:TA}{name:Str}{apos ak:Pos}{T id:String}{r:V->List V->Hp->VK->Prop}
theorem zmH_ (pa:PlainAttrs T)(slot:Slot T name id)(eC:typeOf (.builtin id)=pure (.type "method_descriptor"))(hm:MtR X id r)(ho:PE X o to)
  (bZ:attributeBase o name X.env (eval o X.env)=eval o X.env:=by rfl) (bW:(apos.endLine == ak.line)=uP:=by rfl):PE X (.Call (.Attribute o name apos) [] [] ak) (tBM0 X.K T r to):=by
 intro pins s σ H Q I h;refine wpAny_Call_method0_late bZ bW (thn (ho pins s σ H _ I h) λv s1 ae=>?_)
 obtain⟨x,H1,I1,r1,ty,q1⟩:=ae;obtain⟨h1,h2⟩:=zlW_ I1 r1 ty;exact⟨T,id,pa,slot,eC,h1,h2,Calls.callWith_builtin rfl (PySem.evalArgs_none (hm pins s1 σ H1 x [] v [] Q I1 r1 .nil q1))⟩
theorem zpU_ (pa:PlainAttrs T)(slot:Slot T name id)(eC:typeOf (.builtin id)=pure (.type "method_descriptor"))(hm:MtR X id r)(ho:PE X o to)(ha:PA X (e::es) t)
  (bZ:attributeBase o name X.env (eval o X.env)=eval o X.env:=by rfl)
  (gP:((oz ak (lW (e::es) X.env)).all (λx=>!x.1) && (qO ak (pQ [] X.env)).all (λx=>x.1.isSome)
   && decide ((e::es).length+([]:List Keyword).length+(if([]:List Keyword).isEmpty then 0 else 1)<30))=uP:=by rfl)
  (bW:(apos.endLine == ak.line)=uP:=by rfl) (hs:lW (e::es) X.env=(uQ,eval e X.env)::lW es X.env:=by rfl) (dc:(oz ak (lW es X.env)).any (·.1)=uQ:=by rfl):
  PE X (.Call (.Attribute o name apos) (e::es) [] ak) (tBM X.K T r to t):=by
 intro pins s σ H Q I h;refine wpAny_Call_method_late bZ gP bW rfl (thn (ho pins s σ H _ I h) λv s1 ae=>?_)
 obtain⟨x,H1,I1,r1,ty,q1⟩:=ae;obtain⟨h1,h2⟩:=zlW_ I1 r1 ty;refine⟨T,id,pa,slot,eC,h1,h2,?_⟩;have hA:=ha ak pins s1 σ H1 _ I1 q1;rw[hs]at hA ⊢;refine Calls.callWith_builtin (by show(uQ ||(oz ak (lW es X.env)).any (·.1))=uQ;rw[dc]<;>rfl) (Calls.evalArgs_plain ?_)
 exact thn hA λus s2 ⟨vs,H2,I2,r2,q2⟩=>hm pins s2 σ H2 x vs v us Q I2 r1 r2 q2
end
def MtM (X:Cx)(id:String)(r:V->List V->Hp->VK->Prop):Prop:=
 ∀(pins:Pnn) (s:kR) (σ:St) (H:Hp) (x:V) (xs:List V) (v:aU) (us:List aU) (Q:VK),Inv X pins σ H s->RelV x v->Vals xs us->r x xs H Q ->
  lK (model X.prog X.w) X.A (call (.builtin id) (v::us)) (EP X pins σ Q) X.xe s
theorem Vals.one:∀{x:V}{us:List aU},Vals [x] us->∃u,us=[u]/\RelV x u
 |_,_,.cons r .nil=>⟨_,rfl,r⟩
theorem Vals.dropLast {xs:List V}{us:List aU}(h:Vals xs us):Vals xs.dropLast us.dropLast:=by
 induction h with
 |nil=>exact .nil
 |cons r t ih=>
  cases t with
  |nil=>exact .nil
  |cons q t'=>exact .cons r ih
theorem Vals.rep {xs:List V}{us:List aU}(h:Vals xs us):∀k:Nat,Vals (lJ k xs).flatten (lJ k us).flatten
 |0=>.nil
 |k+1=>by
  rw[mJ,mJ,nr,nr];exact Vals.append h (Vals.rep h k)
theorem zno_ {α:Type}(l:List α):l.eraseIdx (l.length-1)=l.dropLast:=by
 induction l with
 |nil=>rfl
 |cons a r ih=>
  cases r with
  |nil=>rfl
  |cons b r=>
   have e:(a::b::r).length-1=((b::r).length-1)+1:=by
    have h1:(a::b::r).length=r.length+2:=rfl;have h2:(b::r).length=r.length+1:=rfl;lia
   rw[e,List.eraseIdx_cons_succ,ih]
   all_goals rfl
theorem zel_ (aa:List aU):∀(k:Nat) (acc:List aU),
  qC (λx1 x2=>x1++x2) acc.toArray (lJ k aa.toArray)=(acc++(lJ k aa).flatten).toArray
 |0,acc=>by simp
 |k+1,acc=>by
  have e:acc.toArray++aa.toArray=(acc++aa).toArray:=by simp
  have e2:(acc++aa)++(lJ k aa).flatten=acc++(lJ (k+1) aa).flatten:=by
   rw[mJ,nr,nu]
  rw[<- e2,<- zel_ aa k (acc++aa),<- e,mJ,oQ]
section
variable {X:Cx}{pins:Pnn}{σ:St}{H:Hp}{s:kR}{l:k9}{xs ys:List V}
theorem Inv.lset {aa its':List aU}{n:Nat}{f:Array aU->Array aU}{t':Nat}(I:Inv X pins σ H s)(hH:H l=uN (.lst xs))
  (e:s.heap.get? l=uN {cls:=.type "list",data:=.seq aa.toArray n}) (hf:f aa.toArray=its'.toArray) (hv:Vals ys its') (hz:ys.length<=lA):
  Inv X pins σ (upd H l (.lst ys)) {s with heap:=s.heap.update l (lV f),toks:=t'}:=by
 have q:=PySem.IsL.update e f;rw[hf]at q;refine I.write (x:=l) (e:=l) (by rw[hH];exact trivial) (.inl rfl) (λb' u hb hu=>(qB s.heap (lV f) (pY hb)).trans hu) ⟨_,q⟩ ?_
 exact⟨hz,its',_,hv,q⟩
theorem Inv.lnew {aa:List aU}{t':Nat}(I:Inv X pins σ H s)(hv:Vals ys aa)(hz:ys.length<=lA):
  Inv X pins σ (upd H s.heap.objs.size (.lst ys)) {s with heap:=s.heap.push {cls:=.type "list",data:=.seq aa.toArray},toks:=t'}:=
 I.laid (λ_ _ q=>kQ _ q) (kZ _) ⟨hz,aa,0,hv,lC _ rfl⟩
theorem Inv.fresh (I:Inv X pins σ H s):H s.heap.objs.size=uO:=I.hok.fresh (kZ _)
theorem Inv.lstM (I:Inv X pins σ H s)(hH:H l=uN (.lst xs)):xs.length<=lA/\∃(aa:List aU) (n:Nat),Vals xs aa/\xs.length=aa.length/\s.heap.get? l=uN {cls:=.type "list",data:=.seq aa.toArray n}:=by
 obtain⟨z,aa,n,r,e⟩:=I.hok l _ hH;exact⟨z,aa,n,r,r.length,e⟩
theorem notLongL {n:Nat}(h:n<=lA):oB n=uQ:=by
 unfold oB;exact decide_eq_false (by lia)
end
section
variable {X:Cx}
def rAppend:V->List V->Hp->VK->Prop:=λx vs H Q=>∃l xs y,x=.ref l/\vs=[y]/\H l=uN (.lst xs)/\xs.length<lA/\Q .non (upd H l (.lst (xs++[y])))
theorem zcL_:MtM X "list.append" rAppend:=by
 intro pins s σ H x vs v us Q I rx rv h;obtain⟨l,xs,y,rfl,rfl,hH,hz,q⟩:=h;cases rx;obtain⟨u,rfl,ru⟩:=rv.one;obtain⟨z,aa,n,r,hl,e⟩:=I.lstM hH;refine call_meets F.slot_list_append ⟨_,e,rfl⟩ F.entry_list_append (F.args_list_append_2 _ _) (PySem.list_append l aa.toArray n u (by rw[k8];lia)) ⟨e,?_⟩
 refine⟨.non,_,I.lset (its':=aa++[u]) hH e (by simp) (r.append (.cons ru .nil)) ?_,rfl,q⟩
 rw[lE,m9];lia
def rExtend:V->List V->Hp->VK->Prop:=λx vs H Q=>∃l b xs zs,x=.ref l/\vs=[.ref b]/\H l=uN (.lst xs)/\H b=uN (.lst zs)/\xs.length+zs.length<=lA/\Q .non (upd H l (.lst (xs++zs)))
theorem zeB_:MtM X "list.extend" rExtend:=by
 intro pins s σ H x vs v us Q I rx rv h;obtain⟨l,b,xs,zs,rfl,rfl,hH,hB,hz,q⟩:=h;cases rx;obtain⟨u,rfl,ru⟩:=rv.one;cases ru;obtain⟨z,aa,n,r,hl,e⟩:=I.lstM hH;obtain⟨z2,ao,n2,r2,eJ,e2⟩:=I.lstM hB;have hsz:aa.toArray.size+ao.toArray.size<=lA:=by rw[k8,k8];lia
 have bV:¬(!aa.toArray.isEmpty && oB (aa.toArray.size+ao.toArray.size))=uP:=by
  rw[notLongL hsz,Bool.and_false];exact mw
 refine call_meets F.slot_list_extend ⟨_,e,rfl⟩ F.entry_list_extend (F.args_list_extend_2 _ _)
  (AutoSeq1.list_extend_list_list_0 l aa.toArray n b ao.toArray n2 bV (by rw[k8];lia) (by lia)) ⟨e,e2,?_⟩
 refine⟨.non,_,I.lset (its':=aa++ao) hH e (by simp) (r.append r2) ?_,rfl,q⟩
 rw[lE];lia
def rCat:R2:=λx y H Q=>∃l b xs zs,x=.ref l/\y=.ref b/\H l=uN (.lst xs)/\H b=uN (.lst zs)/\xs.length+zs.length<=lA/\∀p,H p=uO->Q (.ref p) (upd H p (.lst (xs++zs)))
theorem zoI_:OpR X (m8 .Add) rCat:=by
 intro pins s σ H x y v u Q I rx ry h;obtain⟨l,b,xs,zs,rfl,rfl,hH,hB,hz,q⟩:=h;cases rx;cases ry;obtain⟨z,aa,n,r,hl,e⟩:=I.lstM hH;obtain⟨z2,ao,n2,r2,eJ,e2⟩:=I.lstM hB;refine PySem.P.add_list e e2 ?_ (by rw[k8,k8];lia)
 have ea:aa.toArray++ao.toArray=(aa++ao).toArray:=by simp
 rw[ea];exact⟨.ref _,_,I.lnew (t':=s.toks) (r.append r2) (by rw[lE];lia),rfl,q _ I.fresh⟩
def rRep:R2:=λx y H Q=>∃l k xs,x=.ref l/\y=.int k/\H l=uN (.lst xs) /\ -(2 ^ 63)<=k/\k<2 ^ 63/\xs.length*k.toNat<=lA /\
 ∀p,H p=uO->Q (.ref p) (upd H p (.lst (lJ k.toNat xs).flatten))
theorem zjc_ {α:Type}(xs:List α)(k:Nat):(lJ k xs).flatten.length=k*xs.length:=by
 induction k with
 |zero=>simp
 |succ k ih=>rw[mJ,nr,lE,ih,Nat.succ_mul,Nat.add_comm]
theorem zpW_:OpR X (m8 .Mult) rRep:=by
 intro pins s σ H x y v u Q I rx ry h;obtain⟨l,k,xs,rfl,rfl,hH,h1,h2,hz,q⟩:=h;cases rx;obtain⟨t,rfl⟩:=ry;obtain⟨z,aa,n,r,hl,e⟩:=I.lstM hH;have hlen:aa.toArray.size*k.toNat<=lA:=by rw[k8,<- hl];exact hz
 have gU:¬aa.toArray.size*k.toNat > (2 ^ 63-1) / 8:=by
  have:(lA:Nat)<=(2 ^ 63-1) / 8:=by decide
  lia
 have gO:¬(!Builtin.List.listFitsIndex k)=uP:=by
  rw[fitsIndex_both h1 h2];exact mw
 have bV:¬oB (aa.toArray.size*k.toNat)=uP:=by
  rw[notLongL hlen];exact mw
 have gE:qC (λx1 x2=>x1++x2) #[] (lJ (if aa.toArray.isEmpty=uP then 0 else k.toNat) aa.toArray)=(lJ k.toNat aa).flatten.toArray:=by
  have f0:∀m:Nat,qC (λx1 x2=>x1++x2) #[] (lJ m aa.toArray)=(lJ m aa).flatten.toArray:=λm=>by
   have:=zel_ aa m [];rw[nC]at this;exact this
  rw[f0];cases aa with
  |nil=>simp
  |cons a r'=>rw[if_neg (by simp)]
 refine wpAny_binaryOp_repeat_ref (T:="list") (U:="int") (by decide) ⟨_,e,rfl⟩ (λs'=>typeIs_int s' k t) noFill_list_mul F.fills_int_mul sr repeat_list F.slot_int_index.lookup
  (call_meets sr (typeIs_int s k t) F.entry_int_rmul (F.args_int_rmul_2 _ _) (int___rmul___int_list k t l aa.toArray n)
   ⟨e,rfl,⟨_,e,rfl⟩,call_meets F.slot_list_mul ⟨_,e,rfl⟩ F.entry_list_mul (F.args_list_mul_2 _ _) (AutoListH.list___mul___list_int_3 l aa.toArray n k t gO gU bV) ⟨e,?_⟩⟩)
 rw[gE];exact⟨.ref _,_,I.lnew (t':=s.toks) (r.rep k.toNat) (by rw[zjc_,rG];exact hz),rfl,q _ I.fresh⟩
end
end L2
namespace Att
open PySem PySem.W PySem.Calls PyProof.Rows
theorem zb8_ {P:Params}{h:Heap}:∀(ns:List Int) (vs:List aU),WellAll P h vs (ns.map WData.int)->IntsAre vs ns:=by
 intro ns;induction ns with
 |nil=>
  intro vs w;rw[nJ]at w;cases w;exact .nil
 |cons n ns ih=>
  intro vs w;rw[lj]at w;cases w with
  |cons a b=>
   cases a;exact .cons _ _ (ih _ b)
theorem zhF_ {l:OpenLaw}{n:Nat}(hn:l.most=uN n){P:Params}{h:Heap}{args:List WData}{vals:List aU}
  (cG:l.row.toRowW.claim.pre args=uP) (gr:WellAll P h vals args):
  ∃a vs ns,vals=[mE a]/\args=[WData.list (ns.map WData.int)]/\h.get? a=uN {cls:=.type "list",data:=.seq vs.toArray}/\IntsAre vs ns/\ns.length<=n:=by
 have jB:WShape.hasAll [] args [.list .int]=uP:=(pre_splitW cG).1;have hc:l.pre.holds [] {args:=args}=uP:=(pre_splitW cG).2;obtain⟨d,r,rfl,h1,h2⟩:=hasAllW_cons jB;obtain rfl:=hasAllW_nil h2;obtain⟨xs,rfl,h3⟩:=hasW_list h1;obtain⟨ns,rfl⟩:=items_int h3;have hlen:ns.length<=n:=by
  unfold OpenLaw.pre at hc;have h4:(WTm.not (.lt (.lit (.int (n:Int))) (.len (.arg 0)))).holds [] {args:=[.list (ns.map .int)]}=uP:=by
   have h4:=(holds_andW hc).1;rw[hn]at h4;exact h4
  have h5:=condW_of h4 (w_not (w_lt w_lit (w_len_list (w_arg rfl))));rw[kX]at h5;refine pL λq=>?_
  have q':(n:Int)<((ns.length:Nat):Int):=by lia
  first
   |(rw[decide_eq_true q']at h5;exact absurd h5 (by decide))
   |(simp at h5;lia)
 cases gr with
 |cons w1 w2=>
  cases w2;cases w1 with
  |list ho bB=>exact⟨_,_,ns,rfl,rfl,ho,zb8_ ns _ bB,hlen⟩
theorem zhq_ (l:OpenLaw)(args:List WData):l.row.toRowW.claim.post args (.bool uP) args=uP:=
 postW_of (r:=l.row.toRowW) (X:=(uP == uP))
  (show WShape.has [] (.bool uP) .bool=uP by first |rfl |decide |simp[WShape.has,WShape.arms,WShape.armsAll])
  (show(WTm.eq .res (.lit (.bool uP))).value [] {args:=args,res:=uN (.bool uP),after:=args}=uN (.bool (uP == uP))from w_eq_bool (w_res rfl) w_lit) rfl
section
end
end Att
namespace L2
open PySem PySem.Spec PyProof.Rows
theorem zaz_:∀{vs:List aU}{ns:List Int},IntsAre vs ns->Vals (ns.map V.int) vs
 |_,_,.nil=>.nil
 |_,_,.cons n t h=>.cons ⟨t,rfl⟩ (zaz_ h)
def Only (H:Hp):Prop:=∀b,H b=uO\/(∃o xs,H b=uN (.frz o (.lst xs)))\/∃p q,H b=uN (.tbl p q)
theorem zkA_ {P:lQ}{w:l9}{K:Fgg}{mg mb:Str->Option aU}{CX:CXT}{k:Nat}{fa a:k9}{fd:mO}{x:Str}{sp:Sp}{ab:kR}{vs:List aU}{ns:List Int}
  (KX:K.In ab.heap) (dP:ab.heap.Ns lH mg) (hb:ab.heap.Ns builtinsNs mb) (jU:∀x:Str,x ≠ "__name__" -> mb x=nH x) (gG:ab.heap.NoLimit) (jT:∃bm ob,mg "__builtins__"=uN (.ref bm)/\bm≠builtinsNs/\ab.heap.get? bm=uN ob/\ob.cls=.type "module" /\ ob.dict=uN builtinsNs/\ob.data=.plain) (hg:ab.gens=#[])
  (ha:ab.heap.get? a=uN {cls:=.type "list",data:=.seq vs.toArray}) (hi:IntsAre vs ns) (hl:ns.length<=lA) (hr:Room k callerA)
  (F:∀base:Heap,K.In base->base.Ns lH mg->FnOk P w K mg base CX k fa fd [x] sp) (e_:∀(s:kR) (u:aU),BindsTo s fd ⟨[u],[]⟩ [(x,u)])
  (dO:∀H:Hp,Only H->SqL K H a (ns.map V.int)->sp [.ref a] H (λv _=>v=.bl uP) λ_ _ _=>False)
  (gY:∀H e s',CX [] H ab (λ_ _ _=>False) e s'->False)
  (hT:∀Pt pos q,lamK K=uN (Pt,pos,q)->K.lookup Pt=uO/\isCodeTable ab.heap Pt/\ab.heap.get? Pt=uN {cls:=.none,data:=.fields #[]}):
  codeAny (model P w) callerA (.call (.ref fa) ⟨[.ref a],[]⟩) (λr s'=>r=.ok (.ret (.bool uP))/\OldK ab.heap s'.heap/\s'.os=ab.os/\AllBare s'.gens) ab:=by
 have rv:=zaz_ hi;have f_:=hi.length
 have core:∀H:Hp,Only H->SqL K H a (ns.map V.int)->HOk P w H ab.heap->Tb K H->(∀b,H b≠uO->b=a\/∃p q,lamK K=uN (b,p,q))->(H a≠uO->K.lookup a=uO) ->
   codeAny (model P w) callerA (.call (.ref fa) ⟨[.ref a],[]⟩) (λr s'=>r=.ok (.ret (.bool uP))/\OldK ab.heap s'.heap/\s'.os=ab.os/\AllBare s'.gens) ab:=by
  intro H hO hS hok jX hA hK;have aR:∀{b:k9}{o:sX},ab.heap.get? b=uN o->H b=uO->(hidT ab.heap H).get? b=uN o:=λe n=>zjr_ e n
  have cC:∀{b:k9}{o:sX}{es:Array DictEntry}{ep:Nat},ab.heap.get? b=uN o->o.data=.dict es ep->H b=uO:=λ{b o es ep} e d=>by
   cases q:H b with
   |none=>rfl
   |some u=>
    rcases hA b (by rw[q];simp)with e' |⟨p',q',e'⟩
    ·subst e'
     rw[ha]at e;cases e;have d':Data.seq vs.toArray _=Data.dict es ep:=d;cases d'
    ·have z:=(hT _ _ _ e').2.2
     rw[z]at e;cases e;cases d
  have fG:∀{b:k9}{m:Str->Option aU},ab.heap.Ns b m->(hidT ab.heap H).Ns b m:=λ{b m} ⟨o,es,ep,e,d,r⟩=>⟨o,es,ep,aR e (cC e d),d,r⟩
  have iQ:K.In (hidT ab.heap H):=λb o e=>aR (KX b o e) (by
   cases q:H b with
   |none=>rfl
   |some u=>
    rcases hA b (by rw[q];simp)with e' |⟨p',q',e'⟩
    ·subst e'
     rw[hK (by rw[q];simp)]at e;cases e
    ·rw[(hT _ _ _ e').1]at e;cases e)
  have hM:Mod K mg (hidT ab.heap H):=⟨iQ,fG dP,⟨mb,fG hb,jU⟩,let⟨mc,h1,h2⟩:=gG;⟨mc,fG h1,h2⟩,by
   obtain⟨bm,ob,b1,b2,b3,b4,b5,b6⟩:=jT;refine⟨bm,ob,b1,b2,aR b3 ?_,b4,b5,b6⟩;cases q:H bm with
   |none=>rfl
   |some u=>
    rcases hA bm (by rw[q];simp)with e' |⟨p',q',e'⟩
    ·subst e'
     rw[ha]at b3;cases b3;have z:rd "list"=rd "module":=b4;injection z with z;exact absurd z (by decide)
    ·have z:=(hT _ _ _ e').2.2
     rw[z]at b3;cases b3;cases b4⟩
  have e0:Env0 P w K mg (hidT ab.heap H) callerA [] ab H:=⟨rfl,hM,λb o e=>zm5_ e,qz (zip_ _ _),trivial,λb hb=>absurd (show b∈([]:List k9)from hb) (by simp),hok,.of_eq hg,jX⟩
  refine codeAny_mono ((F _ iQ (fG dP)).run callerA [] ab H ⟨[.ref a],[]⟩ [.ref a] [.ref a] _ _ hr e0 (e_ ab (.ref a)) (.cons rfl .nil) (dO H hO hS)) λr s' h=>?_
  cases r with
  |error e=>exact(gY H e s' h).elim
  |ok fl=>
   cases fl with
   |next=>exact lZ h
   |brk=>exact lZ h
   |cont=>exact lZ h
   |ret u=>
    obtain⟨v,H',os,bare,un,hok',r',q⟩:=h;have q':v=.bl uP:=q;subst q';obtain rfl:u=oW uP:=r';have both:∀b o,ab.heap.get? b=uN o->asItWas ab.heap s'.heap b o/\∃o',s'.heap.get? b=uN o':=λb o e=>by
     cases q:H b with
     |none=>
      have z:=un.keep b o e q (by intro z;exact absurd (show b∈([]:List k9)from z) (by simp)) (by simp)
      exact⟨.inl z,_,z⟩
     |some u=>
      rcases hO b with z |⟨ob,xs,z⟩|⟨p',q',z⟩
      ·rw[q]at z;cases z
      ·have z2:=un.frzs b ob _ z
       obtain⟨e1,_⟩:=hok b _ z;obtain⟨e2,_⟩:=hok' b _ z2;rw[e]at e1;cases e1;exact⟨.inl e2,_,e2⟩
      ·obtain⟨ps,e2,_⟩:=hok' b _ (un.tbls b p' q' z)
       rcases hA b (by rw[q];simp)with e' |⟨p1,q1,e'⟩
       ·subst e'
        obtain⟨ko,e3,_⟩:=hok b _ z;rw[ha]at e3;cases e3
       ·obtain⟨_,ht,e3⟩:=hT _ _ _ e'
        rw[e]at e3;cases e3;exact⟨.inr (.inl ⟨ht,rfl,#[],ps,rfl,by rw[Array.empty_append];exact e2⟩),_,e2⟩
    exact⟨rfl,⟨λb o e=>(both b o e).1,λb o e=>(both b o e).2⟩,os,bare⟩
 obtain⟨T,t1,t2,t3⟩:∃T:Hp,Tb K T/\(∀b u,T b=uN u->∃p q,lamK K=uN (b,p,q)/\u=.tbl p q)/\T a=uO:=by
  cases hq:lamK K with
  |none=>exact⟨λ_=>uO,λ_ _ _ e=>(by rw[hq]at e;cases e),λ_ _ e=>(by cases e),rfl⟩
  |some z=>
   obtain⟨Pt,pos,q⟩:=z;have na:a≠Pt:=λz=>by
    have e:=(hT _ _ _ hq).2.2;rw[<- z,ha]at e;cases e
   refine⟨λb=>if b=Pt then uN (.tbl pos q)else uO,λ_ _ _ e=>(by rw[hq]at e;cases e;exact if_pos rfl),λb u e=>?_,if_neg na⟩
   by_cases hb:b=Pt
   ·have e':=(if_pos hb).symm.trans e
    cases e';exact⟨pos,q,by rw[hb],rfl⟩
   ·have e':=(if_neg hb).symm.trans e
    cases e'
 have eF:∀(H:Hp) b p q,lamK K=uN (b,p,q)->ObjOk P w H ab.heap b (.tbl p q):=λH b p q e=>
  ⟨#[],(hT _ _ _ e).2.2,mN,λcv z=>by cases z⟩
 cases hk:K.lookup a with
 |some o=>
  have e:=KX a o hk;rw[ha]at e;cases e;refine core T (λb=>?_) (.inr ⟨_,vs.toArray,_,hk,rfl,rfl,rfl,by rw[k8,f_];exact hl,by simpa using rv⟩) (λb u z=>?_) t1 (λb z=>?_) λz=>absurd t3 z
  ·cases q:T b with
   |none=>exact .inl rfl
   |some u=>obtain⟨p',q',_,rfl⟩:=t2 b u q;exact .inr (.inr ⟨p',q',rfl⟩)
  ·obtain⟨p',q',e1,rfl⟩:=t2 b u z;exact eF _ _ _ _ e1
  ·cases q:T b with
   |none=>exact absurd q z
   |some u=>obtain⟨p',q',e1,rfl⟩:=t2 b u q;exact .inr ⟨p',q',e1⟩
 |none=>
  refine core (upd T a (.frz {cls:=.type "list",data:=.seq vs.toArray} (.lst (ns.map V.int)))) (λb=>?_) (.inl (.inr ⟨{cls:=.type "list",data:=.seq vs.toArray},ze_⟩)) (λb u z=>?_) (λp' pos q e=>?_) (λb z=>?_) λ_=>hk
  ·by_cases hb:b=a
   ·rw[hb];exact .inr (.inl ⟨_,_,ze_⟩)
   ·rw[zc_ hb]
    cases q:T b with
    |none=>exact .inl rfl
    |some u=>obtain⟨p',q',_,rfl⟩:=t2 b u q;exact .inr (.inr ⟨p',q',rfl⟩)
  ·by_cases hb:b=a
   ·subst hb
    rw[ze_]at z;cases z;exact⟨ha,by rw[kX];exact hl,vs,_,rv,ha⟩
   ·rw[zc_ hb]at z
    obtain⟨p',q',e1,rfl⟩:=t2 b u z;exact eF _ _ _ _ e1
  ·have z:=t1 p' pos q e
   rw[zc_ (λw=>by rw[w,t3]at z;cases z)];exact z
  ·by_cases hb:b=a
   ·exact .inl hb
   ·rw[zc_ hb]at z
    cases q:T b with
    |none=>exact absurd q z
    |some u=>obtain⟨p',q',e1,rfl⟩:=t2 b u q;exact .inr ⟨p',q',e1⟩
def lamOk (q:lQ)(K:Fgg):Bool:=match lamK K with
 |none=>uP
 |some (P,_,_)=>(K.lookup P).isNone && ((recsOf q).find? λe=>e.name==(ou "put_in_order")).isSome
theorem zl2_ {p:lQ}{K:Fgg}{h:Heap}{loose:List Str}{f9:ExcName->Option aU}{mg mb:Str->Option aU}(T:Top p loose f9 mg mb h)(X:K.In h)(hq:lamOk p K=uP):
  ∀Pt pos q,lamK K=uN (Pt,pos,q)->K.lookup Pt=uO/\isCodeTable h Pt/\h.get? Pt=uN {cls:=.none,data:=.fields #[]}:=λPt pos q e=>by
 unfold lamOk at hq;rw[e]at hq;obtain⟨h1,h2⟩:=l4.mp hq;obtain⟨d,hd⟩:=qg.mp h2;obtain⟨c,ht⟩:∃c,sG K "put_in_order"=uN (c,Pt):=by
  unfold lamK at e;split at e
  ·split at e
   ·split at e
    ·rename_i z;cases e;exact⟨_,z⟩
    ·cases e
   ·cases e
  ·cases e
 obtain⟨a,b⟩:=W.tab_of T X hd ht;exact⟨n6.mp h1,(a.tab b).isCodeTable,b⟩
noncomputable def inClass (s:mi)(j:Nat):mi:=match s with
 |.ClassDef _ _ _ body _ _ _ _ _ _ _=>body.getD j (.Pass ⟨0,0,0,0⟩)
 |_=>.Pass ⟨0,0,0,0⟩
noncomputable def defArgs (s:mi):Arguments:=match s with
 |.FunctionDef _ a _ _ _ _ _ _ _ _=>a
 |_=>{posonlyargs:=[],args:=[],vararg:=uO,kwonlyargs:=[],kw_defaults:=[],kwarg:=uO,defaults:=[]}
noncomputable def defBody (s:mi):List mi:=match s with
 |.FunctionDef _ _ b _ _ _ _ _ _ _=>b
 |_=>[]
noncomputable def defScope (s:mi):Scope:=match s with
 |.FunctionDef _ _ _ _ _ _ sc _ _ _=>sc
 |_=>{kind:=.function,names:=[],isGenerator:=uQ,isCoroutine:=uQ}
abbrev CX0:CXT:=λ_ _ _ _ _ _=>False
abbrev E0:XK:=λ_ _ _=>False
structure Fun (K:Fgg)(x qual:Str)(st:mi)(f:k9)(fd:mO):Prop where
 ex:∃(oc:aU) (od:Option k9) (kV doc pm:aU) (an:Option k9) (af ct:aU) (aq:Array (Option aU)),
  fd=W.fnOf x qual (defArgs st) (defBody st) (defScope st) .none kV doc pm an af ct/\K.lookup f=uN ⟨oc,od,.func fd,aq⟩/\pP K af qual=uP
 kp:oF K (.ref f)=uP
section
variable {K:Fgg}
theorem Fun.binds {x qual:Str}{st:mi}{f:k9}{fd:mO}{ps:List Str}(F:Fun K x qual st f fd)
  (h:∀(kV doc pm:aU) (an:Option k9) (af ct:aU) (us:List aU),us.length=ps.length->bindArgs (W.fnOf x qual (defArgs st) (defBody st) (defScope st) .none kV doc pm an af ct) ⟨us,[]⟩=pure (ps.zip us)):Binds K fd ps []:=by
 obtain⟨oc,od,kV,doc,pm,an,af,ct,aq,rfl,lk,aD⟩:=F.ex;exact .all (h kV doc pm an af ct)
theorem zmb_ {x qual:Str}{st:mi}{f:k9}{oc:aU}{od an:Option k9}{aq:Array (Option aU)}{kV doc pm af ct:aU}(l:K.lookup f=uN ⟨oc,od,.func (W.fnOf x qual (defArgs st) (defBody st) (defScope st) .none kV doc pm an af ct),aq⟩)
  (c:pP K af qual=uP) (k:oF K (.ref f)=uP):Fun K x qual st f (W.fnOf x qual (defArgs st) (defBody st) (defScope st) .none kV doc pm an af ct):=⟨⟨oc,od,kV,doc,pm,an,af,ct,aq,rfl,l,c⟩,k⟩
end
def Same (H H':Hp):Prop:=∀b o,H b=uN o->H' b=uN o
theorem Same.refl (H:Hp):Same H H:=λ_ _ h=>h
theorem Same.trans {H H1 H2:Hp}(a:Same H H1)(b:Same H1 H2):Same H H2:=λc o h=>b c o (a c o h)
theorem Same.free {H H':Hp}(e:Same H H'){l:k9}(h:H' l=uy):H l=uy:=by
 cases q:H l with
 |none=>rfl
 |some o=>
  rw[e l o q]at h;cases h
theorem Same.seq {K:Fgg}{H H':Hp}{a:k9}{xs:List V}(e:Same H H')(h:SqL K H a xs):SqL K H' a xs:=by
 rcases h with(h |⟨o,h⟩)|h
 ·exact .inl (.inl (e _ _ h))
 ·exact .inl (.inr ⟨o,e _ _ h⟩)
 ·exact .inr h
noncomputable def Itp (n:Nat)(f:Nat->V):It:=⟨λi _=>i<n,λi H x H'=>H'=H/\x=f i,λi _=>n<=i⟩
noncomputable def ownTups:List String:=["enumerate", "zip", "dict_itemiterator", "dict_reverseitemiterator", "odict_iterator", "itertools.zip_longest", "itertools.pairwise"]
theorem zho_ {P:lQ}{w:l9}{K:Fgg}{tg:lF}{it:k9}{n:Nat}{f:Nat->V}{Pw:Nat->aU->Prop}{St:Nat->Heap->Prop}
  (W:∀A:mh,A.handled=uO->Walks P w A it [it] [it] n Pw St) (hv:∀i v,i<n->Pw i v->RelV (f i) v)
  (ho:∀i h,St i h->∃o nm vs,h.get? it=uN o/\o.cls=.type nm/\o.data=.fields vs/\ownTups.contains nm=uQ)
  (eD:∀(A:mh) (i:Nat) (s:kR) (Q:aU->kR->Prop) (E:aU->kR->Prop),St i s.heap->Q (.ref it) s->lK (model P w) A (pyIter (.ref it)) Q E s)
  (eN:∀i h h',St i h->(∀b∈[it],∀o,h.get? b=uN o->h'.get? b=uN o)->St i h'):
  Turn P w K tg (Itp n f) [it] it (λi h=>i<=n/\St i h) where
 mem:=by simp
 obj:=λi h st b hb=>by
  have e:b=it:=by simpa using hb
  subst e;obtain⟨o,nm,vs,e,c,d,_⟩:=ho i h st.2;exact⟨o,e,λv z=>by rw[d]at z;cases z⟩
 keep:=λi h h' st k=>⟨st.1,eN i h h' st.2 k⟩
 item:=by
  intro X hP hw hK hc i pins s σ H E I hf st hg;subst hP hw hK;obtain⟨f0,f1,f2,f3,f4,f5⟩:=hf it (by simp)
  have hi:i<n:=hg;refine(W X.A (I.ok.hd hc)).item i s _ _ hi st.2 λv h' tk gy st' kk=>?_
  have I1:Inv X pins σ H {s with heap:=h',toks:=tk}:=I.turned (λb o hb e=>kk b o (by simpa using hb) e) f0 f1 f3 f4 f5
  obtain⟨o,nm,vs,e,c,d,hn⟩:=ho _ _ st';exact⟨_,rfl,znV_ (s:={s with heap:=h',toks:=tk}) (n:=nm) e c d hn ⟨f i,H,I1,hv i v hi gy,⟨rfl,rfl⟩,⟨hi,st'⟩,λb hb=>(hf b hb).1⟩⟩
 done:=by
  intro X hP hw hK hc i pins s σ H E I hf st hg;subst hP hw hK;obtain⟨f0,f1,f2,f3,f4,f5⟩:=hf it (by simp)
  have hi:n<=i:=hg;have e:i=n:=sv st.1 hi;subst e;exact(W X.A (I.ok.hd hc)).done s _ _ st.2 λh' tk kk=>⟨rfl,I.turned (λb o hb e=>kk b o (by simpa using hb) e) f0 f1 f3 f4 f5⟩
 self:=λA i s Q E st h=>eD A i s Q E st.2 h
noncomputable def sgn (x:Str)(i:Nat):V:=.str ⟨#[x.cps.getD i 0]⟩
theorem zhQ_ {P:lQ}{w:l9}{it:k9}{x:Str}{t:Tok}(A:mh)(hA:A.handled=uO):Walks P w A it [it] [it] x.cps.size (SignAt x) (λi h=>h.IsStrIter it (l7 x) x t i):=by
 cases ha:x.cps.all (·<128)
 ·have e:l7 x="str_iterator":=by simp[l7,ha]
  rw[e];exact Walks.strWide hA it x t
 ·have e:l7 x="str_ascii_iterator":=by simp[l7,ha]
  rw[e];exact Walks.strAscii hA it x t
theorem zbT_ {x:Str}{i:Nat}{v:aU}(h:SignAt x i v):RelV (sgn x i) v:=by
 obtain⟨c,u,e,rfl⟩:=h;refine⟨u,?_⟩;have:x.cps.getD i 0=c:=by simp[mM,e]
 rw[this]
theorem zcI_ (x:Str):ownTups.contains (l7 x)=uQ:=by
 unfold l7;split<;>decide
theorem zjI_ {P:lQ}{w:l9}{K:Fgg}{tg:lF}(it:k9)(x:Str)(t:Tok):Turn P w K tg (Itp x.cps.size (sgn x)) [it] it (λi h=>i<=x.cps.size/\h.IsStrIter it (l7 x) x t i):=by
 refine zho_ (Pw:=SignAt x) (λA hA=>zhQ_ A hA) (λi v _ h=>zbT_ h) (λi h st=>?_) (λA i s Q E st h=>?_) (λi h h' st k=>?_)
 ·obtain⟨o,e,c,d⟩:=st
  exact⟨o,_,_,e,c,d,zcI_ x⟩
 ·cases ha:x.cps.all (·<128)
  ·have e:l7 x="str_iterator":=by simp[l7,ha]
   rw[e]at st;exact wpAny_pyIter_striter_wide st h
  ·have e:l7 x="str_ascii_iterator":=by simp[l7,ha]
   rw[e]at st;exact wpAny_pyIter_striter_ascii st h
 ·obtain⟨o,e,r⟩:=st
  exact⟨o,k it (by simp) o e,r⟩
section
end
theorem Inv.turnedL {X:Cx}{pins:Pnn}{σ:St}{H:Hp}{s:kR}{h':Heap}{t':Nat}{ch:List k9}(I:Inv X pins σ H s)(k:∀b o,b∉ch->s.heap.get? b=uN o->h'.get? b=uN o)
  (hf:∀b∈ch,FpOk X pins H b):Inv X pins σ H {s with heap:=h',toks:=t'}:=by
 have d5:∀b u,H b=uN u->b∉ch:=λb u e z=>by rw[(hf b z).1]at e;cases e
 refine I.step (g':=s.gens) (d':=s.drawn) (ch:=ch) (λb hb=>?_) (λb o _ _ hc e _=>k b o hc e) (λb o _ _ hc e _=>⟨o.slots,k b o hc e⟩) (λ_ _ _ _ n=>n)
  (λb o hc e=>⟨o,k b o hc e⟩) (λ_ _ e=>e) (λ_ _ _ e=>e) (λ_ _ _ e=>e) (λm hm=>?_) (λb u e=>?_) I.bare
 ·obtain⟨f0,f1,f2,f3,f4,f5⟩:=hf b hb
  exact⟨f3,f1,f4,f5⟩
 ·obtain⟨o,es,ep,ho,r⟩:=hm
  exact⟨o,es,ep,k _ o (λz=>(hf _ z).2.1 rfl) ho,r⟩
 ·refine(I.hok b u e).stay (λc v hc q=>k c v ?_ q) (λ_ q=>q) λ_ _ q=>q
  rcases hc with z |z
  ·rw[z];exact d5 b u e
  ·exact d5 c _ z
theorem zeg_ {X:Cx}{pins:Pnn}{σ:St}{H:Hp}{s:kR}{h1:Heap}{tk:Nat}{fB:Tok}{e it:k9}{i:Nat}{x:aU}{y:V}{St:Heap->Prop}{elts:List lF}{kk:Nat}{pos:Pos}{E:aU->kR->Prop}
  (I:Inv X pins σ H s) (hf:∀b∈[e,it],FpOk X pins H b) (he:e<s.heap.objs.size) (hit:it<s.heap.objs.size) (cJ:e≠it) (bH:IsEnumOut h1 e it ((i:Int)+1) x s.heap.objs.size) (ry:RelV y x)
  (ht:h1.get? s.heap.objs.size=uN {cls:=.type "tuple",data:=.seq #[.int i fB,x]}) (hz:h1.objs.size=s.heap.objs.size+1) (hk:∀b o,b≠e->b≠it->s.heap.get? b=uN o->h1.get? b=uN o)
  (jY:∀h2,o6 e h1 h2->St h2):
  lK (model X.prog X.w) X.A (letOwnedTupleGo (.Tuple elts kk pos) (.ref e) (.ref s.heap.objs.size)) (λ_ s2=>∃z H',Inv X pins σ H' s2/\RelV z (.ref s.heap.objs.size) /\
   (∃p,H p=uO/\z=.ref p/\H'=upd H p (.tup [.int i,y]))/\(IsEnum s2.heap e it ((i+1:Nat):Int) x/\St s2.heap)/\∀b∈[e,it],H' b=uO) E {s with heap:=h1,toks:=tk}:=by
 refine wpAny_letOwnedTupleGo_enum bH λh2 eU aQ=>?_
 replace aQ:o6 e h1 h2:=aQ;have hp:H s.heap.objs.size=uO:=I.hok.fresh (kZ _);have eG:s.heap.objs.size≠e:=oH he;have jI:s.heap.objs.size≠it:=oH hit;have I1:Inv X pins σ (upd H s.heap.objs.size (.tup [.int i,y])) {s with heap:=s.heap.push {cls:=.type "tuple",data:=.seq #[.int i fB,x]},toks:=tk}:=by
  refine I.laid (λb u q=>kQ _ q) (kZ _) ⟨?_,[.int i fB,x],.cons ⟨_,rfl⟩ (.cons ry .nil),⟨_,lC _ rfl,rfl,_,rfl⟩⟩
  show 2<=lA
  decide
 have eR:∀b∈[e,it],FpOk X pins (upd H s.heap.objs.size (.tup [.int i,y])) b:=λb hb=>by
  obtain⟨f0,r⟩:=hf b hb;refine⟨?_,r⟩;rw[zc_ (by rcases lI.mp hb with rfl |hb;exact eG.symm;rcases lI.mp hb with rfl |hb;exact jI.symm;cases hb)]
  exact f0
 have I2:Inv X pins σ (upd H s.heap.objs.size (.tup [.int i,y])) {s with heap:=h2,toks:=tk}:=by
  refine Inv.turnedL (s:={s with heap:=s.heap.push {cls:=.type "tuple",data:=.seq #[.int i fB,x]},toks:=tk}) (ch:=[e,it]) I1 (λb o hb q=>?_) eR
  have iB:b≠e:=λz=>hb (by simp[z])
  have je:b≠it:=λz=>hb (by simp[z])
  refine(aQ.2 b iB).trans ?_;rcases qP q with⟨rfl,rfl⟩|q'
  ·exact ht
  ·exact hk b o iB je q'
 refine⟨.ref s.heap.objs.size,_,I2,rfl,⟨s.heap.objs.size,hp,rfl,rfl⟩,⟨?_,jY h2 aQ⟩,λb hb=>(eR b hb).1⟩
 have:((i+1:Nat):Int)=(i:Int)+1:=by push_cast;rfl
 rw[this];exact eU
def Ite (K:Fgg)(l:k9):It:=
 ⟨λi H=>∃xs x,SqL K H l xs/\xs[i]?=uN x,λi H y H'=>∃p x,(∀xs,SqL K H l xs->xs[i]?=uN x)/\H p=uO/\y=.ref p/\H'=upd H p (.tup [.int i,x]),λi H=>∃xs,SqL K H l xs/\xs.length<=i⟩
theorem zfs_ {P:lQ}{w:l9}{K:Fgg}{elts:List lF}{kk:Nat}{pos:Pos}(e it l:k9)(cJ:e≠it):
  Turn P w K (.Tuple elts kk pos) (Ite K l) [e,it] e (λi h=>(∃old,IsEnum h e it (i:Nat) old)/\h.IsListIter it l i) where
 mem:=by simp
 obj:=λi h st b hb=>by
  obtain⟨⟨old,he⟩,o,ho,c,d⟩:=st;rcases lI.mp hb with rfl |hb
  ·exact⟨_,he,λv z=>by cases z⟩
  ·have e:b=it:=by simpa using hb
   subst e;exact⟨o,ho,λv z=>by rw[d]at z;cases z⟩
 keep:=λi h h' st k=>by
  obtain⟨⟨old,he⟩,hit⟩:=st;exact⟨⟨old,k e (by simp) _ he⟩,hit.at λo q=>k it (by simp) o q⟩
 item:=by
  intro X hP hw hK hc i pins s σ H E I hf st hg;subst hP hw hK;obtain⟨xs,x,hq,hx⟩:=hg;obtain⟨aa,rv,p,hz⟩:=I.list hq;obtain⟨u,hu,ru⟩:=rv.get hx;obtain⟨⟨old,he⟩,hit⟩:=st;refine wpAny_pyNext_enum_item he hit p.isList (x:=u) (by simpa using hu) cJ λh1 bH dq gz gq eO=>?_
  refine⟨_,rfl,?_⟩;have gR:e<s.heap.objs.size:=lh he;have hil:it<s.heap.objs.size:=by obtain⟨o,ho,_⟩:=id hit;exact lh ho
  refine thn (zeg_ (St:=λh2=>h2.IsListIter it l (i+1)) I hf gR hil cJ bH ru gz gq eO λh2 hs=>dq.extBut hs.extBut cJ.symm) λ_ s2 q=>?_
  obtain⟨z,H',I2,rz,⟨p,hp,rfl,rfl⟩,⟨eU,hit2⟩,fr⟩:=q;exact⟨.ref p,_,I2,rz,⟨p,x,λys hy=>by rw[I.list_inj hy hq];exact hx,hp,rfl,rfl⟩,⟨⟨u,eU⟩,hit2⟩,fr⟩
 done:=by
  intro X hP hw hK hc i pins s σ H E I hf st hg;subst hP hw hK;obtain⟨xs,hq,hx⟩:=hg;obtain⟨aa,rv,p,hz⟩:=I.list hq;obtain⟨⟨old,he⟩,hit⟩:=st;have hl:=rv.length;obtain⟨f0,f1,f2,f3,f4,f5⟩:=hf it (by simp)
  exact wpAny_pyNext_enum_end (I.ok.hd hc) he hit p.isList (by simp;lia) λh' eb=>⟨rfl,I.turned (t':=s.toks) (λb o hb e=>eb b o hb e) f0 f1 f3 f4 f5⟩
 self:=λ_ _ _ _ _ st h=>by
  obtain⟨⟨old,he⟩,_⟩:=st;exact wpAny_pyIter_enum he h
theorem zbF_ {P:lQ}{w:l9}{it:k9}{x:Str}{t:Tok}(A:mh)(hA:A.handled=uO):Draws P w A it [it] x.cps.size (λi v=>∃c u,x.cps[i]?=uN c/\v=.str ⟨#[c]⟩ u) (λi h=>h.IsStrIter it (l7 x) x t i):=by
 cases ha:x.cps.all (·<128)
 ·have e:l7 x="str_iterator":=by simp[l7,ha]
  rw[e];exact Draws.strWide hA it x t
 ·have e:l7 x="str_ascii_iterator":=by simp[l7,ha]
  rw[e];exact Draws.strAscii hA it x t
def Ites (n:Nat)(f:Nat->V):It:=
 ⟨λi _=>i<n,λi H y H'=>∃p,H p=uO/\y=.ref p/\H'=upd H p (.tup [.int i,f i]),λi _=>n<=i⟩
theorem zgE_ {P:lQ}{w:l9}{K:Fgg}{elts:List lF}{kk:Nat}{pos:Pos}(e it:k9)(x:Str)(t:Tok)(cJ:e≠it):
  Turn P w K (.Tuple elts kk pos) (Ites x.cps.size (sgn x)) [e,it] e (λi h=>(∃old,IsEnum h e it (i:Nat) old)/\i<=x.cps.size/\h.IsStrIter it (l7 x) x t i) where
 mem:=by simp
 obj:=λi h st b hb=>by
  obtain⟨⟨old,he⟩,_,o,ho,c,d⟩:=st;rcases lI.mp hb with rfl |hb
  ·exact⟨_,he,λv z=>by cases z⟩
  ·have e:b=it:=by simpa using hb
   subst e;exact⟨o,ho,λv z=>by rw[d]at z;cases z⟩
 keep:=λi h h' st k=>by
  obtain⟨⟨old,he⟩,hn,o,ho,r⟩:=st;exact⟨⟨old,k e (by simp) _ he⟩,hn,o,k it (by simp) o ho,r⟩
 item:=by
  intro X hP hw hK hc i pins s σ H E I hf st hg;subst hP hw hK;obtain⟨⟨old,he⟩,hn,hit⟩:=st;have hi:i<x.cps.size:=hg;refine wpAny_pyNext_enum_itemD (zbF_ X.A.in1 (I.ok.hd hc)) he hit hi cJ (by simpa using cJ) λu h1 tk hP bH dq gz gq eO=>?_
  refine⟨_,rfl,?_⟩;have gR:e<s.heap.objs.size:=lh he;have hil:it<s.heap.objs.size:=by obtain⟨o,ho,_⟩:=id hit;exact lh ho
  have ru:RelV (sgn x i) u:=zbT_ hP;refine thn (zeg_ (St:=λh2=>h2.IsStrIter it (l7 x) x t (i+1)) I hf gR hil cJ bH ru gz gq eO λh2 hs=>?_) λ_ s2 q=>?_
  ·obtain⟨o,ho,r⟩:=dq
   exact⟨o,(hs.2 it cJ.symm).trans ho,r⟩
  ·obtain⟨z,H',I2,rz,⟨p,hp,rfl,rfl⟩,⟨eU,hit2⟩,fr⟩:=q
   exact⟨.ref p,_,I2,rz,⟨p,hp,rfl,rfl⟩,⟨⟨u,eU⟩,hi,hit2⟩,fr⟩
 done:=by
  intro X hP hw hK hc i pins s σ H E I hf st hg;subst hP hw hK;obtain⟨⟨old,he⟩,hn,hit⟩:=st;have hi:x.cps.size<=i:=hg;have ei:i=x.cps.size:=sv hn hi;subst ei;obtain⟨f0,f1,f2,f3,f4,f5⟩:=hf it (by simp)
  exact wpAny_pyNext_enum_endD (zbF_ X.A.in1 (I.ok.hd hc)) he hit λh' eb=>⟨rfl,I.turned (t':=s.toks) (λb o hb e=>eb b o hb e) f0 f1 f3 f4 f5⟩
 self:=λ_ _ _ _ _ st h=>by
  obtain⟨⟨old,he⟩,_⟩:=st;exact wpAny_pyIter_enum he h
section
variable {prog:lQ}{w:l9}{A:mh}{R:Result->kR->Prop}{s:kR}
theorem zfa_ {elt target iter:lF}{ifs:List lF}{scope:Scope}{pos:Pos}{it acc:aU}{env:Env}(I:Nat->kR->Prop)
  (turn:∀n s,I n s->lK (model prog w) A (pyNext it) (λr ab=>match r with
   |none=>R (.ok .next) ab
   | some v=>lK (model prog w) A (letOwnedTupleGo target it v) (λ_ aO=>lK (model prog w) A (assign target env v) (λ_ ay=>
     lK (model prog w) A (forIn ifs uP λc r=>if r=uP then do let ok <- isTrue c env (eval c env);pure (ForInStep.yield ok)else pure (ForInStep.yield r)) (λok bL=>
      if ok=uP then lK (model prog w) A (eval elt env) (λx dU=>
       lK (model prog w) A (call (.builtin "list.append") [acc,x]) (λ_ dS=>∃m,m<n/\I m dS) (λ_ _=>False) dU) (λ_ _=>False) bL
      else∃m,m<n/\I m bL) (λ_ _=>False) ay) (λ_ _=>False) aO) (λ_ _=>False) ab) (λ_ _=>False) s)
  (n:Nat) (h:I n s):
  codeAny (model prog w) A (.compLoop (.ListComp elt [⟨target,iter,ifs,0⟩] scope pos) 0 it acc env) R s:=by
 refine codeAny_loop rfl I (λn s hI=>?_) n h
 show lK _ A ((compTurn (.ListComp elt [⟨target,iter,ifs,0⟩] scope pos) 0 it acc env).onRaise (λx=>do noteFrame x env;theTreesLotGoes x)) _ _ s
 refine wpAny_noted ?_;rw[compTurn_list];refine kP (wpAny_standAt (kP (mK (turn n s hI) (λr ab az=>?_) λ_ _ h'=>h'.elim)))
 cases r with
 |none=>exact lB az
 |some v=>
  refine kP (mK az (λ_ aO bT=>?_) λ_ _ h'=>h'.elim)
  refine kP (mK bT (λ_ ay bS=>kP (mK bS (λok bL eo=>?_) λ_ _ h'=>h'.elim)) λ_ _ h'=>h'.elim)
  cases ok with
  |false=>exact lB ⟨rfl,eo⟩
  |true=>
   exact kP (kP (mK eo (λx dU gm=>kP (mK gm (λ_ dS gj=>lB (lB ⟨rfl,gj⟩)) λ_ _ h'=>h'.elim)) λ_ _ h'=>h'.elim))
end
noncomputable def closeL (cells:List (Str×k9)):List (Str×nU)->List (Str×k9)->Option (List (Str×k9))
 |[],acc=>uN acc
 |(n,k)::r,acc=>if(k == .free)=uP then(match cells.lookup n with |some c=>closeL cells r ((n,c)::acc)|none=>uO)else closeL cells r acc
theorem zbI_ {env:Env}{f:Str×nU->List (Str×k9)->Sem (ForInStep (List (Str×k9)))}
  (hf:∀n k cs,f (n,k) cs=if(k == NameKind.free)=uP then(do let c <- cellOf env n;pure (ForInStep.yield ((n,c)::cs)))else pure (ForInStep.yield cs)):
  ∀(names:List (Str×nU)) (acc cl:List (Str×k9)),closeL env.cells names acc=uN cl->(forIn names acc f:Sem (List (Str×k9)))=pure cl
 |[],acc,cl,h=>by cases h;rfl
 |(n,k)::r,acc,cl,h=>by
  rw[qK,hf];unfold closeL at h;by_cases hk:(k == NameKind.free)=uP
  ·rw[if_pos hk]at h
   rw[if_pos hk];cases hc:env.cells.lookup n with
   |none=>rw[hc]at h;cases h
   |some c=>
    rw[hc]at h;have e:cellOf env n=pure c:=by unfold cellOf;rw[hc]
    rw[e];simp only[pure_bind];exact zbI_ hf r _ cl h
  ·rw[if_neg hk]at h
   rw[if_neg hk];simp only[pure_bind];exact zbI_ hf r _ cl h
theorem zbE_ {env:Env}{scope:Scope}{cl:List (Str×k9)}(h:closeL env.cells scope.names []=uN cl):closureFor scope env=pure cl:=by
 unfold closureFor;dsimp only;rw[zbI_ (env:=env) (λn k cs=>rfl) scope.names [] cl h]
 rfl
theorem zae_ {cells:List (Str×k9)}:∀(names:List (Str×nU)) (acc cl:List (Str×k9)),closeL cells names acc=uN cl->(∀x c,acc.lookup x=uN c->cells.lookup x=uN c) ->
  (∀x c,cl.lookup x=uN c->cells.lookup x=uN c)
 |[],acc,cl,h,ha=>by cases h;exact ha
 |(n,k)::r,acc,cl,h,ha=>by
  unfold closeL at h;by_cases hk:(k == NameKind.free)=uP
  ·rw[if_pos hk]at h
   cases hc:cells.lookup n with
   |none=>rw[hc]at h;cases h
   |some c=>
    rw[hc]at h;refine zae_ r _ cl h λx c' e=>?_
    rw[pM]at e;cases hx:x == n with
    |true=>rw[hx]at e;cases e;rw[eq_of_beq hx];exact hc
    |false=>rw[hx]at e;exact ha x c' e
  ·rw[if_neg hk]at h
   exact zae_ r _ cl h ha
theorem zV_ {cells:List (Str×k9)}:∀(names:List (Str×nU)) (acc cl:List (Str×k9)),closeL cells names acc=uN cl->∀x,((x,NameKind.free)∈names\/∃c,acc.lookup x=uN c)->∃c,cl.lookup x=uN c
 |[],acc,cl,h,x,hx=>by
  cases h;rcases hx with hx |hx
  ·cases hx
  ·exact hx
 |(n,k)::r,acc,cl,h,x,hx=>by
  unfold closeL at h;by_cases hk:(k == NameKind.free)=uP
  ·rw[if_pos hk]at h
   cases hc:cells.lookup n with
   |none=>rw[hc]at h;cases h
   |some c=>
    rw[hc]at h;refine zV_ r _ cl h x ?_;rcases hx with hx |⟨c',e⟩
    ·rcases lI.mp hx with e |hx
     ·cases e;exact .inr ⟨c,by rw[pM,beq_self_eq_true]⟩
     ·exact .inl hx
    ·refine .inr ?_
     rw[pM];cases hxn:x == n with
     |true=>exact⟨c,rfl⟩
     |false=>exact⟨c',e⟩
  ·rw[if_neg hk]at h
   refine zV_ r _ cl h x ?_;rcases hx with hx |hx
   ·rcases lI.mp hx with e |hx
    ·cases e;exact absurd rfl hk
    ·exact .inl hx
   ·exact .inr hx
theorem zaC_ {scope:Scope}{env:Env}{x:Str}{k:nU}(h:(relabel scope env).names.lookup x=uN k)(hk:k=.cell\/k=.free)(bu:∀y∈scope.names,y.2≠.cell):(x,NameKind.free)∈scope.names:=by
 have m:=ml h;obtain⟨⟨n,k0⟩,hm,e⟩:=nL.mp m;dsimp only at e;split at e
 ·rename_i hc
  cases e;have:k0=.free:=by
   simp only[kJ,beq_iff_eq]at hc;exact hc.1.1
  subst this;exact hm
 ·cases e
  rcases hk with rfl |rfl
  ·exact absurd rfl (bu _ hm)
  ·exact hm
def cxComp (X:Cx)(scope:Scope)(cl:List (Str×k9))(C:k9)(N:List Str)(fp:List k9)(s2:kR)(H2:Hp):Cx where
 prog:=X.prog
 w:=X.w
 K:=X.K
 mg:=X.mg
 base:=X.base
 A:=X.A
 N:=N
 s₀:=s2
 H₀:=H2
 env:=compEnvC scope cl C X.env
 outer:=X.stack
 stack:=X.stack
 ex:=fp
 fn:=λ_=>uQ
 calm:=X.calm
 pn:=[]
 xe:=λ_ _=>False
structure CScope (X:Cx)(scope:Scope)(cl:List (Str×k9))(lv:List Str)(fr:List (Str×Nat)):Prop where
 clos:closeL X.env.cells scope.names []=uN cl
 cell:∀y∈scope.names,y.2≠.cell
 kind:scope.kind=.function
 names:∀z∈scope.names,z.2=.local->scope.names.lookup z.1=uN .local
 fr:∀q∈fr,X.N[q.2]?=uN q.1/\(q.1,NameKind.free)∈scope.names/\(X.env.kindOf q.1=uN .cell\/X.env.kindOf q.1=uN .free) /\
  ((relabel scope X.env).names.lookup q.1=uN .cell\/(relabel scope X.env).names.lookup q.1=uN .free)
noncomputable def cN (lv:List Str)(fr:List (Str×Nat)):List Str:=lv++fr.map (·.1)
def cS (lv:List Str)(fr:List (Str×Nat))(σ:St):St:=lv.map (λ_=>uO)++fr.map λq=>(σ[q.2]?).join
theorem zjp_ {X:Cx}{pins:Pnn}{σ:St}{H2:Hp}{s2:kR}{scope:Scope}{cl:List (Str×k9)}{lv:List Str}{fr:List (Str×Nat)}{fp:List k9}{h4:Heap}{tk:Nat}{m:Str->Option aU}{n:Nat}
  (I:Inv X pins σ H2 s2) (S:CScope X scope cl lv fr) (hf:∀b∈fp,FpOk X pins H2 b) (aC:∀b∈fp,b<s2.heap.objs.size) (hC:h4.Ns (s2.heap.objs.size+1) m) (hD:h4.get? s2.heap.objs.size=uN {cls:=.type "list",data:=.seq #[] n})
  (hk:∀b o,s2.heap.get? b=uN o->h4.get? b=uN o):
  Inv (cxComp X scope cl (s2.heap.objs.size+1) (cN lv fr) fp s2 H2) [] (cS lv fr σ) (upd H2 s2.heap.objs.size (.lst [])) {s2 with heap:=h4,toks:=tk}:=by
 have aS:=zae_ scope.names [] cl S.clos (λx c e=>by cases e)
 have bY:=zV_ scope.names [] cl S.clos;have fR:H2 s2.heap.objs.size=uO:=I.hok.fresh (kZ _);have fT:H2 (s2.heap.objs.size+1)=uO:=I.hok.fresh (ot _);have j5:s2.heap.objs.size+1≠s2.heap.objs.size:=oH (o7 _);have j7:∀b∈fp,(b∈X.ex\/X.s₀.heap.objs.size<=b):=λb hb=>(hf b hb).2.2.2.1
 have dF:∀x c,cl.lookup x=uN c->c<s2.heap.objs.size:=λx c e=>by
  obtain⟨v,o,ho,_⟩:=I.cell x c (aS x c e);exact lh ho
 refine⟨⟨I.ok.mod,S.kind,I.ok.glob,I.ok.blt,ot _,λx y c h1 h2=>I.ok.inj x y c (aS x c h1) (aS y c h2),λx hx=>?_,λx c du=>(by cases du),I.ok.hd,I.ok.frames,.inl rfl,λb hb=>?_,I.bs,mq I.ok.bsz I.sz,λb o e hb=>?_,λb hb z=>?_,I.stack,I.stkFree,I.tb⟩,
  rfl,I.bare,?_,⟨m,hC,λi x v h1 h2 h3=>?_⟩,λx c e=>?_,?_,λx c e=>?_,λp hp=>absurd (show p∈([]:Pnn)from hp) (by simp),?_,?_⟩
 ·-- has
  have jq:(relabel scope X.env).names.lookup x=uN .cell\/(relabel scope X.env).names.lookup x=uN .free:=hx;have hm:(x,NameKind.free)∈scope.names:=jq.elim (λz=>zaC_ z (.inl rfl) S.cell) λz=>zaC_ z (.inr rfl) S.cell
  exact bY x (.inl hm)
 ·-- exf
  obtain⟨f0,f1,f2,f3,f4,f5⟩:=hf b hb;refine⟨λz=>?_,λx c e=>f4 x c (aS x c e)⟩
  have z':b=s2.heap.objs.size+1:=z;have:=aC b hb;rw[z']at this;exact absurd this (Nat.not_lt.mpr (ot _))
 ·rcases j7 b hb with z |z
  ·exact I.ok.noex b o e z
  ·exact absurd (lG (lG (lh e) I.ok.bsz) z) (oT _)
 ·obtain⟨f0,f1,f2,_⟩:=hf b hb
  rcases lI.mp (I.stkSub b z)with q |q
  ·exact f1 q
  ·exact f2 q
 ·exact Un.laid hk (kZ _) fR
 ·-- loc
  have h1':(lv++fr.map (·.1))[i]?=uN x:=h1;have aK:(lv.map (λ_=>uO)++fr.map λq=>(σ[q.2]?).join:St)[i]?=uN (uN v):=h2
  by_cases hi:i<lv.length
  ·rw[mS (by simpa using hi),lu]at aK
   cases hq:lv[i]? with
   |none=>rw[hq]at aK;cases aK
   |some z=>rw[hq]at aK;cases aK
  ·rw [mP (by simpa using hi),lu]at aK
   rw[mP (by lia),lu]at h1'
   simp only[kX]at aK;cases hq:fr[i-lv.length]? with
   |none=>rw[hq]at h1';cases h1'
   |some q=>
    rw[hq]at h1' aK;have e1:q.1=x:=lX h1';have e2:(σ[q.2]?).join=uN v:=lX aK;have e3:σ[q.2]?=uN (uN v):=by
     cases hz:σ[q.2]? with
     |none=>rw[hz]at e2;cases e2
     |some z=>rw[hz]at e2;exact congrArg uN e2
    obtain⟨g1,g2,g3,g4⟩:=S.fr q (mV hq);obtain⟨m0,hn0,di⟩:=I.loc;have fW:Vis X.env.scope q.1:=by
     rcases g3 with g3 |g3
     ·exact .inr (.inl g3)
     ·exact .inr (.inr g3)
    obtain⟨u,r,l⟩:=di q.2 q.1 v g1 e3 fW;refine⟨u,r,.inr ⟨?_,?_⟩⟩
    ·rw[<- e1];exact g4
    ·rcases l with⟨lk,_⟩|⟨_,c,ec,ic⟩
     ·rcases g3 with g3 |g3<;>(rw[lk]at g3;cases g3)
     ·obtain⟨c',ec'⟩:=bY q.1 (.inl g2)
      have:c'=c:=by
       have:=aS q.1 c' ec';rw[ec]at this;exact(lX this).symm
      subst this;obtain⟨o,ho,hd⟩:=ic;exact⟨c',by rw[<- e1];exact ec',o,hk _ _ ho,hd⟩
 ·obtain⟨v,o,ho,hd⟩:=I.cell x c (aS x c e)
  exact⟨v,o,hk _ _ ho,hd⟩
 ·show upd H2 _ _ (s2.heap.objs.size+1)=uO
  rw[zc_ j5];exact fT
 ·have:=dF x c e
  rw[zc_ (lN this)];exact I.freeC x c (aS x c e)
 ·exact I.hok.laid hk (kZ _) ⟨me _,[],n,.nil,hD⟩
 ·show(cS lv fr σ).length=(cN lv fr).length
  simp[cS,cN]
def PIf (X:Cx)(ifs:List lF)(t:TT):Prop:=
 ∀(pins:Pnn) (s:kR) (σ:St) (H:Hp) (Q:Bool->Hp->Prop),Inv X pins σ H s->t σ H Q ->
  lK (model X.prog X.w) X.A (forIn ifs uP λc r=>if r=uP then do let ok <- isTrue c X.env (eval c X.env);pure (ForInStep.yield ok)else pure (ForInStep.yield r)) (TP X pins σ Q) X.xe s
def tTrue:TT:=λ_ H Q=>Q uP H
theorem zlE_ {X:Cx}:PIf X [] tTrue:=λpins s σ H Q I h=>wpAny_tests_nil ⟨H,I,h⟩
theorem zmA_ {X:Cx}{c:lF}{t:TT}(h:PT X c t):PIf X [c] t:=λpins s σ H Q I hw=>wpAny_tests_one (h pins s σ H Q I hw)
def tCompR (J:It)(g:TG)(tt:TT)(te:TE)(i0:St)(H1:Hp)(Q:VK):Prop:=
 ∀ D,H1 D=uO->∃W:Nat->Nat->List V->St->Hp->Prop,(∃m,W 0 m [] i0 (upd H1 D (.lst [])))/\∀i m ys σ H,W i m ys σ H ->
  (J.stop i H/\Q (.ref D) H)\/(J.go i H/\∃N:List V->St->Hp->Prop,(∀cz ah H',N cz ah H'->∃m',m'<m/\W (i+1) m' cz ah H') /\
   ∀x H',J.yld i H x H'->g x σ H' λdG H2=>tt dG H2 λb H3=>if b=uP then te dG H3 λv H4=>H4 D=uN (.lst ys)/\ys.length<lA/\N (ys++[v]) dG (upd H4 D (.lst (ys++[v])))else N ys dG H3)
section
variable {X:Cx}{scope:Scope}{cl:List (Str×k9)}{lv:List Str}{fr:List (Str×Nat)}{elt tg iter:lF}{ifs:List lF}{pos:Pos}{g:TG}{tt:TT}{te:TE}
theorem zcV_ {pins:Pnn}{σ:St}{H2:Hp}{s2:kR}{it:k9}{fp:List k9}{tn:Nat->Heap->Prop}{J:It}{Q:VK}{E:aU->kR->Prop}{use:Option (aU->Sem Unit)}{Q':aU->kR->Prop}
  (I:Inv X pins σ H2 s2) (S:CScope X scope cl lv fr) (T:Turn X.prog X.w X.K tg J fp it tn) (st:tn 0 s2.heap) (hf:∀b∈fp,FpOk X pins H2 b) (hc:X.calm=uP)
  (hg:∀C fp s2 H2,PG (cxComp X scope cl C (cN lv fr) fp s2 H2) tg g) (ht:∀C fp s2 H2,PIf (cxComp X scope cl C (cN lv fr) fp s2 H2) ifs tt) (he:∀C fp s2 H2,PE (cxComp X scope cl C (cN lv fr) fp s2 H2) elt te)
  (hq:tCompR J g tt te (cS lv fr σ) H2 Q)
  (fin:∀D C oC H' s',Inv X (pins++[(C,oC)]) σ H' s'->(∀h:Heap,h.get? C=uN oC->∃m,h.Ns C m)->FpOk X pins H' C->Q (.ref D) H'->compPost (model X.prog X.w) X.A E use Q' (.ref D) C (.ok .next) s'):
  lK (model X.prog X.w) X.A (newList []) (λacc ay=>lK (model X.prog X.w) X.A (newFunctionEnv scope X.env.globals cl [] X.env.qual uO .none (uN X.env)) (λfq bL=>
   codeAny (model X.prog X.w) X.A (.compStart (.ListComp elt [⟨tg,iter,ifs,0⟩] scope pos) 0 (.ref it) acc {fq with scope:=relabel scope X.env}) (compPost (model X.prog X.w) X.A E use Q' acc fq.locals) bL) E ay) E s2:=by
 have aC:∀b∈fp,b<s2.heap.objs.size:=λb hb=>by
  obtain⟨o,ho,_⟩:=T.obj 0 _ st b hb;exact lh ho
 refine wpAny_newList (wpAny_newFunctionEnv S.cell (by intro y hy;simp at hy) (λaz aY aP=>?_) S.kind)
 dsimp only at aY aP ⊢;have hsz:(s2.heap.push {cls:=.type "list",data:=.seq ([]:List aU).toArray}).objs.size=s2.heap.objs.size+1:=nR ..;rw[hsz]at aY aP ⊢;have old:∀b o,s2.heap.get? b=uN o->az.get? b=uN o:=λb o e=>aP.extBut b o (lN (oV (lh e))) (kQ _ (kQ _ e))
 have aB:az.get? s2.heap.objs.size=uN {cls:=.type "list",data:=.seq #[]}:=aP.extBut _ _ (lN (o7 _)) (kQ _ (lC _ rfl));have I4:Inv (cxComp X scope cl (s2.heap.objs.size+1) (cN lv fr) fp s2 H2) [] (cS lv fr σ) (upd H2 s2.heap.objs.size (.lst [])) {s2 with heap:=az,toks:=s2.toks+([]:List (Str×aU)).length}:=
  zjp_ I S hf aC aY aB old
 generalize aV:cxComp X scope cl (s2.heap.objs.size+1) (cN lv fr) fp s2 H2=X' at I4
 have eP:X'.prog=X.prog:=by rw[<- aV];rfl
 have ew:X'.w=X.w:=by rw[<- aV];rfl
 have eK:X'.K=X.K:=by rw[<- aV];rfl
 have eA:X'.A=X.A:=by rw[<- aV];rfl
 have ec:X'.calm=uP:=by rw[<- aV];exact hc
 have ex:X'.xe=λ_ _=>False:=by rw[<- aV];rfl
 have dB:X'.env=compEnvC scope cl (s2.heap.objs.size+1) X.env:=by rw[<- aV];rfl
 have jM:PG X' tg g:=aV ▸ hg _ _ _ _;have jw:PIf X' ifs tt:=aV ▸ ht _ _ _ _;have jQ:PE X' elt te:=aV ▸ he _ _ _ _;obtain⟨W,⟨m0,w0⟩,turn⟩:=hq s2.heap.objs.size (I.hok.fresh (kZ _));have cb:tn 0 az:=T.keep _ _ _ st λb _ o e=>old b o e
 have f4:∀b∈fp,FpOk X' [] (upd H2 s2.heap.objs.size (.lst [])) b:=λb hb=>by
  obtain⟨f0,f1,f2,f3,f4,f5⟩:=hf b hb;have:=aC b hb;refine⟨?_,?_,?_,.inl ?_,?_,?_⟩
  ·rw[zc_ (lN this)];exact f0
  ·rw[dB];exact lN (oV this)
  ·intro z
   have z':b∈frs X.stack:=by rw[<- aV]at z;exact z
   rcases lI.mp (I.stkSub b z')with q |q
   ·exact f1 q
   ·exact f2 q
  ·rw[<- aV];exact hb
  ·intro x c e
   rw[dB]at e;exact f4 x c (zae_ scope.names [] cl S.clos (λx c e=>by cases e) x c e)
  ·intro p hp
   rw[<- aV]at hp;exact absurd (show p∈([]:Pnn)from hp) (by simp)
 have aW:∀{H':Hp},(∀b∈fp,H' b=uO)->∀b∈fp,FpOk X' [] H' b:=λhn b hb=>⟨hn b hb,(f4 b hb).2⟩
 have loop:∀ay:kR,ay={s2 with heap:=az,toks:=s2.toks+([]:List (Str×aU)).length} ->
   codeAny (model X.prog X.w) X.A (.compLoop (.ListComp elt [⟨tg,iter,ifs,0⟩] scope pos) 0 (.ref it) (.ref s2.heap.objs.size) (compEnvC scope cl (s2.heap.objs.size+1) X.env))
    (compPost (model X.prog X.w) X.A E use Q' (.ref s2.heap.objs.size) (s2.heap.objs.size+1)) ay:=by
  rintro ay rfl;refine zfa_ (λn s'=>∃i ys ah H',Inv X' [] ah H' s'/\tn i s'.heap/\(∀b∈fp,H' b=uO)/\W i n ys ah H') ?_ m0 ⟨0,[],_,_,I4,cb,λb hb=>(f4 b hb).1,w0⟩
  rintro n s3 ⟨i,ys,bE,H3,I3,st3,fr3,w3⟩;rcases turn i n ys bE H3 w3 with⟨stop,qn⟩|⟨go,N,hN,step⟩
  ·have a0:=T.done X' eP ew eK ec i [] s3 bE H3 (λ_ _=>False) I3 (aW fr3) st3 stop
   rw[eA]at a0;refine thn a0 λr s4 ae=>?_
   obtain⟨hr,I4'⟩:=ae;subst hr;have un:Un (frs X.stack) fp H2 H3 s2.heap s4.heap:=by
    have:=I4'.base;rw[<- aV]at this;exact this
   have os:s4.os=s2.os:=by
    have:=I4'.os;rw[<- aV]at this;exact this
   have hok:HOk X.prog X.w H3 s4.heap:=by
    have:=I4'.hok;rw[<- aV]at this;exact this
   have J1:Inv X pins σ H3 s4:=I.call' os un hok I4'.bare λb hb=>by
    obtain⟨f0,f1,f2,f3,f4,f5⟩:=hf b hb;exact⟨f3,f1,f4,f5⟩
   obtain⟨m,hn,_⟩:=I4'.loc;have gF:s4.heap.Ns (s2.heap.objs.size+1) m:=by rw[dB]at hn;exact hn
   have fT:H3 (s2.heap.objs.size+1)=uO:=by
    have:=I4'.free;rw[dB]at this;exact this
   have fC:FpOk X pins H3 (s2.heap.objs.size+1):=I.fpOk (ot _) fT;obtain⟨oC,es,ep,hoC,hdC,rC⟩:=id gF;have J2:Inv X (pins++[(s2.heap.objs.size+1,oC)]) σ H3 s4:=J1.pins_of λp hp=>by
    rcases qI.mp hp with hp |hp
    ·exact J1.pin p (lU _ hp)
    ·have e:p=(s2.heap.objs.size+1,oC):=by simpa using hp
     subst e;exact⟨hoC,fT,fC.2.1,fC.2.2.1,λv z=>by rw[hdC]at z;cases z⟩
   exact fin _ _ oC H3 s4 J2 (λh e=>⟨m,oC,es,ep,e,hdC,rC⟩) fC qn
  ·have a0:=T.item X' eP ew eK ec i [] s3 bE H3 (λ_ _=>False) I3 (aW fr3) st3 go
   rw[eA]at a0;refine thn a0 λr s4 ae=>?_
   obtain⟨u,hr,h4⟩:=ae;subst hr;refine thn h4 λ_ s5 ae=>?_
   obtain⟨x,H5,I5,r5,y5,st5,fr5⟩:=ae;have ia:=I5.pinned (aW fr5) (T.obj _ _ st5);have a1:=jM _ s5 bE H5 x u _ ia r5 (step x H5 y5);rw[eP,ew,eA,dB,ex]at a1;refine thn a1 λ_ s6 ae=>?_
   obtain⟨b_,H6,I6,q6⟩:=ae;have a2:=jw _ s6 b_ H6 _ I6 q6;rw[eP,ew,eA,dB,ex]at a2;refine thn a2 λok s7 ae=>?_
   obtain⟨H7,I7,q7⟩:=ae;have again:∀{fu:List V}{H7:Hp}{s7:kR},Inv X' ([]++pinsAt fp s5.heap) b_ H7 s7->N fu b_ H7->∃m,m<n/\∃i ys ah H',Inv X' [] ah H' s7/\tn i s7.heap/\(∀b∈fp,H' b=uO)/\W i m ys ah H':=λ{fu H7 s7} I7 n7=>by
    obtain⟨m',hm,w7⟩:=hN fu b_ H7 n7;refine⟨m',hm,i+1,fu,b_,H7,I7.unpinned,T.keep _ _ _ st5 λb hb o e=>(I7.pin (b,o) (lU _ (lU _ (zaR_ hb e)))).1,λb hb=>?_,w7⟩
    obtain⟨o,e,d⟩:=T.obj _ _ st5 b hb;exact(I7.pin (b,o) (lU _ (lU _ (zaR_ hb e)))).2.1
   cases ok with
   |false=>exact again I7 q7
   |true=>
    have a3:=jQ _ s7 b_ H7 _ I7 q7;rw[eP,ew,eA,dB,ex]at a3;refine thn a3 λy s8 ae=>?_
    obtain⟨v,H8,I8,r8,hD8,hl8,n8⟩:=ae;have a4:=zcL_ (X:=X') _ s8 b_ H8 (.ref s2.heap.objs.size) [v] (.ref s2.heap.objs.size) [y] (λ_ H9=>N (ys++[v]) b_ H9) I8 rfl (.cons r8 .nil) ⟨_,_,_,rfl,rfl,hD8,hl8,n8⟩
    rw[eP,ew,eA,ex]at a4;refine thn a4 λ_ s9 ae=>?_
    obtain⟨v9,H9,I9,_,n9⟩:=ae;exact again I9 n9
 exact codeAny_compStart_list (loop _ rfl) (T.self _ 0 _ _ _ cb (loop _ rfl))
def tComp (lv:List Str)(fr:List (Str×Nat))(wi:TI)(g:TG)(tt:TT)(te:TE):TE:=λσ H Q=>wi σ H λJ H1=>tCompR J g tt te (cS lv fr σ) H1 Q
theorem znn_ {wi:TI}(hc:X.calm=uP)(S:CScope X scope cl lv fr)(hi:PI X tg iter wi)
  (hg:∀C fp s2 H2,PG (cxComp X scope cl C (cN lv fr) fp s2 H2) tg g) (ht:∀C fp s2 H2,PIf (cxComp X scope cl C (cN lv fr) fp s2 H2) ifs tt) (he:∀C fp s2 H2,PE (cxComp X scope cl C (cN lv fr) fp s2 H2) elt te)
  (hs:∀x,foldedSetIterable iter X.env x=pure x:=by intro _;rfl):PE X (.ListComp elt [⟨tg,iter,ifs,0⟩] scope pos) (tComp lv fr wi g tt te):=by
 intro pins s σ H Q I h;rw[eval_ListComp];refine wpAny_comprehension_free (use:=uO) rfl hs (zbE_ S.clos) S.kind S.names ?_;refine thn (hi pins s σ H _ I h) λv s1 h1=>thn h1 λfJ s2 h2=>?_
 obtain⟨it,fp,tn,J,H2,e,I2,T,bx,f2,q⟩:=h2;subst e;refine zcV_ I2 S T bx f2 hc hg ht he q λD C oC H' s' J1 gX fC qD=>?_
 have hp:=J1.pin (C,oC) (lU _ (lU _ (nj.mpr rfl)));obtain⟨m,hm⟩:=gX s'.heap hp.1;refine⟨m,hm,λh' c8=>?_⟩
 exact⟨.ref D,H',J1.unpinned.turned (t':=s'.toks) (λb o hb e=>(c8.2 b hb).trans e) fC.1 fC.2.1 fC.2.2.2.1 fC.2.2.2.2.1 fC.2.2.2.2.2,rfl,qD⟩
theorem zgL_ {wi:TI}{j:Nat}{y:Str}{py dX:Pos}(hc:X.calm=uP)(S:CScope X scope cl lv fr)(hi:PI X tg iter wi)
  (hg:∀C fp s2 H2,PG (cxComp X scope cl C (cN lv fr) fp s2 H2) tg g) (ht:∀C fp s2 H2,PIf (cxComp X scope cl C (cN lv fr) fp s2 H2) ifs tt) (he:∀C fp s2 H2,PE (cxComp X scope cl C (cN lv fr) fp s2 H2) elt te)
  (hy:PG X (.Name y py) (gName j))
  (jy:swapsWith (.ListComp elt [⟨tg,iter,ifs,0⟩] scope pos) (uN (.Name y py)) dX.line X.env=pure uP:=by rfl)
  (hs:∀x,foldedSetIterable iter X.env x=pure x:=by intro _;rfl):PS X (.Assign [.Name y py] (.ListComp elt [⟨tg,iter,ifs,0⟩] scope pos) dX) (tAsg (tComp lv fr wi g tt te) (gName j)):=by
 intro pins s σ H D I h;rw[exec_Assign_Name_used _ _ _ _ jy];refine kP (wpAny_standAt (kP ?_));show lK _ X.A (do let _ <- comprehension (.ListComp elt [⟨tg,iter,ifs,0⟩] scope pos) scope X.env _ (newList []) uQ (eval iter X.env) (uN (assign (.Name y py) X.env))) _ _ s
 refine kP (mK (wpAny_comprehension_free (use:=uN (assign (.Name y py) X.env)) (Q:=λ_ s'=>SP X pins D .next s') rfl hs (zbE_ S.clos) S.kind S.names ?_) (λ_ s' hq=>lB (lB hq)) λ_ _ e=>e)
 refine thn (hi pins s σ H _ I h) λv s1 h1=>thn h1 λfJ s2 h2=>?_
 obtain⟨it,fp,tn,J,H2,e,I2,T,bx,f2,q⟩:=h2;subst e;refine zcV_ I2 S T bx f2 hc hg ht he q λD' C oC H' s' J1 gX fC qD=>?_
 show lK _ X.A (assign (.Name y py) X.env (.ref D')) _ _ _
 refine thn (hy _ s' σ H' (.ref D') (.ref D') _ J1 rfl qD) λ_ s3 ae=>?_
 obtain⟨bE,H3,I3,q3⟩:=ae;have hp:=I3.pin (C,oC) (lU _ (lU _ (nj.mpr rfl)));obtain⟨m,hm⟩:=gX s3.heap hp.1;refine⟨m,hm,λh' c8=>?_⟩
 have fm:FpOk X pins H3 C:=⟨hp.2.1,fC.2⟩;exact⟨bE,H3,I3.unpinned.turned (t':=s3.toks) (λb o hb e=>(c8.2 b hb).trans e) fm.1 fm.2.1 fm.2.2.2.1 fm.2.2.2.2.1 fm.2.2.2.2.2,q3⟩
end
noncomputable abbrev tx (l:List Nat):V:=.str ⟨l.toArray⟩
def br (b:Bool)(A B:Prop):Prop:=(b=uP->A)/\(b=uQ->B)
theorem zl5_ (a b:Str):a++b=⟨(a.cps.toList++b.cps.toList).toArray⟩:=by
 cases a;cases b;show Str.mk (_++_)=_
 simp
theorem zaw_ (a:Str):a=⟨a.cps.toList.toArray⟩:=by cases a;simp
def cutL (l:List Nat)(lo hi:Option Int):List Nat:=(l.drop (HT.sIx l.length 0 lo)).take (HT.sIx l.length l.length hi-HT.sIx l.length 0 lo)
theorem zb5_ (lo hi:Option Int)(n:Nat):mX lo hi 1 n=sliceRange ((HT.sIx n 0 lo:Nat):Int) ((HT.sIx n n hi:Nat):Int) 1:=by
 unfold mX;simp only[show(1:Int) > 0 by decide,if_true]
 congr 1
 ·cases lo with
  |none=>simp[HT.sIx]
  |some i=>
   simp only[HT.sIx];by_cases h:i<0
   ·simp only[h,if_true]<;>lia
   ·simp only[h,if_false]<;>lia
 ·cases hi with
  |none=>simp[HT.sIx]
  |some i=>
   simp only[HT.sIx];by_cases h:i<0
   ·simp only[h,if_true]<;>lia
   ·simp only[h,if_false]<;>lia
theorem zha_ (x:Str)(lo hi:Option Int):(mX lo hi 1 x.length).filterMap (x.cps[·]?)=cutL x.cps.toList lo hi:=by
 rw[zb5_,sliceRange_one,pick_run];unfold cutL ni;simp only[mz]
theorem zcy_ (l:List Nat)(lo hi:Option Int):(cutL l lo hi).length<=l.length:=by
 unfold cutL;rw[mQ,mG];lia
theorem zhI_ {l:List Nat}{lo hi:Option Int}(h:(cutL l lo hi).length=l.length):cutL l lo hi=l:=by
 unfold cutL at h ⊢;rw[mQ,mG]at h;have h1:HT.sIx l.length l.length hi<=l.length:=HT.sIx_le _ _ (kZ _) _;by_cases hl:l.length=0
 ·have:l=[]:=mn.mp hl
  subst this;simp
 ·have h2:HT.sIx l.length 0 lo=0:=by lia
  rw[h2,sM,oI];lia
section
variable {X:Cx}
def rSlS:V->Option Int->Option Int->Hp->VK->Prop:=λx lo hi H Q=>match x with |.str z=>z.length<=lA/\Q (tx (cutL z.cps.toList lo hi)) H |_=>False
theorem zbX_ {v:aU}{o:Option Int}(p:IsPart v o):∃l:Option (Int×Tok),v=partValue l/\l.map (·.1)=o:=by
 cases p with
 |none=>exact⟨uO,rfl,rfl⟩
 |int i t=>exact⟨uN (i,t),rfl,rfl⟩
theorem zb9_:SlR X rSlS:=by
 intro pins s σ H x v vl vu lo hi sl Q I rx hs pl pu h;cases x with
 |str z=>
  obtain⟨hz,q⟩:=h;obtain⟨t,rfl⟩:=rx;obtain⟨l,rfl,rfl⟩:=zbX_ pl;obtain⟨u,rfl,rfl⟩:=zbX_ pu;refine⟨"str",_,F.slot_str_getitem.lookup,typeIs_str _ _ _,?_⟩;refine wpAny_getItem_str_slice (l:=l) (u:=u) (st:=uO) hs rfl ?_;unfold sliceMade;have e:slicePicked z l u uO=mX (l.map (·.1)) (u.map (·.1)) 1 z.length:=rfl;rw[e];have hlen:(mX (l.map (·.1)) (u.map (·.1)) 1 z.length).length=(cutL z.cps.toList (l.map (·.1)) (u.map (·.1))).length:=by
   rw[zb5_,sliceRange_one,kX,mr];unfold cutL;rw[mQ,mG];have h1:HT.sIx z.length z.length (u.map (·.1))<=z.length:=HT.sIx_le _ _ (kZ _) _;have h2:z.cps.toList.length=z.length:=by simp[ni]
   rw[h2];lia
  split
  ·rename_i hc
   have aA:(cutL z.cps.toList (l.map (·.1)) (u.map (·.1))).length=z.cps.toList.length:=by
    rw[<- hlen]
    simpa [ni]using hc
   rw[zhI_ aA]at q;have q':Q (.str z) H:=by rw[zaw_ z];exact q
   exact⟨.str z,H,I,⟨_,rfl⟩,q'⟩
  ·rw[zha_]
   have h3:=zcy_ z.cps.toList (l.map (·.1)) (u.map (·.1));have h2:z.cps.toList.length=z.length:=by simp[ni]
   refine⟨?_,tx (cutL z.cps.toList (l.map (·.1)) (u.map (·.1))),H,I.tok _,⟨_,rfl⟩,q⟩;show(cutL z.cps.toList (l.map (·.1)) (u.map (·.1))).toArray.size<=lA
   rw[k8];exact mq h3 (by rw[h2];exact hz)
 |_=>exact h.elim
end
def mVar (i:Nat):TE:=λσ H Q=>match σ[i]? with |some (uN v)=>Q v H |_=>False
section
variable {X:Cx}{a b c:lF}{ta tb tc:TE}{pos:Pos}
theorem zkZ_ (i:Nat){x:Str}{pos:Pos}(hN:X.N[i]?=uN x:=by rfl)(hv:Vis X.env.scope x:=by first |exact Or.inl rfl |exact Or.inr (Or.inl rfl)|exact Or.inr (Or.inr rfl))(hd:(x==("__debug__":Str))=uQ:=by decide)
  (aD:(x==("__classdict__":Str))=uQ:=by decide):PE X (.Name x pos) (mVar i):=by
 intro pins s σ H Q I h;unfold mVar at h;cases e:σ[i]? with
 |none=>rw[e]at h;exact h.elim
 |some o=>
  rw[e]at h;cases o with
  |none=>exact h.elim
  |some v=>exact zp3_ hN hv hd aD pins s σ H Q I ⟨v,e,h⟩
theorem zp5_ {x:Str}{l:List Nat}{j pos}(h:x=⟨l.toArray⟩:=by rfl):PE X (.Constant (.str x) j pos) (tC (tx l)):=h ▸ zon_
def mAdd:R2:=λx y H Q=>match x,y with
 |.int i,.int j=>Q (.int (i+j)) H
 |.str a,.str b=>a.cps.toList.length+b.cps.toList.length<=lA/\Q (tx (a.cps.toList++b.cps.toList)) H
 |.ref a,.ref b=>∃xs zs,H a=uN (.lst xs)/\H b=uN (.lst zs)/\xs.length+zs.length<=lA/\∀p,H p=uO->Q (.ref p) (upd H p (.lst (xs++zs)))
 |_,_=>False
theorem zlx_:OpR X (m8 .Add) mAdd:=by
 intro pins s σ H x y v u Q I rx ry h
 cases x<;>cases y<;>first
  |exact h.elim
  |exact zo3_ pins s σ H _ _ v u Q I rx ry ⟨_,_,rfl,rfl,h⟩
  |exact zgA_ pins s σ H _ _ v u Q I rx ry ⟨_,_,rfl,rfl,by simpa [ni]using h.1,by rw[zl5_];exact h.2⟩
  |(obtain⟨xs,zs,h1,h2,h3,h4⟩:=h;exact zoI_ pins s σ H _ _ v u Q I rx ry ⟨_,_,xs,zs,rfl,rfl,h1,h2,h3,h4⟩)
def mI (C:Int->Int->Prop)(g:Int->Int->V):R2:=λx y H Q=>match x,y with |.int i,.int j=>C i j/\Q (g i j) H |_,_=>False
def mI0 (g:Int->Int->V):R2:=λx y H Q=>match x,y with |.int i,.int j=>Q (g i j) H |_,_=>False
theorem opM {f:aU->aU->Sem aU}{C:Int->Int->Prop}{g:Int->Int->V}(h:OpR X f (rI C g)):OpR X f (mI C g):=by
 intro pins s σ H x y v u Q I rx ry q;cases x<;>cases y<;>first |exact q.elim |exact h pins s σ H _ _ v u Q I rx ry ⟨_,_,rfl,rfl,q.1,q.2⟩
theorem opM0 {f:aU->aU->Sem aU}{g:Int->Int->V}(h:OpR X f (rI0 g)):OpR X f (mI0 g):=by
 intro pins s σ H x y v u Q I rx ry q;cases x<;>cases y<;>first |exact q.elim |exact h pins s σ H _ _ v u Q I rx ry ⟨_,_,rfl,rfl,q⟩
abbrev mSub:R2:=mI0 λi j=>.int (i-j)
abbrev mMod:R2:=mI (λ_ j=>0<j) λi j=>.int (i % j)
abbrev mPow:R2:=mI CPow λi j=>.int (i ^ j.toNat)
theorem zmO_:OpR X (m8 .Sub) mSub:=opM0 zp4_
theorem znF_:OpR X (m8 .Mod) mMod:=opM zpb_
theorem zmW_:OpR X (m8 .Pow) mPow:=opM zpR_
abbrev mLt:R2:=mI0 λi j=>.bl (decide (i<j))
abbrev mLe:R2:=mI0 λi j=>.bl (decide (i<=j))
abbrev mGt:R2:=mI0 λi j=>.bl (decide (j<i))
abbrev mGe:R2:=mI0 λi j=>.bl (decide (j<=i))
theorem zp0_:OpR X (lP .Lt) mLt:=opM0 op_lt
theorem zoS_:OpR X (lP .LtE) mLe:=opM0 op_le
theorem zn3_:OpR X (lP .Gt) mGt:=opM0 op_gt
theorem zqv_:OpR X (lP .GtE) mGe:=opM0 op_ge
noncomputable def mIsB (x y:V):Option Bool:=match y with
 |.non=>uN (decide (x=.non))
 |.bl b=>(match x with |.bl a=>uN (decide (a=b))|_=>uO)
 |_=>uO
def mIs:R2:=λx y H Q=>match mIsB x y with |some b=>Q (.bl b) H |none=>False
def mIsNot:R2:=λx y H Q=>match mIsB x y with |some b=>Q (.bl (!b)) H |none=>False
theorem zjy_ {M:Model}{A:mh}{E:aU->kR->Prop}{s:kR}{a b:Bool}{Q:aU->kR->Prop}(h:Q (.bool (decide (a=b))) s):lK M A (lP .Is (.bool a) (.bool b)) Q E s:=by
 cases a<;>cases b<;>exact lB h
theorem ze1_ {M:Model}{A:mh}{E:aU->kR->Prop}{s:kR}{a b:Bool}{Q:aU->kR->Prop}(h:Q (.bool (!decide (a=b))) s):lK M A (lP .IsNot (.bool a) (.bool b)) Q E s:=by
 cases a<;>cases b<;>exact lB h
theorem znY_:OpR X (lP .Is) mIs:=by
 intro pins s σ H x y v u Q I rx ry h;unfold mIs mIsB at h;cases y with
 |non=>exact zqG_ pins s σ H x _ v u Q I rx ry ⟨rfl,h⟩
 |bl b=>
  cases x with
  |bl a=>cases rx;cases ry;exact zjy_ ⟨.bl _,H,I,rfl,h⟩
  |_=>exact h.elim
 |_=>exact h.elim
theorem zh7_:OpR X (lP .IsNot) mIsNot:=by
 intro pins s σ H x y v u Q I rx ry h;unfold mIsNot mIsB at h;cases y with
 |non=>exact zl8_ pins s σ H x _ v u Q I rx ry ⟨rfl,h⟩
 |bl b=>
  cases x with
  |bl a=>cases rx;cases ry;exact ze1_ ⟨.bl _,H,I,rfl,h⟩
  |_=>exact h.elim
 |_=>exact h.elim
noncomputable def inS (l:List Nat)(t:List Nat):Bool:=match l with |[c]=>decide (c∈t)|_=>!(nq ⟨t.toArray⟩ ⟨l.toArray⟩ 0 t.length 1).isEmpty
theorem zi1_ (a b:Str):(!(nq b a 0 b.length 1).isEmpty)=inS a.cps.toList b.cps.toList:=by
 have e:b.length=b.cps.toList.length:=by simp[ni]
 unfold inS;split
 ·rename_i c hc
  have ea:a=⟨#[c]⟩:=by rw[zaw_ a,hc]
  rw[ea];exact StrLaws.found_one b c
 ·rw[<- zaw_,<- zaw_,e]
def mIn (K:Fgg)(neg:Bool):R2:=λx y H Q=>match y with
 |.str b=>(match x with |.str a=>Q (.bl (if neg then !inS a.cps.toList b.cps.toList else inS a.cps.toList b.cps.toList)) H |_=>False)
 |.ref p=>∃xs,(SqL K H p xs\/SqT K H p xs)/\flatV x=uP/\xs.all flatV=uP/\Q (.bl (if neg then !inV x xs else inV x xs)) H
 |_=>False
theorem zpL_:OpR X (lP .In) (mIn X.K uQ):=by
 intro pins s σ H x y v u Q I rx ry h;unfold mIn at h;cases y with
 |str b=>
  cases x with
  |str a=>exact zii_ pins s σ H _ _ v u Q I rx ry ⟨_,_,rfl,rfl,by rw[zi1_];exact h⟩
  |_=>exact h.elim
 |ref p=>
  obtain⟨xs,h1,h2,h3,h4⟩:=h;exact zhm_ pins s σ H _ _ v u Q I rx ry ⟨_,xs,rfl,h1,h2,h3,h4⟩
 |_=>exact h.elim
theorem zih_:OpR X (lP .NotIn) (mIn X.K uP):=by
 intro pins s σ H x y v u Q I rx ry h;unfold mIn at h;cases y with
 |str b=>
  cases x with
  |str a=>exact zdI_ pins s σ H _ _ v u Q I rx ry ⟨_,_,rfl,rfl,by rw[zi1_];exact h⟩
  |_=>exact h.elim
 |ref p=>
  obtain⟨xs,h1,h2,h3,h4⟩:=h;exact zdC_ pins s σ H _ _ v u Q I rx ry ⟨_,xs,rfl,h1,h2,h3,h4⟩
 |_=>exact h.elim
def mTest (t:TE):TT:=λσ H Q=>t σ H λx H'=>match x with |.bl k=>Q k H' |_=>False
def mAndV (ta tb:TE):TE:=λσ H Q=>ta σ H λx H1=>match x with |.bl c=>br c (tb σ H1 Q) (Q (.bl uQ) H1)|_=>False
def mOrV (ta tb:TE):TE:=λσ H Q=>ta σ H λx H1=>match x with |.bl c=>br c (Q (.bl uP) H1) (tb σ H1 Q)|_=>False
def mNotV (ta:TE):TE:=λσ H Q=>ta σ H λx H1=>match x with |.bl c=>Q (.bl (!c)) H1 |_=>False
def mAnd (t u:TT):TT:=λσ H Q=>t σ H λc H1=>br c (u σ H1 Q) (Q uQ H1)
def mOr (t u:TT):TT:=λσ H Q=>t σ H λc H1=>br c (Q uP H1) (u σ H1 Q)
variable {rest:List lF}{tA fD:TT}
theorem ziY_ (ha:PE X a ta)(hb:PE X (.BoolOp .And (b::rest) pos) tb):PE X (.BoolOp .And (a::b::rest) pos) (mAndV ta tb):=by
 intro pins s σ H Q I h;refine BoolOp_and (thn (ha pins s σ H _ I h) λv s1 ae=>?_)
 obtain⟨x,H1,I1,r1,q1⟩:=ae;cases x with
 |bl c=>
  cases r1;refine l6 ?_;cases c with
  |true=>exact hb pins s1 σ H1 Q I1 (q1.1 rfl)
  |false=>exact⟨.bl uQ,H1,I1,rfl,q1.2 rfl⟩
 |_=>exact q1.elim
theorem znH_ (ha:PE X a ta)(hb:PE X (.BoolOp .Or (b::rest) pos) tb):PE X (.BoolOp .Or (a::b::rest) pos) (mOrV ta tb):=by
 intro pins s σ H Q I h;refine BoolOp_or (thn (ha pins s σ H _ I h) λv s1 ae=>?_)
 obtain⟨x,H1,I1,r1,q1⟩:=ae;cases x with
 |bl c=>
  cases r1;refine l6 ?_;cases c with
  |false=>exact hb pins s1 σ H1 Q I1 (q1.2 rfl)
  |true=>exact⟨.bl uP,H1,I1,rfl,q1.1 rfl⟩
 |_=>exact q1.elim
theorem zl4_ (ha:PE X a ta):PE X (.UnaryOp .Not a pos) (mNotV ta):=by
 intro pins s σ H Q I h;refine UnaryOp_ (thn (ha pins s σ H _ I h) λv s1 ae=>?_)
 obtain⟨x,H1,I1,r1,q1⟩:=ae;cases x with
 |bl c=>cases r1;exact not_of (l6 ⟨.bl (!c),H1,I1,rfl,q1⟩)
 |_=>exact q1.elim
theorem ziC_ (ha:PT X a tA)(hb:PW X (.BoolOp .And (b::rest) pos) fD):PW X (.BoolOp .And (a::b::rest) pos) (mAnd tA fD):=by
 intro wh pins s σ H Q I h;refine isTrue_and (thn (ha pins s σ H _ I h) λc s1 ae=>?_)
 obtain⟨H1,I1,q1⟩:=ae;cases c with
 |true=>exact hb wh pins s1 σ H1 Q I1 (q1.1 rfl)
 |false=>exact⟨H1,I1,q1.2 rfl⟩
theorem zlL_ (ha:PT X a tA)(hb:PW X (.BoolOp .Or (b::rest) pos) fD):PW X (.BoolOp .Or (a::b::rest) pos) (mOr tA fD):=by
 intro wh pins s σ H Q I h;refine isTrue_or (thn (ha pins s σ H _ I h) λc s1 ae=>?_)
 obtain⟨H1,I1,q1⟩:=ae;cases c with
 |true=>exact⟨H1,I1,q1.1 rfl⟩
 |false=>exact hb wh pins s1 σ H1 Q I1 (q1.2 rfl)
theorem zl0_ {e:lF}{t:TE}(h:PE X e t)(he:∀whole,isTrue e X.env whole=(do let v <- whole;standAt e.pos;holding [v] (truthy v)):=by intro _;rfl):PT X e (mTest t):=by
 intro pins s σ H Q I hw;refine isTrue_plain (thn (h pins s σ H _ I hw) λv s1 ae=>?_) (he _)
 obtain⟨x,H1,I1,r1,q1⟩:=ae;cases x with
 |bl c=>cases r1;exact l6 ⟨H1,I1,q1⟩
 |_=>exact q1.elim
theorem zl9_ {op:CmpOp}{r:R2}(ho:OpR X (lP op) r)(ha:PE X a ta)(hb:PE X b tb)(hm:behindInMarks op b=uQ:=by first |exact nobehind _ (by decide) (by decide)|rfl):PT X (.Compare a [op] [b] pos) (mTest (tOp r ta tb)):=by
 intro pins s σ H Q I hw;refine wpAny_isTrue_Compare1 (binT ha hb I hw λv u s2 x y H2 I2 rx ry q=>?_) hm
 refine thn (ho pins s2 σ H2 x y v u _ I2 rx ry q) λc s3 ae=>?_
 obtain⟨z,H3,I3,r3,q3⟩:=ae;cases z with
 |bl k=>cases r3;exact l6 ⟨H3,I3,q3⟩
 |_=>exact q3.elim
theorem zmI_ {op:CmpOp}{r:R2}(ho:OpR X (lP op) r)(ha:PE X a ta)(hb:PE X b tb)(hm:behindInMarks op b=uQ:=by first |exact nobehind _ (by decide) (by decide)|rfl):PE X (.Compare a [op] [b] pos) (tOp r ta tb):=zlX_ ho ha hb hm
def mIf (t:TT)(ta tb:TE):TE:=λσ H Q=>t σ H λc H1=>br c (ta σ H1 Q) (tb σ H1 Q)
theorem zqF_ {c:lF}(hc:PT X c tA)(ha:PE X a ta)(hb:PE X b tb):PE X (.IfExp c a b pos) (mIf tA ta tb):=by
 intro pins s σ H Q I h;refine wpAny_IfExp (thn (hc pins s σ H _ I h) λd s1 ae=>?_)
 obtain⟨H1,I1,q1⟩:=ae;cases d with
 |true=>exact ha pins s1 σ H1 Q I1 (q1.1 rfl)
 |false=>exact hb pins s1 σ H1 Q I1 (q1.2 rfl)
def mIfS (c:TT)(t u:TS):TS:=λD σ H=>c σ H λb H1=>br b (t D σ H1) (u D σ H1)
theorem zkf_ {c:lF}{a b:List mi}{tc:TT}{t u:TS}(hc:PT X c tc)(ha:PSs X a t)(hb:PSs X b u):PS X (.If c a b pos) (mIfS tc t u):=by
 intro pins s σ H D I h;refine wpAny_If (thn (hc pins s σ H _ I h) λd s1 ae=>?_)
 obtain⟨H1,I1,q1⟩:=ae;cases d with
 |true=>exact ha pins s1 σ H1 D I1 (q1.1 rfl)
 |false=>exact hb pins s1 σ H1 D I1 (q1.2 rfl)
def mChain (r r':R2)(ta tb tc:TE):TE:=λσ H Q=>ta σ H λx H1=>tb σ H1 λy H2=>r x y H2 λz H3=>match z with |.bl k=>br k (tc σ H3 λw H4=>r' y w H4 Q) (Q (.bl uQ) H3)|_=>False
theorem zhs_ {op aG:CmpOp}{r r':R2}(ho:OpR X (lP op) r)(aI:OpR X (lP aG) r')(ha:PE X a ta)(hb:PE X b tb)(hc:PE X c tc)
  (hm:lastMarks [op,aG] [b,c]=uQ:=by with_unfolding_all rfl):PE X (.Compare a [op,aG] [b,c] pos) (mChain r r' ta tb tc):=by
 intro pins s σ H Q I h;refine Compare_chain (thn (ha pins s σ H _ I h) λv s1 ⟨x,H1,I1,r1,q1⟩=>chain_link (thn (hb pins s1 σ H1 _ I1 q1) λu s2 ⟨y,H2,I2,r2,q2⟩=>
  thn (ho pins s2 σ H2 x y v u _ I2 r1 r2 q2) λd s3 ⟨z,H3,I3,r3,q3⟩=>?_)) hm
 cases z with
 |bl k=>
  cases r3;refine l6 ?_;cases k with
  |false=>exact ite_ff ⟨.bl uQ,H3,I3,rfl,q3.2 rfl⟩
  |true=>exact ite_tt (chain_last (thn (hc pins s3 σ H3 _ I3 (q3.1 rfl)) λw' s4 ⟨z',H4,I4,r4,q4⟩=>aI pins s4 σ H4 y z' u w' Q I4 r2 r4 q4))
 |_=>exact q3.elim
theorem zhL_ {op aG:CmpOp}{r r':R2}(ho:OpR X (lP op) r)(aI:OpR X (lP aG) r')(ha:PE X a ta)(hb:PE X b tb)(hc:PE X c tc)
  (hm:lastMarks [op,aG] [b,c]=uQ:=by with_unfolding_all rfl):PT X (.Compare a [op,aG] [b,c] pos) (mTest (mChain r r' ta tb tc)):=by
 intro pins s σ H Q I h;refine isTrue_chain (thn (ha pins s σ H _ I h) λv s1 ⟨x,H1,I1,r1,q1⟩=>test_link (thn (hb pins s1 σ H1 _ I1 q1) λu s2 ⟨y,H2,I2,r2,q2⟩=>
  thn (ho pins s2 σ H2 x y v u _ I2 r1 r2 q2) λd s3 ⟨z,H3,I3,r3,q3⟩=>?_)) hm
 cases z with
 |bl k=>
  cases r3;refine l6 ?_;cases k with
  |false=>exact ite_ff ⟨H3,I3,q3.2 rfl⟩
  |true=>
   refine ite_tt (test_last (thn (hc pins s3 σ H3 _ I3 (q3.1 rfl)) λw' s4 ⟨z',H4,I4,r4,q4⟩=>thn (aI pins s4 σ H4 y z' u w' _ I4 r2 r4 q4) λd' s5 ae=>?_))
   obtain⟨z2,H5,I5,r5,q5⟩:=ae;cases z2 with
   |bl k2=>cases r5;exact l6 ⟨H5,I5,q5⟩
   |_=>exact q5.elim
 |_=>exact q3.elim
end
section
variable {X:Cx}{a b c e:lF}{ta:TE}{t:TA}
def mIx (K:Fgg):R2:=λx y H Q=>match y with
 |.int i=>(match x with
  |.ref p=>∃xs,(SqL K H p xs\/SqT K H p xs)/\(match atI xs i with |some v=>Q v H |none=>False)
  |.str z=>z.cps.toList.length<=lA/\(match atI z.cps.toList i with |some c=>Q (tx [c]) H |none=>False)
  |_=>False)
 |_=>False
theorem ix_M:IxR X (mIx X.K):=by
 intro value slice pins s σ H x y v u Q I rx ry h gC;unfold mIx at h;cases y with
 |int i=>
  cases x with
  |ref p=>
   obtain⟨xs,hs,h⟩:=h;cases ev:atI xs i with
   |none=>rw[ev]at h;exact h.elim
   |some w'=>
    rw[ev]at h;rcases hs with hs |hs
    ·exact zmx_ value slice pins s σ H _ _ v u Q I rx ry ⟨p,xs,i,w',rfl,rfl,hs,ev,h⟩ gC
    ·exact zpi_ value slice pins s σ H _ _ v u Q I rx ry ⟨p,xs,i,w',rfl,rfl,hs,ev,h⟩ gC
  |str z=>
   obtain⟨hz,h⟩:=h;cases ev:atI z.cps.toList i with
   |none=>rw[ev]at h;exact h.elim
   |some w'=>
    rw[ev]at h;exact zpv_ value slice pins s σ H _ _ v u Q I rx ry ⟨z,i,w',rfl,rfl,by simpa [ni]using hz,ev,h⟩ gC
  |_=>exact h.elim
 |_=>exact h.elim
def mSl (K:Fgg):V->Option Int->Option Int->Hp->VK->Prop:=λx lo hi H Q=>match x with
 |.str z=>z.cps.toList.length<=lA/\Q (tx (cutL z.cps.toList lo hi)) H
 |.ref a=>∃xs,SqL K H a xs/\∀p,H p=uO->Q (.ref p) (upd H p (.lst (cutV xs lo hi)))
 |_=>False
theorem sl_M:SlR X (mSl X.K):=by
 intro pins s σ H x v vl vu lo hi sl Q I rx hs pl pu h;unfold mSl at h;cases x with
 |str z=>exact zb9_ pins s σ H _ v vl vu lo hi sl Q I rx hs pl pu ⟨by simpa [ni]using h.1,h.2⟩
 |ref p=>
  obtain⟨xs,h1,h2⟩:=h;exact zmF_ pins s σ H _ v vl vu lo hi sl Q I rx hs pl pu ⟨p,xs,rfl,h1,h2⟩
 |_=>exact h.elim
def mPart (t:TE):TO:=λσ H Q=>t σ H λx H1=>match x with |.int i=>Q (uN i) H1 |_=>False
theorem po_M (h:PE X e ta):PO X (uN e) (mPart ta):=by
 intro pins s σ H Q I hw;rw[evalPart_some];refine thn (h pins s σ H _ I hw) λu s1 ae=>?_
 obtain⟨x,H1,I1,r1,q1⟩:=ae;cases x with
 |int i=>obtain⟨t,rfl⟩:=r1;exact⟨uN i,H1,I1,.int i t,q1⟩
 |_=>exact q1.elim
def mLen (K:Fgg):List V->Hp->VK->Prop:=λxs H Q=>match xs with
 |[.str z]=>z.cps.toList.length<=lA/\Q (.int z.cps.toList.length) H
 |[.ref p]=>∃ys,(SqL K H p ys\/SqT K H p ys)/\Q (.int ys.length) H
 |_=>False
theorem zjo_ {K:Fgg}{xs:List V}{H:Hp}{Q:VK}(h:mLen K xs H Q):(∃z,xs=[.str z]/\z.cps.toList.length<=lA/\Q (.int z.cps.toList.length) H)\/∃p ys,xs=[.ref p]/\(SqL K H p ys\/SqT K H p ys)/\Q (.int ys.length) H:=by
 rcases xs with _ |⟨x,_ |⟨y,t⟩⟩
 ·exact lZ h
 ·cases x with
  |str z=>exact .inl ⟨z,rfl,h⟩
  |ref p=>obtain⟨ys,h⟩:=h;exact .inr ⟨p,ys,rfl,h⟩
  |_=>exact lZ h
 ·cases x<;>exact lZ h
theorem zhy_:CallR X (.builtin "len") (mLen X.K):=by
 intro pins s σ H xs us Q I r h;rcases zjo_ h with⟨z,rfl,h⟩|⟨p,ys,rfl,h1,h2⟩
 ·exact zdS_ pins s σ H _ us Q I r ⟨_,rfl,by simpa [ni]using h.1,by simpa [ni]using h.2⟩
 ·exact zdK_ pins s σ H _ us Q I r ⟨_,ys,rfl,h1,h2⟩
def mTwo (g:Int->Int->Int):List V->Hp->VK->Prop:=λxs H Q=>match xs with |[.int i,.int j]=>Q (.int (g i j)) H |_=>False
theorem zjG_ {g:Int->Int->Int}{xs:List V}{H:Hp}{Q:VK}(h:mTwo g xs H Q):∃i j,xs=[.int i,.int j]/\Q (.int (g i j)) H:=by
 rcases xs with _ |⟨x,_ |⟨y,_ |⟨w,t⟩⟩⟩
 ·exact lZ h
 ·cases x<;>exact lZ h
 ·cases x with
  |int i=>cases y with
   |int j=>exact⟨i,j,rfl,h⟩
   |_=>exact lZ h
  |_=>exact lZ h
 ·cases x with
  |int i=>cases y<;>exact lZ h
  |_=>exact lZ h
theorem zh4_ (hc:X.calm=uP):CallR X (.builtin "min") (mTwo min):=by
 intro pins s σ H xs us Q I r h;obtain⟨i,j,rfl,h⟩:=zjG_ h;refine zil_ hc pins s σ H _ us Q I r ⟨i,j,rfl,?_⟩;have e:(if j<i then j else i)=min i j:=by split<;>lia
 rw[e];exact h
def tyS (K:Fgg)(H:Hp):V->String->Prop:=λx T=>match x with
 |.non=>T="NoneType" |.bl _=>T="bool" |.int _=>T="int" |.str _=>T="str"
 |.ref p=>(T="list" /\ ∃xs,H p=uN (.lst xs))\/(T="tuple" /\ ∃xs,H p=uN (.tup xs))
 |_=>False
theorem zpI_ {K:Fgg}{H:Hp}{x:V}{T:String}(h:tyS K H x T):TyOf K H x (.type T):=by
 unfold tyS at h;cases x with
 |non=>subst h;exact .non
 |bl b=>subst h;exact .bl b
 |int i=>subst h;exact .int i
 |str z=>subst h;exact .str z
 |ref p=>
  rcases h with⟨rfl,xs,h⟩|⟨rfl,xs,h⟩
  ·exact .lst h
  ·exact .tup h
 |_=>exact h.elim
noncomputable def isaB (T c:String):Option Bool:=
 if T=c then uN uP else if T="bool" /\ c="int" then uN uP
 else if(T="bool" \/ T="int" \/ T="str" \/ T="list" \/ T="tuple" \/ T="NoneType")/\(c="bool" \/ c="int" \/ c="str" \/ c="list" \/ c="tuple" \/ c="dict")then uN uQ else uO
theorem zlS_ {K:Fgg}{T c:String}{b:Bool}(h:isaB T c=uN b):ux K (.type T) (.type c)=uN b:=by
 unfold isaB at h;split at h
 ·rename_i e;subst e;cases h
  unfold ux;rw[if_pos (by simp)]
 ·split at h
  ·rename_i e;obtain⟨rfl,rfl⟩:=e;cases h;rfl
  ·split at h
   ·rename_i h1 h2 e
    cases h;obtain⟨e1,e2⟩:=e;rcases e1 with rfl |rfl |rfl |rfl |rfl |rfl<;>rcases e2 with rfl |rfl |rfl |rfl |rfl |rfl<;>first |rfl |exact absurd rfl h1 |exact absurd ⟨rfl,rfl⟩ h2
   ·cases h
noncomputable def findS (l:List Nat)(t:List Nat):Int:=Txt.find ⟨l.toArray⟩ ⟨t.toArray⟩
theorem zfX_ (l:List Nat)(c:Nat):findS l [c]=(match l.findIdx? (· == c)with |some i=>(i:Int)|none => -1):=by
 unfold findS;rcases find_whole ⟨l.toArray⟩ ⟨[c].toArray⟩with⟨h1,h2⟩|⟨i,h1,h2,h3⟩
 ·rw[h1]
  have:l.findIdx? (· == c)=uO:=by
   rw[p7];intro x hx;obtain⟨j,hj⟩:=List.mem_iff_getElem?.mp hx;by_cases hxc:x=c
   ·subst hxc
    exact absurd ((qa ⟨l.toArray⟩ x j).mpr (by simpa using hj)) (h2 j)
   ·simpa using hxc
  rw[this]
 ·rw[h1]
  have hi:l[i]?=uN c:=by simpa using(qa ⟨l.toArray⟩ c i).mp h2
  have:l.findIdx? (· == c)=uN i:=by
   obtain⟨aC,hget⟩:=lD.mp hi;rw[List.findIdx?_eq_some_iff_getElem];refine⟨aC,by simp[hget],λj hj=>?_⟩
   have gK:j<l.length:=tM hj aC;have hn:=h3 j hj;intro hc;have aA:l[j]=c:=by simpa using hc
   exact hn ((qa ⟨l.toArray⟩ c j).mpr (by simp[gK,aA]))
  rw[this]
def mIndex:V->List V->Hp->VK->Prop:=λx xs H Q=>match x,xs with |.str l,[.str t]=>findS l.cps.toList t.cps.toList ≠ -1/\Q (.int (findS l.cps.toList t.cps.toList)) H |_,_=>False
theorem zjw_:MtR X "str.index" mIndex:=by
 intro pins s σ H x xs v us Q I rx rv h;unfold mIndex at h;split at h
 ·rename_i l t
  obtain⟨k,rfl⟩:=rx;obtain⟨u,rfl,ru⟩:=rv.one;obtain⟨k',rfl⟩:=ru;have e:Txt.find l t=findS l.cps.toList t.cps.toList:=by unfold findS;rw[<- zaw_,<- zaw_]
  rw[<- e]at h;unfold Txt.find at h;cases ho:nq l t 0 l.length 1 with
  |nil=>rw[ho]at h;exact absurd rfl h.1
  |cons i rest=>
   rw[ho]at h;exact SC.index ho ⟨.int _,H,I.tok _,⟨_,rfl⟩,h.2⟩
 ·exact h.elim
noncomputable def strsOf:List V->Option (List Str)
 |[]=>uN []
 |.str z::r=>(strsOf r).map (z::·)
 |_::_=>uO
theorem zgW_ {vs:List V}{zs:List Str}:strsOf vs=uN zs->vs=zs.map V.str:=by
 induction vs generalizing zs with
 |nil=>intro h;cases h;rfl
 |cons v r ih=>
  intro h;cases v with
  |str z=>
   unfold strsOf at h;cases e:strsOf r with
   |none=>rw[e]at h;cases h
   |some y=>rw[e]at h;cases h;rw[ih e];rfl
  |_=>cases h
noncomputable def joinS (sep:List Nat)(zs:List Str):List Nat:=(Txt.join ⟨sep.toArray⟩ zs).cps.toList
def mJoin (K:Fgg):V->List V->Hp->VK->Prop:=λx xs H Q=>match x,xs with
 |.str l,[.ref D]=>∃vs,(SqL K H D vs)/\(match strsOf vs with |some zs=>JoinOk l zs=uP/\Q (tx (joinS l.cps.toList zs)) H |none=>False)
 |_,_=>False
theorem zeI_:∀{zs:List Str}{us:List aU},Vals (zs.map V.str) us->∃l:List (Str×Tok),us=strValues l/\l.map (·.1)=zs
 |[],us,r=>by cases r;exact⟨[],rfl,rfl⟩
 |z::zs,us,r=>by
  cases r with
  |cons r rr=>
   obtain⟨t,rfl⟩:=r;obtain⟨l,rfl,hl⟩:=zeI_ rr;exact⟨(z,t)::l,rfl,by rw[lj,hl]⟩
theorem zik_ {K:Fgg}{x:V}{xs:List V}{H:Hp}{Q:VK}(h:mJoin K x xs H Q):∃l D,x=.str l/\xs=[.ref D]/\∃vs,(SqL K H D vs)/\(match strsOf vs with |some zs=>JoinOk l zs=uP/\Q (tx (joinS l.cps.toList zs)) H |none=>False):=by
 cases x with
 |str l=>
  rcases xs with _ |⟨y,_ |⟨z,t⟩⟩
  ·exact lZ h
  ·cases y with
   |ref t=>exact⟨l,t,rfl,rfl,h⟩
   |_=>exact lZ h
  ·cases y<;>exact lZ h
 |_=>exact lZ h
theorem zmP_:MtR X "str.join" (mJoin X.K):=by
 intro pins s σ H x xs v us Q I rx rv h;obtain⟨l,D,rfl,rfl,h⟩:=zik_ h
 ·obtain⟨k,rfl⟩:=rx
  obtain⟨u,rfl,ru⟩:=rv.one;cases ru;obtain⟨vs,hs,h⟩:=h;cases ez:strsOf vs with
  |none=>rw[ez]at h;exact h.elim
  |some zs=>
   rw[ez]at h;have ev:=zgW_ ez;subst ev;obtain⟨aa,r,p,hz⟩:=I.list hs;obtain⟨lz,e1,e2⟩:=zeI_ r;subst e1;refine SC.join p.isList e2 h.1 λt' k'=>⟨tx (joinS l.cps.toList zs),H,I.tok _,⟨t',?_⟩,h.2⟩
   unfold joinS;rw[<- zaw_,<- zaw_]
end
theorem zkx_ (zs:List Str):joinS [] zs=(zs.map λz=>z.cps.toList).flatten:=by
 unfold joinS Txt.join uK;cases zs with
 |nil=>rfl
 |cons z r=>
  show((r.foldl (λacc p=>acc++#[]++p.cps) z.cps)).toList=_
  have:∀(acc:Array Nat),(r.foldl (λacc p=>acc++#[]++p.cps) acc).toList=acc.toList++(r.map λz=>z.cps.toList).flatten:=by
   induction r with
   |nil=>intro acc;simp
   |cons y r ih=>intro acc;rw[oQ,ih];simp
  rw[this];simp
def Gd (P:lQ)(w:l9)(K:Fgg)(mg:Str->Option aU)(base:Heap)(CX:CXT)(k:Nat)(x:Str)(ps:List Str)(sp:Sp):Prop:=
 ∃f fd,FnOk P w K mg base CX k f fd ps sp/\mg x=uN (.ref f)/\oF K (.ref f)=uP/\Binds K fd ps []
def Gc (mg:Str->Option aU)(x:Str)(v:V):Prop:=∃u,mg x=uN u/\RelV v u
abbrev Gb (mg:Str->Option aU)(x:Str):Prop:=mg x=uO
section
variable {X:Cx}{x:Str}{p pos:Pos}{e:lF}{es:List lF}{t:TA}{tg:lF}
theorem pe_gc {v:V}(h:Gc X.mg x v)(hg:Gl X x:=by rfl)(hd:(x==("__debug__":Str))=uQ:=by decide):PE X (.Name x pos) (tC v):=by
 obtain⟨u,hm,r⟩:=h;exact zlU_ hg hm r hd
theorem pe_ty (T:String)(hm:Gb X.mg x)(hg:Gl X x:=by rfl)(hv:nH x=uN (.type T):=by rfl)(hn:x ≠ "__name__":=by decide)(hd:(x==("__debug__":Str))=uQ:=by decide):PE X (.Name x pos) (tC (.ty T)):=
 znK_ hg hm hv rfl hn hd
theorem zml_ {id:String}{r:List V->Hp->VK->Prop}(hc:CallR X (.builtin id) r)(hm:Gb X.mg x)(ha:PA X (e::es) t)(hg:Gl X x:=by rfl)(hv:nH x=uN (.builtin id):=by rfl)(hn:x ≠ "__name__":=by decide)(aZ:(x==("__debug__":Str))=uQ:=by decide)
  (hs:lW (e::es) X.env=(uQ,eval e X.env)::lW es X.env:=by rfl) (aT:(oz pos (lW es X.env)).any (·.1)=uQ:=by rfl):PE X (.Call (.Name x p) (e::es) [] pos) (tCB r t):=
 zjP_ hc hg hm hv ha hn aZ hs aT
theorem zqm_ {o:lF}{to:TE}{name:Str}{id:String}{r:V->List V->Hp->VK->Prop}{apos ak:Pos}(slot:Slot "str" name id)(eC:typeOf (.builtin id)=pure (.type "method_descriptor"))(hm:MtR X id r)(ho:PE X o to)(ha:PA X (e::es) t)
  (h1:attributeBase o name X.env (eval o X.env)=eval o X.env:=by rfl) (h2:((((oz ak (lW (e::es) X.env)).all λx=>!x.fst) && (qO ak (pQ [] X.env)).all λx=>x.fst.isSome) && decide (((e::es).length+([]:List Keyword).length+if([]:List Keyword).isEmpty=uP then 0 else 1)<30))=uP:=by rfl)
  (h3:(apos.endLine == ak.line)=uP:=by rfl) (h4:lW (e::es) X.env=(uQ,eval e X.env)::lW es X.env:=by rfl) (h5:((oz ak (lW es X.env)).any λx=>x.fst)=uQ:=by rfl):
  PE X (.Call (.Attribute o name apos) (e::es) [] ak) (tBM X.K "str" r to t):=zpU_ PySem.F.plainAttrs_str slot eC hm ho ha h1 h2 h3 h4 h5
def iAny (K:Fgg)(tl:TE):TI:=λσ H R=>tl σ H λx H1=>match x with
 |.str z=>R (Itp z.cps.toList.length (λi=>tx [z.cps.toList.getD i 0])) H1
 |.ref a=>((∃xs,SqL K H1 a xs)/\R (Itl K a) H1)\/((∃xs,SqT K H1 a xs)/\R (Itt K a) H1)
 |_=>False
theorem zlt_ (z:Str):sgn z=λi=>tx [z.cps.toList.getD i 0]:=by
 funext i;unfold sgn;simp[mM,lM]
theorem zoj_ {l:lF}{tl:TE}(hl:PE X l tl):PI X tg l (iAny X.K tl):=by
 intro pins s σ H R I h;refine thn (hl pins s σ H _ I h) λv s1 ae=>?_
 obtain⟨x,H1,I1,r1,q1⟩:=ae;have pt:∀(v:V),PE X l (tC v)->PE X l (tC v):=λ_ h=>h
 cases x with
 |str z=>
  obtain⟨t,rfl⟩:=r1;refine wpAny_pyIter_strU ?_;have q:R (Itp z.cps.size (sgn z)) H1:=by
   have e:z.cps.toList.length=z.cps.size:=by simp
   rw[zlt_,<- e];exact q1
  refine⟨s1.heap.objs.size,[s1.heap.objs.size],_,_,H1,rfl,I1.kept (t':=s1.toks) λb o e=>kQ _ e,zjI_ _ z t,⟨me _,⟨_,lC _ rfl,rfl,rfl⟩⟩,λb hb=>?_,q⟩
  have e:b=s1.heap.objs.size:=by simpa using hb
  subst e;exact I1.fpOk (kZ _) (I1.hok.fresh (kZ _))
 |ref a=>
  cases r1;rcases q1 with⟨⟨xs,hq⟩,q⟩|⟨⟨xs,hq⟩,q⟩
  ·obtain⟨aa,rv,p,hz⟩:=I1.list hq
   refine wpAny_pyIter_list p.isList ?_;refine⟨s1.heap.objs.size,[s1.heap.objs.size],_,_,H1,rfl,I1.kept (t':=s1.toks) λb o e=>kQ _ e,zh0_ a _,⟨_,lC _ rfl,rfl,rfl⟩,λb hb=>?_,q⟩
   have e:b=s1.heap.objs.size:=by simpa using hb
   subst e;exact I1.fpOk (kZ _) (I1.hok.fresh (kZ _))
  ·obtain⟨aa,rv,p,hz⟩:=I1.tuple hq
   refine wpAny_pyIter_tuple (show s1.heap.IsTuple a aa.toArray from p) ?_
   refine⟨s1.heap.objs.size,[s1.heap.objs.size],_,_,H1,rfl,I1.kept (t':=s1.toks) λb o e=>kQ _ e,zfi_ a _,⟨_,lC _ rfl,rfl,rfl⟩,λb hb=>?_,q⟩
   have e:b=s1.heap.objs.size:=by simpa using hb
   subst e;exact I1.fpOk (kZ _) (I1.hok.fresh (kZ _))
 |_=>exact q1.elim
def mRng1 (ta:TA):TI:=λσ H R=>ta σ H λvs H1=>match vs with |[.int j] => -(2 ^ 62)<=j/\j<2 ^ 62/\R (Itr 0 j.toNat) H1 |_=>False
def mRng2 (ta:TA):TI:=λσ H R=>ta σ H λvs H1=>match vs with |[.int i,.int j]=>(-(2 ^ 62)<=i/\i<2 ^ 62 /\ -(2 ^ 62)<=j/\j<2 ^ 62)/\R (Itr i (j-i).toNat) H1 |_=>False
end
section
variable {X:Cx}{tg:lF}
theorem zjj_ {a:lF}{ta:TA}{p pos:Pos}(hm:Gb X.mg "range")(ha:PA X [a] ta)(hg:Gl X "range":=by rfl)(hs:lW [a] X.env=[(uQ,eval a X.env)]:=by rfl):PI X tg (.Call (.Name "range" p) [a] [] pos) (mRng1 ta):=by
 intro pins s σ H R I h;refine Call_ (zde_ I hg hm boot_range (mW (thn (ha pos pins s σ H _ I h) λus s1 ae=>?_) hs rfl))
 obtain⟨vs,H1,I1,r1,q1⟩:=ae
 try dsimp only at q1
 split at q1
 ·obtain⟨q2,q3,q⟩:=q1
  cases r1 with
  |cons r rr=>
   cases rr;obtain⟨t,rfl⟩:=r;exact call_range_1 (zg7_ I1 (by lia) (by lia) q2 q3 (by simpa using q))
 ·exact q1.elim
theorem zj9_ {a b:lF}{ta:TA}{p pos:Pos}(hm:Gb X.mg "range")(ha:PA X [a,b] ta)(hg:Gl X "range":=by rfl)(hs:lW [a,b] X.env=[(uQ,eval a X.env),(uQ,eval b X.env)]:=by rfl)(aQ:lW [b] X.env=[(uQ,eval b X.env)]:=by rfl):
  PI X tg (.Call (.Name "range" p) [a,b] [] pos) (mRng2 ta):=by
 intro pins s σ H R I h;refine Call_ (zde_ I hg hm boot_range (mW (thn (ha pos pins s σ H _ I h) λus s1 ae=>?_) (by rw[hs,aQ]) (by rw[aQ];rfl)))
 obtain⟨vs,H1,I1,r1,q1⟩:=ae
 try dsimp only at q1
 split at q1
 ·obtain⟨⟨q1,q2,q3,q4⟩,q⟩:=q1
  cases r1 with
  |cons r rr=>
   cases rr with
   |cons r' rr=>
    cases rr;obtain⟨t,rfl⟩:=r;obtain⟨t',rfl⟩:=r';exact call_range_2 (zg7_ I1 q1 q2 q3 q4 q)
 ·exact q1.elim
variable {elts:List lF}{kk:Nat}{cV:Pos}
def iEnum (K:Fgg)(ta:TA):TI:=λσ H R=>ta σ H λvs H1=>match vs with
 |[.str z]=>R (Ites z.cps.toList.length (λi=>tx [z.cps.toList.getD i 0])) H1
 |[.ref a]=>(∃xs,SqL K H1 a xs)/\R (Ite K a) H1
 |_=>False
theorem zm7_ {a:lF}{ta:TA}{p pos:Pos}(hm:Gb X.mg "enumerate")(ha:PA X [a] ta)(hg:Gl X "enumerate":=by rfl)(hs:lW [a] X.env=[(uQ,eval a X.env)]:=by rfl):
  PI X (.Tuple elts kk cV) (.Call (.Name "enumerate" p) [a] [] pos) (iEnum X.K ta):=by
 intro pins s σ H R I h;refine Call_ (zde_ I hg hm (u:=.type "enumerate") (by rfl) (mW (thn (ha pos pins s σ H _ I h) λus s1 ae=>?_) hs rfl))
 obtain⟨vs,H1,I1,r1,q1⟩:=ae
 try dsimp only at q1
 split at q1
 ·rename_i z
  cases r1 with
  |cons r rr=>
   cases rr;obtain⟨t,rfl⟩:=r;refine call_enumerate_str λh' he hit hsz hk=>?_
   refine wpAny_pyIter_enum (s:={s1 with heap:=h'}) he ?_;have I2:Inv X pins σ H1 {s1 with heap:=h'}:=I1.kept (t':=s1.toks) hk;have q:R (Ites z.cps.size (sgn z)) H1:=by
    have e:z.cps.toList.length=z.cps.size:=by simp
    rw[zlt_,<- e];exact q1
   refine⟨s1.heap.objs.size+1,[s1.heap.objs.size+1,s1.heap.objs.size],_,_,H1,rfl,I2,zgE_ _ _ z t (by simp),⟨⟨_,he⟩,me _,hit⟩,λb hb=>?_,q⟩
   have dw:s1.heap.objs.size<=b:=by
    rcases lI.mp hb with rfl |hb
    ·exact ot _
    ·have e:b=s1.heap.objs.size:=by simpa using hb
     subst e;exact kZ _
   exact I1.fpOk dw (I1.hok.fresh dw)
 ·rename_i l
  obtain⟨⟨xs,hq⟩,q⟩:=q1;cases r1 with
  |cons r rr=>
   cases rr;cases r;obtain⟨aa,rv,p,hz⟩:=I1.list hq;refine call_enumerate_list p.isList λh' he hit hsz hk=>?_
   refine wpAny_pyIter_enum (s:={s1 with heap:=h'}) he ?_;have I2:Inv X pins σ H1 {s1 with heap:=h'}:=I1.kept (t':=s1.toks) hk;refine⟨s1.heap.objs.size+1,[s1.heap.objs.size+1,s1.heap.objs.size],_,_,H1,rfl,I2,zfs_ _ _ l (by simp),⟨⟨_,he⟩,hit⟩,λb hb=>?_,q⟩
   have dw:s1.heap.objs.size<=b:=by
    rcases lI.mp hb with rfl |hb
    ·exact ot _
    ·have e:b=s1.heap.objs.size:=by simpa using hb
     subst e;exact kZ _
   exact I1.fpOk dw (I1.hok.fresh dw)
 ·exact q1.elim
def gNilM:TGs:=λvs σ H Q=>match vs with |[]=>Q σ H |_=>False
def gConsM (t:TG)(u:TGs):TGs:=λvs σ H Q=>match vs with |v::r=>t v σ H λah H'=>u r ah H' Q |[]=>False
theorem zkJ_:PGs X [] gNilM:=by
 intro pins s σ H vs us Q I r h;cases vs with
 |nil=>exact zlQ_ pins s σ H [] us Q I r ⟨rfl,h⟩
 |cons _ _=>exact h.elim
theorem zh9_ {e:lF}{es:List lF}{t:TG}{u:TGs}(h1:PG X e t)(h2:PGs X es u)
  (hs:(nh (e::es) X.env).map (·.2)=assign e X.env::(nh es X.env).map (·.2):=by rfl):PGs X (e::es) (gConsM t u):=by
 intro pins s σ H vs us Q I r h;cases vs with
 |nil=>exact h.elim
 |cons v vr=>exact zjd_ h1 h2 hs pins s σ H _ us Q I r ⟨v,vr,rfl,h⟩
def gTupM (K:Fgg)(n:Nat)(t:TGs):TG:=λv σ H Q=>match v with |.ref a=>∃xs,SqT K H a xs/\xs.length=n/\t xs σ H Q |_=>False
theorem znD_ {es:List lF}{k:Nat}{t:TGs}{n:Nat}{pos:Pos}(hc:X.calm=uP)(h:PGs X es t)
  (hn:(nh es X.env).length=n:=by rfl) (gB:(nh es X.env).findIdx? (·.1)=uO:=by rfl):PG X (.Tuple es k pos) (gTupM X.K n t):=by
 intro pins s σ H v u Q I r hw;cases v with
 |ref a=>
  obtain⟨xs,h1,h2,h3⟩:=hw;exact zqC_ hc h hn gB pins s σ H _ u Q I r ⟨a,xs,rfl,h1,h2,h3⟩
 |_=>exact hw.elim
def mNeg (ta:TE):TE:=λσ H Q=>ta σ H λx H1=>match x with |.int i=>Q (.int (-i)) H1 |_=>False
theorem zoR_ {a:lF}{ta:TE}{pos:Pos}(ha:PE X a ta):PE X (.UnaryOp .USub a pos) (mNeg ta):=by
 intro pins s σ H Q I h;refine UnaryOp_ (thn (ha pins s σ H _ I h) λv s1 ae=>?_)
 obtain⟨x,H1,I1,r1,q1⟩:=ae;cases x with
 |int i=>exact zn0_ pins s1 σ H1 _ v Q I1 r1 ⟨i,rfl,q1⟩
 |_=>exact q1.elim
end
theorem zP_ {H:Hp}{p:k9}(h:H p=uO)(o:HO):Same H (upd H p o):=λb u q=>by rw[zc_ (zd_ q h)];exact q
theorem za3_ {n:Nat}(h:n<=100000):n<=lA:=by rw[sizeLine_eq];lia
theorem zdV_ {zs:List Str}{sep:Str}(h:zs.length*(sep.length+1)<=100000)(h1:∀z∈zs,z.length<=1):JoinOk sep zs=uP:=by
 unfold JoinOk;have key:∀(l:List Str) (acc:Nat),(∀z∈l,z.length<=1)->l.foldl (λx1 x2=>x1+x2.length+sep.length) acc<=acc+l.length*(sep.length+1):=by
  intro l;induction l with
  |nil=>intro acc _;simp
  |cons z r ih=>
   intro acc hz;rw[oQ];have h2:=ih (acc+z.length+sep.length) λy hy=>hz y (lL _ hy)
   have h3:=hz z lO;rw[lg,Nat.add_mul];omega
 have q:=key zs 0 h1;rw[List.foldl_toArray];unfold pW;simp only[qb,decide_eq_false_iff_not];have:zs.foldl (λx1 x2=>x1+x2.length+sep.length) 0<=100000:=by omega
 have hl:(100000:Nat)<=lA:=by rw[sizeLine_eq];omega
 omega
section
variable {X:Cx}
def mSet:TSet:=λo i v H Q=>match i with
 |.int k=>(match o with
  |.ref p=>∃xs,H p=uN (.lst xs)/\(match ixN xs.length k with |some j=>Q (upd H p (.lst (xs.set j v)))|none=>False)
  |_=>False)
 |_=>False
theorem set_M:PSet X mSet:=by
 intro pins s σ H o i v ov iv u Q I ro ri rv h;unfold mSet at h;cases i with
 |int k=>
  cases o with
  |ref p=>
   obtain⟨xs,h1,h⟩:=h;cases e:ixN xs.length k with
   |none=>rw[e]at h;exact h.elim
   |some j=>
    rw[e]at h;exact zjn_ pins s σ H _ _ v ov iv u Q I ro ri rv ⟨p,xs,k,j,rfl,rfl,h1,e,h⟩
  |_=>exact h.elim
 |_=>exact h.elim
noncomputable def strI (i:Int):List Nat:=(ou (toString i)).cps.toList
def mStr:List V->Hp->VK->Prop:=λxs H Q=>match xs with |[.int i]=>i.natAbs.log2<1920/\Q (tx (strI i)) H |_=>False
theorem zhA_:CallR X (.type "str") mStr:=by
 intro pins s σ H xs us Q I r h;unfold mStr at h;split at h
 ·rename_i i
  refine zdH_ pins s σ H _ us Q I r ⟨i,rfl,h.1,?_⟩;have e:tx (strI i)=V.str (ou (toString i)):=by unfold strI tx;rw[<- zaw_]
  rw[<- e];exact h.2
 ·exact h.elim
def mZfill:V->List V->Hp->VK->Prop:=λx xs H Q=>match x,xs with |.str l,[.int i]=>PadOk i=uP/\Q (tx (Txt.zfill l i).cps.toList) H |_,_=>False
theorem zkg_:MtR X "str.zfill" mZfill:=by
 intro pins s σ H x xs v us Q I rx rv h;have hi:∃l i,x=.str l/\xs=[.int i]/\PadOk i=uP/\Q (tx (Txt.zfill l i).cps.toList) H:=by
  cases x with
  |str l=>
   rcases xs with _ |⟨y,_ |⟨z,t⟩⟩
   ·exact lZ h
   ·cases y with
    |int t=>exact⟨l,t,rfl,rfl,h⟩
    |_=>exact lZ h
   ·cases y<;>exact lZ h
  |_=>exact lZ h
 obtain⟨l,i,rfl,rfl,h⟩:=hi;obtain⟨k,rfl⟩:=rx;obtain⟨u,rfl,ru⟩:=rv.one;obtain⟨k',rfl⟩:=ru;exact SC.zfill h.1 λt' k=>⟨tx (Txt.zfill l i).cps.toList,H,I.tok _,⟨t',by rw[<- zaw_]⟩,h.2⟩
variable {x:Str}{p pos:Pos}{e:lF}{es:List lF}{t:TA}
theorem znQ_ (T:String){r:List V->Hp->VK->Prop}(hc:CallR X (.type T) r)(hm:Gb X.mg x)(ha:PA X (e::es) t)(hg:Gl X x:=by rfl)(hv:nH x=uN (.type T):=by rfl)(hn:x ≠ "__name__":=by decide)(aZ:(x==("__debug__":Str))=uQ:=by decide)
  (hs:lW (e::es) X.env=(uQ,eval e X.env)::lW es X.env:=by rfl) (aT:(oz pos (lW es X.env)).any (·.1)=uQ:=by rfl):PE X (.Call (.Name x p) (e::es) [] pos) (tCB r t):=
 zic_ hc hg hm hv ha hn aZ hs aT
end
theorem zbg_ {i:Int}(h0 : -1000<=i)(h1:i<=1000):PadOk i=uP:=by
 unfold PadOk fitsSsize pW;have h3:(100000:Nat)<=lA:=by rw[sizeLine_eq];lia
 simp only[kJ,qb,decide_eq_true_eq,decide_eq_false_iff_not,Bool.or_eq_false_iff];lia
noncomputable def digs:Nat->Nat->List Nat
 |0,_=>[]
 |w+1,n=>digs w (n / 10)++[48+n % 10]
theorem zr_:∀(w n:Nat),(digs w n).length=w
 |0,_=>rfl
 |w+1,n=>by rw[digs,lE,zr_ w];rfl
theorem zeq_:∀(w:Nat),digs w 0=lJ w 48
 |0=>rfl
 |w+1=>by rw[digs,zeq_ w,List.replicate_succ']
theorem zfu_:∀(w n:Nat),digs w (n % 10 ^ w)=digs w n
 |0,_=>rfl
 |w+1,n=>by
  rw[digs,digs];have e1:n % 10 ^ (w+1) % 10=n % 10:=by
   rw[qE,Nat.mod_mul_left_mod]
  have e2:n % 10 ^ (w+1) / 10=n / 10 % 10 ^ w:=by
   rw[qE,Nat.mod_mul_left_div_self]
  rw[e1,e2,zfu_ w]
def dg (m:Nat):List Nat:=(qF 10 m).map Char.toNat
theorem zdO_ (m:Nat):strI (m:Int)=dg m:=W.KIN.signs_num m
theorem zc0_:∀d:Nat,d<10->(qX d).toNat=48+d:=by decide
theorem zqe_ {m:Nat}(h:m<10):dg m=[48+m]:=by
 unfold dg;rw[qo h];show[(qX m).toNat]=_
 rw[zc0_ m h]
theorem dg_ge {m:Nat}(h:¬m<10):dg m=dg (m / 10)++[48+m % 10]:=by
 unfold dg;have hm:m % 10<10:=Nat.mod_lt m (by decide)
 have t:qF 10 (m / 10)++qF 10 (m % 10)=qF 10 (10*(m / 10)+m % 10):=Nat.toDigits_append_toDigits (by decide) (by lia) hm
 rw[Nat.div_add_mod]at t;rw[<- t,om,qo hm];show _++[(qX (m % 10)).toNat]=_
 rw[zc0_ _ hm]
theorem zlM_:∀(w m:Nat),m<10 ^ (w+1)->(dg m).length<=w+1/\lJ (w+1-(dg m).length) 48++dg m=digs (w+1) m
 |w,m,h=>by
  by_cases hm:m<10
  ·rw[zqe_ hm]
   refine⟨by show 1<=w+1;lia,?_⟩
   rw[digs,show m / 10=0 by lia,zeq_,show m % 10=m by lia]
   rfl
  ·cases w with
   |zero=>exact absurd h (by simpa using hm)
   |succ w=>
    have hd:m / 10<10 ^ (w+1):=by
     rw[Nat.div_lt_iff_lt_mul (by decide)]
     rw[qE]at h;exact h
    obtain⟨h1,h2⟩:=zlM_ w (m / 10) hd;rw[dg_ge hm];refine⟨by rw[lE];show _+1<=_;lia,?_⟩
    have e:digs (w+1+1) m=digs (w+1) (m / 10)++[48+m % 10]:=rfl;rw[e,<- h2,nu,lE];have e2:w+1+1-((dg (m / 10)).length+[48+m % 10].length)=w+1-(dg (m / 10)).length:=by
     show w+1+1-((dg (m / 10)).length+1)=_
     lia
    rw[e2]
theorem zlK_ (m:Nat):∃c r,dg m=c::r/\48<=c:=by
 induction m using Nat.strongRecOn with
 |_ m ih=>
  by_cases h:m<10
  ·exact⟨48+m,[],zqe_ h,by lia⟩
  ·obtain⟨c,r,e,hc⟩:=ih (m / 10) (by lia)
   exact⟨c,r++[48+m % 10],by rw[dg_ge h,e];rfl,hc⟩
theorem zds_ {w m:Nat}(hw:1<=w)(h:m<10 ^ w):(Txt.zfill ⟨(dg m).toArray⟩ (w:Int)).cps.toList=digs w m:=by
 obtain⟨w',rfl⟩:∃w',w=w'+1:=⟨w-1,by lia⟩
 obtain⟨h1,h2⟩:=zlM_ w' m h;have hl:(⟨(dg m).toArray⟩:Str).length=(dg m).length:=by simp[ni]
 unfold Txt.zfill;rw[hl];by_cases he:((w'+1:Nat):Int)<=((dg m).length:Int)
 ·rw[if_pos he]
  have e:(dg m).length=w'+1:=by lia
  rw[<- h2,e,tN];simp
 ·rw[if_neg he]
  obtain⟨c,r,ec,hc⟩:=zlK_ m;have e:zfilled ⟨(dg m).toArray⟩ ((((w'+1:Nat):Int)).toNat-(dg m).length)=rm ⟨(dg m).toArray⟩ ((((w'+1:Nat):Int)).toNat-(dg m).length) 0 48:=by
   unfold zfilled;have e0:((⟨(dg m).toArray⟩:Str).cps)[0]?=uN c:=by rw[ec];simp
   rw[e0];split
   ·rename_i h';cases h';lia
   ·rename_i h';cases h';lia
   ·rfl
  rw[e];unfold rm;rw[<- h2];simp
theorem zdm_:∀(j n:Nat),digs (j+1) n=(48+n / 10 ^ j % 10)::digs j n
 |0,n=>by simp[digs]
 |j+1,n=>by
  have e:digs (j+1+1) n=digs (j+1) (n / 10)++[48+n % 10]:=rfl;rw[e,zdm_ j (n / 10),Nat.div_div_eq_div_mul];have e2:10*10 ^ j=10 ^ (j+1):=by rw[qE,rG]
  rw[e2];rfl
theorem zen_ (l:List Nat):joinS [] (l.map λc=>(⟨#[c]⟩:Str))=l:=by
 rw[L2.zkx_,l8];induction l with
 |nil=>rfl
 |cons c r ih=>rw[lj,nr,ih];rfl
noncomputable def fig (c:Nat):Nat:=if 48<=c/\c<=57 then c else 48
noncomputable def numL (l:List Nat):Int:=l.foldl (λ(v:Int) (c:Nat)=>v*10+((c:Int)-48)) 0
theorem zc7_ {c:Nat}(h:48<=c/\c<=57):findS [48,49,50,51,52,53,54,55,56,57] [c]=(c:Int)-48:=by
 rw[zfX_];obtain⟨h1,h2⟩:=h;have:c=48\/c=49\/c=50\/c=51\/c=52\/c=53\/c=54\/c=55\/c=56\/c=57:=by lia
 rcases this with rfl |rfl |rfl |rfl |rfl |rfl |rfl |rfl |rfl |rfl<;>rfl
theorem zd5_ {c:Nat}(h:¬(48<=c/\c<=57)):findS [48,49,50,51,52,53,54,55,56,57] [c] = -1:=by
 rw[zfX_];have:sZ (· == c) [48,49,50,51,52,53,54,55,56,57]=uO:=by
  rw[p7];intro x hx;simp only[lI,o8,or_false]at hx;simp only[beq_eq_false_iff_ne,ne_eq];omega
 rw[this]
theorem zhO_ (c:Nat):inS [c] [48,49,50,51,52,53,54,55,56,57]=decide (48<=c/\c<=57):=by
 show decide (c∈[48,49,50,51,52,53,54,55,56,57])=_
 have h1:∀x∈[48,49,50,51,52,53,54,55,56,57],48<=x/\x<=57:=by decide
 have h2:∀k,k<10->48+k∈[48,49,50,51,52,53,54,55,56,57]:=by decide
 rw[decide_eq_decide];refine⟨h1 c,λh=>?_⟩
 have e:48+(c-48)=c:=Nat.add_sub_cancel' h.1;rw[<- e];exact h2 _ (Nat.lt_succ_of_le (Nat.sub_le_of_le_add h.2))
theorem zeo_ (c:Nat):48<=fig c/\fig c<=57:=by unfold fig;split<;>omega
section
end
def DAt (dx:k9)(fs:List (Str×V))(h:Heap):Prop:=∃mA,h.Ns1 dx mA/\(∀f,RelO (fs.lookup f) (mA f))/\qw mA (fs.map (·.1))
abbrev XDO (dx:k9)(fs:List (Str×V)):HO:=.ext (DAt dx fs)
section
end
def gA (K:Fgg)(x:Str):k9:=match ng K lH x with |some (uN (.ref c))=>c |_=>0
theorem zlr_ {K:Fgg}{x:Str}{c:k9}(h:ng K lH x=uN (uN (.ref c))):gA K x=c:=by unfold gA;rw[h]
section
end
end L2
namespace LX
open PySem PySem.W PySem.Calls PyProof.Rows Builtin Builtin.ObjectAttr Builtin.Getset_descriptor
section
end
end LX
namespace L2
open PySem PySem.Spec PyProof.Rows
section
variable {X:Cx}
def mAll (K:Fgg):List V->Hp->VK->Prop:=λxs H Q=>match xs with |[.ref p]=>∃bs:List Bool,SqL K H p (bs.map V.bl)/\Q (.bl (bs.all id)) H |_=>False
theorem zdo_:∀{bs:List Bool}{us:List aU},Vals (bs.map V.bl) us->us=bs.map oW
 |[],_,.nil=>rfl
 |b::bs,_,.cons r t=>by rw[zdo_ t];cases r;rfl
theorem ze6_ {P:lQ}{w:l9}{A:mh}{bs:List Bool}:TruthOf P w A (λi v=>(bs.map oW).toArray[i]?=uN v) (λi=>bs.getD i uQ):=by
 intro i v s Q E h q;have h':(bs.map oW)[i]?=uN v:=by simpa using h
 rw[lu]at h';cases e:bs[i]? with
 |none=>rw[e]at h';cases h'
 |some b=>
  rw[e]at h';cases h';have:bs.getD i uQ=b:=by rw[lM,e];rfl
  have q:Q (bs.getD i uQ) s:=q;rw[this]at q;exact l6 q
theorem zcA_ (bs:List Bool):(mf bs.length).all (λi=>bs.getD i uQ)=bs.all id:=by
 rw[Bool.eq_iff_iff,mC,mC];constructor
 ·intro h b hb
  obtain⟨i,hi,e⟩:=pX hb;have:=h i (mZ.mpr hi);rw[lM,kY hi]at this;rw[<- e];exact this
 ·intro h i hi
  have hi:=mZ.mp hi;rw[lM,kY hi];exact h _ (qp hi)
theorem zhE_ (hc:X.calm=uP):CallR X (.builtin "all") (mAll X.K):=by
 intro pins s σ H xs us Q I r h;unfold mAll at h;split at h
 ·rename_i p
  obtain⟨bs,hS,q⟩:=h;obtain⟨u,rfl,rx⟩:=vals1 r;cases rx;obtain⟨aa,rv,pl,hz⟩:=I.list hS;rw[zdo_ rv]at pl;have hp:=lh pl.isList.choose_spec.1;have eG:p≠s.heap.objs.size:=lN hp;refine call_all_walk (wpAny_pyIter_list pl.isList ⟨_,_,_,_,_,_,_,rfl,Walks.list (A:=X.A.in1) (I.ok.hd hc) _ p eG (bs.map oW).toArray,⟨⟨_,lC _ rfl,rfl,rfl⟩,pl.isList.at λo e=>kQ _ e⟩,ze6_,λh' tk kk=>?_⟩)
  refine⟨.bl (bs.all id),H,I.kept (t':=tk) λb o e=>kk b o (by simpa using lN (lh e)) (kQ _ e),?_,q⟩
  show oW _=_
  rw[k8,kX,zcA_]
 ·exact h.elim
def mRange:List V->Hp->VK->Prop:=λxs H Q=>match xs with
 |[.int j]=>∀p,H p=uO->Q (.ref p) (upd H p (.rng 0 j))
 |[.int i,.int j]=>∀p,H p=uO->Q (.ref p) (upd H p (.rng i j))
 |_=>False
theorem zeX_:CallR X (.type "range") mRange:=by
 intro pins s σ H xs us Q I r h;unfold mRange at h;split at h
 ·rename_i j
  obtain⟨u,rfl,t,rfl⟩:=vals1 r;refine call_range_1 ⟨.ref s.heap.objs.size,_,I.laid (o:=.rng 0 j) (λb ob q=>kQ _ q) (kZ _) ?_,rfl,h _ (I.hok.fresh (kZ _))⟩
  exact⟨_,_,_,lC _ rfl⟩
 ·rename_i i j
  obtain⟨u,u',rfl,⟨t,rfl⟩,⟨t',rfl⟩⟩:=vals2 r;refine call_range_2 ⟨.ref s.heap.objs.size,_,I.laid (o:=.rng i j) (λb ob q=>kQ _ q) (kZ _) ?_,rfl,h _ (I.hok.fresh (kZ _))⟩
  exact⟨_,_,_,lC _ rfl⟩
 ·exact h.elim
noncomputable def intsV (lo hi:Int):List V:=(mf (hi-lo).toNat).map λ(i:Nat)=>V.int (lo+i)
def mList (K:Fgg):List V->Hp->VK->Prop:=λxs H Q=>match xs with
 | [.ref p]=>(∃ys,(SqL K H p ys\/SqT K H p ys)/\∀l,H l=uO->Q (.ref l) (upd H l (.lst ys))) \/
   (∃lo hi,H p=uN (.rng lo hi)/\(-50000<=lo/\lo<=50000 /\ -50000<=hi/\hi<=50000)/\∀l,H l=uO->Q (.ref l) (upd H l (.lst (intsV lo hi))))
 |_=>False
theorem zjl_ {lo:Int}:∀{n:Nat}{us:List aU},us.length=n->(∀(j:Nat) (v:aU),us[j]?=uN v->∃t,v=qk (lo+j) t)->Vals ((mf n).map λ(i:Nat)=>V.int (lo+i)) us
 |n,us,hl,h=>by
  refine paired_of (by rw[kX,mr,hl]) λj x u hx hu=>?_
  rw[lu]at hx;cases e:(mf n)[j]? with
  |none=>rw[e]at hx;cases hx
  |some i=>
   rw[e]at hx;cases hx;have:=lD.mp e;obtain⟨hj,ej⟩:=this;rw[rp]at ej;subst ej;exact h j u hu
 where paired_of:∀{xs:List V}{us:List aU},xs.length=us.length->(∀(j:Nat) x u,xs[j]?=uN x->us[j]?=uN u->RelV x u)->Vals xs us
 |[],[],_,_=>.nil
 |x::xs,u::us,hl,h=>.cons (h 0 x u rfl rfl) (paired_of (mR hl) λj x u a b=>h (j+1) x u a b)
theorem zc2_ (hc:X.calm=uP):CallR X (.type "list") (mList X.K):=by
 intro pins s σ H xs us Q I r h;have hv:∃p,xs=[.ref p]:=by
  rcases xs with _ |⟨y,_ |⟨z,t⟩⟩
  ·exact lZ h
  ·cases y with
   |ref p=>exact⟨p,rfl⟩
   |_=>exact lZ h
  ·cases y<;>exact lZ h
 obtain⟨p,rfl⟩:=hv
 ·rcases h with⟨ys,hq,q⟩|⟨lo,hi,hp,⟨h1,h2,h3,h4⟩,q⟩
  ·exact zd7_ pins s σ H _ us Q I r ⟨p,ys,rfl,hq,q⟩
  ·obtain⟨u,rfl,rx⟩:=vals1 r
   cases rx;obtain⟨t,u,v,e⟩:=I.hok p _ hp;have hn:ql lo hi 1=(((hi-lo).toNat:Nat):Int):=by rw[rangeSize_one];split<;>lia
   refine call_list_range (I.ok.hd hc) e (small_one (by lia) (by lia) (by lia) (by lia)) hn (by lia) λh' tk acc c' kp e' ae=>?_
   obtain⟨hs,dt⟩:=ae;refine⟨.ref s.heap.objs.size,_,I.laid (o:=.lst (intsV lo hi)) (t':=tk) kp (kZ _) ?_,rfl,q _ (I.hok.fresh (kZ _))⟩;refine⟨?_,acc.toList,c',zjl_ (by simpa using hs) (λj v hv=>?_),by simpa using e'⟩
   ·unfold intsV;rw[kX,mr];exact za3_ (by lia)
   ·obtain⟨t,ht⟩:=dt j v (by simpa using hv)
    exact⟨t,by rw[ht];simp⟩
end
inductive EqD (K:Fgg) (H:Hp):Nat->V->V->Bool->Prop
 |flat {x y:V}(hx:flatV x=uP) (hy:flatV y=uP):EqD K H 0 x y (eqV x y)
 |lst {n:Nat}{p q:k9}{xs ys:List V}(e:Nat->Bool) (hp:SqL K H p xs) (hq:SqL K H q ys) (hl:xs.length=ys.length) (h:∀(i:Nat) x y,xs[i]?=uN x->ys[i]?=uN y->EqD K H n x y (e i)):EqD K H (n+1) (.ref p) (.ref q) ((mf xs.length).all e)
 |lstN {n:Nat}{p q:k9}{xs ys:List V}(hp:SqL K H p xs) (hq:SqL K H q ys) (hl:xs.length≠ys.length):EqD K H n (.ref p) (.ref q) uQ
 |tup {n:Nat}{p q:k9}{xs ys:List V}(e:Nat->Bool) (hp:SqT K H p xs) (hq:SqT K H q ys) (h:∀(i:Nat) x y,xs[i]?=uN x->ys[i]?=uN y->EqD K H n x y (e i)):EqD K H (n+1) (.ref p) (.ref q) ((mf (min xs.length ys.length)).all e && xs.length == ys.length)
 |lt {n:Nat}{p q:k9}{xs ys:List V}(hp:SqL K H p xs) (hq:SqT K H q ys):EqD K H n (.ref p) (.ref q) uQ
 |tl {n:Nat}{p q:k9}{xs ys:List V}(hp:SqT K H p xs) (hq:SqL K H q ys):EqD K H n (.ref p) (.ref q) uQ
 |lf {n:Nat}{p:k9}{xs:List V}{y:V}(hp:SqL K H p xs) (hy:flatV y=uP):EqD K H n (.ref p) y uQ
 |fl {n:Nat}{p:k9}{xs:List V}{y:V}(hp:SqL K H p xs) (hy:flatV y=uP):EqD K H n y (.ref p) uQ
 |tf {n:Nat}{p:k9}{xs:List V}{y:V}(hp:SqT K H p xs) (hy:flatV y=uP):EqD K H n (.ref p) y uQ
 |ft {n:Nat}{p:k9}{xs:List V}{y:V}(hp:SqT K H p xs) (hy:flatV y=uP):EqD K H n y (.ref p) uQ
 |up {n:Nat}{x y:V}{b:Bool}(h:EqD K H n x y b):EqD K H (n+1) x y b
section
variable {X:Cx}{pins:Pnn}{σ:St}{H:Hp}{s:kR}
theorem zbr_ {xs:List V}{us:List aU}(r:Vals xs us){i:Nat}(h:i<us.toArray.size):∃x,xs[i]?=uN x/\RelV x us.toArray[i]:=by
 have hi:i<us.length:=by simpa using h
 have hl:=r.length;obtain⟨u,hu,ru⟩:=r.get (kY (show i<xs.length by lia))
 refine⟨_,kY (by lia),?_⟩
 rw[kY hi]at hu;cases hu
 simpa using ru
theorem zg1_ (I:Inv X pins σ H s){n:Nat}{x y:V}{b:Bool}(h:EqD X.K H n x y b):x=y->b=uP:=by
 induction h with
 |flat hx hy=>
  rename_i x y
  rintro rfl;cases x<;>first |(cases hx;done)|(simp[eqV];done)|rfl
 |lst e hp hq hl h ih=>
  rename_i n p q xs ys
  intro e0;cases e0;have dA:=I.list_inj hp hq;subst dA;rw[mC];intro i hi;have hi:=mZ.mp hi;exact ih i _ _ (kY hi) (kY hi) rfl
 |lstN hp hq hl=>
  intro e0;cases e0;exact absurd (by rw[I.list_inj hp hq]) hl
 |tup e hp hq h ih=>
  rename_i n p q xs ys
  intro e0;cases e0;have dA:=I.tuple_inj hp hq;subst dA;rw[kJ,mC];refine⟨?_,by simp⟩
  intro i hi;have hi:=mZ.mp hi;have hi:i<xs.length:=by lia
  exact ih i _ _ (kY hi) (kY hi) rfl
 |lt hp hq=>
  intro e0;cases e0;obtain⟨aa,r1,p1,z1⟩:=I.list hp;obtain⟨ao,r2,p2,z2⟩:=I.tuple hq;exact absurd rfl (qG p1.isList p2)
 |tl hp hq=>
  intro e0;cases e0;obtain⟨aa,r1,p1,z1⟩:=I.tuple hp;obtain⟨ao,r2,p2,z2⟩:=I.list hq;exact absurd rfl (qG p2.isList p1)
 |lf hp hy=>rintro rfl;cases hy
 |fl hp hy=>rintro rfl;cases hy
 |tf hp hy=>rintro rfl;cases hy
 |ft hp hy=>rintro rfl;cases hy
 |up h ih=>exact ih
theorem zdg_ (I:Inv X pins σ H s){n:Nat}{x y:V}{b:Bool}(h:EqD X.K H n x y b):∀(A:mh) (v u:aU),A.units+n<cLine->RelV x v->RelV y u ->
  rg A s v u b/\(∀p q,x=.ref p->y=.ref q->oJ A s v u b):=by
 induction h with
 |flat hx hy=>
  intro A v u _ rx ry;refine⟨znk_ rx ry hx hy,λp q e _=>?_⟩
  subst e;cases hx
 |lst e hp hq hl h ih=>
  rename_i n p q xs ys
  intro A v u hu rx ry;cases rx;cases ry;obtain⟨aa,r1,p1,z1⟩:=I.list hp;obtain⟨ao,r2,p2,z2⟩:=I.list hq;have l1:=r1.length;have l2:=r2.length;have rc:oJ A s (.ref p) (.ref q) ((mf xs.length).all e):=by
   have:=SeqAt.RcAt.lists (A:=A) (e:=e) p1.isList p2.isList (by simp only[k8];lia) (by lia) (λj h1 h2=>by
    obtain⟨x,ex,rx⟩:=zbr_ r1 h1;obtain⟨y,ey,ry⟩:=zbr_ r2 h2;exact(ih j x y ex ey A.in1 _ _ (by show A.units+1+n<_;lia) rx ry).1)
   rw[k8,<- l1]at this;exact this
  refine⟨?_,λ_ _ _ _=>rc⟩
  by_cases hpq:p=q
  ·subst hpq
   have dA:=I.list_inj hp hq;subst dA;have:(mf xs.length).all e=uP:=by
    rw[mC];intro i hi;have hi:=mZ.mp hi;exact zg1_ I (h i _ _ (kY hi) (kY hi)) rfl
   rw[this];exact qJ _
  ·exact .of_refs hpq rc
 |lstN hp hq hl=>
  rename_i n p q xs ys
  intro A v u hu rx ry;cases rx;cases ry;obtain⟨aa,r1,p1,z1⟩:=I.list hp;obtain⟨ao,r2,p2,z2⟩:=I.list hq;have l1:=r1.length;have l2:=r2.length;have rc:oJ A s (.ref p) (.ref q) uQ:=SeqAt.RcAt.lists_lengths p1.isList p2.isList (by simp only[k8,bne_iff_ne,ne_eq];lia) (by lia)
  refine⟨.of_refs (λe=>?_) rc,λ_ _ _ _=>rc⟩
  subst e;exact hl (by rw[I.list_inj hp hq])
 |tup e hp hq h ih=>
  rename_i n p q xs ys
  intro A v u hu rx ry;cases rx;cases ry;obtain⟨aa,r1,p1,z1⟩:=I.tuple hp;obtain⟨ao,r2,p2,z2⟩:=I.tuple hq;have l1:=r1.length;have l2:=r2.length;have rc:oJ A s (.ref p) (.ref q) ((mf (min xs.length ys.length)).all e && xs.length == ys.length):=by
   have:=SeqAt.RcAt.tuples (A:=A) (e:=e) (show s.heap.IsTuple p aa.toArray from p1) (show s.heap.IsTuple q ao.toArray from p2) (by lia) (λj h1 h2=>by
    obtain⟨x,ex,rx⟩:=zbr_ r1 h1;obtain⟨y,ey,ry⟩:=zbr_ r2 h2;exact(ih j x y ex ey A.in1 _ _ (by show A.units+1+n<_;lia) rx ry).1)
   rw[k8,k8,<- l1,<- l2]at this;exact this
  refine⟨?_,λ_ _ _ _=>rc⟩
  by_cases hpq:p=q
  ·subst hpq
   have dA:=I.tuple_inj hp hq;subst dA;have:((mf (min xs.length xs.length)).all e && xs.length == xs.length)=uP:=by
    rw[kJ,mC];refine⟨?_,by simp⟩
    intro i hi;have hi:=mZ.mp hi;have hi:i<xs.length:=by lia
    exact zg1_ I (h i _ _ (kY hi) (kY hi)) rfl
   rw[this];exact qJ _
  ·exact .of_refs hpq rc
 |lt hp hq=>
  intro A v u hu rx ry;cases rx;cases ry;obtain⟨aa,r1,p1,z1⟩:=I.list hp;obtain⟨ao,r2,p2,z2⟩:=I.tuple hq;exact⟨.list_tuple p1.isList p2 (by lia),λ_ _ _ _=>.list_tuple p1.isList p2 (by lia)⟩
 |tl hp hq=>
  intro A v u hu rx ry;cases rx;cases ry;obtain⟨aa,r1,p1,z1⟩:=I.tuple hp;obtain⟨ao,r2,p2,z2⟩:=I.list hq;exact⟨.tuple_list p1 p2.isList (by lia),λ_ _ _ _=>.tuple_list p1 p2.isList (by lia)⟩
 |lf hp hy=>
  rename_i n p xs y
  intro A v u hu rx ry;cases rx;obtain⟨aa,r1,p1,z1⟩:=I.list hp;refine⟨?_,λ_ _ _ e=>by subst e;cases hy⟩
  cases y with
  |non=>cases ry;exact .list_none p1.isList (by lia)
  |bl b=>cases ry;exact .list_bool b p1.isList (by lia)
  |int b=>obtain⟨t,rfl⟩:=ry;exact .list_int b t p1.isList (by lia)
  |str b=>obtain⟨t,rfl⟩:=ry;exact .list_str b t p1.isList (by lia)
  |_=>cases hy
 |fl hp hy=>
  rename_i n p xs y
  intro A v u hu rx ry;cases ry;obtain⟨aa,r1,p1,z1⟩:=I.list hp;refine⟨?_,λ_ _ e _=>by subst e;cases hy⟩
  cases y with
  |non=>cases rx;exact .none_list p1.isList (by lia)
  |bl b=>cases rx;exact .bool_list b p1.isList (by lia)
  |int b=>obtain⟨t,rfl⟩:=rx;exact .int_list b t p1.isList (by lia)
  |str b=>obtain⟨t,rfl⟩:=rx;exact .str_list b t p1.isList (by lia)
  |_=>cases hy
 |tf hp hy=>
  rename_i n p xs y
  intro A v u hu rx ry;cases rx;obtain⟨aa,r1,p1,z1⟩:=I.tuple hp;refine⟨?_,λ_ _ _ e=>by subst e;cases hy⟩
  cases y with
  |non=>cases ry;exact .tuple_none p1 (by lia)
  |bl b=>cases ry;exact .tuple_bool b p1 (by lia)
  |int b=>obtain⟨t,rfl⟩:=ry;exact .tuple_int b t p1 (by lia)
  |str b=>obtain⟨t,rfl⟩:=ry;exact .tuple_str b t p1 (by lia)
  |_=>cases hy
 |ft hp hy=>
  rename_i n p xs y
  intro A v u hu rx ry;cases ry;obtain⟨aa,r1,p1,z1⟩:=I.tuple hp;refine⟨?_,λ_ _ e _=>by subst e;cases hy⟩
  cases y with
  |non=>cases rx;exact .none_tuple p1 (by lia)
  |bl b=>cases rx;exact .bool_tuple b p1 (by lia)
  |int b=>obtain⟨t,rfl⟩:=rx;exact .int_tuple b t p1 (by lia)
  |str b=>obtain⟨t,rfl⟩:=rx;exact .str_tuple b t p1 (by lia)
  |_=>cases hy
 |up h ih=>
  intro A v u hu rx ry;exact ih A v u (by lia) rx ry
theorem zgF_ (I:Inv X pins σ H s){n:Nat}{x y:V}{b:Bool}(h:EqD X.K H n x y b):∀(A:mh) (v u:aU),A.units+n<cLine->RelV x v->RelV y u->∀p q,x=.ref p->y=.ref q->o9 A s v u (!b):=by
 induction h with
 |flat hx hy=>intro A v u _ rx ry p q e _;subst e;cases hx
 |lst e hp hq hl h ih=>
  rename_i n p q xs ys
  intro A v u hu rx ry _ _ _ _;cases rx;cases ry;obtain⟨aa,r1,p1,z1⟩:=I.list hp;obtain⟨ao,r2,p2,z2⟩:=I.list hq;have l1:=r1.length;have l2:=r2.length;have:=uH (A:=A) (e:=e) p1.isList p2.isList (by simp only[k8];lia) (by lia) (λj h1 h2=>by
   obtain⟨x,ex,rx⟩:=zbr_ r1 h1;obtain⟨y,ey,ry⟩:=zbr_ r2 h2;exact(zdg_ I (h j x y ex ey) A.in1 _ _ (by show A.units+1+n<_;lia) rx ry).1)
  rw[k8,<- l1]at this;exact this
 |lstN hp hq hl=>
  intro A v u hu rx ry _ _ _ _;cases rx;cases ry;obtain⟨aa,r1,p1,z1⟩:=I.list hp;obtain⟨ao,r2,p2,z2⟩:=I.list hq;have l1:=r1.length;have l2:=r2.length;exact sO p1.isList p2.isList (by simp only[k8,bne_iff_ne,ne_eq];lia) (by lia)
 |tup e hp hq h ih=>
  rename_i n p q xs ys
  intro A v u hu rx ry _ _ _ _;cases rx;cases ry;obtain⟨aa,r1,p1,z1⟩:=I.tuple hp;obtain⟨ao,r2,p2,z2⟩:=I.tuple hq;have l1:=r1.length;have l2:=r2.length;have:=uF (A:=A) (e:=e) (show s.heap.IsTuple p aa.toArray from p1) (show s.heap.IsTuple q ao.toArray from p2) (by lia) (λj h1 h2=>by
   obtain⟨x,ex,rx⟩:=zbr_ r1 h1;obtain⟨y,ey,ry⟩:=zbr_ r2 h2;exact(zdg_ I (h j x y ex ey) A.in1 _ _ (by show A.units+1+n<_;lia) rx ry).1)
  rw[k8,k8,<- l1,<- l2]at this;exact this
 |lt hp hq=>
  intro A v u hu rx ry _ _ _ _;cases rx;cases ry;obtain⟨aa,r1,p1,z1⟩:=I.list hp;obtain⟨ao,r2,p2,z2⟩:=I.tuple hq;exact .list_tuple p1.isList p2 (by lia)
 |tl hp hq=>
  intro A v u hu rx ry _ _ _ _;cases rx;cases ry;obtain⟨aa,r1,p1,z1⟩:=I.tuple hp;obtain⟨ao,r2,p2,z2⟩:=I.list hq;exact .tuple_list p1 p2.isList (by lia)
 |lf hp hy=>intro A v u hu rx ry _ _ _ e;subst e;cases hy
 |fl hp hy=>intro A v u hu rx ry _ _ e _;subst e;cases hy
 |tf hp hy=>intro A v u hu rx ry _ _ _ e;subst e;cases hy
 |ft hp hy=>intro A v u hu rx ry _ _ e _;subst e;cases hy
 |up h ih=>intro A v u hu rx ry;exact ih A v u (by lia) rx ry
end
end L2
namespace LX
open PySem Builtin Builtin.Str
section
end
end LX
namespace L2
open PySem PySem.Spec PyProof.Rows
section
variable {X:Cx}{a b c d:lF}{ta tb tc td:TE}{pos:Pos}
def mChain3 (r r' bg:R2)(ta tb tc td:TE):TE:=λσ H Q=>ta σ H λx H1=>tb σ H1 λy H2=>r x y H2 λz H3=>match z with
 |.bl k=>br k (tc σ H3 λw H4=>r' y w H4 λz' H5=>match z' with |.bl k'=>br k' (td σ H5 λw' H6=>bg w w' H6 Q) (Q (.bl uQ) H5)|_=>False) (Q (.bl uQ) H3)
 |_=>False
theorem zgB_ {op aG aF:CmpOp}{r r' bg:R2}(ho:OpR X (lP op) r)(aI:OpR X (lP aG) r')(bz:OpR X (lP aF) bg)(ha:PE X a ta)(hb:PE X b tb)(hc:PE X c tc)(hd:PE X d td)
  (hm:lastMarks [op,aG,aF] [b,c,d]=uQ:=by with_unfolding_all rfl):PE X (.Compare a [op,aG,aF] [b,c,d] pos) (mChain3 r r' bg ta tb tc td):=by
 intro pins s σ H Q I h;refine Compare_chain (thn (ha pins s σ H _ I h) λv s1 ⟨x,H1,I1,r1,q1⟩=>chain_link (thn (hb pins s1 σ H1 _ I1 q1) λu s2 ⟨y,H2,I2,r2,q2⟩=>
  thn (ho pins s2 σ H2 x y v u _ I2 r1 r2 q2) λd s3 ⟨z,H3,I3,r3,q3⟩=>?_)) hm
 cases z with
 |bl k=>
  cases r3;refine l6 ?_;cases k with
  |false=>exact ite_ff ⟨.bl uQ,H3,I3,rfl,q3.2 rfl⟩
  |true=>
   refine ite_tt (chain_link (thn (hc pins s3 σ H3 _ I3 (q3.1 rfl)) λw' s4 ⟨z',H4,I4,r4,q4⟩=>thn (aI pins s4 σ H4 y z' u w' _ I4 r2 r4 q4) λd' s5 ae=>?_))
   obtain⟨z2,H5,I5,r5,q5⟩:=ae;cases z2 with
   |bl k2=>
    cases r5;refine l6 ?_;cases k2 with
    |false=>exact ite_ff ⟨.bl uQ,H5,I5,rfl,q5.2 rfl⟩
    |true=>exact ite_tt (chain_last (thn (hd pins s5 σ H5 _ I5 (q5.1 rfl)) λw2 s6 ⟨z3,H6,I6,r6,q6⟩=>bz pins s6 σ H6 z' z3 w' w2 Q I6 r4 r6 q6))
   |_=>exact q5.elim
 |_=>exact q3.elim
end
section
variable {κ:Type}[DecidableEq κ]
noncomputable def valV (kvs:List (κ×V))(k:κ):Option V:=(kvs.find? λkv=>decide (kv.1=k)).map (·.2)
noncomputable def putK (kvs:List (κ×V))(k:κ)(v:V):List (κ×V):=
 if(kvs.any λkv=>decide (kv.1=k))=uP then kvs.map (λkv=>if kv.1=k then(kv.1,v)else kv)else kvs++[(k,v)]
theorem zdX_ {p:κ×V}{r:List (κ×V)}{k:κ}(e:p.1=k):valV (p::r) k=uN p.2:=by simp[valV,m7,e]
theorem zdA_ {p:κ×V}{r:List (κ×V)}{k:κ}(e:¬p.1=k):valV (p::r) k=valV r k:=by simp[valV,m7,e]
theorem zgq_ (k:κ):∀kvs:List (κ×V),(kvs.any λkv=>decide (kv.1=k))=(valV kvs k).isSome
 |[]=>rfl
 |p::r=>by
  rw[pq];by_cases e:p.1=k
  ·simp only[zdX_ e,decide_eq_true e,Bool.true_or,rq]
  ·rw[zdA_ e,decide_eq_false e,tj];exact zgq_ k r
theorem zaA_ (kvs:List (κ×V))(k:κ)(v:V):(putK kvs k v).length<=kvs.length+1:=by
 unfold putK;split
 ·rw[kX];lia
 ·rw[lE,lg,pA];lia
theorem RelO.isSome_eq {o:Option V}{u:Option aU}(r:RelO o u):o.isSome=u.isSome:=by
 cases o with
 |none=>cases u with
  |none=>rfl
  |some _=>exact(show False from r).elim
 |some _=>cases u with
  |none=>exact(show False from r).elim
  |some _=>rfl
theorem KV.val {kvs:List (κ×V)}{vs:List (κ×aU)}(r:KV kvs vs)(k:κ):RelO (valV kvs k) (valueAt vs k):=by
 unfold KV at r;induction r with
 |nil=>exact mN
 | @cons p q ps qs h t ih=>
  obtain⟨h1,h2⟩:=h;by_cases e:p.1=k
  ·have e':q.1=k:=h1.symm.trans e
   have b:valueAt (q::qs) k=uN q.2:=by simp[valueAt,m7,e']
   rw[zdX_ e,b];exact h2
  ·have e':¬q.1=k:=λz=>e (h1.trans z)
   have b:valueAt (q::qs) k=valueAt qs k:=by simp[valueAt,m7,e']
   rw[zdA_ e,b];exact ih
theorem KV.any {kvs:List (κ×V)}{vs:List (κ×aU)}(r:KV kvs vs)(k:κ):(kvs.any λkv=>decide (kv.1=k))=vs.any λkv=>decide (kv.1=k):=by
 unfold KV at r;induction r with
 |nil=>rfl
 |cons h t ih=>rw[pq,pq,ih,h.1]
theorem KV.repl {kvs:List (κ×V)}{vs:List (κ×aU)}(r:KV kvs vs)(k:κ){y:V}{u:aU}(ry:RelV y u):
  KV (kvs.map λkv=>if kv.1=k then(kv.1,y)else kv) (vs.map λkv=>if kv.1=k then(kv.1,u)else kv):=by
 unfold KV at r ⊢;induction r with
 |nil=>exact .nil
 | @cons p q ps qs h t ih=>
  rw[lj,lj];refine .cons ?_ ih;obtain⟨h1,h2⟩:=h;by_cases e:p.1=k
  ·rw[if_pos e,if_pos (h1.symm.trans e)];exact⟨h1,ry⟩
  ·rw[if_neg e,if_neg (λz=>e (h1.trans z))];exact⟨h1,h2⟩
theorem KV.put {kvs:List (κ×V)}{vs:List (κ×aU)}(r:KV kvs vs)(k:κ){y:V}{u:aU}(ry:RelV y u):KV (putK kvs k y) (stored vs k u):=by
 unfold putK stored;rw[r.any k];by_cases e:(vs.any λkv=>decide (kv.1=k))=uP
 ·rw[if_pos e,if_pos e];exact r.repl k ry
 ·rw[if_neg e,if_neg e];exact Paired.snoc r ⟨rfl,ry⟩
theorem KV.length {kvs:List (κ×V)}{vs:List (κ×aU)}(r:KV kvs vs):kvs.length=vs.length:=Paired.length r
end
theorem zjW_ {P:lQ}{w:l9}{k:Key}{u:aU}(r:RelV (kV k) u):(mixKind P w).is k u=uP:=by
 cases k with
 |inl i=>obtain⟨t,e⟩:=(show∃t,u=qk i t from r);subst e;exact ze3_ P w i t
 |inr x=>obtain⟨t,e⟩:=(show∃t,u=pE x t from r);subst e;exact zeW_ P w x t
theorem zek_ {P:lQ}{w:l9}:∀{ks:List Key}{us:List aU},Vals (ks.map kV) us->ItemsAre (mixKind P w) ks us
 |[],_,r=>by rw[nJ]at r;cases r;exact .nil
 |k::ks,_,r=>by
  rw[lj]at r;cases r with
  |cons h t=>exact .cons (zjW_ h) (zek_ t)
abbrev KT (H:Hp):List (List Key×V)->List (List Key×k9×aU)->Prop:=Paired λp q=>p.1=q.1/\H q.2.1=uN (.tup (p.1.map kV))/\RelV p.2 q.2.2
theorem KT.val {H:Hp}{kvs:List (List Key×V)}{xs:List (List Key×k9×aU)}(r:KT H kvs xs)(k:List Key):RelO (valV kvs k) ((atKey xs k).map (·.2)):=by
 induction r with
 |nil=>exact mN
 | @cons p q ps qs h t ih=>
  obtain⟨h1,_,h2⟩:=h;by_cases e:p.1=k
  ·have e':q.1=k:=h1.symm.trans e
   have b:atKey (q::qs) k=uN q.2:=by simp[atKey,m7,e']
   rw[zdX_ e,b];exact h2
  ·have e':¬q.1=k:=λz=>e (h1.trans z)
   have b:atKey (q::qs) k=atKey qs k:=by simp[atKey,m7,e']
   rw[zdA_ e,b];exact ih
theorem KT.repl {H:Hp}{kvs:List (List Key×V)}{xs:List (List Key×k9×aU)}(r:KT H kvs xs)(k:List Key){y:V}{u:aU}(ry:RelV y u):
  KT H (kvs.map λkv=>if kv.1=k then(kv.1,y)else kv) (xs.map (putAt k u)):=by
 induction r with
 |nil=>exact .nil
 | @cons p q ps qs h t ih=>
  rw[lj,lj];refine .cons ?_ ih;obtain⟨h1,h2,h3⟩:=h;unfold putAt;by_cases e:p.1=k
  ·rw[if_pos e,if_pos (h1.symm.trans e)];exact⟨h1,h2,ry⟩
  ·rw[if_neg e,if_neg (λz=>e (h1.trans z))];exact⟨h1,h2,h3⟩
theorem KT.put {H:Hp}{kvs:List (List Key×V)}{xs:List (List Key×k9×aU)}(r:KT H kvs xs)(k:List Key){b:k9}{y:V}{u:aU}(hb:H b=uN (.tup (k.map kV)))(ry:RelV y u):
  KT H (putK kvs k y) (storedH xs k b u):=by
 have e:(kvs.any λkv=>decide (kv.1=k))=(atKey xs k).isSome:=by
  rw[zgq_,(r.val k).isSome_eq,qc]
 unfold putK storedH;rw[e];by_cases q:(atKey xs k).isSome=uP
 ·rw[if_pos q,if_pos q];exact r.repl k ry
 ·rw[if_neg q,if_neg q];exact Paired.snoc r ⟨rfl,hb,ry⟩
theorem KT.keeps {H H':Hp}{kvs:List (List Key×V)}{xs:List (List Key×k9×aU)}(r:KT H kvs xs)(ht:∀b ys,H b=uN (.tup ys)->H' b=uN (.tup ys)):KT H' kvs xs:=
 Paired.mapP r λ_ _ z=>⟨z.1,ht _ _ z.2.1,z.2.2⟩
section
variable {P:lQ}{w:l9}{H:Hp}{h:Heap}{a:k9}
theorem rd_of {u:HO}(ok:HOk P w H h)(e:Rd H a u):ObjOk P w H h a u:=e.ok ok
theorem zhY_ {kvs:List (Key×V)}(ok:HOk P w H h)(e:Rd H a (.dK kvs)):kvs.length<=lA/\(a == sysModules)=uQ/\∃vs,KV kvs vs/\h.DictOf (mixKind P w) a vs:=
 show ObjOk P w H h a (.dK kvs)from rd_of ok e
theorem zly_ {kvs:List (Key×V)}(ok:HOk P w H h)(e:H a=uN (.dK kvs)):kvs.length<=lA/\(a == sysModules)=uQ/\∃vs,KV kvs vs/\h.DictOf (mixKind P w) a vs:=zhY_ ok (.inl e)
theorem zfh_ {ks:List Key}(ok:HOk P w H h)(e:H a=uN (.tup (ks.map kV))):(tupleKind (mixKind P w)).is h ks a:=by
 obtain⟨_,aa,r,o,h1,h2,n,h3⟩:=(show ObjOk P w H h a (.tup (ks.map kV))from ok a _ e)
 exact⟨o,aa.toArray,n,h1,h2,h3,by simpa using zek_ r⟩
theorem zkP_ {kvs:List (List Key×V)}(ok:HOk P w H h)(e:Rd H a (.dT kvs)):kvs.length<=lA/\(a == sysModules)=uQ /\
  ∃xs,KT H kvs xs/\h.DictOfH (tupleKind (mixKind P w)) a xs:=by
 obtain⟨z,y,xs,r,o,es,ep,h1,h2,h3,h4,h5⟩:=(show ObjOk P w H h a (.dT kvs)from rd_of ok e)
 refine⟨z,y,xs,r,o,es,ep,h1,h2,h3,h4,λx hx=>?_,h5⟩
 have all:∀{l:List (List Key×V)}{m:List (List Key×k9×aU)},KT H l m->∀x∈m,(tupleKind (mixKind P w)).is h x.1 x.2.1:=by
  intro l m q;induction q with
  |nil=>intro x hx;exact nomatch hx
  | @cons p q ps qs hq t ih=>
   intro x hx;rcases lI.mp hx with e |hx
   ·subst e
    exact zfh_ ok (by rw[<- hq.1];exact hq.2.1)
   ·exact ih x hx
 exact all r x hx
theorem dt_of {kvs:List (List Key×V)}(ok:HOk P w H h)(e:H a=uN (.dT kvs)):kvs.length<=lA/\(a == sysModules)=uQ /\
  ∃xs,KT H kvs xs/\h.DictOfH (tupleKind (mixKind P w)) a xs:=zkP_ ok (.inl e)
end
def DGet (H:Hp)(a:k9)(y:V)(r:Option V):Prop:=
 (∃kvs k,Rd H a (.dK kvs)/\y=kV k/\r=valV kvs k)\/∃kvs k b,Rd H a (.dT kvs)/\y=.ref b/\H b=uN (.tup (k.map kV))/\r=valV kvs k
def DPut (H:Hp)(a:k9)(y v:V)(H':Hp):Prop:=
 (∃kvs k,H a=uN (.dK kvs)/\y=kV k/\kvs.length<lA/\H'=upd H a (.dK (putK kvs k v))) \/
 ∃kvs k b,H a=uN (.dT kvs)/\y=.ref b/\H b=uN (.tup (k.map kV))/\kvs.length<lA/\H'=upd H a (.dT (putK kvs k v))
theorem DGet.k {H:Hp}{a:k9}{kvs:List (Key×V)}{k:Key}(e:H a=uN (.dK kvs)):DGet H a (kV k) (valV kvs k):=.inl ⟨kvs,k,.inl e,rfl,rfl⟩
theorem DPut.k {H:Hp}{a:k9}{kvs:List (Key×V)}{k:Key}{v:V}(e:H a=uN (.dK kvs))(hl:kvs.length<lA):DPut H a (kV k) v (upd H a (.dK (putK kvs k v))):=.inl ⟨kvs,k,e,rfl,hl,rfl⟩
section
variable {X:Cx}{pins:Pnn}{σ:St}{H:Hp}{s:kR}{a:k9}{y v:V}{u r:aU}{o:Option V}{A:mh}{E:aU->kR->Prop}
theorem Inv.big (I:Inv X pins σ H s):sysModules<s.heap.objs.size:=by
 have h:lH<s.heap.objs.size:=(I.mod.glob.keeps I.bk).lt;exact tM (by decide) h
theorem zhJ_ {Q:aU->kR->Prop}(hu:A.units+1<cLine)(I:Inv X pins σ H s)(g:DGet H a y (uN v))(ry:RelV y u)(h:∀w' s',Inv X pins σ H s'->RelV v w'->Q w' s'):
  lK (model X.prog X.w) A (getItem (.ref a) u) Q E s:=by
 rcases g with⟨kvs,k,e,ey,l⟩|⟨kvs,k,b,e,ey,eb,l⟩
 ·subst ey
  obtain⟨z,hd,vs,rel,dd⟩:=zhY_ I.hok e;obtain⟨w',hw,bM⟩:=RelO.some_of (v:=v) (o:=valueAt vs k) (by rw[l];exact rel.val k)
  exact wpAny_getItem_of (zjW_ ry) dd.mapOf hw (h w' _ (I.tok _) bM)
 ·subst ey
  cases(show u=mE b from ry)
  obtain⟨z,hd,xs,rel,dd⟩:=zkP_ I.hok e;obtain⟨w',hw,bM⟩:=RelO.some_of (v:=v) (o:=(atKey xs k).map (·.2)) (by rw[l];exact rel.val k)
  obtain⟨p,hp,cH⟩:=lq.mp hw;refine wpAny_getItem_heap (tupleKind_room_in1 hu) (zfh_ I.hok eb) dd hp ?_;rw[cH];exact h w' _ (I.tok _) bM
theorem d_in {Q:aU->kR->Prop}(hu:A.units+1<cLine)(I:Inv X pins σ H s)(g:DGet H a y o)(ry:RelV y u)(h:∀s',Inv X pins σ H s'->Q (.bool o.isSome) s'):
  lK (model X.prog X.w) A (lP .In u (.ref a)) Q E s:=by
 rcases g with⟨kvs,k,e,ey,l⟩|⟨kvs,k,b,e,ey,eb,l⟩
 ·subst ey
  obtain⟨z,hd,vs,rel,dd⟩:=zhY_ I.hok e;refine wpAny_in_of (zjW_ ry) hd dd.mapOf ?_;rw[<- (rel.val k).isSome_eq,<- l];exact h _ (I.tok _)
 ·subst ey
  cases(show u=mE b from ry)
  obtain⟨z,hd,xs,rel,dd⟩:=zkP_ I.hok e;refine wpAny_in_heap (tupleKind_room_in1 hu) (zfh_ I.hok eb) hd dd ?_;have q:=(rel.val k).isSome_eq;rw[qc]at q;rw[<- q,<- l];exact h _ (I.tok _)
theorem zmc_ {Q:aU->kR->Prop}(hu:A.units+1<cLine)(I:Inv X pins σ H s)(g:DGet H a y o)(ry:RelV y u)(h:∀s',Inv X pins σ H s'->Q (.bool (!o.isSome)) s'):
  lK (model X.prog X.w) A (lP .NotIn u (.ref a)) Q E s:=by
 rcases g with⟨kvs,k,e,ey,l⟩|⟨kvs,k,b,e,ey,eb,l⟩
 ·subst ey
  obtain⟨z,hd,vs,rel,dd⟩:=zhY_ I.hok e;refine wpAny_notIn_of (zjW_ ry) hd dd.mapOf ?_;rw[<- (rel.val k).isSome_eq,<- l];exact h _ (I.tok _)
 ·subst ey
  cases(show u=mE b from ry)
  obtain⟨z,hd,xs,rel,dd⟩:=zkP_ I.hok e;refine wpAny_notIn_heap (tupleKind_room_in1 hu) (zfh_ I.hok eb) hd dd ?_;have q:=(rel.val k).isSome_eq;rw[qc]at q;rw[<- q,<- l];exact h _ (I.tok _)
theorem zeF_ {h':Heap}{t':Nat}{ob:HO}(I:Inv X pins σ H s)(mu:Mut (H a))(hs:o6 a s.heap h')(he:∃q,h'.get? a=uN q)(new:ObjOk X.prog X.w (upd H a ob) h' a ob):
  Inv X pins σ (upd H a ob) {s with heap:=h',toks:=t'}:=
 I.write (x:=a) (e:=a) mu (.inl rfl) (λb q hb z=>(hs.2 b hb).trans z) he new
theorem zj2_ {P:lQ}{w:l9}{H':Hp}{h':Heap}{kvs:List (Key×V)}{vs:List (Key×aU)}(z:kvs.length<=lA)(hd:(a == sysModules)=uQ)(rel:KV kvs vs)(dd:h'.DictOf (mixKind P w) a vs):
  ObjOk P w H' h' a (.dK kvs):=⟨z,hd,vs,rel,dd⟩
theorem zhp_ {H':Hp}{Q:Unit->kR->Prop}(hu:A.units+1<cLine)(I:Inv X pins σ H s)(g:DPut H a y v H')(ry:RelV y u)(rv:RelV v r)(h:∀s',Inv X pins σ H' s'->Q () s'):
  lK (model X.prog X.w) A (setItem (.ref a) u r) Q E s:=by
 rcases g with⟨kvs,k,e,ey,l,eH⟩|⟨kvs,k,b,e,ey,eb,l,eH⟩
 ·subst ey eH
  obtain⟨z,hd,vs,rel,dd⟩:=zly_ I.hok e;have hz:vs.length<=lA:=by rw[<- rel.length];exact z
  have hl:(putK kvs k v).length<=lA:=by have:=zaA_ kvs k v;lia
  refine wpAny_setItem_pairs (hsz:=hz) (zjW_ ry) dd λh' cy hs=>h _ ?_
  have he:∃q,h'.get? a=uN q:=let⟨q,_,_,hq,_⟩:=cy;⟨q,hq⟩
  exact zeF_ I (by rw[e];exact mN) hs he (zj2_ hl hd (rel.put k rv) cy)
 ·subst ey eH
  cases(show u=mE b from ry)
  obtain⟨z,hd,xs,rel,dd⟩:=dt_of I.hok e;have hz:xs.length<=lA:=by rw[<- Paired.length rel];exact z
  have hl:(putK kvs k v).length<=lA:=by have:=zaA_ kvs k v;lia
  refine wpAny_setItem_heap (hsz:=hz) (tupleKind_room_in1 hu) (zfh_ I.hok eb) dd λh' cy hs=>h _ ?_
  obtain⟨q,es,ep,hq,h2,h3,h4,_,h5⟩:=cy;refine zeF_ I (by rw[e];exact mN) hs ⟨q,hq⟩ ⟨hl,hd,_,(rel.put k eb rv).keeps λc ys ec=>?_,q,es,ep,hq,h2,h3,h4,h5⟩
  rw[zc_ (ne_of ec e (λz=>nomatch z))]
  exact ec
variable {kvs:List (Key×V)}
theorem d_len {Q:aU->kR->Prop}(I:Inv X pins σ H s)(e:Rd H a (.dK kvs))(h:∀t s',Inv X pins σ H s'->Q (.int kvs.length t) s'):lK (model X.prog X.w) A (call (.builtin "len") [.ref a]) Q E s:=by
 obtain⟨z,hd,vs,rel,dd⟩:=zhY_ I.hok e;refine call_len_dict hd dd (by rw[<- rel.length];rw[sizeLine_eq]at z;lia) ?_
 rw[<- rel.length];exact h _ _ (I.tok _)
end
def NoSl (i:lF):Prop:=∀ov iv,subscripted i uQ ov iv=operate [ov,iv] (getItem ov iv)
theorem subD_of {prog:lQ}{w:l9}{A:mh}{E:aU->kR->Prop}{s:kR}{env:Env}{value slice:lF}{pos:Pos}{T id:String}{Q:aU->kR->Prop}
  (hl:typeLookup (.type T) "__getitem__"=pure (uN (.builtin id))) (hs:NoSl slice)
  (h:lK (model prog w) A (eval value env) (λo ab=>lK (model prog w) A (eval slice env) (λi aO=>aO.TypeIs o T/\lK (model prog w) A (getItem o i) Q E aO) E ab) E s):
  lK (model prog w) A (eval (.Subscript value slice pos) env) Q E s:=by
 refine Subscript_ (mK h (λo ab az=>mK az (λi aO bT=>?_) λ_ _ x=>x) λ_ _ x=>x)
 obtain⟨hT,bT⟩:=bT;unfold subscriptTail;refine kP ?_;rw[getitemInPython_of_ne hT.not_modules];refine kP (wpAny_specialOf hT hl ?_);have fin:lK (model prog w) A (subscripted slice uQ o i) (λr ay=>lK (model prog w) A (letTemporaryGo value o r>>=λ_=>pure r) Q E ay) E aO:=by
  rw[hs o i];exact wpAny_operating (mK bT (λr ay bS=>kP (wpAny_letTemporaryGo (lB bS))) λ_ _ x=>x)
 first
  |exact lB (kP fin)
  |exact kP (lB (kP fin))
  |exact kP fin
theorem ze2_ {X:Cx}{pins:Pnn}{σ:St}{H:Hp}{s:kR}{a:k9}{y:V}{o:Option V}(I:Inv X pins σ H s)(g:DGet H a y o):s.TypeIs (.ref a) "dict":=by
 rcases g with⟨kvs,k,e,_,_⟩|⟨kvs,k,b,e,_,_,_⟩
 ·obtain⟨_,_,vs,_,dd⟩:=zhY_ I.hok e
  exact dd.typeIs
 ·obtain⟨_,_,xs,_,dd⟩:=zkP_ I.hok e
  exact dd.typeIs
section
end
theorem zff_ {P:lQ}{w:l9}{H:Hp}(h:Heap)(hb:sysModules<h.objs.size):ObjOk P w H (h.push {cls:=.type "dict",data:=.dict #[]}) h.objs.size (.dK []):=
 ⟨me _,beq_eq_false_iff_ne.mpr (pY (lN hb)),[],.nil,uM h⟩
def tDNewK:TE:=λ_ H Q=>∀p,H p=uO->Q (.ref p) (upd H p (.dK []))
section
variable {X:Cx}{pos:Pos}
theorem zjU_:PE X (.Dict [] [] pos) tDNewK:=λpins s σ H Q I h=>
 wpAny_Dict_empty ⟨.ref s.heap.objs.size,_,I.laid (a:=s.heap.objs.size) (o:=.dK []) (t':=s.toks) (λ_ _ q=>kQ _ q) (kZ _) (zff_ s.heap I.big),rfl,h _ (I.hok.fresh (kZ _))⟩
end
def tPairs:List (TE×TE)->St->Hp->(List (V×V)->Hp->Prop)->Prop
 |[],_,H,Q=>Q [] H
 |(tk,tv)::r,σ,H,Q=>tk σ H λx H1=>tv σ H1 λy H2=>tPairs r σ H2 λps H3=>Q ((x,y)::ps) H3
abbrev VV:List (V×V)->List (aU×aU)->Prop:=Paired λp q=>RelV p.1 q.1/\RelV p.2 q.2
def PPs (X:Cx)(pos:Pos)(keys:List (Option lF))(values:List lF)(trs:List (TE×TE)):Prop:=
 ∀(pins:Pnn) (s:kR) (σ:St) (H:Hp) (Q:List (V×V)->Hp->Prop),Inv X pins σ H s->tPairs trs σ H Q ->
  lK (model X.prog X.w) X.A (evalPairs (pairTrees keys values X.env pos)) (λvs s'=>∃ps H',Inv X pins σ H' s'/\VV ps vs/\Q ps H') X.xe s
theorem ziG_ {X:Cx}{pos:Pos}:PPs X pos [] [] []:=λpins s σ H Q I h=>pairTrees_nil_walk ⟨[],H,I,.nil,h⟩
theorem zdU_ {X:Cx}{pos:Pos}{k v:lF}{ks:List (Option lF)}{vs:List lF}{tk tv:TE}{trs:List (TE×TE)}(hk:PE X k tk)(hv:PE X v tv)(hr:PPs X pos ks vs trs):
  PPs X pos (uN k::ks) (v::vs) ((tk,tv)::trs):=λpins s σ H Q I h=>
 pairTrees_cons_walk (thn (hk pins s σ H _ I h) λu s1 ⟨x,H1,I1,rx,q1⟩=>thn (hv pins s1 σ H1 _ I1 q1) λw2 s2 ⟨y,H2,I2,ry,q2⟩=>
  thn (hr pins s2 σ H2 _ I2 q2) λws s3 ⟨ps,H3,I3,rel,q3⟩=>⟨(x,y)::ps,H3,I3,.cons ⟨rx,ry⟩ rel,q3⟩)
def mergeK (kvs more:List (Key×V)):List (Key×V):=more.foldl (λacc kv=>putK acc kv.1 kv.2) kvs
theorem KV.merge:∀{more:List (Key×V)}{rs:List (Key×aU)}{kvs:List (Key×V)}{vs:List (Key×aU)},KV more rs->KV kvs vs->KV (mergeK kvs more) (merged vs rs):=by
 intro more rs kvs vs r;unfold KV at r;induction r generalizing kvs vs with
 |nil=>intro q;exact q
 | @cons p q ps qs h t ih=>
  intro r0;have e:KV (putK kvs p.1 p.2) (stored vs q.1 q.2):=by
   have:=r0.put p.1 h.2;rw[<- h.1];exact this
  exact ih e
theorem zbv_:∀(more kvs:List (Key×V)),(mergeK kvs more).length<=kvs.length+more.length
 |[],kvs=>by show kvs.length<=kvs.length+0;lia
 |p::r,kvs=>by
  have h1:=zbv_ r (putK kvs p.1 p.2);have h2:=zaA_ kvs p.1 p.2;show(mergeK (putK kvs p.1 p.2) r).length<=_
  rw[lg];lia
theorem zdq_ {P:lQ}{w:l9}:∀{kvs:List (Key×V)}{ws:List (aU×aU)},VV (kvs.map λkv=>(kV kv.1,kv.2)) ws->∃rs,Carries (mixKind P w) ws rs/\KV kvs rs
 |[],_,r=>by rw[nJ]at r;cases r;exact⟨[],mN,.nil⟩
 |p::kvs,_,r=>by
  rw[lj]at r;cases r with
  | @cons a b as bs h t=>
   obtain⟨rs,c,q⟩:=zdq_ (P:=P) (w:=w) t;obtain⟨b1,b2⟩:=b;exact⟨(p.1,b2)::rs,⟨zjW_ h.1,rfl,c⟩,.cons ⟨rfl,h.2⟩ q⟩
def tDisp (trs:List (TE×TE)):TE:=λσ H Q=>∀p,H p=uO->tPairs trs σ (upd H p (.dK [])) λps H2=>H2 p=uN (.dK [])/\∃kvs:List (Key×V),ps=kvs.map (λkv=>(kV kv.1,kv.2))/\kvs.length<=15/\Q (.ref p) (upd H2 p (.dK (mergeK [] kvs)))
theorem ziH_ {X:Cx}{pos:Pos}{keys:List (Option lF)}{values:List lF}{trs:List (TE×TE)}(h:PPs X pos keys values trs)(bB:keys.all (·.isSome)=uP)(hl:keys.length=values.length)(h0:keys≠[])
  (gZ:keys.length<=15):PE X (.Dict keys values pos) (tDisp trs):=by
 intro pins s σ H Q I q;have hn:=I.hok.fresh (kZ s.heap.objs.size);have I1:=I.laid (a:=s.heap.objs.size) (o:=.dK []) (h':=s.heap.push {cls:=.type "dict",data:=.dict #[]}) (t':=s.toks) (λ_ _ q=>kQ _ q) (kZ _) (zff_ s.heap I.big)
 refine wpAny_Dict_walk (knd:=mixKind X.prog X.w) bB hl h0 gZ (thn (h pins _ σ _ _ I1 (q _ hn)) λws s2 ae=>?_)
 obtain⟨ps,H2,I2,rel,e,kvs,ep,lk,q2⟩:=ae;subst ep;obtain⟨rs,c,rk⟩:=zdq_ (P:=X.prog) (w:=X.w) rel;obtain⟨z,hd,vs0,r0,dd⟩:=zly_ I2.hok e;cases r0;refine⟨rs,c,dd,λh' cy hs=>⟨.ref s.heap.objs.size,_,?_,rfl,q2⟩⟩
 have hz:(mergeK [] kvs).length<=lA:=by
  have h1:=zbv_ kvs [];rw[pA]at h1;rw[sizeLine_eq];lia
 have he:∃q,h'.get? s.heap.objs.size=uN q:=let⟨q,_,_,hq,_⟩:=cy;⟨q,hq⟩
 exact zeF_ I2 (by rw[e];exact mN) hs he (zj2_ hz hd (rk.merge .nil) cy)
structure M2 (X:Cx)(o:lF)(m:Str)(apos:Pos)(e f:lF)(ak:Pos):Prop where
 base:attributeBase o m X.env (eval o X.env)=eval o X.env
 few:((oz ak (lW [e,f] X.env)).all (λx=>!x.1) && (qO ak (pQ [] X.env)).all (λx=>x.1.isSome)
  && decide (([e,f]:List lF).length+([]:List Keyword).length+(if([]:List Keyword).isEmpty then 0 else 1)<30))=uP
 line:(apos.endLine == ak.line)=uP
 trees:oz ak (lW [e,f] X.env)=[(uQ,eval e X.env),(uQ,eval f X.env)]
def IsD (H:Hp)(a:k9):Prop:=(∃kvs,Rd H a (.dK kvs))\/∃kvs,Rd H a (.dT kvs)
theorem zos_ {X:Cx}{pins:Pnn}{σ:St}{H:Hp}{s:kR}{a:k9}(I:Inv X pins σ H s)(d:IsD H a):
  s.TypeIs (.ref a) "dict" /\ (∀b,mE a=.ref b->∃ob,s.heap.get? b=uN ob/\ob.dict=uO)/\(a==sysModules)=uQ:=by
 rcases d with⟨kvs,e⟩|⟨kvs,e⟩
 ·obtain⟨_,hd,vs,_,dd⟩:=zhY_ I.hok e
  refine⟨dd.typeIs,λb q=>?_,hd⟩
  cases q;obtain⟨ob,_,_,h1,h2,_⟩:=dd;exact⟨ob,h1,h2.2.1⟩
 ·obtain⟨_,hd,xs,_,dd⟩:=zkP_ I.hok e
  refine⟨dd.typeIs,λb q=>?_,hd⟩
  cases q;obtain⟨ob,_,_,h1,h2,_⟩:=dd;exact⟨ob,h1,h2.2.1⟩
section
end
section
namespace L2
open PySem PySem.Spec PyProof.Rows
section
end
section
variable {κ:Type}[DecidableEq κ]
end
end L2
end
section
end
def keyV:V->Option Key
 |.int i=>uN (.inl i)
 |.str z=>uN (.inr z)
 |_=>uO
theorem zmd_ {y:V}{k:Key}(h:keyV y=uN k):y=kV k:=by
 cases y<;>first |(cases h;rfl)|cases h
def atD (x y:V)(H:Hp)(R:k9->List (Key×V)->Key->Prop):Prop:=match x with
 |.ref a=>(match keyV y with |some k=>∃kvs,H a=uN (.dK kvs)/\R a kvs k |none=>False)
 |_=>False
theorem zgK_ {x y:V}{H:Hp}{R:k9->List (Key×V)->Key->Prop}(h:atD x y H R):∃a kvs k,x=.ref a/\y=kV k/\H a=uN (.dK kvs)/\R a kvs k:=by
 unfold atD at h;cases x with
 |ref a=>
  cases e:keyV y with
  |none=>rw[e]at h;exact h.elim
  |some k=>
   rw[e]at h;obtain⟨kvs,h1,h2⟩:=h;exact⟨a,kvs,k,rfl,zmd_ e,h1,h2⟩
 |_=>exact h.elim
section
variable {X:Cx}
def mLenD:List V->Hp->VK->Prop:=λxs H Q=>match xs with |[.ref a]=>∃kvs,H a=uN (.dK kvs)/\Q (.int kvs.length) H |_=>False
theorem zfy_:CallR X (.builtin "len") mLenD:=by
 intro pins s σ H xs us Q I r h;unfold mLenD at h;split at h
 ·rename_i a
  obtain⟨kvs,ha,q⟩:=h;obtain⟨u,rfl,ru⟩:=vals1 r;cases ru;exact d_len I (.inl ha) λt s' I'=>⟨.int kvs.length,H,I',⟨t,rfl⟩,q⟩
 ·exact h.elim
end
inductive Av where
 |i (n:Int)|p (a b:Int)
inductive Xc where
 |pl (c:String)|at(c:String) (as:List (Str×Av))
instance:Coe String Xc:=⟨Xc.pl⟩
inductive Mo (α:Type) where
 |ok (a:α)|ex (c:Xc)|no
namespace Mo
variable {α β γ:Type}
noncomputable def bind (x:Mo α)(f:α->Mo β):Mo β:=match x with |.ok a=>f a |.ex c=>.ex c |.no=>.no
theorem bind_assoc (x:Mo α)(f:α->Mo β)(g:β->Mo γ):(x.bind f).bind g=x.bind λa=>(f a).bind g:=by cases x<;>rfl
noncomputable def noex (x:Mo α):Mo α:=match x with |.ok a=>.ok a |_=>.no
noncomputable def lim (n:Nat)(k:Mo α):Mo α:=if n<=lA then k else .no
theorem lim_ok {n:Nat}{k:Mo α}(h:n<=100000):lim n k=k:=if_pos (za3_ h)
noncomputable def grd (p:Prop)[Decidable p](k:Mo α):Mo α:=if p then k else .no
theorem grd_ok {p:Prop}[Decidable p]{k:Mo α}(h:p):grd p k=k:=if_pos h
noncomputable def opt (x:Option α):Mo α:=match x with |some a=>.ok a |none=>.no
end Mo
def un (F h:Hp):Hp:=λp=>match F p with |some o=>uN o |none=>h p
def Dj (F h:Hp):Prop:=∀p,F p=uO\/h p=uO
def Jn (h1 h2 h:Hp):Prop:=∀p,(h1 p=uO/\h p=h2 p)\/(h2 p=uO/\h p=h1 p)
def Ext (F H F' H':Hp):Prop:=Same F F'/\Same F' H'/\Same H H'/\∀p,F p=uO->F' p≠uO->H p=uO
theorem Ext.refl {F H:Hp}(h:Same F H):Ext F H F H:=⟨Same.refl _,h,Same.refl _,λp a b=>absurd a b⟩
theorem Ext.trans {F H F1 H1 F2 H2:Hp}(a:Ext F H F1 H1)(b:Ext F1 H1 F2 H2):Ext F H F2 H2:=by
 obtain⟨a1,a2,a3,a4⟩:=a;obtain⟨b1,b2,b3,b4⟩:=b;refine⟨a1.trans b1,b2,a3.trans b3,λp hp hq=>?_⟩
 cases e:F1 p with
 |none=>exact a3.free (b4 p e hq)
 |some o=>exact a4 p hp (by rw[e];exact sN _)
theorem Ext.heap {F H H':Hp}(h:Same F H)(g:Same H H'):Ext F H F H':=⟨Same.refl _,h.trans g,g,λp a b=>absurd a b⟩
theorem Ext.new {F H:Hp}(h:Same F H){p:k9}{o:HO}(hp:H p=uO):Ext F H (upd F p o) (upd H p o):=by
 refine⟨zP_ (h.free hp) _,λb u e=>?_,zP_ hp _,λq a b=>?_⟩
 ·unfold upd at e ⊢
  split
  ·rename_i z;rw[if_pos z]at e;exact e
  ·rename_i z;rw[if_neg z]at e;exact h _ _ e
 ·unfold upd at b
  split at b
  ·rename_i z;rw[z];exact hp
  ·exact absurd a b
structure Ty (α:Type) where
 R:α->V->Hp->Prop
 mono:∀{a v H H'},Same H H'->R a v H->R a v H'
def Tups (H H':Hp):Prop:=∀p xs,H p=uN (.tup xs)->H' p=uN (.tup xs)
theorem Same.tups {H H':Hp}(h:Same H H'):Tups H H':=λp xs e=>h _ _ e
abbrev tyInt:Ty Int:=⟨λa v _=>v=.int a,λ_ h=>h⟩
structure Cs (γ:Type) where
 R:γ->List V->Hp->Prop
 mono:∀{c vs H H'},Same H H'->R c vs H->R c vs H'
abbrev Prs {α:Type}(T:Ty α)(H:Hp)(xs:List α)(vs:List V):Prop:=Paired (λx v=>T.R x v H) xs vs
theorem zb1_ {α β:Type}{R R':α->β->Prop}(h:∀a b,R a b->R' a b):∀{xs:List α}{ys:List β},Paired R xs ys->Paired R' xs ys
 |_,_,.nil=>.nil
 |_,_,.cons a t=>.cons (h _ _ a) (zb1_ h t)
theorem Prs.mono {α:Type}{T:Ty α}{H H':Hp}{xs:List α}{vs:List V}(g:Same H H')(h:Prs T H xs vs):Prs T H' xs vs:=zb1_ (λ_ _ r=>T.mono g r) h
noncomputable abbrev tyL {α:Type}(T:Ty α):Ty (List α):=⟨λxs v H=>∃p vs,v=.ref p/\H p=uN (.lst vs)/\Prs T H xs vs,λg ⟨p,vs,e,h,q⟩=>⟨p,vs,e,g _ _ h,q.mono g⟩⟩
structure Own (α:Type) where
 O:α->V->Hp->Hp->Prop
 fr:Ty α
 mono:∀{a v F F' h},Same F F'->O a v F h->O a v F' h
 frz:∀{a v F h},Dj F h->O a v F h->fr.R a v (un F h)
 notup:∀{a v F h},O a v F h->∀p xs,h p≠uN (.tup xs)
theorem zX_ {F h:Hp}:Same F (un F h):=λp o e=>by unfold un;rw[e]
theorem zd6_ {F h:Hp}(d:Dj F h):Same h (un F h):=λp o e=>by
 unfold un;rcases d p with z |z
 ·rw[z];exact e
 ·rw[z]at e;cases e
def one (p:k9)(o:HO):Hp:=λq=>if q=p then uN o else uO
theorem zo_ {p:k9}{o:HO}:one p o p=uN o:=if_pos rfl
inductive Sl:Type 1 where
 |dead
 |fz {α:Type}(T:Ty α) (a:α)
 |ow {α:Type}(O:Own α) (a:α)
def Sl.P:Sl->Option V->Hp->Hp->Prop
 |.dead,_,_,_=>True
 |.fz T a,o,F,_=>∃v,o=uN v/\T.R a v F
 |.ow O a,o,F,h=>∃v,o=uN v/\O.O a v F h
def Sl.Z:Sl->Option V->Hp->Prop
 |.dead,_,_=>True
 |.fz T a,o,F=>∃v,o=uN v/\T.R a v F
 |.ow O a,o,F=>∃v,o=uN v/\O.fr.R a v F
def Hold:List Sl->St->Hp->Hp->Prop
 |[],[],_,_=>True
 |s::L,o::σ,F,h=>∃h1 h2,Jn h1 h2 h/\s.P o F h1/\Hold L σ F h2
 |_,_,_,_=>False
def HoldF (L:List Sl)(σ:St)(F:Hp):Prop:=∀(i:Nat) (s:Sl),L[i]?=uN s->s.Z (σ[i]?.join) F
theorem Sl.P.mono {s:Sl}{o:Option V}{F F' h:Hp}(g:Same F F')(q:s.P o F h):s.P o F' h:=by
 cases s with
 |dead=>exact q
 |fz T a=>obtain⟨v,e,r⟩:=q;exact⟨v,e,T.mono g r⟩
 |ow O a=>obtain⟨v,e,r⟩:=q;exact⟨v,e,O.mono g r⟩
theorem Sl.Z.mono {s:Sl}{o:Option V}{F F':Hp}(g:Same F F')(q:s.Z o F):s.Z o F':=by
 cases s with
 |dead=>exact q
 |fz T a=>obtain⟨v,e,r⟩:=q;exact⟨v,e,T.mono g r⟩
 |ow O a=>obtain⟨v,e,r⟩:=q;exact⟨v,e,O.fr.mono g r⟩
theorem HoldF.mono {L:List Sl}{σ:St}{F F':Hp}(g:Same F F')(q:HoldF L σ F):HoldF L σ F':=λi s e=>(q i s e).mono g
theorem Hold.mono:∀{L:List Sl}{σ:St}{F F' h:Hp},Same F F'->Hold L σ F h->Hold L σ F' h
 |[],[],_,_,_,_,q=>q
 |s::L,o::σ,F,F',h,g,q_=>by obtain⟨h1,h2,j,p,r⟩:=q_;exact⟨h1,h2,j,p.mono g,r.mono g⟩
 |[],_::_,_,_,_,_,q=>q.elim
 |_::_,[],_,_,_,_,q=>q.elim
theorem Jn.l {h1 h2 h:Hp}(j:Jn h1 h2 h):Same h1 h:=λp o e=>by
 rcases j p with⟨a,b⟩|⟨a,b⟩
 ·rw[a]at e;cases e
 ·rw[b];exact e
theorem Jn.r {h1 h2 h:Hp}(j:Jn h1 h2 h):Same h2 h:=λp o e=>by
 rcases j p with⟨a,b⟩|⟨a,b⟩
 ·rw[b];exact e
 ·rw[a]at e;cases e
theorem Jn.dj {h1 h2 h:Hp}(j:Jn h1 h2 h):Dj h1 h2:=λp=>by
 rcases j p with⟨a,b⟩|⟨a,b⟩
 ·exact .inl a
 ·exact .inr a
theorem z6_ {h1 h2:Hp}(d:Dj h1 h2):Jn h1 h2 (un h1 h2):=λp=>by
 unfold un;rcases d p with a |a
 ·rw[a];exact .inl ⟨rfl,rfl⟩
 ·refine .inr ⟨a,?_⟩
  cases h1 p with
  |none=>exact a
  |some o=>rfl
theorem Hold.at:∀{L:List Sl}{σ:St}{F h:Hp}(i:Nat) {s:Sl},Hold L σ F h->L[i]?=uN s ->
  ∃o h1 h2,σ[i]?=uN o/\Jn h1 h2 h/\s.P o F h1/\∀s' o' h1' h',Jn h1' h2 h'->s'.P o' F h1'->Hold (L.set i s') (σ.set i o') F h'
 |[],_,_,_,_,_,_,e=>by cases e
 |s::L,[],_,_,_,_,q,_=>q.elim
 |s::L,o::σ,F,h,0,t,q_,e=>by
  obtain⟨h1,h2,j,p,r⟩:=q_;cases e;exact⟨o,h1,h2,rfl,j,p,λs' o' h1' h' j' p'=>⟨h1',h2,j',p',r⟩⟩
 |s::L,o::σ,F,h,i+1,t,q_,e=>by
  obtain⟨h1,h2,j,p,r⟩:=q_;obtain⟨o1,k1,k2,e1,j1,p1,f⟩:=Hold.at i r (by simpa using e)
  have d1:Dj h1 k1:=λp=>by
   rcases j.dj p with a |a
   ·exact .inl a
   ·exact .inr (j1.l.free a)
  have d2:Dj h1 k2:=λp=>by
   rcases j.dj p with a |a
   ·exact .inl a
   ·exact .inr (j1.r.free a)
  refine⟨o1,k1,un h1 k2,by simpa using e1,λp=>?_,p1,λs' o' cf h' j' p'=>?_⟩
  ·rcases j p with⟨a,b⟩|⟨a,b⟩
   ·rcases j1 p with⟨c,d⟩|⟨c,d⟩
    ·refine .inl ⟨c,?_⟩;unfold un;rw[a,b,d]
    ·refine .inr ⟨?_,by rw[b,d]⟩;unfold un;rw[a,c]
   ·refine .inl ⟨j1.l.free a,?_⟩
    have:k2 p=uO:=j1.r.free a;unfold un;rw[b];cases h1 p with
    |none=>rw[this]
    |some u=>rfl
  ·have dd:Dj cf k2:=λp=>by
    rcases j' p with⟨a,b⟩|⟨a,b⟩
    ·exact .inl a
    ·right;unfold un at a
     cases z:h1 p with
     |none=>rw[z]at a;exact a
     |some u=>rw[z]at a;cases a
   refine⟨h1,un cf k2,λp=>?_,p,f s' o' cf _ (z6_ dd) p'⟩
   rcases j' p with⟨a,b⟩|⟨a,b⟩
   ·unfold un at b ⊢
    cases z:h1 p with
    |none=>rw[z]at b;exact .inl ⟨rfl,by rw[b,a]⟩
    |some u=>
     rw[z]at b;refine .inr ⟨?_,b⟩;rw[a];rcases d2 p with y |y
     ·rw[y]at z;cases z
     ·exact y
   ·unfold un at a
    cases z:h1 p with
    |some u=>rw[z]at a;cases a
    |none=>
     rw[z]at a;refine .inl ⟨rfl,?_⟩;unfold un;rw[b];cases cf p with
     |none=>exact a.symm
     |some u=>rfl
theorem Hold.froz {L:List Sl}{σ:St}{F h:Hp}(d:Dj F h)(q:Hold L σ F h):HoldF L σ (un F h):=by
 intro i s e;obtain⟨o,h1,h2,e1,j,p,_⟩:=q.at i e;rw[e1];have d1:Dj F h1:=λp=>by
  rcases d p with a |a
  ·exact .inl a
  ·exact .inr (j.l.free a)
 cases s with
 |dead=>trivial
 |fz T a=>obtain⟨v,e2,r⟩:=p;exact⟨v,e2,T.mono zX_ r⟩
 |ow O a=>
  obtain⟨v,e2,r⟩:=p;refine⟨v,e2,O.fr.mono (λp u z=>?_) (O.frz d1 r)⟩
  unfold un at z ⊢;cases y:F p with
  |some w=>rw[y]at z;exact z
  |none=>rw[y]at z;exact j.l _ _ z
end L2
namespace L2
open PySem PySem.Spec PyProof.Rows
def Av.R:Av->V->Hp->Prop
 |.i n,v,_=>v=.int n
 |.p a b,v,H=>∃q,v=.ref q/\H q=uN (.tup [.int a,.int b])
theorem Av.imm {x:Av}{v:V}{H H':Hp}(g:Tups H H')(h:x.R v H):x.R v H':=by
 cases x with
 |i n=>exact h
 |p a b=>obtain⟨q,e,z⟩:=h;exact⟨q,e,g _ _ z⟩
def AtR (as:List (Str×Av))(fs:List (Str×V))(F:Hp):Prop:=Paired (λa f=>a.1=f.1/\a.2.R f.2 F) as fs
theorem AtR.imm {as:List (Str×Av)}{fs:List (Str×V)}{H H':Hp}(g:Tups H H')(h:AtR as fs H):AtR as fs H':=zb1_ (λ_ _ r=>⟨r.1,Av.imm g r.2⟩) h
def Tell (K:Fgg)(E:XK)(x:Xc)(H0 F H:Hp):Prop:=match x with
 |.pl c=>E (.ref (gA K c)) uO H
 |.at c as=>∀dx fs,H0 dx=uO->F dx=uN (XDO dx fs)->AtR as fs F->E (.ref (gA K c)) (uN dx) H
theorem Tell.up {K:Fgg}{E:XK}{x:Xc}{H0 H1 F H:Hp}(s:Same H0 H1)(h:Tell K E x H0 F H):Tell K E x H1 F H:=by
 cases x with
 |pl c=>exact h
 |«at» c as=>exact λdx fs e=>h dx fs (s.free e)
def After {α:Type}(K:Fgg)(r:Mo α)(E:XK)(F H:Hp)(k:α->Hp->Hp->Prop):Prop:=match r with
 |.ok a=>∀F' H',Ext F H F' H'->k a F' H'
 |.ex c=>∀F' H',Ext F H F' H'->Tell K E c H F' H'
 |.no=>False
section
variable {K:Fgg}{E:XK}{α β γ:Type}{F H:Hp}
theorem After.bind {r:Mo α}{f:α->Mo β}{k:β->Hp->Hp->Prop}(h:After K (r.bind f) E F H k):After K r E F H λa F1 H1=>After K (f a) E F1 H1 k:=by
 cases r with
 |ok a=>
  intro F1 H1 x;have h':After K (f a) E F H k:=h;cases e:f a with
  |ok b=>rw[e]at h';exact λF2 H2 y=>h' F2 H2 (x.trans y)
  |ex c=>rw[e]at h';exact λF2 H2 y=>(h' F2 H2 (x.trans y)).up x.2.2.1
  |no=>rw[e]at h';exact h'
 |ex c=>exact h
 |no=>exact h
theorem After.imp {r:Mo α}{k k':α->Hp->Hp->Prop}(h:After K r E F H k)(g:∀a F' H',Ext F H F' H'->k a F' H'->k' a F' H'):After K r E F H k':=by
 cases r with
 |ok a=>exact λF' H' x=>g a F' H' x (h F' H' x)
 |ex c=>exact h
 |no=>exact h
theorem After.ok {a:α}{k:α->Hp->Hp->Prop}(hs:Same F H)(h:After K (.ok a) E F H k):k a F H:=h F H (.refl hs)
theorem After.lim {n:Nat}{r:Mo α}{k:α->Hp->Hp->Prop}(h:After K (Mo.lim n r) E F H k):n<=lA/\After K r E F H k:=by
 unfold Mo.lim at h;split at h
 ·exact⟨by assumption,h⟩
 ·exact h.elim
theorem After.grd {p:Prop}[Decidable p]{r:Mo α}{k:α->Hp->Hp->Prop}(h:After K (Mo.grd p r) E F H k):p/\After K r E F H k:=by
 unfold Mo.grd at h;split at h
 ·exact⟨by assumption,h⟩
 ·exact h.elim
theorem After.opt {x:Option α}{k:α->Hp->Hp->Prop}(h:After K (Mo.opt x) E F H k):∃a,x=uN a/\After K (.ok a) E F H k:=by
 cases x with
 |none=>exact h.elim
 |some a=>exact⟨a,rfl,h⟩
def EvF (K:Fgg)(e:TE)(E:XK)(L:List Sl)(r:Mo α)(T:Ty α):Prop:=
 ∀σ F H (Q:VK),HoldF L σ F->Same F H->After K r E F H (λa F' H'=>∀v,T.R a v F'->Q v H')->e σ H Q
def OwnK (O:Own α)(H:Hp)(Q:VK)(a:α)(F' H':Hp):Prop:=∀v h,(∀p,h p≠uO->H p=uO)->Dj F' h->Same h H'->O.O a v F' h->Q v H'
def EvO (K:Fgg)(e:TE)(E:XK)(L:List Sl)(r:Mo α)(O:Own α):Prop:=
 ∀σ F H (Q:VK),HoldF L σ F->Same F H->After K r E F H (OwnK O H Q)->e σ H Q
def EvT (K:Fgg)(t:TT)(E:XK)(L:List Sl)(r:Mo Bool):Prop:=
 ∀σ F H (Q:Bool->Hp->Prop),HoldF L σ F->Same F H->After K r E F H (λb _ H'=>Q b H')->t σ H Q
def EvA (K:Fgg)(t:TA)(E:XK)(L:List Sl)(r:Mo γ)(C:Cs γ):Prop:=
 ∀σ F H (Q:List V->Hp->Prop),HoldF L σ F->Same F H->After K r E F H (λc F' H'=>∀vs,C.R c vs F'->Q vs H')->t σ H Q
variable {L:List Sl}{e e1 e2:TE}{T:Ty α}{r:Mo α}
theorem EvO.fr {O:Own α}(h:EvO K e E L r O):EvF K e E L r O.fr:=by
 intro σ F H Q hL hs q;refine h σ F H Q hL hs ?_;cases r with
 |ok a=>
  intro F' H' x v h' fresh d s o;refine q (un F' h') H' ⟨x.1.trans zX_,λp o e=>?_,x.2.2.1,λp a b=>?_⟩ v (O.frz d o)
  ·unfold un at e
   cases z:F' p with
   |some w=>rw[z]at e;cases e;exact x.2.1 _ _ z
   |none=>rw[z]at e;exact s _ _ e
  ·unfold un at b
   cases z:F' p with
   |some w=>exact x.2.2.2 p a (by rw[z];exact sN _)
   |none=>rw[z]at b;exact fresh p b
 |ex c=>exact q
 |no=>exact q
def Op2O (K:Fgg)(m:R2)(E:XK)(T1:Ty α)(T2:Ty β)(g:α->β->Mo γ)(O:Own γ):Prop:=
 ∀a b x y F H (Q:VK),Same F H->T1.R a x F->T2.R b y F->After K (g a b) E F H (OwnK O H Q)->m x y H Q
theorem OwnK.back {O:Own α}{H H1:Hp}{Q:VK}{a:α}{F' H':Hp}(g:Same H H1)(h:OwnK O H Q a F' H'):OwnK O H1 Q a F' H':=
 λv k fresh d s o=>h v k (λp z=>g.free (fresh p z)) d s o
theorem zoD_ {m:R2}{T1:Ty α}{T2:Ty β}{O:Own γ}{g:α->β->Mo γ}{r1:Mo α}{r2:Mo β}(jG:Op2O K m E T1 T2 g O)(h1:EvF K e1 E L r1 T1)(h2:EvF K e2 E L r2 T2):
  EvO K (tOp m e1 e2) E L (r1.bind λa=>r2.bind λb=>g a b) O:=by
 intro σ F H Q hL hs q;refine h1 σ F H _ hL hs (q.bind.imp λa F1 H1 x1 k1 v1 aM=>?_)
 refine h2 σ F1 H1 _ (hL.mono x1.1) x1.2.1 (k1.bind.imp λb F2 H2 x2 k2 v2 cX=>?_)
 exact jG a b v1 v2 F2 H2 Q x2.2.1 (T1.mono x2.1 aM) cX (k2.imp λc F3 H3 x3 k3=>k3.back (x1.2.2.1.trans x2.2.2.1))
noncomputable instance (i j:Int):Decidable (CMul i j):=inferInstanceAs (Decidable (_\/_))
noncomputable instance (i j:Int):Decidable (CDiv i j):=inferInstanceAs (Decidable (_/\_))
noncomputable instance (i j:Int):Decidable (CPow i j):=inferInstanceAs (Decidable (_/\_/\_))
theorem Prs.append {xs ys:List α}{vs us:List V}(a:Prs T H xs vs)(b:Prs T H ys us):Prs T H (xs++ys) (vs++us):=by
 induction a with
 |nil=>exact b
 |cons r t ih=>exact .cons r ih
theorem Prs.len {xs:List α}{vs:List V}(a:Prs T H xs vs):xs.length=vs.length:=Paired.length a
theorem Prs.get {xs:List α}{vs:List V}(a:Prs T H xs vs)(i:Nat):(xs[i]?=uO/\vs[i]?=uO)\/∃x v,xs[i]?=uN x/\vs[i]?=uN v/\T.R x v H:=by
 induction a generalizing i with
 |nil=>exact .inl ⟨rfl,rfl⟩
 |cons r t ih=>
  cases i with
  |zero=>exact .inr ⟨_,_,rfl,rfl,r⟩
  |succ i=>simpa using ih i
theorem Prs.take {xs:List α}{vs:List V}(a:Prs T H xs vs)(n:Nat):Prs T H (xs.take n) (vs.take n):=by
 induction a generalizing n with
 |nil=>rw[qi,qi];exact .nil
 |cons r t ih=>
  cases n with
  |zero=>exact .nil
  |succ n=>exact .cons r (ih n)
theorem Prs.drop {xs:List α}{vs:List V}(a:Prs T H xs vs)(n:Nat):Prs T H (xs.drop n) (vs.drop n):=by
 induction a generalizing n with
 |nil=>rw[tm,tm];exact .nil
 |cons r t ih=>
  cases n with
  |zero=>exact .cons r t
  |succ n=>exact ih n
def BlO (K:Fgg)(m:List V->Hp->VK->Prop)(E:XK)(C:Cs γ)(g:γ->Mo α)(O:Own α):Prop:=
 ∀c vs F H (Q:VK),Same F H->C.R c vs F->After K (g c) E F H (OwnK O H Q)->m vs H Q
theorem zoF_ {m:List V->Hp->VK->Prop}{C:Cs γ}{g:γ->Mo α}{O:Own α}{ta:TA}{r:Mo γ}(hb:BlO K m E C g O)(h:EvA K ta E L r C):EvO K (tCB m ta) E L (r.bind g) O:=by
 intro σ F H Q hL hs q;exact h σ F H _ hL hs (q.bind.imp λc F1 H1 x1 k1 vs cF=>hb c vs F1 H1 Q x1.2.1 cF (k1.imp λa F2 H2 x2 k2=>k2.back x1.2.2.1))
theorem znm_ {xs:List α}{vs:List V}(r:Prs T H xs vs){i:Int}{x:α}(e:atI xs i=uN x):∃v,atI vs i=uN v/\T.R x v H:=by
 unfold atI at e ⊢;rw[<- r.len];cases e1:ixN xs.length i with
 |none=>rw[e1]at e;cases e
 |some j=>
  rw[e1]at e;rcases r.get j with⟨a,b⟩|⟨y,v,a,b,c⟩
  ·have:xs[j]?=uN x:=e
   rw[a]at this;cases this
  ·have:xs[j]?=uN x:=e
   rw[a]at this;cases this;exact⟨v,b,c⟩
end
section
variable {K:Fgg}{E:XK}{α γ:Type}{F H:Hp}{L:List Sl}{e1 e2:TE}{T:Ty α}{r:Mo α}{t:TT}{b:Mo Bool}
theorem zow_ {r1 r2:Mo α}{O:Own α}(ht:EvT K t E L b)(h1:EvO K e1 E L r1 O)(h2:EvO K e2 E L r2 O):EvO K (mIf t e1 e2) E L (b.bind λc=>if c then r1 else r2) O:=by
 intro σ F H Q hL hs q;refine ht σ F H _ hL hs (q.bind.imp λa F1 H1 x k=>⟨λc=>?_,λc=>?_⟩)
 ·rw[if_pos c]at k;exact h1 σ F1 H1 _ (hL.mono x.1) x.2.1 (k.imp λa F2 H2 y z=>z.back x.2.2.1)
 ·rw[if_neg (by rw[c];decide)]at k;exact h2 σ F1 H1 _ (hL.mono x.1) x.2.1 (k.imp λa F2 H2 y z=>z.back x.2.2.1)
theorem After.more {k:α->Hp->Hp->Prop}(h:After K r E F H k):After K r E F H λa F1 H1=>∀F2 H2,Ext F1 H1 F2 H2->k a F2 H2:=by
 cases r with
 |ok a=>exact λF1 H1 x F2 H2 y=>h F2 H2 (x.trans y)
 |ex c=>exact h
 |no=>exact h
def EvP (K:Fgg)(t:TO)(E:XK)(L:List Sl)(r:Mo (Option Int)):Prop:=
 ∀σ F H (Q:Option Int->Hp->Prop),HoldF L σ F->Same F H->After K r E F H (λb _ H'=>Q b H')->t σ H Q
theorem ep_no:EvP K tNoPart E L (.ok uO):=λσ F H Q hL hs q=>q.ok hs
def cutG (xs:List α)(lo hi:Option Int):List α:=(xs.drop (HT.sIx xs.length 0 lo)).take (HT.sIx xs.length xs.length hi-HT.sIx xs.length 0 lo)
theorem zmg_ {xs:List α}{vs:List V}(q:Prs T H xs vs)(lo hi:Option Int):Prs T H (cutG xs lo hi) (cutV vs lo hi):=by
 unfold cutG cutV;rw[<- q.len];exact(q.drop _).take _
theorem EqD.le {H:Hp}{n m:Nat}{x y:V}{b:Bool}(h:EqD K H n x y b)(g:n<=m):EqD K H m x y b:=by
 induction g with
 |refl=>exact h
 |step _ ih=>exact .up ih
def MeO (K:Fgg)(m:V->List V->Hp->VK->Prop)(E:XK)(C:Cs γ)(g:List Nat->γ->Mo α)(O:Own α):Prop:=
 ∀l c vs F H (Q:VK),Same F H->C.R c vs F->After K (g l c) E F H (OwnK O H Q)->m (tx l) vs H Q
noncomputable def zfL (l:List Nat)(i:Int):List Nat:=(Txt.zfill ⟨l.toArray⟩ i).cps.toList
end
section
variable {K:Fgg}{E:XK}{α β:Type}{F H:Hp}{L:List Sl}{e:TE}{T:Ty α}{r:Mo α}
noncomputable def setL (L:List Sl)(ss:List (Nat×Sl)):List Sl:=ss.foldl (λL q=>L.set q.1 q.2) L
def setS (σ:St)(ss:List (Nat×Option V)):St:=ss.foldl (λL q=>L.set q.1 q.2) σ
inductive Plain (F:Hp):List (Nat×Sl)->List (Nat×Option V)->Prop
 |nil:Plain F [] []
 |cons {α:Type}{T:Ty α}{a:α}{i:Nat}{v:V}{ss vs} (h:T.R a v F) (t:Plain F ss vs):Plain F ((i,.fz T a)::ss) ((i,uN v)::vs)
def TgR (K:Fgg)(g:TG)(T:Ty α)(ss:α->List (Nat×Sl)):Prop:=
 ∀a v σ F H (Q:St->Hp->Prop),Same F H->T.R a v F->(∀vs,Plain F (ss a) vs->Q (setS σ vs) H)->g v σ H Q
theorem zfU_ {σ:St}{i j:Nat}{o:Option V}(h:i<σ.length):((σ.set i o)[j]?).join=if i=j then o else(σ[j]?).join:=by
 rw[nv];split
 ·rename_i e;subst e;first |rfl |(rw[if_pos h];rfl)
 ·rfl
theorem zht_ {σ:St}{i:Nat}{s:Sl}{o:Option V}(hl:L.length=σ.length)(h:HoldF L σ F)(hs:s.Z o F):HoldF (L.set i s) (σ.set i o) F:=by
 intro j t e;rw[nv]at e;split at e
 ·rename_i z;subst z
  split at e
  ·rename_i y;cases e
   rw[zfU_ (by rw[<- hl];exact y),if_pos rfl];exact hs
  ·cases e
 ·rename_i z
  by_cases y:i<σ.length
  ·rw[zfU_ y,if_neg z];exact h j t e
  ·rw[List.set_eq_of_length_le (by lia)];exact h j t e
theorem zfc_ {ss:List (Nat×Sl)}{vs:List (Nat×Option V)}(p:Plain F ss vs):∀{L:List Sl}{σ:St},L.length=σ.length->HoldF L σ F->HoldF (setL L ss) (setS σ vs) F/\(setS σ vs).length=σ.length/\(setL L ss).length=L.length:=by
 induction p with
 |nil=>exact λhl h=>⟨h,rfl,rfl⟩
 |cons hv t ih=>
  rename_i T a i v ss vs
  intro L σ hl h;obtain⟨a1,b,c⟩:=ih (L:=L.set i (.fz T a)) (σ:=σ.set i (uN v)) (by rw[m6,m6];exact hl) (zht_ (s:=.fz T a) hl h ⟨v,rfl,hv⟩)
  exact⟨a1,b.trans (by rw[m6]),c.trans (by rw[m6])⟩
def DeadAt (L:List Sl)(is:List Nat):Prop:=∀i∈is,∀s,L[i]?=uN s->s=.dead
theorem zjA_ {ss:List (Nat×Sl)}{vs:List (Nat×Option V)}(p:Plain F ss vs){j:Nat}:∀{σ:St},j∉ss.map (·.1)->(setS σ vs)[j]?=σ[j]?:=by
 induction p with
 |nil=>exact λ_=>rfl
 |cons hv t ih=>
  rename_i i v ss vs
  intro σ hj;have h1:i≠j:=λz=>hj (by rw[<- z];exact lO)
  have h2:=ih (σ:=σ.set i (uN v)) λz=>hj (lL _ z)
  exact h2.trans (lR h1)
structure Yl (K:Fgg)(J:It)(xs:List α)(T:Ty α)(F1:Hp):Prop where
 go:∀i H x,Same F1 H->xs[i]?=uN x->J.go i H/\∀v H',J.yld i H v H'->∀F,Same F1 F->Same F H->∃F',Ext F H F' H'/\T.R x v F'
 stop:∀H,Same F1 H->J.stop xs.length H
def EvI (K:Fgg)(wi:TI)(E:XK)(L:List Sl)(r:Mo (List α))(T:Ty α):Prop:=
 ∀σ F H (R:It->Hp->Prop),HoldF L σ F->Same F H->After K r E F H (λxs F' H'=>∀J,Yl K J xs T F'->R J H')->wi σ H R
noncomputable def rngI (lo:Int)(n:Nat):List Int:=(mf n).map λ(i:Nat)=>lo+i
theorem zpp_ {lo:Int}{n:Nat}{F1:Hp}:Yl K (Itr lo n) (rngI lo n) tyInt F1:=by
 refine⟨λi H x hH hx=>?_,λH hH=>?_⟩
 ·unfold rngI at hx
  rw[lu]at hx;cases e:(mf n)[i]? with
  |none=>rw[e]at hx;cases hx
  |some c=>
   rw[e]at hx;cases hx;obtain⟨hi,e⟩:=lD.mp e;rw[rp]at e;subst e;rw[mr]at hi;refine⟨hi,?_⟩;rintro v H' ⟨rfl,rfl⟩ F _ hF;exact⟨F,.refl hF,rfl⟩
 ·show n<=_
  unfold rngI;rw[kX,mr];exact kZ _
noncomputable def enumL (xs:List α):List (Int×α):=(mf xs.length).zip xs |>.map λq=>((q.1:Int),q.2)
theorem zcp_ (xs:List α)(i:Nat):(enumL xs)[i]?=(xs[i]?).map λx=>((i:Int),x):=by
 unfold enumL;rw[lu];cases e:xs[i]? with
 |none=>
  have:=p8.mp e;rw[mL (by rw[mF,mr];lia)];rfl
 |some x=>
  have hi:=(lD.mp e).1;have:((mf xs.length).zip xs)[i]?=uN (i,x):=pd.mpr ⟨by rw[List.getElem?_range hi],e⟩
  rw[this];rfl
theorem zY_ (xs:List α):(enumL xs).length=xs.length:=by unfold enumL;rw[kX,mF,mr,ox]
def compM (f:α->Mo (Option β)):List α->List β->Mo (List β)
 |[],acc=>.ok acc
 |x::xs,acc=>(f x).bind λo=>match o with |none=>compM f xs acc |some y=>.lim (acc.length+1) (compM f xs (acc++[y]))
noncomputable def cL (lv:List Str)(fr:List (Str×Nat))(L:List Sl):List Sl:=lv.map (λ_=>Sl.dead)++fr.map λq=>(L[q.2]?).getD .dead
theorem zfT_ {lv:List Str}{fr:List (Str×Nat)}{σ:St}(h:HoldF L σ F):HoldF (cL lv fr L) (cS lv fr σ) F:=by
 intro i s e;unfold cL at e;unfold cS;by_cases hi:i<lv.length
 ·rw[mS (by rw[kX];exact hi),lu,kY hi]at e
  cases e;trivial
 ·rw[mP (by rw[kX];lia),kX,lu]at e
  rw[mP (by rw[kX];lia),kX,lu]
  cases z:fr[i-lv.length]? with
  |none=>rw[z]at e;cases e
  |some q=>
   rw[z]at e;have e:(L[q.2]?).getD .dead=s:=by simpa using e
   show Sl.Z s (σ[q.2]?).join F
   cases y:L[q.2]? with
   |none=>rw[y]at e;rw[<- e];trivial
   |some t=>rw[y]at e;cases e;exact h _ _ y
theorem zj4_ {lv:List Str}{fr:List (Str×Nat)}{σ:St}:(cL lv fr L).length=(cS lv fr σ).length:=by unfold cL cS;simp
def cond1 (c:Mo Bool)(f:Mo β):Mo (Option β):=(c.bind λb=>if b then f.bind λy=>.ok (uN y)else .ok uO).noex
end
def Okk (F0 H0 F h H:Hp):Prop:=Ext F0 H0 F H/\Dj F h/\Same h H/\(∀p,h p≠uO->H0 p=uO)/\∀p xs,h p≠uN (.tup xs)
section
variable {K:Fgg}{E:XK}{α:Type}{F0 H0 F h H:Hp}{e:TE}{r:Mo α}{t:TS}
theorem Okk.thaw (ok:Okk F0 H0 F h H):Same (un F h) H:=λp o e=>by
 unfold un at e;cases z:F p with
 |some w=>rw[z]at e;cases e;exact ok.1.2.1 _ _ z
 |none=>rw[z]at e;exact ok.2.2.1 _ _ e
def less (G h:Hp):Hp:=λp=>match h p with |none=>G p |some _=>uO
theorem z2_ {G h:Hp}{p:k9}(e:h p=uO):less G h p=G p:=by unfold less;rw[e]
theorem Okk.back (ok:Okk F0 H0 F h H){G' H':Hp}(x:Ext (un F h) H G' H'):Okk F0 H0 (less G' h) h H'/\Same F (less G' h)/\Tups G' (less G' h):=by
 obtain⟨o1,o2,o3,o4,o5⟩:=ok;have hs:Same F (less G' h):=λp o e=>by
  have hp:h p=uO:=by
   rcases o2 p with z |z
   ·rw[z]at e;cases e
   ·exact z
  rw[z2_ hp];exact x.1 _ _ (zX_ _ _ e)
 refine⟨⟨⟨o1.1.trans hs,λp o e=>?_,o1.2.2.1.trans x.2.2.1,λp a b=>?_⟩,λp=>?_,λp o e=>?_,o4,o5⟩,hs,λp xs e=>?_⟩
 ·unfold less at e
  split at e
  ·exact x.2.1 _ _ e
  ·cases e
 ·unfold less at b
  split at b
  ·rename_i z
   cases y:un F h p with
   |none=>exact o1.2.2.1.free (x.2.2.2 p y b)
   |some o=>
    unfold un at y;cases w:F p with
    |some _=>exact o1.2.2.2 p a (by rw[w];exact sN _)
    |none=>rw[w,z]at y;cases y
  ·exact absurd rfl b
 ·unfold less
  cases z:h p with
  |none=>exact .inr rfl
  |some o=>exact .inl rfl
 ·exact x.2.1 _ _ (x.1 _ _ (zd6_ o2 _ _ e))
 ·unfold less
  cases z:h p with
  |none=>exact e
  |some o=>
   have:=x.1 _ _ (zd6_ o2 _ _ z);rw[e]at this;cases this;exact absurd z (o5 p xs)
theorem Tell.back {x:Xc}(ok:Okk F0 H0 F h H){G' H':Hp}(y:Ext (un F h) H G' H')(t:Tell K E x H0 (less G' h) H'):Tell K E x H G' H':=by
 cases x with
 |pl c=>exact t
 |«at» c as=>
  refine λdx fs e q r=>t dx fs (ok.1.2.2.1.free e) ?_ (r.imm (ok.back y).2.2)
  rw[z2_ (ok.2.2.1.free e)];exact q
theorem Okk.cold (ok:Okk F0 H0 F h H){F' H':Hp}(x:Ext F H F' H'):Okk F0 H0 F' h H':=by
 refine⟨ok.1.trans x,λp=>?_,ok.2.2.1.trans x.2.2.1,ok.2.2.2.1,ok.2.2.2.2⟩
 cases z:h p with
 |none=>exact .inr rfl
 |some o=>
  left;rcases ok.2.1 p with y |y
  ·cases w:F' p with
   |none=>rfl
   |some o'=>have:=x.2.2.2 p y (by rw[w];exact sN _);rw[ok.2.2.1 _ _ z]at this;cases this
  ·rw[y]at z;cases z
theorem zkk_ {hn h:Hp}(hh:Same h H)(fresh:∀p,hn p≠uO->H p=uO):Dj hn h:=λp=>by
 cases z:hn p with
 |none=>exact .inl rfl
 |some w=>
  have:=fresh p (by rw[z];exact sN _)
  exact .inr (hh.free this)
theorem zjM_ {α:Type}{l:List α}{i:Nat}{o:α}(h:l[i]?=uN o):l.set i o=l:=by
 obtain⟨hi,e⟩:=lD.mp h;rw[<- e];exact List.set_getElem_self hi
theorem Okk.rebase {F1 H1:Hp}(x:Ext F0 H0 F1 H1)(ok:Okk F0 H0 F h H)(s:Same F1 F):Okk F1 H0 F h H:=by
 obtain⟨o1,o2,o3,o4,o5⟩:=ok;refine⟨⟨s,o1.2.1,o1.2.2.1,λp a b=>o1.2.2.2 p (x.1.free a) b⟩,o2,o3,o4,o5⟩
theorem Okk.unbase {F1 H1:Hp}(x:Ext F0 H0 F1 H1)(ok:Okk F1 H0 F h H):Okk F0 H0 F h H:=by
 obtain⟨o1,o2,o3,o4,o5⟩:=ok;refine⟨⟨x.1.trans o1.1,o1.2.1,o1.2.2.1,λp a b=>?_⟩,o2,o3,o4,o5⟩
 cases z:F1 p with
 |none=>exact o1.2.2.2 p z b
 |some w=>exact x.2.2.2 p a (by rw[z];exact sN _)
variable {L:List Sl}
def CDivG (i j:Int):Prop:=0<j/\pS i j=uQ
noncomputable instance (i j:Int):Decidable (CDivG i j):=inferInstanceAs (Decidable (_/\_))
noncomputable instance (i j:Int):Decidable (IntMulOk i j):=inferInstanceAs (Decidable (¬_))
abbrev mMulG:R2:=mI IntMulOk λi j=>.int (i*j)
abbrev mDivG:R2:=mI CDivG λi j=>.int (i / j)
theorem zmu_ {X:Cx}:OpR X (m8 .Mult) mMulG:=opM (opI λ_ _ _ _ _ _ _ hc q=>mul_int q hc)
theorem zld_ {X:Cx}:OpR X (m8 .FloorDiv) mDivG:=opM (opI λi j _ _ _ _ _ hc q=>by
 have h1:(0:Int)<j:=hc.1;exact floordiv_int (by lia) (by rw[Int.fdiv_eq_ediv_of_nonneg i (by lia)];exact q) (.inl hc.2))
theorem znx_:EvT K tTrue E L (.ok uP):=λσ F H Q hL hs q=>q.ok hs
end
section
variable {α:Type}
open PySem PySem.Spec PyProof.Rows in
theorem zmQ_ {a j:Int}(h0:0<j)(h:j.natAbs.log2<9000):CDivG a j:=by
 refine⟨h0,?_⟩;unfold pS;simp only;rw[Bool.and_eq_false_iff];left;rw[decide_eq_false_iff_not];split<;>lia
theorem log2_lt {n k:Nat}(h:n<2 ^ k):n.log2<k\/n=0:=by
 by_cases hz:n=0
 ·exact .inr hz
 ·exact .inl ((Nat.log2_lt hz).mpr h)
theorem zmJ_ {a j:Int}(h0:0<j)(h:j<2 ^ 1000):CDivG a j:=by
 refine zmQ_ h0 ?_;have h1:j.natAbs<2 ^ 1000:=by
  have:((2:Int) ^ 1000)=((2 ^ 1000:Nat):Int):=by rw[oS];rfl
  rw[this]at h;lia
 rcases log2_lt h1 with h |h
 ·lia
 ·rw[h];decide
open PySem PySem.Spec PyProof.Rows in
theorem ziu_ {i:Int}{k:Nat}(h:i.natAbs<2 ^ k):nE i<=k:=by
 unfold nE;split
 ·exact me _
 ·rename_i hz
  rcases log2_lt h with h |h
  ·lia
  ·exact absurd (by simpa using Int.natAbs_eq_zero.mp h) hz
open PySem PySem.Spec PyProof.Rows in
theorem znJ_ {i j:Int}(h1:i.natAbs<2 ^ 1000)(h2:j.natAbs<2 ^ 1000):IntMulOk i j:=by
 unfold IntMulOk;have a:=ziu_ h1;have b:=ziu_ h2;intro h;simp only[kJ,t9,decide_eq_true_eq,bitsLine_eq]at h;lia
open PySem PySem.Spec PyProof.Rows in
theorem zdv_ {i j:Int}(h : -(2 ^ 64)<i/\i<2 ^ 64 \/ -(2 ^ 64)<j/\j<2 ^ 64):IntMulOk i j:=CMul.ok h
theorem zkm_ {xs:List α}{k:Int}(h0:0<=k):atI xs k=xs[k.toNat]?:=by
 unfold atI ixN;rw[if_pos h0];split
 ·rfl
 ·rename_i h
  rw[mL (by omega)];rfl
theorem zkp_ {xs:List α}{k:Int}(h0:0<=k)(h1:k<xs.length):∃x,atI xs k=uN x/\x∈xs:=by
 rw[zkm_ h0,kY (show k.toNat<xs.length by lia)]
 exact⟨_,rfl,qp _⟩
theorem zai_ (xs:List α)(lo hi:Option Int):(cutG xs lo hi).length<=xs.length:=by
 unfold cutG;rw[mQ,mG];lia
end
section
variable {F0 H0 F h H:Hp}
theorem zgD_ {p:k9}{o':HO}{h1' hr h':Hp}(ok:Okk F0 H0 F h H)(hp:h p≠uO)(nt:∀xs,o'≠.tup xs)(h':Hp)(hh:∀q,h' q=if q=p then uN o' else h q):Okk F0 H0 F h' (upd H p o'):=by
 obtain⟨o1,o2,o3,o4,o5⟩:=ok;have Fp:F p=uO:=by
  rcases o2 p with z |z
  ·exact z
  ·exact absurd z hp
 have iY:H0 p=uO:=o4 p hp;refine⟨⟨o1.1,λq o z=>?_,λq o z=>?_,o1.2.2.2⟩,λq=>?_,λq o z=>?_,λq z=>?_,λq ys z=>?_⟩
 ·unfold upd;split
  ·rename_i w;rw[w,Fp]at z;cases z
  ·exact o1.2.1 _ _ z
 ·unfold upd;split
  ·rename_i w;rw[w,iY]at z;cases z
  ·exact o1.2.2.1 _ _ z
 ·rw[hh];split
  ·rename_i w;rw[w];exact .inl Fp
  ·exact o2 q
 ·rw[hh]at z;unfold upd
  split at z
  ·rename_i w;rw[if_pos w];exact z
  ·rename_i w;rw[if_neg w];exact o3 _ _ z
 ·rw[hh]at z;split at z
  ·rename_i w;rw[w];exact iY
  ·exact o4 q z
 ·rw[hh]at z;split at z
  ·exact nt ys (by injection z)
  ·exact o5 q ys z
@[irreducible] def fuelW:Nat:=100000
end
open PySem.SeqAt
open PySem.AutoSeq1 (wpAny_loadPart')
open PySem.MeetsSeq PySem.MeetsSeq2 PySem.MeetsSeq3
theorem zhf_:entryFor table "list.__eq__.loop"=uN qd.«list.__eq__.loop»:=by kernel_rfl!
theorem zc6_ (A:mh)(args:uI):A.under (Code.builtin "list.__eq__.loop" args)=A.in1:=by rfl
theorem zdu_ (args:uI):(Code.builtin "list.__eq__.loop" args).quiet=uP:=by first |kernel_rfl! |simp[Code.quiet]|(unfold Code.quiet;decide +kernel)
theorem zbW_:∀{vs:List aU}{ns:List Int},IntsAre vs ns->∀i:Nat,(vs[i]?=uO/\ns[i]?=uO)\/∃a t,vs[i]?=uN (.int a t)/\ns[i]?=uN a
 |_,_,.nil,i=>.inl ⟨rfl,rfl⟩
 |_,_,.cons a t h,0=>.inr ⟨a,t,rfl,rfl⟩
 |_,_,.cons a t h,i+1=>by simpa using zbW_ h i
theorem zbk_ {α:Type}{xs:List α}{i:Nat}{a:α}(h:xs[i]?=uN a):xs.drop i=a::xs.drop (i+1):=by
 obtain⟨hi,e⟩:=lD.mp h;rw[<- e];exact pf hi
theorem zcu_ {α:Type}{xs:List α}{i:Nat}(h:xs[i]?=uO):xs.drop i=[]:=qH (p8.mp h)
theorem zdN_ (l b:k9)(items ai:Array aU)(n n2:Nat)(dd cK:Option k9)(sl cA:Array (Option aU))(ns ms:List Int)(hi:IntsAre items.toList ns)(hj:IntsAre ai.toList ms):∀(k i:Nat),items.size-i=k->i<=items.size->i<=ai.size ->
  Meets (qd.«list.__eq__.loop» ⟨[.ref l,.ref b,rawInt (i:Nat),rawInt 0],[]⟩)
   (λ_ R s=>s.heap.get? l=uN {cls:=.type "list",dict:=dd,data:=.seq items n,slots:=sl}/\s.heap.get? b=uN {cls:=.type "list",dict:=cK,data:=.seq ai n2,slots:=cA} /\
    R (.ok (.ret (.bool (HT.lexLt (ns.drop i) (ms.drop i))))) s):=by
 intro k;induction k with
 |zero=>
  intro i hk b1 b2 prog w A R s h;obtain⟨hl,hb,h⟩:=h
  wp_walk using wpAny_listItems hl rfl,wpAny_listItems hb rfl
  have e1:items[i]?=uO:=Array.getElem?_eq_none (by lia)
  have bJ:ns[i]?=uO:=by
   rcases zbW_ hi i with⟨_,z⟩|⟨a,t,z,_⟩
   ·exact z
   ·rw[my,e1]at z;cases z
  rw[qe,e1];rw[zcu_ bJ]at h;rcases zbW_ hj i with⟨z1,z2⟩|⟨c,u,z1,z2⟩
  ·rw[my]at z1
   rw[z1];rw[zcu_ z2]at h
   wp_walk using wpAny_listItems hl rfl,wpAny_listItems hb rfl
   show R (.ok (.ret (.bool (decide (items.size<ai.size))))) s
   have z1:=oY.mp z1;rw[decide_eq_false (by lia)];exact h
  ·rw[my]at z1
   rw[z1];rw[zbk_ z2]at h
   wp_walk using wpAny_listItems hl rfl,wpAny_listItems hb rfl
   show R (.ok (.ret (.bool (decide (items.size<ai.size))))) s
   have z3:=(nW.mp z1).1;rw[decide_eq_true (by lia)];exact h
 |succ k ih=>
  intro i hk b1 b2 prog w A R s h;obtain⟨hl,hb,h⟩:=h
  wp_walk using wpAny_listItems hl rfl,wpAny_listItems hb rfl
  rw[qe];rcases zbW_ hi i with⟨z1,z2⟩|⟨a,t,z1,z2⟩
  ·rw[my]at z1
   rw[oY]at z1;lia
  rw[my]at z1;rw[z1];rw[zbk_ z2]at h;rcases zbW_ hj i with⟨y1,y2⟩|⟨c,u,y1,y2⟩
  ·rw[my]at y1
   rw[y1];rw[zcu_ y2]at h
   wp_walk using wpAny_listItems hl rfl,wpAny_listItems hb rfl
   show R (.ok (.ret (.bool (decide (items.size<ai.size))))) s
   have z3:=(nW.mp z1).1;have y3:=oY.mp y1;rw[decide_eq_false (by lia)];exact h
  rw[my]at y1;rw[y1];rw[zbk_ y2,HT.lexLt_cons]at h;obtain⟨e,he,hiff⟩:=HT.eqAt_int A.in1 s a t c u;refine kP (he prog w _ _ ?_);cases e with
  |true=>
   rw[if_pos (hiff.mp rfl)]at h
   wp_walk
   refine⟨zdu_ _,codeAny_builtin zhf_ ?_⟩;rw[zc6_];have q1:=(nW.mp z1).1;have q2:=(nW.mp y1).1;exact ih (i+1) (by lia) (by lia) (by lia) prog w A R s ⟨hl,hb,h⟩
  |false=>
   rw[if_neg (λq=>absurd (hiff.mpr q) mw)]at h
   have jD:=HT.rcLt_int A.in1 s a t c u prog w
   wp_walk using wpAny_listItems hl rfl,wpAny_listItems hb rfl
   rw[z1,y1]
   wp_walk using jD
   exact h
theorem zd2_ (l b:k9)(items ai:Array aU)(n n2:Nat)(dd cK:Option k9)(sl cA:Array (Option aU))(ns ms:List Int)(hi:IntsAre items.toList ns)(hj:IntsAre ai.toList ms):
  Meets (qd.«list.__lt__» ⟨[.ref l,.ref b],[]⟩)
   (λ_ R s=>s.heap.get? l=uN {cls:=.type "list",dict:=dd,data:=.seq items n,slots:=sl}/\s.heap.get? b=uN {cls:=.type "list",dict:=cK,data:=.seq ai n2,slots:=cA} /\
    R (.ok (.ret (.bool (HT.lexLt ns ms)))) s):=by
 intro prog w A R s h;obtain⟨hl,hb,h⟩:=h;have f2:=AutoSeq1.sub_list_list
 wp_walk using wpAny_loadPart' hl,wpAny_loadPart' hb
 refine⟨zdu_ _,codeAny_builtin zhf_ ?_⟩;rw[zc6_];exact zdN_ l b items ai n n2 dd cK sl cA ns ms hi hj _ 0 rfl (me _) (me _) prog w A R s ⟨hl,hb,h⟩
section
variable {α:Type}
theorem zhz_ {n d:Nat}{i:Int}(h:0<=i):HT.sIx n d (uN i)=min i.toNat n:=by
 unfold HT.sIx;simp only;split<;>lia
theorem zfE_ {xs:List α}{i:Int}(h:0<=i):cutG xs uO (uN i)=xs.take i.toNat:=by
 unfold cutG;rw[zhz_ h,show HT.sIx xs.length 0 uO=0 from rfl,sM,Nat.sub_zero,<- List.take_take,List.take_length]
theorem zew_ {xs:List α}{i:Int}(h:0<=i):cutG xs (uN i) uO=xs.drop i.toNat:=by
 unfold cutG;rw[zhz_ h,show HT.sIx xs.length xs.length uO=xs.length from rfl]
 by_cases hl:i.toNat<=xs.length
 ·rw[Nat.min_eq_left hl,oI (by rw[mG];exact kZ _)]
 ·rw[Nat.min_eq_right (by lia),qq,qH (by lia),qi]
theorem zcv_ {xs:List α}{q:Int×α}(h:q∈enumL xs):∃i:Nat,i<xs.length/\q.1=i/\xs[i]?=uN q.2:=by
 obtain⟨i,hi,e⟩:=List.mem_iff_getElem.mp h;rw[zY_]at hi;have:=zcp_ xs i;rw[kY (by rw[zY_];exact hi),e]at this
 refine⟨i,hi,?_⟩;cases e2:xs[i]? with
 |none=>rw[e2]at this;cases this
 |some x=>rw[e2]at this;injection this with this;rw[this];exact⟨rfl,rfl⟩
end
noncomputable def repL {α:Type}(xs:List α)(n:Int):List α:=(lJ n.toNat xs).flatten
def CRep (m:Nat)(n:Int):Prop:=0<=n/\n<=100000/\m<=100000/\m*n.toNat<=100000
noncomputable instance (m:Nat) (n:Int):Decidable (CRep m n):=inferInstanceAs (Decidable (_/\_))
def mMulX:R2:=λx y H Q=>match x,y with
 |.int i,.int j=>IntMulOk i j/\Q (.int (i*j)) H
 |.str z,.int n=>CRep z.cps.toList.length n/\Q (tx (repL z.cps.toList n)) H
 |.ref l,.int k=>∃xs,H l=uN (.lst xs)/\CRep xs.length k/\∀p,H p=uO->Q (.ref p) (upd H p (.lst (repL xs k)))
 |_,_=>False
theorem ziI_ (z:Array Nat)(n:Nat):(qC (λx1 x2=>x1++x2) #[] (lJ n z)).toList=(lJ n z.toList).flatten:=by
 have:∀(l:List (Array Nat)) (acc:Array Nat),(l.foldl (λx1 x2=>x1++x2) acc).toList=acc.toList++(l.map qx).flatten:=by
  intro l;induction l with
  |nil=>intro acc;simp
  |cons a l ih=>intro acc;rw[oQ,ih];simp
 rw[this];simp
theorem zmG_ {X:Cx}:OpR X (m8 .Mult) mMulX:=by
 intro pins s σ H x y v u Q I rx ry h
 cases x<;>cases y<;>first
  |exact h.elim
  |exact zmu_ pins s σ H _ _ v u Q I rx ry h
  | (obtain⟨xs,hl,⟨c1,c2,c3,c4⟩,q⟩:=h
     exact zpW_ pins s σ H _ _ v u Q I rx ry ⟨_,_,xs,rfl,rfl,hl,by lia,by lia,za3_ c4,q⟩)
  | (rename_i z n
     obtain⟨⟨c1,c2,c3,c4⟩,q⟩:=h;obtain⟨t,rfl⟩:=rx;obtain⟨t',rfl⟩:=ry;have hz:z.length=z.cps.toList.length:=by simp[ni]
     refine PySem.P.mul_str (by simp;lia) (λh1 h2=>?_) (λh1 h2=>?_) ?_
     ·rw[hz]
      have hn:0<n:=by lia
      have:(z.cps.toList.length:Int)*n<=2 ^ 63-1:=by
       have e:n=(n.toNat:Int):=by lia
       rw[e,<- Int.natCast_mul];lia
      have:=Int.le_ediv_of_mul_le hn this;lia
     ·unfold pW
      rw[hz];have:=za3_ c4;exact decide_eq_false (by lia)
     ·by_cases h1:n<1
      ·rw[if_pos h1]
       have:n=0:=by lia
       subst this;exact⟨me _,tx [],H,I.tok _,⟨_,rfl⟩,q⟩
      ·rw [if_neg h1]
       by_cases h2:(n == 1 ||z.length == 0)=uP
       ·rw[if_pos h2]
        have e:repL z.cps.toList n=z.cps.toList:=by
         unfold repL;rw[oq]at h2;rcases h2 with h2 |h2
         ·have:n=1:=by simpa using h2
          subst this;simp
         ·have:z.cps.toList=[]:=mn.mp (by rw[<- hz];simpa using h2)
          rw[this];simp
        rw[e]at q;refine⟨tx z.cps.toList,H,I,⟨t,?_⟩,q⟩;show pE z t=pE ⟨z.cps.toList.toArray⟩ t
        rw[<- zaw_]
       ·rw[if_neg h2]
        refine⟨?_,tx (repL z.cps.toList n),H,I.tok _,⟨s.toks,?_⟩,q⟩
        ·have e:(⟨qC (λx1 x2=>x1++x2) #[] (lJ n.toNat z.cps)⟩:Str).length=(lJ n.toNat z.cps.toList).flatten.length:=by
          rw[<- ziI_];simp[ni]
         rw[e,zjc_];exact za3_ (by rw[rG];exact c4)
        show pE _ _=pE _ _
        congr 1;unfold repL;rw[<- ziI_])
section
variable {α:Type}{H:Hp}{T:Ty α}
theorem zlf_ {xs:List α}{vs:List V}(hr:Prs T H xs vs)(n:Int):Prs T H (repL xs n) (repL vs n):=by
 unfold repL;induction n.toNat with
 |zero=>exact .nil
 |succ m ih=>rw[mJ,mJ,nr,nr];exact hr.append ih
noncomputable def strsL (l:List (List Nat)):List Str:=l.map λz=>⟨z.toArray⟩
end
section
variable {κ:Type}
variable [DecidableEq κ]
end
section
variable {κ:Type}[DecidableEq κ]
end
section
end
end L2
namespace Att
open PySem PySem.W PySem.Calls PyProof.Rows
theorem zkh_ {ns:List Int}(h:WData.layableAll [WData.list (ns.map WData.int)]=uP):∀x∈ns,nE x<=1048576:=by
 intro x hx;have h1:=layableW_arg h _ (nj.mpr rfl);have h2:=layableW_item h1 (.int x) (nL.mpr ⟨x,hx,rfl⟩);exact PyData.bits_of_layable (layable_int h2)
theorem attach_callB {l:OpenLaw}{n:Nat}{q:lQ}{loose:List Str}{XP:(Str->Option aU)->Heap->Prop}{YP:l9->Heap->Prop}{d:DefRec}
  (hn:l.most=uN n) (eW:d.params.defaults=[])
  (call:∀(w:l9) (s₀ ab:kR) (mg mb:Str->Option aU) (fa:k9) (o:sX) (pm cd doc:aU) (a:k9) (vs:List aU) (ns:List Int),
   (∀x∈ns,nE x<=1048576) ->
   Ground q loose [] XP w s₀ mg mb ab.heap->YP w ab.heap ->
   ab.heap.get? fa=uN o->o.data=.func (docDef d.name d.params d.body d.scope pm cd doc)->ab.heap.CodeRec cd d.name->mg d.name=uN (.ref fa) ->
   ab.heap.get? a=uN {cls:=.type "list",data:=.seq vs.toArray}->IntsAre vs ns->ns.length<=n->ab.gens=#[] ->
   codeAny (model l.prog w) callerA (.call (.ref fa) ⟨[.ref a],[]⟩) (λr s'=>r=.ok (.ret (.bool uP))/\OldK ab.heap s'.heap/\s'.os=ab.os/\AllBare s'.gens) ab):
  WalkO q loose XP YP l.row.toRowW d [] (λf vs=>sQ f vs):=by
 intro w s₀ ab mg mb G Y fa o pm cd doc dV kV ho hd aD hD eI hg args vals as cG gH kr gr ky;obtain rfl:dV=.none:=Dflts.none hD eW;obtain rfl:kV=.none:=Dflts.noKw hD;obtain⟨a,vs,ns,rfl,rfl,df,hints,hlen⟩:=zhF_ hn cG gr;refine enter_call (codeAny_mono (call w s₀ ab mg mb fa o pm cd doc a vs ns (zkh_ gH) G Y ho (fd_plain hd) aD eI df hints hlen hg) λr s' hq=>?_)
 obtain⟨rfl,h2,h3,h4⟩:=hq;exact⟨.inl ⟨.bool uP,.bool uP,[],rfl,λ_=>rfl,.bool uP,zhq_ l _,λ_=>⟨uL,λ_ hm=>(nomatch hm)⟩⟩,h2,h3,h4⟩
end Att
namespace L2
open PySem PySem.Spec PyProof.Rows
theorem zjS_ {l:tE}{n k:Nat}{q:lQ}{loose:List Str}{XP:(Str->Option aU)->Heap->Prop}{YP:l9->Heap->Prop}{d:DefRec}{K:Params->Fgg}{CX:l9->CXT}{sp:l9->Sp}{x:Str}
  (hn:l.most=uN n) (fL:n<=lA) (eW:d.params.defaults=[]) (hr:Room k callerA) (bX:∀p,lamOk q (K p)=uP)
  (hY:∀(w:l9) (h:Heap),YP w h->(K w.params).In h)
  (F:∀(w:l9) (mg:Str->Option aU) (fa:k9) (h:Heap),(K w.params).In h->h.Ns lH mg->mg d.name=uN (.ref fa) ->
   ∃fd:mO,(∀(s:kR) (u:aU),BindsTo s fd ⟨[u],[]⟩ [(x,u)]) /\
    ∀base:Heap,(K w.params).In base->base.Ns lH mg->FnOk l.prog w (K w.params) mg base (CX w) k fa fd [x] (sp w))
  (dO:∀(w:l9) (H:Hp) (a:k9) (ns:List Int),ns.length<=n->(∀x∈ns,nE x<=1048576)->Only H->SqL (K w.params) H a (ns.map V.int)->sp w [.ref a] H (λv _=>v=.bl uP) λ_ _ _=>False)
  (gY:∀(w:l9) (H:Hp) (s:kR) (e:aU) (s':kR),CX w [] H s (λ_ _ _=>False) e s'->False):
  W.WalkO q loose XP YP l.row.toRowW d [] (λf vs=>sQ f vs):=by
 refine Att.attach_callB hn eW λw s₀ ab mg mb fa o pm cd doc a vs ns e9 G Y ho hd aD eI df hints hlen hg=>?_
 have KX:=hY w _ Y;obtain⟨fd,hb,hF⟩:=F w mg fa _ KX G.T.g eI;exact zkA_ KX G.T.g G.T.b G.T.builtins G.T.nolimit G.T.bmain hg df hints (mq hlen fL) hr hF hb (λH hO hS=>dO w H a ns hlen e9 hO hS) (λH e s'=>gY w H ab e s') (zl2_ G.T KX (bX _))
abbrev BitsOk (ns:List Int):Prop:=∀x∈ns,nE x<=1048576
open PySem PySem.Spec PyProof.Rows PySem.W
section
variable {α β:Type}
def okT (lt:Nat->Nat->Bool)(n:Nat):KasT α->(α->Prop)->Prop
 |.ret a,P=>P a
 |.ask i j k,P=>i<n/\j<n/\okT lt n (k (lt i j)) P
variable {lt:Nat->Nat->Bool}{n:Nat}
theorem zbf_ {f:α->KasT β}{P:β->Prop}:∀(t:KasT α),okT lt n t (λa=>okT lt n (f a) P)->okT lt n (t.bind f) P
 |.ret _,h=>h
 |.ask i j k,h=>⟨h.1,h.2.1,zbf_ (k (lt i j)) h.2.2⟩
theorem zaN_ {P Q:α->Prop}(hq:∀a,P a->Q a):∀(t:KasT α),okT lt n t P->okT lt n t Q
 |.ret _,h=>hq _ h
 |.ask i j k,h=>⟨h.1,h.2.1,zaN_ hq (k (lt i j)) h.2.2⟩
theorem zlp_ {prog:lQ}{w:l9}{A:mh}{κ:SortKind}{vs:List aU}{s:kR}{P:α->Prop}{Q:α->kR->Prop}
  (cm:∀i j (C:Bool->kR->Prop),i<n->j<n->C (lt i j) s->kas_ask prog w A κ vs i j C s) (hq:∀a,P a->Q a s):∀t:KasT α,okT lt n t P->t.kasWp (kas_ask prog w A κ vs) Q s
 |.ret a,h=>hq a h
 |.ask i j k,h=>cm i j (λb s'=>(k b).kasWp (kas_ask prog w A κ vs) Q s') h.1 h.2.1 (zlp_ cm hq (k (lt i j)) h.2.2)
structure WOr (lt:Nat->Nat->Bool):Prop where
 asym:∀{a b},lt a b=uP->lt b a=uQ
 tr:∀{a b c},lt b a=uQ->lt c b=uQ->lt c a=uQ
abbrev le (lt:Nat->Nat->Bool)(a b:Nat):Prop:=lt b a=uQ
theorem WOr.refl (w:WOr lt)(a:Nat):le lt a a:=by
 cases h:lt a a with
 |false=>exact h
 |true=>exact w.asym h
abbrev Pm (p:Array Nat)(n:Nat):Prop:=p.toList.Perm (mf n)
theorem zaV_ {p:Array Nat}(h:Pm p n):p.size=n:=by have:=h.length_eq;rwa[mr,mz]at this
theorem zgy_ {p:Array Nat}(h:Pm p n){i:Nat}(hi:i<n):p.getD i 0<n:=by
 have hs:=zaV_ h;have:p.getD i 0=p[i]'(by lia):=by simp[rA,hs,hi]
 rw[this];exact mZ.mp (h.mem_iff.mp (by simp))
theorem zar_ {p q:Array Nat}{i j:Nat}(h:p[i]?=q[j]?):p.getD i 0=q.getD j 0:=by
 rw[mM,mM,h]
theorem zhi_ {p:Array Nat}(h:Pm p n)(i j:Nat):Pm (kas_rev p i j) n:=(p4.mp (mirror_perm p i j _)).trans h
theorem zbH_ {p:Array Nat}{i j:Nat}(hj:j<=p.size)(k:Nat):(kas_rev p i j).getD k 0=if i<=k/\k<j then p.getD (i+j-1-k) 0 else p.getD k 0:=by
 have:=getElem?_mirror_all (xs:=p) (i:=i) hj k;split
 ·rename_i q;rw[if_pos q]at this;exact zar_ this
 ·rename_i q;rw[if_neg q]at this;exact zar_ this
end
section
end
theorem zeC_ {ys:List V}{us:List aU}(r:Vals ys us){i:Nat}(h:i<us.length):∃y,ys[i]?=uN y/\RelV y (us.getD i mY)/\y∈ys:=by
 have hl:=Vals.length r;have e:ys[i]?=uN ys[i]:=kY (by omega)
 obtain⟨u,eu,ru⟩:=Vals.get r e;refine⟨_,e,?_,qp _⟩;rw[lM,eu];exact ru
theorem zgc_ {ys:List V}{us:List aU}(r:Vals ys us):∀(idx:List Nat),(∀i∈idx,i<us.length)->Vals (idx.map λi=>ys.getD i .non) (idx.map λi=>us.getD i mY)
 |[],_=>.nil
 |i::idx,h=>by
  obtain⟨y,e,ry,_⟩:=zeC_ r (h i (lO ..));refine .cons ?_ (zgc_ r idx λj hj=>h j (lL _ hj))
  show RelV (ys.getD i V.non) _
  rw[lM,e];exact ry
section
variable {α:Type}
structure LOr (lt:α->α->Bool):Prop where
 asym:∀{a b},lt a b=uP->lt b a=uQ
 tr:∀{a b c},lt b a=uQ->lt c b=uQ->lt c a=uQ
 anti:∀{a b},lt a b=uQ->lt b a=uQ->a=b
noncomputable def srtL (lt:α->α->Bool)(xs:List α):List α:=xs.mergeSort (λa b=>!lt b a)
theorem zer_ (lt:α->α->Bool)(xs:List α):(srtL lt xs).Perm xs:=List.mergeSort_perm _ _
theorem zeY_ {lt:α->α->Bool}(o:LOr lt)(xs:List α):(srtL lt xs).Pairwise λa b=>lt b a=uQ:=by
 have:=List.pairwise_mergeSort (le:=λa b=>!lt b a) (λa b c h1 h2=>by simp only[qb]at *;exact o.tr h1 h2) (λa b=>by
  cases h:lt b a with
  |false=>simp
  |true=>simp[o.asym h]) xs
 exact this.imp (λh=>by simpa using h)
theorem zgN_ {lt:α->α->Bool}(o:LOr lt):∀{ws ys:List α},ws.Perm ys->ws.Pairwise (λa b=>lt b a=uQ)->ys.Pairwise (λa b=>lt b a=uQ)->ws=ys
 |[],ys,hp,_,_=>by rw[List.Perm.nil_eq hp]
 |w::ws,[],hp,_,_=>by have:=hp.length_eq;simp at this
 |w::ws,y::ys,hp,h1,h2=>by
  obtain⟨a1,a2⟩:=rB.mp h1;obtain⟨b1,b2⟩:=rB.mp h2;have e:w=y:=by
   have m1:w∈y::ys:=hp.mem_iff.mp (lO ..);have m2:y∈w::ws:=hp.mem_iff.mpr (lO ..);rcases lI.mp m1 with e |m1
   ·exact e
   ·rcases lI.mp m2 with e |m2
    ·exact e.symm
    ·exact o.anti (b1 w m1) (a1 y m2)
  subst e;rw[zgN_ o (List.Perm.cons_inv hp) a2 b2]
theorem zbD_ {lt:α->α->Bool}(o:LOr lt){ws xs:List α}(hp:ws.Perm xs)(hs:ws.Pairwise λa b=>lt b a=uQ):ws=srtL lt xs:=
 zgN_ o (hp.trans (zer_ lt xs).symm) hs (zeY_ o xs)
noncomputable def ltI (a b:Int):Bool:=decide (a<b)
theorem zk4_:LOr ltI:=by
 unfold ltI;refine⟨λh=>?_,λh h'=>?_,λh h'=>?_⟩<;>simp only[decide_eq_true_eq,decide_eq_false_iff_not]at*<;> lia
end
end L2
universe u
namespace L2
open PySem PySem.Spec PyProof.Rows
section
end
open PySem PySem.Spec PyProof.Rows PySem.W
section
variable {prog:lQ}{w:l9}{A:mh}{E:aU->kR->Prop}{s:kR}{T:String}{rr dd:k9}{n:Nat}{PP:Nat->aU->Prop}{OK:Heap->Prop}
theorem zjh_ {R:List aU->kR->Prop}(Kd:KdlSrc prog w T rr dd n PP OK)(hh:A.handled=uO)(hok:OK s.heap)(hn:n<=lA)
  (hR:∀(h':Heap) (tk:Nat) (acc:Array aU),s.heap.objs.size<h'.objs.size->(∀b o,s.heap.get? b=uN o->h'.get? b=uN o)->ItemsOf PP acc n->R acc.toList {s with heap:=h',toks:=tk}):
  lK (model prog w) A (collect (.ref rr)) R E s:=by
 obtain⟨lr,ld⟩:=Kd.there _ hok;unfold collect;refine kP (wpAny_runValue (codeAny_builtin entry_proto_collect' ?_));rw[Around.under_plainId PySem.F.plain_proto_collect _];show lK _ A.in1 (newList []>>=λl=>again (.builtin "list.__iadd__" ⟨[l,.ref rr],[]⟩)) _ _ s;refine kP (wpAny_newObj_type ?_)
 refine lB ⟨plainId_quiet qr _,codeAny_builtin entry_list_iadd' ?_⟩;rw[Around.under_plainId qr _];have h0:(s.heap.push {cls:=.type "list",data:=.seq ([]:List aU).toArray}).get? s.heap.objs.size=uN {cls:=.type "list",data:=.seq #[]}:=lC _ rfl;show lK _ A.in1 (sJ (.ref s.heap.objs.size) (.ref rr) (.ref s.heap.objs.size)) _ _ _
 have key:=kdl_extend (A:=A) (s:={s with heap:=s.heap.push {cls:=.type "list",data:=.seq ([]:List aU).toArray}})
  (R:=λ(q:Result) (s':kR)=>∃(h':Heap) (tk:Nat) (acc:Array aU) (c:Nat),q=.ok (.ret (.ref s.heap.objs.size))/\s'={s with heap:=h',toks:=tk}/\(∀b o,s.heap.get? b=uN o->h'.get? b=uN o)/\h'.get? s.heap.objs.size=uN {cls:=.type "list",dict:=uO,data:=.seq acc c,slots:=#[]}/\ItemsOf PP acc n)
  Kd hh (Kd.keep _ _ hok λb _ o e=>kQ _ e) s.heap.objs.size (oH lr) (oH ld) (.ref s.heap.objs.size) 0 h0
  (λh' tk acc c hk hS aB=>⟨h',tk,acc,c,rfl,rfl,λb o e=>hk b o (lN (lh e)) (kQ _ e),hS,aB⟩) hn
 refine mK key (λfin s' x=>?_) λe s' x=>?_
 ·cases fin with
  |done f=>
   obtain⟨h',tk,acc,c,e,rfl,hk,hS,aB⟩:=x;cases e;show lK _ A (load s.heap.objs.size>>=_) _ _ _
   exact kP (wpAny_load hS (lB (hR h' tk acc (lh hS) hk aB)))
  |again c1=>
   refine⟨x.1,codeAny_mono x.2 λq s2 y=>?_⟩;obtain⟨h',tk,acc,c,rfl,rfl,hk,hS,aB⟩:=y
   show lK _ A (load s.heap.objs.size>>=_) _ _ _;exact kP (wpAny_load hS (lB (hR h' tk acc (lh hS) hk aB)))
 ·obtain⟨_,_,_,_,e',_⟩:=x;cases e'
end
section
theorem is_kV {P:lQ}{w:l9}{k:Key}{u:aU}(h:(mixKind P w).is k u=uP):RelV (kV k) u:=by
 rw[zgT_]at h;rcases zn_ h with⟨i,t,rfl,rfl⟩|⟨x,t,rfl,rfl⟩<;>exact⟨_,rfl⟩
end
structure ZpAp (z ti to i j:k9)(f g:List k9):Prop where
 a1:ti≠z
 a2:to≠z
 a3:i≠z
 a4:j≠z
 a5:ti≠to
 a6:ti≠i
 a7:ti≠j
 a8:to≠i
 a9:to≠j
 b1:i≠j
 b2:z∉f
 b3:z∉g
 b4:to∉f
 b5:to∉g
 b6:j∉f
 b7:i∉g
section
variable {prog:lQ}{w:l9}{A:mh}{E:aU->kR->Prop}{s:kR}{z ti to i j:k9}{f g:List k9}{n1 n2 k:Nat}{P1 P2:Nat->aU->Prop}{S1 S2:Nat->Heap->Prop}{a b:aU}
theorem zjQ_ {Q:aU->kR->Prop}(D1:Draws prog w A i f n1 P1 S1)(D2:Draws prog w A j g n2 P2 S2)(ap:ZpAp z ti to i j f g)
  (hz:IsZip s.heap z ti to .none) (cZ:og s.heap ti (.ref i) (.ref j)) (cY:og s.heap to a b) (cb:S1 k s.heap) (bx:S2 k s.heap) (l1:k<n1) (l2:k<n2)
  (hQ:∀x y h' tk,P1 k x->P2 k y->IsZip h' z ti to (rawInt s.heap.objs.size)->og h' to x y->S1 (k+1) h'->S2 (k+1) h'->og h' s.heap.objs.size x y->h'.objs.size=s.heap.objs.size+1 ->
   (∀c o,c≠z->c≠to->c≠i->c≠j->s.heap.get? c=uN o->h'.get? c=uN o)->Q (.ref s.heap.objs.size) {s with heap:=h',toks:=tk}):
  lK (model prog w) A (qd.«zip.__next__» ⟨[.ref z],[]⟩) (λfin s'=>∃v,fin=.done (.ret v)/\Q v s') E s:=by
 obtain⟨hp,gn,dd,tk0,os⟩:=s;show lK _ _ (field (.ref z) 2>>=_) _ _ _;refine kP (nO hz rfl (x:=.bool uQ) rfl ?_)
 show lK _ _ (field (.ref z) 3>>=_) _ _ _;refine kP (nO hz rfl (x:=.ref ti) rfl ?_)
 refine kP (wpAny_seqItems cZ rfl ?_);show lK _ _ (mU (.ref z)>>=_) _ _ _
 refine kP ?_;unfold mU;refine kP (nO hz rfl (x:=.none) rfl (lB ?_));simp only[if_true];refine kP (wpAny_rule ?_);refine kP (nO hz rfl (x:=.ref to) rfl ?_);refine kP (nX hz (by simp) λq1 (z1:IsZip q1 z ti to .ellipsis) e1=>?_)
 have bJ:oy z hp q1:=e1.extBut;refine kP ?_;simp only[rV,sy,qK,sS];refine kP (kP (wpAny_onRaise ?_));show lK _ _ (oh (.ref i)>>=_) _ _ _
 refine kP (D1.item k _ _ _ l1 (D1.frame k _ _ cb λc hc o e=>bJ c o (λq=>ap.b2 (q ▸ hc)) e) λx q2 t2 px s2 e2=>lB ?_)
 have bI:oy i q1 q2:=e2.extBut;have to2:og q2 to a b:=bI _ _ ap.a8 (bJ _ _ ap.a2 cY);refine kP (wpAny_seqItems (s:=⟨q2,gn,dd,t2,os⟩) to2 rfl ?_);refine kP (wpAny_updateSeq_pair (s:=⟨q2,gn,dd,t2,os⟩) to2 λq3 (to3:og q3 to x b) e3=>?_)
 have cR:oy to q2 q3:=e3.extBut;refine kP (wpAny_letGo (lB ?_));refine kP (kP (wpAny_onRaise ?_));show lK _ _ (oh (.ref j)>>=_) _ _ _
 refine kP (D2.item k ⟨q3,gn,dd,t2,os⟩ _ _ l2 (D2.frame k _ _ bx λc hc o e=>cR c o (λq=>ap.b5 (q ▸ hc)) (bI c o (λq=>ap.b7 (q ▸ hc)) (bJ c o (λq=>ap.b3 (q ▸ hc)) e))) λy q4 t4 py s4 e4=>lB ?_)
 have dC:oy j q3 q4:=e4.extBut;have ig:og q4 to x b:=dC _ _ ap.a9 to3;refine kP (wpAny_seqItems (s:=⟨q4,gn,dd,t4,os⟩) ig rfl ?_);refine kP (wpAny_updateSeq_pair (s:=⟨q4,gn,dd,t4,os⟩) ig λq5 (ie:og q5 to x y) e5=>?_)
 have e5':oy to q4 q5:=e5.extBut;refine kP (wpAny_letGo (lB (lB ?_)));refine kP (wpAny_seqItems (s:=⟨q5,gn,dd,t4,os⟩) ie rfl ?_);refine kP (wpAny_newTuple ?_);have sz:q5.objs.size=hp.objs.size:=by rw[e5.1,e4.1,e3.1,e2.1,e1.1]
 have z5:IsZip q5 z ti to .ellipsis:=e5' _ _ ap.a2.symm (dC _ _ ap.a4.symm (cR _ _ ap.a2.symm (bI _ _ ap.a3.symm z1)));have kp:∀c o,c≠z->c≠to->c≠i->c≠j->hp.get? c=uN o->q5.get? c=uN o:=λc o c1 c2 c3 c4 e=>
  e5' c o c2 (dC c o c4 (cR c o c2 (bI c o c3 (bJ c o c1 e))))
 have zl:z<q5.objs.size:=lh z5;show lK _ _ (ph (.ref z) (.ref q5.objs.size)>>=_) _ _ ⟨q5.push _,gn,dd,t4,os⟩
 refine kP ?_;unfold ph;have z6:IsZip (q5.push {cls:=.type "tuple",data:=.seq #[x,y]}) z ti to .ellipsis:=kQ _ z5;refine kP (nX (s:=⟨q5.push _,gn,dd,t4,os⟩) z6 (by simp) λq7 (z7:IsZip q7 z ti to (rawInt q5.objs.size)) e7=>?_)
 refine nX (s:=⟨q7,gn,dd,t4,os⟩) z7 (by simp) λq8 (z8:IsZip q8 z ti to (rawInt q5.objs.size)) e8=>?_
 have up:∀c o,c≠z->(q5.push {cls:=.type "tuple",data:=.seq #[x,y]}).get? c=uN o->q8.get? c=uN o:=λc o c1 e=>e8.extBut _ _ c1 (e7.extBut _ _ c1 e)
 have fA:∀c o,c≠z->q5.get? c=uN o->q8.get? c=uN o:=λc o c1 e=>up c o c1 (kQ _ e)
 have t8:og q8 q5.objs.size x y:=up _ _ (oH zl) (lC _ rfl);have ir:q8.objs.size=q5.objs.size+1:=by rw[e8.1,e7.1];exact nR ..
 rw[sz]at z8 t8 ir;refine lB ⟨_,rfl,?_⟩;show Q (.ref q5.objs.size) ⟨q8,gn,dd,t4,os⟩
 rw[sz];refine hQ x y q8 t4 px py z8 (fA _ _ ap.a2 ie) (D1.frame _ _ _ s2 λc hc o e=>?_) (D2.frame _ _ _ s4 λc hc o e=>?_) t8 ir λc o c1 c2 c3 c4 e=>fA c o c1 (kp c o c1 c2 c3 c4 e)
 ·exact fA c o (λq=>ap.b2 (q ▸ hc)) (e5' c o (λq=>ap.b4 (q ▸ hc)) (dC c o (λq=>ap.b6 (q ▸ hc)) (cR c o (λq=>ap.b4 (q ▸ hc)) e)))
 ·exact fA c o (λq=>ap.b3 (q ▸ hc)) (e5' c o (λq=>ap.b5 (q ▸ hc)) e)
theorem zm8_ {Q:PySem.Fin->kR->Prop}(D1:Draws prog w A i f n1 P1 S1)(D2:Draws prog w A j g n2 P2 S2)(ap:ZpAp z ti to i j f g)
  (hz:IsZip s.heap z ti to .none) (cZ:og s.heap ti (.ref i) (.ref j)) (cY:og s.heap to a b) (cb:S1 k s.heap) (bx:S2 k s.heap) (l1:k=n1\/k<n1/\k=n2)
  (hE:∀h' e tk,(∀c o,c≠z->c≠to->c≠i->c≠j->s.heap.get? c=uN o->h'.get? c=uN o)->(∃o,h'.get? e=uN o/\o.cls=.type "StopIteration")->E (.ref e) {s with heap:=h',toks:=tk}):
  lK (model prog w) A (qd.«zip.__next__» ⟨[.ref z],[]⟩) Q E s:=by
 obtain⟨hp,gn,dd,tk0,os⟩:=s;show lK _ _ (field (.ref z) 2>>=_) _ _ _;refine kP (nO hz rfl (x:=.bool uQ) rfl ?_)
 show lK _ _ (field (.ref z) 3>>=_) _ _ _;refine kP (nO hz rfl (x:=.ref ti) rfl ?_)
 refine kP (wpAny_seqItems cZ rfl ?_);show lK _ _ (mU (.ref z)>>=_) _ _ _
 refine kP ?_;unfold mU;refine kP (nO hz rfl (x:=.none) rfl (lB ?_));simp only[if_true];refine kP (wpAny_rule ?_);refine kP (nO hz rfl (x:=.ref to) rfl ?_);refine kP (nX hz (by simp) λq1 (z1:IsZip q1 z ti to .ellipsis) e1=>?_)
 have bJ:oy z hp q1:=e1.extBut;refine kP ?_;simp only[rV,sy,qK,sS];refine kP (kP (wpAny_onRaise ?_));show lK _ _ (oh (.ref i)>>=_) _ _ _
 have f1:S1 k q1:=D1.frame k _ _ cb λc hc o e=>bJ c o (λq=>ap.b2 (q ▸ hc)) e
 rcases l1 with rfl |⟨l1,rfl⟩
 ·refine kP (D1.done _ _ _ f1 λq2 e e2 he=>?_)
  obtain⟨oe,hoe,hce⟩:=he;have bI:oy i q1 q2:=e2;have z2:IsZip q2 z ti to .ellipsis:=bI _ _ ap.a3.symm z1;have ez:e≠z:=λx=>by subst x;have bU:q2.get? e=uN oe:=hoe;rw[z2]at bU;cases bU;simp at hce
  exact nX (s:=⟨q2,gn,dd,tk0,os⟩) z2 (by simp) λq3 _ e3=>hE q3 e tk0 (λc o c1 _ c3 _ x=>e3.extBut _ _ c1 (bI c o c3 (bJ c o c1 x))) ⟨oe,e3.extBut _ _ ez hoe,hce⟩
 ·refine kP (D1.item k _ _ _ l1 f1 λx q2 t2 px s2 e2=>lB ?_)
  have bI:oy i q1 q2:=e2.extBut;have to2:og q2 to a b:=bI _ _ ap.a8 (bJ _ _ ap.a2 cY);refine kP (wpAny_seqItems (s:=⟨q2,gn,dd,t2,os⟩) to2 rfl ?_);refine kP (wpAny_updateSeq_pair (s:=⟨q2,gn,dd,t2,os⟩) to2 λq3 (to3:og q3 to x b) e3=>?_)
  have cR:oy to q2 q3:=e3.extBut;refine kP (wpAny_letGo (lB ?_));refine kP (kP (wpAny_onRaise ?_));show lK _ _ (oh (.ref j)>>=_) _ _ _
  refine kP (D2.done ⟨q3,gn,dd,t2,os⟩ _ _ (D2.frame k _ _ bx λc hc o e=>cR c o (λq=>ap.b5 (q ▸ hc)) (bI c o (λq=>ap.b7 (q ▸ hc)) (bJ c o (λq=>ap.b3 (q ▸ hc)) e))) λq4 e e4 he=>?_)
  obtain⟨oe,hoe,hce⟩:=he;have dC:oy j q3 q4:=e4;have z4:IsZip q4 z ti to .ellipsis:=dC _ _ ap.a4.symm (cR _ _ ap.a2.symm (bI _ _ ap.a3.symm z1));have ez:e≠z:=λx=>by subst x;have bU:q4.get? e=uN oe:=hoe;rw[z4]at bU;cases bU;simp at hce
  exact nX (s:=⟨q4,gn,dd,t2,os⟩) z4 (by simp) λq5 _ e5=>hE q5 e t2 (λc o c1 c2 c3 c4 x=>e5.extBut _ _ c1 (dC c o c4 (cR c o c2 (bI c o c3 (bJ c o c1 x))))) ⟨oe,e5.extBut _ _ ez hoe,hce⟩
theorem zkw_ {Q:Option aU->kR->Prop}(D1:Draws prog w A.in1 i f n1 P1 S1)(D2:Draws prog w A.in1 j g n2 P2 S2)(ap:ZpAp z ti to i j f g)
  (hz:IsZip s.heap z ti to .none) (cZ:og s.heap ti (.ref i) (.ref j)) (cY:og s.heap to a b) (cb:S1 k s.heap) (bx:S2 k s.heap) (l1:k<n1) (l2:k<n2)
  (hQ:∀x y h' tk,P1 k x->P2 k y->IsZip h' z ti to (rawInt s.heap.objs.size)->og h' to x y->S1 (k+1) h'->S2 (k+1) h'->og h' s.heap.objs.size x y->h'.objs.size=s.heap.objs.size+1 ->
   (∀c o,c≠z->c≠to->c≠i->c≠j->s.heap.get? c=uN o->h'.get? c=uN o)->Q (uN (.ref s.heap.objs.size)) {s with heap:=h',toks:=tk}):
  lK (model prog w) A (pyNext (.ref z)) Q E s:=by
 have hT:s.TypeIs (.ref z) "zip":=⟨_,hz,rfl⟩;unfold pyNext;refine kP (wpAny_attempt (wpAny_callSpecial?_slot (name:=ou "__next__") hT pT (wpAny_call_entry pT hT rW ?_ (rH _))));exact zjQ_ D1 D2 ap hz cZ cY cb bx l1 l2 λx y h' tk p1 p2 q1 q2 q3 q4 q5 q6 q7=>lB (hQ x y h' tk p1 p2 q1 q2 q3 q4 q5 q6 q7)
theorem zls_ {Q:Option aU->kR->Prop}(D1:Draws prog w A.in1 i f n1 P1 S1)(D2:Draws prog w A.in1 j g n2 P2 S2)(ap:ZpAp z ti to i j f g)
  (hz:IsZip s.heap z ti to .none) (cZ:og s.heap ti (.ref i) (.ref j)) (cY:og s.heap to a b) (cb:S1 k s.heap) (bx:S2 k s.heap) (l1:k=n1\/k<n1/\k=n2)
  (hQ:∀h' tk,(∀c o,c≠z->c≠to->c≠i->c≠j->s.heap.get? c=uN o->h'.get? c=uN o)->Q uO {s with heap:=h',toks:=tk}):lK (model prog w) A (pyNext (.ref z)) Q E s:=by
 have hT:s.TypeIs (.ref z) "zip":=⟨_,hz,rfl⟩;unfold pyNext;refine kP (wpAny_attempt (wpAny_callSpecial?_slot (name:=ou "__next__") hT pT (wpAny_call_entry pT hT rW ?_ (rH _))));refine zm8_ D1 D2 ap hz cZ cY cb bx l1 λh' e tk hk he=>?_
 obtain⟨o,ho,hc⟩:=he;exact kP (wpAny_isInstance (s:={s with heap:=h',toks:=tk}) (T:="StopIteration") (b:=uP) ⟨o,ho,hc⟩ isSubtype_stop (lB (hQ _ _ hk)))
end
noncomputable def strIt (x:Str)(t:Tok):sX:={cls:=.type (l7 x),data:=.fields #[.str x t,.int 0 0]}
theorem zfQ_ {prog:lQ}{w:l9}{A:mh}{E:aU->kR->Prop}{s:kR}{x:Str}{t:Tok}{Q:aU->kR->Prop}(h:Q (.ref s.heap.objs.size) {s with heap:=s.heap.push (strIt x t)}):lK (model prog w) A (pyIter (.str x t)) Q E s:=by
 unfold strIt at h;cases ha:x.cps.all (·<128)
 ·rw[show l7 x="str_iterator" by simp[l7,ha]]at h;exact wpAny_pyIter_wide ha h
 ·rw[show l7 x="str_ascii_iterator" by simp[l7,ha]]at h;exact wpAny_pyIter_ascii ha h
noncomputable abbrev zp1 (h:Heap)(l:k9):Heap:=h.push {cls:=.type "list_iterator",data:=.fields #[.ref l,.int 0 0]}
abbrev zp2 (h:Heap)(l:k9)(x:Str)(t:Tok):Heap:=(zp1 h l).push (strIt x t)
abbrev zp3 (h:Heap)(l:k9)(x:Str)(t:Tok):Heap:=(zp2 h l x t).push {cls:=.type "tuple",data:=.seq #[.ref h.objs.size,.ref (zp1 h l).objs.size]}
abbrev zp4 (h:Heap)(l:k9)(x:Str)(t:Tok):Heap:=(zp3 h l x t).push {cls:=.type "tuple",data:=.seq #[.none,.none]}
abbrev zp5 (h:Heap)(l:k9)(x:Str)(t:Tok):Heap:=(zp4 h l x t).push {cls:=.type "zip",data:=.fields #[.none,.bool uQ,.bool uQ,.ref (zp2 h l x t).objs.size,.ref (zp3 h l x t).objs.size]}
theorem mt_zp (l:k9)(x:Str)(t:Tok)(xs:Array aU):
  Meets (qd.«zip.__new__» ⟨[.type "zip",.ref l,.str x t],[]⟩) (λ_ R s=>s.heap.IsList l xs/\R (.ok (.ret (.ref (zp4 s.heap l x t).objs.size))) {s with heap:=zp5 s.heap l x t}):=
 .of_wp λprog w A R s h=>by
  obtain⟨hp,g,d,tk,os⟩:=s;obtain⟨fM,h⟩:=h;have jz:=sub_zip;have h1:Heap.IsList (Shared.heap ⟨hp,g,d,tk,os⟩) l xs:=fM
  wp_walk using wpAny_pyIter_list h1,zfQ_
  exact⟨_,rfl,h⟩
section
variable {prog:lQ}{w:l9}{A:mh}{E:aU->kR->Prop}{s:kR}
theorem zlG_ {l:k9}{x:Str}{t:Tok}{xs:Array aU}{Q:aU->kR->Prop}(hl:s.heap.IsList l xs)
  (h:∀h',IsZip h' (s.heap.objs.size+4) (s.heap.objs.size+2) (s.heap.objs.size+3) .none->og h' (s.heap.objs.size+2) (.ref s.heap.objs.size) (.ref (s.heap.objs.size+1)) ->
   og h' (s.heap.objs.size+3) .none .none->h'.IsListIter s.heap.objs.size l 0->h'.IsStrIter (s.heap.objs.size+1) (l7 x) x t 0 ->
   (∀c o,s.heap.get? c=uN o->h'.get? c=uN o)->Q (.ref (s.heap.objs.size+4)) {s with heap:=h'}):
  lK (model prog w) A (call (.type "zip") [.ref l,.str x t]) Q E s:=by
 refine callType_new F.called_zip (by decide) (F.typeCall_zip_2 _ _) (F.newCall_zip_2 _ _) (λobj=>F.args_object_init_3 obj _ _) F.entry_zip_new (mt_zp l x t xs) ⟨hl,?_⟩
 have n1:(zp1 s.heap l).objs.size=s.heap.objs.size+1:=nR ..;have n2:(zp2 s.heap l x t).objs.size=s.heap.objs.size+2:=by rw[nR,n1]
 have n3:(zp3 s.heap l x t).objs.size=s.heap.objs.size+3:=by rw[nR,n2]
 have n4:(zp4 s.heap l x t).objs.size=s.heap.objs.size+4:=by rw[nR,n3]
 have up:∀c o,(zp2 s.heap l x t).get? c=uN o->(zp5 s.heap l x t).get? c=uN o:=λc o e=>kQ _ (kQ _ (kQ _ e))
 have g5:(zp5 s.heap l x t).get? (zp4 s.heap l x t).objs.size=uN _:=lC _ rfl;have g4:(zp5 s.heap l x t).get? (zp3 s.heap l x t).objs.size=uN _:=kQ _ (lC _ rfl);have g3:(zp5 s.heap l x t).get? (zp2 s.heap l x t).objs.size=uN _:=kQ _ (kQ _ (lC _ rfl));have g2:(zp5 s.heap l x t).get? (zp1 s.heap l).objs.size=uN _:=up _ _ (lC _ rfl);have g1:(zp5 s.heap l x t).get? s.heap.objs.size=uN _:=up _ _ (kQ _ (lC _ rfl));show _/\_
 rw[n2,n3,n4]at g5;rw[n1,n2]at g3;rw[n3]at g4;rw[n1]at g2;rw[n4];exact⟨⟨_,g5,rfl⟩,h _ g5 g3 g4 ⟨_,g1,rfl,rfl⟩ ⟨_,g2,rfl,rfl⟩ λc o e=>up c o (kQ _ (kQ _ e))⟩
end
def ItzS (K:Fgg)(l:k9)(n:Nat)(f:Nat->V):It:=
 ⟨λi H=>∃xs x,SqL K H l xs/\xs[i]?=uN x/\i<n,
  λi H v H'=>∃p x,(∀xs,SqL K H l xs->xs[i]?=uN x)/\H p=uO/\v=.ref p/\H'=upd H p (.tup [x,f i]),
  λi H=>∃xs,SqL K H l xs/\(i=xs.length\/i<xs.length/\i=n)⟩
theorem zio_ {P:lQ}{w:l9}{K:Fgg}{elts:List lF}{kk:Nat}{pos:Pos}(z ti to i1 i2 l:k9)(t0:Str)(t:Tok)(D:ZpAp z ti to i1 i2 [i1,l] [i2])(fM:l≠i1):
  Turn P w K (.Tuple elts kk pos) (ItzS K l t0.cps.size (sgn t0)) [z,ti,to,i1,i2] z (λi h=>IsZip h z ti to .none/\og h ti (.ref i1) (.ref i2)/\(∃a b,og h to a b)/\h.IsListIter i1 l i/\h.IsStrIter i2 (l7 t0) t0 t i) where
 mem:=by simp
 obj:=λi h st b hb=>by
  obtain⟨hz,b8,⟨a,c,cq⟩,⟨o1,ho1,c1,d1⟩,⟨o2,bG,c2,d2⟩⟩:=st;rcases lI.mp hb with rfl |hb
  ·exact⟨_,hz,λv z=>by cases z⟩
  rcases lI.mp hb with rfl |hb
  ·exact⟨_,b8,λv z=>by cases z⟩
  rcases lI.mp hb with rfl |hb
  ·exact⟨_,cq,λv z=>by cases z⟩
  rcases lI.mp hb with rfl |hb
  ·exact⟨o1,ho1,λv z=>by rw[d1]at z;cases z⟩
  ·have e:b=i2:=by simpa using hb
   subst e;exact⟨o2,bG,λv z=>by rw[d2]at z;cases z⟩
 keep:=λi h h' st k=>by
  obtain⟨hz,b8,⟨a,c,cq⟩,h1,o2,bG,r2⟩:=st;exact⟨k z (by simp) _ hz,k ti (by simp) _ b8,⟨a,c,k to (by simp) _ cq⟩,h1.at λo q=>k i1 (by simp) o q,o2,k i2 (by simp) o2 bG,r2⟩
 item:=by
  intro X hP hw hK hc i pins s σ H E I hf st hg;subst hP hw hK;obtain⟨xs,x,hq,hx,gL⟩:=hg;obtain⟨aa,rv,p,hz0⟩:=I.list hq;obtain⟨u,hu,ru⟩:=rv.get hx;obtain⟨hz,b8,⟨a,c,cq⟩,h1,h2⟩:=st;have lt:∀{c o},s.heap.get? c=uN o->c<s.heap.objs.size:=λe=>lh e
  have lz:=lt hz;have jj:=lt b8;have ji:=lt cq;have l1:i1<s.heap.objs.size:=by obtain⟨o,e,_⟩:=id h1;exact lt e
  have l2:i2<s.heap.objs.size:=by obtain⟨o,e,_⟩:=id h2;exact lt e
  have hil:i<aa.toArray.size:=by have:=(lD.mp hu).1;simpa using this
  refine zkw_ (Draws.list (A:=X.A.in1) (show X.A.in1.handled=uO from I.ok.hd hc) i1 l fM aa.toArray) (zbF_ (t:=t) X.A.in1 (I.ok.hd hc)) D hz b8 cq ⟨h1,p.isList⟩ h2 hil gL λu' v h3 tk pu pv z3 km gh gg i5 kn iL=>?_
  obtain rfl:u'=u:=by
   have e:aa.toArray[i]?=uN u':=pu;rw[qL,hu]at e;exact(lX e).symm
  have bM:RelV (sgn t0 i) v:=zbT_ pv;refine⟨_,rfl,?_⟩;refine wpAny_letOwnedTupleGo_zip (s:={s with heap:=h3,toks:=tk}) z3 λh4 z4 c7=>?_
  replace c7:o6 z h3 h4:=c7;have hp:H s.heap.objs.size=uO:=I.hok.fresh (kZ _);have I1:Inv X pins σ (upd H s.heap.objs.size (.tup [x,sgn t0 i])) {s with heap:=s.heap.push {cls:=.type "tuple",data:=.seq #[u',v]},toks:=tk}:=by
   refine I.laid (λb u q=>kQ _ q) (kZ _) ⟨?_,[u',v],.cons ru (.cons bM .nil),⟨_,lC _ rfl,rfl,_,rfl⟩⟩
   show 2<=lA
   decide
  have aC:∀b∈[z,ti,to,i1,i2],b<s.heap.objs.size:=λb hb=>by
   simp only[lI,o8,or_false]at hb;rcases hb with rfl |rfl |rfl |rfl |rfl
   ·exact lz
   ·exact jj
   ·exact ji
   ·exact l1
   ·exact l2
  have eR:∀b∈[z,ti,to,i1,i2],FpOk X pins (upd H s.heap.objs.size (.tup [x,sgn t0 i])) b:=λb hb=>by
   obtain⟨f0,r⟩:=hf b hb;refine⟨?_,r⟩;rw[zc_ (lN (aC b hb))];exact f0
  have I2:Inv X pins σ (upd H s.heap.objs.size (.tup [x,sgn t0 i])) {s with heap:=h4,toks:=tk}:=by
   refine Inv.turnedL (s:={s with heap:=s.heap.push {cls:=.type "tuple",data:=.seq #[u',v]},toks:=tk}) (ch:=[z,ti,to,i1,i2]) I1 (λb o hb q=>?_) eR
   have n1:b≠z:=λe=>hb (by simp[e])
   have n2:b≠to:=λe=>hb (by simp[e])
   have n3:b≠i1:=λe=>hb (by simp[e])
   have n4:b≠i2:=λe=>hb (by simp[e])
   refine(c7.2 b n1).trans ?_;rcases qP q with⟨rfl,rfl⟩|q'
   ·exact i5
   ·exact iL b o n1 n2 n3 n4 q'
  refine⟨.ref s.heap.objs.size,_,I2,rfl,⟨s.heap.objs.size,x,λzs dJ=>by rw[I.list_inj dJ hq];exact hx,hp,rfl,rfl⟩,⟨z4,?_,⟨u',v,?_⟩,?_,?_⟩,λb hb=>(eR b hb).1⟩
  ·exact(c7.2 ti D.a1).trans (iL ti _ D.a1 D.a5 D.a6 D.a7 b8)
  ·exact(c7.2 to D.a2).trans km
  ·exact gh.1.extBut c7.extBut D.a3
  ·exact gg.extBut c7.extBut D.a4
 done:=by
  intro X hP hw hK hc i pins s σ H E I hf st hg;subst hP hw hK;obtain⟨xs,hq,hx⟩:=hg;obtain⟨aa,rv,p,hz0⟩:=I.list hq;obtain⟨hz,b8,⟨a,c,cq⟩,h1,h2⟩:=st;have hl:=rv.length;refine zls_ (Draws.list (A:=X.A.in1) (show X.A.in1.handled=uO from I.ok.hd hc) i1 l fM aa.toArray) (zbF_ (t:=t) X.A.in1 (I.ok.hd hc)) D hz b8 cq ⟨h1,p.isList⟩ h2 (by rw[hl]at hx;simpa using hx) λh' tk eb=>⟨rfl,?_⟩
  exact Inv.turnedL (s:=s) (t':=tk) (ch:=[z,ti,to,i1,i2]) I (λb o hb q=>eb b o (λe=>hb (by simp[e])) (λe=>hb (by simp[e])) (λe=>hb (by simp[e])) (λe=>hb (by simp[e])) q) hf
 self:=λ_ _ _ _ _ st h=>wpAny_pyIter_zip st.1 h
theorem zkq_ {N l:Nat}(hl:l<N):ZpAp (N+4) (N+2) (N+3) N (N+1) [N,l] [N+1]:=by
 have q:∀{a b:Nat},a≠b->(a:k9)≠(b:k9):=λh=>h
 have m1:∀{a b:Nat},a≠b->(a:k9)∉([b]:List k9):=λh e=>h (nj.mp e)
 have m2:∀{a b c:Nat},a≠b->a≠c->(a:k9)∉([b,c]:List k9):=λh1 h2 e=>by
  rcases lI.mp e with e |e
  ·exact h1 e
  ·exact h2 (nj.mp e)
 exact⟨q (by lia),q (by lia),q (by lia),q (by lia),q (by lia),q (by lia),q (by lia),q (by lia),q (by lia),q (by lia),m2 (by lia) (by lia),m1 (by lia),m2 (by lia) (by lia),m1 (by lia),m2 (by lia) (by lia),m1 (by lia)⟩
section
end
section
variable {α:Type}
def OwAll (O:Own α)(F:Hp):List α->List V->Hp->Prop
 |[],[],h=>∀p,h p=uO
 |x::xs,v::vs,h=>∃h1 h2,Jn h1 h2 h/\O.O x v F h1/\OwAll O F xs vs h2
 |_,_,_=>False
variable {O:Own α}
theorem OwAll.mono:∀{xs:List α}{vs:List V}{F F' h:Hp},Same F F'->OwAll O F xs vs h->OwAll O F' xs vs h
 |[],[],_,_,_,_,q=>q
 |x::xs,v::vs,F,F',h,g,q_=>by obtain⟨h1,h2,j,o,r⟩:=q_;exact⟨h1,h2,j,O.mono g o,r.mono g⟩
 |[],_::_,_,_,_,_,q=>q.elim
 |_::_,[],_,_,_,_,q=>q.elim
theorem OwAll.notup:∀{xs:List α}{vs:List V}{F h:Hp},OwAll O F xs vs h->∀p ys,h p≠uN (.tup ys)
 |[],[],_,_,q,p,ys=>by rw[q p];exact λz=>by cases z
 |x::xs,v::vs,F,h,q_,p,ys=>by
  obtain⟨h1,h2,j,o,r⟩:=q_;rcases j p with⟨_,b⟩|⟨_,b⟩
  ·rw[b];exact r.notup p ys
  ·rw[b];exact O.notup o p ys
 |[],_::_,_,_,q,_,_=>q.elim
 |_::_,[],_,_,q,_,_=>q.elim
theorem OwAll.len:∀{xs:List α}{vs:List V}{F h:Hp},OwAll O F xs vs h->xs.length=vs.length
 |[],[],_,_,_=>rfl
 |x::xs,v::vs,F,h,q_=>by obtain⟨h1,h2,j,o,r⟩:=q_;rw[lg,lg,r.len]
 |[],_::_,_,_,q=>q.elim
 |_::_,[],_,_,q=>q.elim
theorem zfH_ {F h1 h:Hp}(d:Dj F h)(s:Same h1 h):Same (un F h1) (un F h):=λp o e=>by
 unfold un at e ⊢;cases z:F p with
 |some w=>rw[z]at e;exact e
 |none=>rw[z]at e;exact s _ _ e
theorem OwAll.prs:∀{xs:List α}{vs:List V}{F h G:Hp},Dj F h->Same (un F h) G->OwAll O F xs vs h->Prs O.fr G xs vs
 |[],[],_,_,_,_,_,_=>.nil
 |x::xs,v::vs,F,h,G,d,g,q_=>by
  obtain⟨h1,h2,j,o,r⟩:=q_;have d1:Dj F h1:=λp=>by
   rcases d p with z |z
   ·exact .inl z
   ·exact .inr (j.l.free z)
  have d2:Dj F h2:=λp=>by
   rcases d p with z |z
   ·exact .inl z
   ·exact .inr (j.r.free z)
  exact .cons (O.fr.mono ((zfH_ d j.l).trans g) (O.frz d1 o)) (r.prs d2 ((zfH_ d j.r).trans g))
 |[],_::_,_,_,_,_,_,q=>q.elim
 |_::_,[],_,_,_,_,_,q=>q.elim
theorem z0_ {h1 h2 h:Hp}(j:Jn h1 h2 h):Jn h2 h1 h:=λp=>by
 rcases j p with⟨a,b⟩|⟨a,b⟩
 ·exact .inr ⟨a,b⟩
 ·exact .inl ⟨a,b⟩
theorem zj_ {h1 h2 iV h3 h:Hp}(j:Jn h1 h2 iV)(k:Jn iV h3 h):∃iU,Jn h2 h3 iU/\Jn h1 iU h:=by
 have d:Dj h2 h3:=λp=>by
  rcases k.dj p with z |z
  ·exact .inl (j.r.free z)
  ·exact .inr z
 refine⟨un h2 h3,z6_ d,λp=>?_⟩
 unfold un;rcases k p with⟨a,b⟩|⟨a,b⟩
 ·refine .inl ⟨j.l.free a,?_⟩
  rw[j.r.free a];exact b
 ·rcases j p with⟨c,e⟩|⟨c,e⟩
  ·refine .inl ⟨c,?_⟩
   rw[b,e];cases z:h2 p with
   |none=>exact a.symm ▸ rfl
   |some w=>rfl
  ·refine .inr ⟨?_,by rw[b,e]⟩
   rw[c];exact a
theorem OwAll.snoc:∀{xs:List α}{vs:List V}{F h:Hp}{x:α}{v:V}{hn:Hp},OwAll O F xs vs h->O.O x v F hn->Dj h hn->OwAll O F (xs++[x]) (vs++[v]) (un h hn)
 |[],[],F,h,x,v,hn,q,o,d=>by
  refine⟨hn,λ_=>uO,λp=>.inr ⟨rfl,?_⟩,o,λ_=>rfl⟩
  unfold un;rw[q p]
 |y::xs,w::vs,F,h,x,v,hn,q_,o,d=>by
  obtain⟨h1,h2,j,o1,r⟩:=q_;obtain⟨m,jm,jh⟩:=zj_ j (z6_ d);have d2:Dj h2 hn:=jm.dj;have e:m=un h2 hn:=by
   funext p;unfold un;rcases jm p with⟨a,b⟩|⟨a,b⟩
   ·rw[a];exact b
   ·rw[b]
    cases z:h2 p with
    |none=>exact a.symm ▸ rfl
    |some w=>rfl
  rw[e]at jh;exact⟨h1,_,jh,o1,r.snoc o d2⟩
 |[],_::_,_,_,_,_,_,q,_,_=>q.elim
 |_::_,[],_,_,_,_,_,q,_,_=>q.elim
abbrev owLO (O:Own α):Own (List α):=⟨λxs v F h=>∃p vs h2,v=.ref p/\Jn (one p (.lst vs)) h2 h/\OwAll O F xs vs h2,tyL O.fr,λg ⟨p,vs,h2,e,j,q⟩=>⟨p,vs,h2,e,j,q.mono g⟩,
 λ{a v F h} d ⟨p,vs,h2,e,j,q⟩=>⟨p,vs,e,zd6_ d _ _ (j.l _ _ zo_),q.prs (λb=>by
  rcases d b with z |z
  ·exact .inl z
  ·exact .inr (j.r.free z)) (zfH_ d j.r)⟩,
 λ⟨p,vs,h2,e,j,q⟩ b xs y=>by
  rcases j b with⟨_,z⟩|⟨_,z⟩
  ·rw[z]at y;exact q.notup b xs y
  ·rw[z]at y;unfold one at y;split at y<;>cases y⟩
end
section
end
def mFld (C:k9)(te:TE)(f:Str):TE:=λσ H Q=>te σ H λx H1=>match x with
 |.ref a=>∃dx fs v,H1 a=uN (.ins C dx fs)/\fs.lookup f=uN v/\Q v H1
 |_=>False
def mSFld (C:k9)(te tv:TE)(f:Str):TS:=λD σ H=>tv σ H λy H1=>te σ H1 λx H2=>match x with
 |.ref a=>∃dx fs,H2 a=uN (.ins C dx fs)/\fs.length<1000/\D.nx σ (upd H2 a (.ins C dx (putF f y fs)))
 |_=>False
section
variable {X:Cx}{e value o:lF}{f x:Str}{pos pos':Pos}{ta tv:TE}{C:k9}
theorem znM_ (c:Cls X.K C)(n:NoAttr X.K C f)(he:PE X e ta)(hb:attributeBase e f X.env (eval e X.env)=eval e X.env:=by rfl):PE X (.Attribute e f pos) (mFld C ta f):=by
 intro pins s σ H Q I h;refine znu_ hb (thn (he pins s σ H _ I h) λu s1 ae=>?_)
 obtain⟨x,H1,I1,rx,q1⟩:=ae;cases x with
 |ref a=>
  obtain⟨dx,fs,v,ea,l,q⟩:=q1;obtain rfl:u=mE a:=rx;exact zgS_ I1 ea c n l λu' s2 I2 ru=>⟨v,H1,I2,ru,q⟩
 |_=>exact q1.elim
theorem znz_ (c:Cls X.K C)(n:NoAttr X.K C f)(ha:PE X o ta)(hv:PE X value tv)(hs:swapsWith value (uN (.Attribute o f pos')) pos.line X.env=pure uQ:=by rfl):PS X (.Assign [.Attribute o f pos'] value pos) (mSFld C ta tv f):=by
 intro pins s σ H D I h;refine plainObj_wpAny_Assign_Attribute (thn (hv pins s σ H _ I h) λu s1 ⟨y,H1,I1,ry,q⟩=>thn (ha pins s1 σ H1 _ I1 q) λov s2 ae=>?_) hs
 obtain⟨x,H2,I2,rx,q2⟩:=ae;cases x with
 |ref a=>
  obtain⟨dx,fs,ea,l,q3⟩:=q2;obtain rfl:ov=mE a:=rx;exact zfR_ I2 ea c n l ry λs3 I3=>⟨σ,_,I3,q3⟩
 |_=>exact q2.elim
end
theorem zf3_:∀{ns:List Str}{vs:List V}{f:Str}(v:V),f∉ns->vs.length=ns.length->putF f v (ns.zip vs)=(ns++[f]).zip (vs++[v])
 |[],[],f,v,_,_=>rfl
 |[],_::_,_,_,_,h=>by simp at h
 |_::_,[],_,_,_,h=>by simp at h
 |n::ns,w::vs,f,v,h,hl=>by
  have eG:¬n=f:=λz=>h (z ▸ lO ..)
  rw[l0,putF,if_neg eG,zf3_ v (λz=>h (lL _ z)) (by simpa using hl)];rfl
section
variable {α:Type}
theorem dj_l {F h1 h2 h:Hp}(d:Dj F h)(j:Jn h1 h2 h):Dj F h1:=λp=>by
 rcases d p with z |z
 ·exact .inl z
 ·exact .inr (j.l.free z)
theorem dj_r {F h1 h2 h:Hp}(d:Dj F h)(j:Jn h1 h2 h):Dj F h2:=λp=>by
 rcases d p with z |z
 ·exact .inl z
 ·exact .inr (j.r.free z)
def two (p dx:k9)(o:HO):Hp:=λq=>if q=p then uN o else if q=dx then uN (.own p)else uO
theorem zpm_ {p dx:k9}{o:HO}:two p dx o p=uN o:=if_pos rfl
noncomputable abbrev owAt (u:V)(O:Own α):Own α:=⟨λa v F h=>v=u/\O.O a v F h,O.fr,λg q=>⟨q.1,O.mono g q.2⟩,λd q=>O.frz d q.2,λq=>O.notup q.2⟩
theorem jn_re {b t m a h:Hp}(jm:Jn b t m)(j:Jn a m h):Jn t (un a b) h:=λq=>by
 rcases j q with⟨x,y⟩|⟨x,y⟩
 ·rcases jm q with⟨c,e⟩|⟨c,e⟩
  ·right
   refine⟨by unfold un;rw[x,c],by rw[y,e]⟩
  ·left
   refine⟨c,by unfold un;rw[x,y,e]⟩
 ·left
  refine⟨jm.r.free x,?_⟩;unfold un;rw[y];cases z:a q with
  |none=>exact(jm.l.free x).symm ▸ rfl
  |some w=>rfl
theorem dj_of {a b t m h:Hp}(jm:Jn b t m)(j:Jn a m h):Dj a b:=λq=>by
 rcases j.dj q with z |z
 ·exact .inl z
 ·exact .inr (jm.l.free z)
variable {F0 H0 F h H:Hp}
theorem zdw_ {k:Hp}(ok:Okk F0 H0 F h H)(s:Same k h):Okk F0 H0 F k H:=by
 refine⟨ok.1,λp=>?_,s.trans ok.2.2.1,λp z=>ok.2.2.2.1 p λy=>z (s.free y),λp xs z=>ok.2.2.2.2 p xs (s _ _ z)⟩
 rcases ok.2.1 p with z |z
 ·exact .inl z
 ·exact .inr (s.free z)
theorem zh6_ {h:Hp}(p:k9)(z:h p≠uO):less H h p=uO:=by
 unfold less;cases y:h p with
 |none=>exact absurd y z
 |some w=>rfl
theorem zmY_:Same (less H h) H:=λp o z=>by
 unfold less at z;split at z
 ·exact z
 ·cases z
theorem zbc_ (hs:Same F H)(dj:Dj F h)(hh:Same h H)(nt:∀p xs,h p≠uN (.tup xs)):Okk F (less H h) F h H:=by
 refine⟨⟨Same.refl _,hs,zmY_,λp a b=>absurd a b⟩,dj,hh,λp z=>zh6_ p z,nt⟩
end
section
variable {X:Cx}
def mTrL (K:Fgg)(t:TE):TT:=λσ H Q=>t σ H λx H'=>match x with
 |.bl k=>Q k H'
 |.ref a=>∃xs,SqL K H' a xs/\Q (!xs.isEmpty) H'
 |_=>False
theorem zpZ_ {e:lF}{t:TE}(h:PE X e t)(he:∀whole,isTrue e X.env whole=(do let v <- whole;standAt e.pos;holding [v] (truthy v)):=by intro _;rfl):PT X e (mTrL X.K t):=by
 intro pins s σ H Q I hw;refine isTrue_plain (thn (h pins s σ H _ I hw) λv s1 ae=>?_) (he _)
 obtain⟨x,H1,I1,r1,q1⟩:=ae;cases x with
 |bl c=>cases r1;exact l6 ⟨H1,I1,q1⟩
 |ref a=>
  cases r1;obtain⟨xs,hq,q⟩:=q1;obtain⟨aa,rv,p,hz⟩:=I1.list hq;have hl:=rv.length;refine wpAny_truthy_list p.isList (by rw[k8,<- hl];rw[sizeLine_eq]at hz;lia) ?_
  have e:aa.isEmpty=xs.isEmpty:=by cases rv<;>rfl
  refine⟨H1,I1.tok _,?_⟩
  simpa [e]using q
 |_=>exact q1.elim
end
section
variable {K:Fgg}{E:XK}{α β:Type}{F0 H0 F h:Hp}{L:List Sl}{e te:TE}{T:Ty α}{r:Mo α}{t:TS}{σ:St}{f m:Str}{i n w j:Nat}
theorem zjN_ {lv:List Str}{fr:List (Str×Nat)}{wi:TI}{g:TG}{tt:TT}{te:TE}{r:Mo (List α)}{ss:α->List (Nat×Sl)}{c:α->Mo Bool}{f:α->Mo β}{O':Own β}
  (hi:EvI K wi E L r T) (hg:TgR K g T ss) (hd:∀a,DeadAt (cL lv fr L) ((ss a).map (·.1))) (ht:∀a,EvT K tt E0 (setL (cL lv fr L) (ss a)) (c a)) (he:∀a,EvO K te E0 (setL (cL lv fr L) (ss a)) (f a) O'):
  EvO K (tComp lv fr wi g tt te) E L (r.bind λxs=>compM (λx=>cond1 (c x) (f x)) xs []) (owLO O'):=by
 intro σ F0 H0 Q hL hs q;refine hi σ F0 H0 _ hL hs (q.bind.imp λxs F1 H1 x1 k1 J Y D hD=>?_)
 have av:=hL.mono x1.1
 refine⟨λi m ys ah H'=>m=xs.length-i/\i<=xs.length/\∃acc Fi hh,Ext F1 H1 Fi H'/\Fi D=uO/\hh D=uO/\H' D=uN (.lst ys)/\OwAll O' Fi acc ys hh/\Dj Fi hh/\Same hh H'/\(∀p,hh p≠uO->H1 p=uO)/\HoldF (cL lv fr L) ah F1/\ah.length=(cL lv fr L).length/\After K (compM (λx=>cond1 (c x) (f x)) (xs.drop i) acc) E F1 H1 (OwnK (owLO O') H0 Q),
  ⟨_,rfl,me _,[],F1,λ_=>uO,.heap x1.2.1 (zP_ hD _),x1.2.1.free hD,rfl,ze_,λ_=>rfl,λ_=>.inr rfl,(λp o z=>by cases z),λp z=>absurd rfl z,zfT_ av,zj4_.symm,k1⟩,?_⟩
 rintro i m ys ah H' ⟨rfl,hi,acc,Fi,hh,xi,hDi,hDh,hy,hp,dj,sh,fresh,hσ,cI,A⟩;by_cases aC:i<xs.length
 ·right
  have ex:xs[i]?=uN xs[i]:=kY aC;obtain⟨g1,g2⟩:=Y.go i H' xs[i] (xi.1.trans xi.2.1) ex;refine⟨g1,λcz cU fU=>i+1<=xs.length/\∃acc Fi hh,Ext F1 H1 Fi fU/\Fi D=uO/\hh D=uO/\fU D=uN (.lst cz)/\OwAll O' Fi acc cz hh/\Dj Fi hh/\Same hh fU/\(∀p,hh p≠uO->H1 p=uO)/\HoldF (cL lv fr L) cU F1/\cU.length=(cL lv fr L).length/\After K (compM (λx=>cond1 (c x) (f x)) (xs.drop (i+1)) acc) E F1 H1 (OwnK (owLO O') H0 Q),λcz cU fU z=>⟨xs.length-(i+1),by omega,rfl,z⟩,λv H2 jo=>?_⟩
  obtain⟨F2,x2,hv⟩:=g2 v H2 jo Fi xi.1 xi.2.1;have keep:∀{Fa Ha Fb Hb:Hp},Ext Fa Ha Fb Hb->Fa D=uO->Ha D=uN (.lst ys)->Dj Fa hh->Same hh Ha->(Fb D=uO/\Hb D=uN (.lst ys))/\Dj Fb hh/\Same hh Hb:=by
   intro Fa Ha Fb Hb x h1 h2 h3 h4;refine⟨⟨?_,x.2.2.1 _ _ h2⟩,λp=>?_,h4.trans x.2.2.1⟩
   ·cases z:Fb D with
    |none=>rfl
    |some o=>have:=x.2.2.2 D h1 (by rw[z];exact sN _);rw[h2]at this;cases this
   ·cases y:hh p with
    |none=>exact .inr rfl
    |some w=>
     left;rcases h3 p with z |z
     ·cases zz:Fb p with
      |none=>rfl
      |some o=>have:=x.2.2.2 p z (by rw[zz];exact sN _);rw[h4 _ _ y]at this;cases this
     ·rw[z]at y;cases y
  obtain⟨⟨fj,hy2⟩,hU,sh2⟩:=keep x2 hDi hy dj sh;refine hg xs[i] v ah F2 H2 _ x2.2.1 hv λvs aT=>?_
  have gp:HoldF (cL lv fr L) ah F2:=hσ.mono (xi.1.trans x2.1);obtain⟨a1,a2,a3⟩:=zfc_ aT cI.symm gp;have eB:HoldF (cL lv fr L) (setS ah vs) F1:=by
   have eX:=hd xs[i];refine λj s e=>?_
   by_cases hj:∃q∈(ss xs[i]).map (·.1),q=j
   ·obtain⟨q,hq,rfl⟩:=hj
    rw[eX q hq s e];trivial
   ·have:((setS ah vs)[j]?)=ah[j]?:=zjA_ aT (λhq=>hj ⟨j,hq,rfl⟩)
    rw[this];exact hσ j s e
  have eV:xs.drop i=xs[i]::xs.drop (i+1):=pf aC;rw[eV]at A;unfold compM at A;cases ec:c xs[i]with
  |no=>unfold cond1 at A;rw[ec]at A;exact A.elim
  |ex cc=>unfold cond1 at A;rw[ec]at A;exact A.elim
  |ok bb=>
   refine ht xs[i] _ F2 H2 _ a1 x2.2.1 ?_;rw[ec];intro F3 H3 x3;obtain⟨⟨dR,hy3⟩,dj3,sh3⟩:=keep x3 fj hy2 hU sh2;have fV:=(xi.trans x2).trans x3;cases bb with
   |false=>
    rw[if_neg (by decide)]
    refine⟨aC,acc,F3,hh,fV,dR,hDh,hy3,hp.mono (x2.1.trans x3.1),dj3,sh3,fresh,eB,by rw[a2];exact cI,?_⟩
    unfold cond1 at A;rw[ec]at A;exact A
   |true=>
    rw[if_pos rfl];cases ef:f xs[i]with
    |no=>unfold cond1 at A;rw[ec,ef]at A;exact A.elim
    |ex cc=>unfold cond1 at A;rw[ec,ef]at A;exact A.elim
    |ok y=>
     unfold cond1 at A;rw[ec,ef]at A;have A':After K (Mo.lim (acc.length+1) (compM (λx=>cond1 (c x) (f x)) (xs.drop (i+1)) (acc++[y]))) E F1 H1 (OwnK (owLO O') H0 Q):=A
     obtain⟨hz,A'⟩:=A'.lim;refine he xs[i] _ F3 H3 _ (a1.mono x3.1) x3.2.1 ?_;rw[ef];intro F4 H4 x4 v4 hn hG hJ i3 dN;obtain⟨⟨iS,hy4⟩,ki,sh4⟩:=keep x4 dR hy3 dj3 sh3;have hlen:=hp.len;have iJ:hn D=uO:=by
      cases z:hn D with
      |none=>rfl
      |some w=>have:=hG D (by rw[z];exact sN _);rw[hy3]at this;cases this
     have kf:Dj hh hn:=λp=>by
      cases z:hn p with
      |none=>exact .inr rfl
      |some w=>exact .inl (sh3.free (hG p (by rw[z];exact sN _)))
     have fw:=fV.trans x4;refine⟨hy4,by omega,aC,acc++[y],F4,un hh hn,?_,iS,by unfold un;rw[hDh];exact iJ,ze_,(hp.mono ((x2.1.trans x3.1).trans x4.1)).snoc dN kf,λp=>?_,λp o z=>?_,λp z=>?_,eB,by rw[a2];exact cI,A'⟩
     ·refine⟨fw.1,λb o z=>?_,λb o z=>?_,fw.2.2.2⟩
      ·unfold upd;split
       ·rename_i w;rw[w,iS]at z;cases z
       ·exact fw.2.1 _ _ z
      ·unfold upd;split
       ·rename_i w;rw[w,hD]at z;cases z
       ·exact fw.2.2.1 _ _ z
     ·unfold un
      cases z:hh p with
      |some w=>
       rcases ki p with y |y
       ·exact .inl y
       ·rw[y]at z;cases z
      |none=>exact hJ p
     ·have jE:p≠D:=λw=>by
       unfold un at z;rw[w,hDh,iJ]at z;cases z
      unfold upd;rw[if_neg jE];unfold un at z;cases w:hh p with
      |some o'=>rw[w]at z;cases z;exact sh4 _ _ w
      |none=>rw[w]at z;exact i3 _ _ z
     ·unfold un at z
      cases w:hh p with
      |some o'=>exact fresh p (by rw[w];exact sN _)
      |none=>rw[w]at z;exact fV.2.2.1.free (hG p z)
 ·left
  have e:i=xs.length:=by omega
  subst e;refine⟨Y.stop H' (xi.1.trans xi.2.1),?_⟩;rw[qq]at A;have A':OwnK (owLO O') H0 Q acc Fi H':=A Fi H' xi;have dD:Dj (one D (.lst ys)) hh:=λp=>by
   unfold one;split
   ·rename_i w;rw[w];exact .inr hDh
   ·exact .inl rfl
  refine A' (.ref D) (un (one D (.lst ys)) hh) (λp z=>?_) (λp=>?_) (λp o z=>?_) ⟨D,ys,hh,rfl,z6_ dD,hp⟩
  ·unfold un one at z
   by_cases w:p=D
   ·rw[w];exact x1.2.2.1.free hD
   ·simp only[if_neg w]at z;exact x1.2.2.1.free (fresh p z)
  ·by_cases w:p=D
   ·rw[w];exact .inl hDi
   ·unfold un one;simp only[if_neg w];exact dj p
  ·unfold un one at z
   by_cases w:p=D
   ·simp only[if_pos w]at z;rw[w];cases z;exact hy
   ·simp only[if_neg w]at z;exact sh _ _ z
theorem jn_no {h1 h2 h:Hp}(j:Jn h1 h2 h)(n:∀p,h2 p=uO):h=h1:=funext λp=>by
 rcases j p with⟨a,b⟩|⟨_,b⟩
 ·rw[b,n,a]
 ·exact b
section
open PySem PySem.Spec PyProof.Rows PySem.W
end
theorem zz_ {α:Type}{us:List α}{n:Nat}(h:us.length=n+1):∃a t,us=a::t/\t.length=n:=by
 cases us with
 |nil=>cases h
 |cons a t=>exact⟨a,t,rfl,mR h⟩
theorem Fun.binds1 {x qual:Str}{st:mi}{f:k9}{fd:mO}{ps:List Str}(hp:ps.length=1)(F:Fun K x qual st f fd)(h:∀(kV doc pm:aU) (an:Option k9) (af ct:aU) (ua:aU),bindArgs (W.fnOf x qual (defArgs st) (defBody st) (defScope st) .none kV doc pm an af ct) ⟨[ua],[]⟩=pure (ps.zip [ua])):Binds K fd ps []:=by
 refine F.binds λkV doc pm an af ct us hl=>?_
 have h0:=hl.trans hp;obtain⟨ua,t1,rfl,h1⟩:=zz_ h0;cases mn.mp h1;exact h kV doc pm an af ct ua
theorem Fun.binds2 {x qual:Str}{st:mi}{f:k9}{fd:mO}{ps:List Str}(hp:ps.length=2)(F:Fun K x qual st f fd)(h:∀(kV doc pm:aU) (an:Option k9) (af ct:aU) (ua ub:aU),bindArgs (W.fnOf x qual (defArgs st) (defBody st) (defScope st) .none kV doc pm an af ct) ⟨[ua,ub],[]⟩=pure (ps.zip [ua,ub])):Binds K fd ps []:=by
 refine F.binds λkV doc pm an af ct us hl=>?_
 have h0:=hl.trans hp;obtain⟨ua,t1,rfl,h1⟩:=zz_ h0;obtain⟨ub,t2,rfl,h2⟩:=zz_ h1;cases mn.mp h2;exact h kV doc pm an af ct ua ub
theorem Fun.binds3 {x qual:Str}{st:mi}{f:k9}{fd:mO}{ps:List Str}(hp:ps.length=3)(F:Fun K x qual st f fd)(h:∀(kV doc pm:aU) (an:Option k9) (af ct:aU) (ua ub uc:aU),bindArgs (W.fnOf x qual (defArgs st) (defBody st) (defScope st) .none kV doc pm an af ct) ⟨[ua,ub,uc],[]⟩=pure (ps.zip [ua,ub,uc])):Binds K fd ps []:=by
 refine F.binds λkV doc pm an af ct us hl=>?_
 have h0:=hl.trans hp;obtain⟨ua,t1,rfl,h1⟩:=zz_ h0;obtain⟨ub,t2,rfl,h2⟩:=zz_ h1;obtain⟨uc,t3,rfl,h3⟩:=zz_ h2;cases mn.mp h3;exact h kV doc pm an af ct ua ub uc
end
section
end
section
variable {κ:Type}[DecidableEq κ]
end
section
end
def mSetD (td ty tz:TE):TE:=λσ H Q=>td σ H λx H1=>(match x with |.ref a=>∃kvs,H1 a=uN (.dK kvs)|_=>False)/\ty σ H1 λy H2=>tz σ H2 λz H3=>atD x y H3 λa kvs k=>
 match valV kvs k with |some v=>Q v H3 |none=>kvs.length<lA/\Q z (upd H3 a (.dK (putK kvs k z)))
section
variable {X:Cx}{o e f:lF}{apos ak:Pos}{td ty tz:TE}
theorem zj6_ (hu:X.A.units+60<cLine)(ho:PE X o td)(he:PE X e ty)(hf:PE X f tz)(m:M2 X o "setdefault" apos e f ak:=by exact⟨rfl,rfl,rfl,rfl⟩):PE X (.Call (.Attribute o "setdefault" apos) [e,f] [] ak) (mSetD td ty tz):=by
 intro pins s σ H Q I h;refine wpAny_Call_method m.base m.few m.line PySem.F.plainAttrs_dict pU PySem.F.type_dict_setdefault (thn (ho pins s σ H _ I h) λu s1 ae=>?_)
 obtain⟨x,H1,I1,rx,hx,q1⟩:=ae;cases x with
 |ref a=>
  obtain⟨gd,hd0⟩:=hx;obtain rfl:u=mE a:=rx;obtain⟨t1,t2,_⟩:=zos_ I1 (.inl ⟨gd,.inl hd0⟩);refine⟨t1,t2,?_⟩;rw[m.trees];refine Calls.callWith_builtin rfl (Calls.evalArgs_plain (Calls.spliced_cons (thn (he pins s1 σ H1 _ I1 q1) λiv s2 ⟨y,H2,I2,ry,q2⟩=>
   Calls.spliced_cons (thn (hf pins s2 σ H2 _ I2 q2) λfv s3 ⟨z,H3,I3,rz,q3⟩=>Calls.spliced_nil ?_))))
  obtain⟨a',kvs,k,ea,rfl,hd,q⟩:=zgK_ q3;cases ea;obtain⟨hz,hsys,vs,rel,dd⟩:=zly_ I3.hok hd;have jl:vs.length<=lA:=by rw[<- rel.length];exact hz
  have rk:=rel.val k;refine call_meetsIn pU dd.typeIs PySem.F.entry_dict_setdefault (PySem.F.args_dict_setdefault_3 _ _ _) (kt_meets_setdefault (mixKind X.prog X.w) a (zjW_ ry) hsys fv) ⟨vs,dd,jl,λv hv=>?_,λhn h' cy hs=>?_⟩
  ·rw[hv]at rk
   cases g:valV kvs k with
   |none=>rw[g]at rk;exact rk.elim
   |some v0=>rw[g]at rk q;exact⟨v0,H3,I3.tok _,rk,q⟩
  ·rw[hn]at rk
   cases g:valV kvs k with
   |some v0=>rw[g]at rk;exact rk.elim
   |none=>
    rw[g]at q;have hl:(putK kvs k z).length<=lA:=by have:=zaA_ kvs k z;have:=q.1;lia
    have hq:∃q,h'.get? a=uN q:=let⟨q,_,_,hq,_⟩:=cy;⟨q,hq⟩
    exact⟨z,_,zeF_ I3 (by rw[hd];exact mN) hs hq (zj2_ hl hsys (rel.put k rz) cy),rz,q.2⟩
 |_=>exact hx.elim
end
section
variable {κ:Type}[DecidableEq κ]
end
section
end
section
variable {κ:Type}
variable [DecidableEq κ]
end
section
variable {κ:Type}[DecidableEq κ]
end
section
end
def Fi (K:Fgg)(x q:Str)(st:mi)(f:k9):Prop:=∃(oc:aU) (od:Option k9) (kV doc pm:aU) (an:Option k9) (af ct:aU) (aq:Array (Option aU)),
 K.lookup f=uN ⟨oc,od,.func (W.fnOf x q (defArgs st) (defBody st) (defScope st) .none kV doc pm an af ct),aq⟩/\pP K af q=uP/\oF K (.ref f)=uP
def Fg (K:Fgg)(x:Str)(st:mi):Prop:=∃f,ng K lH x=uN (uN (.ref f))/\Fi K x x st f
def Fm (K:Fgg)(c m q:Str)(st:mi):Prop:=∃cw f,ng K lH c=uN (uN (.ref cw))/\nQ K (.ref cw) m=uN (uN (.ref f))/\tK K (.ref f)=uP/\Fi K m q st f
def Fc (K:Fgg)(c:Str):Prop:=∃cw,ng K lH c=uN (uN (.ref cw))/\qy K cw tD=uP/\p9 K cw=uP/\qM K cw=uP /\
 nQ K (.ref cw) "__setattr__"=uN (uN (.builtin "object.__setattr__"))/\rQ K cw=uP/\oF K (.ref cw)=uP
def Fa (K:Fgg)(c a:Str):Prop:=∃cw,ng K lH c=uN (uN (.ref cw))/\nQ K (.ref cw) a=uN uO
def Fb (K:Fgg)(x:Str):Prop:=ng K lH x=uN uO
def Fv (K:Fgg)(x:Str)(v:V):Prop:=∃u,ng K lH x=uN (uN u)/\RelV v u
def Fk (K:Fgg)(x:Str):Prop:=∃c,ng K lH x=uN (uN (.ref c))
def Mgo (K:Fgg)(mg:Str->Option aU):Prop:=∃h:Heap,K.In h/\h.Ns lH mg
section
variable {P:lQ}{w:l9}{K:Fgg}{mg:Str->Option aU}{base:Heap}{CX:CXT}{x q c m a:Str}{st:mi}{f:k9}{fd:mO}{ps:List Str}{k:Nat}{sp:Sp}{v:V}
theorem Fg.mk_ {oc:aU}{od:Option k9}{kV doc pm:aU}{an:Option k9}{af ct:aU}{aq:Array (Option aU)}(h:ng K lH x=uN (uN (.ref f)))(l:K.lookup f=uN ⟨oc,od,.func (W.fnOf x x (defArgs st) (defBody st) (defScope st) .none kV doc pm an af ct),aq⟩)(c:pP K af x=uP)(k:oF K (.ref f)=uP):Fg K x st:=⟨f,h,oc,od,kV,doc,pm,an,af,ct,aq,l,c,k⟩
theorem Fm.mk_ {cw:k9}{oc:aU}{od:Option k9}{kV doc pm:aU}{an:Option k9}{af ct:aU}{aq:Array (Option aU)}(h:ng K lH c=uN (uN (.ref cw)))(h1:nQ K (.ref cw) m=uN (uN (.ref f)))(h2:tK K (.ref f)=uP)(l:K.lookup f=uN ⟨oc,od,.func (W.fnOf m q (defArgs st) (defBody st) (defScope st) .none kV doc pm an af ct),aq⟩)(h3:pP K af q=uP)(k:oF K (.ref f)=uP):Fm K c m q st:=⟨cw,f,h,h1,h2,oc,od,kV,doc,pm,an,af,ct,aq,l,h3,k⟩
theorem Fc.mk_ {cw:k9}(h:ng K lH c=uN (uN (.ref cw)))(h1:qy K cw tD=uP)(h2:p9 K cw=uP)(h3:qM K cw=uP)(h4:nQ K (.ref cw) "__setattr__"=uN (uN (.builtin "object.__setattr__")))(h5:rQ K cw=uP)(h6:oF K (.ref cw)=uP):Fc K c:=⟨cw,h,h1,h2,h3,h4,h5,h6⟩
theorem Fa.mk_ {cw:k9}(h:ng K lH c=uN (uN (.ref cw)))(h1:nQ K (.ref cw) a=uN uO):Fa K c a:=⟨cw,h,h1⟩
theorem Fv.mk_ {u:aU}(h:ng K lH x=uN (uN u))(h1:RelV v u):Fv K x v:=⟨u,h,h1⟩
theorem Fk.mk_ {cw:k9}(h:ng K lH x=uN (uN (.ref cw))):Fk K x:=⟨cw,h⟩
theorem Fi.fun_ (h:Fi K x q st f):∃fd,Fun K x q st f fd:=by
 obtain⟨oc,od,kV,doc,pm,an,af,ct,aq,l,c,k⟩:=h;exact⟨_,zmb_ l c k⟩
theorem Mgo.gb (M:Mgo K mg)(h:Fb K x):Gb mg x:=by
 obtain⟨_,X,G⟩:=M;exact W.mg_none_of X G h
theorem Mgo.gv (M:Mgo K mg)(h:Fv K x v):Gc mg x v:=by
 obtain⟨_,X,G⟩:=M;obtain⟨u,e,r⟩:=h;exact⟨u,rJ X G e,r⟩
theorem Mgo.gk (M:Mgo K mg)(h:Fk K x):mg x=uN (.ref (gA K x)):=by
 obtain⟨_,X,G⟩:=M;obtain⟨u,e⟩:=h;rw[zlr_ e];exact rJ X G e
theorem Mgo.gkc (M:Mgo K mg)(h:Fk K x):Gc mg x (.ref (gA K x)):=⟨_,M.gk h,rfl⟩
theorem Fc.cls (h:Fc K c):Cls K (gA K c):=by
 obtain⟨cw,e,h1,h2,h3,h4,_⟩:=h;rw[zlr_ e];exact⟨h1,h2,h3,h4⟩
theorem Fa.no (h:Fa K c a):NoAttr K (gA K c) a:=by
 obtain⟨cw,e,h⟩:=h;rw[zlr_ e];exact h
abbrev OkF (P:lQ)(w:l9)(K:Fgg)(mg:Str->Option aU)(base:Heap)(CX:CXT)(k:Nat)(x q:Str)(st:mi)(ps:List Str)(sp:Sp):Prop:=∀f fd,Fun K x q st f fd->FnOk P w K mg base CX k f fd ps sp/\Binds K fd ps []
theorem zG_ (M:Mgo K mg)(F:Fg K x st)(h:OkF P w K mg base CX k x x st ps sp):Gd P w K mg base CX k x ps sp:=by
 obtain⟨_,X,G⟩:=M;obtain⟨f,e,i⟩:=F;obtain⟨fd,F⟩:=i.fun_;exact⟨f,fd,(h f fd F).1,rJ X G e,F.kp,(h f fd F).2⟩
end
section
variable {K:Fgg}{x q:Str}{st:mi}{ps:List Str}
abbrev Bnd (K:Fgg)(x q:Str)(st:mi)(ps:List Str):Prop:=∀f fd,Fun K x q st f fd->Binds K fd ps []
variable {l:PySem.W.OpenLaw}{w:l9}{mg:Str->Option aU}{k:Nat}{sp:Sp}{fa:k9}
theorem okLaw (M:Mgo K mg)(F:Fg K "law" st)(gQ:mg "law"=uN (.ref fa))(hb:∀(kV doc pm:aU) (an:Option k9) (af ct:aU) (s:kR) (v:aU),bindArgs (W.fnOf "law" "law" (defArgs st) (defBody st) (defScope st) .none kV doc pm an af ct) ⟨[v],[]⟩=pure [(x,v)])
  (h:∀(base:Heap) (f:k9) (fd:mO),Fun K "law" "law" st f fd->FnOk l.prog w K mg base CX0 k f fd [x] sp):
  ∃fd:mO,(∀(s:kR) (v:aU),BindsTo s fd ⟨[v],[]⟩ [(x,v)])/\∀base:Heap,K.In base->base.Ns lH mg->FnOk l.prog w K mg base CX0 k fa fd [x] sp:=by
 obtain⟨_,X,G⟩:=M;obtain⟨f,e,oc,od,kV,doc,pm,an,af,ct,aq,l',c,kk⟩:=F;cases gQ.symm.trans (rJ X G e);exact⟨_,λs v=>.of_eq (hb kV doc pm an af ct s v),λbase _ _=>h base _ _ (zmb_ l' c kk)⟩
def spL (K:Fgg):Sp:=λvs H Q _=>∃(a:k9) (ns:List Int),vs=[.ref a]/\SqL K H a (ns.map V.int)/\ns.length<=63/\BitsOk ns/\∀H',Q (.bl uP) H'
end
abbrev zdy_:=@PySem.F.slot_str_zfill
abbrev zdR_:=@PySem.F.type_str_zfill
abbrev zdW_:=@PySem.F.slot_str_index
abbrev zdz_:=@PySem.F.type_str_index
abbrev zfd_:=@PySem.F.slot_str_join
abbrev zeR_:=@PySem.F.type_str_join
abbrev zep_:=@PySem.F.plainAttrs_list
abbrev za1_:=@PySem.F.slot_list_append
abbrev za7_:=@PySem.F.type_list_append
abbrev za6_:=@PySem.F.slot_list_extend
abbrev za0_:=@PySem.F.type_list_extend
section
end
def Fe1 (K:Fgg)(a:Str)(P:k9->Prop):Prop:=∃v,ng K lH a=uN (uN (.ref v))/\P v
theorem Fe1.mk_ {K:Fgg}{a:Str}{P:k9->Prop}{v:k9}(h:ng K lH a=uN (uN (.ref v)))(p:P v):Fe1 K a P:=⟨v,h,p⟩
def Fe2 (K:Fgg)(a b:Str)(P:k9->k9->Prop):Prop:=∃v w,ng K lH a=uN (uN (.ref v))/\ng K lH b=uN (uN (.ref w))/\P v w
theorem Fe2.mk_ {K:Fgg}{a b:Str}{P:k9->k9->Prop}{v w:k9}(h:ng K lH a=uN (uN (.ref v)))(h2:ng K lH b=uN (uN (.ref w)))(p:P v w):Fe2 K a b P:=⟨v,w,h,h2,p⟩
section
end
open PySem.SeqAt
open PySem.AutoSeq1 (wpAny_loadPart')
open PySem.MeetsSeq PySem.MeetsSeq2 PySem.MeetsSeq3
section
variable {X:Cx}{pins:Pnn}{σ:St}{H:Hp}{s:kR}{A:mh}
theorem zns_ {x y:V}{v u:aU}(rx:RelV x v)(ry:RelV y u)(fx:flatV x=uP)(fy:flatV y=uP):oJ A s v u (eqV x y):=by
 cases x with
 |non=>
  cases rx;cases y with
  |non=>cases ry;exact SeqAt.RcAt.none_none
  |bl b=>cases ry;exact SeqAt.RcAt.none_bool _
  |int b=>obtain⟨t,rfl⟩:=ry;exact SeqAt.RcAt.none_int _ _
  |str b=>obtain⟨t,rfl⟩:=ry;exact SeqAt.RcAt.none_str _ _
  |_=>cases fy
 |bl a=>
  cases rx;cases y with
  |non=>cases ry;exact SeqAt.RcAt.bool_none _
  |bl b=>cases ry;exact SeqAt.RcAt.bool_bool _ _
  |int b=>obtain⟨t,rfl⟩:=ry;exact SeqAt.RcAt.bool_int _ _ _
  |str b=>obtain⟨t,rfl⟩:=ry;exact SeqAt.RcAt.bool_str _ _ _
  |_=>cases fy
 |int a=>
  obtain⟨t',rfl⟩:=rx;cases y with
  |non=>cases ry;exact SeqAt.RcAt.int_none _ _
  |bl b=>cases ry;exact SeqAt.RcAt.int_bool _ _ _
  |int b=>obtain⟨t,rfl⟩:=ry;exact SeqAt.RcAt.int_int _ _ _ _
  |str b=>obtain⟨t,rfl⟩:=ry;exact SeqAt.RcAt.int_str _ _ _ _
  |_=>cases fy
 |str a=>
  obtain⟨t',rfl⟩:=rx;cases y with
  |non=>cases ry;exact SeqAt.RcAt.str_none _ _
  |bl b=>cases ry;exact SeqAt.RcAt.str_bool _ _ _
  |int b=>obtain⟨t,rfl⟩:=ry;exact SeqAt.RcAt.str_int _ _ _ _
  |str b=>obtain⟨t,rfl⟩:=ry;exact SeqAt.RcAt.str_str _ _ _ _
  |_=>cases fy
 |_=>cases fx
theorem zkF_ {x y:V}{v u:aU}(rx:RelV x v)(ry:RelV y u)(fx:flatV x=uP)(fy:flatV y=uP):o9 A s v u (!eqV x y):=by
 cases x with
 |non=>
  cases rx;cases y with
  |non=>cases ry;exact tO
  |bl b=>cases ry;exact tP _
  |int b=>obtain⟨t,rfl⟩:=ry;exact ud _ _
  |str b=>obtain⟨t,rfl⟩:=ry;exact ue _ _
  |_=>cases fy
 |bl a=>
  cases rx;cases y with
  |non=>cases ry;exact tQ _
  |bl b=>cases ry;exact tR _ _
  |int b=>obtain⟨t,rfl⟩:=ry;exact uf _ _ _
  |str b=>obtain⟨t,rfl⟩:=ry;exact ug _ _ _
  |_=>cases fy
 |int a=>
  obtain⟨t',rfl⟩:=rx;cases y with
  |non=>cases ry;exact uh _ _
  |bl b=>cases ry;exact ui _ _ _
  |int b=>obtain⟨t,rfl⟩:=ry;exact uz _ _ _ _
  |str b=>obtain⟨t,rfl⟩:=ry;exact uA _ _ _ _
  |_=>cases fy
 |str a=>
  obtain⟨t',rfl⟩:=rx;cases y with
  |non=>cases ry;exact uj _ _
  |bl b=>cases ry;exact uk _ _ _
  |int b=>obtain⟨t,rfl⟩:=ry;exact uB _ _ _ _
  |str b=>obtain⟨t,rfl⟩:=ry;exact uC _ _ _ _
  |_=>cases fy
 |_=>cases fx
theorem rc_lf {p:k9}{aa:Array aU}{y:V}{u:aU}(hp:s.heap.IsList p aa)(ry:RelV y u)(fy:flatV y=uP)(hu:A.units<cLine):oJ A s (.ref p) u uQ:=by
 cases y with
 |non=>cases ry;exact SeqAt.RcAt.list_none hp hu
 |bl b=>cases ry;exact SeqAt.RcAt.list_bool _ hp hu
 |int b=>obtain⟨t,rfl⟩:=ry;exact SeqAt.RcAt.list_int _ _ hp hu
 |str b=>obtain⟨t,rfl⟩:=ry;exact SeqAt.RcAt.list_str _ _ hp hu
 |_=>cases fy
theorem rc_lF {p:k9}{aa:Array aU}{y:V}{u:aU}(hp:s.heap.IsList p aa)(ry:RelV y u)(fy:flatV y=uP)(hu:A.units<cLine):oJ A s u (.ref p) uQ:=by
 cases y with
 |non=>cases ry;exact SeqAt.RcAt.none_list hp hu
 |bl b=>cases ry;exact SeqAt.RcAt.bool_list _ hp hu
 |int b=>obtain⟨t,rfl⟩:=ry;exact SeqAt.RcAt.int_list _ _ hp hu
 |str b=>obtain⟨t,rfl⟩:=ry;exact SeqAt.RcAt.str_list _ _ hp hu
 |_=>cases fy
theorem rc_tf {p:k9}{aa:Array aU}{y:V}{u:aU}(hp:s.heap.IsTuple p aa)(ry:RelV y u)(fy:flatV y=uP)(hu:A.units<cLine):oJ A s (.ref p) u uQ:=by
 cases y with
 |non=>cases ry;exact SeqAt.RcAt.tuple_none hp hu
 |bl b=>cases ry;exact SeqAt.RcAt.tuple_bool _ hp hu
 |int b=>obtain⟨t,rfl⟩:=ry;exact SeqAt.RcAt.tuple_int _ _ hp hu
 |str b=>obtain⟨t,rfl⟩:=ry;exact SeqAt.RcAt.tuple_str _ _ hp hu
 |_=>cases fy
theorem rc_tF {p:k9}{aa:Array aU}{y:V}{u:aU}(hp:s.heap.IsTuple p aa)(ry:RelV y u)(fy:flatV y=uP)(hu:A.units<cLine):oJ A s u (.ref p) uQ:=by
 cases y with
 |non=>cases ry;exact SeqAt.RcAt.none_tuple hp hu
 |bl b=>cases ry;exact SeqAt.RcAt.bool_tuple _ hp hu
 |int b=>obtain⟨t,rfl⟩:=ry;exact SeqAt.RcAt.int_tuple _ _ hp hu
 |str b=>obtain⟨t,rfl⟩:=ry;exact SeqAt.RcAt.str_tuple _ _ hp hu
 |_=>cases fy
theorem zph_ {p:k9}{aa:Array aU}{y:V}{u:aU}(hp:s.heap.IsList p aa)(ry:RelV y u)(fy:flatV y=uP)(hu:A.units<cLine):o9 A s (.ref p) u uP:=by
 cases y with
 |non=>cases ry;exact tS hp hu
 |bl b=>cases ry;exact tT _ hp hu
 |int b=>obtain⟨t,rfl⟩:=ry;exact um _ _ hp hu
 |str b=>obtain⟨t,rfl⟩:=ry;exact uo _ _ hp hu
 |_=>cases fy
theorem zn6_ {p:k9}{aa:Array aU}{y:V}{u:aU}(hp:s.heap.IsList p aa)(ry:RelV y u)(fy:flatV y=uP)(hu:A.units<cLine):o9 A s u (.ref p) uP:=by
 cases y with
 |non=>cases ry;exact tU hp hu
 |bl b=>cases ry;exact tV _ hp hu
 |int b=>obtain⟨t,rfl⟩:=ry;exact uq _ _ hp hu
 |str b=>obtain⟨t,rfl⟩:=ry;exact ur _ _ hp hu
 |_=>cases fy
theorem zpY_ {p:k9}{aa:Array aU}{y:V}{u:aU}(hp:s.heap.IsTuple p aa)(ry:RelV y u)(fy:flatV y=uP)(hu:A.units<cLine):o9 A s (.ref p) u uP:=by
 cases y with
 |non=>cases ry;exact tF hp hu
 |bl b=>cases ry;exact tG _ hp hu
 |int b=>obtain⟨t,rfl⟩:=ry;exact tW _ _ hp hu
 |str b=>obtain⟨t,rfl⟩:=ry;exact tX _ _ hp hu
 |_=>cases fy
theorem zo7_ {p:k9}{aa:Array aU}{y:V}{u:aU}(hp:s.heap.IsTuple p aa)(ry:RelV y u)(fy:flatV y=uP)(hu:A.units<cLine):o9 A s u (.ref p) uP:=by
 cases y with
 |non=>cases ry;exact tH hp hu
 |bl b=>cases ry;exact tI _ hp hu
 |int b=>obtain⟨t,rfl⟩:=ry;exact tY _ _ hp hu
 |str b=>obtain⟨t,rfl⟩:=ry;exact tZ _ _ hp hu
 |_=>cases fy
theorem zkU_ (I:Inv X pins σ H s){n:Nat}{x y:V}{b:Bool}(h:EqD X.K H n x y b):∀(A:mh) (v u:aU),A.units+n<cLine->RelV x v->RelV y u->oJ A s v u b:=by
 induction h with
 |flat hx hy=>exact λA v u _ rx ry=>zns_ rx ry hx hy
 |lst e hp hq hl h ih=>exact λA v u hu rx ry=>(zdg_ I (.lst e hp hq hl h) A v u hu rx ry).2 _ _ rfl rfl
 |lstN hp hq hl=>exact λA v u hu rx ry=>(zdg_ I (.lstN hp hq hl) A v u hu rx ry).2 _ _ rfl rfl
 |tup e hp hq h ih=>exact λA v u hu rx ry=>(zdg_ I (.tup e hp hq h) A v u hu rx ry).2 _ _ rfl rfl
 |lt hp hq=>exact λA v u hu rx ry=>(zdg_ I (.lt hp hq) A v u hu rx ry).2 _ _ rfl rfl
 |tl hp hq=>exact λA v u hu rx ry=>(zdg_ I (.tl hp hq) A v u hu rx ry).2 _ _ rfl rfl
 |lf hp hy=>intro A v u hu rx ry;cases rx;obtain⟨aa,_,p1,_⟩:=I.list hp;exact rc_lf p1.isList ry hy (by lia)
 |fl hp hy=>intro A v u hu rx ry;cases ry;obtain⟨aa,_,p1,_⟩:=I.list hp;exact rc_lF p1.isList rx hy (by lia)
 |tf hp hy=>intro A v u hu rx ry;cases rx;obtain⟨aa,_,p1,_⟩:=I.tuple hp;exact rc_tf p1 ry hy (by lia)
 |ft hp hy=>intro A v u hu rx ry;cases ry;obtain⟨aa,_,p1,_⟩:=I.tuple hp;exact rc_tF p1 rx hy (by lia)
 |up h ih=>exact λA v u hu rx ry=>ih A v u (by lia) rx ry
def mEqA (K:Fgg):R2:=λx y H Q=>∃n b,n<=50/\EqD K H n x y b/\Q (.bl b) H
theorem zqP_ (hu:X.A.units+60<cLine):OpR X (lP .Eq) (mEqA X.K):=by
 intro pins s σ H x y v u Q I rx ry h;obtain⟨n,b,hn,h,q⟩:=h;exact(zkU_ I h X.A v u (by lia) rx ry) X.prog X.w X.xe _ ⟨.bl b,H,I,rfl,q⟩
theorem zjH_ (I:Inv X pins σ H s){n:Nat}{x y:V}{b:Bool}(h:EqD X.K H n x y b):∀(A:mh) (v u:aU),A.units+n<cLine->RelV x v->RelV y u->o9 A s v u (!b):=by
 induction h with
 |flat hx hy=>exact λA v u _ rx ry=>zkF_ rx ry hx hy
 |lst e hp hq hl h ih=>exact λA v u hu rx ry=>zgF_ I (.lst e hp hq hl h) A v u hu rx ry _ _ rfl rfl
 |lstN hp hq hl=>exact λA v u hu rx ry=>zgF_ I (.lstN hp hq hl) A v u hu rx ry _ _ rfl rfl
 |tup e hp hq h ih=>exact λA v u hu rx ry=>zgF_ I (.tup e hp hq h) A v u hu rx ry _ _ rfl rfl
 |lt hp hq=>exact λA v u hu rx ry=>zgF_ I (.lt hp hq) A v u hu rx ry _ _ rfl rfl
 |tl hp hq=>exact λA v u hu rx ry=>zgF_ I (.tl hp hq) A v u hu rx ry _ _ rfl rfl
 |lf hp hy=>intro A v u hu rx ry;cases rx;obtain⟨aa,_,p1,_⟩:=I.list hp;exact zph_ p1.isList ry hy (by lia)
 |fl hp hy=>intro A v u hu rx ry;cases ry;obtain⟨aa,_,p1,_⟩:=I.list hp;exact zn6_ p1.isList rx hy (by lia)
 |tf hp hy=>intro A v u hu rx ry;cases rx;obtain⟨aa,_,p1,_⟩:=I.tuple hp;exact zpY_ p1 ry hy (by lia)
 |ft hp hy=>intro A v u hu rx ry;cases ry;obtain⟨aa,_,p1,_⟩:=I.tuple hp;exact zo7_ p1 rx hy (by lia)
 |up h ih=>exact λA v u hu rx ry=>ih A v u (by lia) rx ry
def mNeA (K:Fgg):R2:=λx y H Q=>∃n b,n<=50/\EqD K H n x y b/\Q (.bl (!b)) H
theorem zpG_ (hu:X.A.units+60<cLine):OpR X (lP .NotEq) (mNeA X.K):=by
 intro pins s σ H x y v u Q I rx ry h;obtain⟨n,b,hn,h,q⟩:=h;exact(zjH_ I h X.A v u (by lia) rx ry) X.prog X.w X.xe _ ⟨.bl (!b),H,I,rfl,q⟩
end
def Fs (K:Fgg)(c m q:Str)(st:mi):Prop:=∃cw f,ng K lH c=uN (uN (.ref cw))/\si K (.ref cw) "__getattribute__"=uN (uN (.builtin "type.__getattribute__"))/\W.readsIn K cw (.type "type")=uP/\W.findCls K (.ref cw) (.type "type") m=uN (.val (.ref f))/\Fi K m q st f
section
variable {K:Fgg}{q c m:Str}{st:mi}{f:k9}
theorem Fs.mk_ {cw:k9}{oc:aU}{od:Option k9}{kV doc pm:aU}{an:Option k9}{af ct:aU}{aq:Array (Option aU)}(h:ng K lH c=uN (uN (.ref cw)))(h1:si K (.ref cw) "__getattribute__"=uN (uN (.builtin "type.__getattribute__")))(h2:W.readsIn K cw (.type "type")=uP)(h3:W.findCls K (.ref cw) (.type "type") m=uN (.val (.ref f)))
  (l:K.lookup f=uN ⟨oc,od,.func (W.fnOf m q (defArgs st) (defBody st) (defScope st) .none kV doc pm an af ct),aq⟩) (hc:pP K af q=uP) (hk:oF K (.ref f)=uP):Fs K c m q st:=⟨cw,f,h,h1,h2,h3,oc,od,kV,doc,pm,an,af,ct,aq,l,hc,hk⟩
end
section
variable {κ:Type}
section
variable [DecidableEq κ]
end
end
section
end
noncomputable def Xc.c:Xc->String
 |.pl c=>c
 |.at c _=>c
section
end
structure FunD (K:Fgg)(T:k9)(x qual:Str)(st:mi)(f:k9)(fd:mO):Prop where
 ex:∃(oc:aU) (od:Option k9) (kV doc pm:aU) (an:Option k9) (af ct:aU) (aq:Array (Option aU)),
  fd=W.fnOf x qual (defArgs st) (defBody st) (defScope st) (.ref T) kV doc pm an af ct/\K.lookup f=uN ⟨oc,od,.func fd,aq⟩/\pP K af qual=uP
 kp:oF K (.ref f)=uP
section
end
noncomputable def relB:V->aU->Bool
 |.non,.none=>uP
 |.int i,.int j _=>i == j
 |.bl a,.bool b=>a == b
 |_,_=>uQ
def relsB:List V->List aU->Bool
 |[],[]=>uP
 |x::xs,v::vs=>relB x v && relsB xs vs
 |_,_=>uQ
theorem zmM_ {x:V}{v:aU}(h:relB x v=uP):RelV x v:=by
 unfold relB at h;split at h
 ·rfl
 ·exact⟨_,by rw[eq_of_beq h]⟩
 ·rw[eq_of_beq h];rfl
 ·cases h
theorem zga_:∀{xs:List V}{vs:List aU},relsB xs vs=uP->Vals xs vs
 |[],[],_=>.nil
 |x::xs,v::vs,h=>by
  unfold relsB at h;obtain⟨a,b⟩:=l4.mp h;exact .cons (zmM_ a) (zga_ b)
 |[],_::_,h=>by cases h
 |_::_,[],h=>by cases h
def FmD (K:Fgg)(c m q:Str)(st:mi)(au:List V):Prop:=∃cw f T fd arr n oc od aq,ng K lH c=uN (uN (.ref cw))/\nQ K (.ref cw) m=uN (uN (.ref f))/\tK K (.ref f)=uP/\FunD K T m q st f fd /\
 K.lookup T=uN ⟨oc,od,.seq arr n,aq⟩/\Vals au arr.toList
section
variable {P:lQ}{w:l9}{K:Fgg}{mg:Str->Option aU}{base:Heap}{CX:CXT}{x q c m:Str}{st:mi}{f:k9}{fd:mO}{ps:List Str}{k:Nat}{sp:Sp}
theorem FmD.mk_ {cw T:k9}{oc dH:aU}{od fF:Option k9}{kV doc pm:aU}{an:Option k9}{af ct:aU}{aq dY:Array (Option aU)}{arr:Array aU}{n:Nat}{au:List V}(h:ng K lH c=uN (uN (.ref cw)))(h1:nQ K (.ref cw) m=uN (uN (.ref f)))(h2:tK K (.ref f)=uP)
  (l:K.lookup f=uN ⟨oc,od,.func (W.fnOf m q (defArgs st) (defBody st) (defScope st) (.ref T) kV doc pm an af ct),aq⟩) (c1:pP K af q=uP) (k1:oF K (.ref f)=uP) (lT:K.lookup T=uN ⟨dH,fF,.seq arr n,dY⟩) (hv:relsB au arr.toList=uP):FmD K c m q st au:=
 ⟨cw,f,T,_,arr,n,dH,fF,dY,h,h1,h2,⟨⟨oc,od,kV,doc,pm,an,af,ct,aq,rfl,l,c1⟩,k1⟩,lT,zga_ hv⟩
def GkD (P:lQ)(w:l9)(K:Fgg)(mg:Str->Option aU)(base:Heap)(CX:CXT)(k:Nat)(x:Str)(C:k9)(ps:List Str)(au:List V)(sp:Sp):Prop:=
 ∃f fd ds,FnOk P w K mg base CX k f fd ps sp/\Mk K C f/\mg x=uN (.ref C)/\Vals au ds/\Binds K fd ps ds
abbrev OkFD (P:lQ)(w:l9)(K:Fgg)(mg:Str->Option aU)(base:Heap)(CX:CXT)(k:Nat)(x q:Str)(st:mi)(ps:List Str)(sp:Sp):Prop:=∀T f fd,FunD K T x q st f fd->FnOk P w K mg base CX k f fd ps sp
theorem zkM_ {ps:List Str}{T:k9}{oc:aU}{od:Option k9}{aq:Array (Option aU)}{d0 d1 d2 d3 d4:aU}{n:Nat}(hp:ps.length=10)(F:FunD K T x q st f fd)(lT:K.lookup T=uN ⟨oc,od,.seq #[d0,d1,d2,d3,d4] n,aq⟩)
  (h:∀(kV doc pm:aU) (an:Option k9) (af ct:aU) (u0 u1 u2 u3 u4 u5:aU) (s:kR),(∃o,s.heap.get? T=uN o/\o.data=.seq #[d0,d1,d2,d3,d4] n)->BindsTo s (W.fnOf x q (defArgs st) (defBody st) (defScope st) (.ref T) kV doc pm an af ct) ⟨[u0,u1,u2,u3,u4,u5],[]⟩ (ps.zip [u0,u1,u2,u3,u4,u5,d1,d2,d3,d4])):
  Binds K fd ps [d1,d2,d3,d4]:=by
 obtain⟨oc,od,kV,doc,pm,an,af,ct,aq,rfl,lk,aD⟩:=F.ex;intro s us hK hl;rw[hp,lE]at hl;have hl:us.length=6:=by simpa using hl
 obtain⟨u0,t1,rfl,h1⟩:=zz_ hl;obtain⟨u1,t2,rfl,h2⟩:=zz_ h1;obtain⟨u2,t3,rfl,h3⟩:=zz_ h2;obtain⟨u3,t4,rfl,h4⟩:=zz_ h3;obtain⟨u4,t5,rfl,h5⟩:=zz_ h4;obtain⟨u5,t6,rfl,h6⟩:=zz_ h5;cases mn.mp h6;exact h kV doc pm an af ct u0 u1 u2 u3 u4 u5 s ⟨_,hK _ _ lT,rfl⟩
end
section
variable {X:Cx}{e:lF}{es:List lF}{x:Str}{p pos:Pos}{t:TA}{C:k9}{k:Nat}{ps:List Str}{sp:Sp}{E:XK}{CX:CXT}{au:List V}
theorem zjJ_ (G:GkD X.prog X.w X.K X.mg X.base CX k x C ps au sp)(hr:Room (k+1) X.A)(hx:Passes CX X E)(ha:PA X (e::es) t)(hg:Gl X x:=by rfl)(aZ:(x==("__debug__":Str))=uQ:=by decide)
  (he:lW (e::es) X.env=(uQ,eval e X.env)::lW es X.env:=by rfl) (aT:(oz pos (lW es X.env)).any (·.1)=uQ:=by rfl):
  PE X (.Call (.Name x p) (e::es) [] pos) (tMake C sp au E t):=by
 obtain⟨f,fd,ds,F,M,hm,hd,hb⟩:=G;exact zmf_ M F hr hg hm hb hd hx ha aZ he aT
end
section
variable {P:lQ}{w:l9}{K:Fgg}{mg:Str->Option aU}{base:Heap}{q c:Str}{st:mi}{ps:List Str}{k:Nat}
theorem zov_ {CX:CXT}{sp:Sp}{au:List V}(j:Nat)(M:Mgo K mg)(C:Fc K c)(F:FmD K c "__init__" q st au)(hb:∀T f fd arr n oc od aq,FunD K T "__init__" q st f fd->K.lookup T=uN ⟨oc,od,.seq arr n,aq⟩->arr.toList.length=au.length->Binds K fd ps (arr.toList.drop j))
  (h:OkFD P w K mg base CX k "__init__" q st ps sp):GkD P w K mg base CX k c (gA K c) ps (au.drop j) sp:=by
 obtain⟨cw,f,T,fd,arr,n,oc,od,aq,e,e2,e3,F,lT,hv⟩:=F;obtain⟨kH,e',_,_,_,_,h5,h6⟩:=C;cases e.symm.trans e';have hd:∀{xs:List V}{vs:List aU}(j:Nat),Vals xs vs->Vals (xs.drop j) (vs.drop j):=λ{xs vs} j r=>by
  induction j generalizing xs vs with
  |zero=>exact r
  |succ j ih=>cases r with |nil=>exact .nil |cons a t=>exact ih t
 exact⟨f,fd,arr.toList.drop j,h T f fd F,by rw[zlr_ e];exact⟨h5,e2,e3,h6⟩,M.gk ⟨_,e⟩,hd j hv,hb T f fd arr n oc od aq F lT hv.length.symm⟩
theorem arr5 {arr:Array aU}(h:arr.toList.length=5):∃d0 d1 d2 d3 d4,arr=#[d0,d1,d2,d3,d4]:=by
 obtain⟨l⟩:=arr;obtain⟨d0,l,rfl⟩:=mj h;obtain⟨d1,l,rfl⟩:=mj (mR h);obtain⟨d2,l,rfl⟩:=mj (mR (mR h));obtain⟨d3,l,rfl⟩:=mj (mR (mR (mR h)));obtain⟨d4,rfl⟩:=m5.mp (mR (mR (mR (mR h))));exact⟨d0,d1,d2,d3,d4,rfl⟩
end
noncomputable def strsB:List (List Nat)->List aU->Bool
 |[],[]=>uP
 |x::xs,.str z _::vs=>z == ⟨x.toArray⟩ && strsB xs vs
 |_,_=>uQ
theorem zfY_:∀{xs:List (List Nat)}{vs:List aU},strsB xs vs=uP->Vals (xs.map tx) vs
 |[],[],_=>.nil
 |x::xs,v::vs,h=>by
  unfold strsB at h;split at h
  ·rename_i e1 _;cases e1
  ·rename_i e1 e2
   cases e1;cases e2;obtain⟨a,b⟩:=l4.mp h;exact .cons ⟨_,by rw[eq_of_beq a]⟩ (zfY_ b)
  ·cases h
 |[],_::_,h=>by cases h
 |_::_,[],h=>by cases h
def FtT (K:Fgg)(x:Str)(xs:List (List Nat)):Prop:=∀H:Hp,SqT K H (gA K x) (xs.map tx)
theorem FtT.mk_ {K:Fgg}{x:Str}{xs:List (List Nat)}{a:k9}{od:Option k9}{aa:Array aU}{n:Nat}{aq:Array (Option aU)}(h:ng K lH x=uN (uN (.ref a)))(l:K.lookup a=uN ⟨.type "tuple",od,.seq aa n,aq⟩)(hv:strsB xs aa.toList=uP)(hs:aa.toList.length<=1000):FtT K x xs:=λH=>by
 rw[zlr_ h];exact .inr ⟨_,aa,n,l,rfl,rfl,by rw[mz]at hs;exact mq hs (by rw[sizeLine_eq];decide),zfY_ hv⟩
section
end
instance:Inhabited V:=⟨.non⟩
section
variable {lt:Nat->Nat->Bool}{n:Nat}
def sl (lt:Nat->Nat->Bool)(a b:Nat):Prop:=lt b a=uQ/\(lt a b=uP\/a<b)
theorem WOr.st (w:WOr lt){a b c:Nat}(h:lt a b=uP)(g:lt c b=uQ):lt a c=uP:=by
 cases e:lt a c with
 |true=>rfl
 |false=>rw[w.tr g e]at h;cases h
theorem WOr.st' (w:WOr lt){a b c:Nat}(h:lt a b=uP)(g:lt a c=uQ):lt c b=uP:=by
 cases e:lt c b with
 |true=>rfl
 |false=>rw[w.tr e g]at h;cases h
theorem WOr.sl (w:WOr lt){a b:Nat}(h:lt a b=uP):sl lt a b:=⟨w.asym h,.inl h⟩
def Rest (p:Array Nat)(n m:Nat):Prop:=∀i,m<=i->i<n->p.getD i 0=i
theorem zo2_ {p:Array Nat}(h:Pm p n){i j:Nat}(hi:i<n)(hj:j<n)(e:p.getD i 0=p.getD j 0):i=j:=by
 have hs:=zaV_ h;have nd:p.toList.Nodup:=h.nodup_iff.mpr List.nodup_range;have e':∀k (hk:k<n),p.getD k 0=p.toList[k]'(by rw[mz,hs];exact hk):=λk hk=>by simp[rA,hs,hk]
 rw[e' i hi,e' j hj]at e;exact(rP nd).mp e
theorem Rest.below {p:Array Nat}{m:Nat}(r:Rest p n m)(h:Pm p n){i:Nat}(hi:i<m)(hm:m<=n):p.getD i 0<m:=by
 have h1:=zgy_ h (show i<n by lia)
 cases Nat.lt_or_ge (p.getD i 0) m with
 |inl z=>exact z
 |inr z=>
  have:=r _ z h1;have:=zo2_ h (by lia) h1 this.symm
  lia
theorem Rest.mono {p:Array Nat}{m k:Nat}(r:Rest p n m)(h:m<=k):Rest p n k:=λi hi=>r i (by lia)
theorem Rest.rev {p:Array Nat}{m i j:Nat}(r:Rest p n m)(hp:Pm p n)(hj:j<=m)(hm:m<=n):Rest (kas_rev p i j) n m:=λk hk hn=>by
 have hs:=zaV_ hp;rw[zbH_ (by lia),if_neg (by lia)];exact r k hk hn
def As (lt:Nat->Nat->Bool)(p:Array Nat)(k:Nat):Prop:=∀i j,i<j->j<k->sl lt (p.getD i 0) (p.getD j 0)
def Ds (lt:Nat->Nat->Bool)(p:Array Nat)(k:Nat):Prop:=∀i j,i<j->j<k->sl lt (p.getD j 0) (p.getD i 0)
theorem zfW_ (w:WOr lt){p:Array Nat}(hp:Pm p n):∀(f m:Nat),1<=m->m+f<=n->As lt p m->Rest p n m->okT lt n (kas_asc p f m) (λr=>m<=r/\r<=m+f/\As lt p r/\(r<m+f->lt (p.getD r 0) (p.getD (r-1) 0)=uP))
 |0,m,h1,hm,ha,hr=>⟨kZ _,kZ _,ha,λh=>absurd h (oT _)⟩
 |f+1,m,h1,hm,ha,hr=>by
  refine⟨zgy_ hp (by lia),zgy_ hp (by lia),?_⟩
  show okT lt n (if lt (p.getD m 0) (p.getD (m-1) 0)=uP then KasT.ret m else kas_asc p f (m+1)) _
  cases h:lt (p.getD m 0) (p.getD (m-1) 0)with
  |true=>rw[if_pos rfl];exact⟨kZ _,by lia,ha,λ_=>h⟩
  |false=>
   rw[if_neg (by decide)]
   refine zaN_ (λr q=>⟨by lia,by lia,q.2.2.1,λz=>q.2.2.2 (by lia)⟩) _ (zfW_ w hp f (m+1) (by lia) (by lia) (λi j aN hj=>?_) (hr.mono (by lia)))
   by_cases e:j<m
   ·exact ha i j aN e
   ·obtain rfl:j=m:=by lia
    have l:=hr.below hp aN (by lia)
    refine⟨?_,.inr (by rw[hr j (kZ _) (by lia)];exact l)⟩
    by_cases e2:i=j-1
    ·rw[e2];exact h
    ·exact w.tr (ha i (j-1) (by lia) (by lia)).1 h
structure Dwn (lt:Nat->Nat->Bool)(n:Nat)(p:Array Nat)(m q:Nat):Prop where
 pm:Pm p n
 hq:q+1<=m
 hm:m<=n
 rest:Rest p n m
 a:∀i j,i<j->j<m-(q+1)->sl lt (p.getD j 0) (p.getD i 0)
 b:∀i j,i<m-(q+1)->m-(q+1)<=j->j<m->lt (p.getD j 0) (p.getD i 0)=uP
 c:∀i j,m-(q+1)<=i->i<j->j<m->p.getD i 0<p.getD j 0
 d:∀i j,m-(q+1)<=i->i<m->m-(q+1)<=j->j<m->lt (p.getD i 0) (p.getD j 0)=uQ
theorem Dwn.ds0 (w:WOr lt){p:Array Nat}{m:Nat}(d:Dwn lt n p m 0):Ds lt p m:=λi j aN hj=>by
 by_cases e:j<m-1
 ·exact d.a i j aN e
 ·exact w.sl (d.b i j (by lia) (by lia) hj)
theorem Dwn.ds (w:WOr lt){p:Array Nat}{m q:Nat}(d:Dwn lt n p m q):Ds lt (kas_rev p (m-(q+1)) m) m:=λi j aN hj=>by
 have hs:=zaV_ d.pm;have hq:=d.hq;have hm:=d.hm;rw[zbH_ (by lia),zbH_ (by lia)]
 by_cases a:m-(q+1)<=i
 ·rw[if_pos ⟨by lia,hj⟩,if_pos ⟨a,by lia⟩]
  exact⟨d.d _ _ (by lia) (by lia) (by lia) (by lia),.inr (d.c _ _ (by lia) (by lia) (by lia))⟩
 ·rw[if_neg (λz:m-(q+1)<=i/\_=>a z.1)]
  by_cases b:m-(q+1)<=j
  ·rw[if_pos ⟨b,hj⟩];exact w.sl (d.b _ _ (by lia) (by lia) (by lia))
  ·rw[if_neg (λz=>b z.1)];exact d.a _ _ aN (by lia)
theorem Dwn.next (w:WOr lt){p:Array Nat}{m:Nat}(hp:Pm p n)(hm:m+1<=n)(hr:Rest p n m)(h1:1<=m)(ds:Ds lt p m)(hl:∀i,i<m->lt (p.getD m 0) (p.getD i 0)=uP):Dwn lt n p (m+1) 0 where
 pm:=hp
 hq:=by lia
 hm:=hm
 rest:=hr.mono (by lia)
 a:=λi j aN hj=>ds i j aN (by lia)
 b:=λi j hi hj fO=>by
  obtain rfl:j=m:=by lia
  exact hl i (by lia)
 c:=λi j h1 h2 h3=>by lia
 d:=λi j h1 h2 h3 h4=>by
  obtain rfl:j=m:=by lia
  obtain rfl:i=j:=by lia
  exact w.refl _
theorem zco_ (w:WOr lt):∀(f:Nat) (p:Array Nat) (m q:Nat),Dwn lt n p m q->m+f<=n->okT lt n (kas_desc f p m q) (λr=>Dwn lt n r.1 r.2.1 r.2.2)
 |0,p,m,q,d,hm=>d
 |f+1,p,m,q,d,hm=>by
  have hp:=d.pm;have hs:=zaV_ hp;have hq:=d.hq;have up:∀i,i<m->lt (p.getD (m-1) 0) (p.getD i 0)=uP\/(m-(q+1)<=i/\lt (p.getD (m-1) 0) (p.getD i 0)=uQ/\lt (p.getD i 0) (p.getD (m-1) 0)=uQ):=λi hi=>by
   by_cases e:m-(q+1)<=i
   ·exact .inr ⟨e,d.d _ _ (by lia) (by lia) e hi,d.d _ _ e hi (by lia) (by lia)⟩
   ·exact .inl (d.b _ _ (by lia) (by lia) (by lia))
  refine⟨zgy_ hp (by lia),zgy_ hp (by lia),?_⟩
  cases h:lt (p.getD m 0) (p.getD (m-1) 0)with
  |true=>
   dsimp only;rw[if_pos rfl];have hl:∀i,i<m->lt (p.getD m 0) (p.getD i 0)=uP:=λi hi=>by
    rcases up i hi with z |⟨_,z,z'⟩
    ·exact w.st h (w.asym z)
    ·exact w.st h z'
   by_cases hq0:q > 0
   ·rw[if_pos hq0]
    refine zco_ w f _ (m+1) 0 (.next w (zhi_ hp _ _) (by lia) (d.rest.rev hp (kZ _) (by lia)) (by lia) (d.ds w) λi hi=>?_) (by lia)
    rw[zbH_ (by lia),zbH_ (by lia),if_neg (by lia)]
    split
    ·exact hl _ (by lia)
    ·exact hl _ hi
   ·rw[if_neg hq0]
    obtain rfl:q=0:=by lia
    exact zco_ w f p (m+1) 0 (.next w hp (by lia) d.rest (by lia) (d.ds0 w) hl) (by lia)
  |false=>
   dsimp only;rw[if_neg (by decide)]
   refine⟨zgy_ hp (by lia),zgy_ hp (by lia),?_⟩
   cases h2:lt (p.getD (m-1) 0) (p.getD m 0)with
   |true=>dsimp only;rw[if_pos rfl];exact d
   |false=>
    dsimp only;rw[if_neg (by decide)]
    have em:m+1-(q+1+1)=m-(q+1):=by lia
    refine zco_ w f p (m+1) (q+1) ⟨hp,by lia,by lia,d.rest.mono (by lia),?_,?_,?_,?_⟩ (by lia)
    ·rw[em];exact d.a
    ·rw[em]
     intro i j hi hj fO;by_cases e:j<m
     ·exact d.b i j hi hj e
     ·obtain rfl:j=m:=by lia
      exact w.st' (d.b i (j-1) hi (by lia) (by lia)) h2
    ·rw[em]
     intro i j hi aN hj;by_cases e:j<m
     ·exact d.c i j hi aN e
     ·obtain rfl:j=m:=by lia
      rw[d.rest j (kZ _) (by lia)]
      exact d.rest.below hp aN (by lia)
    ·rw[em]
     have al:∀i,m-(q+1)<=i->i<m+1->lt (p.getD i 0) (p.getD (m-1) 0)=uQ/\lt (p.getD (m-1) 0) (p.getD i 0)=uQ:=λi h1 aK=>by
      by_cases e:i<m
      ·exact⟨d.d _ _ h1 e (by lia) (by lia),d.d _ _ (by lia) (by lia) h1 e⟩
      ·obtain rfl:i=m:=by lia
       exact⟨h,h2⟩
     intro i j h1 h2 h3 h4;exact w.tr (al j h3 h4).2 (al i h1 h2).1
abbrev SGot (lt:Nat->Nat->Bool)(n:Nat)(r:Nat×Array Nat):Prop:=Pm r.2 n/\r.1<=n/\As lt r.2 r.1/\Rest r.2 n r.1
theorem zeO_ (w:WOr lt){p:Array Nat}{m:Nat}(hp:Pm p n)(h1:1<=m)(hm:m<=n)(hd:Ds lt p m)(hr:Rest p n m):okT lt n (kas_tail3 m n p) (SGot lt n):=by
 have hsz:=zaV_ hp;have c9:Rest (kas_rev p 0 m) n m:=hr.rev hp (kZ _) hm;refine zbf_ _ (zaN_ (λr q=>?_) _ (zfW_ w (zhi_ hp 0 m) (n-m) m h1 (by lia) (λi j aN hj=>?_) c9))
 ·exact⟨zhi_ hp 0 m,by show r<=n;lia,q.2.2.1,c9.mono q.1⟩
 ·rw[zbH_ (by lia),zbH_ (by lia),if_pos (by lia),if_pos (by lia)]
  exact hd _ _ (by lia) (by lia)
theorem zbK_ (w:WOr lt){p:Array Nat}{m:Nat}(d:Dwn lt n p (m+1) 0):okT lt n (kas_descPart m n p) (SGot lt n):=by
 have:=d.hm;refine zbf_ _ (zaN_ (λr q=>?_) _ (zco_ w (n-(m+1)) p (m+1) 0 d (by lia)))
 have h1:=q.hq;by_cases z:r.2.2 > 0
 ·rw[if_pos z]
  exact zeO_ w (zhi_ q.pm _ _) (by lia) q.hm (q.ds w) (q.rest.rev q.pm (kZ _) q.hm)
 ·rw[if_neg z]
  obtain⟨p',m',q'⟩:=r;obtain rfl:q'=0:=by have:¬q' > 0:=z;lia
  exact zeO_ w q.pm (by have:0+1<=m':=h1;show 1<=m';lia) q.hm (q.ds0 w) q.rest
theorem zh5_ (w:WOr lt){p:Array Nat}(hp:Pm p n)(hr:Rest p n 0)(hn:1<=n):okT lt n (kas_count n p) (SGot lt n):=by
 have hsz:=zaV_ hp;refine zbf_ _ (zaN_ (λm q=>?_) _ (zfW_ w hp (n-1) 1 (kZ _) (by lia) (λi j aN hj=>by lia) (hr.mono (by lia))))
 obtain⟨q1,q2,q3,q4⟩:=q;have c9:=hr.mono (me m);by_cases e:m=n
 ·rw[if_pos (by simp[e])];exact⟨hp,by show m<=n;lia,q3,c9⟩
 ·rw [if_neg (by simp[e])]
  have hl:=q4 (by lia)
  by_cases z:m > 1
  ·rw[if_pos z]
   refine⟨zgy_ hp (by lia),zgy_ hp (by lia),?_⟩
   cases c:lt (p.getD 0 0) (p.getD (m-1) 0)with
   |true=>dsimp only;rw[if_pos rfl];exact⟨hp,by show m<=n;lia,q3,c9⟩
   |false=>
    dsimp only;rw[if_neg (by decide)]
    have d9:∀a b,a<=b->b<m->lt (p.getD b 0) (p.getD a 0)=uQ:=λa b h1 h2=>by
     by_cases e:a=b
     ·rw[e];exact w.refl _
     ·exact(q3 a b (by lia) h2).1
    have bB:∀a b,a<m->b<m->lt (p.getD b 0) (p.getD a 0)=uQ:=λa b ha hb=>w.tr (w.tr (d9 a (m-1) (by lia) (by lia)) c) (d9 0 b (by lia) hb)
    refine zbK_ w (.next w (zhi_ hp 0 m) (by lia) (c9.rev hp (kZ _) (by lia)) (by lia) (λi j aN hj=>?_) λi hi=>?_)
    ·rw[zbH_ (by lia),zbH_ (by lia),if_pos (by lia),if_pos (by lia)]
     refine⟨bB _ _ (by lia) (by lia),.inr ?_⟩
     rw[hr _ (me _) (by lia),hr _ (me _) (by lia)]
     lia
    ·rw[zbH_ (by lia),zbH_ (by lia),if_neg (by lia),if_pos (by lia)]
     exact w.st hl (bB _ _ (by lia) (by lia))
  ·rw[if_neg z]
   obtain rfl:m=1:=by lia
   refine zbK_ w (.next w hp (by lia) c9 (by lia) (λi j aN hj=>by lia) λi hi=>?_)
   obtain rfl:i=0:=by lia
   exact hl
theorem zcG_ (w:WOr lt){p:Array Nat}{k:Nat}(hp:Pm p n)(hk:k<n)(ha:As lt p k):∀(f l r:Nat),l<=r->r<=k->r-l<=f->(∀i,i<l->lt (p.getD k 0) (p.getD i 0)=uQ)->(∀i,r<=i->i<k->lt (p.getD k 0) (p.getD i 0)=uP) ->
  okT lt n (kas_place p k f l r) (λm=>m<=k/\(∀i,i<m->lt (p.getD k 0) (p.getD i 0)=uQ)/\∀i,m<=i->i<k->lt (p.getD k 0) (p.getD i 0)=uP)
 |0,l,r,h1,h2,h3,h4,h5=>⟨by show l<=k;lia,h4,λi a b=>h5 i (by lia) b⟩
 |f+1,l,r,h1,h2,h3,h4,h5=>by
  have d9:∀a b,a<=b->b<k->lt (p.getD b 0) (p.getD a 0)=uQ:=λa b h1 h2=>by
   by_cases e:a=b
   ·rw[e];exact w.refl _
   ·exact(ha a b (by lia) h2).1
  unfold kas_place;by_cases e:l ≥ r
  ·rw[if_pos e];exact⟨by show l<=k;lia,h4,λi a b=>h5 i (by lia) b⟩
  ·rw[if_neg e]
   refine⟨zgy_ hp hk,zgy_ hp (by lia),?_⟩
   cases c:lt (p.getD k 0) (p.getD ((l+r) / 2) 0)with
   |true=>
    dsimp only;rw[if_pos rfl];refine zcG_ w hp hk ha f l ((l+r) / 2) (by lia) (by lia) (by lia) h4 λi a b=>?_
    exact w.st c (d9 _ _ a b)
   |false=>
    dsimp only;rw[if_neg (by decide)]
    refine zcG_ w hp hk ha f ((l+r) / 2+1) r (by lia) h2 (by lia) (λi hi=>?_) h5
    exact w.tr (d9 i ((l+r) / 2) (by lia) (by lia)) c
theorem ziO_ (w:WOr lt):∀(f:Nat) (p:Array Nat) (k:Nat),Pm p n->k+f=n->As lt p k->Rest p n k->okT lt n (kas_bin f p k) (λr=>Pm r n/\As lt r n)
 |0,p,k,hp,hk,ha,hr=>⟨hp,(show k=n by lia) ▸ ha⟩
 |f+1,p,k,hp,hk,ha,hr=>by
  have hsz:=zaV_ hp;refine zbf_ _ (zaN_ (λl q=>?_) _ (zcG_ w hp (by lia) ha k 0 k (by lia) (kZ _) (by lia) (λi hi=>absurd hi (by lia)) λi a b=>absurd b (by lia)))
  obtain⟨q1,q2,q3⟩:=q;have hb:∀i,(bubble p k (k-l)).getD i 0=if i=l then p.getD k 0 else if l<i/\i<=k then p.getD (i-1) 0 else p.getD i 0:=λi=>by
   have:=getElem?_bubble (xs:=p) (src:=k) (by lia) (k-l) (by lia) i
   rw[show k-(k-l)=l by lia]at this
   split
   ·rename_i z;rw[if_pos z]at this;exact zar_ this
   ·rename_i z
    rw[if_neg z]at this;split
    ·rename_i y;rw[if_pos y]at this;exact zar_ this
    ·rename_i y;rw[if_neg y]at this;exact zar_ this
  refine ziO_ w f _ (k+1) ((p4.mp (bubble_perm p k _)).trans hp) (by lia) (λi j aN hj=>?_) λi hi dt=>?_
  ·rw [hb,hb]
   by_cases e1:i=l
   ·rw[if_pos e1,if_neg (by lia),if_pos (by lia)];exact w.sl (q3 _ (by lia) (by lia))
   ·rw[if_neg e1]
    by_cases e2:j=l
    ·rw[if_pos e2,if_neg (by lia)]
     refine⟨q2 _ (by lia),.inr ?_⟩
     rw[hr k (kZ _) (by lia)]
     exact hr.below hp (by lia) (by lia)
    ·rw[if_neg e2]
     by_cases e3:l<i
     ·rw[if_pos (by lia),if_pos (by lia)];exact ha _ _ (by lia) (by lia)
     ·rw[if_neg (by lia)]
      by_cases e4:l<j
      ·rw[if_pos (by lia)];exact ha _ _ (by lia) (by lia)
      ·rw[if_neg (by lia)];exact ha _ _ aN (by lia)
  ·rw[hb,if_neg (by lia),if_neg (by lia)];exact hr i (by lia) dt
theorem zjF_ (w:WOr lt)(hn:1<=n):okT lt n (kas_sort n) (λr=>Pm r n/\As lt r n):=by
 have h0:Pm (rL (mf n)) n:=by simp[Pm]
 have hr:Rest (rL (mf n)) n 0:=λi _ hi=>by simp[rA,hi]
 refine zbf_ _ (zaN_ (λr q=>?_) _ (zh5_ w h0 hr hn))
 obtain⟨q1,q2,q3,q4⟩:=q;by_cases e:r.1<n
 ·rw[if_pos e]
  refine ziO_ w _ _ _ q1 (by lia) ?_ (q4.mono (Nat.le_max_left _ _))
  by_cases e1:r.1=0
  ·rw[e1];exact λi j aN hj=>by lia
  ·rw[Nat.max_eq_left (by lia)];exact q3
 ·rw[if_neg e]
  obtain e:r.1=n:=by lia
  rw[e]at q3;exact⟨q1,q3⟩
end
def cxLam (X:Cx)(A:mh)(qual:Str)(scope:Scope)(cl:List (Str×k9))(f:k9)(af:aU)(N:List Str)(s2:kR)(H2:Hp):Cx where
 prog:=X.prog
 w:=X.w
 K:=X.K
 mg:=X.mg
 base:=X.base
 A:=A.deeper (W.envX qual scope s2.heap.objs.size f af cl)
 N:=N
 s₀:=s2
 H₀:=H2
 env:=W.envX qual scope s2.heap.objs.size f af cl
 outer:=X.stack
 stack:=W.envX qual scope s2.heap.objs.size f af cl::X.stack
 ex:=[]
 fn:=λ_=>uQ
 calm:=uP
 pn:=[]
 xe:=λ_ _=>False
structure LScope (X:Cx)(scope:Scope)(cl:List (Str×k9))(p:Str)(fr:List (Str×Nat)):Prop where
 clos:closeL X.env.cells scope.names []=uN cl
 cell:∀y∈scope.names,y.2≠.cell
 kind:scope.kind=.function
 co:scope.isCoroutine=uQ
 gen:scope.isGenerator=uQ
 loc:scope.names.lookup p=uN .local
 fr:∀q∈fr,X.N[q.2]?=uN q.1/\scope.names.lookup q.1=uN .free/\(X.env.kindOf q.1=uN .cell\/X.env.kindOf q.1=uN .free)
def lS (fr:List (Str×Nat))(σ:St):St:=fr.map λq=>(σ[q.2]?).join
section
variable {X:Cx}{pins:Pnn}{σ:St}{H:Hp}{s:kR}{A:mh}{scope:Scope}{cl:List (Str×k9)}{p:Str}{fr:List (Str×Nat)}{qual name:Str}{f c':k9}{af pm aE:aU}{params:Arguments}{body:lF}{x:V}{u:aU}{te:TE}
theorem zk3_ {h1:Heap}{tk:Nat}(I:Inv X pins σ H s)(S:LScope X scope cl p fr)(hA:A.frames=uN X.stack)(hh:A.handled=uO)(rx:RelV x u)
  (dP:h1.Ns s.heap.objs.size (λy=>[(p,u)].reverse.lookup y)) (hk:∀b o,s.heap.get? b=uN o->h1.get? b=uN o):
  Inv (cxLam X A qual scope cl f af (p::fr.map (·.1)) s H) [] (uN x::lS fr σ) H {s with heap:=h1,toks:=tk}:=by
 have aS:=zae_ scope.names [] cl S.clos (λx c e=>by cases e)
 have bY:=zV_ scope.names [] cl S.clos;have cC:∀b:k9,b∉(cxLam X A qual scope cl f af (p::fr.map (·.1)) s H).ex:=λb z=>absurd (show b∈([]:List k9)from z) (by simp)
 refine⟨⟨I.ok.mod,S.kind,rfl,rfl,kZ _,λy z c h1 h2=>I.ok.inj y z c (aS y c h1) (aS z c h2),λy hy=>?_,λy c du=>(by cases du),λ_=>hh,Around.frames_deeper hA,.inr ⟨rfl,rfl⟩,λb z=>absurd z (cC b),I.bs,mq I.ok.bsz I.sz,λb _ _=>cC b,λb z=>absurd z (cC b),I.stack,I.stkFree,I.tb⟩,
  rfl,I.bare,Un.kept hk,⟨_,dP,λi y v h1 h2 h3=>?_⟩,λy c e=>?_,I.hok.fresh (kZ _),λy c e=>I.freeC y c (aS y c e),λp hp=>absurd (show p∈([]:Pnn)from hp) (by simp),I.hok.kept hk,?_⟩
 ·rcases(show scope.names.lookup y=uN .cell\/scope.names.lookup y=uN .free from hy)with z |z
  ·exact absurd rfl (S.cell _ (ml z))
  ·exact bY y (.inl (ml z))
 ·cases i with
  |zero=>
   have e1:p=y:=lX h1;have e2:x=v:=lX (lX h2);subst e1 e2;exact⟨u,rx,.inl ⟨S.loc,by simp⟩⟩
  |succ i=>
   have h1':(fr.map (·.1))[i]?=uN y:=h1;have aK:(fr.map λq=>(σ[q.2]?).join)[i]?=uN (uN v):=h2
   rw[lu]at h1' aK;cases hq:fr[i]? with
   |none=>rw[hq]at h1';cases h1'
   |some q=>
    rw[hq]at h1' aK;have e1:q.1=y:=lX h1';have e2:(σ[q.2]?).join=uN v:=lX aK;have e3:σ[q.2]?=uN (uN v):=by
     cases hz:σ[q.2]? with
     |none=>rw[hz]at e2;cases e2
     |some z=>rw[hz]at e2;exact congrArg uN e2
    obtain⟨g1,g2,g3⟩:=S.fr q (mV hq);obtain⟨m0,hn0,di⟩:=I.loc;have fW:Vis X.env.scope q.1:=by
     rcases g3 with g3 |g3
     ·exact .inr (.inl g3)
     ·exact .inr (.inr g3)
    obtain⟨u,r,l⟩:=di q.2 q.1 v g1 e3 fW;refine⟨u,r,.inr ⟨.inr (by rw[<- e1];exact g2),?_⟩⟩
    rcases l with⟨lk,_⟩|⟨_,c,ec,ic⟩
    ·rcases g3 with g3 |g3<;>(rw[lk]at g3;cases g3)
    ·obtain⟨c',ec'⟩:=bY q.1 (.inl (ml g2))
     have:c'=c:=by
      have:=aS q.1 c' ec';rw[ec]at this;exact(lX this).symm
     subst this;obtain⟨o,ho,hd⟩:=ic;exact⟨c',by rw[<- e1];exact ec',o,hk _ _ ho,hd⟩
 ·obtain⟨v,o,ho,hd⟩:=I.cell y c (aS y c e)
  exact⟨v,o,hk _ _ ho,hd⟩
 ·show _=(p::fr.map (·.1)).length
  unfold lS;simp
def LEnd (X:Cx)(H:Hp)(s:kR)(Q:VK)(ku:aU)(s':kR):Prop:=∃k H',s'.os=s.os/\AllBare s'.gens/\Un (frs X.stack) [] H H' s.heap s'.heap/\HOk X.prog X.w H' s'.heap/\RelV k ku/\Q k H'
theorem zkc_ {Q:VK}(I:Inv X pins σ H s)(S:LScope X scope cl p fr)(hA:A.frames=uN X.stack)(hh:A.handled=uO)(aH:A.depth<recursionLimit)
  {o:sX}(ho:s.heap.get? f=uN o) (de:o.data=.func (p5 name qual params body scope cl pm (.ref c') aE)) (aD:s.heap.CodeRec (.ref c') qual)
  (hb:bindArgs (p5 name qual params body scope cl pm (.ref c') aE) ⟨[u],[]⟩=pure [(p,u)]) (rx:RelV x u)
  (he:∀f af s2 H2,PE (cxLam X A qual scope cl f af (p::fr.map (·.1)) s2 H2) body te) (q:te (uN x::lS fr σ) H Q):
  lK (model X.prog X.w) A (call (.ref f) [u]) (LEnd X H s Q) (λ_ _=>False) s:=by
 refine wpAny_call (W.kla_callFunE aH ho de S.co S.gen rfl aD ?_);rw[hb];refine lB (wpAny_newFunctionEnv S.cell (λy hy=>?_) (λaz dP jC=>?_) S.kind)
 ·have e:y=(p,u):=by simpa using hy
  subst e;exact S.loc
 ·have hk:∀b o,s.heap.get? b=uN o->az.get? b=uN o:=λb o e=>jC.extBut b o (lN (lh e)) (kQ _ e)
  refine⟨I.nolimit.keeps hk,W.kla_codeExpr ?_⟩;have J:Inv (cxLam X A qual scope cl f (.ref c') (p::fr.map (·.1)) s H) [] (uN x::lS fr σ) H {s with heap:=az,toks:=s.toks+[(p,u)].length}:=zk3_ I S hA hh rx dP hk;exact mK (he f (.ref c') s H [] _ _ H Q J q) (λv s' ⟨k,H',J',r,q'⟩=>⟨k,H',J'.os,J'.bare,J'.base,J'.hok,r,q'⟩) λ_ _ z=>z.elim
end
def KeysAt (K:Fgg)(H:Hp):List V->List (List Int)->Prop:=Paired λk ns=>∃a,k=.ref a/\SqL K H a (ns.map V.int)
abbrev ltKs (aj:List (List Int))(i j:Nat):Bool:=HT.lexLt (aj.getD i []) (aj.getD j [])
def SrtS (lt:Nat->Nat->Bool)(n:Nat)(p:List Nat):Prop:=p.Perm (mf n)/\p.Pairwise (sl lt)
def mSrt (K:Fgg)(xs:List V)(b:V)(H:Hp)(Q:VK):Prop:=
 ∃kS ks aj,b=.ref kS/\H kS=uN (.lst ks)/\ks.length=xs.length/\KeysAt K H ks aj /\
  ∀idx,SrtS (ltKs aj) xs.length idx->∀l,H l=uO->Q (.ref l) (upd (upd H kS (.lst [])) l (.lst (idx.map λi=>xs.getD i .non)))
def LamUp (H H2:Hp):Prop:=H2=H\/∃c o,H c=uO/\H2=upd H c o
def tSrt (K:Fgg)(fr:List (Str×Nat))(i:Nat)(te:TE):TE:=λσ H Q=>∃p xs,σ[i]?=uN (uN (.ref p))/\SqL K H p xs/\xs.length<64 /\
 ∀H2,LamUp H H2->tCompR (Itp xs.length λj=>xs.getD j .non) (gName 0) tTrue te (uO::lS fr σ) H2 λb H3=>mSrt K xs b H3 Q
theorem zf6_:∀{a b:List Int},HT.lexLt a b=uP->HT.lexLt b a=uQ
 |[],[],h=>by cases h
 |[],_::_,_=>rfl
 |_::_,[],h=>by cases h
 |x::a,y::b,h=>by
  rw[HT.lexLt_cons]at h ⊢;by_cases e:x=y
  ·rw[if_pos e]at h;rw[if_pos e.symm];exact zf6_ h
  ·rw[if_neg e]at h;rw[if_neg (pY e)]
   have:=of_decide_eq_true h;exact decide_eq_false (by lia)
theorem zm1_:∀{a b c:List Int},HT.lexLt b a=uQ->HT.lexLt c b=uQ->HT.lexLt c a=uQ
 |[],_,[],_,_=>rfl
 |[],_,_::_,_,_=>rfl
 |_::_,[],_,h,_=>by cases h
 |_::_,_::_,[],_,g=>by cases g
 |x::a,y::b,z::c,h,g=>by
  rw[HT.lexLt_cons]at h g ⊢;by_cases e:y=x
  ·rw[if_pos e]at h
   by_cases e2:z=y
   ·rw[if_pos e2]at g;rw[if_pos (e2.trans e)];exact zm1_ h g
   ·rw[if_neg e2]at g;rw[if_neg (λz'=>e2 (z'.trans e.symm))];rw[<- e];exact g
  ·rw[if_neg e]at h
   have h':=of_decide_eq_false h;by_cases e2:z=y
   ·rw[if_neg (λz'=>e (e2.symm.trans z'))];rw[e2];exact h
   ·rw[if_neg e2]at g
    have g':=of_decide_eq_false g;rw[if_neg (by lia)];exact decide_eq_false (by lia)
theorem zhd_ (aj:List (List Int)):WOr (ltKs aj):=⟨λh=>zf6_ h,λh g=>zm1_ h g⟩
def cdB (K:Fgg)(c P:k9):Bool:=match K.lookup c with
 |some ⟨.type T,_,.fields vs,_⟩=>T=="code" && vs[11]?==uN (.ref P) && (match vs.getD 18 .none,vs.getD 7 .none,vs.getD 9 .none,vs.getD 10 .none with |.str _ _,.int _ _,.bool _,.int _ _=>uP |_,_,_,_=>uQ) && c != P
 |_=>uQ
theorem cd_hd {K:Fgg}{h:Heap}{c P:k9}(X:K.In h)(e:cdB K c P=uP):CodeHd h c P:=by
 unfold cdB at e;split at e
 ·rename_i T od vs sl lk
  simp only[kJ]at e;obtain⟨⟨⟨e1,e2⟩,e3⟩,e4⟩:=e;have e2:vs[11]?=uN (.ref P):=eq_of_beq e2;split at e3
  ·rename_i z1 z2 z3 z4
   exact⟨_,vs,_,_,_,_,_,_,_,X _ _ lk,by rw[eq_of_beq e1],rfl,e2,by rw[mM,e2];rfl,z1,z2,z3,z4,bne_iff_ne.mp e4⟩
  ·cases e3
 ·cases e
section
variable {X:Cx}{pins:Pnn}{σ:St}{H:Hp}{s:kR}{scope:Scope}{cl:List (Str×k9)}{p:Str}{fr:List (Str×Nat)}{qual name:Str}{f c':k9}{af pm aE:aU}{params:Arguments}{body:lF}{x:V}{u:aU}{te:TE}{xs:List V}
theorem zgz_ {K:Fgg}:∀{ks:List V}{aj:List (List Int)},KeysAt K H ks aj->∀i,i<ks.length->∃a,ks.getD i .non=.ref a/\SqL K H a ((aj.getD i []).map V.int)
 |_,_,.nil,i,h=>by simp at h
 |_,_,.cons q_ r,0,h=>by obtain⟨a,e,q⟩:=q_;exact⟨a,e,q⟩
 |_,_,.cons _ r,i+1,h=>zgz_ r i (by simpa using h)
theorem znN_ {A:mh}{E:aU->kR->Prop}{l b:k9}{items ai:Array aU}{ns ms:List Int}{Q:Bool->kR->Prop}(hl:s.heap.IsList l items)(hb:s.heap.IsList b ai)(hi:IntsAre items.toList ns)(hj:IntsAre ai.toList ms)
  (hu:A.units<cLine) (h:Q (HT.lexLt ns ms) s):lK (model X.prog X.w) A (oneLt' uP (.ref l) (.ref b)) Q E s:=by
 obtain⟨⟨cls,dd,data,sl⟩,ho,hc,n,hd⟩:=id hl;obtain⟨⟨hX,cK,data2,cA⟩,bG,cp,n2,hd2⟩:=id hb;simp only at hc hd cp hd2;subst hc hd cp hd2;rw[oneLt'_eq];simp only[if_true];refine kP (wpAny_cRoomFor hu ?_);refine kP (wpAny_callSpecialIfBound?_slot ⟨_,ho,rfl⟩ qQ (call_meets qQ ⟨_,ho,rfl⟩ PySem.F.entry_list_lt (PySem.F.args_list_lt_2 _ _) (zd2_ l b items ai n n2 dd cK sl cA ns ms hi hj) ⟨ho,bG,?_⟩));exact l6 h
theorem Un.lay {fs ex:List k9}{H H1:Hp}{h h1 h2:Heap}{a:k9}{o:HO}(u:Un fs ex H H1 h h1)(ha:h.objs.size<=a)(hn:H a=uO)(k:∀b o,b≠a->h1.get? b=uN o->h2.get? b=uN o):Un fs ex H (upd H1 a o) h h2 where
 keep:=λb ob q n hb hx=>k b ob (lN (lG (lh q) ha)) (u.keep b ob q n hb hx)
 slot:=λb ob q n hb hx=>let⟨sl,e⟩:=u.slot b ob q n hb hx;⟨sl,k b _ (lN (lG (lh q) ha)) e⟩
 free:=λb ob q n hx=>by rw[zc_ (lN (lG (lh q) ha))];exact u.free b ob q n hx
 there:=λb ob q hx=>let⟨o',e⟩:=u.there b ob q hx;⟨o',k b _ (lN (lG (lh q) ha)) e⟩
 tups:=λb xs q=>by rw[zc_ (zd_ q hn)];exact u.tups b xs q
 frzs:=λb ob v q=>by rw[zc_ (zd_ q hn)];exact u.frzs b ob v q
 tbls:=λb p' q' q=>by rw[zc_ (zd_ q hn)];exact u.tbls b p' q' q
theorem HOk.lay {P:lQ}{w:l9}{H:Hp}{h h':Heap}{a:k9}{o:HO}(x:HOk P w H h)(hn:H a=uO)(k:∀b u,b≠a->h.get? b=uN u->h'.get? b=uN u)(new:ObjOk P w (upd H a o) h' a o):HOk P w (upd H a o) h':=λb u e=>by
 by_cases hb:b=a
 ·subst hb;rw[ze_]at e;cases e;exact new
 ·rw[zc_ hb]at e
  refine(x b u e).stay (λc v hc q=>k c v ?_ q) (λc q=>by rw[zc_ (zd_ q hn)];exact q) (λc xs q=>by rw[zc_ (zd_ q hn)];exact q) λc ob q=>by rw[zc_ (zd_ q hn)];exact q
  rcases hc with rfl |hc
  ·exact hb
  ·exact zd_ hc hn
theorem zlq_ {lt:Nat->Nat->Bool}{n:Nat}{p:Array Nat}(h:Pm p n/\As lt p n):SrtS lt n p.toList:=by
 refine⟨h.1,List.pairwise_iff_getElem.mpr λi j hi hj aN=>?_⟩
 have hs:=zaV_ h.1;rw[mz]at hi hj;have:=h.2 i j aN (by lia)
 have e:∀k (hk:k<p.size),p.getD k 0=p.toList[k]'(by simpa using hk):=λk hk=>by simp[rA,hk]
 rwa[e i hi,e j hj]at this
theorem zgH_ {Q:VK}{o oc:sX}{P D:k9}{ba:Array aU}{ct:Tok}{vs:List aU}{hA:Heap}{E:aU->kR->Prop}(I:Inv X pins σ H s)(S:LScope X scope cl p fr)(hh:X.A.handled=uO)(aH:X.A.depth<recursionLimit)(hu:X.A.units+10<cLine)
  (ho:s.heap.get? f=uN o) (de:o.data=.func (sU name qual params body scope cl pm (.ref c') aE)) (hf:H f=uO) (aA:H c'=uN (.frz oc (.own P))) (aD:oc.data=.fields ba) (cQ:ba[1]?=uN (.str qual ct))
  (hb:∀u,bindArgs (sU name qual params body scope cl pm (.ref c') aE) ⟨[u],[]⟩=pure [(p,u)])
  (he:∀f af s2 H2,PE (cxLam X X.A.in1.in1 qual scope cl f af (p::fr.map (·.1)) s2 H2) body te)
  (rv:Vals xs vs) (dz:xs.length<64) (d_:∀b o,s.heap.get? b=uN o->hA.get? b=uN o) (hD:hA.get? D=uN (seqObj "list" vs.toArray 0)) (fQ:s.heap.objs.size<=D)
  (q:tCompR (Itp xs.length λj=>xs.getD j .non) (gName 0) tTrue te (uO::lS fr σ) H λb H3=>mSrt X.K xs b H3 Q):
  lK (model X.prog X.w) X.A.in1.in1 (ksk_tree D (.ref f) uQ) (λfin s'=>fin=.done (.ret .none)/\∃H',Inv X pins σ H' s'/\Q (.ref D) H') E {s with heap:=hA}:=by
 have hlen:=rv.length;have kF:s.heap.objs.size<=hA.objs.size:=mq fQ (nI (lh hD));have s1:=pj hA D (lV λ_=>(#[]:Array aU))
 obtain⟨e1,ho1⟩:∃e1,(hA.update D (lV λ_=>(#[]:Array aU))).get? D=uN (seqObj "list" #[] e1):=⟨_,get?_update_seq hD λ_=>#[]⟩
 have nD:∀b o,s.heap.get? b=uN o->b≠D:=λb o e=>lN (lG (lh e) fQ)
 unfold ksk_tree;refine kP (listItems_at hD rfl ?_);refine kP (listUpdate_at hD rfl ?_ (by rw[k8,sizeLine_eq];lia) (me _))
 refine kP (seqEpoch_at (s:={s with heap:=hA.update D (lV λ_=>(#[]:Array aU))}) ho1 rfl ?_)
 refine kP (wpAny_newTuple ?_ (by show vs.length<=_;rw[sizeLine_eq];lia))
 refine kP (wpAny_newList ?_ (me _));refine wpAny_holding ?_;have dQ:((hA.update D (lV λ_=>(#[]:Array aU))).push (seqObj "tuple" vs.toArray 0)).objs.size=hA.objs.size+1:=by rw[size_push',rX]
 show lK (model X.prog X.w) X.A.in1.in1 (ksk_rest D (.ref f) uQ vs.toArray e1 (.ref ((hA.update D (lV λ_=>(#[]:Array aU))).push (seqObj "tuple" vs.toArray 0)).objs.size)) _ E {s with heap:=((hA.update D (lV λ_=>(#[]:Array aU))).push (seqObj "tuple" vs.toArray 0)).push (seqObj "list" #[] 0)}
 have bp:(((hA.update D (lV λ_=>(#[]:Array aU))).push (seqObj "tuple" vs.toArray 0)).push (seqObj "list" #[] 0)).get? ((hA.update D (lV λ_=>(#[]:Array aU))).push (seqObj "tuple" vs.toArray 0)).objs.size=uN (seqObj "list" #[] 0):=lC _ rfl
 have bj:∀b o,s.heap.get? b=uN o->(((hA.update D (lV λ_=>(#[]:Array aU))).push (seqObj "tuple" vs.toArray 0)).push (seqObj "list" #[] 0)).get? b=uN o:=λb o e=>kQ _ (kQ _ ((s1.2 b (nD b o e)).trans (d_ b o e)))
 have fj:(((hA.update D (lV λ_=>(#[]:Array aU))).push (seqObj "tuple" vs.toArray 0)).push (seqObj "list" #[] 0)).get? D=uN (seqObj "list" #[] e1):=kQ _ (kQ _ ho1)
 rw[dQ]at bp ⊢
 generalize kz:((hA.update D (lV λ_=>(#[]:Array aU))).push (seqObj "tuple" vs.toArray 0)).push (seqObj "list" #[] 0)=h2 at bp bj fj ⊢
 have fS:D≠hA.objs.size+1:=lN (oV (lh hD));have eL:s.heap.objs.size<=hA.objs.size+1:=by lia
 generalize hA.objs.size+1=kS at bp fS eL ⊢
 have fN:H kS=uO:=I.hok.fresh eL;have fR:H D=uO:=I.hok.fresh fQ;have I2:Inv X pins σ (upd H kS (.lst [])) {s with heap:=h2}:=I.laid (t':=s.toks) bj eL ⟨me _,[],0,.nil,bp⟩;obtain⟨W,⟨m0,w0⟩,turn⟩:=q kS fN;have i9:f≠kS:=lN (lG (lh ho) eL);have bG:h2.get? f=uN o:=bj _ _ ho;have jO:upd H kS (.lst []) f=uO:=by rw[zc_ i9];exact hf
 have cp:upd H kS (.lst []) c'=uN (.frz oc (.own P)):=by rw[zc_ (zd_ aA fN)];exact aA
 have fh:upd H kS (.lst []) D=uO:=by rw[zc_ fS];exact fR
 have j4:D∉frs X.stack:=λz=>by
  have:=(I.stack.mem z);obtain⟨_,o',e',_⟩:=this;exact nD _ _ e' rfl
 unfold ksk_rest;refine kP (wpAny_rule ?_)
 first
  |rw[List.forIn_toArray]
  |(rw[<- Array.forIn_toList];simp only[List.toList_toArray])
 refine kP (ksk_fold (λj s'=>∃H' ys m τ,s'.os=s.os/\AllBare s'.gens/\Un (frs X.stack) [] (upd H kS (.lst [])) H' h2 s'.heap/\HOk X.prog X.w H' s'.heap/\W j m ys (τ::lS fr σ) H') vs 0 {s with heap:=h2}
  ⟨_,[],m0,uO,rfl,I2.bare,Un.refl,I2.hok,w0⟩ ?step ?done)
 case step=>
  rintro j v s' hx ⟨H',ys,m,τ,os,bare,un,hok,w1⟩;simp only[rM]at w1 ⊢;have hj:j<vs.length:=(lD.mp hx).1;have J:Inv X pins σ H' s':=I2.call' (s':=s') os un hok bare (λb z=>absurd z (by simp))
  rcases turn j m ys _ H' w1 with⟨st,_⟩|⟨go,N,hN,step⟩
  ·exact absurd (show xs.length<=j from st) (by lia)
  ·obtain⟨xv,ev,rx⟩:∃xv,xs.getD j .non=xv/\RelV xv v:=by
    have fO:j<xs.length:=by lia
    obtain⟨u,e1,e2⟩:=rv.get (kY fO);rw[hx]at e1;cases e1;exact⟨_,rfl,by rw[lM,kY fO];exact e2⟩
   have dW:=step xv H' ⟨rfl,ev.symm⟩;have q1:te (uN xv::lS fr σ) H' λk H4=>H4 kS=uN (.lst ys)/\ys.length<lA/\N (ys++[k]) (uN xv::lS fr σ) (upd H4 kS (.lst (ys++[k]))):=by
    have z:=dW;simp only[gName,tTrue,oM,if_true]at z;exact z
   obtain⟨sl,aI⟩:=un.any bG jO (by simp)
   have jS:s'.heap.CodeRec (.ref c') qual:=by
    obtain⟨e',_⟩:=hok c' _ (un.frzs _ _ _ cp);exact⟨c',oc,ba,ct,rfl,e',aD,cQ⟩
   refine kP (wpAny_attempt (mK (zkc_ (A:=X.A.in1.in1) J S J.ok.frames hh aH aI de jS (hb v) rx he q1) (λku s4 jP=>?_) λ_ _ hF=>hF.elim))
   obtain⟨k,H4,os4,bare4,un4,hok4,rk,hk4,hl4,n4⟩:=jP;dsimp only;obtain⟨z,aa,n,ri,ek⟩:=hok4 kS _ hk4;have sb:=pj s4.heap kS (lV (·.push ku));obtain⟨c2,hc2'⟩:∃c2,(s4.heap.update kS (lV (·.push ku))).get? kS=uN (seqObj "list" (aa.toArray.push ku) c2):=⟨_,get?_update_seq (c:="list") ek (·.push ku)⟩;have kp:∀b u,b≠kS->s4.heap.get? b=uN u->(s4.heap.update kS (lV (·.push ku))).get? b=uN u:=λb u hb e=>(sb.2 b hb).trans e
   have hil:aa.toArray.size=ys.length:=by rw[k8,ri.length]
   refine kP (listUpdate_at ek rfl ?_ (by rw[hil];lia) (by show(aa.toArray.push ku).size<=_;rw[Array.size_push,hil];lia))
   obtain⟨m',hm',w'⟩:=hN _ _ _ n4;have mu:Mut (H4 kS):=by rw[hk4];exact mN
   refine lB ⟨rfl,_,_,m',uN xv,os4.trans os,bare4,un.trans (un4.trans (Un.write mu (.inl rfl) kp ⟨_,hc2'⟩)),?_,w'⟩;refine hok4.write mu (.inl rfl) kp ⟨_,hc2'⟩ ⟨by rw[lE,m9];lia,aa++[ku],c2,ri.append (.cons rk .nil),?_⟩
   rw[hc2'];simp
 case done=>
  rintro s' ⟨H',ys,m,τ,os,bare,un,hok,w1⟩;rw[rM]at w1;rcases turn _ m ys _ H' w1 with⟨_,kS',ks,aj,ekS,hk,iK,hka,fin⟩|⟨go,_⟩
  rotate_left
  ·exact absurd (show vs.length<xs.length from go) (by lia)
  cases ekS;obtain⟨z,aa,n,ri,ek⟩:=hok kS _ hk;have hil:aa.length=vs.length:=by rw[<- ri.length];lia
  have dy:s'.heap.get? D=uN (seqObj "list" #[] e1):=un.keep _ _ fj fh j4 (by simp)
  refine kP (listItems_at ek rfl ?_)
  have tl:∀(st:SortSt) (idx:List Nat),(arrOf st).map (·.2)=(idx.map λi=>vs.getD i mY).toArray->failedOf st=uO->SrtS (ltKs aj) xs.length idx ->
    lK (model X.prog X.w) X.A.in1.in1 (ksk_tail D uQ e1 (.ref kS) st) (λfin s'=>fin=.done (.ret .none)/\∃H',Inv X pins σ H' s'/\Q (.ref D) H') E s':=by
   intro st idx gW jN bA;have gL:∀j∈idx,j<xs.length:=λj hj=>mZ.mp (bA.1.mem_iff.mp hj)
   have iF:idx.length=xs.length:=by rw[bA.1.length_eq,mr]
   have sk:=pj s'.heap kS (lV λ_=>(#[]:Array aU))
   obtain⟨c2,hk2⟩:∃c2,(s'.heap.update kS (lV λ_=>(#[]:Array aU))).get? kS=uN (seqObj "list" #[] c2):=⟨_,get?_update_seq (c:="list") ek λ_=>#[]⟩
   have dR:(s'.heap.update kS (lV λ_=>(#[]:Array aU))).get? D=uN (seqObj "list" #[] e1):=(sk.2 D fS).trans dy
   unfold ksk_tail;dsimp only;rw[gW,jN];refine kP (listUpdate_at ek rfl ?_ (by rw[k8,hil,sizeLine_eq];lia) (me _))
   refine kP (wpAny_letGo ?_);refine kP (seqEpoch_at (s:={s' with heap:=s'.heap.update kS (lV λ_=>(#[]:Array aU))}) dR rfl ?_)
   refine kP (listUpdate_at (s:={s' with heap:=s'.heap.update kS (lV λ_=>(#[]:Array aU))}) dR rfl ?_ (me _) (by
    simp only[p6,if_false,k8,kX];rw[iF,sizeLine_eq];lia))
   simp only[bne_self_eq_false,p6,if_false];have sd:=pj (s'.heap.update kS (lV λ_=>(#[]:Array aU))) D (lV λ_=>(idx.map λi=>vs.getD i mY).toArray)
   obtain⟨c3,hd2⟩:∃c3,((s'.heap.update kS (lV λ_=>(#[]:Array aU))).update D (lV λ_=>(idx.map λi=>vs.getD i mY).toArray)).get? D=uN (seqObj "list" (idx.map λi=>vs.getD i mY).toArray c3):=⟨_,get?_update_seq dR λ_=>(idx.map λi=>vs.getD i mY).toArray⟩
   have mu:Mut (H' kS):=by rw[hk];exact mN
   have k1:∀b u,b≠kS->s'.heap.get? b=uN u->(s'.heap.update kS (lV λ_=>(#[]:Array aU))).get? b=uN u:=λb u hb e=>(sk.2 b hb).trans e
   have k2:∀b u,b≠D->(s'.heap.update kS (lV λ_=>(#[]:Array aU))).get? b=uN u->((s'.heap.update kS (lV λ_=>(#[]:Array aU))).update D (lV λ_=>(idx.map λi=>vs.getD i mY).toArray)).get? b=uN u:=λb u hb e=>(sd.2 b hb).trans e
   have ff:H' D=uO:=un.free _ _ fj fh (by simp)
   have u1:Un (frs X.stack) [] H (upd H' kS (.lst [])) s.heap (s'.heap.update kS (lV λ_=>(#[]:Array aU))):=(Un.laid bj eL fN).trans (un.trans (Un.write mu (.inl rfl) k1 ⟨_,hk2⟩))
   have o1:HOk X.prog X.w (upd H' kS (.lst [])) (s'.heap.update kS (lV λ_=>(#[]:Array aU))):=hok.write mu (.inl rfl) k1 ⟨_,hk2⟩ ⟨me _,[],c2,.nil,hk2⟩
   have o2:=o1.lay (a:=D) (o:=.lst (idx.map λi=>xs.getD i .non)) (by rw[zc_ fS];exact ff) k2 ⟨by rw[kX,iF,sizeLine_eq];lia,_,c3,zgc_ rv idx (λj hj=>by rw[<- hlen];exact gL j hj),hd2⟩
   exact lB ⟨rfl,_,I.call' (s':={s' with heap:=(s'.heap.update kS (lV λ_=>(#[]:Array aU))).update D (lV λ_=>(idx.map λi=>vs.getD i mY).toArray)}) os (u1.lay fQ fR k2) o2 bare (λb z=>absurd z (by simp)),fin idx bA D ff⟩
  have J:Inv X pins σ H' s':=I2.call' (s':=s') os un hok bare (λb z=>absurd z (by simp))
  have bQ:∀i,i<vs.length->∃a bR,aa.getD i mY=.ref a/\IntsAre (rL bR).toList (aj.getD i [])/\PlainL s'.heap a bR.toArray:=λi hi=>by
   obtain⟨a,e,sq⟩:=zgz_ hka i (by lia)
   obtain⟨bR,rK,pK,_⟩:=J.list sq;obtain⟨y,ey,ry,_⟩:=zeC_ ri (show i<aa.length by lia)
   rw[lM,ey]at e;cases e;exact⟨a,bR,ry,zfn_ rK,pK⟩
  unfold ksk_end;simp only[p6,if_false];by_cases aK:vs.toArray.size<2
  ·rw[if_pos aK,if_pos aK]
   refine kP (lB ?_);rw[StateT.run_pure];refine kP (lB ?_);rw[k8]at aK;refine tl _ (mf vs.length) ?_ rfl ⟨by rw[hlen],?_⟩
   ·apply Array.toList_inj.mp
    show((aa.toArray.zip vs.toArray).map (·.2)).toList=(mf vs.length).map λi=>vs.getD i mY
    rw[Array.toList_map,Array.toList_zip];show(aa.zip vs).map (·.2)=_
    rw[qt (by lia)]
    apply ny;intro i;by_cases hi:i<vs.length
    ·simp[hi]
    ·simp[mL,hi,pL hi]
   ·rcases(show vs.length=0\/vs.length=1 by lia)with e |e
    ·rw[e];exact .nil
    ·rw[e];exact List.pairwise_singleton _ _
  ·rw[if_neg aK,if_neg aK]
   rw[k8]at aK;refine kP (kas_kind (vs:=aa) (T:=.type "list") (by lia) (λv hv=>?_) rfl rfl ?_)
   ·obtain⟨i,hi,rfl⟩:=pX hv
    obtain⟨a,bR,e,_,pK⟩:=bQ i (by lia)
    rw[lM,kY hi]at e;have e:aa[i]=.ref a:=e;rw[e];obtain⟨o',hoK,hcK,_⟩:=pK.isList;exact hcK ▸ (Looks.ld hoK).andThen .now
   ·refine kP (mK (kat_run (ks:=aa) (vs:=vs) (Q:=λst' cB=>cB=s'/\∃p:Array Nat,p.size=vs.length/\arrOf st'=p.map (kas_item (aa.toArray.zip vs.toArray))/\failedOf st'=uO/\(Pm p vs.length/\As (ltKs aj) p vs.length)) (G:=λp cB=>cB=s'/\(Pm p vs.length/\As (ltKs aj) p vs.length))
     hil (by lia) (by lia) (λp' st' cB a1 a2 a3 a4=>⟨a4.1,p',a1,a2,a3,a4.2⟩) (zlp_ (P:=λr=>Pm r vs.length/\As (ltKs aj) r vs.length) (λi j C hi hj hC=>?_) (λp hp=>⟨rfl,hp⟩) _ (zjF_ (zhd_ aj) (by lia)))) ?_ λ_ _ e=>e)
    ·obtain⟨a,k1,ea,i1,p1⟩:=bQ i hi
     obtain⟨b,k2,eb,i2,p2⟩:=bQ j hj;unfold kas_ask;rw[keyLt'_oneType,ea,eb];exact znN_ (X:=X) p1.isList p2.isList i1 i2 (by show X.A.units+1+1<_;lia) hC
    ·rintro⟨⟨⟩,st'⟩ cB ⟨rfl,p,hp,gW,hf',hpp⟩
     exact tl st' p.toList (kat_snds hil gW) hf' (by rw[hlen];exact zlq_ hpp)
theorem zfI_ {Q:VK}{o oc:sX}{P l:k9}{ba:Array aU}{ct:Tok}(I:Inv X pins σ H s)(S:LScope X scope cl p fr)(hh:X.A.handled=uO)(aH:X.A.depth<recursionLimit)(hu:X.A.units+10<cLine)
  (ho:s.heap.get? f=uN o) (de:o.data=.func (p5 name qual params body scope cl pm (.ref c') aE)) (hf:H f=uO) (aA:H c'=uN (.frz oc (.own P))) (aD:oc.data=.fields ba) (cQ:ba[1]?=uN (.str qual ct))
  (hb:∀u,bindArgs (p5 name qual params body scope cl pm (.ref c') aE) ⟨[u],[]⟩=pure [(p,u)])
  (he:∀f af s2 H2,PE (cxLam X X.A.in1.in1 qual scope cl f af (p::fr.map (·.1)) s2 H2) body te)
  (hl:SqL X.K H l xs) (dz:xs.length<64)
  (q:tCompR (Itp xs.length λj=>xs.getD j .non) (gName 0) tTrue te (uO::lS fr σ) H λb H3=>mSrt X.K xs b H3 Q):
  lK (model X.prog X.w) X.A (call (.builtin "sorted") [.ref l] [(ou "key",.ref f)]) (EP X pins σ Q) X.xe s:=by
 obtain⟨vs,rv,pl,hz⟩:=I.list hl;have hlen:=rv.length;refine call_function_entry_kw kind_sorted plain_sorted entry_sorted (ksk_s1 _ _) ?_;unfold qd.«sorted»;refine kP (m:=checkCount "sorted" 1 1 _) (lB ?_);refine kP (collect_list pl.isList ?_ (by rw[sizeLine_eq];lia))
 refine kP (wpAny_newList ?_ (by rw[sizeLine_eq];lia))
 have hsz:((s.heap.push (seqObj "list" #[] 0)).update s.heap.objs.size (lV (·++vs.toArray))).objs.size=s.heap.objs.size+1:=by
  rw[rX,size_push']
 have cP:(((s.heap.push (seqObj "list" #[] 0)).update s.heap.objs.size (lV (·++vs.toArray))).push (seqObj "list" vs.toArray 0)).get? (s.heap.objs.size+1)=uN (seqObj "list" vs.toArray 0):=by
  rw[<- hsz];exact lC _ rfl
 have keep:∀b o,s.heap.get? b=uN o->(((s.heap.push (seqObj "list" #[] 0)).update s.heap.objs.size (lV (·++vs.toArray))).push (seqObj "list" vs.toArray 0)).get? b=uN o:=λb o q=>by
  have aC:b<s.heap.objs.size:=lh q;rw[rN _ _ _ (by rw[hsz];exact lN (oV aC)),Heap.get?_update_ne _ _ _ _ (lN aC),rN _ _ _ (lN aC)]
  exact q
 show lK _ _ _ _ _ {s with heap:=((s.heap.push (seqObj "list" #[] 0)).update s.heap.objs.size (lV (·++vs.toArray))).push (seqObj "list" vs.toArray 0)}
 rw[hsz];refine kP (wpAny_holding (wpAny_call_entry_kw slot_list_sort ⟨_,cP,rfl⟩ entry_list_sort ?body (ksk_l1 _ _)))
 case body=>
  show lK (model X.prog X.w) X.A.in1.in1 (qd.«list.sort» ⟨[.ref (s.heap.objs.size+1)],[(ou "key",.ref f)]⟩) _ _ _
  rw[ksk_t1];refine mK (zgH_ I S hh aH hu ho de hf aA aD cQ hb he rv dz keep cP (ot _) q) (λfin s' ⟨e,H',I',q'⟩=>⟨_,e,?_⟩) λ_ _ z=>z
  exact lB ⟨_,rfl,.ref (s.heap.objs.size+1),H',I',rfl,q'⟩
theorem zjO_ {Q:aU->kR->Prop}{E:aU->kR->Prop}{A:mh}{c P:k9}{pos:Pos}{fl:Nat}(I:Inv X pins σ H s)(S:LScope X scope cl p fr)(bt:X.env.code=.ref c)(C:CodeHd X.base c P)(hP:H P=uN (.tbl pos qual))
  (h:∀f c' aE oc ba ct H2 s2 o,Inv X pins σ H2 s2->LamUp H H2->s2.heap.get? f=uN o->o.data=.func (p5 name qual params body scope cl ((X.mg "__name__").getD .none) (.ref c') aE)->H2 f=uO ->
   H2 c'=uN (.frz oc (.own P))->oc.data=.fields ba->ba[1]?=uN (.str qual ct)->Q (.ref f) s2):
  lK (model X.prog X.w) A (makeFunction name qual params (.expr body) scope X.env [] [] [] pos fl) Q E s:=by
 obtain⟨ps,hp,ht,hq⟩:=I.hok P _ hP;have CH:CodeHd s.heap c P:=C.keeps I.bk;have gM:s.heap.Ns lH X.mg:=I.ok.mod.glob.keeps I.bk;obtain⟨bm,ob,b1,b2,b3,b4,b5,b6⟩:=I.ok.mod.bm;have jJ:lH≠P:=λz=>by
  obtain⟨o,es,ep,e,hd,_⟩:=gM;rw[z,hp]at e;cases e;cases hd
 have iN:bm≠P:=λz=>by
  have e:=I.bk _ _ b3;rw[z,hp]at e;cases e;cases b4
 have iO:bm≠lH:=λz=>by
  obtain⟨o,es,ep,e,hd,_⟩:=I.ok.mod.glob;rw[z,e]at b3;cases b3;rw[hd]at b6;cases b6
 cases hf:codeAmong pos ps.toList with
 |some cv=>
  obtain⟨c',oc,ba,ct,rfl,q1,q2,q3⟩:=hq cv hf;refine kla_makeFunctionHit (zbE_ S.clos) I.ok.glob gM bt CH hp ht hf ⟨bm,ob,b1,b2,iO,iN,I.bk _ _ b3,b4,b5,b6⟩ λaE h' tk hk hsz=>?_
  have kp:∀b u,s.heap.get? b=uN u->(h'.push {cls:=.type "function",data:=.func (p5 name qual params body scope cl ((X.mg "__name__").getD .none) (.ref c') aE)}).get? b=uN u:=λb u e=>kQ _ (hk b u e)
  exact h h'.objs.size c' aE oc ba ct H _ _ (I.kept (t':=tk) kp) (.inl rfl) (lC _ rfl) rfl (I.hok.fresh hsz) q1 q2 q3
 |none=>
  refine kla_makeFunction (zbE_ S.clos) I.ok.glob gM bt CH hp ht hf jJ ⟨bm,ob,b1,b2,iO,iN,I.bk _ _ b3,b4,b5,b6⟩ λc' aE h' tk hx gN aC gD jv=>?_
  obtain⟨c₂,oc,ba,ct,e2,hoc,q2,q3⟩:=gD;cases e2;have gS:H c'=uO:=I.hok.fresh gN;have kE:P≠c':=zd_ hP gS;have kp:∀b u,b≠P->s.heap.get? b=uN u->(h'.push (kla_obj name qual params body scope cl ((X.mg "__name__").getD .none) c' aE)).get? b=uN u:=λb u hb e=>kQ _ (hx b u hb e)
  have nP:∀b,H b=uO->b≠P:=λb n z=>by rw[z,hP]at n;cases n
  have nc:∀b u,H b=uN u->b≠c':=λb u e=>zd_ e gS
  have iP:(h'.push (kla_obj name qual params body scope cl ((X.mg "__name__").getD .none) c' aE)).get? P=uN (tabObj (ps++#[rawInt pos.line,rawInt pos.col,.ref c'])):=kQ _ jv;have tl:(ps++#[rawInt pos.line,rawInt pos.col,.ref c']).toList=ps.toList++[rawInt pos.line,rawInt pos.col,.ref c']:=by simp
  have u:Un X.fs [] H (upd H c' (.frz oc (.own P))) s.heap (h'.push (kla_obj name qual params body scope cl ((X.mg "__name__").getD .none) c' aE)):=by
   refine⟨λb o q n _ _=>kp b o (nP b n) q,λb o q n _ _=>⟨o.slots,kp b o (nP b n) q⟩,λb o q n _=>?_,λb o q _=>?_,λb xs q=>?_,λb o v q=>?_,λb p' q' q=>?_⟩
   ·rw[zc_ (lN (lG (lh q) gN))];exact n
   ·by_cases hb:b=P
    ·rw[hb];exact⟨_,iP⟩
    ·exact⟨o,kp b o hb q⟩
   ·rw[zc_ (nc b _ q)];exact q
   ·rw[zc_ (nc b _ q)];exact q
   ·rw[zc_ (nc b _ q)];exact q
  have hok:HOk X.prog X.w (upd H c' (.frz oc (.own P))) (h'.push (kla_obj name qual params body scope cl ((X.mg "__name__").getD .none) c' aE)):=λb v e=>by
   by_cases hb:b=c'
   ·subst hb
    rw[ze_]at e;cases e;have z:=kQ (kla_obj name qual params body scope cl ((X.mg "__name__").getD .none) b aE) hoc;exact⟨z,_,z⟩
   ·rw[zc_ hb]at e
    by_cases hbP':b=P
    ·subst hbP'
     rw[hP]at e;cases e;refine⟨_,iP,?_,λcv cQ=>?_⟩
     ·rw[tl];exact TriplesOk_snoc _ _ _ _ ht
     ·rw[tl,codeAmong_snoc _ ht hf]at cQ
      cases cQ;exact⟨c',oc,ba,ct,rfl,ze_,q2,q3⟩
    ·refine(I.hok b v e).stay (λd w hd q=>kp d w ?_ q) (λd q=>by rw[zc_ (nc d _ q)];exact q) (λd xs q=>by rw[zc_ (nc d _ q)];exact q) λd ob q=>by rw[zc_ (nc d _ q)];exact q
     rcases hd with rfl |hd
     ·exact hbP'
     ·rintro rfl
      rw[hP]at hd;cases hd
  refine h h'.objs.size c' aE oc ba ct _ _ _ (I.un (t':=tk) u hok) (.inr ⟨c',_,gS,rfl⟩) (lC _ rfl) rfl ?_ ze_ q2 q3;rw[zc_ (oH aC)];exact I.hok.fresh (mq gN (nI aC))
theorem LamUp.same {H H2:Hp}(h:LamUp H H2):Same H H2:=λb o e=>by
 rcases h with rfl |⟨c,o',hn,rfl⟩
 ·exact e
 ·rw[zc_ (zd_ e hn)];exact e
theorem zjT_ {i:Nat}{y:Str}{p0 p1 cW bO pos:Pos}{c P:k9}(S:LScope X scope cl p fr)(hh:X.A.handled=uO)(aH:X.A.depth<recursionLimit)(hu:X.A.units+10<cLine)
  (bt:X.env.code=.ref c) (C:cdB X.K c P=uP) (bX:lamK X.K=uN (P,bO,X.env.qual ++ "<lambda>")) (hm:X.mg "sorted"=uO) (hg:Gl X "sorted") (hy:PE X (.Name y p1) (mVar i)) (hd:defaultsOf params X.env=([],[]))
  (hb:∀pm c' aE u,bindArgs (p5 "<lambda>" (X.env.qual ++ "<lambda>") params body scope cl pm (.ref c') aE) ⟨[u],[]⟩=pure [(p,u)])
  (he:∀f af s2 H2,PE (cxLam X X.A.in1.in1 (X.env.qual ++ "<lambda>") scope cl f af (p::fr.map (·.1)) s2 H2) body te):
  PE X (.Call (.Name "sorted" p0) [.Name y p1] [⟨uN "key",.Lambda params body scope bO,cW⟩] pos) (tSrt X.K fr i te):=by
 intro pins s σ H Q I h;obtain⟨a,xs,hσ,hl,dz,q⟩:=h;refine nS (zde_ (u:=.builtin "sorted") I hg hm rfl ?_);refine callWith_kw ?_;have pa:PA X [.Name y p1] (tCons (mVar i) tNil):=zb0_ hy zfZ_;refine thn (pa pos pins s σ H (λvs H1=>vs=[V.ref a]/\H1=H) I ?_) λus s1 ⟨vs,H1,I1,r1,e1,e2⟩=>?_
 ·show mVar i σ H _
  unfold mVar;rw[hσ];exact⟨rfl,rfl⟩
 ·subst e1 e2
  obtain⟨u,rfl,ru⟩:=vals1 r1;cases ru;refine kws_cons (kla_eval hd (zjO_ I1 S bt (cd_hd I1.mod.kin C) (I1.tb _ _ _ bX) λf c' aE oc ba ct H2 s2 o I2 up ho de hf aA aD cQ=>kws_nil ?_))
  have eJ:SqL X.K H2 a xs:=up.same.seq hl;exact zfI_ I2 S hh aH hu ho de hf aA aD cQ (hb _ _ _) he eJ dz (q H2 up)
end
def Fl (K:Fgg)(pos:Pos):Prop:=∃c P,sG K "put_in_order"=uN (c,P)/\cdB K c P=uP/\lamK K=uN (P,pos,ou "put_in_order" ++ ".<locals>." ++ "<lambda>")
theorem Fl.mk_ {K:Fgg}{pos:Pos}{f c P:k9}{oc:aU}{od f6:Option k9}{fd:mO}{vs:Array aU}{aq fZ:Array (Option aU)}{a1:lF}{a2:List lF}{a3:Option Str}{a4 a5 a6:Pos}{b1:Arguments}{b2:lF}{b3:Scope}
  (h:ng K lH "put_in_order"=uN (uN (.ref f))) (l:K.lookup f=uN ⟨oc,od,.func fd,aq⟩) (e1:fd.code=.ref c) (l2:K.lookup c=uN ⟨.type "code",f6,.fields vs,fZ⟩) (e2:vs[11]?=uN (.ref P))
  (e3:(match vs.getD 18 .none,vs.getD 7 .none,vs.getD 9 .none,vs.getD 10 .none with |.str _ _,.int _ _,.bool _,.int _ _=>uP |_,_,_,_=>uQ)=uP) (e4:(c != P)=uP) (e5:fd.qualname="put_in_order")
  (e6:fd.body=.stmts [.Return (uN (.Call a1 a2 [⟨a3,.Lambda b1 b2 b3 pos,a4⟩] a5)) a6]):Fl K pos:=by
 have t:sG K "put_in_order"=uN (c,P):=by
  unfold sG;rw[h];dsimp only;rw[l];dsimp only;rw[e1];dsimp only;rw[l2];dsimp only;rw[e2]
 refine⟨c,P,t,?_,?_⟩
 ·unfold cdB
  rw[l2];dsimp only;rw[e2,e3,e4];simp
 ·unfold lamK
  rw[h];dsimp only;rw[l];dsimp only;rw[e6,t,e5]
def lamPos (st:mi):Pos:=match defBody st with
 |[.Return (uN (.Call _ _ [⟨_,.Lambda _ _ _ pos,_⟩] _)) _]=>pos
 |_=>⟨0,0,0,0⟩
def EqL (K:Fgg)(H:Hp)(n:Nat):List V->List V->List Bool->Prop
 |[],[],[]=>True
 |x::xs,y::ys,b::bs=>EqD K H n x y b/\EqL K H n xs ys bs
 |_,_,_=>False
def mNeDL (K:Fgg):R2:=λx y H Q=>match x,y with
 |.ref p,.ref q=>∃(ks:List Key) (xs ys:List V) (bs:List Bool),H p=uN (.dK (ks.zip xs))/\H q=uN (.dK (ks.zip ys))/\ks.Nodup/\ks.length=xs.length/\ks.length=ys.length/\EqL K H 12 xs ys bs/\Q (.bl (!(bs.all id))) H
 |_,_=>False
theorem zk6_ {k:Key}{y:V}:∀{ks:List Key}{ys:List V}{i:Nat},ks.Nodup->ks[i]?=uN k->ys[i]?=uN y->valV (ks.zip ys) k=uN y
 |[],_,_,_,h,_=>by simp at h
 |_::_,[],_,_,_,h=>by simp at h
 |k0::ks,y0::ys,0,_,h,g=>by simp at h g;subst h g;simp[valV]
 |k0::ks,y0::ys,i+1,nd,h,g=>by
  obtain⟨n1,n2⟩:=oP.mp nd;have h':ks[i]?=uN k:=by simpa using h
  have ne:¬k0=k:=λz=>n1 (z ▸ mV h')
  have:=zk6_ (i:=i) n2 h' (by simpa using g)
  unfold valV at this ⊢;rw[l0,nM (by simpa using ne)];exact this
section
variable {X:Cx}{pins:Pnn}{σ:St}{H:Hp}{s:kR}
theorem zcX_ {A:mh}{kb:List (Key×V)}{vb:List (Key×aU)}(I:Inv X pins σ H s)(rb:KV kb vb)(hu:A.units+12<cLine):∀{ks:List Key}{xs ys:List V}{bs:List Bool}{va:List (Key×aU)},KV (ks.zip xs) va->ks.length=xs.length->EqL X.K H 12 xs ys bs ->
  (∀(i:Nat) k y,ks[i]?=uN k->ys[i]?=uN y->valV kb k=uN y)->W.KeqHits A s vb va (bs.all id)
 |[],xs,ys,bs,va,r,hl,e,hv=>by
  cases xs with
  |cons=>cases hl
  |nil=>
   cases ys with
   |cons=>exact e.elim
   |nil=>
    cases bs with
    |cons=>exact e.elim
    |nil=>unfold KV at r;cases r;exact .nil
 |k::ks,[],_,_,_,_,hl,_,_=>by cases hl
 |k::ks,x::xs,ys,bs,va,r,hl,e,hv=>by
  cases ys with
  |nil=>exact e.elim
  |cons y ys=>
   cases bs with
   |nil=>exact e.elim
   |cons b bs=>
    unfold KV at r;rw[l0]at r;cases r with
    | @cons _ w _ _ h t=>
     obtain⟨kw,vw⟩:=w;obtain⟨rfl,h2⟩:k=kw/\RelV x vw:=h;have g:=hv 0 k y rfl rfl;have rk:=rb.val k;rw[g]at rk;cases g2:valueAt vb k with
     |none=>rw[g2]at rk;exact rk.elim
     |some u=>
      rw[g2]at rk;rw[mD];exact .hit g2 (zdg_ I e.1 A _ _ hu h2 rk).1 (zcX_ I rb hu t (by simpa using hl) e.2 λi k' y' h1 h2=>hv (i+1) k' y' (by simpa using h1) (by simpa using h2))
theorem zmU_ (hu:X.A.units+60<cLine):OpR X (lP .NotEq) (mNeDL X.K):=by
 intro pins s σ H x y v u Q I rx ry h;unfold mNeDL at h;split at h
 ·cases rx;cases ry
  obtain⟨ks,xs,ys,bs,hp,hq,nd,lx,ly,e,h⟩:=h;obtain⟨_,la,va,ra,da⟩:=zly_ I.hok hp;obtain⟨_,lb,vb,rb,db⟩:=zly_ I.hok hq;refine W.keq_ne la lb da db (by lia) (λ_=>zcX_ I rb (by show X.A.units+1+12<_;lia) ra lx e λi k y h1 h2=>zk6_ nd h1 h2) ?_
  have el:va.length=vb.length:=by rw[<- ra.length,<- rb.length,mF,mF,<- lx,<- ly]
  rw[el,beq_self_eq_true,Bool.true_and];exact⟨.bl _,H,I,rfl,h⟩
 ·exact h.elim
end
end L2
namespace VI
open PySem PySem.Spec PyProof.Rows L2
inductive Nd where
 |tup |lst |dct (ks:List Key)|obj (c:Str) (ns:List Str)|scr |ktup
 deriving DecidableEq
inductive D where
 |non |bl (b:Bool)|int (i:Int)|str (l:List Nat)|nd (k:Nd) (ds:List D)|fz (d:D)|pin (v:V)|gone
def SqU (K:lY)(a:k9)(xs:List V):Prop:=∃(o:sX) (aa:Array aU) (n:Nat),K.lookup a=uN o/\o.cls=.type "tuple" /\ o.data=.seq aa n/\aa.size<=lA/\Vals xs aa.toList
def NdR (K:lY)(k:Nd)(p:k9)(us:List V)(H:Hp):Prop:=match k with
 |.tup=>H p=uN (.tup us)
 |.lst=>H p=uN (.lst us)
 |.scr=>SqL K H p us
 |.ktup=>SqU K p us
 |.dct ks=>H p=uN (.dK (ks.zip us))/\ks.length=us.length/\ks.Nodup
 |.obj c ns=>∃dx,H p=uN (.ins (gA K c) dx (ns.zip us))/\ns.length=us.length
theorem NdR.mono {K:lY}{k:Nd}{p:k9}{us:List V}{H H':Hp}(g:Same H H')(h:NdR K k p us H):NdR K k p us H':=by
 cases k with
 |tup=>exact g _ _ h
 |lst=>exact g _ _ h
 |scr=>exact g.seq h
 |ktup=>exact h
 |dct ks=>exact⟨g _ _ h.1,h.2⟩
 |obj c ns=>obtain⟨dx,e,l⟩:=h;exact⟨dx,g _ _ e,l⟩
mutual
def DR (K:lY):D->V->Hp->Prop
 |.non,v,_=>v=.non
 |.bl b,v,_=>v=.bl b
 |.int i,v,_=>v=.int i
 |.str l,v,_=>v=tx l
 |.nd k ds,v,H=>∃p us,v=.ref p/\NdR K k p us H/\DRs K ds us H
 |.fz d,v,H=>DR K d v H
 |.pin u,v,_=>v=u
 |.gone,_,_=>True
def DRs (K:lY):List D->List V->Hp->Prop
 |[],us,_=>us=[]
 |d::ds,us,H=>∃v vs,us=v::vs/\DR K d v H/\DRs K ds vs H
end
theorem DR.mono {K:lY}{H H':Hp}(g:Same H H'):∀{d:D}{v:V},DR K d v H->DR K d v H'
 |.non,_,h=>by unfold DR at h ⊢;exact h
 |.bl _,_,h=>by unfold DR at h ⊢;exact h
 |.int _,_,h=>by unfold DR at h ⊢;exact h
 |.str _,_,h=>by unfold DR at h ⊢;exact h
 |.pin _,_,h=>by unfold DR at h ⊢;exact h
 |.gone,_,h=>by unfold DR at h ⊢;exact h
 |.fz d,_,h=>by unfold DR at h ⊢;exact DR.mono g h
 |.nd k ds,_,h=>by unfold DR at h ⊢;obtain⟨p,us,e,n,r⟩:=h;exact⟨p,us,e,n.mono g,go r⟩
where go:∀{ds:List D}{us:List V},DRs K ds us H->DRs K ds us H'
 |[],_,h=>by unfold DRs at h ⊢;exact h
 |d::ds,_,h=>by unfold DRs at h ⊢;obtain⟨v,vs,e,a,r⟩:=h;exact⟨v,vs,e,DR.mono g a,go r⟩
theorem DRs.mono {K:lY}{H H':Hp}(g:Same H H'){ds:List D}{us:List V}(h:DRs K ds us H):DRs K ds us H':=DR.mono.go g h
theorem DRs.prs {K:lY}{H:Hp}:∀{ds:List D}{us:List V},DRs K ds us H↔Paired (λd v=>DR K d v H) ds us
 |[],us=>⟨λh=>by unfold DRs at h;subst h;exact .nil,λh=>by cases h;unfold DRs;rfl⟩
 |d::ds,us=>⟨λh=>by unfold DRs at h;obtain⟨v,vs,rfl,a,r⟩:=h;exact .cons a (DRs.prs.mp r),λh=>by
  cases h with |cons a r=>unfold DRs;exact⟨_,_,rfl,a,DRs.prs.mpr r⟩⟩
mutual
noncomputable def D.imm:D->Bool
 |.nd .tup ds=>D.imms ds
 |.nd .ktup ds=>D.imms ds
 |.nd _ _=>uQ
 |.fz d=>d.imm
 |.pin _=>uQ
 |.gone=>uQ
 |_=>uP
noncomputable def D.imms:List D->Bool
 |[]=>uP
 |d::ds=>d.imm && D.imms ds
end
mutual
def D.new:D->Bool
 |.nd _ ds=>D.news ds
 |.fz d=>d.imm
 |.pin _=>uQ
 |.gone=>uQ
 |_=>uP
def D.news:List D->Bool
 |[]=>uP
 |d::ds=>d.new && D.news ds
end
def Cell (K:lY)(k:Nd)(p:k9)(us:List V)(F h:Hp):Prop:=match k with
 |.tup=>F p=uN (.tup us)/\∀q,h q=uO
 |.scr=>False
 |.ktup=>SqU K p us/\∀q,h q=uO
 |.lst=>h=one p (.lst us)
 |.dct ks=>h=one p (.dK (ks.zip us))/\ks.length=us.length/\ks.Nodup
 |.obj c ns=>∃dx,dx≠p/\h=two p dx (.ins (gA K c) dx (ns.zip us))/\ns.length=us.length
mutual
def OD (K:lY):D->V->Hp->Hp->Prop
 |.nd k ds,v,F,h=>∃p us h0 h2,v=.ref p/\Cell K k p us F h0/\Jn h0 h2 h/\ODs K ds us F h2
 |d,v,F,h=>(∀p,h p=uO)/\DR K d v F
def ODs (K:lY):List D->List V->Hp->Hp->Prop
 |[],us,_,h=>us=[]/\∀p,h p=uO
 |d::ds,us,F,h=>∃v vs h1 h2,us=v::vs/\Jn h1 h2 h/\OD K d v F h1/\ODs K ds vs F h2
end
section
variable {K:mB}{F F' h h1 h2 H:Hp}{d:D}{ds:List D}{v:V}{us:List V}{k:Nd}{p:k9}
theorem zb_ {p q:k9}{o:HO}:one p o q=if q=p then uN o else uO:=rfl
theorem Cell.mono (g:Tups F F')(c:Cell K k p us F h):Cell K k p us F' h:=by
 cases k with
 |tup=>exact⟨g _ _ c.1,c.2⟩
 |lst=>exact c
 |scr=>exact c
 |ktup=>exact c
 |dct ks=>exact c
 |obj c' ns=>exact c
theorem Cell.notup (c:Cell K k p us F h)(q:k9)(xs:List V):h q≠uN (.tup xs):=by
 cases k with
 |tup=>rw[c.2];exact λz=>by cases z
 |ktup=>rw[c.2];exact λz=>by cases z
 |scr=>exact lZ c
 |lst=>rw[show h=_ from c,zb_];split<;>exact λz=>by cases z
 |dct ks=>rw[c.1,zb_];split<;>exact λz=>by cases z
 |obj c' ns=>
  obtain⟨dx,n,e,l⟩:=c;rw[e];unfold two;split
  ·exact λz=>by cases z
  ·split<;>exact λz=>by cases z
theorem Cell.nd (c:Cell K k p us F h)(g:Same F H)(g':Same h H):NdR K k p us H:=by
 cases k with
 |tup=>exact g _ _ c.1
 |ktup=>exact c.1
 |scr=>exact lZ c
 |lst=>exact g' _ _ (by rw[show h=_ from c];exact zo_)
 |dct ks=>exact⟨g' _ _ (by rw[c.1];exact zo_),c.2⟩
 |obj c' ns=>obtain⟨dx,n,e,l⟩:=c;exact⟨dx,g' _ _ (by rw[e];exact zpm_),l⟩
theorem OD.mono (g:Same F F'):∀{d:D}{v:V}{h:Hp},OD K d v F h->OD K d v F' h
 |.nd k ds,_,_,q=>by unfold OD at q ⊢;obtain⟨p,us,h0,h2,e,c,j,r⟩:=q;exact⟨p,us,h0,h2,e,c.mono g.tups,j,go r⟩
 |.non,_,_,q=>by unfold OD at q ⊢;exact⟨q.1,q.2.mono g⟩
 |.bl _,_,_,q=>by unfold OD at q ⊢;exact⟨q.1,q.2.mono g⟩
 |.int _,_,_,q=>by unfold OD at q ⊢;exact⟨q.1,q.2.mono g⟩
 |.str _,_,_,q=>by unfold OD at q ⊢;exact⟨q.1,q.2.mono g⟩
 |.fz _,_,_,q=>by unfold OD at q ⊢;exact⟨q.1,q.2.mono g⟩
 |.pin _,_,_,q=>by unfold OD at q ⊢;exact⟨q.1,q.2.mono g⟩
 |.gone,_,_,q=>by unfold OD at q ⊢;exact⟨q.1,q.2.mono g⟩
where go:∀{ds:List D}{us:List V}{h:Hp},ODs K ds us F h->ODs K ds us F' h
 |[],_,_,q=>by unfold ODs at q ⊢;exact q
 |d::ds,_,_,q=>by unfold ODs at q ⊢;obtain⟨v,vs,h1,h2,e,j,a,r⟩:=q;exact⟨v,vs,h1,h2,e,j,OD.mono g a,go r⟩
theorem OD.notup:∀{d:D}{v:V}{h:Hp},OD K d v F h->∀p xs,h p≠uN (.tup xs)
 |.nd k ds,_,_,q,p,xs=>by
  unfold OD at q;obtain⟨_,us,h0,h2,e,c,j,r⟩:=q;rcases j p with⟨_,y⟩|⟨_,y⟩
  ·rw[y];exact go r p xs
  ·rw[y];exact c.notup p xs
 |.non,_,_,q,p,xs=>by unfold OD at q;rw[q.1];exact λz=>by cases z
 |.bl _,_,_,q,p,xs=>by unfold OD at q;rw[q.1];exact λz=>by cases z
 |.int _,_,_,q,p,xs=>by unfold OD at q;rw[q.1];exact λz=>by cases z
 |.str _,_,_,q,p,xs=>by unfold OD at q;rw[q.1];exact λz=>by cases z
 |.fz _,_,_,q,p,xs=>by unfold OD at q;rw[q.1];exact λz=>by cases z
 |.pin _,_,_,q,p,xs=>by unfold OD at q;rw[q.1];exact λz=>by cases z
 |.gone,_,_,q,p,xs=>by unfold OD at q;rw[q.1];exact λz=>by cases z
where go:∀{ds:List D}{us:List V}{h:Hp},ODs K ds us F h->∀p xs,h p≠uN (.tup xs)
 |[],_,_,q,p,xs=>by unfold ODs at q;rw[q.2];exact λz=>by cases z
 |d::ds,_,_,q,p,xs=>by
  unfold ODs at q;obtain⟨v,vs,h1,h2,e,j,a,r⟩:=q;rcases j p with⟨_,y⟩|⟨_,y⟩
  ·rw[y];exact go r p xs
  ·rw[y];exact OD.notup a p xs
theorem OD.view (g:Same F H):∀{d:D}{v:V}{h:Hp},Same h H->OD K d v F h->DR K d v H
 |.nd k ds,_,_,g',q=>by
  unfold OD at q;unfold DR;obtain⟨p,us,h0,h2,e,c,j,r⟩:=q;exact⟨p,us,e,c.nd g (j.l.trans g'),go (j.r.trans g') r⟩
 |.non,_,_,_,q=>by unfold OD at q;exact q.2.mono g
 |.bl _,_,_,_,q=>by unfold OD at q;exact q.2.mono g
 |.int _,_,_,_,q=>by unfold OD at q;exact q.2.mono g
 |.str _,_,_,_,q=>by unfold OD at q;exact q.2.mono g
 |.fz _,_,_,_,q=>by unfold OD at q;exact q.2.mono g
 |.pin _,_,_,_,q=>by unfold OD at q;exact q.2.mono g
 |.gone,_,_,_,q=>by unfold OD at q;exact q.2.mono g
where go:∀{ds:List D}{us:List V}{h:Hp},Same h H->ODs K ds us F h->DRs K ds us H
 |[],_,_,_,q=>by unfold ODs at q;unfold DRs;exact q.1
 |d::ds,_,_,g',q=>by
  unfold ODs at q;unfold DRs;obtain⟨v,vs,h1,h2,e,j,a,r⟩:=q;exact⟨v,vs,e,OD.view g (j.l.trans g') a,go (j.r.trans g') r⟩
theorem DR.imm (g:Tups F F'):∀{d:D}{v:V},d.imm=uP->DR K d v F->DR K d v F'
 |.nd .tup ds,_,z,q=>by unfold D.imm at z;unfold DR at q ⊢;obtain⟨p,us,e,n,r⟩:=q;exact⟨p,us,e,g _ _ n,go z r⟩
 |.nd .ktup ds,_,z,q=>by unfold D.imm at z;unfold DR at q ⊢;obtain⟨p,us,e,n,r⟩:=q;exact⟨p,us,e,n,go z r⟩
 |.nd .scr _,_,z,_=>by simp[D.imm]at z
 |.nd .lst _,_,z,_=>by simp[D.imm]at z
 |.nd (.dct _) _,_,z,_=>by simp[D.imm]at z
 |.nd (.obj _ _) _,_,z,_=>by simp[D.imm]at z
 |.non,_,_,q=>by unfold DR at q ⊢;exact q
 |.bl _,_,_,q=>by unfold DR at q ⊢;exact q
 |.int _,_,_,q=>by unfold DR at q ⊢;exact q
 |.str _,_,_,q=>by unfold DR at q ⊢;exact q
 |.fz d,_,z,q=>by unfold D.imm at z;unfold DR at q ⊢;exact DR.imm g z q
 |.pin _,_,z,_=>by simp[D.imm]at z
 |.gone,_,z,_=>by simp[D.imm]at z
where go:∀{ds:List D}{us:List V},D.imms ds=uP->DRs K ds us F->DRs K ds us F'
 |[],_,_,q=>by unfold DRs at q ⊢;exact q
 |d::ds,_,z,q=>by
  unfold D.imms at z;obtain⟨z1,z2⟩:=l4.mp z;unfold DRs at q ⊢;obtain⟨v,vs,e,a,r⟩:=q;exact⟨v,vs,e,DR.imm g z1 a,go z2 r⟩
theorem OD.of_imm (hn:∀p,h p=uO):∀{d:D}{v:V},d.imm=uP->DR K d v F->OD K d v F h
 |.nd .tup ds,_,z,q=>by
  unfold D.imm at z;unfold DR at q;unfold OD;obtain⟨p,us,e,n,r⟩:=q;exact⟨p,us,h,h,e,⟨n,hn⟩,λq=>.inl ⟨hn q,rfl⟩,go z r⟩
 |.nd .ktup ds,_,z,q=>by
  unfold D.imm at z;unfold DR at q;unfold OD;obtain⟨p,us,e,n,r⟩:=q;exact⟨p,us,h,h,e,⟨n,hn⟩,λq=>.inl ⟨hn q,rfl⟩,go z r⟩
 |.nd .scr _,_,z,_=>by simp[D.imm]at z
 |.nd .lst _,_,z,_=>by simp[D.imm]at z
 |.nd (.dct _) _,_,z,_=>by simp[D.imm]at z
 |.nd (.obj _ _) _,_,z,_=>by simp[D.imm]at z
 |.non,_,_,q=>by unfold OD;exact⟨hn,q⟩
 |.bl _,_,_,q=>by unfold OD;exact⟨hn,q⟩
 |.int _,_,_,q=>by unfold OD;exact⟨hn,q⟩
 |.str _,_,_,q=>by unfold OD;exact⟨hn,q⟩
 |.fz d,_,_,q=>by unfold OD;exact⟨hn,q⟩
 |.pin _,_,z,_=>by simp[D.imm]at z
 |.gone,_,z,_=>by simp[D.imm]at z
where go:∀{ds:List D}{us:List V},D.imms ds=uP->DRs K ds us F->ODs K ds us F h
 |[],_,_,q=>by unfold DRs at q;unfold ODs;exact⟨q,hn⟩
 |d::ds,_,z,q=>by
  unfold D.imms at z;obtain⟨z1,z2⟩:=l4.mp z;unfold DRs at q;unfold ODs;obtain⟨v,vs,e,a,r⟩:=q;exact⟨v,vs,h,h,e,λq=>.inl ⟨hn q,rfl⟩,OD.of_imm hn z1 a,go z2 r⟩
theorem OD.newImm (g:Tups F F'):∀{d:D}{v:V}{h:Hp},d.new=uP->OD K d v F h->OD K d v F' h
 |.nd k ds,_,_,z,q=>by unfold D.new at z;unfold OD at q ⊢;obtain⟨p,us,h0,h2,e,c,j,r⟩:=q;exact⟨p,us,h0,h2,e,c.mono g,j,go z r⟩
 |.non,_,_,_,q=>by unfold OD at q ⊢;exact⟨q.1,q.2.imm g rfl⟩
 |.bl _,_,_,_,q=>by unfold OD at q ⊢;exact⟨q.1,q.2.imm g rfl⟩
 |.int _,_,_,_,q=>by unfold OD at q ⊢;exact⟨q.1,q.2.imm g rfl⟩
 |.str _,_,_,_,q=>by unfold OD at q ⊢;exact⟨q.1,q.2.imm g rfl⟩
 |.fz d,_,_,z,q=>by unfold D.new at z;unfold OD at q ⊢;exact⟨q.1,q.2.imm g (by unfold D.imm;exact z)⟩
 |.pin _,_,_,z,_=>by simp[D.new]at z
 |.gone,_,_,z,_=>by simp[D.new]at z
where go:∀{ds:List D}{us:List V}{h:Hp},D.news ds=uP->ODs K ds us F h->ODs K ds us F' h
 |[],_,_,_,q=>by unfold ODs at q ⊢;exact q
 |d::ds,_,_,z,q=>by
  unfold D.news at z;obtain⟨z1,z2⟩:=l4.mp z;unfold ODs at q ⊢;obtain⟨v,vs,h1,h2,e,j,a,r⟩:=q;exact⟨v,vs,h1,h2,e,j,OD.newImm g z1 a,go z2 r⟩
end
abbrev tyD (K:lY):Ty D:=⟨DR K,λg h=>h.mono g⟩
abbrev owD (K:lY):Own D:=⟨OD K,tyD K,λg h=>h.mono g,λd h=>OD.view zX_ (zd6_ d) h,λh=>h.notup⟩
noncomputable abbrev Env:=List (Option D)
def slot (K:lY):Option D->Sl
 |none=>.dead
 |some d=>.ow (owD K) d
abbrev Lof (K:lY)(env:Env):List Sl:=env.map (slot K)
noncomputable def D.un:D->D
 |.fz d=>d.un
 |d=>d
def D.vw (d:D):D:=if d.imm then d else match d with |.fz _=>d |_=>.fz d
section
variable {K:mB}{E:XK}{F h h1 h2 H:Hp}{d:D}{ds:List D}{v:V}{us:List V}{k:Nd}{p:k9}{Q:VK}
theorem DR.un:∀{d:D},DR K d v H->DR K d.un v H
 |.fz d,q=>by unfold DR at q;unfold D.un;exact DR.un q
 |.non,q=>q
 |.bl _,q=>q
 |.int _,q=>q
 |.str _,q=>q
 |.nd _ _,q=>q
 |.pin _,q=>q
 |.gone,q=>q
theorem DR.int {i:Int}(h:DR K (.int i) v H):v=.int i:=by unfold DR at h;exact h
theorem DR.str {l:List Nat}(h:DR K (.str l) v H):v=tx l:=by unfold DR at h;exact h
theorem DR.bl {b:Bool}(h:DR K (.bl b) v H):v=.bl b:=by unfold DR at h;exact h
theorem DR.non (h:DR K .non v H):v=.non:=by unfold DR at h;exact h
theorem DR.nd (h:DR K (.nd k ds) v H):∃p us,v=.ref p/\NdR K k p us H/\DRs K ds us H:=by unfold DR at h;exact h
theorem OD.vw (hn:∀p,h p=uO)(r:DR K d v F):OD K d.vw v F h:=by
 unfold D.vw;split
 ·exact OD.of_imm hn (by assumption) r
 ·split
  ·unfold OD;exact⟨hn,r⟩
  ·unfold OD;exact⟨hn,by unfold DR;exact r⟩
theorem ODs.vw (hn:∀p,h p=uO):∀{ds:List D}{us:List V},DRs K ds us F->ODs K (ds.map D.vw) us F h
 |[],_,q=>by unfold DRs at q;unfold ODs;exact⟨q,hn⟩
 |d::ds,_,q=>by
  unfold DRs at q;obtain⟨v,vs,e,a,r⟩:=q;rw[lj];unfold ODs;exact⟨v,vs,h,h,e,λq=>.inl ⟨hn q,rfl⟩,OD.vw hn a,ODs.vw hn r⟩
theorem DRs.len (h:DRs K ds us H):ds.length=us.length:=Paired.length (DRs.prs.mp h)
theorem DRs.get (h:DRs K ds us H)(i:Nat):(ds[i]?=uO/\us[i]?=uO)\/∃d v,ds[i]?=uN d/\us[i]?=uN v/\DR K d v H:=Prs.get (T:=tyD K) (DRs.prs.mp h) i
theorem DRs.app {es:List D}{ws:List V}(a:DRs K ds us H)(b:DRs K es ws H):DRs K (ds++es) (us++ws) H:=DRs.prs.mpr (Prs.append (T:=tyD K) (DRs.prs.mp a) (DRs.prs.mp b))
theorem DRs.atI (h:DRs K ds us H){i:Int}{d:D}(e:atI ds i=uN d):∃v,L2.atI us i=uN v/\DR K d v H:=znm_ (T:=tyD K) (DRs.prs.mp h) e
theorem gotV (q:After K (.ok d.vw) E F H (OwnK (owD K) H Q))(hs:Same F H)(r:DR K d v F):Q v H:=
 q.ok hs v (λ_=>uO) (λp z=>absurd rfl z) (λp=>.inr rfl) (λp o z=>by cases z) (OD.vw (λ_=>rfl) r)
theorem got (q:After K (.ok d) E F H (OwnK (owD K) H Q))(hs:Same F H)(r:DR K d v F)(i:d.imm=uP:=by rfl):Q v H:=
 q.ok hs v (λ_=>uO) (λp z=>absurd rfl z) (λp=>.inr rfl) (λp o z=>by cases z) (OD.of_imm (λ_=>rfl) i r)
theorem gotI {i:Int}(q:After K (.ok (.int i)) E F H (OwnK (owD K) H Q))(hs:Same F H):Q (.int i) H:=got q hs (by unfold DR;rfl)
theorem gotS {i:List Nat}(q:After K (.ok (.str i)) E F H (OwnK (owD K) H Q))(hs:Same F H):Q (tx i) H:=got q hs (by unfold DR;rfl)
theorem gotB {i:Bool}(q:After K (.ok (.bl i)) E F H (OwnK (owD K) H Q))(hs:Same F H):Q (.bl i) H:=got q hs (by unfold DR;rfl)
theorem gotN (q:After K (.ok .non) E F H (OwnK (owD K) H Q))(hs:Same F H):Q .non H:=got q hs (by unfold DR;rfl)
theorem no_r {h:Hp}(z:Hp)(hz:∀p,z p=uO):Jn h z h:=λp=>.inr ⟨hz p,rfl⟩
theorem newL (q:After K (.ok (.nd .lst (ds.map .vw))) E F H (OwnK (owD K) H Q))(hs:Same F H)(hp:H p=uO)(r:DRs K ds us F):Q (.ref p) (upd H p (.lst us)):=by
 refine q F _ (.heap hs (zP_ hp _)) (.ref p) (one p (.lst us)) (λb z=>?_) (λb=>?_) (λb o z=>?_) ?_
 ·rw[zb_]at z;split at z
  ·rename_i e;rw[e];exact hp
  ·exact absurd rfl z
 ·rw[zb_];split
  ·rename_i e;rw[e];exact .inl (hs.free hp)
  ·exact .inr rfl
 ·rw[zb_]at z;split at z
  ·rename_i e;rw[e];cases z;exact ze_
  ·cases z
 ·show OD K _ _ _ _
  unfold OD;exact⟨p,us,_,λ_=>uO,rfl,rfl,no_r _ λ_=>rfl,ODs.vw (λ_=>rfl) r⟩
def addD (a b:D):Mo D:=match a.un,b.un with
 |.int i,.int j=>.ok (.int (i+j))
 |.str x,.str y=>.lim (x.length+y.length) (.ok (.str (x++y)))
 |.nd .lst xs,.nd .lst ys=>.lim (xs.length+ys.length) (.ok (.nd .lst ((xs++ys).map .vw)))
 |_,_=>.no
abbrev Op2D (K:lY)(m:R2)(E:XK)(g:D->D->Mo D):Prop:=Op2O K m E (tyD K) (tyD K) g (owD K)
theorem zqN_:Op2D K mAdd E addD:=by
 intro a b x y F H Q hs ha hb q;have ha:=DR.un ha;have hb:=DR.un hb;unfold addD at q;split at q
 ·rename_i e1 e2;rw[e1]at ha;rw[e2]at hb;cases ha.int;cases hb.int;exact gotI q hs
 ·rename_i e1 e2;rw[e1]at ha;rw[e2]at hb;cases ha.str;cases hb.str
  obtain⟨c,q⟩:=q.lim;exact⟨c,gotS q hs⟩
 ·rename_i e1 e2;rw[e1]at ha;rw[e2]at hb
  obtain⟨p,us,rfl,n,r⟩:=ha.nd;obtain⟨p2,ws,rfl,n2,r2⟩:=hb.nd;obtain⟨c,q⟩:=q.lim;exact⟨us,ws,hs _ _ n,hs _ _ n2,by rw[<- r.len,<- r2.len];exact c,λl hl=>newL q hs hl (r.app r2)⟩
 ·exact q.elim
def i2D (g:Int->Int->Mo D)(a b:D):Mo D:=match a.un,b.un with |.int i,.int j=>g i j |_,_=>.no
theorem zm6_ {g:Int->Int->V}{f:Int->Int->D}(h:∀i j F,DR K (f i j) (g i j) F)(im:∀i j,(f i j).imm=uP):Op2D K (mI0 g) E (i2D λi j=>.ok (f i j)):=by
 intro a b x y F H Q hs ha hb q;have ha:=DR.un ha;have hb:=DR.un hb;unfold i2D at q;split at q
 ·rename_i e1 e2;rw[e1]at ha;rw[e2]at hb;cases ha.int;cases hb.int;exact got q hs (h _ _ _) (im _ _)
 ·exact q.elim
theorem od_i {C:Int->Int->Prop}[∀i j,Decidable (C i j)]{g:Int->Int->V}{f:Int->Int->D}(h:∀i j F,DR K (f i j) (g i j) F)(im:∀i j,(f i j).imm=uP):Op2D K (mI C g) E (i2D λi j=>.grd (C i j) (.ok (f i j))):=by
 intro a b x y F H Q hs ha hb q;have ha:=DR.un ha;have hb:=DR.un hb;unfold i2D at q;split at q
 ·rename_i e1 e2;rw[e1]at ha;rw[e2]at hb;cases ha.int;cases hb.int
  obtain⟨c,q⟩:=q.grd;exact⟨c,got q hs (h _ _ _) (im _ _)⟩
 ·exact q.elim
abbrev subD:=i2D λi j=>.ok (.int (i-j))
abbrev modD:=i2D λi j=>.grd (0<j) (.ok (.int (i % j)))
abbrev divD:=i2D λi j=>.grd (CDivG i j) (.ok (.int (i / j)))
abbrev powD:=i2D λi j=>.grd (CPow i j) (.ok (.int (i ^ j.toNat)))
theorem zn9_:Op2D K mSub E subD:=zm6_ (λ_ _ _=>by unfold DR;rfl) λ_ _=>rfl
theorem zoO_:Op2D K mMod E modD:=od_i (C:=λ_ j=>0<j) (λ_ _ _=>by unfold DR;rfl) λ_ _=>rfl
theorem zoc_:Op2D K mDivG E divD:=od_i (λ_ _ _=>by unfold DR;rfl) λ_ _=>rfl
theorem zoA_:Op2D K mPow E powD:=od_i (λ_ _ _=>by unfold DR;rfl) λ_ _=>rfl
abbrev leD:=i2D λi j=>.ok (.bl (decide (i<=j)))
abbrev gtD:=i2D λi j=>.ok (.bl (decide (j<i)))
abbrev geD:=i2D λi j=>.ok (.bl (decide (j<=i)))
abbrev ltD:=i2D λi j=>.ok (.bl (decide (i<j)))
theorem od_le:Op2D K mLe E leD:=zm6_ (λ_ _ _=>by unfold DR;rfl) λ_ _=>rfl
theorem od_gt:Op2D K mGt E gtD:=zm6_ (λ_ _ _=>by unfold DR;rfl) λ_ _=>rfl
theorem od_ge:Op2D K mGe E geD:=zm6_ (λ_ _ _=>by unfold DR;rfl) λ_ _=>rfl
theorem od_lt:Op2D K mLt E ltD:=zm6_ (λ_ _ _=>by unfold DR;rfl) λ_ _=>rfl
def mulD (a b:D):Mo D:=match a.un,b.un with
 |.int i,.int j=>.grd (IntMulOk i j) (.ok (.int (i*j)))
 |.str x,.int n=>.grd (CRep x.length n) (.ok (.str (repL x n)))
 |.nd .lst xs,.int n=>.grd (CRep xs.length n) (.ok (.nd .lst ((repL xs n).map .vw)))
 |_,_=>.no
theorem DRs.rep (r:DRs K ds us H)(n:Int):DRs K (repL ds n) (repL us n) H:=DRs.prs.mpr (zlf_ (T:=tyD K) (DRs.prs.mp r) n)
theorem DRs.cut (r:DRs K ds us H)(lo hi:Option Int):DRs K (cutG ds lo hi) (cutV us lo hi) H:=DRs.prs.mpr (zmg_ (T:=tyD K) (DRs.prs.mp r) lo hi)
theorem zqp_:Op2D K mMulX E mulD:=by
 intro a b x y F H Q hs ha hb q;have ha:=DR.un ha;have hb:=DR.un hb;unfold mulD at q;split at q
 ·rename_i e1 e2;rw[e1]at ha;rw[e2]at hb;cases ha.int;cases hb.int
  obtain⟨c,q⟩:=q.grd;exact⟨c,gotI q hs⟩
 ·rename_i e1 e2;rw[e1]at ha;rw[e2]at hb;cases ha.str;cases hb.int
  obtain⟨c,q⟩:=q.grd;exact⟨c,gotS q hs⟩
 ·rename_i e1 e2;rw[e1]at ha;rw[e2]at hb
  obtain⟨p,us,rfl,n,r⟩:=ha.nd;cases hb.int;obtain⟨c,q⟩:=q.grd;exact⟨us,hs _ _ n,by rw[<- r.len];exact c,λl hl=>newL q hs hl (r.rep _)⟩
 ·exact q.elim
def ixD (a b:D):Mo D:=match a.un,b.un with
 |.nd .lst xs,.int i=>.opt ((atI xs i).map .vw)
 |.nd .tup xs,.int i=>.opt ((atI xs i).map .vw)
 |.nd .scr xs,.int i=>.opt ((atI xs i).map .vw)
 |.nd .ktup xs,.int i=>.opt ((atI xs i).map .vw)
 |.str l,.int i=>.lim l.length (.opt ((atI l i).map λc=>.str [c]))
 |_,_=>.no
theorem zh8_ {ds:List D}{i:Int}(hs:Same F H)(n:SqL K H p us\/SqT K H p us)(r:DRs K ds us F)(q:After K (.opt ((atI ds i).map .vw)) E F H (OwnK (owD K) H Q)):mIx K (.ref p) (.int i) H Q:=by
 obtain⟨d,e,q⟩:=q.opt;obtain⟨d',e',rfl⟩:=lq.mp e;obtain⟨v,e2,rv⟩:=r.atI e';refine⟨us,n,?_⟩;rw[e2];exact gotV q hs rv
theorem od_ix:Op2D K (mIx K) E ixD:=by
 intro a b x y F H Q hs ha hb q;have ha:=DR.un ha;have hb:=DR.un hb;unfold ixD at q;split at q
 ·rename_i e1 e2;rw[e1]at ha;rw[e2]at hb;obtain⟨p,us,rfl,n,r⟩:=ha.nd;cases hb.int;exact zh8_ hs (.inl (.of (hs _ _ n))) r q
 ·rename_i e1 e2;rw[e1]at ha;rw[e2]at hb;obtain⟨p,us,rfl,n,r⟩:=ha.nd;cases hb.int;exact zh8_ hs (.inr (.of (hs _ _ n))) r q
 ·rename_i e1 e2;rw[e1]at ha;rw[e2]at hb;obtain⟨p,us,rfl,n,r⟩:=ha.nd;cases hb.int;exact zh8_ hs (.inl (hs.seq n)) r q
 ·rename_i e1 e2;rw[e1]at ha;rw[e2]at hb;obtain⟨p,us,rfl,n,r⟩:=ha.nd;cases hb.int;exact zh8_ hs (.inr (.inr n)) r q
 ·rename_i l i e1 e2;rw[e1]at ha;rw[e2]at hb;cases ha.str;cases hb.int
  obtain⟨z,q⟩:=q.lim;obtain⟨d,e,q⟩:=q.opt;obtain⟨c,e',rfl⟩:=lq.mp e;refine⟨z,?_⟩;show(match atI l i with |some c=>Q (tx [c]) H |none=>False)
  rw[e'];exact gotS q hs
 ·exact q.elim
def keyD (d:D):Option Key:=match d.un with
 |.int i=>uN (.inl i)
 |.str l=>uN (.inr ⟨l.toArray⟩)
 |_=>uO
theorem zkS_ {k:Key}(e:keyD d=uN k)(h:DR K d v H):keyV v=uN k/\v=kV k:=by
 have h:=DR.un h;unfold keyD at e;cases hd:d.un with
 |int i=>rw[hd]at e h;cases e;cases h.int;exact⟨rfl,rfl⟩
 |str l=>rw[hd]at e h;cases e;cases h.str;exact⟨rfl,rfl⟩
 |_=>rw[hd]at e;cases e
def valD (ks:List Key)(ds:List D)(k:Key):Option D:=((ks.zip ds).find? λq=>decide (q.1=k)).map (·.2)
theorem zoJ_ {k:Key}:∀{ks:List Key}{ds:List D}{us:List V},DRs K ds us H->(valD ks ds k=uO/\valV (ks.zip us) k=uO)\/∃d v,valD ks ds k=uN d/\valV (ks.zip us) k=uN v/\DR K d v H
 |[],ds,us,h=>.inl ⟨rfl,rfl⟩
 |k0::ks,[],us,h=>by unfold DRs at h;subst h;exact .inl ⟨rfl,rfl⟩
 |k0::ks,d::ds,us,h=>by
  unfold DRs at h;obtain⟨v,vs,rfl,a,r⟩:=h;by_cases e:k0=k
  ·subst e
   exact .inr ⟨d,v,by simp[valD],by simp[valV],a⟩
  ·rcases zoJ_ (k:=k) (ks:=ks) r with⟨h1,h2⟩|⟨d',v',h1,h2,h3⟩
   ·exact .inl ⟨by unfold valD at h1 ⊢;rw[l0,nM (by simpa using e)];exact h1,by unfold valV at h2 ⊢;rw[l0,nM (by simpa using e)];exact h2⟩
   ·exact .inr ⟨d',v',by unfold valD at h1 ⊢;rw[l0,nM (by simpa using e)];exact h1,by unfold valV at h2 ⊢;rw[l0,nM (by simpa using e)];exact h2,h3⟩
def dgetD (a b:D):Mo D:=match a.un,keyD b with
 |.nd (.dct ks) ds,uN k=>.opt ((valD ks ds k).map .vw)
 |_,_=>.no
def dinD (neg:Bool)(b a:D):Mo D:=match a.un,keyD b with
 |.nd (.dct ks) ds,uN k=>.ok (.bl (if neg then !(valD ks ds k).isSome else(valD ks ds k).isSome))
 |_,_=>.no
theorem zdD_ {x y:V}{R:k9->List (Key×V)->Key->Prop}{kvs:List (Key×V)}{k:Key}(hx:x=.ref p)(hy:keyV y=uN k)(h:H p=uN (.dK kvs))(r:R p kvs k):atD x y H R:=by
 subst hx;unfold atD;dsimp only;rw[hy];exact⟨kvs,h,r⟩
section
variable {t t1 t2:TE}{r r1 r2:Mo D}{env:Env}
abbrev EvX (K:lY)(t:TE)(E:XK)(env:Env)(r:Mo D):Prop:=EvO K t E (Lof K env) r (owD K)
abbrev EvV (K:lY)(t:TE)(E:XK)(env:Env)(r:Mo D):Prop:=EvF K t E (Lof K env) r (tyD K)
theorem ex_v (h:EvX K t E env r):EvV K t E env r:=h.fr
theorem ex_op {m:R2}{g:D->D->Mo D}(o:Op2D K m E g)(h1:EvX K t1 E env r1)(h2:EvX K t2 E env r2):EvX K (tOp m t1 t2) E env (r1.bind λa=>r2.bind λb=>g a b):=zoD_ o (ex_v h1) (ex_v h2)
def getE (env:Env)(i:Nat):Mo D:=match env[i]? with |some (uN d)=>.ok d.vw |_=>.no
theorem zlP_ (i:Nat):EvX K (mVar i) E env (getE env i):=by
 intro σ F H Q hL hs q;unfold getE at q;split at q
 ·rename_i d e
  obtain⟨v,ev,rv⟩:=hL i (slot K (uN d)) (by rw[lu,e];rfl)
  unfold mVar;cases z:σ[i]? with
  |none=>rw[z]at ev;cases ev
  |some o=>rw[z]at ev;cases(show o=uN v from ev);exact gotV q hs rv
 ·exact q.elim
theorem ex_c {d:D}{v:V}(h:∀F,DR K d v F)(i:d.imm=uP:=by rfl):EvX K (tC v) E env (.ok d):=λσ F H Q hL hs q=>got q hs (h F) i
def blD (d:D):Mo Bool:=match d.un with |.bl b=>.ok b |_=>.no
theorem zfw_ (h:EvX K t E env r):EvT K (mTest t) E (Lof K env) (r.bind blD):=by
 intro σ F H Q hL hs q;refine ex_v h σ F H _ hL hs (q.bind.imp λa F1 H1 x1 k1 v1 aM=>?_)
 have ha:=DR.un aM;unfold blD at k1;split at k1
 ·rename_i b e;rw[e]at ha;cases ha.bl;exact k1.ok x1.2.1
 ·exact k1.elim
theorem zpc_ (h:EvX K t E env r):EvX K (mNotV t) E env (r.bind λa=>(blD a).bind λb=>.ok (.bl (!b))):=by
 intro σ F H Q hL hs q;refine ex_v h σ F H _ hL hs (q.bind.imp λa F1 H1 x1 k1 v1 aM=>?_)
 have ha:=DR.un aM;unfold blD at k1;split at k1
 ·rename_i b e;rw[e]at ha;cases ha.bl
  exact gotB (k1.imp λa F3 H3 x3 k3=>k3.back x1.2.2.1) x1.2.1
 ·exact k1.elim
def andD (a:D)(r:Mo D):Mo D:=(blD a).bind λb=>if b then r else .ok (.bl uQ)
def orD (a:D)(r:Mo D):Mo D:=(blD a).bind λb=>if b then .ok (.bl uP)else r
theorem zpy_ (h1:EvX K t1 E env r1)(h2:EvX K t2 E env r2):EvX K (mAndV t1 t2) E env (r1.bind λa=>andD a r2):=by
 intro σ F H Q hL hs q;refine ex_v h1 σ F H _ hL hs (q.bind.imp λa F1 H1 x1 k1 v1 aM=>?_)
 have ha:=DR.un aM;unfold andD blD at k1;split at k1
 ·rename_i b e;rw[e]at ha;cases ha.bl
  refine⟨λz=>?_,λz=>?_⟩
  ·subst z;exact h2 σ F1 H1 _ (hL.mono x1.1) x1.2.1 (After.imp (show After K r2 E F1 H1 _ from k1) λa F3 H3 x3 k3=>k3.back x1.2.2.1)
  ·subst z;exact gotB (After.imp (show After K (.ok (D.bl uQ)) E F1 H1 (OwnK (owD K) H Q)from k1) λa F3 H3 x3 k3=>k3.back x1.2.2.1) x1.2.1
 ·exact k1.elim
theorem ex_or (h1:EvX K t1 E env r1)(h2:EvX K t2 E env r2):EvX K (mOrV t1 t2) E env (r1.bind λa=>orD a r2):=by
 intro σ F H Q hL hs q;refine ex_v h1 σ F H _ hL hs (q.bind.imp λa F1 H1 x1 k1 v1 aM=>?_)
 have ha:=DR.un aM;unfold orD blD at k1;split at k1
 ·rename_i b e;rw[e]at ha;cases ha.bl
  refine⟨λz=>?_,λz=>?_⟩
  ·subst z;exact gotB (After.imp (show After K (.ok (D.bl uP)) E F1 H1 (OwnK (owD K) H Q)from k1) λa F3 H3 x3 k3=>k3.back x1.2.2.1) x1.2.1
  ·subst z;exact h2 σ F1 H1 _ (hL.mono x1.1) x1.2.1 (After.imp (show After K r2 E F1 H1 _ from k1) λa F3 H3 x3 k3=>k3.back x1.2.2.1)
 ·exact k1.elim
theorem ex_if {tt:TT}{b:Mo Bool}(ht:EvT K tt E (Lof K env) b)(h1:EvX K t1 E env r1)(h2:EvX K t2 E env r2):EvX K (mIf tt t1 t2) E env (b.bind λc=>if c then r1 else r2):=zow_ ht h1 h2
def negD (a:D):Mo D:=match a.un with |.int i=>.ok (.int (-i))|_=>.no
theorem zoe_ (h:EvX K t E env r):EvX K (mNeg t) E env (r.bind negD):=by
 intro σ F H Q hL hs q;refine ex_v h σ F H _ hL hs (q.bind.imp λa F1 H1 x1 k1 v1 aM=>?_)
 have ha:=DR.un aM;unfold negD at k1;split at k1
 ·rename_i b e;rw[e]at ha;cases ha.int
  exact gotI (k1.imp λa F3 H3 x3 k3=>k3.back x1.2.2.1) x1.2.1
 ·exact k1.elim
end
end
section
variable {K:mB}{E:XK}{F F' h h1 h2 H H':Hp}{d:D}{ds:List D}{v:V}{us:List V}{k:Nd}{p:k9}{Q:VK}{env:Env}{t:TE}{r r1 r2:Mo D}{ta:TA}{ra:Mo (List D)}
def allT (f:D->D->Option Bool):List D->List D->Option Bool
 |a::as,b::bs=>(f a b).bind λx=>(allT f as bs).map λy=>x && y
 |_,_=>uN uP
def D.flat?:D->Option V
 |.non=>uN .non
 |.bl b=>uN (.bl b)
 |.int i=>uN (.int i)
 |.str l=>uN (tx l)
 |_=>uO
noncomputable def sqT:D->Option (Bool×List D)
 |.nd .lst xs=>uN (uP,xs)|.nd .tup xs=>uN (uQ,xs)|_=>uO
def eqS (f:D->D->Option Bool)(a b:D):Option Bool:=match sqT a with
 |none=>(match sqT b with |none=>a.flat?.bind λx=>b.flat?.map λy=>eqV x y |some _=>a.flat?.map λ_=>uQ)
 |some (k,xs)=>(match sqT b with
  |none=>b.flat?.map λ_=>uQ
  |some (k',ys)=>bif k == k' then(bif k then(if xs.length=ys.length then allT f xs ys else uN uQ)else(allT f xs ys).map λb=>b && xs.length == ys.length)else uN uQ)
def eqT:Nat->D->D->Option Bool
 |0,a,b=>a.un.flat?.bind λx=>b.un.flat?.map λy=>eqV x y
 |n+1,a,b=>eqS (eqT n) a.un b.un
theorem zqu_ {k:Bool}{xs:List D}(e:sqT d=uN (k,xs))(h:DR K d v H):∃p us,v=.ref p/\DRs K xs us H/\H p=uN (bif k then .lst us else .tup us):=by
 cases d with
 |nd k ds=>
  obtain⟨p,us,rfl,m,r⟩:=h.nd;cases k with
  |lst=>cases e;exact⟨p,us,rfl,r,m⟩
  |tup=>cases e;exact⟨p,us,rfl,r,m⟩
  |_=>cases e
 |_=>cases e
theorem zdn_ {x:V}(e:d.flat?=uN x)(h:DR K d v H):v=x/\flatV x=uP:=by
 cases d with
 |non=>cases e;exact⟨h.non,rfl⟩
 |bl=>cases e;exact⟨h.bl,rfl⟩
 |int=>cases e;exact⟨h.int,rfl⟩
 |str=>cases e;exact⟨h.str,rfl⟩
 |_=>cases e
theorem zj0_ {f:D->D->Option Bool}:∀{xs ys:List D}{b:Bool},allT f xs ys=uN b->∃e:Nat->Bool,(∀(i:Nat) x y,xs[i]?=uN x->ys[i]?=uN y->f x y=uN (e i))/\b=(mf (min xs.length ys.length)).all e
 |[],_,_,h=>by cases h;exact⟨λ_=>uP,λi x y hx=>by simp at hx,by simp⟩
 |_::_,[],_,h=>by cases h;exact⟨λ_=>uP,λi x y hx hy=>by simp at hy,by simp⟩
 |x::xs,y::ys,b,h=>by
  unfold allT at h;obtain⟨c,hc,h⟩:=lp.mp h;obtain⟨c',aA,rfl⟩:=lq.mp h;obtain⟨e,h1,h2⟩:=zj0_ aA;refine⟨λi=>match i with |0=>c |i+1=>e i,λi u w hu hw=>?_,?_⟩
  ·cases i with
   |zero=>simp at hu hw;subst hu hw;exact hc
   |succ i=>exact h1 i u w (by simpa using hu) (by simpa using hw)
  ·rw[h2,lg,lg,Nat.succ_min_succ,List.range_succ_eq_map,mD,List.all_map];rfl
theorem zqh_:∀{n:Nat}{a b:D}{x y:V}{c:Bool},eqT n a b=uN c->DR K a x H->DR K b y H->EqD K H n x y c:=by
 intro n;induction n with
 |zero=>
  intro a b x y c h ha hb;unfold eqT at h;obtain⟨x',hx,h⟩:=lp.mp h;obtain⟨y',hy,rfl⟩:=lq.mp h;obtain⟨rfl,f1⟩:=zdn_ hx (DR.un ha);obtain⟨rfl,f2⟩:=zdn_ hy (DR.un hb);exact .flat f1 f2
 |succ n ih=>
  intro a b x y c h ha hb;have ha:=DR.un ha;have hb:=DR.un hb;have sub:∀{xs ys:List D}{us ws:List V}{e:Nat->Bool},DRs K xs us H->DRs K ys ws H->(∀(i:Nat) x y,xs[i]?=uN x->ys[i]?=uN y->eqT n x y=uN (e i))->∀(i:Nat) u w,us[i]?=uN u->ws[i]?=uN w->EqD K H n u w (e i):=λr r2 g i u w hu hw=>by
   rcases r.get i with⟨_,z⟩|⟨d,v,e1,e2,e3⟩
   ·rw[z]at hu;cases hu
   rcases r2.get i with⟨_,z⟩|⟨d',v',g1,g2,g3⟩
   ·rw[z]at hw;cases hw
   rw[e2]at hu;rw[g2]at hw;cases hu;cases hw;exact ih (g i _ _ e1 g1) e3 g3
  have fl:∀{a b:D},DR K a x H->DR K b y H->(a.flat?.bind λx=>b.flat?.map λy=>eqV x y)=uN c->EqD K H (n+1) x y c:=λha hb h=>by
   obtain⟨x',hx,h⟩:=lp.mp h;obtain⟨y',hy,rfl⟩:=lq.mp h;obtain⟨rfl,f1⟩:=zdn_ hx ha;obtain⟨rfl,f2⟩:=zdn_ hy hb;exact(EqD.flat f1 f2).le (me _)
  have h:eqS (eqT n) a.un b.un=uN c:=h;unfold eqS at h;cases ea:sqT a.un with
  |none=>
   rw[ea]at h;cases eb:sqT b.un with
   |none=>rw[eb]at h;exact fl ha hb h
   |some q=>
    rw[eb]at h;obtain⟨y',hy,rfl⟩:=lq.mp h;obtain⟨rfl,f2⟩:=zdn_ hy ha;obtain⟨p,us,rfl,r,m⟩:=zqu_ (k:=q.1) (xs:=q.2) eb hb;cases z:q.1<;>rw[z]at m
    ·exact .ft (.of m) f2
    ·exact .fl (.of m) f2
  |some q=>
   rw[ea]at h;obtain⟨p,us,rfl,r1,n1⟩:=zqu_ (k:=q.1) (xs:=q.2) ea ha;obtain⟨k,xs⟩:=q;cases eb:sqT b.un with
   |none=>
    rw[eb]at h;obtain⟨y',hy,rfl⟩:=lq.mp h;obtain⟨rfl,f2⟩:=zdn_ hy hb;cases k
    ·exact .tf (.of n1) f2
    ·exact .lf (.of n1) f2
   |some q=>
    rw[eb]at h;obtain⟨q',ws,rfl,r2,n2⟩:=zqu_ (k:=q.1) (xs:=q.2) eb hb;obtain⟨k',ys⟩:=q;cases k<;>cases k'
    ·obtain⟨c',hc,rfl⟩:=lq.mp (show(allT (eqT n) xs ys).map _=_ from h)
     obtain⟨e,g1,rfl⟩:=zj0_ hc;rw[r1.len,r2.len];exact .tup e (.of n1) (.of n2) (sub r1 r2 g1)
    ·cases h;exact .tl (.of n1) (.of n2)
    ·cases h;exact .lt (.of n1) (.of n2)
    ·have h:(if xs.length=ys.length then allT (eqT n) xs ys else uN uQ)=uN c:=h
     split at h
     ·rename_i hl
      obtain⟨e,g1,rfl⟩:=zj0_ h;rw[<- hl,ox,r1.len];exact .lst e (.of n1) (.of n2) (by rw[<- r1.len,<- r2.len,hl]) (sub r1 r2 g1)
     ·rename_i hl;cases h;exact .lstN (.of n1) (.of n2) (by rw[<- r1.len,<- r2.len];exact hl)
def eqD (neg:Bool)(a b:D):Mo D:=(Mo.opt (eqT 12 a b)).bind λc=>.ok (.bl (if neg then !c else c))
theorem od_eq:Op2D K (mEqA K) E (eqD uQ):=by
 intro a b x y F H Q hs ha hb q;unfold eqD at q;cases e:eqT 12 a b with
 |none=>rw[e]at q;exact q.elim
 |some c=>rw[e]at q;exact⟨12,c,by decide,zqh_ e ((tyD K).mono hs ha) ((tyD K).mono hs hb),gotB q hs⟩
theorem od_ne:Op2D K (mNeA K) E (eqD uP):=by
 intro a b x y F H Q hs ha hb q;unfold eqD at q;cases e:eqT 12 a b with
 |none=>rw[e]at q;exact q.elim
 |some c=>rw[e]at q;exact⟨12,c,by decide,zqh_ e ((tyD K).mono hs ha) ((tyD K).mono hs hb),gotB q hs⟩
theorem un_fz:∀(d:D) {x:D},d.un≠.fz x
 |.fz d,x=>by unfold D.un;exact un_fz d
 |.non,_=>λz=>by cases z
 |.bl _,_=>λz=>by cases z
 |.int _,_=>λz=>by cases z
 |.str _,_=>λz=>by cases z
 |.nd _ _,_=>λz=>by cases z
 |.pin _,_=>λz=>by cases z
 |.gone,_=>λz=>by cases z
def isD (neg:Bool)(a b:D):Mo D:=match b with
 |.non=>(match a.un with |.pin _=>.no |.gone=>.no |.non=>.ok (.bl (!neg))|_=>.ok (.bl neg))
 |_=>.no
theorem zk8_ (ha:DR K d v H){neg:Bool}{b:D}{c:Mo Unit}(hc:isD neg d .non=.ok b):b=.bl (if neg then !decide (v=.non)else decide (v=.non)):=by
 have ha:=DR.un ha;unfold isD at hc;cases z:d.un with
 |non=>rw[z]at ha hc;cases ha.non;cases hc;cases neg<;>rfl
 |bl=>rw[z]at ha hc;cases ha.bl;cases hc;cases neg<;>rfl
 |int=>rw[z]at ha hc;cases ha.int;cases hc;cases neg<;>rfl
 |str=>rw[z]at ha hc;cases ha.str;cases hc;cases neg<;>rfl
 |nd=>rw[z]at ha hc;obtain⟨_,_,rfl,_⟩:=ha.nd;cases hc;cases neg<;>rfl
 |fz=>exact absurd z (un_fz d)
 |pin=>rw[z]at hc;cases hc
 |gone=>rw[z]at hc;cases hc
theorem ziF_ {neg:Bool}{a b:D}{k:D->Hp->Hp->Prop}(q:After K (isD neg a b) E F H k):b=.non/\∃c,isD neg a .non=.ok c/\After K (.ok c) E F H k:=by
 unfold isD at q ⊢;split at q
 ·refine⟨rfl,?_⟩
  split at q
  ·exact q.elim
  ·exact q.elim
  ·exact⟨_,rfl,q⟩
  ·exact⟨_,rfl,q⟩
 ·exact q.elim
theorem od_is:Op2D K mIs E (isD uQ):=by
 intro a b x y F H Q hs ha hb q;obtain⟨rfl,c,e,q⟩:=ziF_ q;cases DR.non (K:=K) (H:=F) hb;cases zk8_ (c:=.no) ha e;exact gotB q hs
theorem zpx_:Op2D K mIsNot E (isD uP):=by
 intro a b x y F H Q hs ha hb q;obtain⟨rfl,c,e,q⟩:=ziF_ q;cases DR.non (K:=K) (H:=F) hb;cases zk8_ (c:=.no) ha e;exact gotB q hs
def flats:List D->Option (List V)
 |[]=>uN []
 |d::ds=>d.un.flat?.bind λx=>(flats ds).map λxs=>x::xs
theorem ziJ_:∀{ds:List D}{xs us:List V},flats ds=uN xs->DRs K ds us H->us=xs/\xs.all flatV=uP
 |[],_,_,e,h=>by cases e;unfold DRs at h;exact⟨h,rfl⟩
 |d::ds,_,_,e,h=>by
  unfold flats at e;unfold DRs at h;obtain⟨x,ex,e⟩:=lp.mp e;obtain⟨xs,exs,rfl⟩:=lq.mp e;obtain⟨v,vs,rfl,a,r⟩:=h;obtain⟨rfl,f1⟩:=zdn_ ex (DR.un a);obtain⟨rfl,f2⟩:=ziJ_ exs r;exact⟨rfl,by rw[mD,f1,f2];rfl⟩
def inSeq (neg:Bool)(a:D)(ys:List D):Mo D:=(Mo.opt (a.un.flat?.bind λx=>(flats ys).map λzs=>inV x zs)).bind λc=>.ok (.bl (if neg then !c else c))
def inD (neg:Bool)(a b:D):Mo D:=match b.un with
 |.str t=>(match a.un with |.str l=>.ok (.bl (if neg then !inS l t else inS l t))|_=>.no)
 |.nd .lst ys=>inSeq neg a ys
 |.nd .tup ys=>inSeq neg a ys
 |.nd .ktup ys=>inSeq neg a ys
 |_=>.no
theorem zj3_ {neg:Bool}{a:D}{ys:List D}{x:V}(hs:Same F H)(ha:DR K a x F)(n:SqL K H p us\/SqT K H p us)(r:DRs K ys us F)(q:After K (inSeq neg a ys) E F H (OwnK (owD K) H Q)):mIn K neg x (.ref p) H Q:=by
 unfold inSeq at q;cases e:(a.un.flat?.bind λx=>(flats ys).map λzs=>inV x zs)with
 |none=>rw[e]at q;exact q.elim
 |some c=>
  rw[e]at q;obtain⟨x',ex,e⟩:=lp.mp e;obtain⟨zs,ez,rfl⟩:=lq.mp e;obtain⟨rfl,f1⟩:=zdn_ ex (DR.un ha);obtain⟨rfl,f2⟩:=ziJ_ ez r;exact⟨us,n,f1,f2,gotB q hs⟩
theorem od_in {neg:Bool}:Op2D K (mIn K neg) E (inD neg):=by
 intro a b x y F H Q hs ha hb q;have hb:=DR.un hb;unfold inD at q;split at q
 ·rename_i l e;rw[e]at hb;cases hb.str
  have ha:=DR.un ha;split at q
  ·rename_i e;rw[e]at ha;cases ha.str;exact gotB q hs
  ·exact q.elim
 ·rename_i e;rw[e]at hb;obtain⟨p,us,rfl,n,r⟩:=hb.nd;exact zj3_ hs ha (.inl (.of (hs _ _ n))) r q
 ·rename_i e;rw[e]at hb;obtain⟨p,us,rfl,n,r⟩:=hb.nd;exact zj3_ hs ha (.inr (.of (hs _ _ n))) r q
 ·rename_i e;rw[e]at hb;obtain⟨p,us,rfl,n,r⟩:=hb.nd;exact zj3_ hs ha (.inr (.inr n)) r q
 ·exact q.elim
def intD (d:D):Mo Int:=match d.un with |.int i=>.ok i |_=>.no
theorem ep_x (hx:EvX K t E env r):EvP K (mPart t) E (Lof K env) (r.bind λd=>(intD d).bind λi=>.ok (uN i)):=by
 intro σ F H Q hL hs q;refine ex_v hx σ F H _ hL hs (q.bind.imp λa F1 H1 x1 k1 v1 aM=>?_)
 have ha:=DR.un aM;unfold intD at k1;split at k1
 ·rename_i i e;rw[e]at ha;cases ha.int;exact k1.ok x1.2.1
 ·exact k1.elim
def slD (a:D)(lo hi:Option Int):Mo D:=match a.un with
 |.str l=>.lim l.length (.ok (.str (cutG l lo hi)))
 |.nd .lst xs=>.ok (.nd .lst ((cutG xs lo hi).map .vw))
 |.nd .scr xs=>.ok (.nd .lst ((cutG xs lo hi).map .vw))
 |_=>.no
def OwnKs (K:lY)(H:Hp)(Q:List V->Hp->Prop)(ds:List D)(F' H':Hp):Prop:=∀vs h,(∀p,h p≠uO->H p=uO)->Dj F' h->Same h H'->ODs K ds vs F' h->Q vs H'
def EvAs (K:lY)(t:TA)(E:XK)(env:Env)(r:Mo (List D)):Prop:=∀σ F H (Q:List V->Hp->Prop),HoldF (Lof K env) σ F->Same F H->After K r E F H (OwnKs K H Q)->t σ H Q
abbrev csD (K:lY):Cs (List D):=⟨DRs K,λg h=>h.mono g⟩
theorem zgj_:EvAs K tNil E env (.ok []):=λσ F H Q hL hs q=>q.ok hs [] (λ_=>uO) (λp z=>absurd rfl z) (λp=>.inr rfl) (λp o z=>by cases z) (by unfold ODs;exact⟨rfl,λ_=>rfl⟩)
theorem zlm_ (x:Ext F H F' H')(d:Dj F h)(s:Same h H):Dj F' h:=λp=>by
 cases z:h p with
 |none=>exact .inr rfl
 |some o=>
  left;rcases d p with y |y
  ·cases w:F' p with
   |none=>rfl
   |some o'=>have:=x.2.2.2 p y (by rw[w];exact sN _);rw[s _ _ z]at this;cases this
  ·rw[y]at z;cases z
theorem zaM_ (h1:EvX K t E env r)(h2:EvAs K ta E env ra):EvAs K (tCons t ta) E env (r.bind λa=>ra.bind λas=>.ok (a::as)):=by
 intro σ F H Q hL hs q;refine h1 σ F H _ hL hs (q.bind.imp λa F1 H1 x1 k1 v k cu dE s1 o1=>?_)
 refine h2 σ F1 H1 _ (hL.mono x1.1) x1.2.1 (k1.bind.imp λas F2 H2 x2 k2 vs k' fk hU s2 o2=>?_)
 have d1:Dj k k':=λp=>by
  cases z:k p with
  |none=>exact .inl rfl
  |some o=>
   right;cases y:k' p with
   |none=>rfl
   |some o'=>have:=fk p (by rw[y];exact sN _);rw[s1 _ _ z]at this;cases this
 refine k2.ok x2.2.1 (v::vs) (un k k') (λp z=>?_) (λp=>?_) (λp o z=>?_) ?_
 ·unfold un at z
  cases y:k p with
  |some o=>exact cu p (by rw[y];exact sN _)
  |none=>rw[y]at z;exact x1.2.2.1.free (fk p z)
 ·unfold un
  cases y:k p with
  |some o=>
   rcases zlm_ x2 dE s1 p with w |w
   ·exact .inl w
   ·rw[y]at w;cases w
  |none=>exact hU p
 ·unfold un at z
  cases y:k p with
  |some o'=>rw[y]at z;cases z;exact x2.2.2.1 _ _ (s1 _ _ y)
  |none=>rw[y]at z;exact s2 _ _ z
 ·unfold ODs
  exact⟨v,vs,k,k',rfl,z6_ d1,o1.mono x2.1,o2⟩
theorem zg3_ (h:EvAs K ta E env ra):EvA K ta E (Lof K env) ra (csD K):=by
 intro σ F H Q hL hs q;refine h σ F H Q hL hs ?_;cases ra with
 |ok a=>
  intro F' H' x vs h' fresh d s o;refine q (un F' h') H' ⟨x.1.trans zX_,λp o e=>?_,x.2.2.1,λp a b=>?_⟩ vs (OD.view.go zX_ (zd6_ d) o)
  ·unfold un at e
   cases z:F' p with
   |some w=>rw[z]at e;cases e;exact x.2.1 _ _ z
   |none=>rw[z]at e;exact s _ _ e
  ·unfold un at b
   cases z:F' p with
   |some w=>exact x.2.2.2 p a (by rw[z];exact sN _)
   |none=>rw[z]at b;exact fresh p b
 |ex c=>exact q
 |no=>exact q
theorem ODs.len:∀{ds:List D}{us:List V}{h:Hp},ODs K ds us F h->ds.length=us.length
 |[],_,_,q=>by unfold ODs at q;rw[q.1];rfl
 |d::ds,_,_,q=>by unfold ODs at q;obtain⟨v,vs,h1,h2,rfl,j,a,r⟩:=q;rw[lg,lg,ODs.len r]
theorem zor_ (h:EvAs K ta E env ra):EvX K (tTup ta) E env (ra.bind λds=>.lim ds.length (.ok (.nd .tup ds))):=by
 intro σ F H Q hL hs q;refine h σ F H _ hL hs (q.bind.imp λds F1 H1 x1 k1 vs k cu dE s1 o1=>?_)
 obtain⟨c,k1⟩:=k1.lim;rw[ODs.len o1]at c;refine⟨c,λp hp=>?_⟩
 have nk:k p=uO:=by
  cases z:k p with
  |none=>rfl
  |some o=>rw[s1 _ _ z]at hp;cases hp
 have y:=Ext.new x1.2.1 (o:=.tup vs) hp;refine k1 _ _ y (.ref p) k cu (zlm_ y dE s1) (s1.trans (zP_ hp _)) ?_;show OD K _ _ _ _
 unfold OD;exact⟨p,vs,λ_=>uO,k,rfl,⟨ze_,λ_=>rfl⟩,λq=>.inl ⟨rfl,rfl⟩,OD.mono.go y.1 o1⟩
theorem zog_ (h:EvAs K ta E env ra):EvX K (tLst ta) E env (ra.bind λds=>.lim ds.length (.ok (.nd .lst ds))):=by
 intro σ F H Q hL hs q;refine h σ F H _ hL hs (q.bind.imp λds F1 H1 x1 k1 vs k cu dE s1 o1=>?_)
 obtain⟨c,k1⟩:=k1.lim;rw[ODs.len o1]at c;refine⟨c,λp hp=>?_⟩
 have nk:k p=uO:=by
  cases z:k p with
  |none=>rfl
  |some o=>rw[s1 _ _ z]at hp;cases hp
 have d1:Dj (one p (.lst vs)) k:=λq=>by
  rw[zb_];split
  ·rename_i e;rw[e];exact .inr nk
  ·exact .inl rfl
 refine k1 F1 _ (.heap x1.2.1 (zP_ hp _)) (.ref p) (un (one p (.lst vs)) k) (λq z=>?_) (λq=>?_) (λq o z=>?_) ?_
 ·unfold un at z;rw[zb_]at z
  by_cases e:q=p
  ·subst e;exact x1.2.2.1.free hp
  ·rw[if_neg e]at z;exact cu q z
 ·unfold un;rw[zb_]
  by_cases e:q=p
  ·subst e;exact .inl (x1.2.1.free hp)
  ·rw[if_neg e];exact dE q
 ·unfold un at z;rw[zb_]at z
  by_cases e:q=p
  ·subst e;rw[if_pos rfl]at z;cases z;exact ze_
  ·rw[if_neg e]at z;rw[zc_ e];exact s1 _ _ z
 ·show OD K _ _ _ _
  unfold OD;exact⟨p,vs,_,k,rfl,rfl,z6_ d1,o1⟩
abbrev BlD (K:lY)(m:List V->Hp->VK->Prop)(E:XK)(g:List D->Mo D):Prop:=BlO K m E (csD K) g (owD K)
theorem ex_cb {m:List V->Hp->VK->Prop}{g:List D->Mo D}(o:BlD K m E g)(h:EvAs K ta E env ra):EvX K (tCB m ta) E env (ra.bind g):=zoF_ o (zg3_ h)
theorem DRs.one (h:DRs K [d] us H):∃v,us=[v]/\DR K d v H:=by
 unfold DRs at h;obtain⟨v,vs,rfl,a,r⟩:=h;unfold DRs at r;subst r;exact⟨v,rfl,a⟩
theorem DRs.two {d':D}(h:DRs K [d,d'] us H):∃v v',us=[v,v']/\DR K d v H/\DR K d' v' H:=by
 unfold DRs at h;obtain⟨v,vs,rfl,a,r⟩:=h;obtain⟨v',rfl,b⟩:=DRs.one r;exact⟨v,v',rfl,a,b⟩
def on1 (f:D->Mo D)(ds:List D):Mo D:=match ds with |[d]=>f d.un |_=>.no
def on2 (f:D->D->Mo D)(ds:List D):Mo D:=match ds with |[d,e]=>f d.un e.un |_=>.no
theorem zeS_ {m:List V->Hp->VK->Prop}{f:D->Mo D}(h:∀d v F H (Q:VK),Same F H->DR K d v F->After K (f d) E F H (OwnK (owD K) H Q)->m [v] H Q):BlD K m E (on1 f):=by
 intro ds vs F H Q hs hd q;unfold on1 at q;split at q
 ·obtain⟨v,rfl,a⟩:=DRs.one hd;exact h _ _ F H Q hs (DR.un a) q
 ·exact q.elim
theorem zo9_ {m:List V->Hp->VK->Prop}{f:D->D->Mo D}(h:∀d e v w F H (Q:VK),Same F H->DR K d v F->DR K e w F->After K (f d e) E F H (OwnK (owD K) H Q)->m [v,w] H Q):BlD K m E (on2 f):=by
 intro ds vs F H Q hs hd q;unfold on2 at q;split at q
 ·obtain⟨v,w,rfl,a,b⟩:=DRs.two hd;exact h _ _ _ _ F H Q hs (DR.un a) (DR.un b) q
 ·exact q.elim
def lenD:List D->Mo D:=on1 λd=>match d with
 |.str l=>.lim l.length (.ok (.int l.length))
 |.nd .lst xs=>.ok (.int xs.length)
 |.nd .tup xs=>.ok (.int xs.length)
 |.nd .scr xs=>.ok (.int xs.length)
 |.nd .ktup xs=>.ok (.int xs.length)
 |_=>.no
theorem zoW_:BlD K (mLen K) E lenD:=zeS_ λd v F H Q hs hd q=>by
 split at q
 ·cases hd.str;obtain⟨c,q⟩:=q.lim;exact⟨c,gotI q hs⟩
 ·obtain⟨p,us,rfl,n,r⟩:=hd.nd;exact⟨us,.inl (.of (hs _ _ n)),by rw[<- r.len];exact gotI q hs⟩
 ·obtain⟨p,us,rfl,n,r⟩:=hd.nd;exact⟨us,.inr (.of (hs _ _ n)),by rw[<- r.len];exact gotI q hs⟩
 ·obtain⟨p,us,rfl,n,r⟩:=hd.nd;exact⟨us,.inl (hs.seq n),by rw[<- r.len];exact gotI q hs⟩
 ·obtain⟨p,us,rfl,n,r⟩:=hd.nd;exact⟨us,.inr (.inr n),by rw[<- r.len];exact gotI q hs⟩
 ·exact q.elim
def dlenD:List D->Mo D:=on1 λd=>match d with |.nd (.dct ks) xs=>.ok (.int xs.length)|_=>.no
theorem zlb_:BlD K mLenD E dlenD:=zeS_ λd v F H Q hs hd q=>by
 split at q
 ·rename_i ks xs
  obtain⟨p,us,rfl,n,r⟩:=hd.nd;refine⟨_,hs _ _ n.1,?_⟩;rw[show(ks.zip us).length=xs.length from by rw[mF,n.2.1,ox,r.len]]
  exact gotI q hs
 ·exact q.elim
def minD:List D->Mo D:=on2 λa b=>match a,b with |.int i,.int j=>.ok (.int (min i j))|_,_=>.no
theorem zqk_:BlD K (mTwo min) E minD:=zo9_ λd e v w F H Q hs hd he q=>by
 split at q
 ·cases hd.int;cases he.int;exact gotI q hs
 ·exact q.elim
def strD:List D->Mo D:=on1 λd=>match d with |.int i=>.grd (i.natAbs.log2<1920) (.ok (.str (strI i)))|_=>.no
theorem zoL_:BlD K mStr E strD:=zeS_ λd v F H Q hs hd q=>by
 split at q
 ·cases hd.int;obtain⟨c,q⟩:=q.grd;exact⟨c,gotS q hs⟩
 ·exact q.elim
abbrev MeD (K:lY)(m:V->List V->Hp->VK->Prop)(E:XK)(g:List Nat->List D->Mo D):Prop:=MeO K m E (csD K) g (owD K)
def strOf (d:D):Mo (List Nat):=match d.un with |.str l=>.ok l |_=>.no
theorem ex_me {m:V->List V->Hp->VK->Prop}{g:List Nat->List D->Mo D}(o:MeD K m E g)(h0:EvX K t E env r)(h:EvAs K ta E env ra):EvX K (tBM K "str" m t ta) E env (r.bind λd=>(strOf d).bind λl=>ra.bind λc=>g l c):=by
 intro σ F H Q hL hs q;refine ex_v h0 σ F H _ hL hs (q.bind.imp λd F1 H1 x1 k1 v hv=>?_)
 have ha:=DR.un hv;unfold strOf at k1;split at k1
 ·rename_i l e;rw[e]at ha;cases ha.str
  refine⟨?_,?_⟩
  ·exact rfl
  ·refine zg3_ h σ F1 H1 _ (hL.mono x1.1) x1.2.1 (After.imp (After.bind (show After K (ra.bind λc=>g l c) E F1 H1 _ from k1)) λc F2 H2 x2 k2 vs cF=>?_)
   exact o l c vs F2 H2 Q x2.2.1 cF (k2.imp λa F3 H3 x3 k3=>k3.back (x1.2.2.1.trans x2.2.2.1))
 ·exact k1.elim
end
noncomputable def Nd.own:Nd->Bool
 |.scr=>uQ |.ktup=>uQ |_=>uP
def D.at:D->List Nat->Option D
 |d,[]=>uN d
 |.nd k ds,i::js=>bif k.own then ds[i]?.bind λd=>d.at js else uO
 |_,_=>uO
theorem zaQ_ {k:Nd}{ds:List D}{j:Nat}{js:List Nat}:(D.nd k ds).at (j::js)=bif k.own then ds[j]?.bind λd=>d.at js else uO:=by rw[D.at]
def kidsO:HO->List V
 |.tup us=>us |.lst us=>us |.dK kvs=>kvs.map (·.2)|.ins _ _ fs=>fs.map (·.2)|_=>[]
def vAt (H:Hp):V->List Nat->Option V
 |v,[]=>uN v
 |v,j::js=>(match v with |.ref p=>(H p).bind λo=>(kidsO o)[j]? |_=>uO).bind λw=>vAt H w js
noncomputable def D.put:D->List Nat->D->D
 |_,[],x=>x
 |.nd k ds,i::js,x=>(match ds[i]? with |some d=>.nd k (ds.set i (d.put js x))|none=>.nd k ds)
 |d,_,_=>d
section
variable {K:mB}{F F' h h1 h2 H H':Hp}{d:D}{ds:List D}{v:V}{us:List V}{k:Nd}{p:k9}
theorem ODs.focus:∀{ds:List D}{us:List V}{h:Hp}{i:Nat}{c:D},ODs K ds us F h->ds[i]?=uN c ->
  ∃u h1 h2,us[i]?=uN u/\Jn h1 h2 h/\OD K c u F h1/\∀c' F' u' h1' h',Same F F'->OD K c' u' F' h1'->Jn h1' h2 h'->ODs K (ds.set i c') (us.set i u') F' h'
 |[],_,_,_,_,_,e=>by simp at e
 |d::ds,_,h,0,c,q,e=>by
  unfold ODs at q;obtain⟨v,vs,h1,h2,rfl,j,a,r⟩:=q;simp at e;subst e;refine⟨v,h1,h2,rfl,j,a,λc' F' u' h1' h' g o j'=>?_⟩
  rw[oM,oM];unfold ODs;exact⟨u',vs,h1',h2,rfl,j',o,OD.mono.go g r⟩
 |d::ds,_,h,i+1,c,q,e=>by
  unfold ODs at q;obtain⟨v,vs,h1,h2,rfl,j,a,r⟩:=q;obtain⟨u,k1,k2,e1,j1,o1,f⟩:=ODs.focus r (by simpa using e)
  obtain⟨m,jm,jh⟩:=zj_ j1 (z0_ j);refine⟨u,k1,m,by simpa using e1,jh,o1,λc' F' u' cf h' g o' j'=>?_⟩
  rw[pB,pB];unfold ODs;exact⟨v,vs.set i u',h1,un cf k2,rfl,jn_re jm j',a.mono g,f c' F' u' cf _ g o' (z6_ (dj_of jm j'))⟩
theorem zcF_ {α:Type}{l:List α}{i:Nat}{x:α}(h:l[i]?=uN x):l.set i x=l:=zjM_ h
theorem Cell.same (g:Same F F')(c:Cell K k p us F h):Cell K k p us F' h:=c.mono g.tups
theorem zkH_ {k:Nd}(hk:k.own=uP)(n:NdR K k p us H):∃o,H p=uN o/\kidsO o=us:=by
 cases k with
 |tup=>exact⟨_,n,rfl⟩
 |lst=>exact⟨_,n,rfl⟩
 |dct ks=>exact⟨_,n.1,qt (qz n.2.1.symm)⟩
 |obj c ns=>obtain⟨dx,e,l⟩:=n;exact⟨_,e,qt (qz l.symm)⟩
 |_=>cases hk
theorem zbQ_ (g:Same H H'):∀{js:List Nat}{v u:V},vAt H v js=uN u->vAt H' v js=uN u
 |[],_,_,h=>h
 |j::js,v,u,h=>by
  unfold vAt at h ⊢;obtain⟨w,hw,h2⟩:=lp.mp h;clear h;cases v with
  |ref p=>
   obtain⟨o,ho,hw⟩:=lp.mp hw;dsimp only;rw[g _ _ ho];exact lp.mpr ⟨w,hw,zbQ_ g h2⟩
  |_=>cases hw
theorem zfP_ {k:Nd}{j:Nat}{js:List Nat}{w u:V}(hk:k.own=uP)(n:NdR K k p us H)(hw:us[j]?=uN w)(h:vAt H w js=uN u):vAt H (.ref p) (j::js)=uN u:=by
 obtain⟨o,ho,e⟩:=zkH_ hk n;unfold vAt;dsimp only;rw[ho];exact lp.mpr ⟨w,by rw[<- e]at hw;exact hw,h⟩
theorem zdE_ {k:Nd}{j:Nat}{w:V}(hk:k.own=uP)(n:NdR K k p us H)(hw:us[j]?=uN w):∀{js:List Nat}{v:V},vAt H v js=uN (.ref p)->vAt H v (js++[j])=uN w
 |[],_,h=>by cases h;exact zfP_ hk n hw rfl
 |i::js,v,h=>by
  rw[mH];unfold vAt at h ⊢;obtain⟨x,hx,h⟩:=lp.mp h;exact lp.mpr ⟨x,hx,zdE_ hk n hw h⟩
theorem OD.focus:∀{js:List Nat}{d:D}{v:V}{h:Hp}{c:D},OD K d v F h->d.at js=uN c ->
  ∃u h1 h2,(∀H,Same F H->Same h H->vAt H v js=uN u)/\Jn h1 h2 h/\OD K c u F h1/\∀c' F' h1' h',Same F F'->OD K c' u F' h1'->Jn h1' h2 h'->OD K (d.put js c') v F' h'
 |[],d,v,h,c,q,e=>by
  unfold D.at at e;cases e;refine⟨v,h,λ_=>uO,λH _ _=>rfl,λp=>.inr ⟨rfl,rfl⟩,q,λc' F' h1' h' g o j=>?_⟩
  unfold D.put;have:h'=h1':=by
   funext p;rcases j p with⟨a,b⟩|⟨a,b⟩
   ·rw[a,b]
   ·exact b
  rw[this];exact o
 |i::js,.nd k ds,v,h,c,q,e=>by
  rw[zaQ_]at e;cases hk:k.own with
  |false=>rw[hk]at e;cases e
  |true=>
  rw[hk,cond_true]at e;obtain⟨d',e1,e2⟩:=lp.mp e;unfold OD at q;obtain⟨p,us,h0,hr,rfl,cl,j,r⟩:=q;obtain⟨u1,k1,k2,eu,jk,o1,f⟩:=ODs.focus r e1;obtain⟨u,m1,m2,vp,jm,o2,g⟩:=OD.focus o1 e2;obtain⟨a,ja,jb⟩:=zj_ jm jk;obtain⟨b,jc,jd⟩:=zj_ jb (z0_ j);refine⟨u,m1,b,λH s1 s2=>zfP_ hk (cl.nd s1 (j.l.trans s2)) eu (vp H s1 (jk.l.trans (j.r.trans s2))),jd,o2,λc' F' h1' h' s o' j'=>?_⟩
  unfold D.put;rw[e1];dsimp only;unfold OD;have d1:Dj h1' a:=λq=>by
   rcases j'.dj q with z |z
   ·exact .inl z
   ·exact .inr (jc.l.free z)
  have d2:Dj h1' m2:=λq=>by
   rcases d1 q with z |z
   ·exact .inl z
   ·exact .inr (ja.l.free z)
  have jx:Jn (un h1' m2) k2 (un h1' a):=λq=>by
   unfold un;rcases ja q with⟨z,w⟩|⟨z,w⟩
   ·rw[z]
    cases y:h1' q with
    |none=>left;exact⟨rfl,w⟩
    |some o=>
     right;rcases d1 q with t |t
     ·rw[t]at y;cases y
     ·rw[w]at t;exact⟨t,rfl⟩
   ·right
    refine⟨z,?_⟩;cases y:h1' q with
    |none=>exact w
    |some o=>rfl
  have on:=g c' F' h1' (un h1' m2) s o' (z6_ d2);have rn:=f _ F' u1 _ (un h1' a) s on jx;rw[zcF_ eu]at rn;refine⟨p,us,h0,un h1' a,rfl,cl.same s,?_,rn⟩;intro q;unfold un;rcases j' q with⟨z,w⟩|⟨z,w⟩
  ·rw[z,w]
   rcases jc q with⟨y,t⟩|⟨y,t⟩
   ·right;exact⟨y,t⟩
   ·left;exact⟨y,t⟩
  ·rw[w]
   have z0:h0 q=uO:=jc.r.free z;left;refine⟨z0,?_⟩;cases y:h1' q with
   |none=>exact(jc.l.free z).symm
   |some o=>rfl
 |_::_,.non,_,_,_,_,e=>by simp[D.at]at e
 |_::_,.bl _,_,_,_,_,e=>by simp[D.at]at e
 |_::_,.int _,_,_,_,_,e=>by simp[D.at]at e
 |_::_,.str _,_,_,_,_,e=>by simp[D.at]at e
 |_::_,.fz _,_,_,_,_,e=>by simp[D.at]at e
 |_::_,.pin _,_,_,_,_,e=>by simp[D.at]at e
 |_::_,.gone,_,_,_,_,e=>by simp[D.at]at e
theorem Hold.atG:∀{L:List Sl}{σ:L2.St}{h:Hp}{i:Nat}{s:Sl},Hold L σ F h->L[i]?=uN s ->
  ∃o h1 h2,σ[i]?=uN o/\Jn h1 h2 h/\s.P o F h1/\∀s' o' F' h1' h',Same F F'->s'.P o' F' h1'->Jn h1' h2 h'->Hold (L.set i s') (σ.set i o') F' h'
 |[],_,_,_,_,_,e=>by simp at e
 |s::L,[],_,_,_,q,_=>q.elim
 |s::L,o::σ,h,0,t,q_,e=>by
  obtain⟨h1,h2,j,p,r⟩:=q_;simp at e;subst e;exact⟨o,h1,h2,rfl,j,p,λs' o' F' h1' h' g p' j'=>⟨h1',h2,j',p',r.mono g⟩⟩
 |s::L,o::σ,h,i+1,t,q_,e=>by
  obtain⟨h1,h2,j,p,r⟩:=q_;obtain⟨o1,k1,k2,e1,j1,p1,f⟩:=Hold.atG r (by simpa using e)
  obtain⟨m,jm,jh⟩:=zj_ j1 (z0_ j);exact⟨o1,k1,m,by simpa using e1,jh,p1,λs' o' F' cf h' g aJ j'=>⟨h1,un cf k2,jn_re jm j',p.mono g,f s' o' F' cf _ g aJ (z6_ (dj_of jm j'))⟩⟩
theorem Hold.more:∀{L:List Sl}{σ:L2.St}{h g h':Hp},Hold L σ F h->Jn g h h'->Hold L σ F h'
 |[],[],_,_,_,_,_=>trivial
 |s::L,[],_,_,_,q,_=>q.elim
 |[],_::_,_,_,_,q,_=>q.elim
 |s::L,o::σ,h,g,h',q_,j'=>by
  obtain⟨h1,h2,j,p,r⟩:=q_;obtain⟨m,jm,jh⟩:=zj_ j (z0_ j');exact⟨h1,m,jh,p,Hold.more r (z0_ jm)⟩
noncomputable abbrev Ws:=Nat->Option V
def slotW (K:lY)(w:Option V)(o:Option D):Sl:=match o with
 |none=>.dead
 |some d=>(match w with |none=>.ow (owD K) d |some u=>.ow (owAt u (owD K)) d)
abbrev LofW (K:lY)(ws:Ws)(env:Env):List Sl:=env.mapIdx λi o=>slotW K (ws i) o
variable {ws:Ws}{env:Env}{σ:L2.St}{i:Nat}{js:List Nat}{c:D}
theorem zbq_ {o:Option D}(ho:env[i]?=uN o):(LofW K ws env)[i]?=uN (slotW K (ws i) o):=by
 rw[pR,ho];rfl
theorem zcl_ {o:Option D}:(LofW K ws env).set i (slotW K (ws i) o)=LofW K ws (env.set i o):=by
 refine ny λj=>?_
 rw[nv,pR,pR,nv,List.length_mapIdx];by_cases e:i=j
 ·subst e;rw[if_pos rfl,if_pos rfl];split<;>rfl
 ·rw[if_neg e,if_neg e]
theorem zmL_ {w:Option V}{o:Option D}{x:Option V}(h:(slotW K w o).Z x F):(slot K o).Z x F:=by
 cases o with
 |none=>trivial
 |some d=>cases w with |none=>exact h |some u=>exact h
theorem zcf_ (h:HoldF (LofW K ws env) σ F):HoldF (Lof K env) σ F:=by
 intro i s e;rw[lu]at e;cases z:env[i]? with
 |none=>rw[z]at e;cases e
 |some o=>
  rw[z]at e;cases e;exact zmL_ (h i _ (zbq_ z))
theorem zdb_ {w:Option V}{d:D}{x:Option V}(h:(slotW K w (uN d)).P x F h1):∃v,x=uN v/\(∀u,w=uN u->v=u)/\OD K d v F h1:=by
 cases w with
 |none=>obtain⟨v,e,o⟩:=h;exact⟨v,e,(λu z=>by cases z),o⟩
 |some u=>obtain⟨v,e,z,o⟩:=h;exact⟨v,e,(λu' y=>by cases y;exact z),o⟩
theorem zcm_ {w:Option V}{d:D}{v:V}(hw:∀u,w=uN u->v=u)(o:OD K d v F h1):(slotW K w (uN d)).P (uN v) F h1:=by
 cases w with
 |none=>exact⟨v,rfl,o⟩
 |some u=>exact⟨v,rfl,hw u rfl,o⟩
theorem zbS_ (hL:Hold (LofW K ws env) σ F h)(hi:env[i]?=uN (uN d))(hc:d.at js=uN c):
  ∃v u h1 h2,σ[i]?=uN (uN v)/\(∀H,Same F H->Same h H->vAt H v js=uN u)/\Jn h1 h2 h/\OD K c u F h1/\∀c' F' h1' h',Same F F'->OD K c' u F' h1'->Jn h1' h2 h'->Hold (LofW K ws (env.set i (uN (d.put js c')))) σ F' h':=by
 obtain⟨o,k1,k2,e1,j,pp,f⟩:=Hold.atG hL (zbq_ hi);obtain⟨v,rfl,hv,od⟩:=zdb_ pp;obtain⟨u,m1,m2,vp,jm,o1,g⟩:=od.focus hc;obtain⟨a,ja,jb⟩:=zj_ jm j;refine⟨v,u,m1,a,e1,(λH s1 s2=>vp H s1 (j.l.trans s2)),jb,o1,λc' F' h1' h' s o' j'=>?_⟩
 have d1:Dj h1' m2:=λq=>by
  rcases j'.dj q with z |z
  ·exact .inl z
  ·exact .inr (ja.l.free z)
 have:=f (slotW K (ws i) (uN (d.put js c'))) (uN v) F' (un h1' m2) h' s (zcm_ hv (g c' F' h1' _ s o' (z6_ d1))) ?_
 ·rw[zcl_,zcF_ e1]at this;exact this
 ·intro q
  unfold un;rcases j' q with⟨z,w⟩|⟨z,w⟩
  ·rw[z,w]
   rcases ja q with⟨y,t⟩|⟨y,t⟩
   ·left;exact⟨y,t⟩
   ·right;exact⟨y,t⟩
  ·rw[w]
   have z0:k2 q=uO:=ja.r.free z;right;refine⟨z0,?_⟩;cases y:h1' q with
   |none=>exact(ja.l.free z).symm
   |some o=>rfl
end
inductive Mr (s α:Type) where
 |ok (a:α) (t:s)|ex (c:Xc) (t:s)|no
noncomputable abbrev Fn:=List D->Mr (List D) D
def Fn.val (f:Fn)(ds:List D):Mo D:=match f ds with |.ok d _=>.ok d |.ex c _=>.ex c |.no=>.no
section
variable {K:mB}{E:XK}{F F' F0 H0 h h1 h2 H H':Hp}{d:D}{ds:List D}{v:V}{us vs:List V}{k:Nd}{p:k9}{Q:VK}{env:Env}{t:TE}{r:Mo D}{ta:TA}{ra:Mo (List D)}{f:Fn}
def FinC (K:lY)(r:Mr (List D) D)(E:XK)(F0 H0:Hp)(vs:List V)(Q:VK):Prop:=match r with
 |.ok d ds=>∀v F h H hr h2,Okk F0 H0 F h H->Jn hr h2 h->OD K d v F hr->ODs K ds vs F h2->Q v H
 |.ex c ds=>∀F h H,Okk F0 H0 F h H->ODs K ds vs F h->Tell K E c H0 F H
 |.no=>False
def CtG (K:lY)(f:Fn):Sp:=λvs H Q E=>∃F h ds,Same F H/\Dj F h/\Same h H/\ODs K ds vs F h/\FinC K (f ds) E F (less H h) vs Q
theorem zlI_ (hn:∀p,h p=uO):less H h=H:=funext λp=>z2_ (hn p)
theorem zfF_ (hs:Same F H)(hd:DRs K ds vs F)(q:After K (f.val (ds.map D.vw)) E F H (OwnK (owD K) H Q)):CtG K f vs H Q E:=by
 refine⟨F,λ_=>uO,ds.map D.vw,hs,λ_=>.inr rfl,(λp o z=>by cases z),ODs.vw (λ_=>rfl) hd,?_⟩
 rw[zlI_ λ_=>rfl]
 unfold Fn.val at q;cases e:f (ds.map D.vw)with
 |no=>rw[e]at q;exact q
 |ok d ds'=>
  rw[e]at q;intro v F' h' H' hr h2 ok j o _;refine q F' H' ok.1 v hr (λp z=>ok.2.2.2.1 p ?_) (dj_l ok.2.1 j) (j.l.trans ok.2.2.1) o
  cases y:hr p with
  |none=>exact absurd y z
  |some w=>rw[j.l _ _ y];exact sN _
 |ex c ds'=>rw[e]at q;exact λF' h' H' ok _=>q F' H' ok.1
theorem zl3_ (h:EvAs K ta E env ra):EvX K (tCall (CtG K f) [] E ta) E env (ra.bind λds=>f.val (ds.map D.vw)):=by
 intro σ F H Q hL hs q;refine zg3_ h σ F H _ hL hs (q.bind.imp λds F1 H1 x1 k1 vs cF=>?_)
 rw[oO];exact zfF_ x1.2.1 cF (k1.imp λr F2 H2 x2 k2=>k2.back x1.2.2.1)
theorem zcD_:∀{ns:List Str}{us:List V}{f:Str}{v:V},us[ns.idxOf f]?=uN v->ns.length=us.length->(ns.zip us).lookup f=uN v
 |[],us,f,v,h,l=>by cases us with |nil=>simp at h |cons=>simp at l
 |n::ns,[],f,v,h,l=>by simp at l
 |n::ns,u::us,f,v,h,l=>by
  rw[l0,pM];by_cases e:n=f
  ·subst e;simp at h;simp[h]
  ·rw[sD,show(n == f)=uQ from beq_eq_false_iff_ne.mpr e,cond_false,nz]at h
   rw[show(f == n)=uQ from beq_eq_false_iff_ne.mpr λz=>e z.symm]
   exact zcD_ h (by simpa using l)
def tFld (K:lY)(cs:List Str)(t:TE)(f:Str):TE:=λσ H Q=>∃c∈cs,mFld (gA K c) t f σ H Q
def fldD (cs:List Str)(f:Str)(d:D):Mo D:=match d.un with
 |.nd (.obj c ns) ds=>if c∈cs then .opt ((ds[ns.idxOf f]?).map .vw)else .no
 |_=>.no
theorem zpj_ {cs:List Str}{f:Str}(h0:cs≠[])(hx:EvX K t E env r):EvX K (tFld K cs t f) E env (r.bind (fldD cs f)):=by
 intro σ F H Q hL hs q;have main:∀c∈cs,(∀d,r=.ok d->∃ns ds,d.un=.nd (.obj c ns) ds)->tFld K cs t f σ H Q:=λc hc hd=>⟨c,hc,by
  refine ex_v hx σ F H _ hL hs ?_;cases e:r with
  |no=>rw[e]at q;exact q
  |ex x=>rw[e]at q;exact q
  |ok d=>
   obtain⟨ns,ds,e2⟩:=hd d e;rw[e]at q;intro F1 H1 x1 v hv;have hv:=DR.un hv;rw[e2]at hv;obtain⟨p,us,rfl,⟨dx,hp,l⟩,rs⟩:=hv.nd;have q:After K (fldD cs f d) E F H _:=q;unfold fldD at q;rw[e2]at q;dsimp only at q;rw[if_pos hc]at q;obtain⟨d',e3,q⟩:=q.opt;obtain⟨d0,e4,rfl⟩:=lq.mp e3;rcases rs.get (ns.idxOf f)with⟨z,_⟩|⟨d1,w,g1,g2,g3⟩
   ·rw[z]at e4;cases e4
   ·rw[g1]at e4;cases e4
    refine⟨dx,_,w,x1.2.1 _ _ hp,zcD_ g2 l,?_⟩;exact gotV (E:=E) (λF2 H2 x2=>(q F2 H2 (x1.trans x2)).back x1.2.2.1) x1.2.1 g3⟩
 cases e:r with
 |no=>rw[e]at q;exact q.elim
 |ok d=>
  rw[e]at q;have q':After K (fldD cs f d) E F H (OwnK (owD K) H Q):=q;unfold fldD at q';split at q'
  ·rename_i c ns ds e2
   by_cases hc:c∈cs
   ·exact main c hc λd' z=>by rw[e]at z;cases z;exact⟨ns,ds,e2⟩
   ·rw[if_neg hc]at q';exact q'.elim
  ·exact q'.elim
 |ex x=>
  cases cs with
  |nil=>exact absurd rfl h0
  |cons c cs=>exact main c (lO ..) λd' z=>by rw[e]at z;cases z
def walkD (d:D):Mo (List D):=match d.un with
 |.str l=>.ok (l.map λc=>.str [c])
 |.nd .lst xs=>.ok xs
 |.nd .tup xs=>.ok xs
 |.nd .scr xs=>.ok xs
 |.nd .ktup xs=>.ok xs
 |_=>.no
theorem yl_L {F1:Hp}(hl:SqL K F1 p us)(r:DRs K ds us F1):Yl K (Itl K p) ds (tyD K) F1:=by
 refine⟨λi H x hH hx=>?_,λH hH=>⟨us,hH.seq hl,by rw[r.len];exact kZ _⟩⟩
 rcases r.get i with⟨a,_⟩|⟨y,u,a,b,c⟩
 ·rw[a]at hx;cases hx
 ·rw[a]at hx;cases hx
  refine⟨⟨us,u,hH.seq hl,b⟩,?_⟩;rintro v H' ⟨rfl,z⟩ F hF bD;have e:=z us (hH.seq hl);rw[b]at e;cases e;exact⟨F,.refl bD,(tyD K).mono hF c⟩
theorem yl_T {F1:Hp}(hl:∀H,Same F1 H->SqT K H p us)(r:DRs K ds us F1):Yl K (Itt K p) ds (tyD K) F1:=by
 refine⟨λi H x hH hx=>?_,λH hH=>⟨us,hl H hH,by rw[r.len];exact kZ _⟩⟩
 rcases r.get i with⟨a,_⟩|⟨y,u,a,b,c⟩
 ·rw[a]at hx;cases hx
 ·rw[a]at hx;cases hx
  refine⟨⟨us,u,hl H hH,b⟩,?_⟩;rintro v H' ⟨rfl,z⟩ F hF bD;have e:=z us (hl _ hH);rw[b]at e;cases e;exact⟨F,.refl bD,(tyD K).mono hF c⟩
def iAnyW (K:lY)(vs:List V)(σ:L2.St)(H1:Hp)(R:It->Hp->Prop):Prop:=match vs with |[x]=>iAny K (tC x) σ H1 R |_=>False
def WkW (K:lY)(E:XK)(wi:List V->L2.St->Hp->(It->Hp->Prop)->Prop)(g:List D->Mo (List D)):Prop:=
 ∀ds vs σ F1 H1 R,Same F1 H1->DRs K ds vs F1->After K (g ds) E F1 H1 (λxs F' H'=>∀J,Yl K J xs (tyD K) F'->R J H')->wi vs σ H1 R
theorem ei_w {wi:List V->L2.St->Hp->(It->Hp->Prop)->Prop}{g:List D->Mo (List D)}(w:WkW K E wi g)(hx:EvAs K ta E env ra):EvI K (λσ H R=>ta σ H λvs H1=>wi vs σ H1 R) E (Lof K env) (ra.bind g) (tyD K):=by
 intro σ F H R hL hs q;exact zg3_ hx σ F H _ hL hs (q.bind.imp λds F1 H1 x1 k1 vs hv=>w ds vs σ F1 H1 R x1.2.1 hv k1)
def walkA (ds:List D):Mo (List D):=match ds with |[d]=>walkD d |_=>.no
theorem w_any:WkW K E (iAnyW K) walkA:=by
 intro ds vs σ F1 H1 R x1 hv k1;unfold walkA at k1;split at k1
 rotate_left
 ·exact k1.elim
 obtain⟨v,rfl,aM⟩:=DRs.one hv;have ha:=DR.un aM;unfold walkD at k1;split at k1
 ·rename_i l e;rw[e]at ha;cases ha.str
  refine k1.ok x1 _ ⟨λi H x hH hx=>?_,λH hH=>?_⟩
  ·rw[lu]at hx
   cases e:l[i]? with
   |none=>rw[e]at hx;cases hx
   |some c=>
    rw[e]at hx;cases hx;have hi:=(lD.mp e).1;refine⟨hi,?_⟩;rintro v H' ⟨rfl,rfl⟩ F _ hF;refine⟨F,.refl hF,?_⟩;show DR K (.str [c]) (tx [l.getD i 0]) F
    rw[lM,e];unfold DR;rfl
  ·show l.length<=_
   rw[kX];exact kZ _
 ·rename_i e;rw[e]at ha;obtain⟨p,us,rfl,n,r⟩:=ha.nd
  exact .inl ⟨⟨us,.of (x1 _ _ n)⟩,k1.ok x1 _ (yl_L (.of n) r)⟩
 ·rename_i e;rw[e]at ha;obtain⟨p,us,rfl,n,r⟩:=ha.nd
  exact .inr ⟨⟨us,.of (x1 _ _ n)⟩,k1.ok x1 _ (yl_T (λH hH=>.of (hH _ _ n)) r)⟩
 ·rename_i e;rw[e]at ha;obtain⟨p,us,rfl,n,r⟩:=ha.nd
  exact .inl ⟨⟨us,x1.seq n⟩,k1.ok x1 _ (yl_L n r)⟩
 ·rename_i e;rw[e]at ha;obtain⟨p,us,rfl,n,r⟩:=ha.nd
  exact .inr ⟨⟨us,.inr n⟩,k1.ok x1 _ (yl_T (λH hH=>.inr n) r)⟩
 ·exact k1.elim
theorem ziM_ {lo:Int}{n:Nat}{F1:Hp}:Yl K (Itr lo n) ((rngI lo n).map D.int) (tyD K) F1:=by
 have y:=zpp_ (K:=K) (lo:=lo) (n:=n) (F1:=F1);refine⟨λi H x hH hx=>?_,λH hH=>by rw[kX];exact y.stop H hH⟩
 rw[lu]at hx;obtain⟨a,ha,rfl⟩:=lq.mp hx;obtain⟨g,z⟩:=y.go i H a hH ha;refine⟨g,λv H' q F hF bD=>?_⟩
 obtain⟨F',x',e⟩:=z v H' q F hF bD;exact⟨F',x',by show DR K _ _ _;unfold DR;exact e⟩
def rng1D (ds:List D):Mo (List D):=match ds with
 |[d]=>(intD d).bind λj=>.grd (-(2 ^ 62)<=j/\j<2 ^ 62) (.ok ((rngI 0 j.toNat).map .int))
 |_=>.no
def rng2D (ds:List D):Mo (List D):=match ds with
 |[c,d]=>(intD c).bind λi=>(intD d).bind λj=>.grd (-(2 ^ 62)<=i/\i<2 ^ 62 /\ -(2 ^ 62)<=j/\j<2 ^ 62) (.ok ((rngI i (j-i).toNat).map .int))
 |_=>.no
theorem zcQ_ {α:Type}{k:Int->Mo α}{kk:α->Hp->Hp->Prop}(q:After K ((intD d).bind k) E F H kk)(hd:DR K d v H'):∃i,v=.int i/\After K (k i) E F H kk:=by
 have hd:=DR.un hd;unfold intD at q;split at q
 ·rename_i i e;rw[e]at hd;exact⟨i,hd.int,q⟩
 ·exact q.elim
theorem w_rg1:WkW K E (λvs _ H1 R=>match vs with |[.int j] => -(2 ^ 62)<=j/\j<2 ^ 62/\R (Itr 0 j.toNat) H1 |_=>False) rng1D:=by
 intro ds vs σ F1 H1 R x1 hv k1;unfold rng1D at k1;split at k1
 ·obtain⟨v,rfl,a⟩:=DRs.one hv
  obtain⟨i,rfl,k1⟩:=zcQ_ k1 a;obtain⟨z,k1⟩:=k1.grd;exact⟨z.1,z.2,k1.ok x1 _ ziM_⟩
 ·exact k1.elim
theorem w_rg2:WkW K E (λvs _ H1 R=>match vs with |[.int i,.int j]=>(-(2 ^ 62)<=i/\i<2 ^ 62 /\ -(2 ^ 62)<=j/\j<2 ^ 62)/\R (Itr i (j-i).toNat) H1 |_=>False) rng2D:=by
 intro ds vs σ F1 H1 R x1 hv k1;unfold rng2D at k1;split at k1
 ·obtain⟨v,v',rfl,a,b⟩:=DRs.two hv
  obtain⟨i,rfl,k1⟩:=zcQ_ k1 a;obtain⟨j,rfl,k1⟩:=zcQ_ k1 b;obtain⟨z,k1⟩:=k1.grd;exact⟨z,k1.ok x1 _ ziM_⟩
 ·exact k1.elim
def enumD (ds:List D):Mo (List D):=match ds with
 |[d]=>(match d.un with
  |.nd .lst xs=>.ok ((enumL xs).map λq=>.nd .tup [.int q.1,q.2])
  |.str l=>.ok ((enumL l).map λq=>.nd .tup [.int q.1,.str [q.2]])
  |_=>.no)
 |_=>.no
theorem w_en:WkW K E (λvs _ H1 R=>match vs with |[.str z]=>R (Ites z.cps.toList.length (λi=>tx [z.cps.toList.getD i 0])) H1 |[.ref a]=>(∃xs,SqL K H1 a xs)/\R (Ite K a) H1 |_=>False) enumD:=by
 intro ds vs σ F1 H1 R x1 hv k1;unfold enumD at k1;split at k1
 ·rename_i d
  obtain⟨v,rfl,a⟩:=DRs.one hv;have a:=DR.un a;split at k1
  ·rename_i xs e;rw[e]at a;obtain⟨p,us,rfl,n,r⟩:=a.nd
   refine⟨⟨us,.of (x1 _ _ n)⟩,k1.ok x1 _ ⟨λi H x hH hx=>?_,λH hH=>?_⟩⟩
   ·rw[lu,zcp_]at hx
    rcases r.get i with⟨a,_⟩|⟨y,u,a,b,c⟩
    ·rw[a]at hx;cases hx
    ·rw[a]at hx;cases hx
     refine⟨⟨us,u,.of (hH _ _ n),b⟩,?_⟩;rintro v H' ⟨p2,w,z,cH,rfl,rfl⟩ F hF bD;have e:=z us (.of (hH _ _ n));rw[b]at e;cases e;have x:=Ext.new (o:=.tup [.int i,u]) bD cH;refine⟨_,x,?_⟩;show DR K _ _ _
     unfold DR;refine⟨p2,_,rfl,ze_,?_⟩;unfold DRs;refine⟨_,_,rfl,by unfold DR;rfl,?_⟩
     unfold DRs;exact⟨u,[],rfl,c.mono (hF.trans x.1),by unfold DRs;rfl⟩
   ·refine⟨us,.of (hH _ _ n),?_⟩
    rw[kX,zY_,r.len];exact kZ _
  ·rename_i l e;rw[e]at a;cases a.str
   refine k1.ok x1 _ ⟨λi H x hH hx=>?_,λH hH=>?_⟩
   ·rw[lu,zcp_]at hx
    cases e:l[i]? with
    |none=>rw[e]at hx;cases hx
    |some c=>
     rw[e]at hx;cases hx;have hi:=(lD.mp e).1;refine⟨hi,?_⟩;rintro v H' ⟨p2,cH,rfl,rfl⟩ F hF bD;have x:=Ext.new (o:=.tup [.int i,tx [l.getD i 0]]) bD cH;refine⟨_,x,?_⟩;show DR K _ _ _
     unfold DR;refine⟨p2,_,rfl,ze_,?_⟩;unfold DRs;refine⟨_,_,rfl,by unfold DR;rfl,?_⟩
     unfold DRs;refine⟨_,[],rfl,?_,by unfold DRs;rfl⟩
     rw[lM,e];unfold DR;rfl
   ·show l.length<=_
    rw[kX,zY_];exact kZ _
  ·exact k1.elim
 ·exact k1.elim
structure Tg where
 tup:Bool
 is:List Nat
def tgD (g:Tg)(d:D):Option (List D):=if g.tup then(match d.un with |.nd .tup ds=>if ds.length=g.is.length then uN ds else uO |_=>uO)else if g.is.length=1 then uN [d]else uO
def tgS:List Nat->TGs
 |[]=>gNilM
 |i::is=>gConsM (gName i) (tgS is)
def tgT (K:lY)(g:Tg):TG:=if g.tup then gTupM K g.is.length (tgS g.is)else gName (g.is.headD 0)
def tyTg (K:lY)(g:Tg):Ty (List D):=⟨λds v F=>ds.length=g.is.length/\if g.tup then∃p us,v=.ref p/\F p=uN (.tup us)/\DRs K ds us F else DRs K ds [v] F,
 λ{ds v H H'} s q=>⟨q.1,by
  have q:=q.2;split at q
  ·rename_i e;rw[if_pos e];obtain⟨p,us,e1,e2,e3⟩:=q;exact⟨p,us,e1,s _ _ e2,e3.mono s⟩
  ·rename_i e;rw[if_neg e];exact q.mono s⟩⟩
def ssT (K:lY)(is:List Nat)(ds:List D):List (Nat×Sl):=is.zip (ds.map λd=>.fz (tyD K) d)
theorem tgs_R:∀{is:List Nat}{ds:List D}{us:List V}{σ:L2.St}{F H:Hp}{Q:L2.St->Hp->Prop},ds.length=is.length->DRs K ds us F->(∀vs,Plain F (ssT K is ds) vs->Q (setS σ vs) H)->tgS is us σ H Q
 |[],[],us,σ,F,H,Q,_,r,q=>by unfold DRs at r;subst r;exact q [] .nil
 |i::is,d::ds,us,σ,F,H,Q,l,r,q=>by
  unfold DRs at r;obtain⟨v,vs,rfl,a,r⟩:=r;exact tgs_R (σ:=σ.set i (uN v)) (by simpa using l) r λws hw=>q ((i,uN v)::ws) (.cons a hw)
 |[],_::_,_,_,_,_,_,l,_,_=>by simp at l
 |_::_,[],_,_,_,_,_,l,_,_=>by simp at l
theorem tg_R (g:Tg):TgR K (tgT K g) (tyTg K g) (ssT K g.is):=by
 rintro ds v σ F H Q hs ⟨hl,hd⟩ q;unfold tgT;split at hd
 ·rename_i e;rw[if_pos e]
  obtain⟨p,us,rfl,hp,r⟩:=hd;exact⟨us,.of (hs _ _ hp),by rw[<- r.len,hl],tgs_R hl r q⟩
 ·rename_i e;rw[if_neg e]
  match h:g.is,ds,hl,hd,q with
  |[i],[d],_,hd,q=>
   obtain⟨_,e,a⟩:=DRs.one hd;cases e;exact q [(i,uN v)] (.cons a .nil)
  |[],ds,hl,hd,_=>rw[mn.mp hl]at hd;unfold DRs at hd;cases hd
  |_::_::_,d::e::ds,_,hd,_=>unfold DRs at hd;obtain⟨_,_,z,_,r⟩:=hd;cases z;unfold DRs at r;obtain⟨_,_,z,_⟩:=r;cases z
def tgsD (g:Tg):List D->Option (List (List D))
 |[]=>uN []
 |d::ds=>(tgD g d).bind λx=>(tgsD g ds).map λxs=>x::xs
theorem zpJ_ {g:Tg}{x:List D}(e:tgD g d=uN x)(h:DR K d v F):(tyTg K g).R x v F:=by
 unfold tgD at e;split at e
 ·rename_i z
  have h:=DR.un h;split at e
  ·rename_i ds e2
   rw[e2]at h;obtain⟨p,us,rfl,n,r⟩:=h.nd;split at e
   ·rename_i l;cases e;exact⟨l,by rw[if_pos z];exact⟨p,us,rfl,n,r⟩⟩
   ·cases e
  ·cases e
 ·rename_i z
  split at e
  ·rename_i l;cases e;exact⟨l.symm,by rw[if_neg z];unfold DRs;exact⟨v,[],rfl,h,by unfold DRs;rfl⟩⟩
  ·cases e
theorem zdY_ {g:Tg}:∀{ds:List D}{xs:List (List D)},tgsD g ds=uN xs->xs.length=ds.length/\∀(i:Nat) x,xs[i]?=uN x->∃d,ds[i]?=uN d/\tgD g d=uN x
 |[],_,e=>by cases e;exact⟨rfl,λi x h=>by simp at h⟩
 |d::ds,_,e=>by
  unfold tgsD at e;obtain⟨x,e1,e⟩:=lp.mp e;obtain⟨xs,e2,rfl⟩:=lq.mp e;obtain⟨l,f⟩:=zdY_ e2;refine⟨by rw[lg,lg,l],λi y h=>?_⟩
  cases i with
  |zero=>simp at h;subst h;exact⟨d,rfl,e1⟩
  |succ i=>exact f i y (by simpa using h)
theorem ei_tg {wi:TI}{L:List Sl}{rs:Mo (List D)}(g:Tg)(h:EvI K wi E L rs (tyD K)):EvI K wi E L (rs.bind λl=>.opt (tgsD g l)) (tyTg K g):=by
 intro σ F H R hL hs q;refine h σ F H _ hL hs (q.bind.imp λds F1 H1 x1 k1 J Y=>?_)
 obtain⟨xs,e,k1⟩:=k1.opt;obtain⟨l,f⟩:=zdY_ e;refine k1.ok x1.2.1 J ⟨λi H x hH hx=>?_,λH hH=>by rw[l];exact Y.stop H hH⟩
 obtain⟨d,hd,e2⟩:=f i x hx;obtain⟨g1,z⟩:=Y.go i H d hH hd;refine⟨g1,λv H' q F hF bD=>?_⟩
 obtain⟨F',x',hv⟩:=z v H' q F hF bD;exact⟨F',x',zpJ_ e2 hv⟩
def setE (env:Env):List Nat->List D->Env
 |i::is,d::ds=>setE (env.set i (uN d.vw)) is ds
 |_,_=>env
def cE (lv:List Str)(fr:List (Str×Nat))(env:Env):Env:=lv.map (λ_=>uO)++fr.map λq=>(env[q.2]?).join
theorem cL_eq {lv:List Str}{fr:List (Str×Nat)}:cL lv fr (Lof K env)=Lof K (cE lv fr env):=by
 unfold cL cE;show _=List.map (slot K) (_++_)
 rw[om,l8,l8];congr 1;refine nG λq _=>?_
 simp only[Function.comp,lu];cases env[q.2]? with
 |none=>rfl
 |some o=>rfl
def LeZ (L L':List Sl):Prop:=∀(i:Nat) s',L'[i]?=uN s'->∃s,L[i]?=uN s/\∀o F,s.Z o F->s'.Z o F
theorem LeZ.hold {L L':List Sl}{σ:L2.St}(z:LeZ L L')(h:HoldF L σ F):HoldF L' σ F:=λi s' e=>by
 obtain⟨s,e1,e2⟩:=z i s' e;exact e2 _ _ (h i s e1)
theorem zi9_:∀{is:List Nat}{ds:List D}{L:List Sl}{env:Env},LeZ L (Lof K env)->LeZ (setL L (ssT K is ds)) (Lof K (setE env is ds))
 |[],_,_,_,z=>z
 |_::_,[],_,_,z=>z
 |i::is,d::ds,L,env,z=>by
  refine zi9_ (is:=is) (ds:=ds) (L:=L.set i (.fz (tyD K) d)) (env:=env.set i (uN d.vw)) ?_;intro j s' e;rw[lu,nv]at e;by_cases hj:i=j
  ·subst hj
   rw[if_pos rfl]at e;by_cases hl:i<env.length
   ·rw[if_pos hl]at e
    cases e;obtain⟨s,e1,_⟩:=z i _ (by rw[lu,kY hl];rfl)
    refine⟨.fz (tyD K) d,by rw[m4 (lD.mp e1).1],?_⟩
    rintro o F ⟨v,e2,hv⟩;refine⟨v,e2,?_⟩;show DR K d.vw v F
    unfold D.vw;split
    ·exact hv
    ·split
     ·exact hv
     ·unfold DR;exact hv
   ·rw[if_neg hl]at e;cases e
  ·rw[if_neg hj]at e
   obtain⟨s,e1,e2⟩:=z j s' (by rw[lu];exact e)
   exact⟨s,by rw[lR hj];exact e1,e2⟩
theorem zjC_ {L:List Sl}:LeZ L L:=λi s e=>⟨s,e,λ_ _ h=>h⟩
theorem zpk_ (h:(owLO (owD K)).O ds v F h1):OD K (.nd .lst ds) v F h1:=by
 obtain⟨p,vs,h2,rfl,j,q⟩:=h;unfold OD;have go:∀{ds:List D}{vs:List V}{h:Hp},OwAll (owD K) F ds vs h->ODs K ds vs F h:=λ{ds}=>by
  induction ds with
  |nil=>intro vs h q;cases vs with |nil=>unfold ODs;exact⟨rfl,q⟩|cons=>exact q.elim
  |cons d ds ih=>intro vs h q;cases vs with |nil=>exact q.elim |cons v vs=>obtain⟨h1,h2,j,a,r⟩:=q;unfold ODs;exact⟨v,vs,h1,h2,rfl,j,a,ih r⟩
 exact⟨p,vs,_,h2,rfl,rfl,j,go q⟩
theorem zi8_ {lv:List Str}{fr:List (Str×Nat)}{wi:TI}{g:Tg}{tt:TT}{te:TE}{rs:Mo (List D)}{c:List D->Mo Bool}{f:List D->Mo D}(hi:EvI K wi E (Lof K env) rs (tyD K))(hg:∀i∈g.is,i<lv.length)
  (ht:∀a,EvT K tt E0 (Lof K (setE (cE lv fr env) g.is a)) (c a)) (he:∀a,EvX K te E0 (setE (cE lv fr env) g.is a) (f a)):
  EvX K (tComp lv fr wi (tgT K g) tt te) E env ((rs.bind λl=>.opt (tgsD g l)).bind λxs=>(compM (λx=>cond1 (c x) (f x)) xs []).bind λys=>.ok (.nd .lst ys)):=by
 have z:∀a,LeZ (setL (cL lv fr (Lof K env)) (ssT K g.is a)) (Lof K (setE (cE lv fr env) g.is a)):=λa=>zi9_ (by rw[cL_eq];exact zjC_)
 have dead:∀a,DeadAt (cL lv fr (Lof K env)) ((ssT K g.is a).map (·.1)):=λa i hi s e=>by
  have:i∈g.is:=by
   obtain⟨q,hq,rfl⟩:=nL.mp hi;exact(oj hq).1
  have hl:=hg i this;unfold cL at e;rw[mS (by rw[kX];exact hl),lu,kY hl]at e
  cases e;rfl
 have:=zjN_ (lv:=lv) (fr:=fr) (ei_tg g hi) (tg_R g) dead (λa σ F H Q hL hs q=>ht a σ F H Q ((z a).hold hL) hs q) (λa σ F H Q hL hs q=>he a σ F H Q ((z a).hold hL) hs q)
 intro σ F H Q hL hs q;refine this σ F H Q hL hs ?_;have e:∀(m:Mo (List (List D))),(m.bind λxs=>(compM (λx=>cond1 (c x) (f x)) xs []).bind λys=>.ok (D.nd .lst ys))=(m.bind λxs=>compM (λx=>cond1 (c x) (f x)) xs []).bind λys=>.ok (.nd .lst ys):=λm=>(Mo.bind_assoc _ _ _).symm
 rw[e]at q;exact q.bind.imp λys F1 H1 x1 k1 v k cu dj s o=>k1.ok x1.2.1 v k cu dj s (zpk_ o)
end
def rDGet:R2:=λx y H Q=>atD x y H λ_ kvs k=>∃v,valV kvs k=uN v/\Q v H
def rDIn (neg:Bool):R2:=λy x H Q=>atD x y H λ_ kvs k=>Q (.bl (if neg then !(valV kvs k).isSome else(valV kvs k).isSome)) H
def rIxA (K:lY):R2:=λx y H Q=>mIx K x y H Q\/rDGet x y H Q
def rInA (K:lY)(neg:Bool):R2:=λx y H Q=>mIn K neg x y H Q\/rDIn neg x y H Q
def mLenA (K:lY):List V->Hp->VK->Prop:=λvs H Q=>mLen K vs H Q\/mLenD vs H Q
section
variable {X:Cx}
theorem zji_ (hu:X.A.units+60<cLine):IxR X rDGet:=by
 intro value slice pins s σ H x y v u Q I rx ry h hs;obtain⟨a,kvs,k,rfl,rfl,hd,w,hw,q⟩:=zgK_ h;obtain rfl:v=mE a:=rx;have g:DGet H a (kV k) (uN w):=by rw[<- hw];exact DGet.k hd
 have hT:=ze2_ I g;unfold subscriptTail;refine kP ?_;rw[getitemInPython_of_ne hT.not_modules];refine kP (wpAny_specialOf hT PySem.F.slot_dict_getitem.lookup ?_);have fin:lK (model X.prog X.w) X.A (subscripted slice uQ (.ref a) u) (λr ay=>lK (model X.prog X.w) X.A (letTemporaryGo value (.ref a) r>>=λ_=>pure r) (EP X pins σ Q) X.xe ay) X.xe s:=by
  rw[hs];exact wpAny_operating (mK (zhJ_ (Q:=EP X pins σ Q) (by lia) I g ry λw' s3 I3 bM=>⟨w,H,I3,bM,q⟩) (λr ay bS=>kP (wpAny_letTemporaryGo (lB bS))) λ_ _ x=>x)
 first
  |exact lB (kP fin)
  |exact kP (lB (kP fin))
  |exact kP fin
theorem ix_A (hu:X.A.units+60<cLine):IxR X (rIxA X.K):=λvalue slice pins s σ H x y v u Q I rx ry h hs=>by
 rcases h with h |h
 ·exact ix_M value slice pins s σ H x y v u Q I rx ry h hs
 ·exact zji_ hu value slice pins s σ H x y v u Q I rx ry h hs
theorem zpN_ (hu:X.A.units+60<cLine):OpR X (lP .In) (rInA X.K uQ):=λpins s σ H x y v u Q I rx ry h=>by
 rcases h with h |h
 ·exact zpL_ pins s σ H x y v u Q I rx ry h
 ·obtain⟨a,kvs,k,rfl,rfl,hd,q⟩:=zgK_ h
  cases ry;exact d_in (by lia) I (DGet.k (k:=k) hd) rx λs3 I3=>⟨.bl (valV kvs k).isSome,H,I3,rfl,q⟩
theorem zhZ_ (hu:X.A.units+60<cLine):OpR X (lP .NotIn) (rInA X.K uP):=λpins s σ H x y v u Q I rx ry h=>by
 rcases h with h |h
 ·exact zih_ pins s σ H x y v u Q I rx ry h
 ·obtain⟨a,kvs,k,rfl,rfl,hd,q⟩:=zgK_ h
  cases ry;exact zmc_ (by lia) I (DGet.k (k:=k) hd) rx λs3 I3=>⟨.bl (!(valV kvs k).isSome),H,I3,rfl,q⟩
theorem zhG_:CallR X (.builtin "len") (mLenA X.K):=λpins s σ H xs us Q I r h=>by
 rcases h with h |h
 ·exact zhy_ pins s σ H xs us Q I r h
 ·exact zfy_ pins s σ H xs us Q I r h
end
section
variable {K:mB}{E:XK}{F F' h h1 h2 H H':Hp}{d:D}{ds:List D}{v:V}{us vs:List V}{k:Nd}{p:k9}{Q:VK}{env:Env}{t:TE}{r r1 r2:Mo D}{ta:TA}{ra:Mo (List D)}{f:Fn}
def isDct (d:D):Bool:=match d.un with |.nd (.dct _) _=>uP |_=>uQ
def ixA (a b:D):Mo D:=if isDct a then dgetD a b else ixD a b
theorem zm4_:Op2D K rDGet E dgetD:=by
 intro a b x y F H Q hs ha hb q;have ha:=DR.un ha;unfold dgetD at q;split at q
 ·rename_i ks ds k e1 e2
  rw[e1]at ha;obtain⟨p,us,rfl,n,r⟩:=ha.nd;obtain⟨d,e,q⟩:=q.opt;obtain⟨d0,e',rfl⟩:=lq.mp e;rcases zoJ_ (k:=k) (ks:=ks) r with⟨h1,h2⟩|⟨d',v',g1,g2,g3⟩
  ·rw[h1]at e';cases e'
  ·rw[g1]at e';cases e'
   exact zdD_ rfl (zkS_ e2 hb).1 (hs _ _ n.1) ⟨v',g2,gotV q hs g3⟩
 ·exact q.elim
theorem zpX_:Op2D K (rIxA K) E ixA:=by
 intro a b x y F H Q hs ha hb q;unfold ixA at q;split at q
 ·exact .inr (zm4_ a b x y F H Q hs ha hb q)
 ·exact .inl (od_ix a b x y F H Q hs ha hb q)
def inA (neg:Bool)(a b:D):Mo D:=if isDct b then dinD neg a b else inD neg a b
theorem zqd_ {neg:Bool}:Op2D K (rDIn neg) E (dinD neg):=by
 intro a b x y F H Q hs ha hb q;have hb:=DR.un hb;unfold dinD at q;split at q
 ·rename_i ks ds k e1 e2
  rw[e1]at hb;obtain⟨p,us,rfl,n,r⟩:=hb.nd;refine zdD_ rfl (zkS_ e2 ha).1 (hs _ _ n.1) ?_;have e:(valV (ks.zip us) k).isSome=(valD ks ds k).isSome:=by
   rcases zoJ_ (k:=k) (ks:=ks) r with⟨h1,h2⟩|⟨d',v',g1,g2,g3⟩
   ·rw[h1,h2];rfl
   ·rw[g1,g2];rfl
  rw[e];exact gotB q hs
 ·exact q.elim
theorem zmt_ {neg:Bool}:Op2D K (rInA K neg) E (inA neg):=by
 intro a b x y F H Q hs ha hb q;unfold inA at q;split at q
 ·exact .inr (zqd_ a b x y F H Q hs ha hb q)
 ·exact .inl (od_in a b x y F H Q hs ha hb q)
def lenA (ds:List D):Mo D:=match ds with |[d]=>if isDct d then dlenD ds else lenD ds |_=>.no
theorem zny_:BlD K (mLenA K) E lenA:=by
 intro ds vs F H Q hs hd q;unfold lenA at q;split at q
 ·split at q
  ·exact .inr (zlb_ _ vs F H Q hs hd q)
  ·exact .inl (zoW_ _ vs F H Q hs hd q)
 ·exact q.elim
def makeD (f:Fn)(c:Str)(ds:List D):Mo D:=match f (.nd (.obj c []) []::ds.map .vw)with
 |.ok .non (o::_)=>.ok o
 |.ex x _=>.ex x
 |_=>.no
theorem z1_ {p dx q:k9}{o:HO}:two p dx o q=if q=p then uN o else if q=dx then uN (.own p)else uO:=rfl
theorem zir_:∀{ds es:List D}{vs us:List V}{F:Hp},DRs K ds vs F->DRs K es us F->DRs K (ds++es) (vs++us) F
 |[],_,_,_,_,h,g=>by unfold DRs at h;subst h;exact g
 |d::ds,_,_,_,_,h,g=>by unfold DRs at h;obtain⟨v,vs,rfl,a,r⟩:=h;rw[mH,mH];unfold DRs;exact⟨v,_,rfl,a,zir_ r g⟩
theorem zqL_ {c:Str}{dv:List D}{au:List V}(hx:EvAs K ta E env ra)(jR:∀F,DRs K dv au F):EvX K (tMake (gA K c) (CtG K f) au E ta) E env (ra.bind λds=>makeD f c (ds++dv)):=by
 intro σ F H Q hL hs q;refine zg3_ hx σ F H _ hL hs (q.bind.imp λds F1 H1 x1 k1 vs cF=>?_)
 intro x dx nx dI ne;have cF:=zir_ cF (jR F1);have k1:=k1.imp λa F3 H3 x3 k3=>k3.back x1.2.2.1
 have sm:Same H1 (upd (upd H1 dx (.own x)) x (.ins (gA K c) dx [])):=(zP_ dI _).trans (zP_ (by rw[zc_ λz=>ne z.symm];exact nx) _)
 have eh:less (upd (upd H1 dx (.own x)) x (.ins (gA K c) dx [])) (two x dx (.ins (gA K c) dx []))=H1:=funext λp=>by
  unfold less;rw[z1_];by_cases e:p=x
  ·subst e;rw[if_pos rfl];exact nx.symm
  ·rw[if_neg e]
   by_cases e2:p=dx
   ·subst e2;rw[if_pos rfl];exact dI.symm
   ·rw[if_neg e2,zc_ e,zc_ e2]
 refine⟨F1,two x dx (.ins (gA K c) dx []),.nd (.obj c []) []::(ds++dv).map .vw,x1.2.1.trans sm,λp=>?_,λp o z=>?_,?_,?_⟩
 ·rw[z1_]
  by_cases e:p=x
  ·subst e;exact .inl (x1.2.1.free nx)
  ·rw[if_neg e]
   by_cases e2:p=dx
   ·subst e2;exact .inl (x1.2.1.free dI)
   ·rw[if_neg e2];exact .inr rfl
 ·rw[z1_]at z
  by_cases e:p=x
  ·subst e;rw[if_pos rfl]at z;cases z;exact ze_
  ·rw[if_neg e]at z
   by_cases e2:p=dx
   ·subst e2;rw[if_pos rfl]at z;cases z;rw[zc_ e];exact ze_
   ·rw[if_neg e2]at z;cases z
 ·unfold ODs
  refine⟨.ref x,_,_,λ_=>uO,rfl,no_r _ λ_=>rfl,?_,ODs.vw (λ_=>rfl) cF⟩
  unfold OD;exact⟨x,[],_,λ_=>uO,rfl,⟨dx,ne,rfl,rfl⟩,no_r _ λ_=>rfl,by unfold ODs;exact⟨rfl,λ_=>rfl⟩⟩
 ·rw [eh]
  unfold makeD at k1;cases e:f (.nd (.obj c []) []::(ds++dv).map .vw)with
  |no=>rw[e]at k1;exact k1
  |ex x ds'=>rw[e]at k1;exact λF' h' H' ok _=>k1 F' H' ok.1
  |ok d ds'=>
   rw[e]at k1;intro v F' h' H' hr h2 ok j od os;split at k1
   ·rename_i o tl ee
    cases ee;refine⟨?_,?_⟩
    ·unfold OD at od;exact od.2.non
    ·unfold ODs at os
     obtain⟨w,ws,m1,m2,e3,jm,oo,_⟩:=os;cases e3;have s1:Same m1 h':=jm.l.trans j.r;refine k1 F' H' ok.1 (.ref x) m1 (λp z=>ok.2.2.2.1 p ?_) (dj_l (dj_r ok.2.1 j) jm) (s1.trans ok.2.2.1) oo
     cases y:m1 p with
     |none=>exact absurd y z
     |some w=>rw[s1 _ _ y];exact sN _
   ·rename_i ee;cases ee
   ·exact k1.elim
def strsD:List D->Option (List (List Nat))
 |[]=>uN []
 |d::ds=>(match d.un with |.str l=>uN l |_=>uO).bind λx=>(strsD ds).map λxs=>x::xs
theorem zju_:∀{ds:List D}{xs:List (List Nat)}{us:List V},strsD ds=uN xs->DRs K ds us H->us=xs.map tx
 |[],_,_,e,h=>by cases e;unfold DRs at h;exact h
 |d::ds,_,_,e,h=>by
  unfold strsD at e;unfold DRs at h;obtain⟨x,ex,e⟩:=lp.mp e;obtain⟨xs,exs,rfl⟩:=lq.mp e;obtain⟨v,vs,rfl,a,r⟩:=h;have a:=DR.un a;split at ex
  ·rename_i e2;cases ex;rw[e2]at a;cases a.str;rw[zju_ exs r];rfl
  ·cases ex
def joinD (l:List Nat)(ds:List D):Mo D:=match ds with
 |[d]=>(match d.un with |.nd .lst xs=>(Mo.opt (strsD xs)).bind λls=>.grd (JoinOk ⟨l.toArray⟩ (strsL ls)=uP) (.ok (.str (joinS l (strsL ls))))|_=>.no)
 |_=>.no
theorem zhH_:∀ls:List (List Nat),strsOf (ls.map tx)=uN (strsL ls):=λls=>strsOf_of' ls
 where strsOf_of':∀ls:List (List Nat),strsOf (ls.map tx)=uN (strsL ls)
 |[]=>rfl
 |l::ls=>by show(strsOf (ls.map tx)).map _=_;rw[strsOf_of' ls];rfl
theorem zli_:MeD K (mJoin K) E joinD:=by
 intro l ds vs F H Q hs hd q;unfold joinD at q;split at q
 ·obtain⟨v,rfl,a⟩:=DRs.one hd
  have a:=DR.un a;split at q
  ·rename_i xs e;rw[e]at a;obtain⟨p,us,rfl,n,r⟩:=a.nd
   cases e3:strsD xs with
   |none=>rw[e3]at q;exact q.elim
   |some ls=>
    rw[e3]at q;obtain⟨z,q⟩:=After.grd (show After K (Mo.grd _ _) E F H _ from q)
    refine⟨us,.of (hs _ _ n),?_⟩;rw[zju_ e3 r,zhH_];exact⟨z,gotS q hs⟩
  ·exact q.elim
 ·exact q.elim
theorem ziE_:∀ls:List (List Nat),DRs K (ls.map .str) (ls.map tx) F
 |[]=>by unfold DRs;rfl
 |l::ls=>by rw[lj,lj];unfold DRs;exact⟨_,_,rfl,by unfold DR;rfl,ziE_ ls⟩
def me1 (g:List Nat->List Nat->Mo D)(l:List Nat)(ds:List D):Mo D:=match ds with |[d]=>(match d.un with |.str c=>g l c |_=>.no)|_=>.no
def me1I (g:List Nat->Int->Mo D)(l:List Nat)(ds:List D):Mo D:=match ds with |[d]=>(match d.un with |.int c=>g l c |_=>.no)|_=>.no
theorem zp7_ {m:V->List V->Hp->VK->Prop}{g:List Nat->List Nat->Mo D}(hm:∀l c F H (Q:VK),Same F H->After K (g l c) E F H (OwnK (owD K) H Q)->m (tx l) [tx c] H Q):MeD K m E (me1 g):=by
 intro l ds vs F H Q hs hd q;unfold me1 at q;split at q
 ·obtain⟨v,rfl,a⟩:=DRs.one hd
  have a:=DR.un a;split at q
  ·rename_i c e;rw[e]at a;cases a.str;exact hm l c F H Q hs q
  ·exact q.elim
 ·exact q.elim
theorem zmk_ {m:V->List V->Hp->VK->Prop}{g:List Nat->Int->Mo D}(hm:∀l c F H (Q:VK),Same F H->After K (g l c) E F H (OwnK (owD K) H Q)->m (tx l) [.int c] H Q):MeD K m E (me1I g):=by
 intro l ds vs F H Q hs hd q;unfold me1I at q;split at q
 ·obtain⟨v,rfl,a⟩:=DRs.one hd
  have a:=DR.un a;split at q
  ·rename_i c e;rw[e]at a;cases a.int;exact hm l c F H Q hs q
  ·exact q.elim
 ·exact q.elim
abbrev indexD:=me1 λl c=>.grd (findS l c ≠ -1) (.ok (.int (findS l c)))
abbrev zfillD:=me1I λl i=>.grd (PadOk i=uP) (.ok (.str (zfL l i)))
theorem zj7_:MeD K mIndex E indexD:=zp7_ λl c F H Q hs q=>by obtain⟨z,q⟩:=q.grd;exact⟨z,gotI q hs⟩
theorem zkG_:MeD K mZfill E zfillD:=zmk_ λl c F H Q hs q=>by obtain⟨z,q⟩:=q.grd;exact⟨z,gotS q hs⟩
noncomputable def tnD:D->Option String
 |.int _=>uN "int" |.bl _=>uN "bool" |.str _=>uN "str" |.non=>uN "NoneType" |.nd .lst _=>uN "list" |.nd .tup _=>uN "tuple" |_=>uO
def isaD (n:String)(d:D):Mo D:=.opt (((tnD d.un).bind λT=>isaB T n).map .bl)
theorem tnD_S {T:String}(h:tnD d=uN T)(a:DR K d v F)(hs:Same F H):tyS K H v T:=by
 cases d with
 |int=>cases h;cases a.int;rfl
 |bl=>cases h;cases a.bl;rfl
 |str=>cases h;cases a.str;rfl
 |non=>cases h;cases a.non;rfl
 |nd k ds=>
  obtain⟨p,us,rfl,m,_⟩:=a.nd;cases k with
  |lst=>cases h;exact .inl ⟨rfl,us,hs _ _ m⟩
  |tup=>cases h;exact .inr ⟨rfl,us,hs _ _ m⟩
  |_=>cases h
 |_=>cases h
def mIsaV (K:lY):List V->Hp->VK->Prop:=λxs H Q=>∃x c T b,xs=[x,.ty c]/\tyS K H x T/\isaB T c=uN b/\Q (.bl b) H
theorem zhV_ {X:Cx}:CallR X (.builtin "isinstance") (mIsaV X.K):=by
 rintro pins s σ H xs us Q I r ⟨x,c,T,b,rfl,ht,eb,hq⟩;obtain⟨u,w',rfl,r1,r2⟩:=vals2 r;cases r2;exact zij_ I r1 (zpI_ ht) (zlS_ eb) λtk=>⟨.bl b,H,I.tok tk,rfl,hq⟩
theorem zoo_ (n:String)(hx:EvX K t E env r):EvX K (tCB (mIsaV K) (tCons t (tCons (tC (.ty n)) tNil))) E env (r.bind (isaD n)):=by
 intro σ F H Q hL hs q;refine ex_v hx σ F H _ hL hs (q.bind.imp λd F1 H1 x1 k1 v hv=>?_)
 have k1:=k1.imp λa F3 H3 x3 k3=>k3.back x1.2.2.1
 obtain⟨w,e,k1⟩:=k1.opt;obtain⟨b,e0,rfl⟩:=lq.mp e;obtain⟨T,e1,e2⟩:=lp.mp e0;exact⟨v,n,T,b,rfl,tnD_S e1 (DR.un hv) x1.2.1,e2,gotB k1 x1.2.1⟩
def blsD:List D->Option (List Bool)
 |[]=>uN []
 |d::ds=>match d.un,blsD ds with |.bl b,uN bs=>uN (b::bs)|_,_=>uO
theorem zk1_:∀{ds:List D}{us:List V}{bs:List Bool}{F:Hp},blsD ds=uN bs->DRs K ds us F->us=bs.map V.bl
 |[],us,bs,F,h,r=>by unfold DRs at r;subst r;cases h;rfl
 |d::ds,us,bs,F,h,r=>by
  unfold DRs at r;obtain⟨v,vs,rfl,a,r⟩:=r;unfold blsD at h;split at h
  ·rename_i b kl e1 e2
   cases h;have a:=DR.un a;rw[e1]at a;cases a.bl;rw[zk1_ e2 r];rfl
  ·cases h
def allD:List D->Mo D:=on1 λd=>match d with |.nd .lst ds=>(match blsD ds with |some bs=>.ok (.bl (bs.all id))|none=>.no)|_=>.no
theorem zp2_:BlD K (mAll K) E allD:=zeS_ λd v F H Q hs hd q=>by
 split at q
 ·obtain⟨p,us,rfl,n,r⟩:=hd.nd
  split at q
  ·rename_i bs e
   refine⟨bs,?_,gotB q hs⟩;rw[<- zk1_ e r];exact .of (hs _ _ n)
  ·exact q.elim
 ·exact q.elim
theorem zlO_:EvX K tDNewK E env (.ok (.nd (.dct []) [])):=by
 intro σ F H Q hL hs q p hp;refine q F _ (.heap hs (zP_ hp _)) (.ref p) (one p (.dK [])) (λb z=>?_) (λb=>?_) (λb o z=>?_) ?_
 ·rw[zb_]at z;split at z
  ·rename_i e;rw[e];exact hp
  ·exact absurd rfl z
 ·rw[zb_];split
  ·rename_i e;rw[e];exact .inl (hs.free hp)
  ·exact .inr rfl
 ·rw[zb_]at z;split at z
  ·rename_i e;rw[e];cases z;exact ze_
  ·cases z
 ·show OD K _ _ _ _
  unfold OD;exact⟨p,[],_,λ_=>uO,rfl,⟨rfl,rfl,List.nodup_nil⟩,no_r _ λ_=>rfl,by unfold ODs;exact⟨rfl,λ_=>rfl⟩⟩
def revD (ds:List D):Mo (List D):=match ds with
 |[d]=>(match d.un with |.nd .lst xs=>.ok xs.reverse |_=>.no)
 |_=>.no
def zipD (ds:List D):Mo (List D):=match ds with
 |[d,e]=>(match d.un,e.un with
  |.nd .lst xs,.str l=>.ok ((xs.zip l).map λq=>.nd .tup [q.1,.str [q.2]])
  |_,_=>.no)
 |_=>.no
theorem w_zip:WkW K E (λvs _ H1 R=>match vs with
  |[.ref a,.str x]=>(∃xs,SqL K H1 a xs)/\R (ItzS K a x.cps.size (sgn x)) H1
  |_=>False) zipD:=by
 intro ds vs σ F1 H1 R x1 hv k1;unfold zipD at k1;split at k1
 ·obtain⟨v,v2,rfl,a,a2⟩:=DRs.two hv
  have a:=DR.un a;have a2:=DR.un a2;split at k1
  ·rename_i l1 l2 e1 e2
   rw[e1]at a;rw[e2]at a2;obtain⟨p,us,rfl,hp,hr⟩:=a.nd;cases a2.str;refine⟨⟨us,.of (x1 _ _ hp)⟩,k1.ok x1 _ ⟨λi H x hH hx=>?_,λH hH=>?_⟩⟩
   ·rw[lu]at hx
    cases ez:(l1.zip l2)[i]? with
    |none=>rw[ez]at hx;cases hx
    |some q=>
    rw[ez]at hx;cases hx;obtain⟨dM,hx2⟩:=pd.mp (show(l1.zip l2)[i]?=uN (q.1,q.2)from ez)
    rcases hr.get i with⟨a,_⟩|⟨y,u,a,b,c⟩
    ·rw[a]at dM;cases dM
    rw[a]at dM;injection dM with dM;have hi:=(lD.mp hx2).1;refine⟨⟨us,u,.of (hH _ _ hp),b,hi⟩,?_⟩;rintro v H' ⟨p3,w,z,hp3,rfl,rfl⟩ F hF bD;have e:=z us (.of (hH _ _ hp));rw[b]at e;cases e;have x':=Ext.new (o:=.tup [u,L2.sgn ⟨l2.toArray⟩ i]) bD hp3;refine⟨_,x',?_⟩;show DR K _ _ _
    unfold DR;refine⟨p3,_,rfl,ze_,?_⟩;unfold DRs;refine⟨_,_,rfl,by rw[<- dM];exact DR.mono (hF.trans x'.1) c,?_⟩
    unfold DRs;refine⟨_,_,rfl,?_,by unfold DRs;rfl⟩
    unfold DR;have e3:(l2.toArray).getD i 0=q.2:=by rw[mM,qL,hx2];rfl
    show V.str ⟨#[(l2.toArray).getD i 0]⟩=tx [q.2]
    rw[e3]
   ·refine⟨us,.of (hH _ _ hp),?_⟩
    rw[kX,mF,hr.len];show min us.length l2.length=us.length\/min us.length l2.length<us.length/\min us.length l2.length=l2.length
    lia
  ·exact k1.elim
 ·exact k1.elim
theorem newTp (q:After K (.ok (.nd .tup (ds.map .vw))) E F H (OwnK (owD K) H Q))(hs:Same F H)(hp:H p=uO)(r:DRs K ds us F):Q (.ref p) (upd H p (.tup us)):=by
 have x:=Ext.new (o:=.tup us) hs hp;refine q _ _ x (.ref p) (λ_=>uO) (λb z=>absurd rfl z) (λ_=>.inr rfl) (λb o z=>by cases z) ?_
 show OD K _ _ _ _
 unfold OD;exact⟨p,us,λ_=>uO,λ_=>uO,rfl,⟨ze_,λ_=>rfl⟩,no_r _ λ_=>rfl,ODs.vw (λ_=>rfl) (r.mono x.1)⟩
def mSlA (K:lY):V->Option Int->Option Int->Hp->VK->Prop:=λx lo hi H Q=>mSl K x lo hi H Q\/rSlT K x lo hi H Q
theorem sl_A {X:Cx}:SlR X (mSlA X.K):=SlR.or sl_M zpq_
def slA (a:D)(lo hi:Option Int):Mo D:=match a.un with
 |.nd .tup xs=>if HT.sIx xs.length 0 lo=0/\HT.sIx xs.length xs.length hi=xs.length then .no else .ok (.nd .tup ((cutG xs lo hi).map .vw))
 |_=>slD a lo hi
theorem zqT_ {tl th:TO}{rl rh:Mo (Option Int)}(h0:EvX K t E env r)(hl:EvP K tl E (Lof K env) rl)(hh:EvP K th E (Lof K env) rh):EvX K (tSl (mSlA K) t tl th) E env (r.bind λl=>rl.bind λa=>rh.bind λb=>slA l a b):=by
 intro σ F H Q hL hs q;refine ex_v h0 σ F H _ hL hs (q.bind.imp λl F1 H1 x1 k1 v hv=>?_)
 refine hl σ F1 H1 _ (hL.mono x1.1) x1.2.1 (k1.bind.imp λlo F2 H2 x2 k2=>?_)
 refine hh σ F2 H2 _ (hL.mono (x1.1.trans x2.1)) x2.2.1 (k2.bind.imp λhi F3 H3 x3 k3=>?_)
 have ha:=DR.un ((tyD K).mono (x2.1.trans x3.1) hv);have k3:=k3.imp λc F4 H4 x4 k4=>k4.back (x1.2.2.1.trans (x2.2.2.1.trans x3.2.2.1))
 unfold slA at k3;split at k3
 ·rename_i xs e;rw[e]at ha;obtain⟨p,us,rfl,n,r⟩:=ha.nd
  split at k3
  ·exact k3.elim
  ·rename_i hn
   exact .inr ⟨p,us,rfl,.of (x3.2.1 _ _ n),by rw[<- r.len];exact hn,λp hp=>newTp k3 x3.2.1 hp (r.cut lo hi)⟩
 ·refine .inl ?_
  unfold slD at k3;split at k3
  ·rename_i l e;rw[e]at ha;cases ha.str
   obtain⟨c,k3⟩:=k3.lim;exact⟨c,gotS k3 x3.2.1⟩
  ·rename_i e;rw[e]at ha;obtain⟨p,us,rfl,n,r⟩:=ha.nd
   exact⟨us,.of (x3.2.1 _ _ n),λp hp=>newL k3 x3.2.1 hp (r.cut lo hi)⟩
  ·rename_i e;rw[e]at ha;obtain⟨p,us,rfl,n,r⟩:=ha.nd
   exact⟨us,x3.2.1.seq n,λp hp=>newL k3 x3.2.1 hp (r.cut lo hi)⟩
  ·exact k3.elim
def mAddA (K:lY):R2:=λx y H Q=>mAdd x y H Q\/rCatT K x y H Q
theorem znj_ {X:Cx}:OpR X (m8 .Add) (mAddA X.K):=λpins s σ H x y v u Q I rx ry h=>by
 rcases h with h |h
 ·exact zlx_ pins s σ H x y v u Q I rx ry h
 ·exact zlj_ pins s σ H x y v u Q I rx ry h
def addA (a b:D):Mo D:=match a.un,b.un with
 |.nd .tup xs,.nd .tup ys=>if xs=[]\/ys=[]then .no else .lim (xs.length+ys.length) (.ok (.nd .tup ((xs++ys).map .vw)))
 |_,_=>addD a b
noncomputable instance (l:List D):Decidable (l=[]):=match l with |[]=>.isTrue rfl |_::_=>.isFalse λh=>by cases h
theorem zmR_:Op2D K (mAddA K) E addA:=by
 intro a b x y F H Q hs ha hb q;unfold addA at q;split at q
 ·rename_i xs ys e1 e2
  have ha:=DR.un ha;have hb:=DR.un hb;rw[e1]at ha;rw[e2]at hb;obtain⟨p,us,rfl,n,r⟩:=ha.nd;obtain⟨p2,ws,rfl,n2,r2⟩:=hb.nd;split at q
  ·exact q.elim
  ·rename_i hn
   obtain⟨c,q⟩:=q.lim;have h1:us≠[]:=λz=>hn (.inl (mn.mp (by rw[r.len,z];rfl)))
   have h2:ws≠[]:=λz=>hn (.inr (mn.mp (by rw[r2.len,z];rfl)))
   exact .inr ⟨p,p2,us,ws,rfl,rfl,.of (hs _ _ n),.of (hs _ _ n2),h1,by rw[<- r.len,<- r2.len];exact c,λz=>absurd z h2,λ_ l hl=>newTp q hs hl (r.app r2)⟩
 ·exact .inl (zqN_ a b x y F H Q hs ha hb q)
def rvD (a:D):Mo D:=match a.un with
 |.nd .lst xs=>.ok (.nd .lst (xs.reverse.map .vw))
 |_=>.no
theorem zbC_:∀(ns:List Int) {H:Hp},DRs K (ns.map D.int) (ns.map V.int) H
 |[],_=>by unfold DRs;rfl
 |n::ns,H=>by rw[lj,lj];unfold DRs;exact⟨_,_,rfl,by unfold DR;rfl,zbC_ ns⟩
def lrD (a b:D):Mo D:=(intD a).bind λi=>(intD b).bind λj=>.grd (-50000<=i/\i<=50000 /\ -50000<=j/\j<=50000) (.ok (.nd .lst (((rngI i (j-i).toNat).map D.int).map .vw)))
theorem ex_lr {ip il:TE}{iy iw:Mo D}(h1:EvX K ip E env iy)(h2:EvX K il E env iw):EvX K (tCB (mList K) (tCons (tCB mRange (tCons ip (tCons il tNil))) tNil)) E env (iy.bind λx=>iw.bind λy=>lrD x y):=by
 intro σ F H Q hL hs q;refine ex_v h1 σ F H _ hL hs (q.bind.imp λa F1 H1 x1 k1 v hv=>?_)
 refine ex_v h2 σ F1 H1 _ (hL.mono x1.1) x1.2.1 (k1.bind.imp λb F2 H2 x2 k2 w hw=>?_)
 have k2:=k2.imp λc F4 H4 x4 k4=>k4.back (x1.2.2.1.trans x2.2.2.1)
 unfold lrD at k2;obtain⟨i,rfl,k2⟩:=zcQ_ k2 ((tyD K).mono x2.1 hv);obtain⟨j,rfl,k2⟩:=zcQ_ k2 hw;obtain⟨c,k2⟩:=k2.grd;intro p hp;have x:=Ext.new (o:=.rng i j) x2.2.1 hp;have e:intsV i j=(rngI i (j-i).toNat).map V.int:=by unfold intsV rngI;simp
 refine .inr ⟨i,j,ze_,c,λl hl=>?_⟩
 rw[e];refine newL (E:=E) (ds:=(rngI i (j-i).toNat).map D.int) (F:=upd F2 p (.rng i j)) (H:=upd H2 p (.rng i j)) (λF' H' y=>OwnK.back x.2.2.1 (k2 F' H' (x.trans y))) x.2.1 hl (zbC_ _)
def intsD:List D->Option (List Int)
 |[]=>uN []
 |d::ds=>match d.un,intsD ds with |.int i,uN is=>uN (i::is)|_,_=>uO
def keysI:List Key->Option (List Int)
 |[]=>uN []
 |.inl i::ks=>(keysI ks).map (i::·)
 |_=>uO
theorem zfV_:∀{ds:List D}{us:List V}{is:List Int}{F:Hp},intsD ds=uN is->DRs K ds us F->Prs tyInt F is us
 |[],us,is,F,h,r=>by unfold DRs at r;subst r;cases h;exact .nil
 |d::ds,us,is,F,h,r=>by
  unfold DRs at r;obtain⟨v,vs,rfl,a,r⟩:=r;unfold intsD at h;split at h
  ·rename_i b kl e1 e2
   cases h;have a:=DR.un a;rw[e1]at a;exact .cons a.int (zfV_ e2 r)
  ·cases h
def srtI (is:List Int):Mo D:=.grd (is.length<64) (.ok (.nd .lst ((srtL ltI is).map .int)))
def mListA (K:lY):List V->Hp->VK->Prop:=λxs H Q=>mList K xs H Q\/match xs with
 |[.ref p]=>∃kvs,H p=uN (.dK kvs)/\kvs.length<=lA/\∀l,H l=uO->Q (.ref l) (upd H l (.lst (kvs.map λq=>kV q.1)))
 |_=>False
theorem zmo_:∀(a:List (Key×V)) (b:List (Key×aU)) (i:Nat) q k' x,KV a b->a[i]?=uN q->b[i]?=uN (k',x)->q.1=k':=by
 intro a b i q k' x fP;unfold KV at fP;induction fP generalizing i with
 |nil=>intro e;simp at e
 |cons r t ih=>
  intro e1 e2;cases i with
  |zero=>simp at e1 e2;subst e1;have:=r.1;rw[e2]at this;exact this
  |succ i=>exact ih i (by simpa using e1) (by simpa using e2)
theorem zcN_:∀(ks:List (Key×V)) (us:List aU),ks.length=us.length->(∀(i:Nat) (q:Key×V) (u:aU),ks[i]?=uN q->us[i]?=uN u->RelV (kV q.1) u)->Vals (ks.map λq=>kV q.1) us
 |[],us,hl,_=>by cases us with |nil=>exact .nil |cons _ _=>simp at hl
 |q::ks,us,hl,hh=>by
  cases us with
  |nil=>simp at hl
  |cons u us=>exact .cons (hh 0 q u rfl rfl) (zcN_ ks us (by simpa using hl) λi q' u' e1 e2=>hh (i+1) q' u' (by simpa using e1) (by simpa using e2))
theorem zgl_ {X:Cx}(hc:X.calm=uP):CallR X (.type "list") (mListA X.K):=by
 intro pins s σ H xs us Q I r h;rcases h with h |h
 ·exact zc2_ hc pins s σ H xs us Q I r h
 ·split at h
  ·rename_i p
   obtain⟨kvs,hp,hl,q⟩:=h;obtain⟨u,rfl,rx⟩:=vals1 r;cases rx;obtain⟨z,hd,vs,rel,dd⟩:=zhY_ I.hok (.inl hp);obtain⟨ep,hat⟩:=dd.dictAt;have cI:kvs.length=vs.length:=rel.length;refine W.kdl_call (W.kdl_dict (knd:=mixKind X.prog X.w) (kvs:=vs) (ep:=ep) hd) (I.ok.hd hc) hat (by rw[<- cI];exact hl) λh' tk acc c kp ho aB=>?_
   refine⟨.ref s.heap.objs.size,_,I.laid (o:=.lst (kvs.map λq=>kV q.1)) (t':=tk) kp (kZ _) ⟨by rw[kX];exact hl,acc.toList,c,?_,by simpa using ho⟩,rfl,q _ (I.hok.fresh (kZ _))⟩
   have gI:acc.toList.length=kvs.length:=by rw[mz,cI];exact aB.1
   refine zcN_ kvs acc.toList gI.symm λi q u e1 e2=>?_
   obtain⟨k',x,ek,bq⟩:=aB.2 i u (by rw[<- my];exact e2)
   rw[zmo_ kvs vs i q k' x rel e1 ek];exact is_kV bq
  ·exact h.elim
def kD:Key->D
 |.inl i=>.int i
 |.inr s=>.str s.cps.toList
theorem zgC_:∀(ks:List Key) (us:List V) {H:Hp},ks.length=us.length->DRs K (ks.map kD) ((ks.zip us).map λq=>kV q.1) H
 |[],us,_,_=>by unfold DRs;rfl
 |k::ks,[],_,hl=>by cases hl
 |k::ks,u::us,H,hl=>by
  rw[l0,lj,lj];unfold DRs;refine⟨_,_,rfl,?_,zgC_ ks us (by simpa using hl)⟩
  cases k with
  |inl i=>unfold kD DR;rfl
  |inr s=>unfold kD DR;rfl
def listA:List D->Mo D:=on1 λd=>match d with
 |.nd .lst xs=>.ok (.nd .lst (xs.map .vw))
 |.nd .tup xs=>.ok (.nd .lst (xs.map .vw))
 |.nd .scr xs=>.ok (.nd .lst (xs.map .vw))
 |.nd (.dct ks) _=>.lim ks.length (.ok (.nd .lst ((ks.map kD).map .vw)))
 |_=>.no
theorem zjf_:BlD K (mListA K) E listA:=zeS_ λd v F H Q hs hd q=>by
 split at q
 ·obtain⟨p,us,rfl,n,r⟩:=hd.nd;exact .inl (.inl ⟨us,.inl (.of (hs _ _ n)),λl hl=>newL q hs hl r⟩)
 ·obtain⟨p,us,rfl,n,r⟩:=hd.nd;exact .inl (.inl ⟨us,.inr (.of (hs _ _ n)),λl hl=>newL q hs hl r⟩)
 ·obtain⟨p,us,rfl,n,r⟩:=hd.nd;exact .inl (.inl ⟨us,.inl (hs.seq n),λl hl=>newL q hs hl r⟩)
 ·obtain⟨p,us,rfl,n,r⟩:=hd.nd
  obtain⟨c,q⟩:=q.lim;refine .inr ⟨_,hs _ _ n.1,by rw[mF,n.2.1,ox,<- n.2.1];exact c,λl hl=>newL q hs hl (zgC_ _ _ n.2.1)⟩
 ·exact q.elim
def mSortI (K:lY):List V->Hp->VK->Prop:=λxs H Q=>match xs with
 |[.ref p]=>∃ns:List Int,(SqL K H p (ns.map .int)\/∃kvs,H p=uN (.dK kvs)/\(kvs.map λq=>kV q.1)=ns.map .int)/\ns.length<64/\∀aX:List Int,aX.Perm ns->aX.Pairwise (·<=·)->∀l,H l=uO->Q (.ref l) (upd H l (.lst (aX.map .int)))
 |_=>False
theorem zcz_:∀{vs:List aU}{ns:List Int},IntsAre vs ns->Vals (ns.map .int) vs
 |_,_,.nil=>.nil
 |_,_,.cons _ _ h=>.cons ⟨_,rfl⟩ (zcz_ h)
theorem zaz_:∀{ns:List Int}{vs:List aU},Vals (ns.map .int) vs->IntsAre vs ns
 |[],_,r=>by cases r;exact .nil
 |n::ns,_,r=>by cases r with |cons a r=>obtain⟨t,rfl⟩:=a;exact .cons n t (zaz_ r)
theorem zf7_ {X:Cx}(hc:X.calm=uP):CallR X (.builtin "sorted") (mSortI X.K):=by
 intro pins s σ H xs us Q I r h;unfold mSortI at h;split at h
 rotate_left
 ·exact h.elim
 rename_i p
 obtain⟨ns,hp,dz,q⟩:=h;obtain⟨u,rfl,rx⟩:=vals1 r;cases rx;rcases hp with hp |⟨kvs,hp,hk⟩
 ·obtain⟨aa,rv,pl,hz⟩:=I.list hp
  have hn:=rv.length;rw[kX]at hn;refine sorted_ints pl.isList (zaz_ rv) (by lia) λout aX a1 a2 a3=>?_
  obtain⟨e,he⟩:=sortedAll_at s.heap aa out;exact⟨.ref (s.heap.objs.size+1),_,I.laid (o:=.lst (aX.map .int)) (t':=s.toks) (λ_ _=>sortedAll_old) (ot _) ⟨by rw[kX,a2.length_eq];exact za3_ (by lia),out.toList,e,zcz_ a1,by simpa using he⟩,rfl,q aX a2 a3 _ (I.hok.fresh (ot _))⟩
 ·obtain⟨z,hd,vs,rel,dd⟩:=zhY_ I.hok (.inl hp)
  obtain⟨ep,hat⟩:=dd.dictAt;have cI:kvs.length=vs.length:=rel.length;have fN:kvs.length=ns.length:=by have:=congrArg qN hk;simpa using this
  refine Calls.call_function_entry kind_sorted plain_sorted entry_sorted (args_sorted1 _) ?_;unfold qd.«sorted»;refine kP (m:=checkCount "sorted" 1 1 _) (lB ?_);refine kP (zjh_ (W.kdl_dict (knd:=mixKind X.prog X.w) (kvs:=vs) (ep:=ep) hd) (I.ok.hd hc) hat (by rw[<- cI,sizeLine_eq];lia) λh1 tk acc hsz k1 aB=>?_)
  have gI:acc.toList.length=kvs.length:=by rw[mz,cI];exact aB.1
  have rv:Vals (ns.map .int) acc.toList:=by
   rw[<- hk];refine zcN_ kvs acc.toList gI.symm λi q u e1 e2=>?_
   obtain⟨k',x,ek,bq⟩:=aB.2 i u (by rw[<- my];exact e2)
   rw[zmo_ kvs vs i q k' x rel e1 ek];exact is_kV bq
  refine kP (wpAny_newList ?_ (by rw[sizeLine_eq];lia))
  have cP:(h1.push (seqObj "list" acc.toList.toArray 0)).get? h1.objs.size=uN (seqObj "list" acc.toList.toArray 0):=lC _ rfl;show lK _ _ _ _ _ {s with heap:=h1.push (seqObj "list" acc.toList.toArray 0),toks:=tk}
  refine kP (wpAny_holding (wpAny_call_entry slot_list_sort ⟨_,cP,rfl⟩ entry_list_sort (list_sort_tree cP (zaz_ rv) (by lia) λout aX a1 a2 a3=>⟨_,rfl,?_⟩) (args_list_sort _)))
  obtain⟨e,he⟩:=sortedHeap_at (out:=out) cP;have kp:∀b o,s.heap.get? b=uN o->(sortedHeap (h1.push (seqObj "list" acc.toList.toArray 0)) h1.objs.size acc.toList out).get? b=uN o:=λb o z=>by
   have hb:=lh (k1 b o z);rw[sortedHeap_old (lN hb) (by rw[size_push'];exact oV hb)]
   exact kQ _ (k1 b o z)
  exact lB ⟨_,rfl,.ref h1.objs.size,_,I.laid (o:=.lst (aX.map .int)) (t':=tk) kp (nI hsz) ⟨by rw[kX,a2.length_eq];exact za3_ (by lia),out.toList,e,zcz_ a1,by simpa using he⟩,rfl,q aX a2 a3 _ (I.hok.fresh (nI hsz))⟩
def sortI:List D->Mo D:=on1 λd=>match d with
 |.nd .lst ds=>(match intsD ds with |some is=>srtI is |none=>.no)
 |.nd (.dct ks) _=>(match keysI ks with |some is=>srtI is |none=>.no)
 |_=>.no
end
section
variable {K:mB}{E:XK}{F H:Hp}{env:Env}
def intLs:List D->Option (List (List Int))
 |[]=>uN []
 |d::ds=>(match d with |.nd .lst es=>intsD es |_=>uO).bind λis=>(intLs ds).map λr=>is::r
def ltQ (aj:List (List Int))(i j:Nat):Bool:=ltKs aj i j ||(!ltKs aj j i && decide (i<j))
def srtQ (aj:List (List Int))(n:Nat):List Nat:=srtL (ltQ aj) (mf n)
theorem zg5_ {aj:List (List Int)}{i j:Nat}:ltQ aj i j=uQ↔ltKs aj i j=uQ/\(ltKs aj j i=uP\/j<=i):=by
 unfold ltQ;cases ltKs aj i j<;>cases ltKs aj j i<;>simp
theorem lo_q (aj:List (List Int)):LOr (ltQ aj):=by
 have w:=zhd_ aj;refine⟨λ{a b} h=>?_,λ{a b c} h g=>?_,λ{a b} h g=>?_⟩
 ·rw[zg5_]
  unfold ltQ at h;cases e:ltKs aj a b with
  |true=>exact⟨w.asym e,.inl rfl⟩
  |false=>
   rw[e]at h;cases e2:ltKs aj b a with
   |true=>rw[e2]at h;simp at h
   |false=>rw[e2]at h;simp at h;exact⟨rfl,.inr (by lia)⟩
 ·rw[zg5_]at h g ⊢
  refine⟨w.tr h.1 g.1,?_⟩;rcases h.2 with h2 |h2
  ·exact .inl (w.st h2 g.1)
  ·rcases g.2 with g2 |g2
   ·exact .inl (w.st' g2 h.1)
   ·exact .inr (by lia)
 ·rw[zg5_]at h g
  rcases h.2 with h2 |h2
  ·rw[g.1]at h2;cases h2
  ·rcases g.2 with g2 |g2
   ·rw[h.1]at g2;cases g2
   ·lia
theorem zmE_ {aj:List (List Int)}{n:Nat}{idx:List Nat}(h:SrtS (ltKs aj) n idx):idx=srtQ aj n:=
 zbD_ (lo_q aj) h.1 (h.2.imp λ{a b} z=>zg5_.mpr ⟨z.1,z.2.imp id nI⟩)
def strL (d:D):Mo (List (List Nat)):=match d.un with |.nd .lst ds=>.opt (strsD ds)|_=>.no
def srtK (ls:List (List Nat))(ks:List D):Mo D:=match intLs ks with |some aj=>.grd (ks.length=ls.length) (.ok (.nd .lst ((srtQ aj ls.length).map λi=>.str (ls.getD i []))))|none=>.no
theorem zgv_:∀{is:List Int}{us:List V},Prs tyInt F is us->us=is.map .int
 |_,_,.nil=>rfl
 |_,_,.cons a r=>by cases a;rw[lj,<- zgv_ r]
theorem zfe_:∀{ks:List D}{us:List V}{aj:List (List Int)}{h:Hp},intLs ks=uN aj->Same h H->Same F H->ODs K ks us F h->KeysAt K H us aj
 |[],us,aj,h,e,s,s',q=>by unfold ODs at q;cases e;rw[q.1];exact .nil
 |d::ks,us,aj,h,e,s,s',q=>by
  unfold intLs at e;obtain⟨is,e1,e2⟩:=lp.mp e;obtain⟨r,e3,rfl⟩:=lq.mp e2;unfold ODs at q;obtain⟨v,vs,h1,h2,rfl,j,o,q⟩:=q;refine .cons ?_ (zfe_ e3 (j.r.trans s) s' q);cases d with
  |nd k es=>
   cases k with
   |lst=>
    obtain⟨p,us,rfl,n,r⟩:=(o.view s' (j.l.trans s)).nd;refine⟨p,rfl,.inl (.inl ?_)⟩;rw[<- zgv_ (zfV_ e1 r)];exact n
   |_=>cases e1
  |_=>cases e1
theorem ziZ_:∀(ls:List (List Nat)) {h:Hp},(∀p,h p=uO)->ODs K (ls.map .str) (ls.map tx) F h
 |[],h,n=>by unfold ODs;exact⟨rfl,n⟩
 |l::ls,h,n=>by
  rw[lj,lj];unfold ODs;refine⟨_,_,h,λ_=>uO,rfl,no_r _ λ_=>rfl,?_,ziZ_ ls λ_=>rfl⟩
  unfold OD DR;exact⟨n,rfl⟩
theorem zpP_ (ls:List (List Nat)):Yl K (Itp ls.length λj=>(ls.map tx).getD j .non) (ls.map .str) (tyD K) F:=by
 refine⟨λi H x _ e=>?_,λH _=>by show ls.length<=_;rw[kX];exact kZ _⟩
 rw[lu]at e;obtain⟨l,e',rfl⟩:=lq.mp e;refine⟨(lD.mp e').1,?_⟩;rintro v H' ⟨rfl,rfl⟩ F' _ s;refine⟨F',Ext.refl s,?_⟩;show DR K (D.str l) ((ls.map tx).getD i .non) F'
 rw[lM,lu,e'];unfold DR;rfl
theorem ziy_:∀(ls:List (List Nat)),tgsD ⟨uQ,[0]⟩ (ls.map D.str)=uN (ls.map λl=>[D.str l])
 |[]=>rfl
 |l::ls=>by rw[lj];unfold tgsD;rw[ziy_ ls];rfl
theorem zpe_ {p:Str}{fr:List (Str×Nat)}{i:Nat}{te:TE}{f:List D->Mo D}(he:∀a,EvX K te E0 (setE (cE [p] fr env) [0] a) (f a)):
  EvX K (tSrt K fr i te) E env ((getE env i).bind λd=>(strL d).bind λls=>.grd (ls.length<64) ((compM (λx=>cond1 (.ok uP) (f x)) (ls.map λl=>[D.str l]) []).bind λks=>srtK ls ks)):=by
 intro σ F H Q hL hs q;have key:mVar i σ H λv H1=>∃a xs,v=.ref a/\SqL K H1 a xs/\xs.length<64/\∀H2,LamUp H1 H2->tCompR (Itp xs.length λj=>xs.getD j .non) (gName 0) tTrue te (uO::lS fr σ) H2 λb H3=>mSrt K xs b H3 Q:=by
  refine ex_v (zlP_ i) σ F H _ hL hs (q.bind.imp λd F1 H1 x1 k1 v hv=>?_)
  have hd:=DR.un hv;unfold strL at k1;split at k1
  rotate_left
  ·exact k1.elim
  rename_i ds e
  rw[e]at hd;obtain⟨a,us,rfl,n,r⟩:=hd.nd;cases e2:strsD ds with
  |none=>rw[e2]at k1;exact k1.elim
  |some ls=>
   rw[e2]at k1;obtain⟨dz,k1⟩:=After.grd (show After K (.grd (ls.length<64) ((compM (λx=>cond1 (.ok uP) (f x)) (ls.map λl=>[D.str l]) []).bind λks=>srtK ls ks)) E F1 H1 _ from k1)
   rw[zju_ e2 r]at n;refine⟨a,ls.map tx,rfl,.inl (.inl (x1.2.1 _ _ n)),by rw[kX];exact dz,λH2 up=>?_⟩
   have cM:Same H1 H2:=up.same
   have c:=zi8_ (K:=K) (E:=E) (env:=env) (lv:=[p]) (fr:=fr) (wi:=λ_ H R=>R (Itp ls.length λj=>(ls.map tx).getD j .non) H) (g:=⟨uQ,[0]⟩) (tt:=tTrue) (te:=te) (rs:=.ok (ls.map .str)) (c:=λ_=>.ok uP) (f:=f)
    (λσ F H R _ s q=>q F H (Ext.refl s) _ (zpP_ ls)) (by intro i hi;simp at hi;subst hi;exact Nat.zero_lt_one) (λa σ F H Q _ s q=>q F H (Ext.refl s)) he
   rw[kX];refine(show tComp [p] fr (λ_ H R=>R (Itp ls.length λj=>(ls.map tx).getD j .non) H) (tgT K ⟨uQ,[0]⟩) tTrue te σ H2 (λb H3=>mSrt K (ls.map tx) b H3 Q)from c σ F1 H2 _ (hL.mono x1.1) (x1.2.1.trans cM) ?_)
   show After K ((Mo.opt (tgsD ⟨uQ,[0]⟩ (ls.map D.str))).bind _) E F1 H2 _
   rw[ziy_];show After K ((compM (λx=>cond1 (.ok uP) (f x)) (ls.map λl=>[D.str l]) []).bind λys=>.ok (D.nd .lst ys)) E F1 H2 _
   cases e3:compM (λx=>cond1 (.ok uP) (f x)) (ls.map λl=>[D.str l]) []with
   |no=>rw[e3]at k1;exact k1
   |ex c=>rw[e3]at k1;exact λF' H' x=>(k1 F' H' ⟨x.1,x.2.1,cM.trans x.2.2.1,λp a b=>cM.free (x.2.2.2 p a b)⟩).up cM
   |ok ks=>
    rw[e3]at k1;have k1:After K (srtK ls ks) E F1 H1 (OwnK (owD K) H Q):=k1;unfold srtK at k1;split at k1
    rotate_left
    ·exact k1.elim
    rename_i aj e4
    obtain⟨iK,k1⟩:=After.grd k1;intro F' H' x v h j6 dj sh o;have o:OD K (.nd .lst ks) v F' h:=o;unfold OD at o;obtain⟨kS,bF,h0,h2,rfl,cl,j,os⟩:=o;have dQ:h kS=uN (.lst bF):=j.l _ _ (by rw[show h0=_ from cl];exact zo_)
    have n2:H2 kS=uO:=j6 _ (by rw[dQ];exact sN _)
    have nF:F' kS=uO:=by
     rcases dj kS with z |z
     ·exact z
     ·rw[dQ]at z;cases z
    refine⟨kS,bF,aj,rfl,sh _ _ dQ,by rw[kX,<- os.len];exact iK,zfe_ e4 (j.r.trans sh) x.2.1 os,λidx bA l hl=>?_⟩
    rw[kX]at bA;rw[zmE_ bA];have nl:l≠kS:=λz=>by rw[z,sh _ _ dQ]at hl;cases hl
    have s1:∀{G:Hp},Same G H'->G kS=uO->Same G (upd (upd H' kS (.lst [])) l (.lst ((srtQ aj ls.length).map λi=>(ls.map tx).getD i .non))):=λ{G} g gn b o e=>by
     have hb:b≠kS:=zd_ e gn;have jV:b≠l:=λz=>by have:=g _ _ e;rw[z,hl]at this;cases this
     rw[zc_ jV,zc_ hb];exact g _ _ e
    have e5:((srtQ aj ls.length).map λi=>(ls.map tx).getD i .non)=((srtQ aj ls.length).map λi=>ls.getD i []).map tx:=by
     rw[l8];refine nG λi hi=>?_
     have dt:i<ls.length:=mZ.mp ((zer_ _ _).mem_iff.mp hi);simp[lM,dt]
    refine k1 F' _ ⟨x.1,s1 x.2.1 nF,s1 (cM.trans x.2.2.1) (cM.free n2),λp a b=>cM.free (x.2.2.2 p a b)⟩ (.ref l) (one l (.lst ((srtQ aj ls.length).map λi=>(ls.map tx).getD i .non))) (λp hp=>?_) (λp=>?_) (λp o e=>?_) ?_
    ·by_cases z:p=l
     ·rw[z];exact(x1.2.2.1.trans (cM.trans x.2.2.1)).free hl
     ·exact absurd (by rw[zb_,if_neg z]) hp
    ·by_cases z:p=l
     ·rw[z];exact .inl (x.2.1.free hl)
     ·exact .inr (by rw[zb_,if_neg z])
    ·rw[zb_]at e
     split at e
     ·rename_i z;rw[z,ze_];exact e
     ·cases e
    ·show OD K _ _ _ _
     unfold OD;refine⟨l,_,_,λ_=>uO,rfl,rfl,no_r _ (λ_=>rfl),?_⟩
     rw[e5];have:=ziZ_ (K:=K) (F:=F') ((srtQ aj ls.length).map λi=>ls.getD i []) (h:=λ_=>uO) (λ_=>rfl)
     rw[l8]at this;exact this
 unfold mVar at key;split at key
 ·rename_i v hv
  obtain⟨a,xs,rfl,h1,h2,h3⟩:=key;exact⟨a,xs,hv,h1,h2,h3⟩
 ·exact key.elim
def taP:List (TE×TE)->TA
 |[]=>tNil
 |(k,v)::r=>tCons k (tCons v (taP r))
def prU:List V->List (V×V)
 |k::v::r=>(k,v)::prU r
 |_=>[]
theorem tp_eq:∀(trs:List (TE×TE)) (σ:L2.St) (H:Hp) (Q:List (V×V)->Hp->Prop),taP trs σ H (λvs H'=>Q (prU vs) H')=tPairs trs σ H Q
 |[],_,_,_=>rfl
 |(k,v)::r,σ,H,Q=>congrArg (k σ H) (funext λx=>funext λH1=>congrArg (v σ H1) (funext λy=>funext λH2=>tp_eq r σ H2 λps H3=>Q ((x,y)::ps) H3))
def prD:List D->Option (List Key×List D)
 |[]=>uN ([],[])
 |[_]=>uO
 |k::d::r=>(keyD k).bind λk=>(prD r).map λq=>(k::q.1,d::q.2)
def dspD (ds:List D):Mo D:=(Mo.opt (prD ds)).bind λq=>.grd (q.1.Nodup/\q.1.length<=15) (.ok (.nd (.dct q.1) q.2))
theorem zqD_ {d:D}{v:V}{h:Hp}{k:Key}(e:keyD d=uN k)(o:OD K d v F h):(∀p,h p=uO)/\v=kV k:=by
 cases d with
 |nd=>cases e
 |_=>unfold OD at o;exact⟨o.1,(zkS_ e o.2).2⟩
theorem zng_:∀{ds:List D}{vs:List V}{h:Hp}{ks:List Key}{es:List D},prD ds=uN (ks,es)->ODs K ds vs F h->∃us,prU vs=(ks.zip us).map (λkv=>(kV kv.1,kv.2))/\ks.length=us.length/\ODs K es us F h
 |[],vs,h,ks,es,e,o=>by
  cases e;have o':=o;unfold ODs at o';rw[o'.1]at o ⊢;exact⟨[],rfl,rfl,o⟩
 |[_],_,_,_,_,e,_=>by cases e
 |k::d::r,vs,h,ks,es,e,o=>by
  unfold prD at e;obtain⟨k',e1,e⟩:=lp.mp e;obtain⟨q,e2,e3⟩:=lq.mp e;cases e3;unfold ODs at o;obtain⟨v,vs,h1,h2,rfl,j,ok,o⟩:=o;obtain⟨n1,rfl⟩:=zqD_ e1 ok;cases jn_no (z0_ j) n1;unfold ODs at o;obtain⟨v,vs,m1,m2,rfl,jm,od,o⟩:=o;obtain⟨us,p1,p2,p3⟩:=zng_ (ks:=q.1) (es:=q.2) e2 o;refine⟨v::us,?_,by simpa using p2,?_⟩
  ·show(_,_)::prU vs=_
   rw[p1];rfl
  ·unfold ODs;exact⟨v,us,m1,m2,rfl,jm,od,p3⟩
theorem zfJ_:∀(kvs acc:List (Key×V)),((acc++kvs).map (·.1)).Nodup->mergeK acc kvs=acc++kvs
 |[],acc,_=>by rw[oO];rfl
 |(k,v)::r,acc,h=>by
  show mergeK (putK acc k v) r=_
  have hk:(acc.any λkv=>decide (kv.1=k))=uQ:=by
   rw[rF];intro x hx z;rw[om,qf]at h;exact h.2.2 _ (List.mem_map_of_mem hx) k (by simp) (of_decide_eq_true z)
  have e:putK acc k v=acc++[(k,v)]:=by unfold putK;rw[hk];rfl
  rw[e,zfJ_ r (acc++[(k,v)]) (by rw[nu];exact h),nu];rfl
theorem ziR_ {trs:List (TE×TE)}{ra:Mo (List D)}(h:EvAs K (taP trs) E env ra):EvX K (tDisp trs) E env (ra.bind dspD):=by
 intro σ F H Q hL hs q p hp;have sn:=zP_ (H:=H) hp (.dK []);have x0:Ext F H F (upd H p (.dK [])):=.heap hs sn;rw[<- tp_eq];refine h σ F (upd H p (.dK [])) _ hL x0.2.1 ?_;cases e:ra with
 |no=>rw[e]at q;exact q
 |ex c=>rw[e]at q;exact λF' H' x=>(q F' H' (x0.trans x)).up x0.2.2.1
 |ok ds=>
  rw[e]at q;have q:After K (dspD ds) E F H (OwnK (owD K) H Q):=q;unfold dspD at q;cases e2:prD ds with
  |none=>rw[e2]at q;exact q.elim
  |some r=>
   obtain⟨ks,es⟩:=r;rw[e2]at q;obtain⟨⟨nd,gZ⟩,q⟩:=After.grd (show After K (.grd (ks.Nodup/\ks.length<=15) (.ok (D.nd (.dct ks) es))) E F H (OwnK (owD K) H Q)from q)
   intro F2 H2 x2 vs k cu dE s1 o1;obtain⟨us,p1,p2,o2⟩:=zng_ e2 o1;have cH:H2 p=uN (.dK []):=x2.2.2.1 _ _ ze_;have hF:F p=uO:=hs.free hp;have iR:F2 p=uO:=by
    cases y:F2 p with
    |none=>rfl
    |some o'=>
     have:=x2.2.2.2 p hF (by rw[y];exact sN _)
     rw[ze_]at this;cases this
   have nk:k p=uO:=by
    cases z:k p with
    |none=>rfl
    |some o=>have:=cu p (by rw[z];exact sN _);rw[ze_]at this;cases this
   refine⟨cH,ks.zip us,p1,by rw[mF,<- p2,ox];exact gZ,?_⟩
   have em:((ks.zip us).map (·.1))=ks:=List.map_fst_zip (by lia)
   rw[zfJ_ _ [] (by rw[nC,em];exact nd),nC]
   have ne:∀{G:Hp}{b:k9}{o:HO},G p=uO->G b=uN o->b≠p:=λg z e=>by rw[e,g]at z;cases z
   have xx:Ext F H F2 (upd H2 p (.dK (ks.zip us))):=⟨x2.1,λb o z=>by rw[zc_ (ne iR z)];exact x2.2.1 _ _ z,λb o z=>by rw[zc_ (ne hp z)];exact x2.2.2.1 _ _ (sn _ _ z),λb a1 a2=>sn.free (x2.2.2.2 b a1 a2)⟩
   have d1:Dj (one p (.dK (ks.zip us))) k:=λq=>by
    rw[zb_];split
    ·rename_i e;rw[e];exact .inr nk
    ·exact .inl rfl
   refine q F2 _ xx (.ref p) (un (one p (.dK (ks.zip us))) k) (λq z=>?_) (λq=>?_) (λq o z=>?_) ?_
   ·unfold un at z;rw[zb_]at z
    by_cases e:q=p
    ·subst e;exact hp
    ·rw[if_neg e]at z;exact sn.free (cu q z)
   ·unfold un;rw[zb_]
    by_cases e:q=p
    ·subst e;exact .inl iR
    ·rw[if_neg e];exact dE q
   ·unfold un at z;rw[zb_]at z
    by_cases e:q=p
    ·subst e;rw[if_pos rfl]at z;cases z;exact ze_
    ·rw[if_neg e]at z;rw[zc_ e];exact s1 _ _ z
   ·show OD K _ _ _ _
    unfold OD;exact⟨p,us,_,k,rfl,⟨rfl,p2,nd⟩,z6_ d1,o2⟩
def eqsD:List D->List D->Option (List Bool)
 |[],[]=>uN []
 |d::ds,e::es=>(eqT 12 d e).bind λc=>(eqsD ds es).map λr=>c::r
 |_,_=>uO
def nedD (a b:D):Mo D:=match a.un,b.un with
 |.nd (.dct ks) ds,.nd (.dct iC) es=>.grd (ks=iC) ((Mo.opt (eqsD ds es)).bind λbs=>.ok (.bl (!(bs.all id))))
 |_,_=>.no
theorem eqs_L:∀{ds es:List D}{us ws:List V}{bs:List Bool},eqsD ds es=uN bs->DRs K ds us H->DRs K es ws H->EqL K H 12 us ws bs
 |[],[],us,ws,bs,e,h,g=>by unfold DRs at h g;subst h g;cases e;exact mN
 |[],_::_,_,_,_,e,_,_=>by cases e
 |_::_,[],_,_,_,e,_,_=>by cases e
 |d::ds,e::es,us,ws,bs,h,g,g'=>by
  unfold eqsD at h;obtain⟨c,e1,h⟩:=lp.mp h;obtain⟨r,e2,rfl⟩:=lq.mp h;unfold DRs at g g';obtain⟨v,vs,rfl,a,q⟩:=g;obtain⟨v',bc,rfl,a',q'⟩:=g';exact⟨zqh_ e1 a a',eqs_L e2 q q'⟩
theorem znZ_:Op2D K (mNeDL K) E nedD:=by
 intro a b x y F H Q hs h1 h2 k;have d1:=DR.un (K:=K) h1;have d2:=DR.un (K:=K) h2;unfold nedD at k;split at k
 ·rename_i ks ds iC es e1 e2
  rw[e1]at d1;rw[e2]at d2;obtain⟨eq,k'⟩:=After.grd k;subst eq;obtain⟨p,us,rfl,n,r⟩:=d1.nd;obtain⟨p',bF,rfl,n',r'⟩:=d2.nd;obtain⟨bs,e3,k''⟩:=After.opt k'.bind;refine⟨ks,us,bF,bs,hs _ _ n.1,hs _ _ n'.1,n.2.2,n.2.1,n'.2.1,eqs_L e3 (r.mono hs) (r'.mono hs),?_⟩;have k3:After K (.ok (D.bl (!(bs.all id)))) E F H (OwnK (owD K) H Q):=k'' F H (Ext.refl hs);exact k3 F H (Ext.refl hs) _ (λ_=>uO) (λp z=>absurd rfl z) (λp=>.inr rfl) (λp o z=>by cases z) (by show OD K _ _ _ _;unfold OD DR;exact⟨λ_=>rfl,rfl⟩)
 ·exact k.elim
theorem ziP_ {x:V}:∀{d:D},d.un.flat?=uN x->DR K d x F
 |.fz d,e=>by unfold DR;exact ziP_ (d:=d) e
 |.non,e=>by cases e;unfold DR;rfl
 |.bl _,e=>by cases e;unfold DR;rfl
 |.int _,e=>by cases e;unfold DR;rfl
 |.str _,e=>by cases e;unfold DR;rfl
 |.nd _ _,e=>by cases e
 |.pin _,e=>by cases e
 |.gone,e=>by cases e
theorem zgk_:∀{dv:List D}{au:List V},flats dv=uN au->DRs K dv au F
 |[],_,e=>by cases e;unfold DRs;rfl
 |d::dv,_,e=>by
  unfold flats at e;obtain⟨x,e1,e⟩:=lp.mp e;obtain⟨xs,e2,rfl⟩:=lq.mp e;unfold DRs;exact⟨x,xs,rfl,ziP_ e1,zgk_ e2⟩
theorem ex_no {t:TE}:EvX K t E env .no:=λ_ _ _ _ _ _ q=>q.elim
variable {d:D}{Q:VK}{r1:Mo D}
theorem zlg_ {X:Cx}{elts:List lF}{kk:Nat}{cV:Pos}{a b:lF}{ta:TA}{p pos:Pos}(hm:Gb X.mg "zip")(ha:PA X [a,b] ta)(hg:Gl X "zip")(hs:lW [a,b] X.env=[(uQ,eval a X.env),(uQ,eval b X.env)])(aQ:lW [b] X.env=[(uQ,eval b X.env)]):
  PI X (.Tuple elts kk cV) (.Call (.Name "zip" p) [a,b] [] pos) (λσ H R=>ta σ H λvs H1=>match vs with
   |[.ref a,.str x]=>(∃xs,SqL X.K H1 a xs)/\R (ItzS X.K a x.cps.size (sgn x)) H1
   |_=>False):=by
 intro pins s σ H R I h;refine Call_ (zde_ I hg hm (u:=.type "zip") (by rfl) (mW (thn (ha pos pins s σ H _ I h) λus s1 ae=>?_) (by rw[hs,aQ]) (by rw[aQ];rfl)))
 obtain⟨vs,H1,I1,r1,q1⟩:=ae
 try dsimp only at q1
 have lo:∀b∈[s1.heap.objs.size+4,s1.heap.objs.size+2,s1.heap.objs.size+3,s1.heap.objs.size,s1.heap.objs.size+1],s1.heap.objs.size<=b:=λb hb=>by
  simp only[lI,o8,or_false]at hb;rcases hb with rfl |rfl |rfl |rfl |rfl<;>first |exact rY _ _ |exact kZ _
 split at q1
 ·rename_i l x
  obtain⟨⟨xs,hq⟩,q⟩:=q1;obtain⟨w1,w2,rfl,r,r'⟩:=vals2 r1;cases r;obtain⟨t,rfl⟩:=r';obtain⟨aa,rv,p1,hz⟩:=I1.list hq;refine zlG_ p1.isList λh' iE b8 cq h1 h2 hk=>?_
  refine wpAny_pyIter_zip (s:={s1 with heap:=h'}) iE ?_;have I2:Inv X pins σ H1 {s1 with heap:=h'}:=I1.kept (t':=s1.toks) hk;have la:l<s1.heap.objs.size:=by obtain⟨o,e,_⟩:=p1.isList;exact lh e
  refine⟨s1.heap.objs.size+4,[s1.heap.objs.size+4,s1.heap.objs.size+2,s1.heap.objs.size+3,s1.heap.objs.size,s1.heap.objs.size+1],_,_,H1,rfl,I2,zio_ _ _ _ _ _ l x t (zkq_ la) (lN la),⟨iE,b8,⟨_,_,cq⟩,h1,h2⟩,λb hb=>?_,q⟩
  exact I1.fpOk (lo b hb) (I1.hok.fresh (lo b hb))
 ·exact q1.elim
theorem zlY_:∀{is:List Int}{us:List V},Prs tyInt F is us->us=is.map .int
 |_,_,.nil=>rfl
 |_,_,.cons a r=>by cases a;rw[lj,<- zlY_ r]
theorem zi6_:∀{ks:List Key}{is:List Int}{us:List V},keysI ks=uN is->ks.length=us.length->((ks.zip us).map λq=>kV q.1)=is.map .int
 |[],is,us,h,e=>by cases h;rfl
 |.inl i::ks,is,[],h,e=>by cases e
 |.inl i::ks,is,u::us,h,e=>by
  unfold keysI at h;obtain⟨kq,h',rfl⟩:=lq.mp h;rw[l0,lj,lj,zi6_ h' (by simpa using e)];rfl
 |.inr _::_,_,_,h,_=>by cases h
theorem zmp_ {ns aX:List Int}(p:aX.Perm ns)(s:aX.Pairwise (·<=·)):aX=srtL ltI ns:=zbD_ zk4_ p (s.imp λ{a b} h=>by show decide _=uQ;exact decide_eq_false (by lia))
theorem ziQ_ (l:List Int):(l.map D.int).map D.vw=l.map D.int:=by rw[l8];rfl
theorem zke_:BlD K (mSortI K) E sortI:=zeS_ λd v F H Q hs hd q=>by
 split at q
 ·obtain⟨p,us,rfl,n,r⟩:=hd.nd
  split at q
  rotate_left
  ·exact q.elim
  rename_i is e
  unfold srtI at q;obtain⟨c,q⟩:=q.grd;refine⟨is,.inl ?_,c,λaX hp c8 l hl=>?_⟩
  ·rw[<- zlY_ (zfV_ e r)];exact .of (hs _ _ n)
  ·rw[zmp_ hp c8];exact newL (by rw[ziQ_];exact q) hs hl (zbC_ _)
 ·obtain⟨p,us,rfl,n,r⟩:=hd.nd
  split at q
  rotate_left
  ·exact q.elim
  rename_i is e
  unfold srtI at q;obtain⟨c,q⟩:=q.grd;refine⟨is,.inr ⟨_,hs _ _ n.1,zi6_ e n.2.1⟩,c,λaX hp c8 l hl=>?_⟩
  rw[zmp_ hp c8];exact newL (by rw[ziQ_];exact q) hs hl (zbC_ _)
 ·exact q.elim
end
structure Gi where
 cs:List Str
 kt:List (Str×List (List Nat)):=[]
structure Gi.Ok (G:Gi)(K:lY):Prop where
 cs:G.cs≠[]
 kt:∀q∈G.kt,SqU K (gA K q.1) (q.2.map tx)
inductive Bo where
 |add |sub |mul |mod |div |pow |lt |le |gt |ge |eq |ne |is |isn |inn |nin |ix |ned
inductive Bf where
 |len |list |min |str |all |sorted
inductive Sm where
 |join |index |zfill
inductive Ik where
 |any |r1 |r2 |en |zip
inductive X where
 |v (i:Nat)|k (d:D)|g (x:Str) (d:D)
 |gt (x:Str) (ls:List (List Nat))
 |bin (o:Bo) (a b:X)|ch (o o':Bo) (a b c:X)
 |and (a b:X)|or (a b:X)|not (a:X)|neg (a:X)|ifx (c a b:X)
 |sl (a:X) (lo hi:Option X)
 |tup (as:List X)|lst (as:List X)
 |fld (a:X) (f:Str)
 |call (f:Fn) (x:Str) (as:List X)
 |bf (o:Bf) (as:List X)
 |sm (o:Sm) (a:X) (as:List X)
 |comp (lv:List Str) (fr:List (Str×Nat)) (ik:Ik) (src:List X) (tg:Tg) (c:Option X) (e:X)
 |lr (a b:X)
 |srt (p:Str) (fr:List (Str×Nat)) (i:Nat) (e:X)
 |mkd (f:Fn) (c:Str) (as:List X) (dv:List D)
 |ds1 (k v:X)|ds2 (k v l w:X)
 |isa (a:X) (n:String)|dct0 |ch3 (o o' aJ:Bo) (a b c d:X)
def Bo.r (K:lY):Bo->R2
 |.add=>mAddA K |.sub=>mSub |.mul=>mMulX |.mod=>mMod |.div=>mDivG |.pow=>mPow
 |.lt=>mLt |.le=>mLe |.gt=>mGt |.ge=>mGe |.eq=>mEqA K |.ne=>mNeA K |.is=>mIs |.isn=>mIsNot
 |.inn=>rInA K uQ |.nin=>rInA K uP |.ix=>rIxA K |.ned=>mNeDL K
def Bo.f:Bo->D->D->Mo D
 |.add=>addA |.sub=>subD |.mul=>mulD |.mod=>modD |.div=>divD |.pow=>powD
 |.lt=>ltD |.le=>leD |.gt=>gtD |.ge=>geD |.eq=>eqD uQ |.ne=>eqD uP |.is=>isD uQ |.isn=>isD uP
 |.inn=>inA uQ |.nin=>inA uP |.ix=>ixA |.ned=>nedD
def Bf.r (K:lY):Bf->List V->Hp->VK->Prop
 |.len=>mLenA K |.list=>mListA K |.min=>mTwo Min.min |.str=>mStr |.all=>mAll K |.sorted=>mSortI K
def Bf.f:Bf->List D->Mo D
 |.len=>lenA |.list=>listA |.min=>minD |.str=>strD |.all=>allD |.sorted=>sortI
def Sm.r (K:lY):Sm->V->List V->Hp->VK->Prop
 |.join=>mJoin K |.index=>mIndex |.zfill=>mZfill
def Sm.f:Sm->List Nat->List D->Mo D
 |.join=>joinD |.index=>indexD |.zfill=>zfillD
def Ik.w (K:lY):Ik->List V->L2.St->Hp->(It->Hp->Prop)->Prop
 |.any=>iAnyW K
 |.r1=>λvs _ H1 R=>match vs with |[.int j] => -(2 ^ 62)<=j/\j<2 ^ 62/\R (Itr 0 j.toNat) H1 |_=>False
 |.r2=>λvs _ H1 R=>match vs with |[.int i,.int j]=>(-(2 ^ 62)<=i/\i<2 ^ 62 /\ -(2 ^ 62)<=j/\j<2 ^ 62)/\R (Itr i (j-i).toNat) H1 |_=>False
 |.en=>λvs _ H1 R=>match vs with |[.str z]=>R (Ites z.cps.toList.length (λi=>tx [z.cps.toList.getD i 0])) H1 |[.ref a]=>(∃xs,SqL K H1 a xs)/\R (Ite K a) H1 |_=>False
 |.zip=>λvs _ H1 R=>match vs with
  |[.ref a,.str x]=>(∃xs,SqL K H1 a xs)/\R (ItzS K a x.cps.size (sgn x)) H1
  |_=>False
def Ik.t (K:lY)(o:Ik)(ta:TA):TI:=λσ H R=>ta σ H λvs H1=>o.w K vs σ H1 R
def Ik.f:Ik->List D->Mo (List D)
 |.any=>walkA |.r1=>rng1D |.r2=>rng2D |.en=>enumD |.zip=>zipD
theorem ik_w {K:lY}{E:XK}(o:Ik):WkW K E (o.w K) o.f:=by
 cases o with
 |any=>exact w_any
 |r1=>exact w_rg1
 |r2=>exact w_rg2
 |en=>exact w_en
 |zip=>exact w_zip
theorem ik_ok {K:lY}{E:XK}{env:Env}{ta:TA}{ra:Mo (List D)}(o:Ik)(h:EvAs K ta E env ra):EvI K (o.t K ta) E (Lof K env) (ra.bind o.f) (tyD K):=ei_w (ik_w o) h
section
variable (K:mB)(G:Gi)
mutual
def X.den:XK->X->TE
 |_,.v i=>mVar i
 |_,.k d=>tC (d.flat?.getD .non)
 |_,.g _ d=>tC (d.flat?.getD .non)
 |_,.gt x _=>tC (.ref (gA K x))
 |E,.bin o a b=>tOp (o.r K) (a.den E) (b.den E)
 |E,.ch o o' a b c=>mChain (o.r K) (o'.r K) (a.den E) (b.den E) (c.den E)
 |E,.and a b=>mAndV (a.den E) (b.den E)
 |E,.or a b=>mOrV (a.den E) (b.den E)
 |E,.not a=>mNotV (a.den E)
 |E,.neg a=>mNeg (a.den E)
 |E,.ifx c a b=>mIf (mTest (c.den E)) (a.den E) (b.den E)
 |E,.sl a lo hi=>tSl (mSlA K) (a.den E) (X.denO E lo) (X.denO E hi)
 |E,.tup as=>tTup (X.dens E as)
 |E,.lst as=>tLst (X.dens E as)
 |E,.fld a f=>tFld K G.cs (a.den E) f
 |E,.call f _ as=>tCall (CtG K f) [] E (X.dens E as)
 |E,.bf o as=>tCB (o.r K) (X.dens E as)
 |E,.sm o a as=>tBM K "str" (o.r K) (a.den E) (X.dens E as)
 |E,.comp lv fr ik src tg c e=>tComp lv fr (ik.t K (X.dens E src)) (tgT K tg) (X.denT E0 c) (e.den E0)
 |E,.lr a b=>tCB (mList K) (tCons (tCB mRange (tCons (a.den E) (tCons (b.den E) tNil))) tNil)
 |_,.srt _ fr i e=>tSrt K fr i (e.den E0)
 |E,.mkd f c as dv=>tMake (gA K c) (CtG K f) ((flats dv).getD []) E (X.dens E as)
 |E,.ds1 a0 b0=>tDisp [(a0.den E,b0.den E)]
 |E,.ds2 a0 b0 c0 d0=>tDisp [(a0.den E,b0.den E),(c0.den E,d0.den E)]
 |E,.isa a n=>tCB (mIsaV K) (tCons (a.den E) (tCons (tC (.ty n)) tNil))
 |_,.dct0=>tDNewK
 |E,.ch3 o o' aJ a b c d=>mChain3 (o.r K) (o'.r K) (aJ.r K) (a.den E) (b.den E) (c.den E) (d.den E)
def X.dens:XK->List X->TA
 |_,[]=>tNil
 |E,a::as=>tCons (a.den E) (X.dens E as)
def X.denO:XK->Option X->TO
 |_,uO=>tNoPart
 |E,uN a=>mPart (a.den E)
def X.denT:XK->Option X->TT
 |_,uO=>tTrue
 |E,uN a=>mTest (a.den E)
end
end
def chD (o o':Bo)(x y:D)(r:Mo D):Mo D:=(o.f x y).bind λz=>(blD z).bind λb=>if b then r.bind λw=>o'.f y w else .ok (.bl uQ)
def ch3D (o o' aJ:Bo)(x y:D)(r s:Mo D):Mo D:=(o.f x y).bind λz=>(blD z).bind λb=>if b then r.bind λw=>chD o' aJ y w s else .ok (.bl uQ)
section
variable (G:Gi)
mutual
def X.ev:Env->X->Mo D
 |env,.v i=>getE env i
 |_,.k d=>if d.flat?.isSome then .ok d else .no
 |_,.g _ d=>if d.flat?.isSome then .ok d else .no
 |_,.gt x ls=>if(x,ls)∈G.kt then .ok (.nd .ktup (ls.map .str))else .no
 |env,.bin o a b=>(a.ev env).bind λx=>(b.ev env).bind λy=>o.f x y
 |env,.ch o o' a b c=>(a.ev env).bind λx=>(b.ev env).bind λy=>chD o o' x y (c.ev env)
 |env,.and a b=>(a.ev env).bind λx=>andD x (b.ev env)
 |env,.or a b=>(a.ev env).bind λx=>orD x (b.ev env)
 |env,.not a=>(a.ev env).bind λx=>(blD x).bind λb=>.ok (.bl (!b))
 |env,.neg a=>(a.ev env).bind negD
 |env,.ifx c a b=>((c.ev env).bind blD).bind λt=>if t then a.ev env else b.ev env
 |env,.sl a lo hi=>(a.ev env).bind λx=>(X.evO env lo).bind λl=>(X.evO env hi).bind λh=>slA x l h
 |env,.tup as=>(X.evs env as).bind λds=>.lim ds.length (.ok (.nd .tup ds))
 |env,.lst as=>(X.evs env as).bind λds=>.lim ds.length (.ok (.nd .lst ds))
 |env,.fld a f=>(a.ev env).bind (fldD G.cs f)
 |env,.call f _ as=>(X.evs env as).bind λds=>f.val (ds.map .vw)
 |env,.bf o as=>(X.evs env as).bind o.f
 |env,.sm o a as=>(a.ev env).bind λd=>(strOf d).bind λl=>(X.evs env as).bind λc=>o.f l c
 |env,.comp lv fr ik src tg c e=>if tg.is.all (·<lv.length)then(((X.evs env src).bind ik.f).bind λl=>.opt (tgsD tg l)).bind λxs=>(compM (λx=>cond1 (X.evT (setE (cE lv fr env) tg.is x) c) (e.ev (setE (cE lv fr env) tg.is x))) xs []).bind λys=>.ok (.nd .lst ys)else .no
 |env,.lr a b=>(a.ev env).bind λx=>(b.ev env).bind λy=>lrD x y
 |env,.srt p fr i e=>(getE env i).bind λd=>(strL d).bind λls=>.grd (ls.length<64) ((compM (λx=>cond1 (.ok uP) (e.ev (setE (cE [p] fr env) [0] x))) (ls.map λl=>[D.str l]) []).bind λks=>srtK ls ks)
 |env,.mkd f c as dv=>if(flats dv).isSome then(X.evs env as).bind λds=>makeD f c (ds++dv)else .no
 |env,.ds1 a0 b0=>(a0.ev env).bind λa=>(b0.ev env).bind λb=>dspD [a,b]
 |env,.ds2 a0 b0 c0 d0=>(a0.ev env).bind λa=>(b0.ev env).bind λb=>(c0.ev env).bind λc=>(d0.ev env).bind λd=>dspD [a,b,c,d]
 |env,.isa a n=>(a.ev env).bind (isaD n)
 |_,.dct0=>.ok (.nd (.dct []) [])
 |env,.ch3 o o' aJ a b c d=>(a.ev env).bind λx=>(b.ev env).bind λy=>ch3D o o' aJ x y (c.ev env) (d.ev env)
def X.evs:Env->List X->Mo (List D)
 |_,[]=>.ok []
 |env,a::as=>(a.ev env).bind λd=>(X.evs env as).bind λds=>.ok (d::ds)
def X.evO:Env->Option X->Mo (Option Int)
 |_,uO=>.ok uO
 |env,uN a=>(a.ev env).bind λd=>(intD d).bind λi=>.ok (uN i)
def X.evT:Env->Option X->Mo Bool
 |_,uO=>.ok uP
 |env,uN a=>(a.ev env).bind blD
end
end
section
variable {K:mB}{E:XK}{env:Env}{G:Gi}
theorem zkv_ (o:Bo):Op2D K (o.r K) E o.f:=by
 cases o with
 |add=>exact zmR_
 |sub=>exact zn9_
 |mul=>exact zqp_
 |mod=>exact zoO_
 |div=>exact zoc_
 |pow=>exact zoA_
 |lt=>exact od_lt
 |le=>exact od_le
 |gt=>exact od_gt
 |ge=>exact od_ge
 |eq=>exact od_eq
 |ne=>exact od_ne
 |is=>exact od_is
 |isn=>exact zpx_
 |inn=>exact zmt_
 |nin=>exact zmt_
 |ix=>exact zpX_
 |ned=>exact znZ_
theorem bf_ok (o:Bf):BlD K (o.r K) E o.f:=by
 cases o with
 |len=>exact zny_
 |list=>exact zjf_
 |min=>exact zqk_
 |str=>exact zoL_
 |all=>exact zp2_
 |sorted=>exact zke_
theorem sm_ok (o:Sm):MeD K (o.r K) E o.f:=by
 cases o with
 |join=>exact zli_
 |index=>exact zj7_
 |zfill=>exact zkG_
theorem zkB_ {α:Type}{O:Own α}{m:Mo α}{F H:Hp}{Q:VK}(q:After K m E F H (λc F' H'=>∀v,O.fr.R c v F'->Q v H')):After K m E F H (OwnK O H Q):=by
 cases m with
 |no=>exact q
 |ex c=>exact q
 |ok a=>
  intro F' H' x v h' fresh d s o;refine q (un F' h') H' ⟨x.1.trans zX_,λp o e=>?_,x.2.2.1,λp a b=>?_⟩ v (O.frz d o)
  ·unfold un at e
   cases z:F' p with
   |some w=>rw[z]at e;cases e;exact x.2.1 _ _ z
   |none=>rw[z]at e;exact s _ _ e
  ·unfold un at b
   cases z:F' p with
   |some w=>exact x.2.2.2 p a (by rw[z];exact sN _)
   |none=>rw[z]at b;exact fresh p b
theorem ex_ch {o o':Bo}{t1 t2 t3:TE}{r1 r2 r3:Mo D}(h1:EvX K t1 E env r1)(h2:EvX K t2 E env r2)(h3:EvX K t3 E env r3):EvX K (mChain (o.r K) (o'.r K) t1 t2 t3) E env (r1.bind λx=>r2.bind λy=>chD o o' x y r3):=by
 intro σ F H Q hL hs q;refine ex_v h1 σ F H _ hL hs (q.bind.imp λa F1 H1 x1 k1 v1 aM=>?_)
 refine ex_v h2 σ F1 H1 _ (hL.mono x1.1) x1.2.1 (k1.bind.imp λb F2 H2 x2 k2 v2 cX=>?_)
 refine zkv_ o a b v1 v2 F2 H2 _ x2.2.1 ((tyD K).mono x2.1 aM) cX (zkB_ (k2.bind.imp λz F3 H3 x3 k3 w hw=>?_))
 have hz:=DR.un hw;unfold blD at k3;split at k3
 ·rename_i c e
  rw[e]at hz;cases hz.bl;refine⟨λz=>?_,λz=>?_⟩
  ·subst z
   refine ex_v h3 σ F3 H3 _ (hL.mono (x1.1.trans (x2.1.trans x3.1))) x3.2.1 (After.imp (After.bind (show After K (r3.bind λw=>o'.f b w) E F3 H3 _ from k3)) λw F4 H4 x4 k4 v4 dN=>?_)
   exact zkv_ o' b w v2 v4 F4 H4 Q x4.2.1 ((tyD K).mono (x3.1.trans x4.1) cX) dN (k4.imp λa F5 H5 x5 k5=>k5.back (x1.2.2.1.trans (x2.2.2.1.trans (x3.2.2.1.trans x4.2.2.1))))
  ·subst z
   exact gotB (After.imp (show After K (.ok (D.bl uQ)) E F3 H3 (OwnK (owD K) H Q)from k3) λa F5 H5 x5 k5=>k5.back (x1.2.2.1.trans (x2.2.2.1.trans x3.2.2.1))) x3.2.1
 ·exact k3.elim
theorem zoa_ {o o' aJ:Bo}{t1 t2 t3 t4:TE}{r1 r2 r3 r4:Mo D}(h1:EvX K t1 E env r1)(h2:EvX K t2 E env r2)(h3:EvX K t3 E env r3)(h4:EvX K t4 E env r4):EvX K (mChain3 (o.r K) (o'.r K) (aJ.r K) t1 t2 t3 t4) E env (r1.bind λx=>r2.bind λy=>ch3D o o' aJ x y r3 r4):=by
 intro σ F H Q hL hs q;refine ex_v h1 σ F H _ hL hs (q.bind.imp λa F1 H1 x1 k1 v1 aM=>?_)
 refine ex_v h2 σ F1 H1 _ (hL.mono x1.1) x1.2.1 (k1.bind.imp λb F2 H2 x2 k2 v2 cX=>?_)
 refine zkv_ o a b v1 v2 F2 H2 _ x2.2.1 ((tyD K).mono x2.1 aM) cX (zkB_ (k2.bind.imp λz F3 H3 x3 k3 w hw=>?_))
 have hz:=DR.un hw;unfold blD at k3;split at k3
 ·rename_i c e
  rw[e]at hz;cases hz.bl;refine⟨λz=>?_,λz=>?_⟩
  ·subst z
   refine ex_v h3 σ F3 H3 _ (hL.mono (x1.1.trans (x2.1.trans x3.1))) x3.2.1 (After.imp (After.bind (show After K (r3.bind λw=>chD o' aJ b w r4) E F3 H3 _ from k3)) λw F4 H4 x4 k4 v4 dN=>?_)
   refine zkv_ o' b w v2 v4 F4 H4 _ x4.2.1 ((tyD K).mono (x3.1.trans x4.1) cX) dN (zkB_ ((After.bind (show After K ((o'.f b w).bind _) E F4 H4 _ from k4)).imp λz5 F5 H5 x5 k5 w5 jr=>?_))
   have iD:=DR.un jr;unfold blD at k5;split at k5
   ·rename_i c5 e5
    rw[e5]at iD;cases iD.bl;refine⟨λz=>?_,λz=>?_⟩
    ·subst z
     refine ex_v h4 σ F5 H5 _ (hL.mono (x1.1.trans (x2.1.trans (x3.1.trans (x4.1.trans x5.1))))) x5.2.1 (After.imp (After.bind (show After K (r4.bind λw'=>aJ.f w w') E F5 H5 _ from k5)) λw' F6 H6 x6 k6 v6 jt=>?_)
     exact zkv_ aJ w w' v4 v6 F6 H6 Q x6.2.1 ((tyD K).mono (x5.1.trans x6.1) dN) jt (k6.imp λa F7 H7 x7 k7=>k7.back (x1.2.2.1.trans (x2.2.2.1.trans (x3.2.2.1.trans (x4.2.2.1.trans (x5.2.2.1.trans x6.2.2.1))))))
    ·subst z
     exact gotB (After.imp (show After K (.ok (D.bl uQ)) E F5 H5 (OwnK (owD K) H Q)from k5) λa F7 H7 x7 k7=>k7.back (x1.2.2.1.trans (x2.2.2.1.trans (x3.2.2.1.trans (x4.2.2.1.trans x5.2.2.1))))) x5.2.1
   ·exact k5.elim
  ·subst z
   exact gotB (After.imp (show After K (.ok (D.bl uQ)) E F3 H3 (OwnK (owD K) H Q)from k3) λa F5 H5 x5 k5=>k5.back (x1.2.2.1.trans (x2.2.2.1.trans x3.2.2.1))) x3.2.1
 ·exact k3.elim
theorem ex_k {d:D}(i:Str):EvX K (tC (d.flat?.getD .non)) E env (if d.flat?.isSome then .ok d else .no):=by
 cases e:d.flat? with
 |none=>exact λσ F H Q hL hs q=>q.elim
 |some v=>
  intro σ F H Q hL hs q;have q:After K (.ok d) E F H (OwnK (owD K) H Q):=q;show Q v H
  cases d with
  |non=>cases e;exact gotN q hs
  |bl=>cases e;exact gotB q hs
  |int=>cases e;exact gotI q hs
  |str=>cases e;exact gotS q hs
  |_=>cases e
theorem zfD_:∀ls:List (List Nat),D.imms (ls.map .str)=uP
 |[]=>rfl
 |l::ls=>by rw[lj];unfold D.imms;rw[zfD_ ls];rfl
mutual
theorem X.sound (g0:G.Ok K):∀(x:X) (E:XK) (env:Env),EvX K (x.den K G E) E env (x.ev G env)
 |.v i,E,env=>zlP_ i
 |.k d,E,env=>ex_k ""
 |.g x d,E,env=>ex_k x
 |.gt x ls,E,env=>by
  show EvX K _ E env (if _ then _ else _)
  by_cases h:(x,ls)∈G.kt
  ·rw[if_pos h]
   exact ex_c (λF=>by unfold DR;exact⟨_,_,rfl,g0.kt _ h,ziE_ ls⟩) (by unfold D.imm;exact zfD_ ls)
  ·rw[if_neg h];exact λσ F H Q hL hs q=>q.elim
 |.bin o a b,E,env=>ex_op (zkv_ o) (X.sound g0 a E env) (X.sound g0 b E env)
 |.ch o o' a b c,E,env=>ex_ch (X.sound g0 a E env) (X.sound g0 b E env) (X.sound g0 c E env)
 |.and a b,E,env=>zpy_ (X.sound g0 a E env) (X.sound g0 b E env)
 |.or a b,E,env=>ex_or (X.sound g0 a E env) (X.sound g0 b E env)
 |.not a,E,env=>zpc_ (X.sound g0 a E env)
 |.neg a,E,env=>zoe_ (X.sound g0 a E env)
 |.ifx c a b,E,env=>ex_if (zfw_ (X.sound g0 c E env)) (X.sound g0 a E env) (X.sound g0 b E env)
 |.sl a lo hi,E,env=>zqT_ (X.sound g0 a E env) (X.soundO g0 lo E env) (X.soundO g0 hi E env)
 |.tup as,E,env=>zor_ (X.sounds g0 as E env)
 |.lst as,E,env=>zog_ (X.sounds g0 as E env)
 |.fld a f,E,env=>zpj_ g0.cs (X.sound g0 a E env)
 |.call f x as,E,env=>zl3_ (X.sounds g0 as E env)
 |.bf o as,E,env=>ex_cb (bf_ok o) (X.sounds g0 as E env)
 |.sm o a as,E,env=>ex_me (sm_ok o) (X.sound g0 a E env) (X.sounds g0 as E env)
 |.comp lv fr ik src tg c e,E,env=>by
  show EvX K _ E env (if _ then _ else _)
  split
  ·rename_i h
   exact zi8_ (ik_ok ik (X.sounds g0 src E env)) (λi hi=>by simpa using mC.mp h i hi) (λa=>X.soundT g0 c E0 _) (λa=>X.sound g0 e E0 _)
  ·exact λσ F H Q hL hs q=>q.elim
 |.lr a b,E,env=>ex_lr (X.sound g0 a E env) (X.sound g0 b E env)
 |.isa a n,E,env=>zoo_ n (X.sound g0 a E env)
 |.srt p fr i e,E,env=>zpe_ λa=>X.sound g0 e E0 _
 |.mkd f c as dv,E,env=>by
  show EvX K (tMake (gA K c) (CtG K f) ((flats dv).getD []) E _) E env (if(flats dv).isSome then _ else _)
  cases e:flats dv with
  |none=>exact ex_no
  |some au=>exact zqL_ (X.sounds g0 as E env) λF=>zgk_ e
 |.ds1 a0 b0,E,env=>by
  have:=ziR_ (trs:=[(_,_)]) (zaM_ (X.sound g0 a0 E env) (zaM_ (X.sound g0 b0 E env) zgj_));simp only[Mo.bind_assoc]at this;exact this
 |.ds2 a0 b0 c0 d0,E,env=>by
  have:=ziR_ (trs:=[(_,_),(_,_)]) (zaM_ (X.sound g0 a0 E env) (zaM_ (X.sound g0 b0 E env) (zaM_ (X.sound g0 c0 E env) (zaM_ (X.sound g0 d0 E env) zgj_))));simp only[Mo.bind_assoc]at this;exact this
 |.dct0,E,env=>zlO_
 |.ch3 o o' aJ a b c d,E,env=>zoa_ (X.sound g0 a E env) (X.sound g0 b E env) (X.sound g0 c E env) (X.sound g0 d E env)
theorem X.sounds (g0:G.Ok K):∀(as:List X) (E:XK) (env:Env),EvAs K (X.dens K G E as) E env (X.evs G env as)
 |[],E,env=>zgj_
 |a::as,E,env=>zaM_ (X.sound g0 a E env) (X.sounds g0 as E env)
theorem X.soundO (g0:G.Ok K):∀(a:Option X) (E:XK) (env:Env),EvP K (X.denO K G E a) E (Lof K env) (X.evO G env a)
 |none,E,env=>ep_no
 |some a,E,env=>ep_x (X.sound g0 a E env)
theorem X.soundT (g0:G.Ok K):∀(a:Option X) (E:XK) (env:Env),EvT K (X.denT K G E a) E (Lof K env) (X.evT G env a)
 |none,E,env=>znx_
 |some a,E,env=>zfw_ (X.sound g0 a E env)
end
end
mutual
def X.uses:X->List Nat
 |.v i=>[i]
 |.k _=>[]
 |.g _ _=>[]
 |.gt _ _=>[]
 |.bin _ a b=>a.uses++b.uses
 |.ch _ _ a b c=>a.uses++b.uses++c.uses
 |.and a b=>a.uses++b.uses
 |.or a b=>a.uses++b.uses
 |.not a=>a.uses
 |.neg a=>a.uses
 |.ifx c a b=>c.uses++a.uses++b.uses
 |.sl a lo hi=>a.uses++X.usesO lo++X.usesO hi
 |.tup as=>X.usesL as
 |.lst as=>X.usesL as
 |.fld a _=>a.uses
 |.call _ _ as=>X.usesL as
 |.bf _ as=>X.usesL as
 |.sm _ a as=>a.uses++X.usesL as
 |.comp _ fr _ src _ _ _=>X.usesL src++fr.map (·.2)
 |.lr a b=>a.uses++b.uses
 |.isa a _=>a.uses
 |.srt _ fr i _=>i::fr.map (·.2)
 |.mkd _ _ as _=>X.usesL as
 |.ds1 a0 b0=>a0.uses++b0.uses
 |.ds2 a0 b0 c0 d0=>a0.uses++(b0.uses++(c0.uses++d0.uses))
 |.dct0=>[]
 |.ch3 _ _ _ a b c d=>(a.uses++b.uses)++(c.uses++d.uses)
def X.usesL:List X->List Nat
 |[]=>[]
 |a::as=>a.uses++X.usesL as
def X.usesO:Option X->List Nat
 |none=>[]
 |some a=>a.uses
end
def Alike (is:List Nat)(e e':Env):Prop:=∀i∈is,getE e i=getE e' i
theorem Alike.l {is js:List Nat}{e e':Env}(h:Alike (is++js) e e'):Alike is e e':=λi hi=>h i (oX _ hi)
theorem Alike.r {is js:List Nat}{e e':Env}(h:Alike (is++js) e e'):Alike js e e':=λi hi=>h i (lU _ hi)
section
variable {G:Gi}
theorem ziB_ {lv:List Str}{fr:List (Str×Nat)}{e e':Env}(h:Alike (fr.map (·.2)) e e')(j:Nat):getE (cE lv fr e) j=getE (cE lv fr e') j:=by
 unfold cE;by_cases hj:j<lv.length
 ·unfold getE
  rw[mS (by rw[kX];exact hj),mS (by rw[kX];exact hj)]
 ·have hj:=pL hj
  have key:∀e:Env,getE (lv.map (λ_=>uO)++fr.map λq=>(e[q.2]?).join) j=match fr[j-lv.length]? with |some q=>getE e q.2 |none=>.no:=λe=>by
   unfold getE;rw[mP (by rw[kX];exact hj),kX,lu]
   cases fr[j-lv.length]? with
   |none=>rfl
   |some q=>
    rw[Option.map_some];dsimp only;cases e[q.2]? with |none=>rfl |some o=>cases o<;>rfl
  rw[key,key];cases z:fr[j-lv.length]? with
  |none=>rfl
  |some q=>exact h q.2 (nL.mpr ⟨q,mV z,rfl⟩)
theorem zjK_ {e e':Env}{i:Nat}{o:Option D}(hl:e.length=e'.length)(h:∀j,getE e j=getE e' j)(j:Nat):getE (e.set i o) j=getE (e'.set i o) j:=by
 by_cases hj:i=j
 ·subst hj
  unfold getE;rw[nv,nv,if_pos rfl,if_pos rfl,hl]
 ·have:=h j
  unfold getE at this ⊢;rw[lR hj,lR hj];exact this
theorem zcq_:∀{is:List Nat}{ds:List D}{e e':Env},e.length=e'.length->(∀j,getE e j=getE e' j)->∀j,getE (setE e is ds) j=getE (setE e' is ds) j
 |[],_,_,_,_,h=>h
 |_::_,[],_,_,_,h=>h
 |i::is,d::ds,e,e',hl,h=>λj=>zcq_ (is:=is) (ds:=ds) (e:=e.set i (uN d.vw)) (e':=e'.set i (uN d.vw)) (by rw[m6,m6,hl]) (zjK_ hl h) j
theorem zlV_ {lv:List Str}{fr:List (Str×Nat)}{e e':Env}:(cE lv fr e).length=(cE lv fr e').length:=by unfold cE;simp
mutual
theorem X.ev_uses:∀(x:X) {e e':Env},Alike x.uses e e'->x.ev G e=x.ev G e'
 |.v i,e,e',h=>h i (List.mem_singleton_self _)
 |.k d,e,e',h=>rfl
 |.g x d,e,e',h=>rfl
 |.gt x ls,e,e',h=>rfl
 |.bin o a b,e,e',h=>by show Mo.bind _ _=Mo.bind _ _;rw[X.ev_uses a h.l,X.ev_uses b h.r]
 |.ch o o' a b c,e,e',h=>by show Mo.bind _ _=Mo.bind _ _;rw[X.ev_uses a h.l.l,X.ev_uses b h.l.r,X.ev_uses c h.r]
 |.and a b,e,e',h=>by show Mo.bind _ _=Mo.bind _ _;rw[X.ev_uses a h.l,X.ev_uses b h.r]
 |.or a b,e,e',h=>by show Mo.bind _ _=Mo.bind _ _;rw[X.ev_uses a h.l,X.ev_uses b h.r]
 |.not a,e,e',h=>by show Mo.bind _ _=Mo.bind _ _;rw[X.ev_uses a h]
 |.neg a,e,e',h=>by show Mo.bind _ _=Mo.bind _ _;rw[X.ev_uses a h]
 |.ifx c a b,e,e',h=>by show Mo.bind _ _=Mo.bind _ _;rw[X.ev_uses c h.l.l,X.ev_uses a h.l.r,X.ev_uses b h.r]
 |.sl a lo hi,e,e',h=>by show Mo.bind _ _=Mo.bind _ _;rw[X.ev_uses a h.l.l,X.evO_uses lo h.l.r,X.evO_uses hi h.r]
 |.tup as,e,e',h=>by show Mo.bind _ _=Mo.bind _ _;rw[X.evs_uses as h]
 |.lst as,e,e',h=>by show Mo.bind _ _=Mo.bind _ _;rw[X.evs_uses as h]
 |.fld a f,e,e',h=>by show Mo.bind _ _=Mo.bind _ _;rw[X.ev_uses a h]
 |.call f x as,e,e',h=>by show Mo.bind _ _=Mo.bind _ _;rw[X.evs_uses as h]
 |.bf o as,e,e',h=>by show Mo.bind _ _=Mo.bind _ _;rw[X.evs_uses as h]
 |.sm o a as,e,e',h=>by show Mo.bind _ _=Mo.bind _ _;rw[X.ev_uses a h.l,X.evs_uses as h.r]
 |.comp lv fr ik src tg c x,e,e',h=>by
  show(if _ then Mo.bind _ _ else _)=(if _ then Mo.bind _ _ else _)
  rw[X.evs_uses src h.l];have g:∀ds j,getE (setE (cE lv fr e) tg.is ds) j=getE (setE (cE lv fr e') tg.is ds) j:=λds=>zcq_ zlV_ (ziB_ h.r)
  have g1:∀ds,X.evT G (setE (cE lv fr e) tg.is ds) c=X.evT G (setE (cE lv fr e') tg.is ds) c:=λds=>X.evT_uses c λi _=>g ds i
  have g2:∀ds,x.ev G (setE (cE lv fr e) tg.is ds)=x.ev G (setE (cE lv fr e') tg.is ds):=λds=>X.ev_uses x λi _=>g ds i
  have g3:(λds=>cond1 (X.evT G (setE (cE lv fr e) tg.is ds) c) (x.ev G (setE (cE lv fr e) tg.is ds)))=λds=>cond1 (X.evT G (setE (cE lv fr e') tg.is ds) c) (x.ev G (setE (cE lv fr e') tg.is ds)):=funext λds=>by rw[g1,g2]
  rw[g3]
 |.lr a b,e,e',h=>by show Mo.bind _ _=Mo.bind _ _;rw[X.ev_uses a h.l,X.ev_uses b h.r]
 |.isa a n,e,e',h=>by show Mo.bind _ _=Mo.bind _ _;rw[X.ev_uses a h]
 |.srt p fr i x,e,e',h=>by
  show Mo.bind _ _=Mo.bind _ _
  rw[h i (lO ..)];have g:∀ds j,getE (setE (cE [p] fr e) [0] ds) j=getE (setE (cE [p] fr e') [0] ds) j:=λds=>zcq_ zlV_ (ziB_ λi hi=>h i (lL _ hi))
  have g3:(λds=>cond1 (.ok uP) (x.ev G (setE (cE [p] fr e) [0] ds)))=λds=>cond1 (.ok uP) (x.ev G (setE (cE [p] fr e') [0] ds)):=funext λds=>by rw[X.ev_uses x λi _=>g ds i]
  rw[g3]
 |.mkd f c as dv,e,e',h=>by show(if _ then Mo.bind _ _ else _)=(if _ then Mo.bind _ _ else _);rw[X.evs_uses as h]
 |.ds1 a0 b0,e,e',h=>by show Mo.bind _ _=Mo.bind _ _;rw[X.ev_uses a0 h.l,X.ev_uses b0 h.r]
 |.ds2 a0 b0 c0 d0,e,e',h=>by show Mo.bind _ _=Mo.bind _ _;rw[X.ev_uses a0 h.l,X.ev_uses b0 h.r.l,X.ev_uses c0 h.r.r.l,X.ev_uses d0 h.r.r.r]
 |.dct0,e,e',h=>rfl
 |.ch3 o o' aJ a b c d,e,e',h=>by show Mo.bind _ _=Mo.bind _ _;rw[X.ev_uses a h.l.l,X.ev_uses b h.l.r,X.ev_uses c h.r.l,X.ev_uses d h.r.r]
theorem X.evs_uses:∀(as:List X) {e e':Env},Alike (X.usesL as) e e'->X.evs G e as=X.evs G e' as
 |[],e,e',h=>rfl
 |a::as,e,e',h=>by show Mo.bind _ _=Mo.bind _ _;rw[X.ev_uses a h.l,X.evs_uses as h.r]
theorem X.evO_uses:∀(a:Option X) {e e':Env},Alike (X.usesO a) e e'->X.evO G e a=X.evO G e' a
 |none,e,e',h=>rfl
 |some a,e,e',h=>by show Mo.bind _ _=Mo.bind _ _;rw[X.ev_uses a h]
theorem X.evT_uses:∀(a:Option X) {e e':Env},Alike (X.usesO a) e e'->X.evT G e a=X.evT G e' a
 |none,e,e',h=>rfl
 |some a,e,e',h=>by show Mo.bind _ _=Mo.bind _ _;rw[X.ev_uses a h]
end
end
mutual
noncomputable def D.cold:D->Bool
 |.nd .tup ds=>D.colds ds
 |.nd .ktup ds=>D.colds ds
 |.nd _ _=>uQ
 |_=>uP
noncomputable def D.colds:List D->Bool
 |[]=>uP
 |d::ds=>d.cold && D.colds ds
end
section
variable {K:mB}{E:XK}{F F' F0 F1 F2 H0 h h1 h2 h3 k H H' H1 H2:Hp}{d:D}{ds:List D}{v:V}{us vs:List V}{p:k9}{Q:VK}{env:Env}{t:TE}{ws:Ws}{σ:L2.St}{G:Gi}
theorem OD.cold:∀{d:D}{v:V}{h:Hp},d.cold=uP->OD K d v F h->(∀p,h p=uO)/\DR K d v F
 |.nd .tup ds,_,h,z,q=>by
  unfold D.cold at z;unfold OD at q;obtain⟨p,us,h0,h2,e,c,j,r⟩:=q;obtain⟨n,r⟩:=go z r;refine⟨λp=>?_,by unfold DR;exact⟨p,us,e,c.1,r⟩⟩
  rcases j p with⟨_,y⟩|⟨_,y⟩
  ·rw[y,n]
  ·rw[y,c.2]
 |.nd .ktup ds,_,h,z,q=>by
  unfold D.cold at z;unfold OD at q;obtain⟨p,us,h0,h2,e,c,j,r⟩:=q;obtain⟨n,r⟩:=go z r;refine⟨λp=>?_,by unfold DR;exact⟨p,us,e,c.1,r⟩⟩
  rcases j p with⟨_,y⟩|⟨_,y⟩
  ·rw[y,n]
  ·rw[y,c.2]
 |.nd .lst _,_,_,z,_=>by simp[D.cold]at z
 |.nd .scr _,_,_,z,_=>by simp[D.cold]at z
 |.nd (.dct _) _,_,_,z,_=>by simp[D.cold]at z
 |.nd (.obj _ _) _,_,_,z,_=>by simp[D.cold]at z
 |.non,_,_,_,q=>by unfold OD at q;exact q
 |.bl _,_,_,_,q=>by unfold OD at q;exact q
 |.int _,_,_,_,q=>by unfold OD at q;exact q
 |.str _,_,_,_,q=>by unfold OD at q;exact q
 |.fz _,_,_,_,q=>by unfold OD at q;exact q
 |.pin _,_,_,_,q=>by unfold OD at q;exact q
 |.gone,_,_,_,q=>by unfold OD at q;exact q
where go:∀{ds:List D}{us:List V}{h:Hp},D.colds ds=uP->ODs K ds us F h->(∀p,h p=uO)/\DRs K ds us F
 |[],_,_,_,q=>by unfold ODs at q;exact⟨q.2,by unfold DRs;exact q.1⟩
 |d::ds,_,h,z,q=>by
  unfold D.colds at z;obtain⟨z1,z2⟩:=l4.mp z;unfold ODs at q;obtain⟨v,vs,h1,h2,e,j,a,r⟩:=q;obtain⟨n1,a⟩:=OD.cold z1 a;obtain⟨n2,r⟩:=go z2 r;refine⟨λp=>?_,by unfold DRs;exact⟨v,vs,e,a,r⟩⟩
  rcases j p with⟨_,y⟩|⟨_,y⟩
  ·rw[y,n2]
  ·rw[y,n1]
theorem zfp_:∀{d:D},d.imm=uP->d.cold=uP
 |.nd .tup ds,z=>by unfold D.imm at z;unfold D.cold;exact go z
 |.nd .ktup ds,z=>by unfold D.imm at z;unfold D.cold;exact go z
 |.nd .lst _,z=>by simp[D.imm]at z
 |.nd .scr _,z=>by simp[D.imm]at z
 |.nd (.dct _) _,z=>by simp[D.imm]at z
 |.nd (.obj _ _) _,z=>by simp[D.imm]at z
 |.non,_=>rfl
 |.bl _,_=>rfl
 |.int _,_=>rfl
 |.str _,_=>rfl
 |.fz _,_=>rfl
 |.pin _,_=>rfl
 |.gone,_=>rfl
where go:∀{ds:List D},D.imms ds=uP->D.colds ds=uP
 |[],_=>rfl
 |d::ds,z=>by
  unfold D.imms at z;obtain⟨z1,z2⟩:=l4.mp z;unfold D.colds;rw[zfp_ z1,go z2];rfl
theorem zlZ_ (d:D):d.vw.cold=uP:=by
 unfold D.vw;split
 ·exact zfp_ (by assumption)
 ·split<;>rfl
theorem vw_vw (d:D):d.vw.vw=d.vw:=by
 unfold D.vw;by_cases h:d.imm=uP
 ·rw[if_pos h,if_pos h]
 ·rw[if_neg h]
  cases d with
  |fz d=>dsimp only;rw[if_neg h]
  |_=>dsimp only;rw[if_neg (by unfold D.imm;exact h)]
theorem zax_ (ok:Okk F0 H0 F1 h H1)(j:Jn k h2 h)(ax:Okk F1 (less H1 h2) F2 h3 H2):Same F1 F2/\Dj k h3/\Okk F0 H0 F2 (un k h3) H2:=by
 obtain⟨x,d,s,fr,nt⟩:=ok;obtain⟨x2,d2,s2,fk,nt2⟩:=ax;have kh:∀p,k p≠uO->(less H1 h2) p≠uO:=λp z=>by
  cases y:k p with
  |none=>exact absurd y z
  |some o=>
   have n2:h2 p=uO:=by
    rcases j.dj p with w |w
    ·rw[w]at y;cases y
    ·exact w
   rw[z2_ n2,s _ _ (j.l _ _ y)];exact sN _
 have dk:Dj k h3:=λp=>by
  cases y:k p with
  |none=>exact .inl rfl
  |some o=>
   right;cases w:h3 p with
   |none=>rfl
   |some o'=>exact absurd (fk p (by rw[w];exact sN _)) (kh p (by rw[y];exact sN _))
 have g_:Same H0 (less H1 h2):=λp o e=>by
  have n2:h2 p=uO:=by
   cases w:h2 p with
   |none=>rfl
   |some o'=>have:=fr p (by rw[j.r _ _ w];exact sN _);rw[this]at e;cases e
  rw[z2_ n2];exact x.2.2.1 _ _ e
 refine⟨x2.1,dk,⟨x.1.trans x2.1,x2.2.1,g_.trans x2.2.2.1,λp a b=>?_⟩,λp=>?_,λp o e=>?_,λp z=>?_,λp xs e=>?_⟩
 ·cases y:F1 p with
  |some o=>exact x.2.2.2 p a (by rw[y];exact sN _)
  |none=>exact g_.free (x2.2.2.2 p y b)
 ·unfold un
  cases y:k p with
  |none=>exact d2 p
  |some o=>
   left;cases w:F2 p with
   |none=>rfl
   |some o'=>
    have n1:F1 p=uO:=by
     rcases d p with z |z
     ·exact z
     ·rw[j.l _ _ y]at z;cases z
    exact absurd (x2.2.2.2 p n1 (by rw[w];exact sN _)) (kh p (by rw[y];exact sN _))
 ·unfold un at e
  cases y:k p with
  |none=>rw[y]at e;exact s2 _ _ e
  |some o'=>
   rw[y]at e;cases e;refine x2.2.2.1 _ _ ?_;have n2:h2 p=uO:=by
    rcases j.dj p with w |w
    ·rw[w]at y;cases y
    ·exact w
   rw[z2_ n2];exact s _ _ (j.l _ _ y)
 ·unfold un at z
  cases y:k p with
  |none=>rw[y]at z;exact g_.free (fk p z)
  |some o=>exact fr p (by rw[j.l _ _ y];exact sN _)
 ·unfold un at e
  cases y:k p with
  |none=>rw[y]at e;exact nt2 p xs e
  |some o=>rw[y]at e;cases e;exact nt p xs (j.l _ _ y)
theorem zfC_ (ok:Okk F0 H0 F1 h H1)(j:Jn k h2 h):Okk F1 (less H1 h2) F1 h2 H1:=
 zbc_ ok.1.2.1 (dj_r ok.2.1 j) (j.r.trans ok.2.2.1) λp xs e=>ok.2.2.2.2 p xs (j.r _ _ e)
theorem zbM_ {c:Xc}(ok:Okk F0 H0 F1 h H1)(j:Jn k h2 h)(t:Tell K E c H0 F2 H2):Tell K E c (less H1 h2) F2 H2:=by
 refine t.up λp o e=>?_
 have n2:h2 p=uO:=by
  cases w:h2 p with
  |none=>rfl
  |some o'=>have:=ok.2.2.2.1 p (by rw[j.r _ _ w];exact sN _);rw[this]at e;cases e
 rw[z2_ n2];exact ok.1.2.2.1 _ _ e
def frz1 (env:Env)(i:Nat):Env:=match env[i]? with |some (uN d)=>env.set i (uN d.vw)|_=>env
def frzE (env:Env)(is:List Nat):Env:=is.foldl frz1 env
theorem zh3_ {i:Nat}(hL:Hold (LofW K ws env) σ F h)(ok:Okk F0 H0 F h H):∃F' h',Hold (LofW K ws (frz1 env i)) σ F' h'/\Okk F0 H0 F' h' H:=by
 unfold frz1;split
 ·rename_i d hi
  obtain⟨o,k1,k2,e1,j,pp,f⟩:=Hold.atG hL (zbq_ hi);obtain⟨v,rfl,hv,od⟩:=zdb_ pp;obtain⟨o1,o2,o3,o4,o5⟩:=ok;have d1:DR K d v (un F k1):=OD.view zX_ (zd6_ (dj_l o2 j)) od;refine⟨un F k1,k2,?_,⟨o1.1.trans zX_,λp o e=>?_,o1.2.2.1,λp a b=>?_⟩,λp=>?_,j.r.trans o3,λp z=>?_,λp xs e=>o5 p xs (j.r _ _ e)⟩
  ·have:=f (slotW K (ws i) (uN d.vw)) (uN v) (un F k1) (λ_=>uO) k2 zX_ (zcm_ hv (OD.vw (λ_=>rfl) d1)) λp=>.inl ⟨rfl,rfl⟩
   rw[zcl_,zcF_ e1]at this;exact this
  ·unfold un at e
   cases z:F p with
   |some w=>rw[z]at e;cases e;exact o1.2.1 _ _ z
   |none=>rw[z]at e;exact o3 _ _ (j.l _ _ e)
  ·unfold un at b
   cases z:F p with
   |some w=>exact o1.2.2.2 p a (by rw[z];exact sN _)
   |none=>
    rw[z]at b;cases y:k1 p with
    |none=>exact absurd y b
    |some w=>exact o4 p (by rw[j.l _ _ y];exact sN _)
  ·unfold un
   cases z:F p with
   |some w=>
    rcases dj_r o2 j p with y |y
    ·rw[y]at z;cases z
    ·exact .inr y
   |none=>exact j.dj p
  ·cases y:k2 p with
   |none=>exact absurd y z
   |some w=>exact o4 p (by rw[j.r _ _ y];exact sN _)
 ·exact⟨F,h,hL,ok⟩
theorem zge_:∀(is:List Nat) {env:Env}{F h:Hp},Hold (LofW K ws env) σ F h->Okk F0 H0 F h H->∃F' h',Hold (LofW K ws (frzE env is)) σ F' h'/\Okk F0 H0 F' h' H
 |[],env,F,h,hL,ok=>⟨F,h,hL,ok⟩
 |i::is,env,F,h,hL,ok=>by
  obtain⟨F1,h1,a,b⟩:=zh3_ (i:=i) hL ok;exact zge_ is a b
theorem zhw_ (env:Env)(i j:Nat):getE (frz1 env i) j=getE env j:=by
 unfold frz1;split
 ·rename_i d hi
  unfold getE;by_cases e:i=j
  ·subst e;rw[m4 (lD.mp hi).1,hi];dsimp only;rw[vw_vw]
  ·rw[lR e]
 ·rfl
theorem zgo_:∀(is:List Nat) (env:Env) (j:Nat),getE (frzE env is) j=getE env j
 |[],_,_=>rfl
 |i::is,env,j=>(zgo_ is (frz1 env i) j).trans (zhw_ env i j)
def coldE (env:Env):Env:=env.map λo=>o.bind λd=>if d.cold then uN d else uO
def Cold (env:Env)(i:Nat):Prop:=∀d,env[i]?=uN (uN d)->d.cold=uP
theorem zez_ {env:Env}{i j:Nat}(h:i=j\/Cold env j):Cold (frz1 env i) j:=by
 unfold frz1;split
 ·rename_i d hi
  intro d' e;by_cases z:i=j
  ·subst z;rw[m4 (lD.mp hi).1]at e;cases e;exact zlZ_ d
  ·rw[lR z]at e
   rcases h with h |h
   ·exact absurd h z
   ·exact h d' e
 ·rename_i hi
  rcases h with h |h
  ·subst h;exact λd e=>absurd e (hi d)
  ·exact h
theorem zf2_:∀(is:List Nat) {env:Env}{j:Nat},(j∈is\/Cold env j)->Cold (frzE env is) j
 |[],env,j,h=>by rcases h with h |h;exact absurd h (by simp);exact h
 |i::is,env,j,h=>zf2_ is (by
  rcases h with h |h
  ·rcases lI.mp h with h |h
   ·exact .inr (zez_ (.inl h.symm))
   ·exact .inl h
  ·exact .inr (zez_ (.inr h)))
theorem zfv_ {i:Nat}(h:Cold env i):getE (coldE env) i=getE env i:=by
 unfold getE coldE;rw[lu];cases z:env[i]? with
 |none=>rfl
 |some o=>
  cases o with
  |none=>rfl
  |some d=>
   have:=h d z;simp[this]
theorem zfL_ (hL:Hold (LofW K ws env) σ F h):HoldF (Lof K (coldE env)) σ F:=by
 intro i s e;unfold coldE at e;rw[lu,lu]at e;cases z:env[i]? with
 |none=>rw[z]at e;cases e
 |some o=>
  rw[z]at e;cases e;cases o with
  |none=>trivial
  |some d=>
   by_cases c:d.cold=uP
   ·simp only[Option.bind,c,if_true]
    obtain⟨o,k1,k2,e1,j,pp,f⟩:=Hold.atG hL (zbq_ z);obtain⟨v,rfl,hv,od⟩:=zdb_ pp;rw[e1];exact⟨v,rfl,(OD.cold c od).2⟩
   ·simp only[Option.bind,c]
    trivial
def FinE (K:lY)(r:Mr Env D)(E:XK)(ws:Ws)(σ:L2.St)(F0 H0:Hp)(Q:VK):Prop:=match r with
 |.ok d env=>∀v F hr h2 h H,Hold (LofW K ws env) σ F h2->OD K d v F hr->Jn hr h2 h->Okk F0 H0 F h H->Q v H
 |.ex c env=>∀F h H,Hold (LofW K ws env) σ F h->Okk F0 H0 F h H->Tell K E c H0 F H
 |.no=>False
def EvE (K:lY)(t:TE)(E:XK)(ws:Ws)(env:Env)(r:Mr Env D):Prop:=
 ∀F0 H0 σ F h H (Q:VK),Hold (LofW K ws env) σ F h->Okk F0 H0 F h H->FinE K r E ws σ F0 H0 Q->t σ H Q
def FinK (K:lY)(r:Mr Env D)(E:XK)(ws:Ws)(σ:L2.St)(F0 H0 Hs:Hp)(Q:VK):Prop:=match r with
 |.ok d env=>∀v F hr h2 h H,Hold (LofW K ws env) σ F h2->OD K d v F hr->Jn hr h2 h->Okk F0 H0 F h H->Same Hs H->Q v H
 |.ex c env=>∀F h H,Hold (LofW K ws env) σ F h->Okk F0 H0 F h H->Tell K E c H0 F H
 |.no=>False
def EvK (K:lY)(t:TE)(E:XK)(ws:Ws)(env:Env)(r:Mr Env D):Prop:=
 ∀F0 H0 σ F h H (Q:VK),Hold (LofW K ws env) σ F h->Okk F0 H0 F h H->FinK K r E ws σ F0 H0 H Q->t σ H Q
theorem EvK.e {r:Mr Env D}(h:EvK K t E ws env r):EvE K t E ws env r:=λF0 H0 σ F hh H Q hL ok fin=>h F0 H0 σ F hh H Q hL ok (by
 cases r with
 |no=>exact fin
 |ex c e=>exact fin
 |ok d e=>exact λv F hr h2 h H' a b c d _=>fin v F hr h2 h H' a b c d)
def stX (G:Gi)(env:Env)(x:X):Mr Env D:=match x.ev G env with
 |.ok d=>if d.new then .ok d env else .ok d (frzE env x.uses)
 |.ex c=>.ex c env
 |.no=>.no
theorem ek_x (g0:G.Ok K)(x:X):EvK K (x.den K G E) E ws env (stX G env x):=by
 intro F0 H0 σ F h H Q hL ok fin;unfold stX at fin;cases e:x.ev G env with
 |no=>rw[e]at fin;exact fin.elim
 |ex c=>
  rw[e]at fin;refine X.sound g0 x E env σ (un F h) H _ (zcf_ (hL.froz ok.2.1)) ok.thaw ?_;rw[e];exact λF' H' y=>(fin _ _ _ (hL.mono (ok.back y).2.1) (ok.back y).1).back ok y
 |ok d=>
  rw[e]at fin;have fin:FinK K (if d.new then .ok d env else .ok d (frzE env x.uses)) E ws σ F0 H0 H Q:=fin
  by_cases dn:d.new=uP
  ·rw[if_pos dn]at fin
   refine X.sound g0 x E env σ (un F h) H _ (zcf_ (hL.froz ok.2.1)) ok.thaw ?_;rw[e];intro F' H' y v hn fresh dj hs o;obtain⟨o1,hsF,ht⟩:=ok.back y;have kg:Dj (less F' h) hn:=λp=>by
    unfold less;cases z:h p with
    |none=>exact dj p
    |some w=>exact .inl rfl
   have dh:Dj hn h:=zkk_ ok.2.2.1 fresh;refine fin v (less F' h) hn h (un hn h) H' (hL.mono hsF) (OD.newImm ht dn o) (z6_ dh) ⟨o1.1,λp=>?_,λp o e=>?_,λp z=>?_,λp xs z=>?_⟩ y.2.2.1
   ·unfold un
    cases z:hn p with
    |some w=>
     rcases kg p with y |y
     ·exact .inl y
     ·rw[y]at z;cases z
    |none=>exact o1.2.1 p
   ·unfold un at e
    cases z:hn p with
    |some w=>rw[z]at e;cases e;exact hs _ _ z
    |none=>rw[z]at e;exact o1.2.2.1 _ _ e
   ·unfold un at z
    cases y:hn p with
    |some w=>exact ok.1.2.2.1.free (fresh p (by rw[y];exact sN _))
    |none=>rw[y]at z;exact ok.2.2.2.1 p z
   ·unfold un at z
    cases y:hn p with
    |some w=>rw[y]at z;cases z;exact OD.notup o p xs y
    |none=>rw[y]at z;exact ok.2.2.2.2 p xs z
  ·rw[if_neg dn]at fin
   obtain⟨F1,hh,av,aw⟩:=zge_ x.uses hL ok;have al:Alike x.uses (coldE (frzE env x.uses)) env:=λi hi=>(zfv_ (zf2_ x.uses (.inl hi))).trans (zgo_ _ _ _)
   refine X.sound g0 x E (coldE (frzE env x.uses)) σ F1 H _ (zfL_ av) aw.1.2.1 ?_;rw[X.ev_uses x al,e];intro F' H' y v hn fresh dj hs o;have o1:=aw.cold y;have dh:Dj hn hh:=zkk_ aw.2.2.1 fresh;refine fin v F' hn hh (un hn hh) H' (av.mono y.1) o (z6_ dh) ⟨o1.1,λp=>?_,λp o e=>?_,λp z=>?_,λp xs z=>?_⟩ y.2.2.1
   ·unfold un
    cases z:hn p with
    |some w=>
     rcases dj p with y |y
     ·exact .inl y
     ·rw[y]at z;cases z
    |none=>exact o1.2.1 p
   ·unfold un at e
    cases z:hn p with
    |some w=>rw[z]at e;cases e;exact hs _ _ z
    |none=>rw[z]at e;exact o1.2.2.1 _ _ e
   ·unfold un at z
    cases y:hn p with
    |some w=>exact aw.1.2.2.1.free (fresh p (by rw[y];exact sN _))
    |none=>rw[y]at z;exact aw.2.2.2.1 p z
   ·unfold un at z
    cases y:hn p with
    |some w=>rw[y]at z;cases z;exact OD.notup o p xs y
    |none=>rw[y]at z;exact aw.2.2.2.2 p xs z
theorem ee_x (g0:G.Ok K)(x:X):EvE K (x.den K G E) E ws env (stX G env x):=(ek_x g0 x).e
end
noncomputable def apartL:List Nat->List Nat->Bool
 |j::js,i::is=>j != i ||apartL js is
 |_,_=>uQ
theorem zt_ {k:Nd}{ds:List D}{j:Nat}{js:List Nat}{a c:D}(e:ds[j]?=uN c):(D.nd k ds).put (j::js) a=.nd k (ds.set j (c.put js a)):=by rw[D.put,e]
theorem zw_ {k:Nd}{ds:List D}{j:Nat}{js:List Nat}{a:D}(e:ds[j]?=uO):(D.nd k ds).put (j::js) a=.nd k ds:=by rw[D.put,e]
theorem zbp_ {d a:D}{js:List Nat}(h:∀k ds,d≠.nd k ds)(hj:js≠[]):d.put js a=d:=by
 cases js with
 |nil=>exact absurd rfl hj
 |cons j js=>cases d with |nd k ds=>exact absurd rfl (h k ds)|_=>simp[D.put]
theorem zjb_ {d:D}{js:List Nat}(h:∀k ds,d≠.nd k ds)(hj:js≠[]):d.at js=uO:=by
 cases js with
 |nil=>exact absurd rfl hj
 |cons j js=>cases d with |nd k ds=>exact absurd rfl (h k ds)|_=>simp[D.at]
theorem zk2_ (d:D):(∃k ds,d=.nd k ds)\/∀k ds,d≠.nd k ds:=by
 cases d with
 |nd k ds=>exact .inl ⟨k,ds,rfl⟩
 |_=>exact .inr λk ds z=>by cases z
theorem zaE_ {α:Type}{l:List α}{j:Nat}{c x:α}(e:l[j]?=uN c):(l.set j x)[j]?=uN x:=m4 (lD.mp e).1
theorem zi3_:∀(js:List Nat) (d a b:D),(d.put js a).put js b=d.put js b
 |[],d,a,b=>by rw[D.put,D.put]
 |j::js,d,a,b=>by
  rcases zk2_ d with⟨k,ds,rfl⟩|h
  ·cases e:ds[j]? with
   |none=>rw[zw_ e,zw_ e]
   |some c=>rw[zt_ e,zt_ e,zt_ (zaE_ e),pG,zi3_ js c a b]
  ·rw[zbp_ h (by simp),zbp_ h (by simp)]
theorem zgf_:∀(js is:List Nat) (d a b:D),apartL js is=uP->(d.put js a).put is b=(d.put is b).put js a
 |[],_,_,_,_,h=>by cases h
 |_::_,[],_,_,_,h=>by cases h
 |j::js,i::is,d,a,b,h=>by
  rcases zk2_ d with⟨k,ds,rfl⟩|hd
  ·by_cases ij:j=i
   ·subst ij
    cases e:ds[j]? with
    |none=>rw[zw_ e,zw_ e,zw_ e]
    |some c=>rw[zt_ e,zt_ e,zt_ (zaE_ e),zt_ (zaE_ e),pG,pG,zgf_ js is c a b (by simpa [apartL]using h)]
   ·cases e:ds[j]? with
    |none=>
     cases e2:ds[i]? with
     |none=>rw[zw_ e,zw_ e2,zw_ e]
     |some c2=>rw[zw_ e,zt_ e2,zw_ (by rw[lR (λz=>ij z.symm)];exact e)]
    |some c=>
     cases e2:ds[i]? with
     |none=>rw[zt_ e,zw_ e2,zt_ e,zw_ (by rw[lR ij];exact e2)]
     |some c2=>rw[zt_ e,zt_ e2,zt_ (by rw[lR ij];exact e2),zt_ (by rw[lR (λz=>ij z.symm)];exact e),tq _ _ ij]
  ·rw[zbp_ hd (by simp),zbp_ hd (by simp),zbp_ hd (by simp)]
theorem znb_:∀(js:List Nat) (d a x:D),d.at js=uN x->(d.put js a).at js=uN a
 |[],d,a,x,h=>by rw[D.put,D.at]
 |j::js,d,a,x,h=>by
  rcases zk2_ d with⟨k,ds,rfl⟩|hd
  ·cases hk:k.own with
   |false=>rw[zaQ_,hk]at h;cases h
   |true=>
    rw[zaQ_,hk,cond_true]at h;obtain⟨c,e,h⟩:=lp.mp h;rw[zt_ e,zaQ_,hk,cond_true,zaE_ e];exact znb_ js c a x h
  ·rw[zjb_ hd (by simp)]at h;cases h
theorem zfN_:∀(js is:List Nat) (d a:D),apartL js is=uP->(d.put js a).at is=d.at is
 |[],_,_,_,h=>by cases h
 |_::_,[],_,_,h=>by cases h
 |j::js,i::is,d,a,h=>by
  rcases zk2_ d with⟨k,ds,rfl⟩|hd
  ·cases e:ds[j]? with
   |none=>rw[zw_ e]
   |some c=>
    rw[zt_ e,zaQ_,zaQ_];congr 1;by_cases ij:j=i
    ·subst ij
     rw[zaE_ e,e];exact zfN_ js is c a (by simpa [apartL]using h)
    ·rw[lR ij]
  ·rw[zbp_ hd (by simp)]
theorem zce_:∀{js is:List Nat},apartL js is=uP->apartL is js=uP
 |[],_,h=>by cases h
 |_::_,[],h=>by cases h
 |j::js,i::is,h=>by
  unfold apartL at h ⊢;rw[oq]at h ⊢;rcases h with h |h
  ·left;simpa [bne_iff_ne,ne_comm]using h
  ·right;exact zce_ h
noncomputable abbrev Pl:=Nat×List Nat
def apart (q q':Pl):Bool:=q.1 != q'.1 ||apartL q.2 q'.2
def atE (env:Env)(q:Pl):Option D:=match env[q.1]? with |some (uN d)=>d.at q.2 |_=>uO
def putE (env:Env)(q:Pl)(c:D):Env:=match env[q.1]? with |some (uN d)=>env.set q.1 (uN (d.put q.2 c))|_=>env
theorem zi_ {env:Env}{q:Pl}{c d:D}(e:env[q.1]?=uN (uN d)):putE env q c=env.set q.1 (uN (d.put q.2 c)):=by unfold putE;rw[e]
theorem zQ_ {env:Env}{q:Pl}{c:D}(e:∀d,env[q.1]?≠uN (uN d)):putE env q c=env:=by
 unfold putE;split
 ·rename_i d z;exact absurd z (e d)
 ·rfl
theorem ze5_ (env:Env)(i:Nat):(∃d,env[i]?=uN (uN d))\/∀d,env[i]?≠uN (uN d):=by
 cases env[i]? with
 |none=>exact .inr λd z=>by cases z
 |some o=>cases o with |none=>exact .inr λd z=>by cases z |some d=>exact .inl ⟨d,rfl⟩
theorem zif_ (env:Env)(q:Pl)(a b:D):putE (putE env q a) q b=putE env q b:=by
 rcases ze5_ env q.1 with⟨d,e⟩|e
 ·rw[zi_ e,zi_ e,zi_ (zaE_ e),pG,zi3_]
 ·rw[zQ_ e]
theorem zeT_ {env:Env}{q:Pl}{c:D}{i:Nat}(h:q.1≠i):(putE env q c)[i]?=env[i]?:=by
 rcases ze5_ env q.1 with⟨d,e⟩|e
 ·rw[zi_ e,lR h]
 ·rw[zQ_ e]
theorem zL_ {env:Env}{q:Pl}{d:D}(e:env[q.1]?=uN (uN d)):atE env q=d.at q.2:=by unfold atE;rw[e]
theorem zd9_ {env:Env}{q q':Pl}{c:D}(h:apart q q'=uP):atE (putE env q c) q'=atE env q':=by
 unfold apart at h;by_cases e:q.1=q'.1
 ·have h:apartL q.2 q'.2=uP:=by simpa [e]using h
  rcases ze5_ env q.1 with⟨d,z⟩|z
  ·rw[zi_ z,zL_ (d:=d.put q.2 c) (by rw[<- e];exact zaE_ z),zL_ (d:=d) (by rw[<- e];exact z)]
   exact zfN_ _ _ d c h
  ·rw[zQ_ z]
 ·unfold atE;rw[zeT_ e]
theorem znI_ {env:Env}{q:Pl}{a x:D}(h:atE env q=uN x):atE (putE env q a) q=uN a:=by
 rcases ze5_ env q.1 with⟨d,z⟩|z
 ·rw[zL_ z]at h
  rw[zi_ z,zL_ (d:=d.put q.2 a) (zaE_ z)];exact znb_ _ d a x h
 ·unfold atE at h
  split at h
  ·rename_i d e;exact absurd e (z d)
  ·cases h
theorem zhn_ {env:Env}{q q':Pl}{a b:D}(h:apart q q'=uP):putE (putE env q a) q' b=putE (putE env q' b) q a:=by
 unfold apart at h;by_cases e:q.1=q'.1
 ·have h:apartL q.2 q'.2=uP:=by simpa [e]using h
  rcases ze5_ env q.1 with⟨d,z⟩|z
  ·have z':env[q'.1]?=uN (uN d):=by rw[<- e];exact z
   rw[zi_ z,zi_ z',zi_ (d:=d.put q.2 a) (by rw[<- e];exact zaE_ z),zi_ (d:=d.put q'.2 b) (by rw[e];exact zaE_ z'),<- e,pG,pG,zgf_ _ _ d a b h]
  ·have z':∀d,env[q'.1]?≠uN (uN d):=by rw[<- e];exact z
   rw[zQ_ z,zQ_ z',zQ_ z]
 ·rcases ze5_ env q.1 with⟨d,z⟩|z
  ·rcases ze5_ env q'.1 with⟨d2,z2⟩|z2
   ·rw[zi_ z,zi_ z2,zi_ (d:=d2) (by rw[lR e];exact z2),zi_ (d:=d) (by rw[lR (λy=>e y.symm)];exact z),tq _ _ e]
   ·rw[zQ_ z2,zi_ z,zQ_ (by rw[lR e];exact z2)]
  ·rcases ze5_ env q'.1 with⟨d2,z2⟩|z2
   ·rw[zQ_ z,zi_ z2,zQ_ (by rw[lR (λy=>e y.symm)];exact z)]
   ·rw[zQ_ z,zQ_ z2,zQ_ z]
section
variable {K:mB}{E:XK}{F F' F1 F2 h k H H' H1 H2:Hp}{d c:D}{ds:List D}{v u:V}{us:List V}{p:k9}{Q:VK}{env:Env}{t:TE}{σ:L2.St}{G:Gi}{q:Pl}
inductive Pt where
 |v (i:Nat)|f (p:Pt) (n:Str)|s (p:Pt) (x:X)
def Pt.x:Pt->X
 |.v i=>.v i
 |.f p n=>.fld p.x n
 |.s p y=>.bin .ix p.x y
def kIx:List Key->Key->Nat
 |[],_=>0
 |k0::ks,k=>if k0=k then 0 else kIx ks k+1
def stepF (cs:List Str)(n:Str)(c:D):Option Nat:=match c with
 |.nd (.obj c ns) ds=>if c∈cs/\ns.idxOf n<ds.length then uN (ns.idxOf n)else uO
 |_=>uO
def stepS (c d:D):Option Nat:=match c with
 |.nd .lst ds=>(match d.un with |.int i=>(ixN ds.length i).bind λj=>if j<ds.length then uN j else uO |_=>uO)
 |.nd .tup ds=>(match d.un with |.int i=>(ixN ds.length i).bind λj=>if j<ds.length then uN j else uO |_=>uO)
 |.nd (.dct ks) ds=>(keyD d).bind λk=>if kIx ks k<ks.length/\ks.length=ds.length then uN (kIx ks k)else uO
 |_=>uO
def Pt.ev (G:Gi)(env:Env):Pt->Mo Pl
 |.v i=>if(atE env (i,[])).isSome then .ok (i,[])else .no
 |.f p n=>(p.ev G env).bind λq=>.opt ((atE env q).bind λc=>(stepF G.cs n c).map λj=>(q.1,q.2++[j]))
 |.s p x=>(p.ev G env).bind λq=>(x.ev G env).bind λd=>.opt ((atE env q).bind λc=>(stepS c d).map λj=>(q.1,q.2++[j]))
def EvPa (K:lY)(t:TE)(E:XK)(env:Env)(r:Mo Pl):Prop:=∀σ F H (Q:VK),HoldF (Lof K env) σ F->Same F H ->
 (match r with
  |.ok q=>∀F' H' v u c,Ext F H F' H'->σ[q.1]?=uN (uN v)->vAt H' v q.2=uN u->atE env q=uN c->DR K c u H'->Q u H'
  |.ex c=>∀F' H',Ext F H F' H'->Tell K E c H F' H'
  |.no=>False)->t σ H Q
theorem zg0_:∀{ks:List Key}{us:List V}{k:Key}{w:V},us[kIx ks k]?=uN w->kIx ks k<ks.length->valV (ks.zip us) k=uN w
 |[],_,_,_,_,h=>by simp at h
 |k0::ks,[],k,w,h,_=>by simp at h
 |k0::ks,u::us,k,w,h,hl=>by
  unfold valV;rw[l0,m7];unfold kIx at h hl;by_cases e:k0=k
  ·rw[if_pos e]at h;simp at h;subst h
   rw[show decide ((k0,u).1=k)=uP from decide_eq_true e];rfl
  ·rw[if_neg e,nz]at h
   rw[if_neg e]at hl;rw[show decide ((k0,u).1=k)=uQ from decide_eq_false e]
   exact zg0_ h (by simpa using hl)
theorem ziw_ {k:Nd}{ds:List D}{j:Nat}{c:D}(hk:k.own=uP)(hc:ds[j]?=uN c):∀{js:List Nat}{d:D},d.at js=uN (.nd k ds)->d.at (js++[j])=uN c
 |[],d,h=>by rw[D.at]at h;cases h;rw[nC,zaQ_,hk,cond_true,hc];show D.at _ []=_;rw[D.at]
 |i::js,d,h=>by
  rcases zk2_ d with⟨k',ds',rfl⟩|hd
  ·rw[zaQ_]at h
   cases bq:k'.own with
   |false=>rw[bq]at h;cases h
   |true=>
    rw[bq,cond_true]at h;obtain⟨c',e,h⟩:=lp.mp h;rw[mH,zaQ_,bq,cond_true,e];exact ziw_ hk hc h
  ·rw[zjb_ hd (by simp)]at h;cases h
theorem zf5_ {env:Env}{q0:Pl}{k:Nd}{ds:List D}{j:Nat}{c:D}(hk:k.own=uP)(hc:ds[j]?=uN c)(h:atE env q0=uN (.nd k ds)):atE env (q0.1,q0.2++[j])=uN c:=by
 rcases ze5_ env q0.1 with⟨d,hd⟩|hd
 ·rw[zL_ hd]at h
  rw[zL_ (q:=(q0.1,q0.2++[j])) hd];exact ziw_ hk hc h
 ·unfold atE at h;split at h
  ·rename_i d z;exact absurd z (hd d)
  ·cases h
theorem hL_at {i:Nat}{d:D}(hL:HoldF (Lof K env) σ F)(hd:env[i]?=uN (uN d)):∃v,σ[i]?=uN (uN v)/\DR K d v F:=by
 obtain⟨v,ev,rv⟩:=hL i (slot K (uN d)) (by rw[lu,hd];rfl)
 refine⟨v,?_,rv⟩;cases z:σ[i]? with
 |none=>rw[z]at ev;cases ev
 |some o=>rw[z]at ev;cases(show o=uN v from ev);rfl
theorem Pt.sound (g0:G.Ok K):∀(p:Pt) (E:XK) (env:Env),EvPa K (p.x.den K G E) E env (p.ev G env)
 |.v i,E,env=>by
  intro σ F H Q hL hs q;unfold Pt.ev at q;rcases ze5_ env i with⟨d,hd⟩|hd
  ·have ha:atE env (i,[])=uN d:=by rw[zL_ (q:=(i,[])) hd];show d.at []=_;rw[D.at]
   rw[ha]at q;obtain⟨v,hv,rv⟩:=hL_at hL hd;show mVar i σ H Q
   unfold mVar;rw[hv];exact q F H v v d (.refl hs) hv rfl ha (rv.mono hs)
  ·rw[show atE env (i,[])=uO from by
    unfold atE;split
    ·rename_i d z;exact absurd z (hd d)
    ·rfl]at q
   exact q.elim
 |.f p n,E,env=>by
  intro σ F H Q hL hs q;unfold Pt.ev at q;cases e:p.ev G env with
  |no=>rw[e]at q;exact q.elim
  |ex c=>
   rw[e]at q;cases hcs:G.cs with
   |nil=>exact absurd hcs g0.cs
   |cons c0 cs=>exact⟨c0,by rw[hcs];exact lO ..,Pt.sound g0 p E env σ F H _ hL hs (by rw[e];exact q)⟩
  |ok q0=>
   rw[e]at q;dsimp only[Mo.bind]at q;cases e1:atE env q0 with
   |none=>rw[e1]at q;exact q.elim
   |some c=>
    rw[e1]at q;cases e2:stepF G.cs n c with
    |none=>rw[show(Option.bind (uN c) λc=>(stepF G.cs n c).map λj=>(q0.1,q0.2++[j]))=uO from by simp[e2]]at q;exact q.elim
    |some j=>
     rw[show(Option.bind (uN c) λc=>(stepF G.cs n c).map λj=>(q0.1,q0.2++[j]))=uN (q0.1,q0.2++[j])from by simp[e2]]at q
     unfold stepF at e2;split at e2
     ·rename_i cn ns ds
      split at e2
      ·rename_i hz
       cases e2;refine⟨cn,hz.1,Pt.sound g0 p E env σ F H _ hL hs ?_⟩;rw[e];intro F1 H1 v u c' x1 hv hu hc hr;rw[e1]at hc;cases hc;obtain⟨p',us,rfl,nd,r⟩:=hr.nd;rcases r.get (ns.idxOf n)with⟨z,_⟩|⟨d',w,g4,g5,g6⟩
       ·rw[kY hz.2]at z;cases z
       have i_:=nd;obtain⟨dx,g3,gl⟩:=nd;exact⟨dx,_,w,g3,zcD_ g5 gl,q F1 H1 v w d' x1 hv (zdE_ rfl i_ g5 hu) (zf5_ rfl g4 e1) g6⟩
      ·cases e2
     ·cases e2
 |.s p x,E,env=>by
  intro σ F H Q hL hs q;unfold Pt.ev at q;cases e:p.ev G env with
  |no=>rw[e]at q;exact q.elim
  |ex c=>rw[e]at q;exact Pt.sound g0 p E env σ F H _ hL hs (by rw[e];exact q)
  |ok q0=>
   rw[e]at q;refine Pt.sound g0 p E env σ F H _ hL hs ?_;rw[e];intro F1 H1 v u c x1 hv hu hc hr;dsimp only[Mo.bind]at q;cases ex:x.ev G env with
   |no=>rw[ex]at q;exact q.elim
   |ex c=>
    rw[ex]at q;refine X.sound g0 x E env σ F1 H1 _ (hL.mono x1.1) x1.2.1 ?_;rw[ex];exact λF2 H2 x2=>(q F2 H2 (x1.trans x2)).up x1.2.2.1
   |ok d0=>
    rw[ex]at q;dsimp only at q;rw[hc]at q;cases e2:stepS c d0 with
    |none=>rw[show(Option.bind (uN c) λc=>(stepS c d0).map λj=>(q0.1,q0.2++[j]))=uO from by simp[e2]]at q;exact q.elim
    |some j=>
     rw[show(Option.bind (uN c) λc=>(stepS c d0).map λj=>(q0.1,q0.2++[j]))=uN (q0.1,q0.2++[j])from by simp[e2]]at q
     refine ex_v (X.sound g0 x E env) σ F1 H1 _ (hL.mono x1.1) x1.2.1 ?_;rw[ex];intro F2 H2 x2 y hy;have dJ:=DR.un hy;have fK:=hr.mono x2.2.2.1;have fin:∀{k:Nd}{ds:List D}{p':k9}{us:List V},k.own=uP->c=.nd k ds->u=.ref p'->NdR K k p' us H2->DRs K ds us H2->j<ds.length->∃w,us[j]?=uN w/\Q w H2:=λ{k ds p' us} hk ec eu nd r hj=>by
      subst ec;subst eu;rcases r.get j with⟨z,_⟩|⟨d',w,g4,g5,g6⟩
      ·rw[kY hj]at z;cases z
      exact⟨w,g5,q F2 H2 v w d' (x1.trans x2) hv (zdE_ hk nd g5 (zbQ_ x2.2.2.1 hu)) (zf5_ hk g4 hc) g6⟩
     unfold stepS at e2;split at e2
     ·split at e2
      ·rename_i i ei
       rw[ei]at dJ;cases dJ.int;obtain⟨j',ej,e2⟩:=lp.mp e2;split at e2
       ·rename_i hj
        cases e2;obtain⟨p',us,rfl,nd,r⟩:=fK.nd;obtain⟨w,g5,fin⟩:=fin rfl rfl rfl nd r hj;refine .inl ⟨us,.inl (.of nd),?_⟩;rw[show atI us i=uN w from by unfold atI;rw[<- r.len,ej];exact g5];exact fin
       ·cases e2
      ·cases e2
     ·split at e2
      ·rename_i i ei
       rw[ei]at dJ;cases dJ.int;obtain⟨j',ej,e2⟩:=lp.mp e2;split at e2
       ·rename_i hj
        cases e2;obtain⟨p',us,rfl,nd,r⟩:=fK.nd;obtain⟨w,g5,fin⟩:=fin rfl rfl rfl nd r hj;refine .inl ⟨us,.inr (.of nd),?_⟩;rw[show atI us i=uN w from by unfold atI;rw[<- r.len,ej];exact g5];exact fin
       ·cases e2
      ·cases e2
     ·rename_i ks ds
      obtain⟨k,ek,e2⟩:=lp.mp e2;split at e2
      ·rename_i hz
       cases e2;obtain⟨p',us,rfl,nd,r⟩:=fK.nd;obtain⟨w,g5,fin⟩:=fin rfl rfl rfl nd r (by rw[<- hz.2];exact hz.1)
       exact .inr (zdD_ rfl (zkS_ ek hy).1 nd.1 ⟨w,zg0_ g5 hz.1,fin⟩)
      ·cases e2
     ·cases e2
end
def Mr.bind {s α β:Type}(m:Mr s α)(k:α->s->Mr s β):Mr s β:=match m with |.ok a t=>k a t |.ex c t=>.ex c t |.no=>.no
inductive A where
 |x (x:X)|l (p:Pt)
def A.t:A->X
 |.x y=>y
 |.l p=>p.x
inductive Ag where
 |d (d:D)|l (q:Pl)
def evG (G:Gi):Env->List A->Mr Env (List Ag)
 |env,[]=>.ok [] env
 |env,.x x::as=>(stX G env x).bind λd e=>(evG G e as).bind λgs e'=>.ok (.d d::gs) e'
 |env,.l p::as=>match p.ev G env with
  |.ok q=>(evG G env as).bind λgs e'=>.ok (.l q::gs) e'
  |.ex c=>.ex c env
  |.no=>.no
section
variable {K:mB}{E:XK}{F F' F0 F1 F2 H0 h h1 h2 H H' H1 H2:Hp}{d c:D}{ds:List D}{v u:V}{vs:List V}{p:k9}{Q:VK}{env:Env}{t:TE}{ws:Ws}{σ:L2.St}{G:Gi}{q:Pl}{ta:TA}{f:Fn}
def AgR (K:lY)(σ:L2.St)(F H:Hp):List Ag->List V->Hp->Prop
 |[],vs,h=>vs=[]/\∀p,h p=uO
 |.d d::gs,vs,h=>∃v bc h1 h2,vs=v::bc/\Jn h1 h2 h/\OD K d v F h1/\AgR K σ F H gs bc h2
 |.l q::gs,vs,h=>∃u v bc,vs=u::bc/\σ[q.1]?=uN (uN v)/\vAt H v q.2=uN u/\AgR K σ F H gs bc h
def FinG (K:lY)(r:Mr Env (List Ag))(E:XK)(ws:Ws)(σ:L2.St)(F0 H0 Hs:Hp)(Q:List V->Hp->Prop):Prop:=match r with
 |.ok gs env=>∀vs F hA hE h H,Hold (LofW K ws env) σ F hE->AgR K σ F H gs vs hA->Jn hA hE h->Okk F0 H0 F h H->Same Hs H->Q vs H
 |.ex c env=>∀F h H,Hold (LofW K ws env) σ F h->Okk F0 H0 F h H->Tell K E c H0 F H
 |.no=>False
def EvG (K:lY)(t:TA)(E:XK)(ws:Ws)(env:Env)(r:Mr Env (List Ag)):Prop:=
 ∀F0 H0 σ F h H (Q:List V->Hp->Prop),Hold (LofW K ws env) σ F h->Okk F0 H0 F h H->FinG K r E ws σ F0 H0 H Q->t σ H Q
theorem no_l (z:Hp)(hz:∀p,z p=uO):Jn z h h:=λp=>.inl ⟨hz p,rfl⟩
theorem znU_ {a b c:Hp}(d1:Dj a b)(d2:Dj a c)(d3:Dj b c):Jn (un a b) c (un a (un b c)):=λp=>by
 unfold un;cases x:a p with
 |some o=>
  right;rcases d2 p with y |y
  ·rw[y]at x;cases x
  ·exact⟨y,rfl⟩
 |none=>
  cases y:b p with
  |some o=>
   right;rcases d3 p with z |z
   ·rw[z]at y;cases y
   ·exact⟨z,rfl⟩
  |none=>left;exact⟨rfl,rfl⟩
theorem zb7_ (j:Jn h1 h2 h):h=un h1 h2:=funext λp=>by
 unfold un;rcases j p with⟨a,b⟩|⟨a,b⟩
 ·rw[a,b]
 ·rw[b]
  cases h1 p with
  |none=>exact a.symm
  |some o=>rfl
theorem zqA_:EvG K tNil E ws env (.ok [] env):=λF0 H0 σ F h H Q hL ok fin=>fin [] F (λ_=>uO) h h H hL ⟨rfl,λ_=>rfl⟩ (no_l _ λ_=>rfl) ok (Same.refl _)
theorem eg_x {r:Mr Env D}{g:Env->Mr Env (List Ag)}(he:EvK K t E ws env r)(hg:∀e,EvG K ta E ws e (g e)):EvG K (tCons t ta) E ws env (r.bind λd e=>(g e).bind λgs e'=>.ok (.d d::gs) e'):=by
 intro F0 H0 σ F h H Q hL ok fin;refine he F0 H0 σ F h H _ hL ok ?_;cases r with
 |no=>exact fin
 |ex c e=>exact fin
 |ok d e=>
  intro v F1 hr hE h' H1 av od j aw i4;have o2:=zfC_ aw j;refine hg e F1 (less H1 hE) σ F1 hE H1 _ av o2 ?_;dsimp only[Mr.bind]at fin;cases e2:g e with
  |no=>rw[e2]at fin;exact fin
  |ex c e'=>
   rw[e2]at fin;intro F2 h2 H2 bC ax;obtain⟨s,dk,bh⟩:=zax_ aw j ax;refine zbM_ aw j (fin F2 (un hr h2) H2 (Hold.more bC (z6_ dk)) bh)
  |ok gs e'=>
   rw[e2]at fin;intro vs F2 hA fc h2 H2 bC ag j2 ax fE;obtain⟨s,dk,bh⟩:=zax_ aw j ax;have eh:=zb7_ j2;subst eh;have d1:Dj hr hA:=λp=>by rcases dk p with z |z;exact .inl z;exact .inr ((z6_ j2.dj).l.free z)
   have d2:Dj hr fc:=λp=>by rcases dk p with z |z;exact .inl z;exact .inr ((z6_ j2.dj).r.free z)
   exact fin (v::vs) F2 (un hr hA) fc _ H2 bC ⟨v,vs,hr,hA,rfl,z6_ d1,od.mono s,ag⟩ (znU_ d1 d2 j2.dj) bh (i4.trans fE)
theorem eg_l (g0:G.Ok K){pt:Pt}{r:Mr Env (List Ag)}(hg:EvG K ta E ws env r):EvG K (tCons (pt.x.den K G E) ta) E ws env (match pt.ev G env with |.ok q=>r.bind λgs e'=>.ok (.l q::gs) e' |.ex c=>.ex c env |.no=>.no):=by
 intro F0 H0 σ F h H Q hL ok fin;refine Pt.sound g0 pt E env σ (un F h) H _ (zcf_ (hL.froz ok.2.1)) ok.thaw ?_;cases e:pt.ev G env with
 |no=>rw[e]at fin;exact fin
 |ex c=>
  rw[e]at fin;exact λF' H' y=>(fin _ _ _ (hL.mono (ok.back y).2.1) (ok.back y).1).back ok y
 |ok q=>
  rw[e]at fin;intro F1 H1 v u c x1 hv hu _ _;obtain⟨o1,hsF,ht⟩:=ok.back x1;refine hg F0 H0 σ _ h H1 _ (hL.mono hsF) o1 ?_;cases r with
  |no=>exact fin
  |ex c e'=>exact fin
  |ok gs e'=>exact λvs F2 hA fc h2 H2 bC ag j2 ax fE=>fin (u::vs) F2 hA fc h2 H2 bC ⟨u,v,vs,rfl,hv,zbQ_ fE hu,ag⟩ j2 ax (x1.2.2.1.trans fE)
theorem zc8_ (g0:G.Ok K):∀(as:List A) (env:Env),EvG K (X.dens K G E (as.map A.t)) E ws env (evG G env as)
 |[],env=>zqA_
 |.x x::as,env=>eg_x (ek_x g0 x) λe=>zc8_ g0 as e
 |.l p::as,env=>eg_l g0 (zc8_ g0 as env)
def resolve (env:Env):List Ag->Option (List D)
 |[]=>uN []
 |.d d::gs=>(resolve env gs).map λds=>d::ds
 |.l q::gs=>(atE env q).bind λc=>(resolve env gs).map λds=>c::ds
def apartOf (q:Pl):List Ag->Bool
 |[]=>uP
 |.d _::gs=>apartOf q gs
 |.l q'::gs=>apart q q' && apartOf q gs
def apartAll:List Ag->Bool
 |[]=>uP
 |.d _::gs=>apartAll gs
 |.l q::gs=>apartOf q gs && apartAll gs
def restE (env:Env):List Ag->List D->Env
 |.d _::gs,_::ds=>restE env gs ds
 |.l q::gs,d::ds=>putE (restE env gs ds) q d
 |_,_=>env
theorem zbn_ {c:D}:∀{gs:List Ag},apartOf q gs=uP->resolve (putE env q c) gs=resolve env gs
 |[],_=>rfl
 |.d d::gs,h=>by unfold apartOf at h;unfold resolve;rw[zbn_ h]
 |.l q'::gs,h=>by
  unfold apartOf at h;obtain⟨h1,h2⟩:=l4.mp h;unfold resolve;rw[zbn_ h2,zd9_ h1]
theorem zdL_ {c:D}:∀{gs:List Ag}{ds:List D},apartOf q gs=uP->restE (putE env q c) gs ds=putE (restE env gs ds) q c
 |[],_,_=>by unfold restE;rfl
 |.d d::gs,[],_=>by unfold restE;rfl
 |.l q'::gs,[],_=>by unfold restE;rfl
 |.d d::gs,_::ds,h=>by unfold apartOf at h;unfold restE;exact zdL_ h
 |.l q'::gs,d::ds,h=>by
  unfold apartOf at h;obtain⟨h1,h2⟩:=l4.mp h;unfold restE;rw[zdL_ h2,zhn_ h1]
theorem zgV_:∀{gs:List Ag}{ds:List D},apartOf q gs=uP->atE (restE env gs ds) q=atE env q
 |[],_,_=>by unfold restE;rfl
 |.d d::gs,[],_=>by unfold restE;rfl
 |.l q'::gs,[],_=>by unfold restE;rfl
 |.d d::gs,_::ds,h=>by unfold apartOf at h;unfold restE;exact zgV_ h
 |.l q'::gs,d::ds,h=>by
  unfold apartOf at h;obtain⟨h1,h2⟩:=l4.mp h;unfold restE;have h1':apart q' q=uP:=by
   unfold apart at h1 ⊢;rw[oq]at h1 ⊢;rcases h1 with h1 |h1
   ·left;simpa [bne_iff_ne,ne_comm]using h1
   ·right;exact zce_ h1
  rw[zd9_ h1',zgV_ h2]
theorem lend:∀{gs:List Ag}{env:Env}{ds:List D}{vs:List V}{hA hE h:Hp},resolve env gs=uN ds->apartAll gs=uP->AgR K σ F H gs vs hA->Hold (LofW K ws env) σ F hE->Jn hA hE h->Same F H->Same h H ->
  ∃hD hR,Jn hD hR h/\ODs K ds vs F hD/\ds.length=gs.length/\∀ds' F' dy h',Same F F'->ODs K ds' vs F' dy->Jn dy hR h'->Hold (LofW K ws (restE env gs ds')) σ F' h'
 |[],env,ds,vs,hA,hE,h,e,_,ag,hL,j,sF,sH=>by
  unfold resolve at e;cases e;obtain⟨rfl,n⟩:=ag;refine⟨hA,hE,j,by unfold ODs;exact⟨rfl,n⟩,rfl,λds' F' dy h' s os j'=>?_⟩
  unfold restE;exact Hold.more (hL.mono s) j'
 |.d d::gs,env,ds,vs,hA,hE,h,e,ap,ag,hL,j,sF,sH=>by
  unfold resolve at e;obtain⟨ds1,e1,rfl⟩:=lq.mp e;obtain⟨v,bc,h1,h2,rfl,j1,od,ag⟩:=ag;obtain⟨m,jm,jh⟩:=zj_ j1 j;obtain⟨hD,hR,jd,os,ln,f⟩:=lend e1 (by unfold apartAll at ap;exact ap) ag hL jm sF (jh.r.trans sH)
  obtain⟨a,ja,jb⟩:=zj_ (z0_ jh |> λz=>z |> z0_) (show Jn h (λ_=>uO) h from λp=>.inr ⟨rfl,rfl⟩)
  have dd:Dj h1 hD:=λp=>by rcases jh.dj p with z |z;exact .inl z;exact .inr (jd.l.free z)
  have dr:Dj h1 hR:=λp=>by rcases jh.dj p with z |z;exact .inl z;exact .inr (jd.r.free z)
  refine⟨un h1 hD,hR,?_,by unfold ODs;exact⟨v,bc,h1,hD,rfl,z6_ dd,od,os⟩,by rw[lg,lg,ln],λds' F' dy h' s aL j'=>?_⟩
  ·have:=znU_ dd dr jd.dj
   rw[<- zb7_ jd,<- zb7_ jh]at this;exact this
  ·cases ds' with
   |nil=>unfold ODs at aL;cases aL.1
   |cons d' ds'=>
    unfold ODs at aL;obtain⟨v',vs2,m1,m2,ee,jm2,_,aL⟩:=aL;cases ee;obtain⟨b,jb1,jb2⟩:=zj_ jm2 j';unfold restE;exact Hold.more (f ds' F' m2 b s aL jb1) jb2
 |.l q::gs,env,ds,vs,hA,hE,h,e,ap,ag,hL,j,sF,sH=>by
  unfold resolve at e;obtain⟨c,ec,e⟩:=lp.mp e;obtain⟨ds1,e1,rfl⟩:=lq.mp e;obtain⟨u,v,bc,rfl,ev,vp,ag⟩:=ag;unfold apartAll at ap;obtain⟨h_,ap2⟩:=l4.mp ap;rcases ze5_ env q.1 with⟨d0,hd⟩|hd
  rotate_left
  ·unfold atE at ec;split at ec
   ·rename_i d z;exact absurd z (hd d)
   ·cases ec
  have hc:d0.at q.2=uN c:=by rw[<- zL_ hd];exact ec
  obtain⟨v',u',k1,k2,ev',vp',jk,oc,g⟩:=zbS_ hL hd hc;rw[ev]at ev';cases ev';have j3:Same hE H:=j.r.trans sH;have eu:u'=u:=lX ((vp' H sF j3).symm.trans vp);subst eu;have hp:putE env q (.pin u')=env.set q.1 (uN (d0.put q.2 (.pin u'))):=zi_ hd;have av:Hold (LofW K ws (putE env q (.pin u'))) σ F k2:=by
   rw[hp];exact g (.pin u') F (λ_=>uO) k2 (Same.refl _) (by unfold OD;exact⟨λ_=>rfl,by unfold DR;rfl⟩) (no_l _ λ_=>rfl)
  obtain⟨m,jm,jh⟩:=zj_ jk (z0_ j);have jA:Jn hA k2 m:=z0_ jm;obtain⟨hD,hR,jd,os,ln,f⟩:=lend (gs:=gs) (env:=putE env q (.pin u')) (by rw[zbn_ h_];exact e1) ap2 ag av jA sF (jh.r.trans sH)
  have dd:Dj k1 hD:=λp=>by rcases jh.dj p with z |z;exact .inl z;exact .inr (jd.l.free z)
  have dr:Dj k1 hR:=λp=>by rcases jh.dj p with z |z;exact .inl z;exact .inr (jd.r.free z)
  refine⟨un k1 hD,hR,?_,by unfold ODs;exact⟨u',bc,k1,hD,rfl,z6_ dd,oc,os⟩,by rw[lg,lg,ln],λds' F' dy h' s aL j'=>?_⟩
  ·have:=znU_ dd dr jd.dj
   rw[<- zb7_ jd,<- zb7_ jh]at this;exact this
  ·cases ds' with
   |nil=>unfold ODs at aL;cases aL.1
   |cons d' ds'=>
    unfold ODs at aL;obtain⟨w,vs2,m1,m2,ee,jm2,f6,aL⟩:=aL;cases ee;obtain⟨b,jb1,jb2⟩:=zj_ jm2 j';have h2:=f ds' F' m2 b s aL jb1;have ea:atE (restE (putE env q (.pin u')) gs ds') q=uN (.pin u'):=by rw[zgV_ h_];exact znI_ ec
    rcases ze5_ (restE (putE env q (.pin u')) gs ds') q.1 with⟨d2,hd2⟩|hd2
    rotate_left
    ·unfold atE at ea;split at ea
     ·rename_i d z;exact absurd z (hd2 d)
     ·cases ea
    have cp:d2.at q.2=uN (.pin u'):=by rw[<- zL_ hd2];exact ea
    obtain⟨v3,u3,n1,n2,_,_,jn,on,g2⟩:=zbS_ h2 hd2 cp;unfold OD at on;obtain⟨nn,on⟩:=on;unfold DR at on;subst on;have en:b=n2:=by rw[zb7_ jn];funext p;unfold un;rw[nn p]
    subst en;have:=g2 d' F' m1 h' (Same.refl _) f6 jb2;unfold restE;rw[show putE (restE env gs ds') q d'=putE (restE (putE env q (.pin u3)) gs ds') q d' from by rw[zdL_ h_,zif_],zi_ hd2]
    exact this
def callG (f:Fn)(gs:List Ag)(env:Env):Mr Env D:=match resolve env gs with
 | some ds=>if apartAll gs then(match f ds with
   |.ok d ds'=>.ok d (restE env gs ds')
   |.ex c ds'=>.ex c (restE env gs ds')
   |.no=>.no)else .no
 |none=>.no
def CtX (K:lY)(f:Fn)(ds:List D)(vs:List V)(H:Hp)(Q:VK)(E:XK):Prop:=∃F h,Same F H/\Dj F h/\Same h H/\ODs K ds vs F h/\FinC K (f ds) E F (less H h) vs Q
theorem CtX.g {ds:List D}(h:CtX K f ds vs H Q E):CtG K f vs H Q E:=by obtain⟨F,h,a⟩:=h;exact⟨F,h,ds,a⟩
theorem zft_ {gs:List Ag}{hA hE:Hp}(hL:Hold (LofW K ws env) σ F hE)(ag:AgR K σ F H gs vs hA)(j:Jn hA hE h)(ok:Okk F0 H0 F h H)(fin:FinE K (callG f gs env) E ws σ F0 H0 Q):∃ds,resolve env gs=uN ds/\CtX K f ds vs H Q E:=by
 unfold callG at fin;cases er:resolve env gs with
 |none=>rw[er]at fin;exact fin.elim
 |some ds=>
  rw[er]at fin;dsimp only at fin;by_cases ap:apartAll gs=uP
  rotate_left
  ·rw[if_neg ap]at fin;exact fin.elim
  rw[if_pos ap]at fin;obtain⟨hD,hR,jd,os,ln,g⟩:=lend er ap ag hL j ok.1.2.1 ok.2.2.1;have gf:=z0_ jd;refine⟨ds,rfl,F,hD,ok.1.2.1,dj_l ok.2.1 jd,jd.l.trans ok.2.2.1,os,?_⟩;cases ef:f ds with
  |no=>rw[ef]at fin;exact fin
  |ex c ds'=>
   rw[ef]at fin;intro F2 h2 H2 ax os2;obtain⟨s,dk,bh⟩:=zax_ ok gf ax;exact zbM_ ok gf (fin F2 (un hR h2) H2 (g ds' F2 h2 _ s os2 (z0_ (z6_ dk))) bh)
  |ok d ds'=>
   rw[ef]at fin;intro v F2 h2 H2 hr hm ax j2 od os2;obtain⟨s,dk,bh⟩:=zax_ ok gf ax;have d1:Dj hR hr:=λp=>by rcases dk p with z |z;exact .inl z;exact .inr (j2.l.free z)
   have d2:Dj hR hm:=λp=>by rcases dk p with z |z;exact .inl z;exact .inr (j2.r.free z)
   have dm:Dj hm hR:=λp=>(d2 p).symm
   refine fin v F2 hr (un hm hR) (un hR h2) H2 (g ds' F2 hm _ s os2 (z6_ dm)) od ?_ bh;rw[zb7_ j2];intro p;unfold un;cases x:hr p with
   |some o=>
    right;rcases j2.dj p with z |z
    ·rw[z]at x;cases x
    ·rcases d1 p with y |y
     ·rw[z,y];exact⟨rfl,rfl⟩
     ·rw[y]at x;cases x
   |none=>
    left;refine⟨rfl,?_⟩;cases y:hR p with
    |some o=>
     rcases d2 p with z |z
     ·rw[z]at y;cases y
     ·rw[z]
    |none=>cases hm p<;>rfl
theorem zcC_ {gs:List Ag}{hA hE:Hp}(hL:Hold (LofW K ws env) σ F hE)(ag:AgR K σ F H gs vs hA)(j:Jn hA hE h)(ok:Okk F0 H0 F h H)(fin:FinE K (callG f gs env) E ws σ F0 H0 Q):CtG K f vs H Q E:=by
 obtain⟨ds,_,c⟩:=zft_ hL ag j ok fin;exact c.g
theorem zmq_ {r:Mr Env (List Ag)}(hg:EvG K ta E ws env r):EvE K (tCall (CtG K f) [] E ta) E ws env (r.bind (callG f)):=by
 intro F0 H0 σ F h H Q hL ok fin;refine hg F0 H0 σ F h H _ hL ok ?_;cases r with
 |no=>exact fin
 |ex c e=>exact fin
 |ok gs e=>
  intro vs F1 hA hE h1 H1 av ag j aw _;rw[oO];exact zcC_ av ag j aw fin
end
inductive Fl where
 |nx |rt (d:D)|ct |bk
section
variable {K:mB}{E:XK}{F F' F0 F1 F2 H0 h h1 h2 H H' H1 H2:Hp}{d c:D}{ds:List D}{v u:V}{vs:List V}{p:k9}{env:Env}{t:TE}{ws:Ws}{σ:L2.St}{q:Pl}{ta:TA}{f:Fn}{s s1 s2:TS}{i:Nat}
def FinS (K:lY)(r:Mr Env Fl)(E:XK)(ws:Ws)(F0 H0:Hp)(N:Ends):Prop:=match r with
 |.ok .nx env=>∀σ F h H,Hold (LofW K ws env) σ F h->Okk F0 H0 F h H->N.nx σ H
 |.ok .ct env=>∀σ F h H,Hold (LofW K ws env) σ F h->Okk F0 H0 F h H->N.ct σ H
 |.ok .bk env=>∀σ F h H,Hold (LofW K ws env) σ F h->Okk F0 H0 F h H->N.bk σ H
 |.ok (.rt d) env=>∀v σ F hr h2 h H,Hold (LofW K ws env) σ F h2->OD K d v F hr->Jn hr h2 h->Okk F0 H0 F h H->N.rt v H
 |.ex c env=>∀σ F h H,Hold (LofW K ws env) σ F h->Okk F0 H0 F h H->Tell K E c H0 F H
 |.no=>False
def EvS (K:lY)(t:TS)(E:XK)(ws:Ws)(env:Env)(r:Mr Env Fl):Prop:=
 ∀F0 H0 σ F h H (N:Ends),Hold (LofW K ws env) σ F h->Okk F0 H0 F h H->FinS K r E ws F0 H0 N->t N σ H
theorem zis_:EvS K tNext E ws env (.ok .nx env):=λF0 H0 σ F h H N hL ok fin=>fin σ F h H hL ok
theorem znC_:EvS K tCont E ws env (.ok .ct env):=λF0 H0 σ F h H N hL ok fin=>fin σ F h H hL ok
def seqM (r:Mr Env Fl)(g:Env->Mr Env Fl):Mr Env Fl:=r.bind λo e=>match o with |.nx=>g e |_=>.ok o e
theorem zl7_ {r:Mr Env Fl}{g:Env->Mr Env Fl}(eE:EvS K s1 E ws env r)(aQ:∀e,EvS K s2 E ws e (g e)):EvS K (tSeq s1 s2) E ws env (seqM r g):=by
 intro F0 H0 σ F h H N hL ok fin;refine eE F0 H0 σ F h H {N with nx:=s2 N} hL ok ?_;cases r with
 |no=>exact fin
 |ex c e=>exact fin
 |ok o e=>
  cases o with
  |nx=>exact λσ F h H hL ok=>aQ e F0 H0 σ F h H N hL ok fin
  |rt d=>exact fin
  |ct=>exact fin
  |bk=>exact fin
theorem zgJ_ {hr hE:Hp}(hw:ws i=uO)(hi:i<env.length)(hL:Hold (LofW K ws env) σ F hE)(od:OD K d v F hr)(j:Jn hr hE h):Hold (LofW K ws (env.set i (uN d))) (σ.set i (uN v)) F h:=by
 obtain⟨o,k1,k2,e1,jk,pp,g⟩:=Hold.atG hL (zbq_ (kY hi));have d1:Dj hr k2:=λp=>by rcases j.dj p with z |z;exact .inl z;exact .inr (jk.r.free z)
 have:=g (slotW K (ws i) (uN d)) (uN v) F hr (un hr k2) (Same.refl _) (zcm_ (λu z=>by rw[hw]at z;cases z) od) (z6_ d1)
 rw[zcl_]at this;refine Hold.more this (g:=k1) ?_;rw[zb7_ j,zb7_ jk];intro p;unfold un;cases x:hr p with
 |some o=>
  left;refine⟨?_,rfl⟩;rcases j.dj p with z |z
  ·rw[z]at x;cases x
  ·exact jk.l.free z
 |none=>
  cases y:k1 p with
  |some o=>
   right;refine⟨?_,rfl⟩;rcases jk.dj p with z |z
   ·rw[z]at y;cases y
   ·exact z
  |none=>left;exact⟨rfl,rfl⟩
def asgM (pn:Nat->Bool)(i:Nat)(r:Mr Env D):Mr Env Fl:=r.bind λd e=>if pn i=uQ/\i<e.length then .ok .nx (e.set i (uN d))else .no
theorem zpH_ {pn:Nat->Bool}{r:Mr Env D}(hp:∀i,pn i=uQ->ws i=uO)(he:EvE K t E ws env r):EvS K (tAsg t (gName i)) E ws env (asgM pn i r):=by
 intro F0 H0 σ F h H N hL ok fin;refine he F0 H0 σ F h H _ hL ok ?_;cases r with
 |no=>exact fin
 |ex c e=>exact λF h H hL ok=>fin σ F h H hL ok
 |ok d e=>
  have fin:FinS K (if pn i=uQ/\i<e.length then .ok .nx (e.set i (uN d))else .no) E ws F0 H0 N:=fin
  split at fin
  ·rename_i z
   exact λv F1 hr hE h1 H1 av od j aw=>fin _ F1 h1 H1 (zgJ_ (hp i z.1) z.2 av od j) aw
  ·exact fin.elim
def dropM (r:Mr Env D):Mr Env Fl:=r.bind λ_ e=>.ok .nx e
theorem zkV_ {r:Mr Env D}(he:EvE K t E ws env r):EvS K (tDrop t) E ws env (dropM r):=by
 intro F0 H0 σ F h H N hL ok fin;refine he F0 H0 σ F h H _ hL ok ?_;cases r with
 |no=>exact fin
 |ex c e=>exact λF h H hL ok=>fin σ F h H hL ok
 |ok d e=>exact λv F1 hr hE h1 H1 av od j aw=>fin σ F1 h1 H1 (Hold.more av j) aw
def retM (r:Mr Env D):Mr Env Fl:=r.bind λd e=>.ok (.rt d) e
theorem zqJ_ {r:Mr Env D}(he:EvE K t E ws env r):EvS K (tRet t) E ws env (retM r):=by
 intro F0 H0 σ F h H N hL ok fin;refine he F0 H0 σ F h H _ hL ok ?_;cases r with
 |no=>exact fin
 |ex c e=>exact λF h H hL ok=>fin σ F h H hL ok
 |ok d e=>exact λv F1 hr hE h1 H1 av od j aw=>fin v σ F1 hr hE h1 H1 av od j aw
theorem zkX_:EvS K tRetN E ws env (.ok (.rt .non) env):=λF0 H0 σ F h H N hL ok fin=>
 fin .non σ F (λ_=>uO) h h H hL (by unfold OD;exact⟨λ_=>rfl,by unfold DR;rfl⟩) (no_l _ λ_=>rfl) ok
def ifM (env:Env)(b:Mo Bool)(r1 r2:Mr Env Fl):Mr Env Fl:=match b with
 |.ok c=>if c then r1 else r2
 |.ex c=>.ex c env
 |.no=>.no
theorem es_if {tt:TT}{b:Mo Bool}{r1 r2:Mr Env Fl}(hc:EvT K tt E (Lof K env) b)(eE:EvS K s1 E ws env r1)(aQ:EvS K s2 E ws env r2):EvS K (mIfS tt s1 s2) E ws env (ifM env b r1 r2):=by
 intro F0 H0 σ F h H N hL ok fin;refine hc σ (un F h) H _ (zcf_ (hL.froz ok.2.1)) ok.thaw ?_;cases b with
 |no=>exact fin
 |ex c=>exact λF' H' y=>(fin σ _ _ _ (hL.mono (ok.back y).2.1) (ok.back y).1).back ok y
 |ok c=>
  intro F' H' y;obtain⟨o,hsF,ht⟩:=ok.back y;refine⟨λz=>?_,λz=>?_⟩
  ·subst z;exact eE F0 H0 σ _ h H' N (hL.mono hsF) o fin
  ·subst z;exact aQ F0 H0 σ _ h H' N (hL.mono hsF) o fin
def forM (step:Env->List D->Mr Env Fl):List (List D)->Env->Mr Env Fl
 |[],e=>.ok .nx e
 |x::xs,e=>(step e x).bind λo e'=>match o with |.nx=>forM step xs e' |.ct=>forM step xs e' |.bk=>.ok .nx e' |.rt d=>.ok (.rt d) e'
def setG (pn:Nat->Bool):Env->List Nat->List D->Option Env
 |e,i::is,d::ds=>if pn i=uQ/\i<e.length then setG pn (e.set i (uN d.vw)) is ds else uO
 |e,[],[]=>uN e
 |_,_,_=>uO
theorem zcM_ {pn:Nat->Bool}(hp:∀i,pn i=uQ->ws i=uO):∀{is:List Nat}{ds:List D}{env e:Env}{σ:L2.St}{vs:List (Nat×Option V)},setG pn env is ds=uN e->Plain F (ssT K is ds) vs->Hold (LofW K ws env) σ F h->Hold (LofW K ws e) (setS σ vs) F h
 |[],[],env,e,σ,vs,z,pl,hL=>by unfold setG at z;cases z;cases pl;exact hL
 |i::is,d::ds,env,e,σ,vs,z,pl,hL=>by
  unfold setG at z;split at z
  ·rename_i y
   cases pl with
   |cons hv pl=>
    refine zcM_ hp (is:=is) (ds:=ds) (σ:=σ.set i (uN _)) z pl ?_;exact zgJ_ (hp i y.1) y.2 hL (OD.vw (h:=λ_=>uO) (λ_=>rfl) hv) (no_l _ λ_=>rfl)
  ·cases z
 |[],_::_,_,_,_,_,z,_,_=>by unfold setG at z;cases z
 |_::_,[],_,_,_,_,z,_,_=>by unfold setG at z;cases z
theorem ziz_ {hr hE:Hp}(od:ODs K ds vs F hr)(j:Jn hr hE h)(ok:Okk F0 H0 F h H):DRs K ds vs (un F hr)/\Same F (un F hr)/\Okk F0 H0 (un F hr) hE H:=by
 obtain⟨o1,o2,o3,o4,o5⟩:=ok;refine⟨OD.view.go zX_ (zd6_ (dj_l o2 j)) od,zX_,⟨o1.1.trans zX_,λp o e=>?_,o1.2.2.1,λp a b=>?_⟩,λp=>?_,j.r.trans o3,λp z=>?_,λp xs e=>o5 p xs (j.r _ _ e)⟩
 ·unfold un at e
  cases z:F p with
  |some w=>rw[z]at e;cases e;exact o1.2.1 _ _ z
  |none=>rw[z]at e;exact o3 _ _ (j.l _ _ e)
 ·unfold un at b
  cases z:F p with
  |some w=>exact o1.2.2.2 p a (by rw[z];exact sN _)
  |none=>
   rw[z]at b;cases y:hr p with
   |none=>exact absurd y b
   |some w=>exact o4 p (by rw[j.l _ _ y];exact sN _)
 ·unfold un
  cases z:F p with
  |some w=>
   rcases dj_r o2 j p with y |y
   ·rw[y]at z;cases z
   ·exact .inr y
  |none=>exact j.dj p
 ·cases y:hE p with
  |none=>exact absurd y z
  |some w=>exact o4 p (by rw[j.r _ _ y];exact sN _)
noncomputable def dsOf:List Ag->Option (List D)
 |[]=>uN []
 |.d d::gs=>(dsOf gs).map λds=>d::ds
 |.l _::_=>uO
theorem ag_ds:∀{gs:List Ag}{ds:List D}{vs:List V}{h:Hp},dsOf gs=uN ds->AgR K σ F H gs vs h->ODs K ds vs F h
 |[],_,_,_,e,r=>by unfold dsOf at e;cases e;unfold ODs;exact r
 |.d d::gs,_,_,_,e,q_=>by
  obtain⟨v,bc,h1,h2,e1,j,o,r⟩:=q_;unfold dsOf at e;obtain⟨ds,e2,rfl⟩:=lq.mp e;unfold ODs;exact⟨v,bc,h1,h2,e1,j,o,ag_ds e2 r⟩
 |.l _::_,_,_,_,e,_=>by unfold dsOf at e;cases e
def forS (pn:Nat->Bool)(ik:Ik)(g:Tg)(r:Mr Env (List Ag))(body:Env->Mr Env Fl):Mr Env Fl:=r.bind λgs e=>match dsOf gs with
 |some ds=>(match ik.f ds with
  |.ok items=>(match tgsD g items with
   |some xs=>forM (λe x=>match setG pn e g.is x with |some e'=>body e' |none=>.no) xs e
   |none=>.no)
  |_=>.no)
 |none=>.no
theorem zod_ {pn:Nat->Bool}{ik:Ik}{g:Tg}{r:Mr Env (List Ag)}{body:Env->Mr Env Fl}(hp:∀i,pn i=uQ->ws i=uO)(hg:EvG K ta E ws env r)(hb:∀e,EvS K s E ws e (body e)):EvS K (tFor (ik.t K ta) (tgT K g) s) E ws env (forS pn ik g r body):=by
 intro F0 H0 σ F h H N hL ok fin;refine hg F0 H0 σ F h H _ hL ok ?_;cases r with
 |no=>exact fin
 |ex c e=>exact λF h H hL ok=>fin σ F h H hL ok
 |ok gs e=>
  intro vs F1 hA hE h1 H1 av ag j aw _
  have fin:FinS K (match dsOf gs with
   |some ds=>(match ik.f ds with
    |.ok items=>(match tgsD g items with
     |some xs=>forM (λe x=>match setG pn e g.is x with |some e'=>body e' |none=>.no) xs e
     |none=>.no)
    |_=>.no)
   |none=>.no) E ws F0 H0 N:=fin
  cases e1:dsOf gs with
  |none=>rw[e1]at fin;exact fin.elim
  |some ds=>
   rw[e1]at fin;dsimp only at fin;obtain⟨dr,sF,ax⟩:=ziz_ (ag_ds e1 ag) j aw;cases e2:ik.f ds with
   |no=>rw[e2]at fin;exact fin.elim
   |ex c=>rw[e2]at fin;exact fin.elim
   |ok items=>
    rw[e2]at fin;dsimp only at fin;cases e3:tgsD g items with
    |none=>rw[e3]at fin;exact fin.elim
    |some xs=>
     rw[e3]at fin;dsimp only at fin;refine ik_w (E:=E) ik ds vs σ (un F1 hA) H1 _ ax.1.2.1 dr ?_;rw[e2];intro F2 H2 x2 J Y;have bh:=ax.cold x2;obtain⟨l,gx⟩:=zdY_ e3;have xx:Ext F0 H0 F2 H2:=bh.1
     refine⟨λn m σ H=>m=xs.length-n/\n<=xs.length/\∃e F h,Hold (LofW K ws e) σ F h/\Okk F2 H0 F h H/\FinS K (forM (λe x=>match setG pn e g.is x with |some e'=>body e' |none=>.no) (xs.drop n) e) E ws F0 H0 N,
      ⟨_,rfl,me _,e,F2,hE,av.mono (sF.trans x2.1),bh.rebase xx (Same.refl _),fin⟩,?_⟩
     rintro n m σ H ⟨rfl,hn,e,F,h,hL,ok,fin⟩;have s1:Same F2 H:=ok.1.1.trans ok.1.2.1;by_cases aC:n<xs.length
     ·right
      obtain⟨d,hd,td⟩:=gx n xs[n] (kY aC);obtain⟨g1,g2⟩:=Y.go n H d s1 hd;refine⟨g1,λah H'=>n+1<=xs.length/\∃e F h,Hold (LofW K ws e) ah F h/\Okk F2 H0 F h H'/\FinS K (forM (λe x=>match setG pn e g.is x with |some e'=>body e' |none=>.no) (xs.drop (n+1)) e) E ws F0 H0 N,λah H' z=>⟨xs.length-(n+1),by lia,rfl,z⟩,λv H3 hy=>?_⟩
      obtain⟨F3,x3,hv⟩:=g2 v H3 hy F ok.1.1 ok.1.2.1;refine tg_R g xs[n] v σ F3 H3 _ x3.2.1 (zpJ_ td hv) λvs pl=>?_
      rw[pf aC]at fin;unfold forM at fin;cases es:setG pn e g.is xs[n]with
      |none=>rw[es]at fin;exact fin.elim
      |some e'=>
       rw[es]at fin;refine hb e' F2 H0 _ F3 h H3 _ (zcM_ hp es pl (hL.mono x3.1)) (ok.cold x3) ?_;dsimp only[Mr.bind]at fin;cases eb:body e' with
       |no=>rw[eb]at fin;exact fin
       |ex c e2=>rw[eb]at fin;exact λσ F h H hL ok=>fin σ F h H hL (ok.unbase xx)
       |ok o e2=>
        rw[eb]at fin;cases o with
        |nx=>exact λah F' h' H' fb bN=>⟨aC,e2,F',h',fb,bN,fin⟩
        |ct=>exact λah F' h' H' fb bN=>⟨aC,e2,F',h',fb,bN,fin⟩
        |bk=>exact λah F' h' H' fb bN=>fin ah F' h' H' fb (bN.unbase xx)
        |rt a=>exact λv σ F hr h2 h H a1 a2 a3 ok=>fin v σ F hr h2 h H a1 a2 a3 (ok.unbase xx)
     ·left
      have en:n=xs.length:=by lia
      subst en;rw[qq]at fin;exact⟨by rw[l];exact Y.stop H s1,fin σ F h H hL (ok.unbase xx)⟩
theorem zhW_:∀{gs:List Ag}{vs:List V}{h:Hp},AgR K σ F H gs vs h->vs.length=gs.length
 |[],_,_,r=>by rw[r.1];rfl
 |.d d::gs,_,_,r=>by obtain⟨v,bc,h1,h2,e,j,o,r⟩:=r;rw[e,lg,lg,zhW_ r]
 |.l q::gs,_,_,r=>by obtain⟨u,v,bc,e,e1,f,r⟩:=r;rw[e,lg,lg,zhW_ r]
variable {h3 k:Hp}{us:List V}{Q:VK}{G:Gi}
theorem ODs.snoc:∀{ds:List D}{us:List V}{h1 h:Hp},ODs K ds us F h1->OD K d v F h2->Jn h1 h2 h->ODs K (ds++[d]) (us++[v]) F h
 |[],_,h1,h,q,o,j=>by
  unfold ODs at q;rw[q.1,nC,nC];have:h=h2:=by rw[zb7_ j];funext p;unfold un;rw[q.2 p]
  subst this;unfold ODs;exact⟨v,[],h,λ_=>uO,rfl,no_r _ λ_=>rfl,o,by unfold ODs;exact⟨rfl,λ_=>rfl⟩⟩
 |e::es,_,h1,h,q,o,j=>by
  unfold ODs at q;obtain⟨w,ws,k1,k2,rfl,jk,a,r⟩:=q;obtain⟨m,jm,jh⟩:=zj_ jk j;rw[mH,mH];unfold ODs;exact⟨w,ws++[v],k1,m,rfl,jh,a,ODs.snoc r o jm⟩
theorem ODs.app:∀{ds es:List D}{us ws:List V}{h1 h2 h:Hp},ODs K ds us F h1->ODs K es ws F h2->Jn h1 h2 h->ODs K (ds++es) (us++ws) F h
 |[],es,_,ws,h1,h2,h,q,o,j=>by
  unfold ODs at q;rw[q.1,nC,nC];have:h=h2:=by rw[zb7_ j];funext p;unfold un;rw[q.2 p]
  subst this;exact o
 |e::ds,es,_,ws,h1,h2,h,q,o,j=>by
  unfold ODs at q;obtain⟨w,ws',k1,k2,rfl,jk,a,r⟩:=q;obtain⟨m,jm,jh⟩:=zj_ jk j;rw[mH,mH];unfold ODs;exact⟨w,ws'++ws,k1,m,rfl,jh,a,ODs.app r o jm⟩
theorem zdZ_ {o o':HO}{hc ha k:Hp}{ds':List D}(hs:Same F H)(dj:Dj F h)(sh:Same h H)(nt:∀p xs,h p≠uN (.tup xs))(jh:Jn (one p o) k h)(n':∀xs,o'≠.tup xs){d:D}{v:V}{hr h2:Hp}(jk:Jn hr h2 (un (one p o') k))
  (od:OD K d v F hr) (os:ODs K ds' vs F h2) (fin:∀v F' h' H' hr h2,Okk F (less H h) F' h' H'->Jn hr h2 h'->OD K d v F' hr->ODs K ds' vs F' h2->Q v H'):Q v (upd H p o'):=by
 have ok:=zbc_ hs dj sh nt;have hp:h p≠uO:=by rw[jh.l _ _ zo_];exact sN _
 have bN:=zgD_ (h1':=h) (hr:=h) (h':=h) ok hp n' (un (one p o') k) λq=>by
  unfold un;rw[zb_];by_cases e:q=p
  ·rw[if_pos e,if_pos e]
  ·rw[if_neg e,if_neg e]
   rcases jh q with⟨_,b⟩|⟨a,b⟩
   ·exact b.symm
   ·rw[a,b,zb_,if_neg e]
 exact fin v F _ _ hr h2 bN jk od os
def BmOk (K:lY)(r:V->List V->Hp->VK->Prop)(f:Fn):Prop:=∀x xs H Q E,CtG K f (x::xs) H Q E->r x xs H Q
def appendF:Fn:=λds=>match ds with
 |[.nd .lst xs,d]=>if xs.length<lA then .ok .non [.nd .lst (xs++[d]),.gone]else .no
 |_=>.no
theorem zeQ_ (os:ODs K ds vs F h):∀p xs,h p≠uN (.tup xs):=OD.notup.go os
theorem zaF_ {h:Hp}(hn:∀p,h p=uO):OD K .gone v F h:=by unfold OD;exact⟨hn,by unfold DR;trivial⟩
theorem zcr_ {h:Hp}(hn:∀p,h p=uO):OD K .non .non F h:=by unfold OD;exact⟨hn,by unfold DR;rfl⟩
theorem zid_:BmOk K rAppend appendF:=by
 rintro x xs H Q E ⟨F,h,ds,hs,dj,sh,os,fin⟩;have nt:=zeQ_ os;unfold appendF at fin;split at fin
 ·rename_i ys d
  split at fin
  ·rename_i hl
   unfold ODs at os;obtain⟨w,ws,m1,m2,e1,jm,o1,os⟩:=os;cases e1;unfold ODs at os;obtain⟨y,ws2,n1,n2,e2,jn,o2,os⟩:=os;cases e2;unfold ODs at os;obtain⟨rfl,nn⟩:=os;unfold OD at o1;obtain⟨p,us,h0,hc,rfl,cl,jc,oc⟩:=o1;have e0:h0=one p (.lst us):=cl;subst e0;have em:m2=n1:=by rw[zb7_ jn];funext q;unfold un;cases z:n1 q with |none=>exact nn q |some o=>rfl
   subst em;obtain⟨a,ja,jb⟩:=zj_ jc jm;have hp:H p=uN (.lst us):=sh _ _ (jb.l _ _ zo_);refine⟨p,us,y,rfl,rfl,hp,by rw[<- ODs.len oc];exact hl,?_⟩
   have d1:Dj (one p (.lst (us++[y]))) a:=λq=>by
    rw[zb_];split
    ·rename_i e;subst e;right;exact(by rcases jb.dj q with z |z;rw[zo_]at z;cases z;exact z)
    ·exact .inl rfl
   refine zdZ_ (vs:=[.ref p,y]) (ds':=[.nd .lst (ys++[d]),.gone]) (hr:=λ_=>uO) (h2:=un (one p (.lst (us++[y]))) a) (hc:=h) (ha:=h) hs dj sh nt jb (λxs z=>by cases z) (no_l _ λ_=>rfl) (zcr_ λ_=>rfl) ?_ fin
   unfold ODs;refine⟨.ref p,[y],_,λ_=>uO,rfl,no_r _ λ_=>rfl,?_,?_⟩
   ·unfold OD
    exact⟨p,us++[y],_,a,rfl,rfl,z6_ d1,ODs.snoc oc o2 ja⟩
   ·unfold ODs
    exact⟨y,[],λ_=>uO,λ_=>uO,rfl,no_r _ λ_=>rfl,zaF_ λ_=>rfl,by unfold ODs;exact⟨rfl,λ_=>rfl⟩⟩
  ·exact fin.elim
 ·exact fin.elim
theorem recv1 {k:Nd}{ys args:List D}{x:V}{xs:List V}(os:ODs K (.nd k ys::args) (x::xs) F h):∃p us h0 hc ha a,x=.ref p/\Cell K k p us F h0/\Jn h0 a h/\Jn hc ha a/\ODs K ys us F hc/\ODs K args xs F ha:=by
 unfold ODs at os;obtain⟨w,ws,m1,m2,e1,jm,o1,os⟩:=os;cases e1;unfold OD at o1;obtain⟨p,us,h0,hc,rfl,cl,jc,oc⟩:=o1;obtain⟨a,ja,jb⟩:=zj_ jc jm;exact⟨p,us,h0,hc,m2,a,rfl,cl,jb,ja,oc,os⟩
theorem ze0_ {o o':HO}{a:Hp}(jb:Jn (one p o) a h):Dj (one p o') a:=λq=>by
 rw[zb_];split
 ·rename_i e;subst e;right;rcases jb.dj q with z |z
  ·rw[zo_]at z;cases z
  ·exact z
 ·exact .inl rfl
theorem recv2 {cz cT:List D}{bF:List V}{xs:List V}{a b aA:Hp}(d1:Dj (one p (.lst bF)) a)(jc:Jn aA b a)(oc:ODs K cz bF F aA)(oa:ODs K cT xs F b):ODs K (.nd .lst cz::cT) (.ref p::xs) F (un (one p (.lst bF)) a):=by
 have d2:Dj (one p (.lst bF)) aA:=λq=>by rcases d1 q with z |z;exact .inl z;exact .inr (jc.l.free z)
 have d3:Dj (one p (.lst bF)) b:=λq=>by rcases d1 q with z |z;exact .inl z;exact .inr (jc.r.free z)
 unfold ODs;refine⟨.ref p,xs,un (one p (.lst bF)) aA,b,rfl,?_,?_,oa⟩
 ·have:=znU_ d2 d3 jc.dj
  rw[<- zb7_ jc]at this;exact this
 ·unfold OD
  exact⟨p,bF,_,aA,rfl,rfl,z6_ d2,oc⟩
theorem zia_ {y:V}:ODs K [.gone] [y] F (λ_=>uO):=by
 unfold ODs;exact⟨y,[],λ_=>uO,λ_=>uO,rfl,no_r _ λ_=>rfl,zaF_ λ_=>rfl,by unfold ODs;exact⟨rfl,λ_=>rfl⟩⟩
theorem zec_:∀{ds:List D}{us:List V},ds.length=us.length->ODs K (ds.map λ_=>.gone) us F (λ_=>uO)
 |[],[],_=>by rw[nJ];unfold ODs;exact⟨rfl,λ_=>rfl⟩
 |d::ds,u::us,l=>by rw[lj];unfold ODs;exact⟨u,us,λ_=>uO,λ_=>uO,rfl,no_r _ λ_=>rfl,zaF_ λ_=>rfl,zec_ (by simpa using l)⟩
 |[],_::_,l=>by simp at l
 |_::_,[],l=>by simp at l
theorem zct_:ODs K [] [] F (λ_=>uO):=by unfold ODs;exact⟨rfl,λ_=>rfl⟩
theorem zd8_ {y:V}(h1:ODs K [d] [y] F h):OD K d y F h:=by
 unfold ODs at h1;obtain⟨v,vs,m1,m2,e,j,o,r⟩:=h1;cases e;unfold ODs at r;have:h=m1:=by rw[zb7_ j];funext q;unfold un;cases z:m1 q with |none=>exact r.2 q |some o=>rfl
 rw[this];exact o
theorem zf4_ {xs:List V}(h1:ODs K [d] xs F h):∃y,xs=[y]:=m5.mp (ODs.len h1).symm
theorem len2_ {l:List V}(h:l.length=2):∃a b,l=[a,b]:=by
 obtain⟨a,t,rfl⟩:=mj h;obtain⟨b,rfl⟩:=m5.mp (mR h);exact⟨a,b,rfl⟩
theorem len3_ {l:List V}(h:l.length=3):∃a b c,l=[a,b,c]:=by
 obtain⟨a,t,rfl⟩:=mj h;obtain⟨b,c,rfl⟩:=len2_ (mR h);exact⟨a,b,c,rfl⟩
def extendF:Fn:=λds=>match ds with
 |[.nd .lst xs,.nd .lst ys]=>if xs.length+ys.length<=lA then .ok .non [.nd .lst (xs++ys),.nd .lst (ys.map λ_=>.gone)]else .no
 |[.nd .lst xs,.fz d]=>(match d.un with |.nd .lst ys=>if xs.length+ys.length<=lA then .ok .non [.nd .lst (xs++ys.map .vw),.gone]else .no |_=>.no)
 |_=>.no
theorem zig_:BmOk K rExtend extendF:=by
 rintro x xs H Q E ⟨F,h,ds,hs,dj,sh,os,fin⟩;have nt:=zeQ_ os;unfold extendF at fin;split at fin
 ·rename_i ys zs
  split at fin
  ·rename_i hl
   obtain⟨p,us,h0,hc,ha,a,rfl,cl,jb,ja,oc,oa⟩:=recv1 os;have e0:h0=one p (.lst us):=cl;subst e0;obtain⟨y,rfl⟩:=zf4_ oa;have o2:=zd8_ oa;unfold OD at o2;obtain⟨p2,us2,h2,cp,rfl,cl2,jc2,dH⟩:=o2;have e2:h2=one p2 (.lst us2):=cl2;subst e2;have hp:H p=uN (.lst us):=sh _ _ (jb.l _ _ zo_);have cH:H p2=uN (.lst us2):=sh _ _ (jb.r _ _ (ja.r _ _ (jc2.l _ _ zo_)));refine⟨p,p2,us,us2,rfl,rfl,hp,cH,by rw[<- ODs.len oc,<- ODs.len dH];exact hl,?_⟩
   obtain⟨m,jm,jh⟩:=zj_ (z0_ jc2) (z0_ ja);obtain⟨m3,jm3,jh3⟩:=zj_ jm (z0_ jh);have i7:=ODs.app oc dH jm3;have jg:Jn m3 (one p2 (.lst us2)) a:=z0_ jh3;refine zdZ_ (vs:=[.ref p,.ref p2]) (ds':=[.nd .lst (ys++zs),.nd .lst (zs.map λ_=>.gone)]) (hr:=λ_=>uO) (h2:=un (one p (.lst (us++us2))) a) (hc:=h) (ha:=h) hs dj sh nt jb (λxs z=>by cases z) (no_l _ λ_=>rfl) (zcr_ λ_=>rfl) (recv2 (ze0_ jb) jg i7 ?_) fin
   unfold ODs;refine⟨.ref p2,[],_,λ_=>uO,rfl,no_r _ λ_=>rfl,?_,zct_⟩
   unfold OD;exact⟨p2,us2,_,λ_=>uO,rfl,rfl,no_r _ λ_=>rfl,zec_ (ODs.len dH)⟩
  ·exact fin.elim
 ·rename_i ys d
  split at fin
  ·rename_i zs e
   split at fin
   ·rename_i hl
    obtain⟨p,us,h0,hc,ha,a,rfl,cl,jb,ja,oc,oa⟩:=recv1 os;have e0:h0=one p (.lst us):=cl;subst e0;obtain⟨y,rfl⟩:=zf4_ oa;have o2:=zd8_ oa;unfold OD at o2;obtain⟨n2,r2⟩:=o2;have r2:=DR.un r2;rw[show(D.fz d).un=d.un from by rw[D.un],e]at r2
    obtain⟨p2,us2,rfl,n,r⟩:=r2.nd;have hp:H p=uN (.lst us):=sh _ _ (jb.l _ _ zo_);refine⟨p,p2,us,us2,rfl,rfl,hp,hs _ _ n,by rw[<- ODs.len oc,<- r.len];exact hl,?_⟩
    have ea:a=hc:=by rw[zb7_ ja];funext q;unfold un;cases z:hc q with |none=>exact n2 q |some o=>rfl
    subst ea;exact zdZ_ (vs:=[.ref p,.ref p2]) (ds':=[.nd .lst (ys++zs.map D.vw),.gone]) (hr:=λ_=>uO) (h2:=un (one p (.lst (us++us2))) a) (hc:=h) (ha:=h) hs dj sh nt jb (λxs z=>by cases z) (no_l _ λ_=>rfl) (zcr_ λ_=>rfl) (recv2 (ze0_ jb) (no_r _ λ_=>rfl) (ODs.app oc (ODs.vw (h:=λ_=>uO) (λ_=>rfl) r) (no_r _ λ_=>rfl)) zia_) fin
   ·exact fin.elim
  ·exact fin.elim
 ·exact fin.elim
theorem recvV {v0 d0:D}{args:List D}{x y:V}{xs:List V}(os:ODs K (v0::d0::args) (x::y::xs) F h):∃h1 h2 h3 a,Jn h1 a h/\Jn h2 h3 a/\OD K v0 x F h1/\OD K d0 y F h2/\ODs K args xs F h3:=by
 unfold ODs at os;obtain⟨w,ws,m1,m2,e1,jm,o1,os⟩:=os;cases e1;unfold ODs at os;obtain⟨w2,ws2,n1,n2,e2,jn,o2,os⟩:=os;cases e2;exact⟨m1,n1,n2,m2,jm,jn,o1,o2,os⟩
def rSetD:TSet:=λo i v H Q=>atD o i H λa kvs k=>kvs.length<lA/\Q (upd H a (.dK (putK kvs k v)))
def rSetA:TSet:=λo i v H Q=>mSet o i v H Q\/rSetD o i v H Q
theorem set_A {X:Cx}(hu:X.A.units+60<cLine):PSet X rSetA:=by
 intro pins s σ H o i v ov iv u Q I ro ri rv h;rcases h with h |h
 ·exact set_M pins s σ H o i v ov iv u Q I ro ri rv h
 ·obtain⟨a,kvs,k,rfl,rfl,hd,hl,q⟩:=zgK_ h
  cases ro;exact zhp_ (by lia) I (DPut.k hd hl) ri rv λs4 I4=>⟨_,I4,q⟩
def setIF:Fn:=λds=>match ds with
 |[v,.nd .lst xs,.int i]=>(match ixN xs.length i with |some j=>.ok .non [.gone,.nd .lst (xs.set j v),.int i]|none=>.no)
 |[v,.nd (.dct ks) xs,k]=>(match keyD k with
  |some k'=>if kIx ks k'<ks.length/\xs.length<lA then .ok .non [.gone,.nd (.dct ks) (xs.set (kIx ks k') v),k]else if xs.length<lA/\¬kIx ks k'<ks.length then .ok .non [.gone,.nd (.dct (ks++[k'])) (xs++[v]),k]else .no
  |none=>.no)
 |_=>.no
theorem zef_ {o o':HO}{k m:Hp}{ds':List D}(hs:Same F H)(dj:Dj F h)(sh:Same h H)(nt:∀p xs,h p≠uN (.tup xs))(jh:Jn (one p o) k h)(n':∀xs,o'≠.tup xs)(sm:Same m (un (one p o') k)){d:D}{v:V}{hr h2:Hp}(jk:Jn hr h2 m)
  (od:OD K d v F hr) (os:ODs K ds' vs F h2) (fin:∀v F' h' H' hr h2,Okk F (less H h) F' h' H'->Jn hr h2 h'->OD K d v F' hr->ODs K ds' vs F' h2->Q v H'):Q v (upd H p o'):=by
 have ok:=zbc_ hs dj sh nt;have hp:h p≠uO:=by rw[jh.l _ _ zo_];exact sN _
 have bN:=zgD_ (h1':=h) (hr:=h) (h':=h) ok hp n' (un (one p o') k) λq=>by
  unfold un;rw[zb_];by_cases e:q=p
  ·rw[if_pos e,if_pos e]
  ·rw[if_neg e,if_neg e]
   rcases jh q with⟨_,b⟩|⟨a,b⟩
   ·exact b.symm
   ·rw[a,b,zb_,if_neg e]
 exact fin v F _ _ hr h2 (zdw_ bN sm) jk od os
theorem zim_:∀{ks:List Key}{k:Key},kIx ks k<ks.length↔k∈ks
 |[],k=>by simp[kIx]
 |k0::ks,k=>by
  unfold kIx;by_cases e:k0=k
  ·subst e;simp
  ·rw[if_neg e,lg,Nat.succ_lt_succ_iff,zim_,lI]
   exact⟨.inr,λz=>by rcases z with z |z;exact absurd z.symm e;exact z⟩
theorem zlh_:∀{ks:List Key}{us:List V}{k:Key}{v:V},k∈ks->ks.Nodup->ks.length=us.length->putK (ks.zip us) k v=ks.zip (us.set (kIx ks k) v):=λ{ks us k v} hk nd hl=>by
 have ha:((ks.zip us).any λkv=>decide (kv.1=k))=uP:=by
  rw[qv];obtain⟨i,hi,e⟩:=pX hk;exact⟨(ks[i],us[i]'(by lia)),mV (i:=i) (by rw[pd];exact⟨by rw[kY hi],by rw[kY]⟩),by simpa using e⟩
 unfold putK;rw[if_pos ha];clear ha;induction ks generalizing us with
 |nil=>simp at hk
 |cons k0 ks ih=>
  cases us with
  |nil=>simp at hl
  |cons u us=>
   obtain⟨n1,n2⟩:=oP.mp nd;rw[l0,lj];unfold kIx;by_cases e:k0=k
   ·subst e
    rw[if_pos rfl,if_pos rfl,oM,l0];congr 1;have:∀q∈ks.zip us,(if q.1=k0 then(q.1,v)else q)=q:=λq hq=>by
     have h1:=(oj (a:=q.1) (b:=q.2) hq).1;rw[if_neg (show¬q.1=k0 from λz=>n1 (z ▸ h1))]
    exact(nG this).trans (uD _)
   ·rw[if_neg e,if_neg e,pB,l0]
    congr 1;exact ih (by rcases lI.mp hk with z |z;exact absurd z.symm e;exact z) n2 (by simpa using hl)
theorem zgd_ {ks:List Key}{us:List V}{k:Key}{v:V}(hk:k∉ks)(hl:ks.length=us.length):putK (ks.zip us) k v=(ks++[k]).zip (us++[v]):=by
 have ha:¬((ks.zip us).any λkv=>decide (kv.1=k))=uP:=by
  rw[qv];rintro⟨q,hq,e⟩;exact hk (by have:=(oj hq).1;simp at e;rw[<- e];exact this)
 unfold putK;rw[if_neg ha,List.zip_append hl];rfl
theorem zjD_ {k:Nd}{ys:List D}(o:OD K (.nd k ys) v F h):∃p us h0 hc,v=.ref p/\Cell K k p us F h0/\Jn h0 hc h/\ODs K ys us F hc:=by unfold OD at o;exact o
theorem ods3 {a b c:D}{x y z:V}{h1 h2 h3 m:Hp}(o1:OD K a x F h1)(o2:OD K b y F h2)(o3:OD K c z F h3)(j1:Jn h2 h3 m)(j2:Jn h1 m h):ODs K [a,b,c] [x,y,z] F h:=by
 unfold ODs;refine⟨x,[y,z],h1,m,rfl,j2,o1,?_⟩;unfold ODs;refine⟨y,[z],h2,h3,rfl,j1,o2,?_⟩;unfold ODs;exact⟨z,[],h3,λ_=>uO,rfl,no_r _ λ_=>rfl,o3,zct_⟩
theorem zn8_ {x o i:V}{QQ:Hp->Prop}(h0:CtG K setIF [x,o,i] H (λv H'=>v=.non->QQ H') E):rSetA o i x H QQ:=by
 obtain⟨F,h,ds,hs,dj,sh,os,fin⟩:=h0;have nt:=zeQ_ os;unfold setIF at fin;split at fin
 ·rename_i v0 ys j0
  obtain⟨h1,h2,h3,a,ja,jb,ov,orr,oi⟩:=recvV os;have oi:=zd8_ oi;unfold OD at oi;obtain⟨n3,r3⟩:=oi;cases r3.int;obtain⟨p,us,c0,hc,rfl,cl,jc,oc⟩:=zjD_ orr;have e0:c0=one p (.lst us):=cl;subst e0;have ea:a=h2:=by rw[zb7_ jb];funext q;unfold un;cases z:h2 q with |none=>exact n3 q |some o=>rfl
  subst ea;cases ej:ixN ys.length j0 with
  |none=>rw[ej]at fin;exact fin.elim
  |some j=>
   rw[ej]at fin;dsimp only at fin;have gK:=(zfm_ ej).2.1;obtain⟨u,k1,k2,eu,jk,ow,g⟩:=ODs.focus oc (kY gK);obtain⟨m,jm,jh⟩:=zj_ jc (z0_ ja);have d1:Dj h1 hc:=λq=>(jm.dj q).symm
   have d2:Dj h1 k2:=λq=>by rcases d1 q with z |z;exact .inl z;exact .inr (jk.r.free z)
   have on:=g v0 F x h1 (un h1 k2) (Same.refl _) ov (z6_ d2);have hp:H p=uN (.lst us):=sh _ _ (jh.l _ _ zo_);have sm:Same (un h1 k2) m:=λq o e=>by
    unfold un at e;cases z:h1 q with
    |some w=>rw[z]at e;cases e;exact jm.r _ _ z
    |none=>rw[z]at e;exact jm.l _ _ (jk.r _ _ e)
   have dp:Dj (one p (.lst (us.set j x))) (un h1 k2):=λq=>by
    rcases ze0_ (o':=.lst (us.set j x)) jh q with z |z
    ·exact .inl z
    ·exact .inr (sm.free z)
   refine .inl ⟨us,hp,?_⟩;rw[<- ODs.len oc,ej];refine zef_ (vs:=[x,.ref p,.int j0]) (m:=un (one p (.lst (us.set j x))) (un h1 k2)) (d:=.non) (v:=.non) (Q:=λv H'=>v=.non->QQ H') (hr:=λ_=>uO) hs dj sh nt jh (λxs z=>by cases z) (λq o e=>?_) (no_l _ λ_=>rfl) (zcr_ λ_=>rfl) (ods3 (zaF_ λ_=>rfl) ?_ (by unfold OD;exact⟨λ_=>rfl,by unfold DR;rfl⟩) (no_r _ λ_=>rfl) (no_l _ λ_=>rfl)) fin rfl
   ·unfold un at e ⊢
    cases z:one p (.lst (us.set j x)) q with
    |some w=>rw[z]at e;exact e
    |none=>rw[z]at e;exact sm _ _ e
   ·unfold OD
    exact⟨p,us.set j x,_,un h1 k2,rfl,rfl,z6_ dp,on⟩
 ·rename_i v0 ks ys key
  obtain⟨h1,h2,h3,a,ja,jb,ov,orr,oi⟩:=recvV os;have oi:=zd8_ oi;obtain⟨p,us,c0,hc,rfl,cl,jc,oc⟩:=zjD_ orr;obtain⟨e0,el,nd⟩:=cl;subst e0;cases ek:keyD key with
  |none=>rw[ek]at fin;exact fin.elim
  |some k'=>
   rw[ek]at fin;dsimp only at fin;have ck:(∀q,h3 q=uO)/\DR K key i F:=by
    have:∀{d:D}{k:Key},keyD d=uN k->d.cold=uP:=λ{d}=>by
     cases d with
     |nd=>intro k e;cases e
     |_=>intro k e;rfl
    exact OD.cold (this ek) oi
   obtain⟨n3,r3⟩:=ck;have kv:=zkS_ ek r3;have ea:a=h2:=by rw[zb7_ jb];funext q;unfold un;cases z:h2 q with |none=>exact n3 q |some o=>rfl
   subst ea;obtain⟨m,jm,jh⟩:=zj_ jc (z0_ ja);have hp:H p=uN (.dK (ks.zip us)):=sh _ _ (jh.l _ _ zo_);have d1:Dj h1 hc:=λq=>(jm.dj q).symm
   split at fin
   ·rename_i gJ
    obtain⟨hk,di⟩:=gJ;have hj:kIx ks k'<ys.length:=by rw[ODs.len oc,<- el];exact hk
    obtain⟨u,k1,k2,eu,jk,ow,g⟩:=ODs.focus oc (kY hj);have d2:Dj h1 k2:=λq=>by rcases d1 q with z |z;exact .inl z;exact .inr (jk.r.free z)
    have on:=g v0 F x h1 (un h1 k2) (Same.refl _) ov (z6_ d2);have sm:Same (un h1 k2) m:=λq o e=>by
     unfold un at e;cases z:h1 q with
     |some w=>rw[z]at e;cases e;exact jm.r _ _ z
     |none=>rw[z]at e;exact jm.l _ _ (jk.r _ _ e)
    have dp:Dj (one p (.dK (ks.zip (us.set (kIx ks k') x)))) (un h1 k2):=λq=>by
     rcases ze0_ (o':=.dK (ks.zip (us.set (kIx ks k') x))) jh q with z |z
     ·exact .inl z
     ·exact .inr (sm.free z)
    refine .inr (zdD_ rfl kv.1 hp ⟨?_,?_⟩)
    ·rw[mF,el,ox,<- ODs.len oc];exact di
    ·rw[zlh_ (zim_.mp hk) nd el]
     refine zef_ (vs:=[x,.ref p,i]) (m:=un (one p (.dK (ks.zip (us.set (kIx ks k') x)))) (un h1 k2)) (d:=.non) (v:=.non) (Q:=λv H'=>v=.non->QQ H') (hr:=λ_=>uO) hs dj sh nt jh (λxs z=>by cases z) (λq o e=>?_) (no_l _ λ_=>rfl) (zcr_ λ_=>rfl) (ods3 (zaF_ λ_=>rfl) ?_ oi (λq=>.inr ⟨n3 q,rfl⟩) (no_l _ λ_=>rfl)) fin rfl
     ·unfold un at e ⊢
      cases z:one p (.dK (ks.zip (us.set (kIx ks k') x))) q with
      |some w=>rw[z]at e;exact e
      |none=>rw[z]at e;exact sm _ _ e
     ·unfold OD
      exact⟨p,us.set (kIx ks k') x,_,un h1 k2,rfl,⟨rfl,by rw[m6];exact el,nd⟩,z6_ dp,on⟩
   ·split at fin
    ·rename_i di
     obtain⟨hl,hk⟩:=di;have bq:k'∉ks:=λz=>hk (zim_.mpr z)
     refine .inr (zdD_ rfl kv.1 hp ⟨by rw[mF,el,ox,<- ODs.len oc];exact hl,?_⟩)
     rw[zgd_ bq el];have on:=ODs.snoc oc ov jm;have dp:=ze0_ (o':=.dK ((ks++[k']).zip (us++[x]))) jh;refine zef_ (vs:=[x,.ref p,i]) (m:=un (one p (.dK ((ks++[k']).zip (us++[x])))) m) (d:=.non) (v:=.non) (Q:=λv H'=>v=.non->QQ H') (hr:=λ_=>uO) hs dj sh nt jh (λxs z=>by cases z) (Same.refl _) (no_l _ λ_=>rfl) (zcr_ λ_=>rfl) (ods3 (zaF_ λ_=>rfl) ?_ oi (λq=>.inr ⟨n3 q,rfl⟩) (no_l _ λ_=>rfl)) fin rfl
     unfold OD;exact⟨p,us++[x],_,m,rfl,⟨rfl,by simp[el],qf.mpr ⟨nd,by simp,by rintro a ha b hb rfl;simp at hb;subst hb;exact bq ha⟩⟩,z6_ dp,on⟩
    ·exact fin.elim
 ·exact fin.elim
theorem zfB_ {dx:k9}{o o':HO}{k m:Hp}{ds':List D}(hs:Same F H)(dj:Dj F h)(sh:Same h H)(nt:∀p xs,h p≠uN (.tup xs))(jh:Jn (two p dx o) k h)(n':∀xs,o'≠.tup xs)(sm:Same m (un (two p dx o') k)){d:D}{v:V}{hr h2:Hp}(jk:Jn hr h2 m)
  (od:OD K d v F hr) (os:ODs K ds' vs F h2) (fin:∀v F' h' H' hr h2,Okk F (less H h) F' h' H'->Jn hr h2 h'->OD K d v F' hr->ODs K ds' vs F' h2->Q v H'):Q v (upd H p o'):=by
 have ok:=zbc_ hs dj sh nt;have hp:h p≠uO:=by rw[jh.l _ _ zpm_];exact sN _
 have bN:=zgD_ (h1':=h) (hr:=h) (h':=h) ok hp n' (un (two p dx o') k) λq=>by
  unfold un;rw[z1_];by_cases e:q=p
  ·rw[if_pos e,if_pos e]
  ·rw[if_neg e,if_neg e]
   rcases jh q with⟨a,b⟩|⟨a,b⟩
   ·rw[z1_,if_neg e]at a
    rw[b];split at a
    ·cases a
    ·rename_i z;rw[if_neg z]
   ·rw[a,b,z1_,if_neg e];split<;>(rename_i z;exact z.symm)
 exact fin v F _ _ hr h2 (zdw_ bN sm) jk od os
theorem zi5_:∀{ns:List Str}{us:List V}{f:Str}{v:V},f∈ns->ns.length=us.length->putF f v (ns.zip us)=ns.zip (us.set (ns.idxOf f) v)
 |[],_,_,_,h,_=>by simp at h
 |n::ns,[],_,_,_,l=>by simp at l
 |n::ns,u::us,f,v,h,l=>by
  rw[l0,putF];by_cases e:n=f
  ·subst e;rw[if_pos rfl];simp
  ·rw[if_neg e,zi5_ (by rcases lI.mp h with z |z;exact absurd z.symm e;exact z) (by simpa using l),sD,show(n == f)=uQ from beq_eq_false_iff_ne.mpr e,cond_false,pB,l0]
def setFF (f:Str):Fn:=λds=>match ds with
 |[v,.nd (.obj c ns) xs]=>if ns.length<1000 then(if f∈ns then .ok .non [.gone,.nd (.obj c ns) (xs.set (ns.idxOf f) v)]else .ok .non [.gone,.nd (.obj c (ns++[f])) (xs++[v])])else .no
 |_=>.no
theorem zkT_ {dx:k9}{o o':HO}{a:Hp}(jb:Jn (two p dx o) a h):Dj (two p dx o') a:=λq=>by
 rcases jb.dj q with z |z
 ·left
  rw[z1_]at z ⊢;split at z
  ·cases z
  ·rename_i e;rw[if_neg e];exact z
 ·exact .inr z
theorem ods2 {a b:D}{x y:V}{h1 h2:Hp}(o1:OD K a x F h1)(o2:OD K b y F h2)(j2:Jn h1 h2 h):ODs K [a,b] [x,y] F h:=by
 unfold ODs;refine⟨x,[y],h1,h2,rfl,j2,o1,?_⟩;unfold ODs;exact⟨y,[],h2,λ_=>uO,rfl,no_r _ λ_=>rfl,o2,zct_⟩
theorem zmN_ {x o:V}{n:Str}{v0:D}{c':Str}{ns:List Str}{ys:List D}{QQ:Hp->Prop}(h0:CtX K (setFF n) [v0,.nd (.obj c' ns) ys] [x,o] H (λv H'=>v=.non->QQ H') E):
  ∃a,o=.ref a/\∃dx fs,H a=uN (.ins (gA K c') dx fs)/\fs.length<1000/\QQ (upd H a (.ins (gA K c') dx (putF n x fs))):=by
 obtain⟨F,h,hs,dj,sh,os,fin⟩:=h0;have nt:=zeQ_ os;unfold setFF at fin;dsimp only at fin
 ·split at fin
  ·rename_i hl
   obtain⟨h1,h2,h3,a,ja,jb,ov,orr,oi⟩:=recvV os;obtain⟨p,us,c0,hcc,rfl,cl,jc,oc⟩:=zjD_ orr;obtain⟨dx,dI,e0,el⟩:=cl;subst e0;unfold ODs at oi;have ea:a=h2:=by rw[zb7_ jb];funext q;unfold un;cases z:h2 q with |none=>exact oi.2 q |some o=>rfl
   subst ea;obtain⟨m,jm,jh⟩:=zj_ jc (z0_ ja);have hp:H p=uN (.ins (gA K c') dx (ns.zip us)):=sh _ _ (jh.l _ _ zpm_);have d1:Dj h1 hcc:=λq=>(jm.dj q).symm
   refine⟨p,rfl,dx,ns.zip us,hp,by rw[mF,el,ox,<- el];exact hl,?_⟩
   split at fin
   ·rename_i hn
    have hj:ns.idxOf n<ys.length:=by rw[ODs.len oc,<- el];exact List.idxOf_lt_length_iff.mpr hn
    obtain⟨u,k1,k2,eu,jk,ow,g⟩:=ODs.focus oc (kY hj);have d2:Dj h1 k2:=λq=>by rcases d1 q with z |z;exact .inl z;exact .inr (jk.r.free z)
    have on:=g v0 F x h1 (un h1 k2) (Same.refl _) ov (z6_ d2);have sm:Same (un h1 k2) m:=λq o e=>by
     unfold un at e;cases z:h1 q with
     |some w=>rw[z]at e;cases e;exact jm.r _ _ z
     |none=>rw[z]at e;exact jm.l _ _ (jk.r _ _ e)
    have dp:Dj (two p dx (.ins (gA K c') dx (ns.zip (us.set (ns.idxOf n) x)))) (un h1 k2):=λq=>by
     rcases zkT_ (o':=.ins (gA K c') dx (ns.zip (us.set (ns.idxOf n) x))) jh q with z |z
     ·exact .inl z
     ·exact .inr (sm.free z)
    rw[zi5_ hn el];refine zfB_ (vs:=[x,.ref p]) (m:=un (two p dx (.ins (gA K c') dx (ns.zip (us.set (ns.idxOf n) x)))) (un h1 k2)) (d:=.non) (v:=.non) (Q:=λv H'=>v=.non->QQ H') (hr:=λ_=>uO) hs dj sh nt jh (λxs z=>by cases z) (λq o e=>?_) (no_l _ λ_=>rfl) (zcr_ λ_=>rfl) (ods2 (zaF_ λ_=>rfl) ?_ (no_l _ λ_=>rfl)) fin rfl
    ·unfold un at e ⊢
     cases z:two p dx (.ins (gA K c') dx (ns.zip (us.set (ns.idxOf n) x))) q with
     |some w=>rw[z]at e;exact e
     |none=>rw[z]at e;exact sm _ _ e
    ·unfold OD
     exact⟨p,us.set (ns.idxOf n) x,_,un h1 k2,rfl,⟨dx,dI,rfl,by rw[m6];exact el⟩,z6_ dp,on⟩
   ·rename_i hn
    rw[zf3_ x hn el.symm];have on:=ODs.snoc oc ov jm;have dp:=zkT_ (o':=.ins (gA K c') dx ((ns++[n]).zip (us++[x]))) jh;refine zfB_ (vs:=[x,.ref p]) (m:=un (two p dx (.ins (gA K c') dx ((ns++[n]).zip (us++[x])))) m) (d:=.non) (v:=.non) (Q:=λv H'=>v=.non->QQ H') (hr:=λ_=>uO) hs dj sh nt jh (λxs z=>by cases z) (Same.refl _) (no_l _ λ_=>rfl) (zcr_ λ_=>rfl) (ods2 (zaF_ λ_=>rfl) ?_ (no_l _ λ_=>rfl)) fin rfl
    unfold OD;exact⟨p,us++[x],_,m,rfl,⟨dx,dI,rfl,by simp[el]⟩,z6_ dp,on⟩
  ·exact fin.elim
def tSFldA (K:lY)(cs:List Str)(t tv:TE)(f:Str):TS:=λN σ H=>∃c∈cs,mSFld (gA K c) t tv f N σ H
def clsAt (env:Env)(q:Pl):Option Str:=match atE env q with |some (.nd (.obj c _) _)=>uN c |_=>uO
def setFM (G:Gi)(n:Str)(p:Pt)(x:X)(env:Env):Mr Env Fl:=(evG G env [.x x,.l p]).bind λgs e=>match gs with
 |[g,.l q]=>(match clsAt e q with |some c=>if c∈G.cs then dropM (callG (setFF n) [g,.l q] e)else .no |none=>.no)
 |_=>.no
theorem zk0_ (g0:G.Ok K)(n:Str)(pt:Pt)(x:X):EvS K (tSFldA K G.cs (pt.x.den K G E) (x.den K G E) n) E ws env (setFM G n pt x env):=by
 intro F0 H0 σ F h H N hL ok fin;unfold setFM at fin;have main:∀c∈G.cs,(∀gs e,evG G env [.x x,.l pt]=.ok gs e->∃g q,gs=[g,.l q]/\clsAt e q=uN c)->tSFldA K G.cs (pt.x.den K G E) (x.den K G E) n N σ H:=λc hc hg=>⟨c,hc,by
  have:=zc8_ (K:=K) (E:=E) (ws:=ws) g0 [.x x,.l pt] env;rw[show X.dens K G E ([A.x x,.l pt].map A.t)=tCons (x.den K G E) (tCons (pt.x.den K G E) tNil)from rfl]at this
  have key:FinG K (evG G env [.x x,.l pt]) E ws σ F0 H0 H (λvs H2=>match vs with |[y,.ref a]=>∃dx fs,H2 a=uN (.ins (gA K c) dx fs)/\fs.length<1000/\N.nx σ (upd H2 a (.ins (gA K c) dx (putF n y fs)))|_=>False):=by
   cases e:evG G env [.x x,.l pt]with
   |no=>rw[e]at fin;exact fin
   |ex c e'=>rw[e]at fin;exact λF h H hL ok=>fin σ F h H hL ok
   |ok gs e'=>
    rw[e]at fin;obtain⟨g,q,rfl,ecl⟩:=hg gs e' e;dsimp only[Mr.bind]at fin;rw[ecl]at fin;dsimp only at fin;rw[if_pos hc]at fin;intro vs F1 hA hE h1 H1 av ag j aw _;have fe:FinE K (callG (setFF n) [g,.l q] e') E ws σ F0 H0 (λv H'=>v=.non->N.nx σ H'):=by
     cases ec:callG (setFF n) [g,.l q] e' with
     |no=>rw[ec]at fin;exact fin
     |ex c e2=>rw[ec]at fin;exact λF h H hL ok=>fin σ F h H hL ok
     |ok d e2=>rw[ec]at fin;exact λv F hr h2 h H hL od j ok _=>fin σ F h H (Hold.more hL j) ok
    obtain⟨ds,er,cx⟩:=zft_ av ag j aw fe;have hlen:=zhW_ ag;obtain⟨y,o,rfl⟩:=len2_ hlen;unfold clsAt at ecl;split at ecl
    ·rename_i c1 ns ys ea
     cases ecl;have ed:∃v0,ds=[v0,.nd (.obj c ns) ys]:=by
      cases g with
      |d v0=>simp[resolve,ea]at er;exact⟨v0,er.symm⟩
      |l q'=>
       cases eq':atE e' q' with
       |none=>simp[resolve,eq']at er
       |some v0=>simp[resolve,ea,eq']at er;exact⟨v0,er.symm⟩
     obtain⟨v0,rfl⟩:=ed;obtain⟨a,rfl,r⟩:=zmN_ cx;exact r
    ·cases ecl
  ·-- the same,read as an assignment
   have z:=this F0 H0 σ F h H _ hL ok key;unfold mSFld;unfold tCons tNil at z;have e:(λ(y:V) (H1:Hp)=>(pt.x.den K G E) σ H1 λo H2=>(match([y,o]:List V)with |[y,.ref a]=>∃dx fs,H2 a=uN (.ins (gA K c) dx fs)/\fs.length<1000/\N.nx σ (upd H2 a (.ins (gA K c) dx (putF n y fs)))|_=>False))=λy H1=>(pt.x.den K G E) σ H1 λo H2=>(match o with |.ref a=>∃dx fs,H2 a=uN (.ins (gA K c) dx fs)/\fs.length<1000/\N.nx σ (upd H2 a (.ins (gA K c) dx (putF n y fs)))|_=>False):=by
    funext y H1;congr 1;funext o H2;cases o<;>rfl
   have z2:=z;rw[e]at z2;exact z2⟩
 cases e:evG G env [.x x,.l pt]with
 |no=>rw[e]at fin;exact fin.elim
 |ex c e'=>
  cases hcs:G.cs with
  |nil=>exact absurd hcs g0.cs
  |cons c0 cs=>
   have:=main c0 (by rw[hcs];exact lO ..) λgs e2 z=>by rw[e]at z;cases z
   rw[hcs]at this;exact this
 |ok gs e'=>
  rw[e]at fin;dsimp only[Mr.bind]at fin;split at fin
  ·rename_i g q
   cases ec:clsAt e' q with
   |none=>rw[ec]at fin;exact fin.elim
   |some c=>
    rw[ec]at fin;dsimp only at fin;by_cases hc:c∈G.cs
    ·exact main c hc λgs e2 z=>by rw[e]at z;cases z;exact⟨g,q,rfl,ec⟩
    ·rw[if_neg hc]at fin;exact fin.elim
  ·exact fin.elim
def setIM (G:Gi)(p:Pt)(k x:X)(env:Env):Mr Env Fl:=dropM ((evG G env [.x x,.l p,.x k]).bind (callG setIF))
theorem zna_ (g0:G.Ok K)(pt:Pt)(k x:X):EvS K (tAsg (x.den K G E) (gSub (pt.x.den K G E) (k.den K G E) rSetA)) E ws env (setIM G pt k x env):=by
 intro F0 H0 σ F h H N hL ok fin;unfold setIM at fin;have:=zc8_ (K:=K) (E:=E) (ws:=ws) g0 [.x x,.l pt,.x k] env;rw[show X.dens K G E ([A.x x,.l pt,.x k].map A.t)=tCons (x.den K G E) (tCons (pt.x.den K G E) (tCons (k.den K G E) tNil))from rfl]at this
 refine this F0 H0 σ F h H (λvs H2=>match vs with |[y,o,i]=>rSetA o i y H2 (N.nx σ)|_=>False) hL ok ?_
 cases e:evG G env [.x x,.l pt,.x k]with
 |no=>rw[e]at fin;exact fin
 |ex c e'=>rw[e]at fin;exact λF h H hL ok=>fin σ F h H hL ok
 |ok gs e'=>
  rw[e]at fin;intro vs F1 hA hE h1 H1 av ag j aw _;have fin:FinS K (dropM (callG setIF gs e')) E ws F0 H0 N:=fin;have fe:FinE K (callG setIF gs e') E ws σ F0 H0 (λv H'=>v=.non->N.nx σ H'):=by
   cases ec:callG setIF gs e' with
   |no=>rw[ec]at fin;exact fin
   |ex c e2=>rw[ec]at fin;exact λF h H hL ok=>fin σ F h H hL ok
   |ok d e2=>rw[ec]at fin;exact λv F hr h2 h H hL od j ok _=>fin σ F h H (Hold.more hL j) ok
  have cx:=zcC_ av ag j aw fe;have hlen:=zhW_ ag;have jL:gs.length=3:=by
   have:∀{as:List A}{env e:Env}{gs:List Ag},evG G env as=.ok gs e->gs.length=as.length:=λ{as}=>by
    induction as with
    |nil=>intro env e gs h;unfold evG at h;cases h;rfl
    |cons a as ih=>
     intro env e gs h;cases a with
     |x y=>
      unfold evG at h;cases e1:stX G env y with
      |no=>rw[e1]at h;cases h
      |ex c t=>rw[e1]at h;cases h
      |ok d t=>
       rw[e1]at h;dsimp only[Mr.bind]at h;cases e2:evG G t as with
       |no=>rw[e2]at h;cases h
       |ex c t=>rw[e2]at h;cases h
       |ok gs' t'=>rw[e2]at h;cases h;rw[lg,lg,ih e2]
     |l p=>
      unfold evG at h;split at h
      ·cases e2:evG G env as with
       |no=>rw[e2]at h;cases h
       |ex c t=>rw[e2]at h;cases h
       |ok gs' t'=>rw[e2]at h;cases h;rw[lg,lg,ih e2]
      ·cases h
      ·cases h
   exact this e
  rw[jL]at hlen;obtain⟨y,o,i,rfl⟩:=len3_ hlen;exact zn8_ cx
theorem zcY_ (g0:G.Ok K){pt:Pt}(hL:Hold (LofW K ws env) σ F h)(ok:Okk F0 H0 F h H)(e:pt.ev G env=.ok q)(hc:atE env q=uN c)
  (hk:∀u F1 H1 k1 v,Okk F0 H0 F1 h H1->Hold (LofW K ws env) σ F1 h->Same k1 h->OD K c u F1 k1->σ[q.1]?=uN (uN v)->vAt H1 v q.2=uN u->Q u H1):pt.x.den K G E σ H Q:=by
 refine Pt.sound g0 pt E env σ (un F h) H _ (zcf_ (hL.froz ok.2.1)) ok.thaw ?_;rw[e];intro F1 H1 v u c' x1 hv hu _ _;obtain⟨o1,hsF,ht⟩:=ok.back x1;rcases ze5_ env q.1 with⟨d,hd⟩|hd
 ·rw[zL_ hd]at hc
  obtain⟨v',u',k1,k2,ev,vp,j,oc,_⟩:=zbS_ hL hd hc;rw[hv]at ev;cases ev;cases lX ((zbQ_ x1.2.2.1 (vp H ok.1.2.1 ok.2.2.1)).symm.trans hu);exact hk u _ H1 k1 v o1 (hL.mono hsF) j.l (oc.mono hsF) hv hu
 ·unfold atE at hc;split at hc
  ·rename_i d z;exact absurd z (hd d)
  ·cases hc
theorem pt_ex (g0:G.Ok K){pt:Pt}{x:Xc}(hL:Hold (LofW K ws env) σ F h)(ok:Okk F0 H0 F h H)(e:pt.ev G env=.ex x)(fin:∀F h H,Hold (LofW K ws env) σ F h->Okk F0 H0 F h H->Tell K E x H0 F H):pt.x.den K G E σ H Q:=by
 refine Pt.sound g0 pt E env σ (un F h) H _ (zcf_ (hL.froz ok.2.1)) ok.thaw ?_;rw[e];exact λF' H' y=>(fin _ _ _ (hL.mono (ok.back y).2.1) (ok.back y).1).back ok y
def lentG (G:Gi)(env:Env)(p:Pt)(as:List A)(ok:D->Bool)(k:Pl->List Ag->Env->Mr Env D):Mr Env D:=match p.ev G env with
 |.ok q=>(match atE env q with |some c=>if ok c then(evG G env as).bind (k q)else .no |none=>.no)
 |.ex c=>.ex c env
 |.no=>.no
theorem ziK_ {gs:List Ag}{v:V}{hA:Hp}(ev:σ[q.1]?=uN (uN v))(vp:vAt H1 v q.2=uN u)(sm:Same H1 H2)(ag:AgR K σ F2 H2 gs vs hA):AgR K σ F2 H2 (.l q::gs) (u::vs) hA:=⟨u,v,vs,rfl,ev,zbQ_ sm vp,ag⟩
def isK (T:String)(c:D):Bool:=match c with |.nd .lst _=>T=="list" |.nd (.dct _) _=>T=="dict" |_=>uQ
theorem zoT_ {T:String}(h0:isK T c=uP)(oc:OD K c u F k)(sF:Same F H)(sk:Same k H):tyV K T u H:=by
 unfold isK at h0;split at h0
 ·obtain⟨p,us,c0,hc,rfl,cl,jc,_⟩:=zjD_ oc
  have e0:c0=one p (.lst us):=cl;subst e0;have:T="list":=by simpa using h0
  exact .inl ⟨this,us,.of (sk _ _ (jc.l _ _ zo_))⟩
 ·obtain⟨p,us,c0,hc,rfl,cl,jc,_⟩:=zjD_ oc
  obtain⟨e0,_⟩:=cl;subst e0;have:T="dict":=by simpa using h0
  exact .inr (.inr (.inl ⟨this,.inl ⟨_,sk _ _ (jc.l _ _ zo_)⟩⟩))
 ·cases h0
theorem ee_bm (g0:G.Ok K){T:String}{r:V->List V->Hp->VK->Prop}(b:BmOk K r f)(pt:Pt)(as:List A):EvE K (tBM K T r (pt.x.den K G E) (X.dens K G E (as.map A.t))) E ws env (lentG G env pt as (isK T) λq gs e=>callG f (.l q::gs) e):=by
 intro F0 H0 σ F h H Q hL ok fin;unfold lentG at fin;cases e:pt.ev G env with
 |no=>rw[e]at fin;exact fin.elim
 |ex c=>rw[e]at fin;exact pt_ex g0 hL ok e fin
 |ok q=>
  rw[e]at fin;dsimp only at fin;cases hc:atE env q with
  |none=>rw[hc]at fin;exact fin.elim
  |some c=>
   rw[hc]at fin;dsimp only at fin;by_cases hk:isK T c=uP
   rotate_left
   ·rw[if_neg hk]at fin;exact fin.elim
   rw[if_pos hk]at fin;refine zcY_ g0 hL ok e hc λu F1 H1 k1 v o1 av sk oc ev vp=>⟨zoT_ hk oc o1.1.2.1 (sk.trans o1.2.2.1),?_⟩
   refine zc8_ (K:=K) (E:=E) (ws:=ws) g0 as env F0 H0 σ F1 h H1 _ av o1 ?_;cases eg:evG G env as with
   |no=>rw[eg]at fin;exact fin
   |ex x e'=>rw[eg]at fin;exact fin
   |ok gs e'=>
    rw[eg]at fin;intro vs F2 hA hE h2 H2 bC ag j ax sm;exact b u vs H2 Q E (zcC_ bC (ziK_ ev vp sm ag) j ax fin)
theorem zpa_ (g0:G.Ok K){T:String}{r:V->List V->Hp->VK->Prop}(b:BmOk K r f)(pt:Pt):EvE K (tBM0 K T r (pt.x.den K G E)) E ws env (lentG G env pt [] (isK T) λq gs e=>callG f (.l q::gs) e):=by
 intro F0 H0 σ F h H Q hL ok fin;have:=ee_bm (ws:=ws) (env:=env) (E:=E) g0 (T:=T) b pt [] F0 H0 σ F h H Q hL ok fin;exact this
def setdF:Fn:=λds=>match ds with
 | [.nd (.dct ks) ys,key,v]=>if v.cold then(match keyD key with
   |some k'=>if kIx ks k'<ks.length then(match ys[kIx ks k']? with |some y=>if y.cold then .ok y [.nd (.dct ks) ys,key,v]else .no |none=>.no)
    else if ys.length<lA then .ok v [.nd (.dct (ks++[k'])) (ys++[v]),key,v]else .no
   |none=>.no)else .no
 |_=>.no
def rSetd:V->List V->Hp->VK->Prop:=λx xs H Q=>match xs with
 |[y,z]=>atD x y H λa kvs k=>match valV kvs k with |some v=>Q v H |none=>kvs.length<lA/\Q z (upd H a (.dK (putK kvs k z)))
 |_=>False
theorem zkr_ {ks:List Key}{us:List V}{k:Key}(hk:k∉ks):valV (ks.zip us) k=uO:=by
 unfold valV;rw[List.find?_eq_none.mpr]
 ·rfl
 ·intro q hq z
  exact hk (by have:=(oj (a:=q.1) (b:=q.2) hq).1;simp at z;rw[<- z];exact this)
theorem zks_:∀{d:D}{k:Key},keyD d=uN k->d.cold=uP:=λ{d}=>by
 cases d with
 |nd=>intro k e;cases e
 |_=>intro k e;rfl
theorem zlc_:BmOk K rSetd setdF:=by
 rintro x xs H Q E ⟨F,h,ds,hs,dj,sh,os,fin⟩;have nt:=zeQ_ os;have i6:=os;unfold setdF at fin;split at fin
 ·rename_i ks ys key v0
  split at fin
  rotate_left
  ·exact fin.elim
  rename_i hc
  unfold ODs at os;obtain⟨xr,vs1,hA,hB,e1,jA,oR,os1⟩:=os;unfold ODs at os1;obtain⟨xk,vs2,hK,hV,e2,jK,oK,os2⟩:=os1;unfold ODs at os2;obtain⟨xz,vs3,hZ,hN,e3,jZ,oZ,os3⟩:=os2;unfold ODs at os3;obtain⟨e4,nN⟩:=os3;cases e1;subst e2;subst e3;subst e4;obtain⟨nZ,rZ⟩:=OD.cold hc oZ;cases ek:keyD key with
  |none=>rw[ek]at fin;exact fin.elim
  |some k'=>
   rw[ek]at fin;dsimp only at fin;obtain⟨nK,rK⟩:=OD.cold (zks_ ek) oK;have kv:=zkS_ ek rK;obtain⟨p,us,c0,aA,rfl,cl,jc,oc⟩:=zjD_ oR;obtain⟨e0,el,nd⟩:=cl;subst e0;have nV:∀q,hV q=uO:=λq=>by rw[zb7_ jZ];unfold un;rw[nZ q];exact nN q
   have nB:∀q,hB q=uO:=λq=>by rw[zb7_ jK];unfold un;rw[nK q];exact nV q
   have eh:h=hA:=by rw[zb7_ jA];funext q;unfold un;cases z:hA q with |none=>exact nB q |some o=>rfl
   subst eh;have hp:H p=uN (.dK (ks.zip us)):=sh _ _ (jc.l _ _ zo_);have zK:hK=λ_=>uO:=funext nK
   have zZ:hZ=λ_=>uO:=funext nZ
   split at fin
   ·rename_i hk
    cases ey:ys[kIx ks k']? with
    |none=>rw[ey]at fin;exact fin.elim
    |some y=>
     rw[ey]at fin;dsimp only at fin;split at fin
     rotate_left
     ·exact fin.elim
     rename_i hy
     obtain⟨u,k1,k2,eu,jk,ow,g⟩:=ODs.focus oc ey;obtain⟨n1,r1⟩:=OD.cold hy ow;unfold rSetd;refine zdD_ rfl kv.1 hp ?_;rw[zg0_ eu hk];have:k1=λ_=>uO:=funext n1
     rw[this]at ow;exact fin u F h H (λ_=>uO) h (zbc_ hs dj sh nt) (no_l _ λ_=>rfl) ow i6
   ·rename_i hk
    split at fin
    rotate_left
    ·exact fin.elim
    rename_i hl
    have bq:k'∉ks:=λz=>hk (zim_.mpr z)
    unfold rSetd;refine zdD_ rfl kv.1 hp ?_;rw[zkr_ bq];refine⟨by rw[mF,el,ox,<- ODs.len oc];exact hl,?_⟩
    rw[zgd_ bq el];have on:=ODs.snoc oc oZ (no_r _ nZ);have dp:=ze0_ (o':=.dK ((ks++[k']).zip (us++[xz]))) jc;rw[zK]at oK;rw[zZ]at oZ;have o1:OD K (.nd (.dct (ks++[k'])) (ys++[v0])) (.ref p) F (un (one p (.dK ((ks++[k']).zip (us++[xz])))) aA):=by
     unfold OD;exact⟨p,us++[xz],_,aA,rfl,⟨rfl,by simp[el],qf.mpr ⟨nd,by simp,by rintro a ha b hb rfl;simp at hb;subst hb;exact bq ha⟩⟩,z6_ dp,on⟩
    exact zef_ (vs:=[.ref p,xk,xz]) (m:=un (one p (.dK ((ks++[k']).zip (us++[xz])))) aA) (d:=v0) (v:=xz) (Q:=Q) (hr:=λ_=>uO) hs dj sh nt jc (λxs z=>by cases z) (Same.refl _) (no_l _ λ_=>rfl) oZ (ods3 o1 oK oZ (no_l _ λ_=>rfl) (no_r _ λ_=>rfl)) fin
 ·exact fin.elim
theorem zl6_ (g0:G.Ok K)(pt:Pt)(k v:X):EvE K (mSetD (pt.x.den K G E) (k.den K G E) (v.den K G E)) E ws env (lentG G env pt [.x k,.x v] (isK "dict") λq gs e=>callG setdF (.l q::gs) e):=by
 intro F0 H0 σ F h H Q hL ok fin;unfold lentG at fin;cases e:pt.ev G env with
 |no=>rw[e]at fin;exact fin.elim
 |ex c=>rw[e]at fin;exact pt_ex g0 hL ok e fin
 |ok q=>
  rw[e]at fin;dsimp only at fin;cases hc:atE env q with
  |none=>rw[hc]at fin;exact fin.elim
  |some c=>
   rw[hc]at fin;dsimp only at fin;by_cases hk:isK "dict" c=uP
   rotate_left
   ·rw[if_neg hk]at fin;exact fin.elim
   rw[if_pos hk]at fin;refine zcY_ g0 hL ok e hc λu F1 H1 k1 v0 o1 av sk oc ev vp=>⟨?_,?_⟩
   ·unfold isK at hk
    split at hk
    ·cases hk
    ·obtain⟨p,us,c0,hc,rfl,cl,jc,_⟩:=zjD_ oc
     obtain⟨e0,_⟩:=cl;subst e0;exact⟨_,(sk.trans o1.2.2.1) _ _ (jc.l _ _ zo_)⟩
    ·cases hk
   ·have key:=zc8_ (K:=K) (E:=E) (ws:=ws) g0 [.x k,.x v] env F0 H0 σ F1 h H1 (λvs H2=>rSetd u vs H2 Q) av o1
    rw[show X.dens K G E ([A.x k,.x v].map A.t)=tCons (k.den K G E) (tCons (v.den K G E) tNil)from rfl]at key
    refine key ?_;cases eg:evG G env [.x k,.x v]with
    |no=>rw[eg]at fin;exact fin
    |ex x e'=>rw[eg]at fin;exact fin
    |ok gs e'=>
     rw[eg]at fin;intro vs F2 hA hE h2 H2 bC ag j ax sm;exact zlc_ u vs H2 Q E (zcC_ bC (ziK_ ev vp sm ag) j ax fin)
end
inductive Bm where
 |append |extend
noncomputable def Bm.ty:Bm->String
 |_ => "list"
def Bm.r:Bm->V->List V->Hp->VK->Prop
 |.append=>rAppend |.extend=>rExtend
def Bm.f:Bm->Fn
 |.append=>appendF |.extend=>extendF
theorem bm_ok {K:lY}(o:Bm):BmOk K o.r o.f:=by
 cases o with
 |append=>exact zid_
 |extend=>exact zig_
inductive Y where
 |pu (x:X)|mv (i:Nat)
 |call (f:Fn) (x:Str) (as:List A)
 |bm (o:Bm) (p:Pt) (as:List A)
 |bin (o:Bo) (y z:Y)
 |sd (p:Pt) (k v:X)
 |not (y:Y)
inductive S where
 |asg (i:Nat) (y:Y)|asgT (tg:Tg) (x:X)
 |setF (p:Pt) (n:Str) (x:X)|setI (p:Pt) (k x:X)
 |ex (y:Y)|ret (y:Y)|retN
 |if_ (c:X) (a b:List S)|ifY (c:Y) (a b:List S)|ifL (c:X) (a b:List S)
 |for_ (ik:Ik) (src:List X) (tg:Tg) (b:List S)
 |pass |cont |never
 |try0 (b a_:List S)
section
variable (K:mB)(G:Gi)
def Y.den (E:XK):Y->TE
 |.pu x=>x.den K G E
 |.mv i=>mVar i
 |.call f _ as=>tCall (CtG K f) [] E (X.dens K G E (as.map A.t))
 |.bm o p as=>(match as with |[]=>tBM0 K o.ty o.r (p.x.den K G E)|_=>tBM K o.ty o.r (p.x.den K G E) (X.dens K G E (as.map A.t)))
 |.bin o y z=>tOp (o.r K) (y.den E) (z.den E)
 |.sd p k v=>mSetD (p.x.den K G E) (k.den K G E) (v.den K G E)
 |.not y=>mNotV (y.den E)
mutual
def S.den (E:XK):S->TS
 |.asg i y=>tAsg (y.den K G E) (gName i)
 |.asgT tg x=>tAsg (x.den K G E) (tgT K tg)
 |.setF p n x=>tSFldA K G.cs (p.x.den K G E) (x.den K G E) n
 |.setI p k x=>tAsg (x.den K G E) (gSub (p.x.den K G E) (k.den K G E) rSetA)
 |.ex y=>tDrop (y.den K G E)
 |.ret y=>tRet (y.den K G E)
 |.retN=>tRetN
 |.if_ c a b=>mIfS (mTest (c.den K G E)) (S.dens E a) (S.dens E b)
 |.ifY c a b=>mIfS (mTest (c.den K G E)) (S.dens E a) (S.dens E b)
 |.ifL c a b=>mIfS (mTrL K (c.den K G E)) (S.dens E a) (S.dens E b)
 |.for_ ik src tg b=>tFor (ik.t K (X.dens K G E src)) (tgT K tg) (S.dens E b)
 |.pass=>tNext
 |.cont=>tCont
 |.never=>tNever
 |.try0 b a_=>tSeq (S.dens E0 b) (S.dens E a_)
def S.dens (E:XK):List S->TS
 |[]=>tNext
 |s::ss=>tSeq (s.den E) (S.dens E ss)
end
end
def trD (d:D):Mo Bool:=match d.un with |.bl b=>.ok b |.nd .lst xs=>.ok (!xs.isEmpty)|_=>.no
theorem zqc_ {K:lY}{E:XK}{env:Env}{t:TE}{r:Mo D}(h:EvX K t E env r):EvT K (mTrL K t) E (Lof K env) (r.bind trD):=by
 intro σ F H Q hL hs q;refine ex_v h σ F H _ hL hs (q.bind.imp λa F1 H1 x1 k1 v1 aM=>?_)
 have ha:=DR.un aM;unfold trD at k1;split at k1
 ·rename_i b e;rw[e]at ha;cases ha.bl;exact k1.ok x1.2.1
 ·rename_i xs e;rw[e]at ha;obtain⟨p,us,rfl,n,r⟩:=ha.nd
  refine⟨us,.of (x1.2.1 _ _ n),?_⟩;rw[show us.isEmpty=xs.isEmpty from by have:=r.len;cases us<;>cases xs<;>first |rfl |cases this]
  exact k1.ok x1.2.1
 ·exact k1.elim
def moTo {α:Type}(m:Mo α)(e:Env):Mr Env α:=match m with |.ok a=>.ok a e |.ex c=>.ex c e |.no=>.no
def noEx (r:Mr Env Fl):Mr Env Fl:=match r with |.ex _ _=>.no |r=>r
section
variable (G:Gi)
def mvM (env:Env)(i:Nat):Mr Env D:=match env[i]? with |some (uN d)=>.ok d (env.set i uO)|_=>.no
def Y.ev:Y->Env->Mr Env D
 |.pu x,env=>stX G env x
 |.mv i,env=>mvM env i
 |.call f _ as,env=>(evG G env as).bind (callG f)
 |.bm o p as,env=>lentG G env p as (isK o.ty) λq gs e=>callG o.f (.l q::gs) e
 |.bin o y z,env=>(y.ev env).bind λd e=>(z.ev e).bind λd2 e2=>moTo (o.f d d2) e2
 |.sd p k v,env=>lentG G env p [.x k,.x v] (isK "dict") λq gs e=>callG setdF (.l q::gs) e
 |.not y,env=>(y.ev env).bind λd e=>moTo ((blD d).bind λb=>.ok (.bl (!b))) e
def asgTM (pn:Nat->Bool)(tg:Tg)(r:Mr Env D):Mr Env Fl:=r.bind λd e=>match tgD tg d with
 |some ds=>(match setG pn e tg.is ds with |some e'=>.ok .nx e' |none=>.no)
 |none=>.no
mutual
def S.run:(Nat->Bool)->S->Env->Mr Env Fl
 |pn,.asg i y,env=>asgM pn i (y.ev G env)
 |pn,.asgT tg x,env=>asgTM pn tg (stX G env x)
 |pn,.setF p n x,env=>setFM G n p x env
 |pn,.setI p k x,env=>setIM G p k x env
 |pn,.ex y,env=>dropM (y.ev G env)
 |pn,.ret y,env=>retM (y.ev G env)
 |pn,.retN,env=>.ok (.rt .non) env
 |pn,.if_ c a b,env=>ifM env ((c.ev G env).bind blD) (S.runs pn a env) (S.runs pn b env)
 |pn,.ifY c a b,env=>(c.ev G env).bind λd e=>ifM e (blD d) (S.runs pn a e) (S.runs pn b e)
 |pn,.ifL c a b,env=>ifM env ((c.ev G env).bind trD) (S.runs pn a env) (S.runs pn b env)
 |pn,.for_ ik src tg b,env=>forS pn ik tg (evG G env (src.map .x)) (λe=>S.runs pn b e)
 |pn,.pass,env=>.ok .nx env
 |pn,.cont,env=>.ok .ct env
 |pn,.never,env=>.no
 |pn,.try0 b a_,env=>seqM (noEx (S.runs pn b env)) λe=>S.runs pn a_ e
def S.runs:(Nat->Bool)->List S->Env->Mr Env Fl
 |pn,[],env=>.ok .nx env
 |pn,s::ss,env=>seqM (S.run pn s env) (λe=>S.runs pn ss e)
end
end
section
variable {K:mB}{E:XK}{F F0 H0 h H:Hp}{env:Env}{t:TE}{ws:Ws}{G:Gi}{i:Nat}{pn:Nat->Bool}{s1 s2:TS}
theorem ee_mv:EvE K (mVar i) E ws env (mvM env i):=by
 intro F0 H0 σ F h H Q hL ok fin;unfold mvM at fin;split at fin
 ·rename_i d hd
  obtain⟨o,k1,k2,e1,j,pp,g⟩:=Hold.atG hL (zbq_ hd);obtain⟨v,rfl,hv,od⟩:=zdb_ pp;unfold mVar;rw[e1];refine fin v F k1 k2 h H ?_ od j ok;have:=g (slotW K (ws i) uO) (uN v) F (λ_=>uO) k2 (Same.refl _) trivial (no_l _ λ_=>rfl)
  rw[zcl_,zcF_ e1]at this;exact this
 ·exact fin.elim
theorem ziT_ {m:Mo D}{e:Env}{σ:L2.St}{Q:VK}{hE:Hp}(hL:Hold (LofW K ws e) σ F hE)(ok:Okk F0 H0 F hE H)(fin:FinE K (moTo m e) E ws σ F0 H0 Q):After K m E F H (OwnK (owD K) H Q):=by
 cases m with
 |no=>exact fin
 |ex c=>exact λF' H' x=>Tell.up ok.1.2.2.1 (fin F' hE H' (hL.mono x.1) (ok.cold x))
 |ok d=>
  intro F' H' x v hn fresh dj s o;have o1:=ok.cold x;have dh:Dj hn hE:=zkk_ ok.2.2.1 fresh;refine fin v F' hn hE (un hn hE) H' (hL.mono x.1) o (z6_ dh) ⟨o1.1,λp=>?_,λp o e=>?_,λp z=>?_,λp xs z=>?_⟩
  ·unfold un
   cases z:hn p with
   |some w=>
    rcases dj p with y |y
    ·exact .inl y
    ·rw[y]at z;cases z
   |none=>exact o1.2.1 p
  ·unfold un at e
   cases z:hn p with
   |some w=>rw[z]at e;cases e;exact s _ _ z
   |none=>rw[z]at e;exact o1.2.2.1 _ _ e
  ·unfold un at z
   cases y:hn p with
   |some w=>exact ok.1.2.2.1.free (fresh p (by rw[y];exact sN _))
   |none=>rw[y]at z;exact ok.2.2.2.1 p z
  ·unfold un at z
   cases y:hn p with
   |some w=>rw[y]at z;cases z;exact OD.notup o p xs y
   |none=>rw[y]at z;exact ok.2.2.2.2 p xs z
theorem zg2_ {d:D}{v:V}{hr hE:Hp}(od:OD K d v F hr)(j:Jn hr hE h)(ok:Okk F0 H0 F h H):DR K d v (un F hr)/\Same F (un F hr)/\Okk F0 H0 (un F hr) hE H:=by
 obtain⟨a,b,c⟩:=ziz_ (ds:=[d]) (vs:=[v]) (by unfold ODs;exact⟨v,[],hr,λ_=>uO,rfl,no_r _ λ_=>rfl,od,zct_⟩) j ok
 obtain⟨v',e,r⟩:=DRs.one a;cases e;exact⟨r,b,c⟩
theorem zpC_ {o:Bo}{r:Mr Env D}{g:Env->Mr Env D}{t2:TE}(h1:EvE K t E ws env r)(h2:∀e,EvE K t2 E ws e (g e)):EvE K (tOp (o.r K) t t2) E ws env (r.bind λd e=>(g e).bind λd2 e2=>moTo (o.f d d2) e2):=by
 intro F0 H0 σ F h H Q hL ok fin;refine h1 F0 H0 σ F h H _ hL ok ?_;cases r with
 |no=>exact fin
 |ex c e=>exact fin
 |ok d e=>
  intro v F1 hr hE h' H1 av od j aw;obtain⟨dr,sF,ax⟩:=zg2_ od j aw;have fI:Jn (λ_=>uO) hE hE:=no_l _ λ_=>rfl
  have ob:=zfC_ ax fI;have ib:∀x:Hp,un (λ_=>uO) x=x:=λx=>rfl
  refine h2 e _ (less H1 hE) σ _ hE H1 _ (av.mono sF) ob ?_;dsimp only[Mr.bind]at fin;cases e2:g e with
  |no=>rw[e2]at fin;exact fin
  |ex c e'=>
   rw[e2]at fin;intro F2 h2 H2 bC bh;obtain⟨s,_,ok4⟩:=zax_ ax fI bh;rw[ib]at ok4;exact zbM_ ax fI (fin F2 h2 H2 bC ok4)
  |ok d2 e'=>
   rw[e2]at fin;intro v2 F2 fK fc aK H2 bC fF j2 bh;obtain⟨s,_,ok4⟩:=zax_ ax fI bh;rw[ib]at ok4;obtain⟨ke,sF2,ok5⟩:=zg2_ fF j2 ok4;exact zkv_ o d d2 v v2 _ H2 Q ok5.1.2.1 (dr.mono (s.trans sF2)) ke (ziT_ (bC.mono sF2) ok5 fin)
theorem zok_ {r:Mr Env D}(h1:EvE K t E ws env r):EvE K (mNotV t) E ws env (r.bind λd e=>moTo ((blD d).bind λb=>.ok (.bl (!b))) e):=by
 intro F0 H0 σ F h H Q hL ok fin;refine h1 F0 H0 σ F h H _ hL ok ?_;cases r with
 |no=>exact fin
 |ex c e=>exact fin
 |ok d e=>
  intro v F1 hr hE h' H1 av od j aw;obtain⟨dr,sF,ax⟩:=zg2_ od j aw;have k1:=ziT_ (m:=(blD d).bind λb=>.ok (.bl (!b))) (av.mono sF) ax fin
  have ha:=DR.un dr;unfold blD at k1;split at k1
  ·rename_i b e2;rw[e2]at ha;cases ha.bl;exact gotB k1 ax.1.2.1
  ·exact k1.elim
theorem Y.sound (g0:G.Ok K):∀(y:Y) (env:Env),EvE K (y.den K G E) E ws env (y.ev G env)
 |.pu x,env=>ee_x g0 x
 |.mv i,env=>ee_mv
 |.call f x as,env=>zmq_ (zc8_ g0 as env)
 |.bm o p as,env=>by
  cases as with
  |nil=>exact zpa_ g0 (bm_ok o) p
  |cons a as=>exact ee_bm g0 (bm_ok o) p (a::as)
 |.bin o y z,env=>zpC_ (Y.sound g0 y env) λe=>Y.sound g0 z e
 |.sd p k v,env=>zl6_ g0 p k v
 |.not y,env=>zok_ (Y.sound g0 y env)
theorem zmT_ {tg:Tg}{r:Mr Env D}(hp:∀i,pn i=uQ->ws i=uO)(he:EvE K t E ws env r):EvS K (tAsg t (tgT K tg)) E ws env (asgTM pn tg r):=by
 intro F0 H0 σ F h H N hL ok fin;refine he F0 H0 σ F h H _ hL ok ?_;cases r with
 |no=>exact fin
 |ex c e=>exact λF h H hL ok=>fin σ F h H hL ok
 |ok d e=>
  intro v F1 hr hE h1 H1 av od j aw;obtain⟨dr,sF,ax⟩:=zg2_ od j aw
  have fin:FinS K (match tgD tg d with
   |some ds=>(match setG pn e tg.is ds with |some e'=>.ok .nx e' |none=>.no)
   |none=>.no) E ws F0 H0 N:=fin
  cases e1:tgD tg d with
  |none=>rw[e1]at fin;exact fin.elim
  |some ds=>
   rw[e1]at fin;dsimp only at fin;cases e2:setG pn e tg.is ds with
   |none=>rw[e2]at fin;exact fin.elim
   |some e'=>
    rw[e2]at fin;exact tg_R tg ds v σ _ H1 _ ax.1.2.1 (zpJ_ e1 dr) λvs pl=>fin _ _ hE H1 (zcM_ hp e2 pl (av.mono sF)) ax
theorem zpd_ {r:Mr Env D}{g1 g2:Env->Mr Env Fl}(he:EvE K t E ws env r)(eE:∀e,EvS K s1 E ws e (g1 e))(aQ:∀e,EvS K s2 E ws e (g2 e)):EvS K (mIfS (mTest t) s1 s2) E ws env (r.bind λd e=>ifM e (blD d) (g1 e) (g2 e)):=by
 intro F0 H0 σ F h H N hL ok fin;refine he F0 H0 σ F h H _ hL ok ?_;cases r with
 |no=>exact fin
 |ex c e=>exact λF h H hL ok=>fin σ F h H hL ok
 |ok d e=>
  intro v F1 hr hE h1 H1 av od j aw;obtain⟨dr,sF,ax⟩:=zg2_ od j aw;have ha:=DR.un dr;have fin:FinS K (ifM e (blD d) (g1 e) (g2 e)) E ws F0 H0 N:=fin;unfold blD at fin;split at fin
  ·rename_i b e2
   rw[e2]at ha;cases ha.bl;refine⟨λz=>?_,λz=>?_⟩
   ·subst z;exact eE e F0 H0 σ _ hE H1 N (av.mono sF) ax fin
   ·subst z;exact aQ e F0 H0 σ _ hE H1 N (av.mono sF) ax fin
  ·exact fin.elim
theorem zlB_ {t:TS}{r:Mr Env Fl}(h:EvS K t E0 ws env r):EvS K t E ws env (noEx r):=by
 intro F0 H0 σ F h0 H N hL ok fin;refine h F0 H0 σ F h0 H N hL ok ?_;cases r with
 |no=>exact fin
 |ex c e=>exact fin.elim
 |ok a e=>cases a<;>exact fin
theorem map_x (as:List X):(as.map A.x).map A.t=as:=by
 rw[l8];exact(nG λa _=>rfl).trans (uD _)
mutual
theorem S.sound (g0:G.Ok K):∀(s:S) {pn:Nat->Bool}{ws:Ws}(hp:∀i,pn i=uQ->ws i=uO) {E:XK}(env:Env),EvS K (s.den K G E) E ws env (S.run G pn s env)
 |.asg i y,pn,ws,hp,E,env=>zpH_ hp (Y.sound g0 y env)
 |.asgT tg x,pn,ws,hp,E,env=>zmT_ hp (ee_x g0 x)
 |.setF p n x,pn,ws,hp,E,env=>zk0_ g0 n p x
 |.setI p k x,pn,ws,hp,E,env=>zna_ g0 p k x
 |.ex y,pn,ws,hp,E,env=>zkV_ (Y.sound g0 y env)
 |.ret y,pn,ws,hp,E,env=>zqJ_ (Y.sound g0 y env)
 |.retN,pn,ws,hp,E,env=>zkX_
 |.if_ c a b,pn,ws,hp,E,env=>es_if (zfw_ (X.sound g0 c E env)) (S.sounds g0 a hp env) (S.sounds g0 b hp env)
 |.ifL c a b,pn,ws,hp,E,env=>es_if (zqc_ (X.sound g0 c E env)) (S.sounds g0 a hp env) (S.sounds g0 b hp env)
 |.ifY c a b,pn,ws,hp,E,env=>zpd_ (Y.sound g0 c env) (λe=>S.sounds g0 a hp e) λe=>S.sounds g0 b hp e
 |.for_ ik src tg b,pn,ws,hp,E,env=>by
  have:=zc8_ (K:=K) (E:=E) (ws:=ws) g0 (src.map .x) env;rw[map_x]at this;exact zod_ hp this λe=>S.sounds g0 b hp e
 |.pass,pn,ws,hp,E,env=>zis_
 |.cont,pn,ws,hp,E,env=>znC_
 |.never,pn,ws,hp,E,env=>λF0 H0 σ F h H N hL ok fin=>fin.elim
 |.try0 b a_,pn,ws,hp,E,env=>by
  show EvS K (tSeq (S.dens K G E0 b) (S.dens K G E a_)) E ws env (seqM (noEx (S.runs G pn b env)) λe=>S.runs G pn a_ e)
  exact zl7_ (zlB_ (S.sounds g0 b hp env)) λe=>S.sounds g0 a_ hp e
theorem S.sounds (g0:G.Ok K):∀(ss:List S) {pn:Nat->Bool}{ws:Ws}(hp:∀i,pn i=uQ->ws i=uO) {E:XK}(env:Env),EvS K (S.dens K G E ss) E ws env (S.runs G pn ss env)
 |[],pn,ws,hp,E,env=>zis_
 |s::ss,pn,ws,hp,E,env=>zl7_ (S.sound g0 s hp env) λe=>S.sounds g0 ss hp e
end
end
def pins (ds:List D)(i:Nat):Bool:=match ds[i]? with |some d=>!d.cold |none=>uQ
def outs:List D->Env->List D
 |[],_=>[]
 |d::ds,o::env=>(if d.cold then d else match o with |some d'=>d' |none=>.gone)::outs ds env
 |d::ds,[]=>(if d.cold then d else .gone)::outs ds []
def fnOf (G:Gi)(n m:Nat)(body:List S):Fn:=λds=>if ds.length=n then(match S.runs G (pins ds) body (ds.map uN++lJ m uO)with
 |.ok (.rt d) env=>.ok d (outs ds env)
 |.ok .nx env=>.ok .non (outs ds env)
 |.ex c env=>.ex c (outs ds env)
 |_=>.no)else .no
section
variable {K:mB}{E:XK}{F F' h H:Hp}{env:Env}{ws:Ws}{G:Gi}{σ:L2.St}
theorem zbB_ {o:Option D}:LofW K ws (o::env)=slotW K (ws 0) o::LofW K (λi=>ws (i+1)) env:=by
 show List.mapIdx _ _=_
 rw[List.mapIdx_cons]
theorem zdj_:∀(m:Nat) {ws:Ws}{h:Hp},Hold (LofW K ws (lJ m uO)) (lJ m uO) F h
 |0,ws,h=>trivial
 |m+1,ws,h=>by
  rw[mJ,mJ,zbB_];exact⟨λ_=>uO,h,no_l _ λ_=>rfl,trivial,zdj_ m⟩
def wsOf (ds:List D)(vs:List V):Ws:=λi=>if pins ds i then vs[i]? else uO
theorem zeH_ (m:Nat):∀{ds:List D}{vs:List V}{h:Hp}{ws:Ws},(∀(i:Nat) u,ws i=uN u->vs[i]?=uN u)->ODs K ds vs F h->Hold (LofW K ws (ds.map uN++lJ m uO)) (vs.map uN++lJ m uO) F h
 |[],_,h,ws,hw,q=>by
  unfold ODs at q;rw[q.1];exact zdj_ m
 |d::ds,_,h,ws,hw,q=>by
  unfold ODs at q;obtain⟨v,vs,h1,h2,rfl,j,o,r⟩:=q;rw[lj,lj,mH,mH,zbB_];exact⟨h1,h2,j,zcm_ (λu z=>by have:=hw 0 u z;simpa using this) o,zeH_ m (λi u z=>by have:=hw (i+1) u z;simpa using this) r⟩
theorem zbb_:∀{ds:List D}{vs:List V}{env:Env}{σ:L2.St}{h h0:Hp}{ws:Ws},(∀(i:Nat) d,ds[i]?=uN d->d.cold=uQ->ws i=vs[i]?)->ODs K ds vs F h0->Same F F'->Hold (LofW K ws env) σ F' h->∃h3,Same h3 h/\ODs K (outs ds env) vs F' h3
 |[],_,env,σ,h,h0,ws,hw,q,s,hL=>by
  unfold ODs at q;rw[q.1];refine⟨λ_=>uO,(λp o z=>by cases z),?_⟩
  unfold outs ODs;exact⟨rfl,λ_=>rfl⟩
 |d::ds,_,[],σ,h,h0,ws,hw,q,s,hL=>by
  unfold ODs at q;obtain⟨v,vs,h1,h2,rfl,j,od,r⟩:=q;obtain⟨h3,s3,os⟩:=zbb_ (env:=[]) (σ:=σ) (h:=h) (ws:=λi=>ws (i+1)) (λi d' e c=>by have:=hw (i+1) d' (by simpa using e) c;simpa using this) r s hL
  refine⟨h3,s3,?_⟩;unfold outs ODs;refine⟨v,vs,λ_=>uO,h3,rfl,no_l _ λ_=>rfl,?_,os⟩
  by_cases hc:d.cold=uP
  ·rw[if_pos hc]
   have:=od.mono s;obtain⟨n,_⟩:=OD.cold hc this;have e:h1=λ_=>uO:=funext n
   rw[e]at this;exact this
  ·rw[if_neg hc];exact zaF_ λ_=>rfl
 |d::ds,_,o::env,[],h,h0,ws,hw,q,s,hL=>by rw[zbB_]at hL;exact hL.elim
 |d::ds,_,o::env,x::σ,h,h0,ws,hw,q,s,hL=>by
  unfold ODs at q;obtain⟨v,vs,h1,h2,rfl,j,od,r⟩:=q;rw[zbB_]at hL;obtain⟨k1,k2,jk,pp,hL⟩:=hL;obtain⟨h3,s3,os⟩:=zbb_ (ws:=λi=>ws (i+1)) (λi d' e c=>by have:=hw (i+1) d' (by simpa using e) c;simpa using this) r s hL
  have d1:∀{m:Hp},Same m k1->Dj m h3:=λ{m} sm p=>by
   rcases jk.dj p with z |z
   ·exact .inl (sm.free z)
   ·exact .inr (s3.free z)
  have key:∃c m,Same m k1/\(if d.cold then d else match o with |some d'=>d' |none=>.gone)=c/\OD K c v F' m:=by
   by_cases hc:d.cold=uP
   ·obtain⟨_,dr⟩:=OD.cold hc od
    refine⟨d,λ_=>uO,(λp o z=>by cases z),by rw[if_pos hc],?_⟩
    have:=od.mono s;obtain⟨n,_⟩:=OD.cold hc this;have e:h1=λ_=>uO:=funext n
    rw[e]at this;exact this
   ·have hf:d.cold=uQ:=by simpa using hc
    rw[if_neg hc];cases o with
    |none=>exact⟨.gone,λ_=>uO,(λp o z=>by cases z),rfl,zaF_ λ_=>rfl⟩
    |some d'=>
     obtain⟨v',e1,e2,o'⟩:=zdb_ pp;have:ws 0=uN v:=by have:=hw 0 d (by simp) hf;simpa using this
     have:=e2 v this;subst this;exact⟨d',k1,Same.refl _,rfl,o'⟩
  obtain⟨c,m,sm,ec,oc⟩:=key;refine⟨un m h3,λp o z=>?_,?_⟩
  ·unfold un at z
   cases y:m p with
   |some w=>rw[y]at z;cases z;exact jk.l _ _ (sm _ _ y)
   |none=>rw[y]at z;exact jk.r _ _ (s3 _ _ z)
  ·unfold outs;rw[ec]
   unfold ODs;exact⟨v,vs,m,h3,rfl,z6_ (d1 sm),oc,os⟩
theorem zkn_ (g0:G.Ok K){N:List Str}{n m:Nat}{body:List S}(hN:N.length=n+m):
  ∀vs H Q E,CtG K (fnOf G n m body) vs H Q E->S.dens K G E body {nx:=λ_ H'=>Q .non H',rt:=Q} (L2.start N vs) H:=by
 rintro vs H Q E ⟨F,h,ds,hs,dj,sh,os,fin⟩;have nt:=zeQ_ os;have ln:=ODs.len os;unfold fnOf at fin;split at fin
 rotate_left
 ·exact fin.elim
 rename_i hd
 have c6:L2.start N vs=vs.map uN++lJ m uO:=by unfold L2.start;rw[hN,<- ln,hd,Nat.add_sub_cancel_left]
 rw[c6];have hw:∀(i:Nat) u,wsOf ds vs i=uN u->vs[i]?=uN u:=λi u z=>by
  unfold wsOf at z;split at z
  ·exact z
  ·cases z
 have hp:∀i,pins ds i=uQ->wsOf ds vs i=uO:=λi z=>by unfold wsOf;rw[z];rfl
 have gw:∀(i:Nat) d,ds[i]?=uN d->d.cold=uQ->wsOf ds vs i=vs[i]?:=λi d e c=>by
  unfold wsOf pins;rw[e];simp[c]
 refine S.sounds g0 body hp _ F (less H h) _ F h H _ (zeH_ m hw os) (zbc_ hs dj sh nt) ?_;cases e:S.runs G (pins ds) body (ds.map uN++lJ m uO)with
 |no=>rw[e]at fin;exact fin
 |ex c env=>
  rw[e]at fin;intro σ F' h' H' hL ok;obtain⟨h3,s3,aL⟩:=zbb_ gw os ok.1.1 hL;exact fin F' h3 H' (zdw_ ok s3) aL
 |ok o env=>
  rw[e]at fin;cases o with
  |nx=>
   intro σ F' h' H' hL ok;obtain⟨h3,s3,aL⟩:=zbb_ gw os ok.1.1 hL;exact fin .non F' h3 H' (λ_=>uO) h3 (zdw_ ok s3) (no_l _ λ_=>rfl) (zcr_ λ_=>rfl) aL
  |rt d=>
   intro v σ F' hr h2 h' H' hL od j ok;obtain⟨h3,s3,aL⟩:=zbb_ gw os ok.1.1 hL;have dd:Dj hr h3:=λp=>by rcases j.dj p with z |z;exact .inl z;exact .inr (s3.free z)
   refine fin v F' (un hr h3) H' hr h3 (zdw_ ok λp o z=>?_) (z6_ dd) od aL
   unfold un at z;cases y:hr p with
   |some w=>rw[y]at z;cases z;exact j.l _ _ y
   |none=>rw[y]at z;exact j.r _ _ (s3 _ _ z)
  |ct=>exact fin.elim
  |bk=>exact fin.elim
end
noncomputable def noStar (e:lF):Bool:=e.ctorIdx != 22
def noSup:lF->Bool
 |.Call (.Name x _) [] [] _=>x != "super" |_=>uP
noncomputable def noIf (e:lF):Bool:=e.ctorIdx != 5
noncomputable def noSl (e:lF):Bool:=e.ctorIdx != 26
noncomputable def noSet (e:lF):Bool:=e.ctorIdx != 7
noncomputable def noCmp (e:lF):Bool:=e.ctorIdx<8 ||10<e.ctorIdx
noncomputable def noTup (e:lF):Bool:=e.ctorIdx != 25
section
variable {env:PySem.Env}{e o:lF}{es:List lF}{pos:Pos}{m:Str}
theorem zl_ (h:noStar e=uP):lW (e::es) env=(uQ,eval e env)::lW es env:=by
 cases e<;>first |rfl |cases h
theorem zaI_:∀{es:List lF},es.all noStar=uP->lW es env=es.map λe=>(uQ,eval e env)
 |[],_=>rfl
 |e::es,h=>by
  rw[mD,kJ]at h;rw[zl_ h.1,zaI_ h.2];rfl
theorem zad_ (h:es.all noStar=uP):((oz pos (lW es env)).any λx=>x.1)=uQ:=by
 rw[zaI_ h];unfold oz;simp
theorem zkl_ (h:es.all noStar=uP):((oz pos (lW es env)).all λx=>!x.1)=uP:=by
 rw[zaI_ h];unfold oz;simp
theorem zej_ (h:noSup o=uP):attributeBase o m env (eval o env)=eval o env:=by
 cases o with
 |Call f es ks q=>cases f with
  |Name id p=>cases es with
   |nil=>cases ks with
    |nil=>
     have h:(id != "super")=uP:=h;unfold attributeBase;dsimp only;rw[h];rfl
    |cons=>rfl
   |cons=>rfl
  |_=>rfl
 |_=>rfl
theorem zmS_ (h:es.all noStar=uP)(hl:es.length<29):methodCallForm (es.length+([]:List Keyword).length) (oz pos (lW es env)) (qO pos (pQ [] env))=uP:=by
 unfold methodCallForm;rw[zkl_ h];simp[pQ,qO];lia
theorem zkz_ (h:es.all noStar=uP)(hl:es.length<29):((((oz pos (lW es env)).all λx=>!x.fst) && (qO pos (pQ [] env)).all λx=>x.fst.isSome) && decide ((es.length+([]:List Keyword).length+if([]:List Keyword).isEmpty=uP then 0 else 1)<30))=uP:=zmS_ h hl
theorem zkd_ (h:noSl e=uP):PlainIx e:=λ_ _=>by
 cases e<;>first |rfl |cases h
theorem zaB_ {op:CmpOp}(h:noSet e=uP):behindInMarks op e=uQ:=by
 cases e<;>first |rfl |cases h
theorem zcJ_ (h:noSet e=uP)(x:aU):foldedSetIterable e env x=pure x:=by
 cases e<;>first |rfl |cases h
theorem zdB_ (h:noCmp e=uP)(t:Option lF)(n:Nat):swapsWith e t n env=pure uQ:=by
 cases e<;>first |rfl |cases h
theorem zhB_ {tg:lF}(h:noTup e=uP):swappedStores [tg] e env=pure uO:=by
 unfold swappedStores;cases e with
 |Tuple=>cases h
 |_=>cases tg<;>rfl
theorem zgw_ {o i:lF}{p:Pos}:swappedStores [.Subscript o i p] e env=pure uO:=by
 unfold swappedStores;rfl
noncomputable def plainT:lF->Bool
 |.UnaryOp .Not ..=>uQ |.BoolOp ..=>uQ |.IfExp ..=>uQ |.Compare ..=>uQ |_=>uP
theorem zdk_ (h:plainT e=uP)(whole:Sem aU):isTrue e env whole=(do let v <- whole;standAt e.pos;holding [v] (truthy v)):=by
 cases e with
 |UnaryOp op a p=>cases op<;>first |rfl |cases h
 |_=>first |rfl |cases h
end
structure Ck where
 N:List Str
 nm:List (Str×nU)
structure Ft where
 bs:List Str
 at_:List Str
 gc:List (Str×V)
structure Ft.Ok (T:Ft)(G:Gi)(K:lY)(mg:Str->Option aU):Prop where
 bs:∀x∈T.bs,mg x=uO
 cls:∀c∈G.cs,Cls K (gA K c)
 at_:∀c∈G.cs,∀a∈T.at_,NoAttr K (gA K c) a
 gc:∀q∈T.gc,Gc mg q.1 q.2
 kt:∀q∈G.kt,Gc mg q.1 (.ref (gA K q.1))
inductive Fc where
 |call (f:Fn) (x:Str)|mkd (f:Fn) (c:Str) (dv:List D)
def Fc.H (P:lQ)(w:l9)(K:lY)(mg:Str->Option aU)(base:Heap)(k:Nat):Fc->Prop
 |.call f x=>∃ps j,j<=k/\Gd P w K mg base CX0 j x ps (CtG K f)
 |.mkd f c dv=>∃ps j,j+1<=k/\GkD P w K mg base CX0 j c (gA K c) ps ((flats dv).getD []) (CtG K f)
mutual
def X.fcs:X->List Fc
 |.v _=>[]|.k _=>[]|.g _ _=>[]|.gt _ _=>[]
 |.bin _ a b=>a.fcs++b.fcs
 |.ch _ _ a b c=>a.fcs++(b.fcs++c.fcs)
 |.and a b=>a.fcs++b.fcs
 |.or a b=>a.fcs++b.fcs
 |.not a=>a.fcs
 |.neg a=>a.fcs
 |.ifx c a b=>c.fcs++(a.fcs++b.fcs)
 |.sl a lo hi=>a.fcs++(X.fcsO lo++X.fcsO hi)
 |.tup as=>X.fcss as
 |.lst as=>X.fcss as
 |.fld a _=>a.fcs
 |.call f x as=>.call f x::X.fcss as
 |.bf _ as=>X.fcss as
 |.sm _ a as=>a.fcs++X.fcss as
 |.comp _ _ _ src _ c e=>X.fcss src++(X.fcsO c++e.fcs)
 |.lr a b=>a.fcs++b.fcs
 |.isa a _=>a.fcs
 |.srt _ _ _ e=>e.fcs
 |.mkd f c as dv=>.mkd f c dv::X.fcss as
 |.ds1 a0 b0=>a0.fcs++b0.fcs
 |.ds2 a0 b0 c0 d0=>a0.fcs++(b0.fcs++(c0.fcs++d0.fcs))
 |.dct0=>[]
 |.ch3 _ _ _ a b c d=>(a.fcs++b.fcs)++(c.fcs++d.fcs)
def X.fcss:List X->List Fc
 |[]=>[]
 |a::as=>a.fcs++X.fcss as
def X.fcsO:Option X->List Fc
 |none=>[]
 |some a=>a.fcs
end
noncomputable def visB:Option nU->Bool
 |some .local=>uP |some .cell=>uP |some .free=>uP |_=>uQ
noncomputable def locB:Option nU->Bool
 |some .local=>uP |some .cell=>uP |_=>uQ
def nmOk (x:Str):Bool:=!(x=="__debug__") && !(x=="__classdict__")
def glB (c:Ck)(x:Str):Bool:=c.nm.lookup x==uN .globalImplicit && !(x=="__debug__")
def constB (d:D):Const->Bool
 |.int i=>(match d with |.int j=>i == j |_=>uQ)
 |.bool b=>(match d with |.bl c=>b == c |_=>uQ)
 |.none=>(match d with |.non=>uP |_=>uQ)
 |.str x=>(match d with |.str l=>x.cps.toList == l |_=>uQ)
 |_=>uQ
noncomputable def Bo.op:Bo->Option Operator
 |.add=>uN .Add |.sub=>uN .Sub |.mul=>uN .Mult |.mod=>uN .Mod |.div=>uN .FloorDiv |.pow=>uN .Pow |_=>uO
noncomputable def Bo.cmp:Bo->Option CmpOp
 |.lt=>uN .Lt |.le=>uN .LtE |.gt=>uN .Gt |.ge=>uN .GtE |.eq=>uN .Eq |.ne=>uN .NotEq |.is=>uN .Is |.isn=>uN .IsNot |.inn=>uN .In |.nin=>uN .NotIn |.ned=>uN .NotEq |_=>uO
noncomputable def Bo.isIx:Bo->Bool
 |.ix=>uP |_=>uQ
noncomputable def Bf.nm:Bf->Str
 |.len => "len" |.list => "list" |.min => "min" |.str => "str" |.all => "all" |.sorted => "sorted"
noncomputable def Sm.nm:Sm->Str
 |.join => "join" |.index => "index" |.zfill => "zfill"
noncomputable def tyNm:String->Option Str
 |"int" => uN "int" |"bool" => uN "bool" |"str" => uN "str" |"list" => uN "list" |"tuple" => uN "tuple" |"dict" => uN "dict" |_=>uO
def relab (nm names:List (Str×nU)):List (Str×nU):=names.map λ(n,k)=>if k == .free && nm.lookup n == uN .cell then(n,.cell)else(n,k)
def tgB (c:Ck)(i:Nat):lF->Bool
 |.Name x _=>c.N[i]? == uN x && locB (c.nm.lookup x)
 |_=>uQ
def tgsB (c:Ck):List Nat->List lF->Bool
 |[],[]=>uP
 |i::is,e::es=>tgB c i e && tgsB c is es
 |_,_=>uQ
def tgOk (c:Ck)(g:Tg)(e:lF):Bool:=match g.tup,e with
 |true,.Tuple es _ _=>tgsB c g.is es
 |false,e=>g.is.length == 1 && tgB c (g.is.headD 0) e
 |_,_=>uQ
def locals? (c:Ck)(g:Tg):Bool:=g.is.all λi=>match c.N[i]? with |some x=>c.nm.lookup x == uN .local |none=>uQ
def scB (c:Ck)(sc:Scope)(lv:List Str)(fr:List (Str×Nat)):Bool:=
 sc.names.all (λy=>y.2 != .cell && (y.2 != .free ||c.nm.lookup y.1 == uN .cell ||c.nm.lookup y.1 == uN .free) && (y.2 != .local ||sc.names.lookup y.1 == uN .local)) && sc.kind == .function &&
 fr.all (λq=>c.N[q.2]? == uN q.1 && sc.names.contains (q.1,NameKind.free) && (c.nm.lookup q.1 == uN .cell ||c.nm.lookup q.1 == uN .free) && ((relab c.nm sc.names).lookup q.1 == uN .cell ||(relab c.nm sc.names).lookup q.1 == uN .free)) && decide (cN lv fr).Nodup
def kN:lF->(Str->Bool)->Bool
 |.Name x _,k=>k x |_,_=>uQ
def kC:lF->(lF->List lF->Pos->Bool)->Bool
 |.Call f es [] q,k=>k f es q |_,_=>uQ
noncomputable def kA:lF->(lF->Str->Pos->Bool)->Bool
 |.Attribute o m p,k=>k o m p |_,_=>uQ
def kB:lF->(lF->Operator->lF->Bool)->Bool
 |.BinOp l o r _,k=>k l o r |_,_=>uQ
def kM:lF->(lF->List CmpOp->List lF->Bool)->Bool
 |.Compare l o r _,k=>k l o r |_,_=>uQ
def kS:lF->(lF->lF->Bool)->Bool
 |.Subscript l r _,k=>k l r |_,_=>uQ
def kL:lF->(Option lF->Option lF->Option lF->Bool)->Bool
 |.Slice a b c _,k=>k a b c |_,_=>uQ
def kU:lF->(UnaryOp->lF->Bool)->Bool
 |.UnaryOp o x _,k=>k o x |_,_=>uQ
def kI:lF->(lF->lF->lF->Bool)->Bool
 |.IfExp t x y _,k=>k t x y |_,_=>uQ
noncomputable def kT:lF->(List lF->Bool)->Bool
 |.Tuple es _ _,k=>k es |_,_=>uQ
noncomputable def kW:lF->(List lF->Bool)->Bool
 |.List es _,k=>k es |_,_=>uQ
def kK:lF->(Const->Bool)->Bool
 |.Constant c _ _,k=>k c |_,_=>uQ
def kG:lF->(lF->List Comprehension->Scope->Bool)->Bool
 |.ListComp x g s _,k=>k x g s |_,_=>uQ
noncomputable def kDi:lF->Bool
 |.Dict [] [] _=>uP |_=>uQ
noncomputable def kDd:lF->(List (Option lF)->List lF->Bool)->Bool
 |.Dict a b _,k=>k a b |_,_=>uQ
noncomputable def kco:List (Option lF)->(lF->List (Option lF)->Bool)->Bool
 |some a::l,k=>k a l |_,_=>uQ
def kO (o:BoolOp):lF->(lF->lF->Bool->Bool)->Bool
 |.BoolOp o' (x::y::l) p,k=>o' == o && k x (bif l.isEmpty then y else .BoolOp o (y::l) p) l.isEmpty |_,_=>uQ
noncomputable def kc:List lF->(lF->List lF->Bool)->Bool
 |a::l,k=>k a l |[],_=>uQ
section
variable {e:lF}{C:lF->Prop}
theorem kN_ {k}(h:kN e k=uP)(H:∀x p,k x=uP->C (.Name x p)):C e:=by cases e<;>first |exact H _ _ h |cases h
theorem kC_ {k}(h:kC e k=uP)(H:∀f es q,k f es q=uP->C (.Call f es [] q)):C e:=by
 cases e with
 |Call f es ks q=>cases ks with |nil=>exact H _ _ _ h |cons=>cases h
 |_=>cases h
theorem kA_ {k}(h:kA e k=uP)(H:∀o m p,k o m p=uP->C (.Attribute o m p)):C e:=by cases e<;>first |exact H _ _ _ h |cases h
theorem kB_ {k}(h:kB e k=uP)(H:∀l o r p,k l o r=uP->C (.BinOp l o r p)):C e:=by cases e<;>first |exact H _ _ _ _ h |cases h
theorem kM_ {k}(h:kM e k=uP)(H:∀l o r p,k l o r=uP->C (.Compare l o r p)):C e:=by cases e<;>first |exact H _ _ _ _ h |cases h
theorem kS_ {k}(h:kS e k=uP)(H:∀l r p,k l r=uP->C (.Subscript l r p)):C e:=by cases e<;>first |exact H _ _ _ h |cases h
theorem kL_ {k}(h:kL e k=uP)(H:∀a b c p,k a b c=uP->C (.Slice a b c p)):C e:=by cases e<;>first |exact H _ _ _ _ h |cases h
theorem kU_ {k}(h:kU e k=uP)(H:∀o x p,k o x=uP->C (.UnaryOp o x p)):C e:=by cases e<;>first |exact H _ _ _ h |cases h
theorem kI_ {k}(h:kI e k=uP)(H:∀t x y p,k t x y=uP->C (.IfExp t x y p)):C e:=by cases e<;>first |exact H _ _ _ _ h |cases h
theorem kT_ {k}(h:kT e k=uP)(H:∀es n p,k es=uP->C (.Tuple es n p)):C e:=by cases e<;>first |exact H _ _ _ h |cases h
theorem kW_ {k}(h:kW e k=uP)(H:∀es p,k es=uP->C (.List es p)):C e:=by cases e<;>first |exact H _ _ h |cases h
theorem kK_ {k}(h:kK e k=uP)(H:∀c n p,k c=uP->C (.Constant c n p)):C e:=by cases e<;>first |exact H _ _ _ h |cases h
theorem kG_ {k}(h:kG e k=uP)(H:∀x g s p,k x g s=uP->C (.ListComp x g s p)):C e:=by cases e<;>first |exact H _ _ _ _ h |cases h
theorem kDi_ (h:kDi e=uP)(H:∀p,C (.Dict [] [] p)):C e:=by
 unfold kDi at h;split at h
 ·exact H _
 ·cases h
theorem kDd_ {k}(h:kDd e k=uP)(H:∀a b p,k a b=uP->C (.Dict a b p)):C e:=by cases e<;>first |exact H _ _ _ h |cases h
theorem kco_ {l:List (Option lF)}{C:List (Option lF)->Prop}{k}(h:kco l k=uP)(H:∀a t,k a t=uP->C (uN a::t)):C l:=by
 cases l with
 |nil=>cases h
 |cons a t=>cases a with |none=>cases h |some a=>exact H a t h
theorem kc_ {l:List lF}{C:List lF->Prop}{k}(h:kc l k=uP)(H:∀a t,k a t=uP->C (a::t)):C l:=by cases l with |nil=>cases h |cons a t=>exact H a t h
theorem kO_ {o:BoolOp}{k}(h:kO o e k=uP)(H:∀x y l p,k x (bif l.isEmpty then y else .BoolOp o (y::l) p) l.isEmpty=uP->C (.BoolOp o (x::y::l) p)):C e:=by
 cases e with
 |BoolOp o' es p=>
  cases es with
  |nil=>cases h
  |cons x es=>cases es with
   |nil=>cases h
   |cons y l=>have h:=l4.mp h;cases eq_of_beq h.1;exact H x y l p h.2
 |_=>cases h
end
noncomputable def Ik.isAny:Ik->Bool
 |.any=>uP |_=>uQ
noncomputable def Ik.nm:Ik->Str
 |.en => "enumerate" |.zip => "zip" |_ => "range"
noncomputable def Ik.ar:Ik->Nat
 |.r2=>2 |.zip=>2 |_=>1
noncomputable def Ik.tp:Ik->Bool
 |.en=>uP |.zip=>uP |_=>uQ
section
variable (T:Ft)(G:Gi)
def srcB (c:Ck)(ik:Ik)(tg:Tg)(it:lF)(k1:Bool)(ks:List lF->Bool):Bool:=bif ik.isAny then k1 else
 kC it λf es _=>kN f λy=>y == ik.nm && es.length == ik.ar && glB c y && T.bs.contains y && (tg.tup || !ik.tp) && ks es
mutual
def chkE:Ck->X->lF->Bool
 |c,.v i,e=>kN e λx=>c.N[i]? == uN x && visB (c.nm.lookup x) && nmOk x
 |c,.k d,e=>kK e (constB d)
 |c,.g x d,e=>kN e λy=>x == y && glB c x && (d.flat?).any λv=>T.gc.contains (x,v)
 |c,.gt x ls,e=>kN e λy=>x == y && glB c x && G.kt.any (λq=>q.1 == x)
 | c,.bin o a b,e=>kB e (λl op r=>o.op == uN op && chkE c a l && chkE c b r)||
   (kM e (λl os rs=>kc rs λr t=>os.map uN == [o.cmp] && t.isEmpty && noSet r && chkE c a l && chkE c b r)||
   kS e (λl r=>o.isIx && noSl r && chkE c a l && chkE c b r))
 |c,.ch o o' a b d,e=>kM e λl os rs=>kc rs λr t=>kc t λr' t'=>os.map uN == [o.cmp,o'.cmp] && t'.isEmpty && noSet r' && chkE c a l && chkE c b r && chkE c d r'
 |c,.and a b,e=>kO .And e λx y l=>noIf x && (!l ||noIf y) && chkE c a x && chkE c b y
 |c,.or a b,e=>kO .Or e λx y l=>noIf x && (!l ||noIf y) && chkE c a x && chkE c b y
 |c,.not a,e=>kU e λo x=>o == .Not && noIf x && chkE c a x
 |c,.neg a,e=>kU e λo x=>o == .USub && chkE c a x
 |c,.ifx d a b,e=>kI e λt x y=>noIf t && chkE c d t && chkE c a x && chkE c b y
 |c,.sl a lo hi,e=>kS e λl r=>kL r λl1 l2 l3=>l3.isNone && chkE c a l && chkO c lo l1 && chkO c hi l2
 |c,.tup as,e=>kT e (chkEs c as)
 |c,.lst as,e=>kW e (chkEs c as)
 |c,.fld a f,e=>kA e λo f' _=>f == f' && T.at_.contains f && noSup o && chkE c a o
 |c,.call f x as,e=>kC e λy es _=>kN y λy=>x == y && glB c x && chkEs c as es
 |c,.bf o as,e=>kC e λy es _=>kN y λy=>y == o.nm && glB c y && T.bs.contains y && !as.isEmpty && chkEs c as es
 |c,.sm o a as,e=>kC e λr es q=>kA r λr m p=>m == o.nm && noSup r && p.endLine == q.line && decide (es.length<29) && !as.isEmpty && chkE c a r && chkEs c as es
 | c,.comp lv fr ik src tg d x,e=>kG e λelt gs sc=>gs.length == 1 && gs.all λq=>q.is_async == 0 && scB c sc lv fr && tgOk ⟨cN lv fr,relab c.nm sc.names⟩ tg q.target && locals? ⟨cN lv fr,relab c.nm sc.names⟩ tg && noSet q.iter &&
   srcB T c ik tg q.iter (chk1 c src q.iter) (λes=>chkEs c src es) && chkIf ⟨cN lv fr,relab c.nm sc.names⟩ d q.ifs && chkE ⟨cN lv fr,relab c.nm sc.names⟩ x elt
 |c,.lr a b,e=>kC e λy es _=>kN y λy=>kc es λr t=>kC r λz xs _=>kN z λz=>kc xs λx t1=>kc t1 λw t2=>y=="list" && z=="range" && t.isEmpty && t2.isEmpty && glB c y && glB c z && T.bs.contains y && T.bs.contains z && noStar x && noStar w && chkE c a x && chkE c b w
 |c,.isa a n,e=>kC e λy es _=>kN y λy=>kc es λx t=>kc t λz t2=>kN z λz=>y=="isinstance" && t2.isEmpty && glB c y && T.bs.contains y && noStar x && tyNm n==uN z && glB c z && T.bs.contains z && chkE c a x
 |_,.srt _ _ _ _,_=>uQ
 |c,.mkd f k as _,e=>kC e λy es _=>kN y λy=>k == y && glB c y && !es.isEmpty && chkEs c as es
 |c,.ds1 a b,e=>kDd e λks vs=>kco ks λk kt=>kc vs λv vt=>kt.isEmpty && vt.isEmpty && chkE c a k && chkE c b v
 |c,.ds2 a b d f,e=>kDd e λks vs=>kco ks λk kt=>kco kt λl lt=>kc vs λv vt=>kc vt λw wt=>lt.isEmpty && wt.isEmpty && chkE c a k && chkE c b v && chkE c d l && chkE c f w
 |_,.dct0,e=>kDi e
 |c,.ch3 o o' aJ a b d f,e=>kM e λl os rs=>kc rs λr t=>kc t λr' t'=>kc t' λbg iq=>os.map uN == [o.cmp,o'.cmp,aJ.cmp] && iq.isEmpty && noSet bg && chkE c a l && chkE c b r && chkE c d r' && chkE c f bg
def chk1:Ck->List X->lF->Bool
 |_,[],_=>uQ
 |c,a::as,e=>as.isEmpty && chkE c a e
def chkEs:Ck->List X->List lF->Bool
 |_,[],es=>es.isEmpty
 |c,a::as,es=>kc es λe es=>noStar e && chkE c a e && chkEs c as es
def chkO:Ck->Option X->Option lF->Bool
 |_,uO,e=>e.isNone
 |c,uN a,e=>e.any (chkE c a)
def chkIf:Ck->Option X->List lF->Bool
 |_,uO,es=>es.isEmpty
 |c,uN a,es=>kc es λe t=>t.isEmpty && noIf e && chkE c a e
end
end
theorem zhv_ {X:Cx}{E:XK}:Passes CX0 X E:=λ_ _ _ _ _ _ _ h=>h.elim
structure Cg (Z:Cx)(c:Ck)(k:Nat)(E:XK):Prop where
 N:Z.N=c.N
 nm:Z.env.scope.names=c.nm
 kind:Z.env.scope.kind=.function
 calm:Z.calm=uP
 room:Room k Z.A
 pass:Passes CX0 Z E
 cells:∀x,(c.nm.lookup x=uN .cell\/c.nm.lookup x=uN .free)->∃a,Z.env.cells.lookup x=uN a
section
variable {Z:Cx}{c:Ck}{k:Nat}{E:XK}{x m:Str}{e o:lF}{es:List lF}{t:TE}{ta:TA}{p pos apos:Pos}
theorem Cg.units (g:Cg Z c k E):Z.A.units+60<cLine:=by have:=g.room.un;lia
theorem zp6_ (g:Cg Z c k E)(h:visB (c.nm.lookup x)=uP):Vis Z.env.scope x:=by
 unfold Vis;rw[g.nm]
 revert h;cases c.nm.lookup x with
 |none=>intro h;cases h
 |some k=>cases k<;>intro h<;>first |exact .inl rfl |exact .inr (.inl rfl)|exact .inr (.inr rfl)|cases h
theorem znh_ (g:Cg Z c k E)(h:locB (c.nm.lookup x)=uP):L2.Loc Z.env.scope x:=by
 unfold L2.Loc;rw[g.nm]
 revert h;cases c.nm.lookup x with
 |none=>intro h;cases h
 |some k=>cases k<;>intro h<;>first |exact .inl rfl |exact .inr rfl |cases h
theorem zfr_ (g:Cg Z c k E)(h:glB c x=uP):Gl Z x/\(x==("__debug__":Str))=uQ:=by
 unfold glB at h;rw[kJ]at h;refine⟨?_,by simpa using h.2⟩
 unfold Gl pN;rw[g.nm];exact eq_of_beq h.1
structure Rd (Z:Cx)(e:lF)(t:TE):Prop where
 pe:PE Z e t
 pt:noIf e=uP->PT Z e (mTest t)
 pw:∀op vs p,e=.BoolOp op vs p->PW Z e (mTest t)
theorem zh_ (h:PE Z e t)(hp:plainT e=uP):Rd Z e t:=⟨h,λ_=>zl0_ h (zdk_ hp),λop vs p z=>by rw[z]at hp;cases hp⟩
theorem rd_if (h:PE Z e t)(hp:noIf e=uQ):Rd Z e t:=⟨h,(λz=>by rw[hp]at z;cases z),(λop vs p z=>by rw[z]at hp;cases hp)⟩
theorem zni_ {a b:lF}{t1 t2:TE}{op:CmpOp}{r:R2}(ho:OpR Z (lP op) r)(ha:Rd Z a t1)(hb:Rd Z b t2)(hs:noSet b=uP):Rd Z (.Compare a [op] [b] pos) (tOp r t1 t2):=
 ⟨zmI_ ho ha.pe hb.pe (zaB_ hs),λ_=>zl9_ ho ha.pe hb.pe (zaB_ hs),λ_ _ _ z=>by cases z⟩
theorem zjk_ {a b d:lF}{t1 t2 t3:TE}{op aG:CmpOp}{r r':R2}(ho:OpR Z (lP op) r)(aI:OpR Z (lP aG) r')(ha:Rd Z a t1)(hb:Rd Z b t2)(hd:Rd Z d t3)(hs:noSet d=uP):Rd Z (.Compare a [op,aG] [b,d] pos) (mChain r r' t1 t2 t3):=
 ⟨zhs_ ho aI ha.pe hb.pe hd.pe (zaB_ hs),λ_=>zhL_ ho aI ha.pe hb.pe hd.pe (zaB_ hs),λ_ _ _ z=>by cases z⟩
theorem zgY_ (t1 t2:TE):mTest (mAndV t1 t2)=mAnd (mTest t1) (mTest t2):=by
 funext σ H Q;exact congrArg (t1 σ H) (funext λx=>funext λH1=>by cases x<;>rfl)
theorem ziN_ (t1 t2:TE):mTest (mOrV t1 t2)=mOr (mTest t1) (mTest t2):=by
 funext σ H Q;exact congrArg (t1 σ H) (funext λx=>funext λH1=>by cases x<;>rfl)
theorem zkL_ (t1:TE):mTest (mNotV t1)=tNot (mTest t1):=by
 funext σ H Q;exact congrArg (t1 σ H) (funext λx=>funext λH1=>by cases x<;>rfl)
theorem zet_ {op:BoolOp}{vs:List lF}(h:PE Z (.BoolOp op vs pos) t)(h2:PW Z (.BoolOp op vs pos) (mTest t)):Rd Z (.BoolOp op vs pos) t:=⟨h,λ_=>h2.pt,λ_ _ _ _=>h2⟩
theorem zlF_ {a b:lF}{t1 t2:TE}(ha:Rd Z a t1)(hb:Rd Z b t2)(na:noIf a=uP)(nb:noIf b=uP):Rd Z (.BoolOp .And [a,b] pos) (mAndV t1 t2):=
 zet_ (ziY_ ha.pe (zle_ hb.pe)) (by rw[zgY_];exact ziC_ (ha.pt na) (zk9_ (hb.pt nb)))
theorem zqz_ {a b d:lF}{r:List lF}{t1 t2:TE}(ha:Rd Z a t1)(hb:Rd Z (.BoolOp .And (b::d::r) pos) t2)(na:noIf a=uP):Rd Z (.BoolOp .And (a::b::d::r) pos) (mAndV t1 t2):=
 zet_ (ziY_ ha.pe hb.pe) (by rw[zgY_];exact ziC_ (ha.pt na) (hb.pw _ _ _ rfl))
theorem zqo_ {a b:lF}{t1 t2:TE}(ha:Rd Z a t1)(hb:Rd Z b t2)(na:noIf a=uP)(nb:noIf b=uP):Rd Z (.BoolOp .Or [a,b] pos) (mOrV t1 t2):=
 zet_ (znH_ ha.pe (zle_ hb.pe)) (by rw[ziN_];exact zlL_ (ha.pt na) (zp9_ (hb.pt nb)))
theorem rd_or {a b d:lF}{r:List lF}{t1 t2:TE}(ha:Rd Z a t1)(hb:Rd Z (.BoolOp .Or (b::d::r) pos) t2)(na:noIf a=uP):Rd Z (.BoolOp .Or (a::b::d::r) pos) (mOrV t1 t2):=
 zet_ (znH_ ha.pe hb.pe) (by rw[ziN_];exact zlL_ (ha.pt na) (hb.pw _ _ _ rfl))
theorem zmV_ {a:lF}{t1:TE}(ha:Rd Z a t1)(na:noIf a=uP):Rd Z (.UnaryOp .Not a pos) (mNotV t1):=
 ⟨zl4_ ha.pe,λ_=>by rw[zkL_];exact zop_ (ha.pt na),λ_ _ _ z=>by cases z⟩
theorem bo_op {b:Bo}{op:Operator}(h:b.op=uN op):OpR Z (m8 op) (b.r Z.K):=by
 cases b<;>cases h
 ·exact znj_
 ·exact zmO_
 ·exact zmG_
 ·exact znF_
 ·exact zld_
 ·exact zmW_
theorem zdQ_ (hu:Z.A.units+60<cLine){b:Bo}{op:CmpOp}(h:b.cmp=uN op):OpR Z (lP op) (b.r Z.K):=by
 cases b<;>cases h
 ·exact zp0_
 ·exact zoS_
 ·exact zn3_
 ·exact zqv_
 ·exact zqP_ hu
 ·exact zpG_ hu
 ·exact znY_
 ·exact zh7_
 ·exact zpN_ hu
 ·exact zhZ_ hu
 ·exact zmU_ hu
theorem zjZ_ {d:D}{kc:Const}{j:Nat}(h:constB d kc=uP):PE Z (.Constant kc j pos) (tC (d.flat?.getD .non)):=by
 cases kc with
 |int i=>cases d<;>first |(cases eq_of_beq h;exact zn7_)|cases h
 |bool b=>cases d<;>first |(cases eq_of_beq h;exact pe_bl)|cases h
 |none=>cases d<;>first |exact zqg_ |cases h
 |str z=>cases d<;>first |(have h:=eq_of_beq h;subst h;exact zp5_ (by cases z;rfl))|cases h
 |_=>cases h
theorem zkN_ {sp:Sp}{ps:List Str}{j:Nat}(F:Gd Z.prog Z.w Z.K Z.mg Z.base CX0 j x ps sp)(hr:Room j Z.A)(hx:Passes CX0 Z E)(ha:PA Z es ta)(hs:es.all noStar=uP)(hg:Gl Z x)(hd:(x==("__debug__":Str))=uQ)(h0:es=[]->ta=tNil):
  PE Z (.Call (.Name x p) es [] pos) (tCall sp [] E ta):=by
 cases es with
 |nil=>
  rw[h0 rfl];obtain⟨f,fd,F,hm,hk,hb⟩:=F;exact zku_ F hr hg hm hk hb .nil hx hd
 |cons e es=>
  rw[mD,kJ]at hs;obtain⟨f,fd,F,hm,hk,hb⟩:=F;exact znf_ F hr hg hm hk hb .nil hx ha hd (zl_ hs.1) (zad_ hs.2)
theorem bf_pe (g:Cg Z c k E){b:Bf}(hm:Z.mg b.nm=uO)(ha:PA Z es ta)(hs:es.all noStar=uP)(h0:es≠[])(hg:glB c b.nm=uP):PE Z (.Call (.Name b.nm p) es [] pos) (tCB (b.r Z.K) ta):=by
 obtain⟨g1,g2⟩:=zfr_ g hg;cases es with
 |nil=>exact absurd rfl h0
 |cons e es=>
  rw[mD,kJ]at hs;have s1:=zl_ (env:=Z.env) (es:=es) hs.1;have s2:=zad_ (env:=Z.env) (pos:=pos) hs.2;cases b with
  |len=>exact zml_ zhG_ hm ha g1 rfl (by decide) g2 s1 s2
  |list=>exact znQ_ "list" (zgl_ g.calm) hm ha g1 rfl (by decide) g2 s1 s2
  |min=>exact zml_ (zh4_ g.calm) hm ha g1 rfl (by decide) g2 s1 s2
  |str=>exact znQ_ "str" zhA_ hm ha g1 rfl (by decide) g2 s1 s2
  |all=>exact zml_ (zhE_ g.calm) hm ha g1 rfl (by decide) g2 s1 s2
  |sorted=>exact zml_ (zf7_ g.calm) hm ha g1 rfl (by decide) g2 s1 s2
theorem sm_pe {b:Sm}(ho:PE Z o t)(ha:PA Z es ta)(hs:es.all noStar=uP)(hb:noSup o=uP)(hl:(apos.endLine==pos.line)=uP)(hn:es.length<29)(h0:es≠[]):PE Z (.Call (.Attribute o b.nm apos) es [] pos) (tBM Z.K "str" (b.r Z.K) t ta):=by
 cases es with
 |nil=>exact absurd rfl h0
 |cons e es=>
  have f:=zkz_ (env:=Z.env) (pos:=pos) hs hn;rw[mD,kJ]at hs;have s1:=zl_ (env:=Z.env) (es:=es) hs.1;have s2:=zad_ (env:=Z.env) (pos:=pos) hs.2;have b0:=λn=>zej_ (env:=Z.env) (m:=n) hb
  cases b with
  |join=>exact zqm_ zfd_ zeR_ zmP_ ho ha (b0 _) f hl s1 s2
  |index=>exact zqm_ zdW_ zdz_ zjw_ ho ha (b0 _) f hl s1 s2
  |zfill=>exact zqm_ zdy_ zdR_ zkg_ ho ha (b0 _) f hl s1 s2
variable {T:Ft}{G:Gi}
theorem zaX_ {cells:List (Str×k9)}:∀(names:List (Str×nU)) (acc:List (Str×k9)),(∀y∈names,y.2=.free->∃a,cells.lookup y.1=uN a)->∃cl,closeL cells names acc=uN cl
 |[],acc,_=>⟨acc,rfl⟩
 |(n,k)::r,acc,h=>by
  unfold closeL;split
  ·rename_i hk
   obtain⟨a,ha⟩:=h (n,k) (lO ..) (eq_of_beq hk);rw[show cells.lookup n=uN a from ha]
   exact zaX_ r _ λy hy=>h y (lL _ hy)
  ·exact zaX_ r _ λy hy=>h y (lL _ hy)
theorem zdM_ (g:Cg Z c k E){sc:Scope}:(relabel sc Z.env).names=relab c.nm sc.names:=by
 unfold relabel relab pN;rw[g.kind,g.nm];simp
theorem zg6_ (g:Cg Z c k E){sc:Scope}{lv:List Str}{fr:List (Str×Nat)}(h:scB c sc lv fr=uP):
  (cN lv fr).Nodup/\∃cl,CScope Z sc cl lv fr/\∀C fp s2 H2,Cg (cxComp Z sc cl C (cN lv fr) fp s2 H2) ⟨cN lv fr,relab c.nm sc.names⟩ k E0:=by
 unfold scB at h;rw[kJ,kJ,kJ]at h;obtain⟨⟨⟨h1,h2⟩,h3⟩,h4⟩:=h;have h1:=mC.mp h1;have h3:=mC.mp h3;have h2:sc.kind=.function:=eq_of_beq h2;have hc:∀y∈sc.names,y.2≠.cell:=λy hy=>by have:=h1 y hy;simp at this;exact this.1.1
 have hf:∀y∈sc.names,y.2=.free->c.nm.lookup y.1=uN .cell\/c.nm.lookup y.1=uN .free:=λy hy z=>by
  have:=h1 y hy;simp[z]at this;exact this
 obtain⟨cl,aS⟩:=zaX_ (cells:=Z.env.cells) sc.names [] λy hy z=>g.cells _ (hf y hy z)
 refine⟨of_decide_eq_true h4,cl,⟨aS,hc,h2,λz hz e=>?_,λq hq=>?_⟩,λC fp s2 H2=>⟨rfl,zdM_ g,h2,g.calm,g.room,zhv_,λx hx=>?_⟩⟩
 ·have:=h1 z hz;simp[e]at this;exact this
 ·have:=h3 q hq
  simp at this;obtain⟨⟨⟨a,b⟩,d⟩,e⟩:=this;unfold pN;rw[g.N,g.nm,zdM_ g];exact⟨a,b,d,e⟩
 ·have hx:(relabel sc Z.env).names.lookup x=uN .cell\/(relabel sc Z.env).names.lookup x=uN .free:=by rw[zdM_ g];exact hx
  have hm:(x,NameKind.free)∈sc.names:=hx.elim (λz=>zaC_ z (.inl rfl) hc) λz=>zaC_ z (.inr rfl) hc
  exact zV_ sc.names [] cl aS x (.inl hm)
theorem zjR_ (g:Cg Z c k E)(nd:c.N.Nodup){i:Nat}(hf:(∀x,Z.fn x=uP)\/∀x,c.N[i]?=uN x->c.nm.lookup x=uN .local)(h:tgB c i e=uP):PG Z e (gName i)/\∃x p,e=.Name x p:=by
 unfold tgB at h;split at h
 ·rename_i x p
  rw[kJ]at h;have hi:c.N[i]?=uN x:=eq_of_beq h.1;exact⟨znr_ (by rw[g.N];exact nd) (by rw[g.N];exact hi) (znh_ g h.2) (hf.elim (λz=>.inl (z x)) λz=>.inr (by rw[g.nm];exact z x hi)),x,p,rfl⟩
 ·cases h
theorem zkW_ (g:Cg Z c k E)(nd:c.N.Nodup):∀{is:List Nat}{es:List lF},((∀x,Z.fn x=uP)\/∀i∈is,∀x,c.N[i]?=uN x->c.nm.lookup x=uN .local)->tgsB c is es=uP->PGs Z es (tgS is)/\(nh es Z.env).length=is.length/\(nh es Z.env).findIdx? (·.1)=uO
 |[],[],_,_=>⟨zkJ_,rfl,rfl⟩
 |[],_::_,_,h=>by cases h
 |_::_,[],_,h=>by cases h
 |i::is,e::es,hf,h=>by
  unfold tgsB at h;rw[kJ]at h;obtain⟨h1,x,p,rfl⟩:=zjR_ g nd (i:=i) (hf.imp id λz=>z i (lO ..)) h.1
  obtain⟨a,b,d⟩:=zkW_ g nd (is:=is) (es:=es) (hf.imp id λz j hj=>z j (lL _ hj)) h.2
  refine⟨zh9_ h1 a,?_,?_⟩
  ·show(nh es Z.env).length+1=_;rw[b];rfl
  ·show sZ _ ((uQ,_)::nh es Z.env)=uO
   rw[List.findIdx?_cons];simp[d]
theorem zpE_ (g:Cg Z c k E)(nd:c.N.Nodup){tg:Tg}(hf:(∀x,Z.fn x=uP)\/locals? c tg=uP)(h:tgOk c tg e=uP):PG Z e (tgT Z.K tg):=by
 have hf:(∀x,Z.fn x=uP)\/∀i∈tg.is,∀x,c.N[i]?=uN x->c.nm.lookup x=uN .local:=hf.imp id λz i hi x hx=>by
  have:=mC.mp z i hi;rw[hx]at this;exact eq_of_beq this
 unfold tgOk at h;unfold tgT;split at h
 ·rename_i es _ _ ht
  rw[if_pos ht];obtain⟨a,b,d⟩:=zkW_ g nd hf h;exact znD_ g.calm a b d
 ·rename_i ht
  rw[if_neg (by rw[ht];decide)]
  rw[kJ]at h;refine(zjR_ g nd (hf.imp id λz=>?_) h.2).1
  have hl:=eq_of_beq h.1;cases hi:tg.is with
  |nil=>rw[hi]at hl;cases hl
  |cons i r=>rw[hi]at z;exact z i (lO ..)
 ·cases h
theorem znG_ {f:Str}(hc:∀d∈G.cs,Cls Z.K (gA Z.K d)/\NoAttr Z.K (gA Z.K d) f)(he:PE Z e t)(hb:noSup e=uP):PE Z (.Attribute e f pos) (tFld Z.K G.cs t f):=by
 intro pins s σ H Q I h;obtain⟨d,hd,h⟩:=h;exact znM_ (hc d hd).1 (hc d hd).2 he (zej_ hb) pins s σ H Q I h
theorem zpf_ (g:Cg Z c k E){n:String}{y:Str}{p1 p2:Pos}(ha:PE Z e t)(he:noStar e=uP)(h1:glB c "isinstance"=uP)(h2:Z.mg "isinstance"=uO)(hn:tyNm n=uN y)(h3:glB c y=uP)(h4:Z.mg y=uO):PE Z (.Call (.Name "isinstance" p1) [e,.Name y p2] [] pos) (tCB (mIsaV Z.K) (tCons t (tCons (tC (.ty n)) tNil))):=by
 obtain⟨g1,g2⟩:=zfr_ g h1;obtain⟨g3,g4⟩:=zfr_ g h3;have hb:nH y=uN (.type n)/\y ≠ "__name__":=by
  unfold tyNm at hn;split at hn<;>cases hn<;>exact⟨rfl,by decide⟩
 exact zml_ zhV_ h2 (zb0_ ha (zb0_ (pe_ty n h4 g3 hb.1 hb.2 g4) zfZ_ (zl_ rfl)) (zl_ he)) g1 rfl (by decide) g2 (zl_ he) (zad_ rfl)
theorem zhe_ {a b c d:lF}{ta tb tc td:TE}{op aG aF:CmpOp}{r r' bg:R2}(ho:OpR Z (lP op) r)(aI:OpR Z (lP aG) r')(bz:OpR Z (lP aF) bg)(ha:PE Z a ta)(hb:PE Z b tb)(hc:PE Z c tc)(hd:PE Z d td)
  (hm:lastMarks [op,aG,aF] [b,c,d]=uQ):PT Z (.Compare a [op,aG,aF] [b,c,d] pos) (mTest (mChain3 r r' bg ta tb tc td)):=by
 intro pins s σ H Q I h;refine isTrue_chain (thn (ha pins s σ H _ I h) λv s1 ⟨x,H1,I1,r1,q1⟩=>test_link (thn (hb pins s1 σ H1 _ I1 q1) λu s2 ⟨y,H2,I2,r2,q2⟩=>
  thn (ho pins s2 σ H2 x y v u _ I2 r1 r2 q2) λd s3 ⟨z,H3,I3,r3,q3⟩=>?_)) hm
 cases z with
 |bl k=>
  cases r3;refine l6 ?_;cases k with
  |false=>exact ite_ff ⟨H3,I3,q3.2 rfl⟩
  |true=>
   refine ite_tt (test_link (thn (hc pins s3 σ H3 _ I3 (q3.1 rfl)) λw' s4 ⟨z',H4,I4,r4,q4⟩=>thn (aI pins s4 σ H4 y z' u w' _ I4 r2 r4 q4) λd' s5 ae=>?_))
   obtain⟨z2,H5,I5,r5,q5⟩:=ae;cases z2 with
   |bl k2=>
    cases r5;refine l6 ?_;cases k2 with
    |false=>exact ite_ff ⟨H5,I5,q5.2 rfl⟩
    |true=>
     refine ite_tt (test_last (thn (hd pins s5 σ H5 _ I5 (q5.1 rfl)) λw2 s6 ⟨z3,H6,I6,r6,q6⟩=>thn (bz pins s6 σ H6 z' z3 w' w2 _ I6 r4 r6 q6) λd' s7 ae=>?_))
     obtain⟨z4,H7,I7,r7,q7⟩:=ae;cases z4 with
     |bl k4=>cases r7;exact l6 ⟨H7,I7,q7⟩
     |_=>exact q7.elim
   |_=>exact q5.elim
 |_=>exact q3.elim
theorem zom_ {a b d f:lF}{t1 t2 t3 t4:TE}{op aG aF:CmpOp}{r r' bg:R2}(ho:OpR Z (lP op) r)(aI:OpR Z (lP aG) r')(bz:OpR Z (lP aF) bg)(ha:Rd Z a t1)(hb:Rd Z b t2)(hd:Rd Z d t3)(hf:Rd Z f t4)(hs:noSet f=uP):Rd Z (.Compare a [op,aG,aF] [b,d,f] pos) (mChain3 r r' bg t1 t2 t3 t4):=
 ⟨zgB_ ho aI bz ha.pe hb.pe hd.pe hf.pe (zaB_ hs),λ_=>zhe_ ho aI bz ha.pe hb.pe hd.pe hf.pe (zaB_ hs),λ_ _ _ z=>by cases z⟩
theorem os1 {os:List CmpOp}{a:Option CmpOp}(h:[a]=os.map uN):∃x,a=uN x/\os=[x]:=by
 cases os with
 |nil=>cases h
 |cons x l=>cases l with |nil=>cases h;exact⟨x,rfl,rfl⟩|cons=>cases h
theorem os2 {os:List CmpOp}{a b:Option CmpOp}(h:[a,b]=os.map uN):∃x y,a=uN x/\b=uN y/\os=[x,y]:=by
 cases os with
 |nil=>cases h
 |cons x l=>
  obtain⟨y,rfl,rfl⟩:=os1 (qj h).2;exact⟨x,y,(qj h).1,rfl,rfl⟩
theorem os3 {os:List CmpOp}{a b d:Option CmpOp}(h:[a,b,d]=os.map uN):∃x y z,a=uN x/\b=uN y/\d=uN z/\os=[x,y,z]:=by
 cases os with
 |nil=>cases h
 |cons x l=>
  obtain⟨y,z,rfl,rfl,rfl⟩:=os2 (qj h).2;exact⟨x,y,z,(qj h).1,rfl,rfl,rfl⟩
theorem zq_:∀{as:List X}{es:List lF},chkEs T G c as es=uP->es.all noStar=uP/\(es=[]↔as=[])
 |[],es,h=>by
  unfold chkEs at h;rw[l5.mp h];exact⟨rfl,Iff.rfl.trans ⟨λ_=>rfl,λ_=>rfl⟩⟩
 |a::as,es,h=>by
  apply kc_ h;intro e es h;simp only[kJ]at h;exact⟨by rw[mD,h.1.1,(zq_ h.2).1];rfl,(λz=>by cases z),(λz=>by cases z)⟩
theorem zki_ {K:lY}{as:List X}(h:chkEs T G c as es=uP)(h0:es=[]):X.dens K G E as=tNil:=by rw[(zq_ h).2.mp h0,X.dens]
theorem zlv_ {as:List X}(h:chkEs T G c as es=uP)(h0:(!as.isEmpty)=uP):es≠[]:=λz=>by
 rw[(zq_ h).2.mp z]at h0;cases h0
theorem zhu_ {os:List CmpOp}{l:List (Option CmpOp)}(h:(os.map uN == l)=uP):l=os.map uN:=(eq_of_beq h).symm
abbrev AllH (Z:Cx)(k:Nat)(l:List Fc):Prop:=∀φ∈l,φ.H Z.prog Z.w Z.K Z.mg Z.base k
theorem AllH.l {a b:List Fc}(h:AllH Z k (a++b)):AllH Z k a:=λφ cD=>h φ (oX _ cD)
theorem AllH.r {a b:List Fc}(h:AllH Z k (a++b)):AllH Z k b:=λφ cD=>h φ (lU _ cD)
theorem zkD_ {tg:Tg}(h:tgOk c tg e=uP)(ht:tg.tup=uP):∃es k p,e=.Tuple es k p:=by
 unfold tgOk at h;split at h
 ·exact⟨_,_,_,rfl⟩
 ·rename_i z;rw[z]at ht;cases ht
 ·cases h
theorem zlT_ {ik:Ik}{src:List X}{tg:Tg}{t it:lF}{k1:Bool}{ks:List lF->Bool}(fo:T.Ok G Z.K Z.mg)(g:Cg Z c k E)(h3:tg.tup=uP->∃es k p,t=.Tuple es k p)(h:srcB T c ik tg it k1 ks=uP)
  (H0:k1=uP->∃s,src=[s]/\PE Z it (s.den Z.K G E)) (H1:∀es,ks es=uP->PA Z es (X.dens Z.K G E src)/\es.all noStar=uP):PI Z t it (ik.t Z.K (X.dens Z.K G E src)):=by
 unfold srcB at h;cases ha:ik.isAny with
 |true=>
  rw[ha,cond_true]at h;obtain⟨s,rfl,hs⟩:=H0 h;cases ik<;>first |exact zoj_ hs |cases ha
 |false=>
  rw[ha,cond_false]at h;apply kC_ h;intro f es q h;apply kN_ h;intro y p h;simp only[kJ]at h;obtain⟨⟨⟨⟨⟨h1,h2⟩,h4⟩,h5⟩,h6⟩,h7⟩:=h;obtain⟨pa,st⟩:=H1 es h7;have b:=fo.bs y (by simpa using h5)
  have gl:=(zfr_ g h4).1;have hy:=eq_of_beq h1;have hl:=eq_of_beq h2;have tp:ik.tp=uP->∃es k p,t=.Tuple es k p:=λz=>h3 (by rw[z]at h6;simpa using h6)
  have sm:=zaI_ (env:=Z.env) st;cases ik with
  |any=>cases ha
  |r1=>obtain⟨a,rfl⟩:=m5.mp hl;cases hy;exact zjj_ b pa gl sm
  |r2=>match es,hl with |[a,d],_=>cases hy;exact zj9_ b pa gl sm (zaI_ (by rw[mD,kJ]at st;exact st.2))
  |en=>obtain⟨a,rfl⟩:=m5.mp hl;cases hy;obtain⟨_,_,_,rfl⟩:=tp rfl;exact zm7_ b pa gl sm
  |zip=>match es,hl with |[a,d],_=>cases hy;obtain⟨_,_,_,rfl⟩:=tp rfl;exact zlg_ b pa gl sm (zaI_ (by rw[mD,kJ]at st;exact st.2))
theorem zja_ (lv:List Str)(fr:List (Str×Nat))(ik:Ik)(src:List X)(tg:Tg)(d:Option X)(x:X)
  (H0:∀{Z:Cx}{c:Ck}{E:XK}{e:lF},T.Ok G Z.K Z.mg->Cg Z c k E->AllH Z k (X.fcss src)->chk1 T G c src e=uP->∃s,src=[s]/\PE Z e (s.den Z.K G E))
  (H1:∀{Z:Cx}{c:Ck}{E:XK}{es:List lF},T.Ok G Z.K Z.mg->Cg Z c k E->AllH Z k (X.fcss src)->chkEs T G c src es=uP->PA Z es (X.dens Z.K G E src))
  (H2:∀{Z:Cx}{c:Ck}{E:XK}{es:List lF},T.Ok G Z.K Z.mg->Cg Z c k E->AllH Z k (X.fcsO d)->chkIf T G c d es=uP->PIf Z es (X.denT Z.K G E d))
  (H3:∀{Z:Cx}{c:Ck}{E:XK}{e:lF},T.Ok G Z.K Z.mg->Cg Z c k E->AllH Z k x.fcs->chkE T G c x e=uP->Rd Z e (x.den Z.K G E)):∀{Z:Cx}{c:Ck}{E:XK}{e:lF},T.Ok G Z.K Z.mg->Cg Z c k E->AllH Z k (X.comp lv fr ik src tg d x).fcs->chkE T G c (.comp lv fr ik src tg d x) e=uP ->
  ∃t it ifs elt sc pos,e=.ListComp elt [⟨t,it,ifs,0⟩] sc pos/\∃cl,CScope Z sc cl lv fr/\PI Z t it (ik.t Z.K (X.dens Z.K G E src))/\(∀C fp s2 H2,PG (cxComp Z sc cl C (cN lv fr) fp s2 H2) t (tgT Z.K tg)) /\
   (∀C fp s2 H2,PIf (cxComp Z sc cl C (cN lv fr) fp s2 H2) ifs (X.denT Z.K G E0 d))/\(∀C fp s2 H2,PE (cxComp Z sc cl C (cN lv fr) fp s2 H2) elt (x.den Z.K G E0))/\noSet it=uP:=by
 intro Z c E e fo g fs h;apply kG_ h;intro elt gs sc pos h;rw[kJ]at h;obtain⟨⟨t,it,ifs,as⟩,rfl⟩:=m5.mp (eq_of_beq h.1);have h:=h.2;rw[mD,List.all_nil,qY]at h;simp only[kJ]at h;obtain⟨⟨⟨⟨⟨⟨⟨h1,h2⟩,h3⟩,h4⟩,h5⟩,h6⟩,h7⟩,h8⟩:=h;cases eq_of_beq h1;obtain⟨nd,cl,S,cg⟩:=zg6_ g h2
 exact⟨t,it,ifs,elt,sc,pos,rfl,cl,S,zlT_ fo g (zkD_ h3) h6 (H0 fo g fs.l) λes z=>⟨H1 fo g fs.l z,(zq_ z).1⟩,λC fp s2 H2=>zpE_ (Z:=cxComp Z sc cl C (cN lv fr) fp s2 H2) (cg C fp s2 H2) nd (.inr h4) h3,λC fp s2 iX=>H2 (Z:=cxComp Z sc cl C (cN lv fr) fp s2 iX) fo (cg C fp s2 iX) fs.r.l h7,
   λC fp s2 H2=>(H3 (Z:=cxComp Z sc cl C (cN lv fr) fp s2 H2) fo (cg C fp s2 H2) fs.r.r h8).pe,h5⟩
mutual
theorem za_:∀(x:X) {Z:Cx}{c:Ck}{E:XK}{e:lF},T.Ok G Z.K Z.mg->Cg Z c k E->AllH Z k x.fcs->chkE T G c x e=uP->Rd Z e (x.den Z.K G E)
 |.v i,Z,c,E,e,fo,g,fs,h=>by
  apply kN_ h;intro x p h;rw[kJ,kJ]at h;have h3:=h.2;unfold nmOk at h3;rw[kJ]at h3;exact zh_ (zkZ_ i (by rw[g.N];exact eq_of_beq h.1.1) (zp6_ g h.1.2) (by simpa using h3.1) (by simpa using h3.2)) rfl
 |.k d,Z,c,E,e,fo,g,fs,h=>by
  apply kK_ h;intro x n p h;exact zh_ (zjZ_ h) rfl
 |.g x d,Z,c,E,e,fo,g,fs,h=>by
  show Rd Z e (tC (d.flat?.getD .non))
  apply kN_ h;intro y p h;rw[kJ,kJ]at h;cases eq_of_beq h.1.1;obtain⟨g1,g2⟩:=zfr_ g h.1.2;have h2:=h.2;cases hv:d.flat? with
  |none=>rw[hv]at h2;cases h2
  |some v=>rw[hv]at h2;exact zh_ (pe_gc (fo.gc _ (by simpa using h2)) g1 g2) rfl
 |.gt x ls,Z,c,E,e,fo,g,fs,h=>by
  apply kN_ h;intro y p h;rw[kJ,kJ]at h;cases eq_of_beq h.1.1;obtain⟨g1,g2⟩:=zfr_ g h.1.2;obtain⟨q,hq,e⟩:=qv.mp h.2;have:=fo.kt q hq;rw[eq_of_beq e]at this;exact zh_ (pe_gc this g1 g2) rfl
 |.bin o a b,Z,c,E,e,fo,g,fs,h=>by
  rcases(oq _ _).mp h with h |h
  rotate_left
  rcases(oq _ _).mp h with h |h
  rotate_right
  ·apply kB_ h;intro l op r p h
   simp only[kJ]at h;exact zh_ (pe_op (bo_op (eq_of_beq h.1.1)) (za_ a fo g fs.l h.1.2).pe (za_ b fo g fs.r h.2).pe) rfl
  ·apply kM_ h;intro l os rs p h
   apply kc_ h;intro r t h;simp only[kJ]at h;cases l5.mp h.1.1.1.2;obtain⟨op,ho,rfl⟩:=os1 (zhu_ h.1.1.1.1);exact zni_ (zdQ_ g.units ho) (za_ a fo g fs.l h.1.2) (za_ b fo g fs.r h.2) h.1.1.2
  ·apply kS_ h;intro l r p h
   simp only[kJ]at h;have ho:o=.ix:=by
    have:=h.1.1.1;cases o<;>first |rfl |cases this
   subst ho;exact zh_ (pe_ix (ix_A g.units) (za_ a fo g fs.l h.1.2).pe (za_ b fo g fs.r h.2).pe (zkd_ h.1.1.2)) rfl
 |.ch o o' a b d,Z,c,E,e,fo,g,fs,h=>by
  apply kM_ h;intro l os rs p h;apply kc_ h;intro r t h;apply kc_ h;intro r' t' h;simp only[kJ]at h;cases l5.mp h.1.1.1.1.2;obtain⟨op,aG,h1,h2,rfl⟩:=os2 (zhu_ h.1.1.1.1.1);exact zjk_ (zdQ_ g.units h1) (zdQ_ g.units h2) (za_ a fo g fs.l h.1.1.2) (za_ b fo g fs.r.l h.1.2) (za_ d fo g fs.r.r h.2) h.1.1.1.2
 |.and a b,Z,c,E,e,fo,g,fs,h=>by
  apply kO_ h;intro x y l p h;simp only[kJ]at h;cases l with
  |nil=>exact zlF_ (za_ a fo g fs.l h.1.2) (za_ b fo g fs.r h.2) h.1.1.1 h.1.1.2
  |cons z l=>exact zqz_ (za_ a fo g fs.l h.1.2) (za_ b fo g fs.r h.2) h.1.1.1
 |.or a b,Z,c,E,e,fo,g,fs,h=>by
  apply kO_ h;intro x y l p h;simp only[kJ]at h;cases l with
  |nil=>exact zqo_ (za_ a fo g fs.l h.1.2) (za_ b fo g fs.r h.2) h.1.1.1 h.1.1.2
  |cons z l=>exact rd_or (za_ a fo g fs.l h.1.2) (za_ b fo g fs.r h.2) h.1.1.1
 |.not a,Z,c,E,e,fo,g,fs,h=>by
  apply kU_ h;intro o x p h;simp only[kJ]at h;cases eq_of_beq h.1.1;exact zmV_ (za_ a fo g fs h.2) h.1.2
 |.neg a,Z,c,E,e,fo,g,fs,h=>by
  apply kU_ h;intro o x p h;rw[kJ]at h;cases eq_of_beq h.1;exact zh_ (zoR_ (za_ a fo g fs h.2).pe) rfl
 |.ifx d a b,Z,c,E,e,fo,g,fs,h=>by
  apply kI_ h;intro t x y p h;simp only[kJ]at h;exact rd_if (zqF_ ((za_ d fo g fs.l h.1.1.2).pt h.1.1.1) (za_ a fo g fs.r.l h.1.2).pe (za_ b fo g fs.r.r h.2).pe) rfl
 |.sl a lo hi,Z,c,E,e,fo,g,fs,h=>by
  apply kS_ h;intro l r p h;apply kL_ h;intro l1 l2 l3 q h;simp only[kJ]at h;cases n6.mp h.1.1.1;exact zh_ (zkt_ sl_A (za_ a fo g fs.l h.1.1.2).pe (ziD_ lo fo g fs.r.l h.1.2) (ziD_ hi fo g fs.r.r h.2)) rfl
 |.tup as,Z,c,E,e,fo,g,fs,h=>by
  apply kT_ h;intro es n p h;exact zh_ (zqa_ (zE_ as fo g fs h)) rfl
 |.lst as,Z,c,E,e,fo,g,fs,h=>by
  apply kW_ h;intro es p h;exact zh_ (zoy_ (zE_ as fo g fs h)) rfl
 |.fld a f,Z,c,E,e,fo,g,fs,h=>by
  apply kA_ h;intro o f' p h;simp only[kJ]at h;cases eq_of_beq h.1.1.1;exact zh_ (znG_ (λd hd=>⟨fo.cls d hd,fo.at_ d hd _ (by simpa using h.1.1.2)⟩) (za_ a fo g fs h.2).pe h.1.2) rfl
 |.call f x as,Z,c,E,e,fo,g,fs,h=>by
  apply kC_ h;intro y es q h;apply kN_ h;intro y p h;simp only[kJ]at h;cases eq_of_beq h.1.1;obtain⟨g1,g2⟩:=zfr_ g h.1.2;obtain⟨ps,j,hj,F⟩:=fs _ (lO ..);exact zh_ (zkN_ F (g.room.mono hj) g.pass (zE_ as fo g (λφ cD=>fs φ (lL _ cD)) h.2) (zq_ h.2).1 g1 g2 (zki_ h.2)) rfl
 |.bf o as,Z,c,E,e,fo,g,fs,h=>by
  apply kC_ h;intro y es q h;apply kN_ h;intro y p h;simp only[kJ]at h;cases eq_of_beq h.1.1.1.1;exact zh_ (bf_pe g (fo.bs _ (by simpa using h.1.1.2)) (zE_ as fo g fs h.2) (zq_ h.2).1 (zlv_ h.2 h.1.2) h.1.1.1.2) rfl
 |.sm o a as,Z,c,E,e,fo,g,fs,h=>by
  apply kC_ h;intro y es q h;apply kA_ h;intro r m p h;simp only[kJ]at h;cases eq_of_beq h.1.1.1.1.1.1;exact zh_ (sm_pe (za_ a fo g fs.l h.1.2).pe (zE_ as fo g fs.r h.2) (zq_ h.2).1 h.1.1.1.1.1.2 h.1.1.1.1.2 (of_decide_eq_true h.1.1.1.2) (zlv_ h.2 h.1.1.2)) rfl
 |.comp lv fr ik src tg d x,Z,c,E,e,fo,g,fs,h=>by
  obtain⟨t,it,ifs,elt,sc,pos,rfl,cl,S,q1,q2,q3,q4,q5⟩:=zja_ lv fr ik src tg d x (zgX_ src) (zE_ src) (zfO_ d) (za_ x) fo g fs h;exact zh_ (znn_ g.calm S q1 q2 q3 q4 (zcJ_ q5)) rfl
 |.lr a b,Z,c,E,e,fo,g,fs,h=>by
  apply kC_ h;intro y es q h;apply kN_ h;intro y p h;apply kc_ h;intro r t h;apply kC_ h;intro z xs q2 h;apply kN_ h;intro z p2 h;apply kc_ h;intro x t1 h;apply kc_ h;intro w t2 h;simp only[kJ]at h;obtain⟨⟨⟨⟨⟨⟨⟨⟨⟨⟨⟨h1,h2⟩,ht⟩,ht2⟩,h3⟩,h4⟩,h5⟩,h6⟩,h7⟩,h8⟩,h9⟩,h10⟩:=h;cases eq_of_beq h1;cases eq_of_beq h2;cases l5.mp ht;cases l5.mp ht2;obtain⟨g1,g2⟩:=zfr_ g h3;obtain⟨g3,g4⟩:=zfr_ g h4;exact zh_ (znQ_ "list" (zc2_ g.calm) (fo.bs _ (by simpa using h5)) (zb0_ (znQ_ "range" zeX_ (fo.bs _ (by simpa using h6)) (zb0_ (za_ a fo g fs.l h9).pe (zb0_ (za_ b fo g fs.r h10).pe zfZ_ (zl_ h8)) (zl_ h7)) g3 rfl (by decide) g4 (zl_ h7) (zad_ (by simp[h8]))) zfZ_ (zl_ rfl)) g1 rfl (by decide) g2 (zl_ rfl) (zad_ rfl)) rfl
 |.isa a n,Z,c,E,e,fo,g,fs,h=>by
  apply kC_ h;intro y es q h;apply kN_ h;intro y p h;apply kc_ h;intro x t h;apply kc_ h;intro z t2 h;apply kN_ h;intro z p2 h;simp only[kJ]at h;obtain⟨⟨⟨⟨⟨⟨⟨⟨h1,ht⟩,h2⟩,h3⟩,h4⟩,h5⟩,h6⟩,h7⟩,h8⟩:=h;cases eq_of_beq h1;cases l5.mp ht;exact zh_ (zpf_ g (za_ a fo g fs h8).pe h4 h2 (fo.bs _ (by simpa using h3)) (eq_of_beq h5) h6 (fo.bs _ (by simpa using h7))) rfl
 |.srt _ _ _ _,Z,c,E,e,fo,g,fs,h=>by cases h
 |.mkd f d as dv,Z,c,E,e,fo,g,fs,h=>by
  apply kC_ h;intro y es q h;apply kN_ h;intro y p h;simp only[kJ]at h;cases eq_of_beq h.1.1.1;obtain⟨g1,g2⟩:=zfr_ g h.1.1.2;obtain⟨ps,j,hj,F⟩:=fs _ (lO ..);cases es with
  |nil=>cases h.1.2
  |cons e es=>
   have hs:=(zq_ h.2).1;rw[mD,kJ]at hs;exact zh_ (zjJ_ F (g.room.mono hj) g.pass (zE_ as fo g (λφ cD=>fs φ (lL _ cD)) h.2) g1 g2 (zl_ hs.1) (zad_ hs.2)) rfl
 |.ds1 a b,Z,c,E,e,fo,g,fs,h=>by
  apply kDd_ h;intro ks vs p h;apply kco_ h;intro k kt h;apply kc_ h;intro v vt h;simp only[kJ]at h;cases l5.mp h.1.1.1;cases l5.mp h.1.1.2;exact zh_ (ziH_ (zdU_ (za_ a fo g fs.l h.1.2).pe (za_ b fo g fs.r h.2).pe ziG_) rfl rfl (λz=>by cases z) (nY rfl)) rfl
 |.ds2 a b d f,Z,c,E,e,fo,g,fs,h=>by
  apply kDd_ h;intro ks vs p h;apply kco_ h;intro k kt h;apply kco_ h;intro l lt h;apply kc_ h;intro v vt h;apply kc_ h;intro w wt h;simp only[kJ]at h;obtain⟨⟨⟨⟨⟨h1,h2⟩,h3⟩,h4⟩,h5⟩,h6⟩:=h;cases l5.mp h1;cases l5.mp h2;exact zh_ (ziH_ (zdU_ (za_ a fo g fs.l h3).pe (za_ b fo g fs.r.l h4).pe (zdU_ (za_ d fo g fs.r.r.l h5).pe (za_ f fo g fs.r.r.r h6).pe ziG_)) rfl rfl (λz=>by cases z) (nY rfl)) rfl
 |.dct0,Z,c,E,e,fo,g,fs,h=>by
  apply kDi_ h;intro p;exact zh_ zjU_ rfl
 |.ch3 o o' aJ a b d f,Z,c,E,e,fo,g,fs,h=>by
  apply kM_ h;intro l os rs p h;apply kc_ h;intro r t h;apply kc_ h;intro r' t' h;apply kc_ h;intro bg iq h;simp only[kJ]at h;obtain⟨⟨⟨⟨⟨⟨h1,ht⟩,h4⟩,h5⟩,h6⟩,h7⟩,h8⟩:=h;cases l5.mp ht;obtain⟨op,aG,aF,g1,g2,g3,rfl⟩:=os3 (zhu_ h1);exact zom_ (zdQ_ g.units g1) (zdQ_ g.units g2) (zdQ_ g.units g3) (za_ a fo g fs.l.l h5) (za_ b fo g fs.l.r h6) (za_ d fo g fs.r.l h7) (za_ f fo g fs.r.r h8) h4
theorem zgX_:∀(as:List X) {Z:Cx}{c:Ck}{E:XK}{e:lF},T.Ok G Z.K Z.mg->Cg Z c k E->AllH Z k (X.fcss as)->chk1 T G c as e=uP->∃s,as=[s]/\PE Z e (s.den Z.K G E)
 |[],Z,c,E,e,fo,g,fs,h=>by unfold chk1 at h;cases h
 |s::as,Z,c,E,e,fo,g,fs,h=>by
  have h:=l4.mp h;cases l5.mp h.1;exact⟨s,rfl,(za_ s fo g fs.l h.2).pe⟩
theorem zE_:∀(as:List X) {Z:Cx}{c:Ck}{E:XK}{es:List lF},T.Ok G Z.K Z.mg->Cg Z c k E->AllH Z k (X.fcss as)->chkEs T G c as es=uP->PA Z es (X.dens Z.K G E as)
 |[],Z,c,E,es,fo,g,fs,h=>by
  show PA Z es tNil;rw[l5.mp h]
  exact zfZ_
 |a::as,Z,c,E,es,fo,g,fs,h=>by
  apply kc_ h;intro e t h;simp only[kJ]at h;exact zb0_ (za_ a fo g fs.l h.1.2).pe (zE_ as fo g fs.r h.2) (zl_ h.1.1)
theorem ziD_:∀(a:Option X) {Z:Cx}{c:Ck}{E:XK}{e:Option lF},T.Ok G Z.K Z.mg->Cg Z c k E->AllH Z k (X.fcsO a)->chkO T G c a e=uP->PO Z e (X.denO Z.K G E a)
 |none,Z,c,E,e,fo,g,fs,h=>by
  show PO Z e tNoPart;rw[n6.mp h]
  exact zne_
 |some a,Z,c,E,e,fo,g,fs,h=>by
  cases e with
  |none=>cases h
  |some e=>exact po_M (za_ a fo g fs h).pe
theorem zfO_:∀(a:Option X) {Z:Cx}{c:Ck}{E:XK}{es:List lF},T.Ok G Z.K Z.mg->Cg Z c k E->AllH Z k (X.fcsO a)->chkIf T G c a es=uP->PIf Z es (X.denT Z.K G E a)
 |none,Z,c,E,es,fo,g,fs,h=>by
  show PIf Z es tTrue;rw[l5.mp h]
  exact zlE_
 |some a,Z,c,E,es,fo,g,fs,h=>by
  apply kc_ h;intro e t h;simp only[kJ]at h;cases l5.mp h.1.1;exact zmA_ ((za_ a fo g fs h.2).pt h.1.2)
end
end
structure Cq (Z:Cx)(c:Ck)(k:Nat)(E:XK):Prop extends Cg Z c k E where
 fn:∀x,Z.fn x=uP
 nd:c.N.Nodup
 own:PassesOwn (model Z.prog Z.w) Z.A Z.env Z.xe
 ex:Z.ex=[]
 stack:Z.stack=Z.env::Z.outer/\Z.env.frame=uN Z.env.locals
noncomputable def Y.isC:Y->Bool
 |.pu (.comp ..)=>uP |_=>uQ
noncomputable def Bm.nm:Bm->Str
 |.append => "append" |.extend => "extend"
def Y.fcs:Y->List Fc
 |.pu x=>x.fcs
 |.mv i=>[]
 |.call f x as=>(X.call f x (as.map A.t)).fcs
 |.bm _ p as=>p.x.fcs++X.fcss (as.map A.t)
 |.bin _ y z=>y.fcs++z.fcs
 |.sd p k v=>p.x.fcs++(k.fcs++v.fcs)
 |.not y=>y.fcs
mutual
def S.fcs:S->List Fc
 |.asg _ y=>y.fcs
 |.asgT _ x=>x.fcs
 |.setF p _ x=>p.x.fcs++x.fcs
 |.setI p k x=>p.x.fcs++(k.fcs++x.fcs)
 |.ex y=>y.fcs
 |.ret y=>y.fcs
 |.retN=>[]
 |.if_ c a b=>c.fcs++(S.fcss a++S.fcss b)
 |.ifY c a b=>c.fcs++(S.fcss a++S.fcss b)
 |.ifL c a b=>c.fcs++(S.fcss a++S.fcss b)
 |.for_ _ src _ b=>X.fcss src++S.fcss b
 |.pass=>[]
 |.cont=>[]
 |.never=>[]
 |.try0 b a_=>S.fcss b++S.fcss a_
def S.fcss:List S->List Fc
 |[]=>[]
 |s::ss=>s.fcs++S.fcss ss
end
section
variable (T:Ft)(G:Gi)
def chkY (c:Ck):Y->lF->Bool
 |.pu x,e=>chkE T G c x e
 |.mv i,e=>chkE T G c (.v i) e
 |.call f x as,e=>chkE T G c (.call f x (as.map A.t)) e
 |.bm o p as,e=>kC e λr es q=>kA r λr m ap=>m == o.nm && noSup r && ap.endLine == q.line && decide (es.length<29) && chkE T G c p.x r && chkEs T G c (as.map A.t) es
 | .bin o y z,e=>kB e (λl op r=>o.op == uN op && chkY c y l && chkY c z r)||
   kM e (λl os rs=>kc rs λr t=>os.map uN == [o.cmp] && t.isEmpty && noSet r && chkY c y l && chkY c z r)
 |.sd p k v,e=>kC e λr es q=>kA r λr m ap=>kc es λa t=>kc t λb t=>m=="setdefault" && t.isEmpty && noSup r && ap.endLine==q.line && noStar a && noStar b && chkE T G c p.x r && chkE T G c k a && chkE T G c v b
 |.not y,e=>kU e λo x=>o == .Not && noIf x && chkY c y x
noncomputable def sA:mi->(lF->lF->Bool)->Bool
 |.Assign [g] e _,k=>k g e |_,_=>uQ
noncomputable def sE:mi->(lF->Bool)->Bool
 |.Expr e _,k=>k e |_,_=>uQ
noncomputable def sR:mi->(Option lF->Bool)->Bool
 |.Return e _,k=>k e |_,_=>uQ
noncomputable def sI:mi->(lF->List mi->List mi->Bool)->Bool
 |.If e a b _,k=>k e a b |_,_=>uQ
def sF:mi->(lF->lF->List mi->Bool)->Bool
 |.For t i b [] _,k=>k t i b |_,_=>uQ
noncomputable def sT:mi->(List mi->List mi->Bool)->Bool
 |.Try b (_::_) l [] _,k=>k b l |_,_=>uQ
noncomputable def sP:mi->Bool
 |.Pass _=>uP |_=>uQ
noncomputable def sC:mi->Bool
 |.Continue _=>uP |_=>uQ
section
variable {s:mi}{C:mi->Prop}
theorem sA_ {k}(h:sA s k=uP)(H:∀g e q,k g e=uP->C (.Assign [g] e q)):C s:=by
 unfold sA at h;split at h
 ·exact H _ _ _ h
 ·cases h
theorem sE_ {k}(h:sE s k=uP)(H:∀e q,k e=uP->C (.Expr e q)):C s:=by cases s<;>first |exact H _ _ h |cases h
theorem sR_ {k}(h:sR s k=uP)(H:∀e q,k e=uP->C (.Return e q)):C s:=by cases s<;>first |exact H _ _ h |cases h
theorem sI_ {k}(h:sI s k=uP)(H:∀e a b q,k e a b=uP->C (.If e a b q)):C s:=by cases s<;>first |exact H _ _ _ _ h |cases h
theorem sF_ {k}(h:sF s k=uP)(H:∀t i b q,k t i b=uP->C (.For t i b [] q)):C s:=by
 unfold sF at h;split at h
 ·exact H _ _ _ _ h
 ·cases h
theorem sT_ {k}(h:sT s k=uP)(H:∀b a r l q,k b l=uP->C (.Try b (a::r) l [] q)):C s:=by
 unfold sT at h;split at h
 ·exact H _ _ _ _ _ h
 ·cases h
theorem sP_ (h:sP s=uP)(H:∀q,C (.Pass q)):C s:=by cases s<;>first |exact H _ |cases h
theorem sC_ (h:sC s=uP)(H:∀q,C (.Continue q)):C s:=by cases s<;>first |exact H _ |cases h
end
noncomputable def sc:List mi->(mi->List mi->Bool)->Bool
 |a::l,k=>k a l |[],_=>uQ
theorem sc_ {l:List mi}{C:List mi->Prop}{k}(h:sc l k=uP)(H:∀a t,k a t=uP->C (a::t)):C l:=by cases l with |nil=>cases h |cons a t=>exact H a t h
noncomputable def isStr:Const->Bool
 |.str _=>uP |_=>uQ
mutual
def chkS (c:Ck):S->mi->Bool
 |.asg i y,s=>sA s λg e=>tgB c i g && (noCmp e ||y.isC) && chkY T G c y e
 |.asgT tg x,s=>sA s λg e=>noCmp e && noTup e && tg.tup && tgOk c tg g && chkE T G c x e
 |.setF p n x,s=>sA s λg e=>kA g λo f _=>n == f && T.at_.contains n && chkE T G c p.x o && chkE T G c x e
 |.setI p k x,s=>sA s λg e=>kS g λo i=>noSl i && chkE T G c p.x o && chkE T G c k i && chkE T G c x e
 |.ex y,s=>sE s λe=>noCmp e && chkY T G c y e
 |.ret y,s=>sR s λe=>e.any (chkY T G c y)
 |.retN,s=>sR s λe=>e.isNone
 |.if_ d a b,s=>sI s λe x y=>noIf e && chkE T G c d e && chkSs c a x && chkSs c b y
 |.ifL d a b,s=>sI s λe x y=>plainT e && chkE T G c d e && chkSs c a x && chkSs c b y
 |.ifY d a b,s=>sI s λe x y=>noIf e && chkY T G c d e && chkSs c a x && chkSs c b y
 |.for_ ik src tg b,s=>sF s λt it x=>noSet it && tgOk c tg t && srcB T c ik tg it (chk1 T G c src it) (chkEs T G c src) && chkSs c b x
 |.pass,s=>sP s ||sE s λe=>kK e isStr
 |.cont,s=>sC s
 |.never,_=>uP
 |.try0 b a_,s=>sT s λx y=>chkSs c b x && chkSs c a_ y
def chkSs (c:Ck):List S->List mi->Bool
 |[],ss=>ss.isEmpty
 |a::as,ss=>sc ss λs ss=>chkS c a s && chkSs c as ss
end
end
section
variable {Z:Cx}{c:Ck}{k:Nat}{E:XK}{T:Ft}{G:Gi}{e o:lF}{es:List lF}{t:TE}{p pos apos:Pos}
def bmT (K:lY)(G:Gi)(E:XK)(b:Bm)(t:TE)(as:List A):TE:=match as with |[]=>tBM0 K b.ty b.r t |_=>tBM K b.ty b.r t (X.dens K G E (as.map A.t))
theorem bm_pe {b:Bm}{as:List A}(ho:PE Z o t)(ha:PA Z es (X.dens Z.K G E (as.map A.t)))(hs:es.all noStar=uP)(hb:noSup o=uP)(hl:(apos.endLine == pos.line)=uP)(hn:es.length<29)(h0:es=[]↔as=[]):PE Z (.Call (.Attribute o b.nm apos) es [] pos) (bmT Z.K G E b t as):=by
 have b0:=λn=>zej_ (env:=Z.env) (m:=n) hb
 cases as with
 |nil=>
  rw[h0.mpr rfl];cases b with
  |append=>exact zmH_ zep_ za1_ za7_ zcL_ ho (b0 _) hl
  |extend=>exact zmH_ zep_ za6_ za0_ zeB_ ho (b0 _) hl
 |cons a as=>
  cases es with
  |nil=>cases h0.mp rfl
  |cons e es=>
   have f:=zkz_ (env:=Z.env) (pos:=pos) hs hn;rw[mD,kJ]at hs;have s1:=zl_ (env:=Z.env) (es:=es) hs.1;have s2:=zad_ (env:=Z.env) (pos:=pos) hs.2;cases b with
   |append=>exact zpU_ zep_ za1_ za7_ zcL_ ho ha (b0 _) f hl s1 s2
   |extend=>exact zpU_ zep_ za6_ za0_ zeB_ ho ha (b0 _) f hl s1 s2
theorem za8_:∀(y:Y) {e:lF},T.Ok G Z.K Z.mg->Cg Z c k E->AllH Z k y.fcs->chkY T G c y e=uP->Rd Z e (y.den Z.K G E)
 |.pu x,e,fo,g,fs,h=>za_ x fo g fs h
 |.mv i,e,fo,g,fs,h=>by
  exact za_ (.v i) fo g (λ_ z=>by cases z) h
 |.call f x as,e,fo,g,fs,h=>by
  exact za_ (.call f x (as.map A.t)) fo g fs h
 |.bm b p as,e,fo,g,fs,h=>by
  apply kC_ h;intro r es q h;apply kA_ h;intro r m ap h;simp only[kJ]at h;cases eq_of_beq h.1.1.1.1.1;exact zh_ (bm_pe (b:=b) (za_ p.x fo g fs.l h.1.2).pe (zE_ _ fo g fs.r h.2) (zq_ h.2).1 h.1.1.1.1.2 h.1.1.1.2 (of_decide_eq_true h.1.1.2) ((zq_ h.2).2.trans List.map_eq_nil_iff)) rfl
 |.bin o y z,e,fo,g,fs,h=>by
  rcases(oq _ _).mp h with h |h
  ·apply kB_ h;intro l op r p h
   simp only[kJ]at h;exact zh_ (pe_op (bo_op (eq_of_beq h.1.1)) (za8_ y fo g fs.l h.1.2).pe (za8_ z fo g fs.r h.2).pe) rfl
  ·apply kM_ h;intro l os rs p h
   apply kc_ h;intro r t h;simp only[kJ]at h;cases l5.mp h.1.1.1.2;obtain⟨op,ho,rfl⟩:=os1 (zhu_ h.1.1.1.1);exact zni_ (zdQ_ g.units ho) (za8_ y fo g fs.l h.1.2) (za8_ z fo g fs.r h.2) h.1.1.2
 |.sd p k v,e,fo,g,fs,h=>by
  apply kC_ h;intro r es q h;apply kA_ h;intro r m ap h;apply kc_ h;intro a t h;apply kc_ h;intro b t h;simp only[kJ]at h;obtain⟨⟨⟨⟨⟨⟨⟨⟨h1,ht⟩,h2⟩,h3⟩,h4⟩,h5⟩,h6⟩,h7⟩,h8⟩:=h;cases eq_of_beq h1;cases l5.mp ht;have st:[a,b].all noStar=uP:=by simp[h4,h5]
  exact zh_ (zj6_ g.units (za_ p.x fo g fs.l h6).pe (za_ k fo g fs.r.l h7).pe (za_ v fo g fs.r.r h8).pe ⟨zej_ h2,zkz_ st (show 2<29 by decide),h3,by rw[zaI_ st];rfl⟩) rfl
 |.not y,e,fo,g,fs,h=>by
  apply kU_ h;intro o x p h;simp only[kJ]at h;cases eq_of_beq h.1.1;exact zmV_ (za8_ y fo g fs h.2) h.1.2
theorem zg9_ {elt:lF}{gs:List Comprehension}{sc:Scope}{x:Str}{p:Pos}{env:PySem.Env}{n:Nat}:∃b,swapsWith (.ListComp elt gs sc pos) (uN (.Name x p)) n env=pure b:=⟨_,rfl⟩
theorem zgi_ {f:Str}{n:Nat}:swapsWith e (uN (.Attribute o f p)) n Z.env=pure uQ:=by cases e<;>rfl
theorem zhr_ {i:lF}{n:Nat}:swapsWithSole [.Subscript o i p] e n Z.env=pure uQ:=by cases e<;>rfl
theorem zgr_ {tg:lF}{n:Nat}(h:noCmp e=uP):swapsWithSole [tg] e n Z.env=pure uQ:=zdB_ h (uN tg) n
theorem zoV_ {i:lF}(h:noSl i=uP)(v:aU):assign (.Subscript o i p) Z.env v=(do
   let ov <- holding [v] (eval o Z.env)
   let iv <- holding [v,ov] (eval i Z.env)
   standAt p
   holding [v,ov,iv] (setItem ov iv v)
   release [v,ov,iv] []):=by
 cases i<;>first |rfl |cases h
theorem zqO_ (fo:T.Ok G Z.K Z.mg)(g:Cq Z c k E){i:Nat}{y:Y}{q:Pos}(fs:AllH Z k y.fcs)(h1:tgB c i o=uP)(h2:(noCmp e ||y.isC)=uP)(h3:chkY T G c y e=uP):
  PS Z (.Assign [o] e q) (tAsg (y.den Z.K G E) (gName i)):=by
 have hv:=(za8_ y fo g.toCg fs h3).pe;obtain⟨ju,x,p,rfl⟩:=zjR_ g.toCg g.nd (.inl g.fn) h1;unfold tgB at h1;rw[kJ]at h1;have hi:Z.N[i]?=uN x:=by rw[g.N];exact eq_of_beq h1.1
 have hn:Z.N.Nodup:=by rw[g.N];exact g.nd
 have hl:=znh_ g.toCg h1.2;by_cases hc:noCmp e=uP
 ·exact zme_ hn hi hl hv (zdB_ hc _ _) (.inl (g.fn x))
 ·have hc:noCmp e=uQ:=by simpa using hc
  rw[hc,tj]at h2;unfold Y.isC at h2;split at h2
  ·rename_i lv fr ik src tg d z
   obtain⟨t,it,ifs,elt,sc,pos,rfl,cl,S,q1,q2,q3,q4,q5⟩:=zja_ lv fr ik src tg d z (zgX_ src) (zE_ src) (zfO_ d) (za_ z) fo g.toCg fs h3;obtain⟨b,hb⟩:=zg9_ (elt:=elt) (gs:=[⟨t,it,ifs,0⟩]) (sc:=sc) (pos:=pos) (x:=x) (p:=p) (env:=Z.env) (n:=q.line);cases b with
   |true=>
    exact zgL_ g.calm S q1 q2 q3 q4 ju hb (zcJ_ q5)
   |false=>exact zme_ hn hi hl hv hb (.inl (g.fn x))
  ·cases h2
theorem Cq.nox (g:Cq Z c k E):Cq Z.nox c k E0 where
 N:=g.N
 nm:=g.nm
 kind:=g.kind
 calm:=g.calm
 room:=g.room
 pass:=zhv_
 cells:=g.cells
 fn:=g.fn
 nd:=g.nd
 own:=PassesOwn.never
 ex:=g.ex
 stack:=g.stack
theorem zkY_ {body orelse:List mi}{h₀:ExceptHandler}{hs:List ExceptHandler}{tb te:TS}(hb:PSs Z.nox body tb)(hl:PSs Z orelse te):PS Z (.Try body (h₀::hs) orelse [] pos) (tSeq tb te):=by
 intro pins s σ H D I h;refine wpAny_Try_except (mK (hb pins s σ H _ (I.wish _) h) (λf s1 q=>?_) λe s1 q=>lZ q)
 replace q:=q.unwish;cases f with
 |next=>obtain⟨ah,H',I',q⟩:=q;exact hl pins s1 ah H' D I' q
 |ret v=>exact q
 |brk=>exact q
 |cont=>exact q
mutual
theorem zlD_:∀{Z:Cx}{E:XK}(fo:T.Ok G Z.K Z.mg) (g:Cq Z c k E) (s:S) {st:mi},AllH Z k s.fcs->chkS T G c s st=uP->PS Z st (s.den Z.K G E)
 |Z,E,fo,g,.asg i y,st,fs,h=>by
  apply sA_ h;intro o e q h;simp only[kJ]at h;exact zqO_ fo g fs h.1.1 h.1.2 h.2
 |Z,E,fo,g,.asgT tg x,st,fs,h=>by
  apply sA_ h;intro o e q h;simp only[kJ]at h;obtain⟨_,_,_,rfl⟩:=zkD_ h.1.2 h.1.1.2;exact zlJ_ (za_ x fo g.toCg fs h.2).pe (zpE_ g.toCg g.nd (.inl g.fn) h.1.2) (zgr_ h.1.1.1.1) (zhB_ h.1.1.1.2)
 |Z,E,fo,g,.setF p n x,st,fs,h=>by
  apply sA_ h;intro o e q h;apply kA_ h;intro o f r h;simp only[kJ]at h;cases eq_of_beq h.1.1.1;have ha:=(za_ p.x fo g.toCg fs.l h.1.2).pe;have hv:=(za_ x fo g.toCg fs.r h.2).pe;intro pins s σ H D I q;obtain⟨d,hd,q⟩:=q;exact znz_ (fo.cls d hd) (fo.at_ d hd _ (by simpa using h.1.1.2)) ha hv zgi_ pins s σ H D I q
 |Z,E,fo,g,.setI p k x,st,fs,h=>by
  apply sA_ h;intro o e q h;apply kS_ h;intro o i r h;simp only[kJ]at h;exact zlJ_ (za_ x fo g.toCg fs.r.r h.2).pe (zoX_ (za_ p.x fo g.toCg fs.l h.1.1.2).pe (za_ k fo g.toCg fs.r.l h.1.2).pe (set_A g.units) (zoV_ h.1.1.1)) zhr_ zgw_
 |Z,E,fo,g,.ex y,st,fs,h=>by
  apply sE_ h;intro e q h;simp only[kJ]at h;exact zm2_ (za8_ y fo g.toCg fs h.2).pe (zdB_ h.1 _ _)
 |Z,E,fo,g,.ret y,st,fs,h=>by
  apply sR_ h;intro e q h;cases e with
  |none=>cases h
  |some e=>exact zlR_ (za8_ y fo g.toCg fs h).pe
 |Z,E,fo,g,.retN,st,fs,h=>by
  apply sR_ h;intro e q h;cases n6.mp h;exact zmh_
 |Z,E,fo,g,.if_ d a b,st,fs,h=>by
  apply sI_ h;intro e x y q h;simp only[kJ]at h;exact zkf_ ((za_ d fo g.toCg fs.l h.1.1.2).pt h.1.1.1) (zA_ fo g a fs.r.l h.1.2) (zA_ fo g b fs.r.r h.2)
 |Z,E,fo,g,.ifL d a b,st,fs,h=>by
  apply sI_ h;intro e x y q h;simp only[kJ]at h;exact zkf_ (zpZ_ (za_ d fo g.toCg fs.l h.1.1.2).pe (zdk_ h.1.1.1)) (zA_ fo g a fs.r.l h.1.2) (zA_ fo g b fs.r.r h.2)
 |Z,E,fo,g,.ifY d a b,st,fs,h=>by
  apply sI_ h;intro e x y q h;simp only[kJ]at h;exact zkf_ ((za8_ d fo g.toCg fs.l h.1.1.2).pt h.1.1.1) (zA_ fo g a fs.r.l h.1.2) (zA_ fo g b fs.r.r h.2)
 |Z,E,fo,g,.for_ ik src tg b,st,fs,h=>by
  apply sF_ h;intro t it x q h;simp only[kJ]at h;exact zpO_ g.own g.calm (zlT_ fo g.toCg (zkD_ h.1.1.2) h.1.2 (zgX_ src fo g.toCg fs.l) λes z=>⟨zE_ src fo g.toCg fs.l z,(zq_ z).1⟩) (zpE_ g.toCg g.nd (.inl g.fn) h.1.1.2) (zA_ fo g b fs.r h.2) (zcJ_ h.1.1.1)
 |Z,E,fo,g,.pass,st,fs,h=>by
  rcases(oq _ _).mp h with h |h
  ·apply sP_ h;intro q;exact zlw_
  ·apply sE_ h;intro e q h
   apply kK_ h;intro d n p h;cases d<;>first |exact zp8_ |cases h
 |Z,E,fo,g,.cont,st,fs,h=>by
  apply sC_ h;intro q;exact ze8_
 |Z,E,fo,g,.never,st,fs,h=>zkb_
 |Z,E,fo,g,.try0 b a_,st,fs,h=>by
  apply sT_ h;intro x a r y q h;simp only[kJ]at h;have hb:=zA_ (Z:=Z.nox) (E:=E0) fo g.nox b fs.l h.1;have hl:=zA_ fo g a_ fs.r h.2;exact(show PS Z _ (tSeq (S.dens Z.K G E0 b) (S.dens Z.K G E a_))from zkY_ hb hl)
theorem zA_:∀{Z:Cx}{E:XK}(fo:T.Ok G Z.K Z.mg) (g:Cq Z c k E) (ss:List S) {st:List mi},AllH Z k (S.fcss ss)->chkSs T G c ss st=uP->PSs Z st (S.dens Z.K G E ss)
 |Z,E,fo,g,[],st,fs,h=>by
  unfold chkSs at h;rw[S.dens,l5.mp h];exact ziA_
 |Z,E,fo,g,s::ss,st,fs,h=>by
  apply sc_ h;intro a t h;simp only[kJ]at h;exact zgP_ (zlD_ fo g s fs.l h.1) (zA_ fo g ss fs.r h.2)
end
end
theorem zdP_ {α:Type}{p:α->Prop}:∀x∈([]:List α),p x:=λ_ h=>by cases h
theorem zf_ {α:Type}{p:α->Prop}{a:α}{l:List α}(h:p a)(t:∀x∈l,p x):∀x∈a::l,p x:=λx hx=>by
 rcases lI.mp hx with rfl |hx
 ·exact h
 ·exact t x hx
theorem ftt_u {K:lY}{x:Str}{xs:List (List Nat)}(h:FtT K x xs):SqU K (gA K x) (xs.map tx):=by
 rcases h (λ_=>uO)with h |h
 ·rcases h with h |⟨_,h⟩<;>cases h
 ·exact h
noncomputable def AllF (Φ:Fc->Prop):List Fc->Prop
 |[]=>True
 |φ::l=>Φ φ/\AllF Φ l
theorem AllF.mem {Φ:Fc->Prop}:∀{l:List Fc},AllF Φ l->∀φ∈l,Φ φ
 |[],_,_,h=>by cases h
 |ψ::l,h,φ,hm=>by
  rcases lI.mp hm with rfl |hm
  ·exact h.1
  ·exact AllF.mem h.2 φ hm
section
variable {P:lQ}{w:l9}{K:mB}{mg:Str->Option aU}{base:Heap}{x q:Str}{st:mi}{N ps:List Str}{k:Nat}{T:Ft}{G:Gi}{body:List S}
theorem zo5_ (S:FnScope N ps (defScope st)){f:k9}{af:aU}{A:mh}{outer:List PySem.Env}{s:kR}{H:Hp}{E:XK}(hr:Room k (A.deeper (envOfC q (defScope st) s.heap.objs.size f af))):
  Cq (cxOf CX0 P w K mg base N q (defScope st) f af A outer s H E) ⟨N,(defScope st).names⟩ k E where
 N:=rfl
 nm:=rfl
 kind:=S.kind
 calm:=rfl
 room:=hr
 pass:=zhv_
 cells:=λx hx=>by
  rcases hx with hx |hx
  ·exact zd0_ hx
  ·exact absurd rfl (S.nofree _ (ml hx))
 fn:=λ_=>rfl
 nd:=S.nd
 own:=PassesOwn.leaving
 ex:=rfl
 stack:=⟨rfl,rfl⟩
theorem zgG_ {n m:Nat}{vs:List V}{H:Hp}{Q:VK}{E:XK}(h:CtG K (fnOf G n m body) vs H Q E):vs.length=n:=by
 obtain⟨F,h,ds,hs,dj,sh,os,fin⟩:=h;unfold fnOf at fin;split at fin
 ·rename_i hd
  rw[<- ODs.len os,hd]
 ·exact fin.elim
theorem _root_.L2.Fun.ok0 {f:k9}{fd:mO}{sp:Sp}(F:Fun K x q st f fd)(S:FnScope N ps (defScope st))(len:∀vs H Q E,sp vs H Q E->vs.length=ps.length)
  (hb:∀(af:aU) (A:mh) (outer:List PySem.Env) (s:kR) (H:Hp) (vs:List V) (Q:VK) (E:XK),Room k (A.deeper (envOfC q (defScope st) s.heap.objs.size f af))->sp vs H Q E ->
   ∃t,PSs (cxOf CX0 P w K mg base N q (defScope st) f af A outer s H E) (defBody st) t/\t {nx:=λ_ H'=>Q .non H',rt:=Q} (start N vs) H):FnOk P w K mg base CX0 (k+1) f fd ps sp:=by
 obtain⟨oc,od,kV,doc,pm,an,af,ct,aq,rfl,lk,aD⟩:=F.ex;exact zpQ_ lk aD S len (hb af)
theorem _root_.L2.FunD.ok0 {f:k9}{fd:mO}{sp:Sp}{T:k9}(F:FunD K T x q st f fd)(S:FnScope N ps (defScope st))(len:∀vs H Q E,sp vs H Q E->vs.length=ps.length)
  (hb:∀(af:aU) (A:mh) (outer:List PySem.Env) (s:kR) (H:Hp) (vs:List V) (Q:VK) (E:XK),Room k (A.deeper (envOfC q (defScope st) s.heap.objs.size f af))->sp vs H Q E ->
   ∃t,PSs (cxOf CX0 P w K mg base N q (defScope st) f af A outer s H E) (defBody st) t/\t {nx:=λ_ H'=>Q .non H',rt:=Q} (start N vs) H):FnOk P w K mg base CX0 (k+1) f fd ps sp:=by
 obtain⟨oc,od,kV,doc,pm,an,af,ct,aq,rfl,lk,aD⟩:=F.ex;exact zpQ_ lk aD S len (hb af)
theorem okV {n m:Nat}(g0:G.Ok K)(fo:T.Ok G K mg)(fs:AllF (Fc.H P w K mg base k) (S.fcss body))(hc:chkSs T G ⟨N,(defScope st).names⟩ body (defBody st)=uP)
  (S:FnScope N ps (defScope st)) (b:Bnd K x q st ps) (hp:ps.length=n) (hm:N.length=n+m):OkF P w K mg base CX0 (k+1) x q st ps (CtG K (fnOf G n m body)):=λf fd F=>
 ⟨F.ok0 S (λvs H Q E h=>(zgG_ h).trans hp.symm) λaf A outer s H vs Q E hr h=>⟨VI.S.dens K G E body,zA_ fo (zo5_ S hr) body fs.mem hc,zkn_ g0 hm vs H Q E h⟩,b f fd F⟩
theorem okVD {n m:Nat}(g0:G.Ok K)(fo:T.Ok G K mg)(fs:AllF (Fc.H P w K mg base k) (S.fcss body))(hc:chkSs T G ⟨N,(defScope st).names⟩ body (defBody st)=uP)
  (S:FnScope N ps (defScope st)) (hp:ps.length=n) (hm:N.length=n+m):OkFD P w K mg base CX0 (k+1) x q st ps (CtG K (fnOf G n m body)):=λT f fd F=>
 F.ok0 S (λvs H Q E h=>(zgG_ h).trans hp.symm) λaf A outer s H vs Q E hr h=>⟨VI.S.dens K G E body,zA_ fo (zo5_ S hr) body fs.mem hc,zkn_ g0 hm vs H Q E h⟩
noncomputable abbrev X.n (i:Int):X:=.k (.int i)
abbrev X.i (a:X)(n:Int):X:=.bin .ix a (.k (.int n))
abbrev GG (P:lQ)(w:l9)(K:lY)(mg:Str->Option aU)(base:Heap)(k:Nat)(x:Str)(ps:List Str)(f:Fn):Prop:=Gd P w K mg base CX0 k x ps (CtG K f)
theorem fkc {j:Nat}{f:Fn}(g:GG P w K mg base j x ps f)(h:j<=k:=by decide):Fc.H P w K mg base k (.call f x):=⟨ps,j,h,g⟩
theorem okW {n m:Nat}(g0:G.Ok K)(fo:T.Ok G K mg)(fs:AllF (Fc.H P w K mg base k) (S.fcss body))(hc:chkSs T G ⟨N,(defScope st).names⟩ body (defBody st)=uP:=by decide +kernel)
  (S:FnScope N ps (defScope st):=by exact⟨rfl,rfl,rfl,by decide +kernel,rfl,by decide +kernel,by decide +kernel⟩)
  (b:Bnd K x q st ps:=by first |exact λ_ _ F=>Fun.binds1 rfl F λ_ _ _ _ _ _ _=>rfl |exact λ_ _ F=>Fun.binds2 rfl F λ_ _ _ _ _ _ _ _=>rfl |exact λ_ _ F=>Fun.binds3 rfl F λ_ _ _ _ _ _ _ _ _=>rfl |exact λ_ _ F=>Fun.binds4 rfl F λ_ _ _ _ _ _ _ _ _ _=>rfl)
  (hp:ps.length=n:=by rfl) (hm:N.length=n+m:=by rfl):OkF P w K mg base CX0 (k+1) x q st ps (CtG K (fnOf G n m body)):=okV g0 fo fs hc S b hp hm
def lamB (c:Ck)(sc:Scope)(p:Str)(fr:List (Str×Nat)):Bool:=
 sc.names.all (λy=>y.2 != .cell && (y.2 != .free ||c.nm.lookup y.1 == uN .cell ||c.nm.lookup y.1 == uN .free)) && sc.kind == .function && !sc.isCoroutine && !sc.isGenerator && sc.names.lookup p == uN .local &&
 fr.all λq=>c.N[q.2]? == uN q.1 && sc.names.lookup q.1 == uN .free && (c.nm.lookup q.1 == uN .cell ||c.nm.lookup q.1 == uN .free)
theorem zhP_ {Z:Cx}{c:Ck}{E:XK}{sc:Scope}{p:Str}{fr:List (Str×Nat)}(g:Cg Z c k E)(h:lamB c sc p fr=uP):∃cl,LScope Z sc cl p fr:=by
 unfold lamB at h;simp only[kJ]at h;obtain⟨⟨⟨⟨⟨h1,h2⟩,h3⟩,h4⟩,h5⟩,h6⟩:=h;have h1:=mC.mp h1;have hc:∀y∈sc.names,y.2≠.cell:=λy hy=>by have:=h1 y hy;simp at this;exact this.1
 have hf:∀y∈sc.names,y.2=.free->c.nm.lookup y.1=uN .cell\/c.nm.lookup y.1=uN .free:=λy hy z=>by
  have:=h1 y hy;simp[z]at this;exact this
 obtain⟨cl,aS⟩:=zaX_ (cells:=Z.env.cells) sc.names [] λy hy z=>g.cells _ (hf y hy z)
 refine⟨cl,aS,hc,eq_of_beq h2,by simpa using h3,by simpa using h4,eq_of_beq h5,λq hq=>?_⟩
 have:=mC.mp h6 q hq;simp at this;unfold pN;rw[g.N,g.nm];exact⟨this.1.1,this.1.2,this.2⟩
theorem zpw_ {Z:Cx}{c:Ck}{E:XK}{sc:Scope}{cl:List (Str×k9)}{p qu:Str}{fr:List (Str×Nat)}{f:k9}{af:aU}{s2:kR}{H2:Hp}(g:Cg Z c (k+1) E)(S:LScope Z sc cl p fr):Cg (cxLam Z Z.A.in1.in1 qu sc cl f af (p::fr.map (·.1)) s2 H2) ⟨p::fr.map (·.1),sc.names⟩ k E0:=
 ⟨rfl,rfl,S.kind,rfl,⟨g.room.hd,by have:=g.room.dp;show Z.A.depth+1+3*k+5<_;lia,by have:=g.room.un;show Z.A.units+1+1+3+16*k+200<_;lia⟩,zhv_,λx hx=>by
  rcases hx with z |z
  ·exact absurd rfl (S.cell _ (ml z))
  ·exact zV_ sc.names [] cl S.clos x (.inl (ml z))⟩
theorem zqr_ {n m:Nat}{p y:Str}{fr:List (Str×Nat)}{i:Nat}{e:X}{p0 p1 cW bO pos fY:Pos}{params:Arguments}{bP:lF}{sc:Scope}(M:Mgo K mg)(F:Fg K "put_in_order" st)(hl:L2.Fl K bO)(g0:G.Ok K)(fo:T.Ok G K mg)(fs:AllF (Fc.H P w K mg base k) e.fcs)
  (hb:defBody st=[.Return (uN (.Call (.Name "sorted" p0) [.Name y p1] [⟨uN "key",.Lambda params bP sc bO,cW⟩] pos)) fY]:=by rfl)
  (h1:lamB ⟨N,(defScope st).names⟩ sc p fr=uP:=by decide +kernel) (h2:chkE T G ⟨p::fr.map (·.1),sc.names⟩ e bP=uP:=by decide +kernel) (h3:(chkE T G ⟨N,(defScope st).names⟩ (.v i) (.Name y p1) && glB ⟨N,(defScope st).names⟩ "sorted" && T.bs.contains "sorted")=uP:=by decide +kernel)
  (h6:∀env,defaultsOf params env=([],[]):=by exact λ_=>rfl) (h7:∀q cl pm c' aE u,bindArgs (p5 "<lambda>" q params bP sc cl pm (.ref c') aE) ⟨[u],[]⟩=pure [(p,u)]:=by exact λ_ _ _ _ _ _=>rfl)
  (S:FnScope N ps (defScope st):=by exact⟨rfl,rfl,rfl,by decide +kernel,rfl,by decide +kernel,by decide +kernel⟩) (b:Bnd K "put_in_order" "put_in_order" st ps:=by exact λ_ _ F=>Fun.binds2 rfl F λ_ _ _ _ _ _ _ _=>rfl) (hp:ps.length=n:=by rfl) (hm:N.length=n+m:=by rfl):
  GG P w K mg base (k+2) "put_in_order" ps (fnOf G n m [.ret (.pu (.srt p fr i e))]):=by
 obtain⟨_,X,N'⟩:=M;obtain⟨f,e',i'⟩:=F;obtain⟨fd,F⟩:=i'.fun_;have gV:=b f fd F;have kp:=F.kp;obtain⟨c,Pt,t1,t2,t3⟩:=hl;obtain⟨oc,od,kV,doc,pm,an,af,ct,aq,rfl,lk,aD⟩:=F.ex;have ec:af=.ref c:=W.law_code X N' t1 (rJ X N' e') (X _ _ lk) rfl;subst ec;simp only[kJ]at h3;refine⟨f,_,zpQ_ lk aD S (λvs H Q E h=>(zgG_ h).trans hp.symm) (λA outer s H vs Q E hr h=>⟨_,?_,zkn_ g0 hm vs H Q E h⟩),rJ X N' e',kp,gV⟩
 have g:=(zo5_ (P:=P) (w:=w) (K:=K) (mg:=mg) (base:=base) (outer:=outer) (H:=H) (E:=E) S hr).toCg;obtain⟨cl,L⟩:=zhP_ g h1;rw[hb];refine zgP_ (zlR_ ?_) ziA_
 exact zjT_ L hr.hd (by have:=hr.dp;exact Nat.lt_of_le_of_lt (rY _ (3*(k+1)+5)) (by rw[<- Nat.add_assoc];exact this)) (by have:=g.units;lia) rfl t2 t3 (fo.bs _ (by simpa using h3.2)) (zfr_ g h3.1.2).1 (za_ (.v i) fo g (λφ cD=>by cases cD) h3.1.1).pe (h6 _) (h7 _ cl)
  λf af s2 H2=>(za_ e fo (zpw_ g L) fs.mem h2).pe
theorem fkd {j:Nat}{f:Fn}{dv:List D}(g:GkD P w K mg base CX0 j x (gA K x) ps ((flats dv).getD []) (CtG K f))(h:j+1<=k:=by decide):Fc.H P w K mg base k (.mkd f x dv):=⟨ps,j,h,g⟩
theorem bnd6 {T f:k9}{fd:mO}{arr:Array aU}{n:Nat}{oc:aU}{od:Option k9}{aq:Array (Option aU)}(hp:ps.length=10)(F:FunD K T x q st f fd)(lT:K.lookup T=uN ⟨oc,od,.seq arr n,aq⟩)(hl:arr.toList.length=5)
  (h:∀(d0 d1 d2 d3 d4:aU) (kV doc pm:aU) (an:Option k9) (af ct:aU) (u0 u1 u2 u3 u4 u5:aU) (s:kR),(∃o,s.heap.get? T=uN o/\o.data=.seq #[d0,d1,d2,d3,d4] n)->BindsTo s (W.fnOf x q (defArgs st) (defBody st) (defScope st) (.ref T) kV doc pm an af ct) ⟨[u0,u1,u2,u3,u4,u5],[]⟩ (ps.zip [u0,u1,u2,u3,u4,u5,d1,d2,d3,d4])):Binds K fd ps (arr.toList.drop 1):=by
 obtain⟨d0,d1,d2,d3,d4,rfl⟩:=arr5 hl;exact zkM_ hp F lT (h d0 d1 d2 d3 d4)
theorem FnOk.cx0 {f:k9}{fd:mO}{sp iu:Sp}(F:FnOk P w K mg base CX0 k f fd ps sp)(h:∀vs H Q E,iu vs H Q E->sp vs H Q E0):FnOk P w K mg base CX0 k f fd ps iu:=by
 refine⟨λvs H Q E q=>F.len _ _ _ _ (h _ _ _ _ q),λA outer s H args us vs Q E hr e0 hb r q=>codeAny_mono (F.run A outer s H args us vs Q E0 hr e0 hb r (h _ _ _ _ q)) λr s' z=>?_⟩
 cases r with
 |ok fl=>cases fl<;>exact z
 |error e=>exact z.elim
theorem zfA_:∀(ns:List Int) {H:Hp},DRs K (ns.map D.int) (ns.map V.int) H
 |[],_=>by unfold DRs;rfl
 |n::ns,H=>by rw[lj,lj];unfold DRs;exact⟨_,_,rfl,by unfold DR;rfl,zfA_ ns⟩
noncomputable def scr (ns:List Int):D:=.fz (.nd .scr (ns.map .int))
theorem znP_ {f:Fn}(hf:∀ns:List Int,ns.length<=63->BitsOk ns->f.val [scr ns]=.ok (.bl uP)):∀vs H Q E,spL K vs H Q E->CtG K f vs H Q E0:=by
 rintro vs H Q E ⟨a,ns,rfl,hS,hl,hb,q⟩;refine zfF_ (ds:=[.nd .scr (ns.map .int)]) (Same.refl H) ?_ ?_
 ·unfold DRs;exact⟨_,_,rfl,by unfold DR;exact⟨a,_,rfl,hS,zfA_ ns⟩,by unfold DRs;rfl⟩
 ·have:[D.nd .scr (ns.map .int)].map D.vw=[scr ns]:=by
   unfold D.vw scr D.imm;rfl
  rw[this,hf ns hl hb];rintro F' H' x v h fresh d s o;have o:(∀p,h p=uO)/\DR K (.bl uP) v F':=by
   have o:OD K (.bl uP) v F' h:=o;unfold OD at o;exact o
  cases o.2.bl;exact q H'
theorem okLV {fa:k9}{fd:mO}{f:Fn}(F:FnOk P w K mg base CX0 k fa fd ps (CtG K f))(hf:∀ns:List Int,ns.length<=63->BitsOk ns->f.val [scr ns]=.ok (.bl uP)):FnOk P w K mg base CX0 k fa fd ps (spL K):=FnOk.cx0 F (znP_ hf)
end
section
variable {G:Gi}{pn:Nat->Bool}{env e:Env}{ss a b:List S}{y:Y}{c:X}{d:D}{i:Nat}{ds:List D}
theorem rf_ {α:Type}{a:α}:a=a:=of_eq_true (eq_self a)
theorem zhb_ (r:Mr Env Fl)(f g:Env->Mr Env Fl):seqM (seqM r f) g=seqM r λe=>seqM (f e) g:=by
 cases r with
 |ok o e=>cases o<;>rfl
 |ex c e=>rfl
 |no=>rfl
theorem zjL_:∀(a:List S) (env:Env),seqM (S.runs G pn a env) (λe=>S.runs G pn b e)=S.runs G pn (a++b) env
 |[],env=>by rw[S.runs];rfl
 |s::a,env=>by
  rw[mH,S.runs,S.runs,zhb_];congr 1;funext e;exact zjL_ a e
theorem zpn_ (h:y.ev G env=.ok d e)(hp:pn i=uQ)(hi:i<e.length):S.runs G pn (.asg i y::ss) env=S.runs G pn ss (e.set i (uN d)):=by
 rw[S.runs,S.run,h];show seqM (if pn i=uQ/\i<e.length then .ok .nx (e.set i (uN d))else .no) _=_
 rw[if_pos ⟨hp,hi⟩];rfl
theorem zo4_ (h:y.ev G env=.ok d e):S.runs G pn (.ex y::ss) env=S.runs G pn ss e:=by
 rw[S.runs,S.run,h];rfl
theorem zjY_ (h:y.ev G env=.ok d e):S.runs G pn (.ret y::ss) env=.ok (.rt d) e:=by
 rw[S.runs,S.run,h];rfl
theorem zdJ_ (h:(c.ev G env).bind blD=.ok uP):S.runs G pn (.if_ c a b::ss) env=S.runs G pn (a++ss) env:=by
 rw[S.runs,S.run,h,<- zjL_];rfl
theorem zb6_ (h:(c.ev G env).bind blD=.ok uQ):S.runs G pn (.if_ c a b::ss) env=S.runs G pn (b++ss) env:=by
 rw[S.runs,S.run,h,<- zjL_];rfl
theorem zex_ (h:D.colds ds=uP)(i:Nat):pins ds i=uQ:=by
 unfold pins;induction ds generalizing i with
 |nil=>rfl
 |cons d ds ih=>
  unfold D.colds at h;rw[kJ]at h;cases i with
  |zero=>show(!d.cold)=uQ;rw[h.1];rfl
  |succ i=>exact ih h.2 i
theorem za2_:∀{ds:List D}{env:Env},D.colds ds=uP->outs ds env=ds
 |[],_,_=>by unfold outs;rfl
 |d::ds,[],h=>by
  unfold D.colds at h;rw[kJ]at h;unfold outs;rw[if_pos h.1,za2_ h.2]
 |d::ds,o::env,h=>by
  unfold D.colds at h;rw[kJ]at h;unfold outs;rw[if_pos h.1,za2_ h.2]
theorem zmi_ {f:Fn}{ds':List D}(h:f ds=.ok d ds'):f.val ds=.ok d:=by unfold Fn.val;rw[h]
theorem zgm_ (ns:List Int):(scr ns).vw=scr ns:=by unfold scr D.vw D.imm;rfl
theorem zol_ (i:Int):(D.int i).vw=.int i:=rfl
theorem zo1_ (l:List Nat):(D.str l).vw=.str l:=rfl
theorem bl_vw (b:Bool):(D.bl b).vw=.bl b:=rfl
theorem zo6_:D.non.vw=.non:=rfl
theorem zf0_ (ns:List Int):lenA [scr ns]=.ok (.int ns.length):=by
 show Mo.ok (D.int ((ns.map D.int).length:Nat))=_
 rw[kX]
theorem zkm_ {α:Type}{l:List α}{i:Int}{a:α}(h0:0<=i)(h:l[i.toNat]?=uN a):atI l i=uN a:=by
 have hi:=(lD.mp h).1;unfold atI ixN;rw[if_pos h0,if_pos (by omega)]
 exact h
section
variable (i j:Int)
theorem vd_lt:ltD (.int i) (.int j)=.ok (.bl (decide (i<j))):=rfl
theorem vd_le:leD (.int i) (.int j)=.ok (.bl (decide (i<=j))):=rfl
theorem vd_gt:gtD (.int i) (.int j)=.ok (.bl (decide (j<i))):=rfl
theorem vd_ge:geD (.int i) (.int j)=.ok (.bl (decide (j<=i))):=rfl
theorem zoi_:addA (.int i) (.int j)=.ok (.int (i+j)):=rfl
theorem zpT_:subD (.int i) (.int j)=.ok (.int (i-j)):=rfl
theorem zoE_:negD (.int i)=.ok (.int (-i)):=rfl
theorem vd_bl (b:Bool):blD (.bl b)=.ok b:=rfl
theorem vd_int:intD (.int i)=.ok i:=rfl
theorem zoZ_ (l:List Nat):strOf (.str l)=.ok l:=rfl
end
theorem vd_mod {i j:Int}(h:0<j):modD (.int i) (.int j)=.ok (.int (i % j)):=by
 show Mo.grd _ _=_
 exact if_pos h
theorem zo8_ {i j:Int}(h:CDivG i j):divD (.int i) (.int j)=.ok (.int (i / j)):=by
 show Mo.grd _ _=_
 exact if_pos h
theorem zin_ {i j:Int}(h:IntMulOk i j):mulD (.int i) (.int j)=.ok (.int (i*j)):=by
 show Mo.grd _ _=_
 exact if_pos h
theorem vd_ix {ns:List Int}{k:Int}(h0:0<=k)(h:k<ns.length):ixA (scr ns) (.int k)=.ok (.int (ns.getD k.toNat 0)):=by
 show Mo.opt ((atI (ns.map D.int) k).map D.vw)=_
 have hk:k.toNat<ns.length:=by lia
 rw[zkm_ h0 (a:=.int (ns.getD k.toNat 0)) (by rw[lu,kY hk];simp[lM,hk])]
 rfl
end
section
variable {α β s:Type}{G:Gi}{pn:Nat->Bool}{env e:Env}{d x y:D}
theorem zfb_ (g:Env->Mr Env Fl):seqM (.ok .nx e) g=g e:=of_eq_true (eq_self _)
theorem zoQ_ (g:Env->Mr Env Fl):seqM (.ok (.rt d) e) g=.ok (.rt d) e:=of_eq_true (eq_self _)
theorem sq_ct (g:Env->Mr Env Fl):seqM (.ok .ct e) g=.ok .ct e:=of_eq_true (eq_self _)
theorem sq_ex (c:Xc)(g:Env->Mr Env Fl):seqM (.ex c e) g=.ex c e:=of_eq_true (eq_self _)
theorem zjt_ (a:α)(t:s)(k:α->s->Mr s β):(Mr.ok a t).bind k=k a t:=of_eq_true (eq_self _)
theorem mr_ex (c:Xc)(t:s)(k:α->s->Mr s β):(Mr.ex c t:Mr s α).bind k=.ex c t:=of_eq_true (eq_self _)
theorem ze9_ (a:α)(k:α->Mo β):(Mo.ok a).bind k=k a:=of_eq_true (eq_self _)
theorem zmZ_ (a:α):Mo.opt (uN a)=.ok a:=of_eq_true (eq_self _)
theorem ifM_t (r1 r2:Mr Env Fl):ifM env (.ok uP) r1 r2=r1:=of_eq_true (eq_self _)
theorem ifM_f (r1 r2:Mr Env Fl):ifM env (.ok uQ) r1 r2=r2:=of_eq_true (eq_self _)
theorem and_t (r:Mo D):andD (.bl uP) r=r:=of_eq_true (eq_self _)
theorem and_f (r:Mo D):andD (.bl uQ) r=.ok (.bl uQ):=of_eq_true (eq_self _)
theorem or_t (r:Mo D):orD (.bl uP) r=.ok (.bl uP):=of_eq_true (eq_self _)
theorem or_f (r:Mo D):orD (.bl uQ) r=r:=of_eq_true (eq_self _)
theorem noE (o:Fl):noEx (.ok o e)=.ok o e:=of_eq_true (eq_self _)
theorem ag_d (d:D)(gs:List Ag):dsOf (.d d::gs)=(dsOf gs).map λds=>d::ds:=of_eq_true (eq_self _)
theorem ag_0:dsOf []=uN []:=of_eq_true (eq_self _)
theorem znA_ (i:Nat)(hp:pn i=uQ)(hi:i<e.length):asgM pn i (.ok d e)=.ok .nx (e.set i (uN d)):=by
 unfold asgM;rw[zjt_,if_pos ⟨hp,hi⟩]
theorem zoY_:dropM (.ok d e)=.ok .nx e:=of_eq_true (eq_self _)
theorem zoh_:retM (.ok d e)=.ok (.rt d) e:=of_eq_true (eq_self _)
theorem get_0 (l:Env):getE (uN d::l) 0=.ok d.vw:=of_eq_true (eq_self _)
theorem get_s (o:Option D)(l:Env)(n:Nat):getE (o::l) (n+1)=getE l n:=of_eq_true (eq_self _)
theorem mv_0 (l:Env):mvM (uN d::l) 0=.ok d (uO::l):=of_eq_true (eq_self _)
theorem mv_s (o:Option D)(l:Env)(n:Nat):mvM (o::l) (n+1)=match mvM l n with |.ok d e=>.ok d (o::e)|.ex c e=>.ex c (o::e)|.no=>.no:=by
 unfold mvM;rw[nz]
 match l[n]? with
 |some (uN d)=>rfl
 |some uO=>rfl
 |none=>rfl
def keep (m:Mo D)(env:Env)(u:List Nat):Mr Env D:=match m with
 |.ok d=>if d.new then .ok d env else .ok d (frzE env u)
 |.ex c=>.ex c env
 |.no=>.no
theorem zjm_ (x:X):stX G env x=keep (x.ev G env) env x.uses:=rfl
theorem zab_ (u:List Nat)(hn:d.new=uP):keep (.ok d) env u=.ok d env:=if_pos hn
theorem zlA_ (u:List Nat)(hn:d.new=uQ):keep (.ok d) env u=.ok d (frzE env u):=if_neg (by rw[hn];decide)
section
variable (neg:Bool)(lo hi:Option Int)
theorem fz_ix:ixA (.fz d) x=ixA d x:=of_eq_true (eq_self _)
theorem fz_in:inA neg x (.fz d)=inA neg x d:=of_eq_true (eq_self _)
theorem zpM_:lenA [.fz d]=lenA [d]:=of_eq_true (eq_self _)
theorem znv_:addA (.fz d) x=addA d x:=of_eq_true (eq_self _)
theorem znE_:addA x (.fz d)=addA x d:=of_eq_true (eq_self _)
theorem fz_sl:slA (.fz d) lo hi=slA d lo hi:=of_eq_true (eq_self _)
theorem zqq_ (cs:List Str)(f:Str):fldD cs f (.fz d)=fldD cs f d:=of_eq_true (eq_self _)
theorem zit_:listA [.fz d]=listA [d]:=of_eq_true (eq_self _)
theorem znw_:walkA [.fz d]=walkA [d]:=of_eq_true (eq_self _)
theorem zqf_:allD [.fz d]=allD [d]:=of_eq_true (eq_self _)
theorem zmX_:sortI [.fz d]=sortI [d]:=of_eq_true (eq_self _)
theorem fz_is:isD neg (.fz d) x=isD neg d x:=of_eq_true (eq_self _)
theorem zqs_ (n:String):isaD n (.fz d)=isaD n d:=of_eq_true (eq_self _)
theorem fz_bl:blD (.fz d)=blD d:=of_eq_true (eq_self _)
theorem zqM_:intD (.fz d)=intD d:=of_eq_true (eq_self _)
theorem zpD_:revD [.fz d]=revD [d]:=of_eq_true (eq_self _)
theorem fz_rv:rvD (.fz d)=rvD d:=of_eq_true (eq_self _)
theorem zm9_:zipD [.fz d,x]=zipD [d,x]:=of_eq_true (eq_self _)
theorem znO_:zipD [x,.fz d]=zipD [x,d]:=of_eq_true (eq_self _)
theorem zl1_:enumD [.fz d]=enumD [d]:=of_eq_true (eq_self _)
theorem zox_ (n:Nat):eqT n (.fz d) x=eqT n d x:=by cases n<;>rfl
theorem ziV_ (n:Nat):eqT n x (.fz d)=eqT n x d:=by cases n<;>rfl
theorem fz_eq:eqD neg (.fz d) x=eqD neg d x:=by unfold eqD;rw[zox_]
theorem zqH_:eqD neg x (.fz d)=eqD neg x d:=by unfold eqD;rw[ziV_]
theorem fz_vw (h:d.imm=uQ):(D.fz d).vw=.fz d:=by unfold D.vw;rw[if_neg];rw[show(D.fz d).imm=d.imm from by rw[D.imm]];rw[h];decide
end
theorem zpr_ (i:Int):X.ev G env (.k (.int i))=.ok (.int i):=rf_
theorem zn2_ (l:List Nat):X.ev G env (.k (.str l))=.ok (.str l):=rf_
theorem xk_bl (b:Bool):X.ev G env (.k (.bl b))=.ok (.bl b):=rf_
theorem zpu_:X.ev G env (.k .non)=.ok .non:=rf_
theorem zqU_ (n:Str)(i:Int):X.ev G env (.g n (.int i))=.ok (.int i):=rf_
theorem zqt_ (n:Str)(l:List Nat):X.ev G env (.g n (.str l))=.ok (.str l):=rf_
theorem or_b (a b:Bool):orD (.bl a) (.ok (.bl b))=.ok (.bl (a ||b)):=by cases a<;>rfl
theorem and_b (a b:Bool):andD (.bl a) (.ok (.bl b))=.ok (.bl (a && b)):=by cases a<;>rfl
theorem min_i (i j:Int):minD [.int i,.int j]=.ok (.int (min i j)):=of_eq_true (eq_self _)
theorem zi2_ {i j:Int}(h0:0<j)(h1:j<1073741824):divD (.int i) (.int j)=.ok (.int (i / j)):=zo8_ (zmJ_ h0 (by lia))
theorem zfg_ {i j:Int}(h0 : -18446744073709551616<i)(h1:i<18446744073709551616):mulD (.int i) (.int j)=.ok (.int (i*j)):=zin_ (zdv_ (.inl ⟨by lia,by lia⟩))
theorem zk7_ {i j:Int}(h0 : -18446744073709551616<j)(h1:j<18446744073709551616):mulD (.int i) (.int j)=.ok (.int (i*j)):=zin_ (zdv_ (.inr ⟨by lia,by lia⟩))
theorem nw_bl (b:Bool):(D.bl b).new=uP:=by rw[D.new]<;>simp
theorem zmy_ (i:Int):(D.int i).new=uP:=by rw[D.new]<;>simp
theorem znL_ (l:List Nat):(D.str l).new=uP:=by rw[D.new]<;>simp
theorem zpg_:D.non.new=uP:=by rw[D.new]<;>simp
theorem zpV_ (k:Nd)(ds:List D):(D.nd k ds).new=D.news ds:=by rw[D.new]
theorem nw_c (d:D)(ds:List D):D.news (d::ds)=(d.new && D.news ds):=by rw[D.news]
theorem nw_0:D.news []=uP:=by rw[D.news]
section
variable (a b c x:X)(as:List X)
theorem xv_v (i:Nat):X.ev G env (.v i)=getE env i:=rf_
theorem xv_gt (n:Str)(ls:List (List Nat))(h:(n,ls)∈G.kt):X.ev G env (.gt n ls)=.ok (.nd .ktup (ls.map .str)):=by rw[X.ev,if_pos h]
theorem zoq_ (o:Bo):X.ev G env (.bin o a b)=(a.ev G env).bind λx=>(b.ev G env).bind λy=>o.f x y:=rf_
theorem xv_ch (o o':Bo):X.ev G env (.ch o o' a b c)=(a.ev G env).bind λx=>(b.ev G env).bind λy=>chD o o' x y (c.ev G env):=rf_
theorem zqB_ (o o' aJ:Bo):X.ev G env (.ch3 o o' aJ a b c x)=(a.ev G env).bind λu=>(b.ev G env).bind λy=>ch3D o o' aJ u y (c.ev G env) (x.ev G env):=rf_
theorem zn4_:X.ev G env (.and a b)=(a.ev G env).bind λx=>andD x (b.ev G env):=rf_
theorem xv_or:X.ev G env (.or a b)=(a.ev G env).bind λx=>orD x (b.ev G env):=rf_
theorem zpt_:X.ev G env (.not a)=(a.ev G env).bind λx=>(blD x).bind λb=>.ok (.bl (!b)):=rf_
theorem zql_:X.ev G env (.neg a)=(a.ev G env).bind negD:=rf_
theorem zqQ_:X.ev G env (.ifx c a b)=((c.ev G env).bind blD).bind λt=>if t=uP then a.ev G env else b.ev G env:=rf_
theorem xv_sl (lo hi:Option X):X.ev G env (.sl a lo hi)=(a.ev G env).bind λx=>(X.evO G env lo).bind λl=>(X.evO G env hi).bind λh=>slA x l h:=rf_
theorem zpl_:X.ev G env (.tup as)=(X.evs G env as).bind λds=>.lim ds.length (.ok (.nd .tup ds)):=rf_
theorem zqw_:X.ev G env (.lst as)=(X.evs G env as).bind λds=>.lim ds.length (.ok (.nd .lst ds)):=rf_
theorem zqI_ (f:Str):X.ev G env (.fld a f)=(a.ev G env).bind (fldD G.cs f):=rf_
theorem zmB_ (f:Fn)(n:Str):X.ev G env (.call f n as)=(X.evs G env as).bind λds=>f.val (ds.map .vw):=rf_
theorem xv_bf (o:Bf):X.ev G env (.bf o as)=(X.evs G env as).bind o.f:=rf_
theorem zkR_ (o:Sm):X.ev G env (.sm o a as)=(a.ev G env).bind λd=>(strOf d).bind λl=>(X.evs G env as).bind λc=>o.f l c:=rf_
theorem zoN_ {p:Str}{fr:List (Str×Nat)}{i:Nat}:X.ev G env (.srt p fr i a)=(getE env i).bind λd=>(strL d).bind λls=>.grd (ls.length<64) ((compM (λx=>cond1 (.ok uP) (a.ev G (setE (cE [p] fr env) [0] x))) (ls.map λl=>[D.str l]) []).bind λks=>srtK ls ks):=rf_
theorem znX_ (f:Fn)(n:Str)(dv:List D):X.ev G env (.mkd f n as dv)=if(flats dv).isSome then(X.evs G env as).bind λds=>makeD f n (ds++dv)else .no:=rf_
theorem zkE_:X.ev G env (.ds1 a b)=(a.ev G env).bind λx=>(b.ev G env).bind λy=>dspD [x,y]:=rf_
theorem xv_lr:X.ev G env (.lr a b)=(a.ev G env).bind λx=>(b.ev G env).bind λy=>lrD x y:=rf_
theorem zqS_ (n:String):X.ev G env (.isa a n)=(a.ev G env).bind (isaD n):=rf_
theorem zoC_:X.ev G env .dct0=.ok (.nd (.dct []) []):=rf_
theorem xs_0:X.evs G env []=.ok []:=rf_
theorem xs_c:X.evs G env (a::as)=(a.ev G env).bind λd=>(X.evs G env as).bind λds=>.ok (d::ds):=rf_
theorem xo_0:X.evO G env uO=.ok uO:=rf_
theorem xo_s:X.evO G env (uN a)=(a.ev G env).bind λd=>(intD d).bind λi=>.ok (uN i):=rf_
theorem xt_0:X.evT G env uO=.ok uP:=rf_
theorem xt_s:X.evT G env (uN a)=(a.ev G env).bind blD:=rf_
end
def En (r:Mr Env Fl)(Q:Fl->Env->Prop):Prop:=∃o e,r=.ok o e/\Q o e
theorem zfG_ {l:List β}{enc:β->List D}{is:List Nat}{body k:Env->Mr Env Fl}{Q:Fl->Env->Prop}(P:List β->Env->Prop)(h0:P [] env)
  (hs:∀d x r e,l=d++x::r->P d e->∃e',setG pn e is (enc x)=uN e'/\En (body e') λo b9=>((o=.nx\/o=.ct)/\P (d++[x]) b9)\/((∃v,o=.rt v)/\Q o b9))
  (hk:∀e,P l e->En (k e) Q):En (seqM (forM (λe x=>match setG pn e is x with |some e'=>body e' |none=>.no) (l.map enc) env) k) Q:=by
 suffices main:∀(r d:List β) (e:Env),l=d++r->P d e->En (forM (λe x=>match setG pn e is x with |some e'=>body e' |none=>.no) (r.map enc) e) (λo e=>(o=.nx/\P l e)\/((∃v,o=.rt v)/\Q o e)) by
  obtain⟨o,e,h,q⟩:=main l [] env rfl h0;rw[h];rcases q with⟨rfl,q⟩|⟨⟨v,rfl⟩,q⟩
  ·rw[zfb_];exact hk e q
  ·rw[zoQ_];exact⟨_,_,rfl,q⟩
 intro r;induction r with
 |nil=>intro d e hl hp;rw[oO]at hl;subst hl;exact⟨.nx,e,rfl,.inl ⟨rfl,hp⟩⟩
 |cons x r ih=>
  intro d e hl hp;obtain⟨e',h1,o,b9,h2,q⟩:=hs d x r e hl hp;rw[lj];unfold forM;simp only[h1,h2];rcases q with⟨h |h,q⟩|⟨⟨v,h⟩,q⟩
  ·subst h;exact ih (d++[x]) b9 (by rw[hl,nu];rfl) q
  ·subst h;exact ih (d++[x]) b9 (by rw[hl,nu];rfl) q
  ·subst h;exact⟨_,_,rfl,.inr ⟨⟨v,rfl⟩,q⟩⟩
theorem zgU_ {l:List β}{enc:β->List D}{ik:Ik}{x:X}{tg:Tg}{b ss:List S}{Q:Fl->Env->Prop}{e1:Env}{items:List D}(P:List β->Env->Prop)(hg:keep (x.ev G env) env x.uses=.ok d e1)(hi:ik.f [d]=.ok items)(ht:tgsD tg items=uN (l.map enc))(h0:P [] e1)
  (hs:∀d x r e,l=d++x::r->P d e->∃e',setG pn e tg.is (enc x)=uN e'/\En (S.runs G pn b e') λo b9=>((o=.nx\/o=.ct)/\P (d++[x]) b9)\/((∃v,o=.rt v)/\Q o b9))
  (hk:∀e,P l e->En (S.runs G pn ss e) Q):En (S.runs G pn (.for_ ik [x] tg b::ss) env) Q:=by
 have e0:evG G env ([x].map .x)=.ok [.d d] e1:=by
  show((stX G env x).bind λd e=>(evG G e []).bind λgs e'=>.ok (.d d::gs) e')=_
  rw[zjm_,hg];rfl
 rw[S.runs,S.run,e0];have e1:forS pn ik tg (.ok [.d d] e1) (λe=>S.runs G pn b e)=forM (λe x=>match setG pn e tg.is x with |some e'=>S.runs G pn b e' |none=>.no) (l.map enc) e1:=by
  unfold forS;show(match ik.f [d]with |.ok items=>_ |_=>_)=_
  rw[hi];show(match tgsD tg items with |some xs=>_ |none=>_)=_
  rw[ht]<;>rfl
 rw[e1];exact zfG_ P h0 hs hk
theorem zW_ {y:Y}{i:Nat}{ss:List S}(h:y.ev G env=.ok d env)(hp:pn i=uQ)(hi:Nat.ble (i+1) env.length=uP:=by rfl):S.runs G pn (.asg i y::ss) env=S.runs G pn ss (env.set i (uN d)):=zpn_ h hp (nY hi)
theorem zcj_ {l:List β}{enc:β->List D}{ik:Ik}{x:X}{tg:Tg}{b ss:List S}{Q:Fl->Env->Prop}{items:List D}(P:List β->Env->Prop)(hg:keep (x.ev G env) env x.uses=.ok d env)(hi:ik.f [d]=.ok items)(ht:tgsD tg items=uN (l.map enc))(h0:P [] env)
  (hs:∀d x r e,l=d++x::r->P d e->∃e',setG pn e tg.is (enc x)=uN e'/\En (S.runs G pn b e') λo b9=>((o=.nx\/o=.ct)/\P (d++[x]) b9)\/((∃v,o=.rt v)/\Q o b9))
  (hk:∀e,P l e->En (S.runs G pn ss e) Q):En (S.runs G pn (.for_ ik [x] tg b::ss) env) Q:=zgU_ P hg hi ht h0 hs hk
theorem zes_ {l:List β}{enc:β->D}{i:Nat}{a:Env}{b:Env}{o:Option D}{body k:Env->Mr Env Fl}{Q:Fl->Env->Prop}(hi:a.length=i)(hp:pn i=uQ)
  (hs:∀x∈l,En (body (a++uN (enc x).vw::b)) λo e=>o=.nx/\e=a++uN (enc x).vw::b)
  (hk:∀o,En (k (a++o::b)) Q):En (seqM (forM (λe x=>match setG pn e [i] x with |some e'=>body e' |none=>.no) (l.map λx=>[enc x]) (a++o::b)) k) Q:=by
 refine zfG_ (enc:=λx=>[enc x]) (λ_ e=>∃o,e=a++o::b) ⟨o,rfl⟩ (λd x r e hl he=>?_) (λe he=>?_)
 ·obtain⟨o,rfl⟩:=he
  refine⟨a++uN (enc x).vw::b,?_,?_⟩
  ·unfold setG
   rw[if_pos ⟨hp,by rw[lE,lg];lia⟩]
   unfold setG;rw[<- hi,List.set_append_right _ _ (kZ _),tN,oM]
  ·obtain⟨o',e',h1,rfl,rfl⟩:=hs x (by rw[hl];simp)
   exact⟨_,_,h1,.inl ⟨.inl rfl,_,rfl⟩⟩
 ·obtain⟨o,rfl⟩:=he;exact hk o
theorem frz_0 (l:Env):frz1 (uN d::l) 0=uN d.vw::l:=of_eq_true (eq_self _)
theorem frz_n (l:Env):frz1 (uO::l) 0=uO::l:=of_eq_true (eq_self _)
theorem frz_s (o:Option D)(l:Env)(n:Nat):frz1 (o::l) (n+1)=o::frz1 l n:=by
 unfold frz1;rw[nz]
 match l[n]? with
 |some (uN d)=>rfl
 |some uO=>rfl
 |none=>rfl
def atS (env:Env)(i:Nat):Option D:=match env[i]? with |some o=>o |none=>uO
theorem atS_0 (o:Option D)(l:Env):atS (o::l) 0=o:=of_eq_true (eq_self _)
theorem atS_s (o:Option D)(l:Env)(n:Nat):atS (o::l) (n+1)=atS l n:=by unfold atS;rw[nz]
theorem zkQ_ (i:Nat):atE env (i,[])=atS env i:=by
 unfold atE atS
 match env[i]? with
 |some (uN d)=>show d.at []=_;rw[D.at]
 |some uO=>rfl
 |none=>rfl
theorem zky_ {i:Nat}{c c':D}(h:atS env i=uN c):putE env (i,[]) c'=env.set i (uN c'):=by
 unfold putE;unfold atS at h
 match e:env[i]?,h with
 |some (uN d),_=>show env.set i (uN (d.put [] c'))=_;rw[D.put]
def call1 (f:Fn)(i:Nat)(ds:List D)(e:Env):Mr Env D:=match atS e i with
 |some c=>(match f (c::ds)with
  |.ok r (c'::_)=>.ok r (e.set i (uN c'))
  |.ok r []=>.ok r e
  |.ex x (c'::_)=>.ex x (e.set i (uN c'))
  |.ex x []=>.ex x e
  |.no=>.no)
 |none=>.no
def agD (ds:List D):List Ag:=ds.map .d
theorem zm0_:∀(ds:List D),resolve e (agD ds)=uN ds
 |[]=>rfl
 |d::ds=>by show(resolve e (agD ds)).map _=_;rw[zm0_ ds];rfl
theorem zmz_ (q:Pl):∀(ds:List D),apartOf q (agD ds)=uP
 |[]=>rfl
 |d::ds=>zmz_ q ds
theorem zmm_:∀(ds:List D),apartAll (agD ds)=uP
 |[]=>rfl
 |d::ds=>zmm_ ds
theorem zka_:∀(ds ds':List D),restE e (agD ds) ds'=e
 |[],ds'=>by cases ds'<;>rfl
 |d::ds,[]=>rfl
 |d::ds,_::ds'=>zka_ ds ds'
theorem ziS_ {f:Fn}{i:Nat}{ds:List D}:callG f (.l (i,[])::agD ds) e=call1 f i ds e:=by
 unfold callG;show(match(atE e (i,[])).bind λc=>(resolve e (agD ds)).map λds=>c::ds with |some ds'=>_ |none=>_)=_
 rw[zkQ_,zm0_];unfold call1;cases h:atS e i with
 |none=>rfl
 |some c=>
  show(if(apartOf (i,[]) (agD ds) && apartAll (agD ds))=uP then _ else _)=_
  rw[zmz_,zmm_,if_pos (show(uP && uP)=uP from rfl)]
  dsimp only;cases f (c::ds)with
  |no=>rfl
  |ok r ds'=>
   cases ds' with
   |nil=>rfl
   |cons c' ds'=>show Mr.ok r (putE (restE e (agD ds) ds') (i,[]) c')=_;rw[zka_,zky_ h]
  |ex x ds'=>
   cases ds' with
   |nil=>rfl
   |cons c' ds'=>show Mr.ex x (putE (restE e (agD ds) ds') (i,[]) c')=_;rw[zka_,zky_ h]
def onS (T:String)(env:Env)(i:Nat)(m:Mr Env D):Mr Env D:=match atS env i with |some c=>if isK T c=uP then m else .no |none=>.no
theorem zma_ (i:Nat)(as:List A)(T:String)(k:Pl->List Ag->Env->Mr Env D):lentG G env (.v i) as (isK T) k=onS T env i ((evG G env as).bind (k (i,[]))):=by
 unfold lentG onS;have e:Pt.ev G env (.v i)=if(atS env i).isSome then Mo.ok (i,[])else Mo.no:=by rw[Pt.ev,zkQ_]
 rw[e];cases h:atS env i with
 |none=>rfl
 |some c=>
  have e2:=zkQ_ (env:=env) i;rw[h]at e2;simp only[rq,if_true,e2]
theorem bm_v (o:Bm)(i:Nat)(x:X):Y.ev G (.bm o (.v i) [.x x]) env=onS o.ty env i ((keep (x.ev G env) env x.uses).bind λd e=>call1 o.f i [d] e):=by
 rw[Y.ev,zma_];congr 1;show((stX G env x).bind λd e=>(evG G e []).bind λgs e'=>.ok (.d d::gs) e').bind _=_
 rw[zjm_];cases keep (x.ev G env) env x.uses with
 |ok d e=>exact ziS_ (ds:=[d])
 |ex c e=>rfl
 |no=>rfl
theorem sd_v (i:Nat)(k v:X):Y.ev G (.sd (.v i) k v) env=onS "dict" env i ((keep (k.ev G env) env k.uses).bind λa e=>(keep (v.ev G e) e v.uses).bind λd e'=>call1 setdF i [a,d] e'):=by
 rw[Y.ev,zma_];congr 1;show((stX G env k).bind λa e=>((stX G e v).bind λd e'=>(evG G e' []).bind λgs e'=>.ok (.d d::gs) e').bind λgs e'=>.ok (.d a::gs) e').bind _=_
 rw[zjm_];cases keep (k.ev G env) env k.uses with
 |ok a e=>
  rw[zjt_,zjt_,zjm_];cases keep (v.ev G e) e v.uses with
  |ok d e'=>exact ziS_ (ds:=[a,d])
  |ex c e=>rfl
  |no=>rfl
 |ex c e=>rfl
 |no=>rfl
theorem zh1_ (x:X):Y.ev G (.pu x) env=keep (x.ev G env) env x.uses:=by rw[Y.ev,zjm_]
theorem ye_mv (i:Nat):Y.ev G (.mv i) env=mvM env i:=by rw[Y.ev]
theorem zqK_ (y:Y):Y.ev G (.not y) env=(y.ev G env).bind λd e=>moTo ((blD d).bind λb=>.ok (.bl (!b))) e:=by rw[Y.ev]
theorem zqi_ (o:Bo)(y z:Y):Y.ev G (.bin o y z) env=(y.ev G env).bind λd e=>(z.ev G e).bind λd2 e2=>moTo (o.f d d2) e2:=by rw[Y.ev]
theorem to_ok (a:α):moTo (.ok a) e=.ok a e:=of_eq_true (eq_self _)
theorem zcK_ {i:Nat}{x:X}{d:D}{n C:Str}{ns:List Str}{xs:List D}(hx:x.ev G env=.ok d)(hd:d.new=uP)(hc:atS env i=uN (.nd (.obj C ns) xs))(hC:C∈G.cs)(hl:ns.length<1000)(hn:n∉ns):setFM G n (.v i) x env=.ok .nx (env.set i (uN (.nd (.obj C (ns++[n])) (xs++[d])))):=by
 unfold setFM;have e:Pt.ev G env (.v i)=Mo.ok (i,[]):=by rw[Pt.ev,zkQ_,hc];rfl
 have e1:evG G env [.x x,.l (.v i)]=.ok [.d d,.l (i,[])] env:=by
  unfold evG;rw[zjm_,hx,zab_ _ hd,zjt_];unfold evG;rw[e];rfl
 rw[e1,zjt_];have e3:clsAt env (i,[])=uN C:=by unfold clsAt;rw[zkQ_,hc]
 simp only[e3,if_pos hC];unfold callG;have e2:resolve env [.d d,.l (i,[])]=uN [d,.nd (.obj C ns) xs]:=by
  show((atE env (i,[])).bind λc=>uN [c]).map (λds=>d::ds)=_
  rw[zkQ_,hc];rfl
 rw[e2];have hf:setFF n [d,.nd (.obj C ns) xs]=.ok .non [.gone,.nd (.obj C (ns++[n])) (xs++[d])]:=by
  unfold setFF;simp only[if_pos hl,if_neg hn]
 show dropM (if _ then(match setFF n [d,.nd (.obj C ns) xs]with |.ok r ds'=>Mr.ok r (restE env [.d d,.l (i,[])] ds')|.ex x ds'=>_ |.no=>_)else _)=_
 rw[hf,if_pos (show apartAll _=uP from rfl)]
 show Mr.ok Fl.nx (putE env (i,[]) _)=_
 rw[zky_ hc]
theorem fn_en {ds:List D}{n m:Nat}{body:List S}(hl:ds.length=n)(hc:D.colds ds=uP)(h:∀pn,(∀i,pn i=uQ)->En (S.runs G pn body (ds.map uN++lJ m uO)) λo _=>o=.rt d\/(o=.nx/\d=.non)):fnOf G n m body ds=.ok d ds:=by
 obtain⟨o,e,h,q⟩:=h _ (zex_ hc);unfold fnOf;rw[if_pos hl,h];rcases q with rfl |⟨rfl,rfl⟩
 ·show Mr.ok d (outs ds e)=_;rw[za2_ hc]
 ·show Mr.ok D.non (outs ds e)=_;rw[za2_ hc]
theorem zaP_ {ds:List D}{n m:Nat}{body:List S}(hl:ds.length=n)(hc:D.colds ds=uP)(h:∀pn,(∀i,pn i=uQ)->En (S.runs G pn body (ds.map uN++lJ m uO)) λo _=>o=.rt d\/(o=.nx/\d=.non)):(fnOf G n m body).val ds=.ok d:=zmi_ (fn_en hl hc h)
theorem zoU_ {ds:List D}{n m:Nat}{body:List S}(hl:ds.length=n)(h:S.runs G (pins ds) body (ds.map uN++lJ m uO)=.ok .nx e):fnOf G n m body ds=.ok .non (outs ds e):=by
 unfold fnOf;rw[if_pos hl,h]
end
class Im {α:Type}(g:α->D):Prop where
 im:∀x,(g x).imm=uP
section
variable {α:Type}{g:α->D}[Im g]{l:List α}{x:α}
theorem zoK_ (x:α):(g x).vw=g x:=by unfold D.vw;rw[if_pos (Im.im x)]
theorem zkK_ (l:List α):D.imms (l.map g)=uP:=by
 induction l with
 |nil=>rw[nJ,D.imms]
 |cons x l ih=>rw[lj,D.imms,Im.im x,ih];rfl
theorem zj5_ (l:List α):(l.map g).map D.vw=l.map g:=by
 rw[l8];exact nG λx _=>zoK_ x
mutual
theorem zgQ_:∀(d:D),d.imm=uP->d.new=uP
 |.non,_=>by rw[D.new]<;>simp
 |.bl _,_=>by rw[D.new]<;>simp
 |.int _,_=>by rw[D.new]<;>simp
 |.str _,_=>by rw[D.new]<;>simp
 |.nd .tup ds,h=>by rw[D.imm]at h;rw[D.new];exact zcH_ ds h
 |.nd .ktup ds,h=>by rw[D.imm]at h;rw[D.new];exact zcH_ ds h
 |.nd .lst _,h=>by simp[D.imm]at h
 |.nd .scr _,h=>by simp[D.imm]at h
 |.nd (.dct _) _,h=>by simp[D.imm]at h
 |.nd (.obj _ _) _,h=>by simp[D.imm]at h
 |.fz d,h=>by rw[D.imm]at h;rw[D.new];exact h
 |.pin _,h=>by simp[D.imm]at h
 |.gone,h=>by simp[D.imm]at h
theorem zcH_:∀(ds:List D),D.imms ds=uP->D.news ds=uP
 |[],_=>by rw[D.news]
 |d::ds,h=>by rw[D.imms,kJ]at h;rw[D.news,zgQ_ d h.1,zcH_ ds h.2];rfl
end
theorem zkj_ (x:α):(g x).new=uP:=zgQ_ _ (Im.im x)
instance:Im D.int:=⟨λ_=>rfl⟩
instance:Im D.str:=⟨λ_=>rfl⟩
instance:Im D.bl:=⟨λ_=>rfl⟩
noncomputable def LS (g:α->D)(l:List α):D:=.nd .lst (l.map g)
theorem ls_vw:(LS g l).vw=.fz (LS g l):=rfl
theorem zlz_:(D.fz (LS g l)).vw=.fz (LS g l):=fz_vw rfl
theorem zaJ_:(LS g l).new=uP:=by unfold LS;rw[D.new];exact zcH_ _ (zkK_ l)
theorem zjq_:(D.fz (LS g l)).new=uQ:=by rw[D.new];rfl
theorem zoH_:lenA [LS g l]=.ok (.int l.length):=by
 show Mo.ok (D.int ((l.map g).length:Nat))=_;rw[kX]
theorem ls_ix:ixA (LS g l) (.int i)=.opt ((atI l i).map g):=by
 show Mo.opt ((atI (l.map g) i).map D.vw)=_
 unfold atI;rw[kX];cases ixN l.length i with
 |none=>rfl
 |some k=>
  show Mo.opt (((l.map g)[k]?).map D.vw)=_
  rw[lu,Option.map_map];show _=Mo.opt ((l[k]?).map g)
  congr 2;funext x;exact zoK_ x
theorem zlu_ (lo hi:Option Int)(l:List α)(g:α->β):cutG (l.map g) lo hi=(cutG l lo hi).map g:=by
 unfold cutG;rw[kX,<- tu,<- tw]
theorem ls_sl (lo hi:Option Int):slA (LS g l) lo hi=.ok (LS g (cutG l lo hi)):=by
 show Mo.ok (D.nd .lst ((cutG (l.map g) lo hi).map .vw))=_
 rw[zlu_,zj5_];rfl
theorem zcg_:listA [LS g l]=.ok (LS g l):=by
 show Mo.ok (D.nd .lst ((l.map g).map .vw))=_;rw[zj5_];rfl
theorem zll_:walkA [LS g l]=.ok (l.map g):=of_eq_true (eq_self _)
theorem zpK_:isK "list" (LS g l)=uP:=rfl
theorem zjB_ (h:l.length<100000):appendF [LS g l,g x]=.ok .non [LS g (l++[x]),.gone]:=by
 have h2:l.length<lA:=by have:=za3_ (n:=l.length+1) (by lia);lia
 show(if(l.map g).length<lA then _ else _)=_
 rw[kX,if_pos h2];unfold LS;rw[om];rfl
theorem zmK_ (h:a.length+b.length<=100000):extendF [LS g a,LS g b]=.ok .non [LS g (a++b),.nd .lst (b.map λ_=>.gone)]:=by
 show(if(a.map g).length+(b.map g).length<=lA then Mr.ok D.non [D.nd .lst (a.map g++b.map g),D.nd .lst ((b.map g).map λ_=>D.gone)]else _)=_
 rw[kX,kX,if_pos (za3_ h),l8];unfold LS;rw[om];rfl
theorem zo0_:revD [LS g l]=.ok (l.reverse.map g):=by
 rw[r9];rfl
theorem ls_rv:rvD (LS g l)=.ok (LS g l.reverse):=by
 show Mo.ok (D.nd .lst ((l.map g).reverse.map .vw))=_
 rw[<- r9,zj5_];rfl
theorem zeb_:∀(l:List Int),flats (l.map .int)=uN (l.map .int)
 |[]=>rfl
 |i::l=>by rw[lj,flats,zeb_ l];rfl
theorem zi7_ (i:Int):∀(l:List Int),inV (.int i) (l.map .int)=decide (i∈l)
 |[]=>rfl
 |j::l=>by
  have:=zi7_ i l;unfold inV at this ⊢;rw[lj,pq,this];by_cases h:i=j
  ·subst h;simp[eqV]
  ·simp[eqV,h,pY h]
theorem ls_in (l:List Int):inA neg (.int i) (LS .int l)=.ok (.bl (if neg=uP then !decide (i∈l)else decide (i∈l))):=by
 show inSeq neg (.int i) (l.map .int)=_
 unfold inSeq;rw[zeb_];show Mo.ok (D.bl (if neg=uP then !(inV (.int i) (l.map .int))else inV (.int i) (l.map .int)))=_
 rw[zi7_]
end
section
variable {β γ:Type}{G:Gi}{env:Env}{lv:List Str}{fr:List (Str×Nat)}{ik:Ik}{src:List X}{tg:Tg}{p:β->Bool}{f:β->γ}{o:γ->D}
theorem zeK_ {F:List D->Mo (Option D)}{T:β->List D}:∀{l:List β}{acc:List D},(∀b∈l,F (T b)=.ok (if p b=uP then uN (o (f b))else uO))->acc.length+l.length<=100000->compM F (l.map T) acc=.ok (acc++((l.filter p).map f).map o)
 |[],acc,_,_=>by rw[nJ];unfold compM;simp
 |b::l,acc,h,hl=>by
  rw[lg]at hl;rw[lj];unfold compM;rw[h b lO,ze9_,List.filter_cons];cases e:p b with
  |false=>
   rw[if_neg (by decide),if_neg (by decide)]
   exact zeK_ (λy hy=>h y (lL _ hy)) (by lia)
  |true=>
   rw[if_pos rfl,if_pos rfl];show Mo.lim _ _=_
   rw[Mo.lim_ok (by lia),zeK_ (λy hy=>h y (lL _ hy)) (by rw[lE,m9];lia)]
   simp
theorem xcomp {c:Option X}{e:X}{items:List D}{T:β->List D}(l:List β)(hi:tg.is.all (·<lv.length)=uP)(hs:(X.evs G env src).bind ik.f=.ok items)(ht:tgsD tg items=uN (l.map T))(hc:∀b∈l,X.evT G (setE (cE lv fr env) tg.is (T b)) c=.ok (p b))(he:∀b∈l,p b=uP->X.ev G (setE (cE lv fr env) tg.is (T b)) e=.ok (o (f b)))(hl:l.length<=100000):X.ev G env (.comp lv fr ik src tg c e)=.ok (LS o ((l.filter p).map f)):=by
 rw[X.ev,if_pos hi,hs,ze9_,ht,zmZ_,ze9_,zeK_ (p:=p) (f:=f) (o:=o) (λb hb=>?_) (by rw[pA,rM];exact hl),ze9_]
 ·rfl
 ·unfold cond1
  rw[hc b hb,ze9_];cases dw:p b with
  |false=>rfl
  |true=>rw[if_pos rfl,if_pos rfl,he b hb dw];rfl
theorem xcompN {e:X}{items:List D}{T:β->List D}(l:List β)(hi:tg.is.all (·<lv.length)=uP)(hs:(X.evs G env src).bind ik.f=.ok items)(ht:tgsD tg items=uN (l.map T))(he:∀b∈l,X.ev G (setE (cE lv fr env) tg.is (T b)) e=.ok (o (f b)))(hl:l.length<=100000):X.ev G env (.comp lv fr ik src tg uO e)=.ok (LS o (l.map f)):=by
 rw[xcomp (p:=λ_=>uP) l hi hs ht (λ_ _=>xt_0) (λb hb _=>he b hb) hl]
 rw[qV.mpr λ_ _=>rfl]
theorem tgs_1 (ds:List D)(i:Nat):tgsD ⟨uQ,[i]⟩ ds=uN (ds.map λd=>[d]):=by
 induction ds with
 |nil=>rw[tgsD];rfl
 |cons d ds ih=>rw[tgsD,ih];rfl
theorem zba_ {g:β->D}(l:List β)(i:Nat):tgsD ⟨uQ,[i]⟩ (l.map g)=uN (l.map λd=>[g d]):=by rw[tgs_1,l8];rfl
theorem zmD_ {g h:β->D}(l:List β)(i j:Nat):tgsD ⟨uP,[i,j]⟩ (l.map λb=>.nd .tup [g b,h b])=uN (l.map λb=>[g b,h b]):=by
 induction l with
 |nil=>rw[nJ,tgsD];rfl
 |cons d ds ih=>rw[lj,tgsD,ih];rfl
end
section
variable {α:Type}{g:α->D}[Im g]{i:Int}{neg:Bool}
theorem key_i (i:Int):keyD (.int i)=uN (.inl i):=rfl
theorem zla_ (n:Nat)(i j:Int):eqT n (.int i) (.int j)=uN (decide (i=j)):=by
 cases n with
 |zero=>show uN (eqV (.int i) (.int j))=_;rfl
 |succ n=>show uN (eqV (.int i) (.int j))=_;rfl
theorem zlN_ (n:Nat)(a b:List Nat):eqT n (.str a) (.str b)=uN (decide (a=b)):=by
 have:eqV (tx a) (tx b)=decide (a=b):=by
  by_cases h:a=b
  ·subst h;simp[tx,eqV]
  ·rw[decide_eq_false h]
   show(_ == _)=uQ
   refine beq_eq_false_iff_ne.mpr λz=>h ?_
   injection z with z;exact List.toArray_inj z
 cases n with
 |zero=>show uN (eqV (tx a) (tx b))=_;rw[this]
 |succ n=>show uN (eqV (tx a) (tx b))=_;rw[this]
theorem zgO_ {f:D->D->Option Bool}[DecidableEq α]{g:α->D}(h:∀x y,f (g x) (g y)=uN (decide (x=y))):∀(a b:List α),a.length=b.length->allT f (a.map g) (b.map g)=uN (decide (a=b))
 |[],[],_=>by simp[allT]
 |x::a,y::b,hl=>by
  rw[lj,lj,allT,h,zgO_ h a b (by simpa using hl)]
  simp
theorem eq_ls [DecidableEq α]{g:α->D}{n:Nat}(h:∀x y,eqT n (g x) (g y)=uN (decide (x=y)))(a b:List α):eqT (n+1) (LS g a) (LS g b)=uN (decide (a=b)):=by
 show(if(a.map g).length=(b.map g).length then allT (eqT n) (a.map g) (b.map g)else uN uQ)=_
 rw[kX,kX];by_cases hl:a.length=b.length
 ·rw[if_pos hl,zgO_ h a b hl]
 ·rw[if_neg hl,decide_eq_false (λz=>hl (by rw[z]))]
theorem zf1_ {a b:D}{c:Bool}(h:eqT 12 a b=uN c):eqD neg a b=.ok (.bl (if neg=uP then !c else c)):=by
 unfold eqD;rw[h];rfl
theorem zlH_ (a b:List Int):eqD neg (LS .int a) (LS .int b)=.ok (.bl (if neg=uP then !decide (a=b)else decide (a=b))):=zf1_ (eq_ls (n:=11) (zla_ 11) a b)
theorem zdt_ (a b:Int):eqD neg (.int a) (.int b)=.ok (.bl (if neg=uP then !decide (a=b)else decide (a=b))):=zf1_ (zla_ 12 a b)
theorem zc9_ (a b:List Nat):eqD neg (.str a) (.str b)=.ok (.bl (if neg=uP then !decide (a=b)else decide (a=b))):=zf1_ (zlN_ 12 a b)
end
end VI
namespace K51
open PySem PySem.Spec PyProof.Rows L2 VI
open Mo renaming bind→Mb,ok→Mq
open Sl renaming fz→Zf,dead→Zd,ow→Zo
noncomputable abbrev Jx:=List Nat
abbrev Jy:=List Jx
noncomputable abbrev Qm0:List Nat:=[32,48,49,50,51,52,53,54,55,56,57,65,66,67,68,69,70,71,72,73,74,75,76,77,78,79,80,81,82,83,84,85,86,87,88,89,90]
noncomputable abbrev Qm1:List Nat:=[48,49,50,51,52,53,54,55,56,57]
noncomputable abbrev Qm2:List Nat:=[97,98,99,100,101,102,103,104,105,106,107,108,109,110,111,112,113,114,115,116,117,118,119,120,121,122]
noncomputable abbrev Qn0:List Str:=["self", "deck", "picks", "middle", "order", "works", "breaks", "sums", "figures", "board"]
abbrev Qn1:List Str:=["asking"]
noncomputable def gi:Gi:={cs:=["Asking"],kt:=[("MATING_WORDS",[[109,97,116,101,115],[119,105,116,104,111,117,116]]),("WORK_WORDS",[[112,108,117,115],[108,101,115,115],[116,105,109,101,115]])]}
def zR_:List S:=[.if_ (.bin .lt (.v 1) (.bf .len [(.v 0)])) [.ret (.pu (.bin .ix (.v 0) (.v 1)))] [],.asg 2 (.pu (.bin .add (.bin .mul (.v 1) (.n 7919)) (.n 5))),.if_ (.bin .gt (.bf .len [(.v 0)]) (.n 0)) [.asg 2 (.pu (.bin .mod (.bin .add (.bin .mul (.bin .ix (.v 0) (.bin .mod (.bin .mul (.v 1) (.n 7)) (.bf .len [(.v 0)]))) (.n 48271)) (.bin .mul (.v 1) (.n 7919))) (.n 2147483647)))] [],.ret (.pu (.bin .mod (.bin .mul (.v 2) (.v 2)) (.n 2147483629)))]
def zT_:Fn:=fnOf gi 2 1 zR_
noncomputable abbrev zbm_:=X.call zT_ "_law_cell"
noncomputable def zap_:List S:=[.asg 3 (.pu (.bin .add (.v 1) (.bin .mod (.v 0) (.v 2)))),.ret (.pu (.tup [(.v 3),(.bin .add (.v 3) (.bin .mod (.bin .div (.v 0) (.v 2)) (.bin .sub (.bin .add (.v 1) (.v 2)) (.v 3))))]))]
def zao_:Fn:=fnOf gi 3 1 zap_
noncomputable abbrev zK_:=X.call zao_ "_law_within"
def zS_:List S:=[.asg 2 (.pu (.sm .zfill (.bf .str [(.bin .mod (.v 0) (.bin .pow (.n 10) (.n 36)))]) [(.n 36)])),.asg 3 (.pu (.bin .mod (.bin .div (.v 0) (.n 4)) (.n 36))),.if_ (.bin .gt (.bin .mod (.v 0) (.n 4)) (.n 0)) [.asg 2 (.pu (.bin .add (.bin .add (.sl (.v 2) uO (uN (.v 3))) (.bin .ix (.k (.str [32,90,65])) (.bin .sub (.bin .mod (.v 0) (.n 4)) (.n 1)))) (.sl (.v 2) (uN (.bin .add (.v 3) (.n 1))) uO)))] [],.ret (.pu (.bin .add (.v 2) (.sm .zfill (.bf .str [(.v 1)]) [(.n 4)])))]
def zx_:Fn:=fnOf gi 2 2 zS_
def zat_:List S:=[.asg 2 (.pu (.n 0)),.for_ .any [(.sl (.v 0) (uN (.bin .sub (.i (.v 1) 0) (.n 1))) (uN (.i (.v 1) 1)))] ⟨uQ,[3]⟩ [.asg 2 (.pu (.bin .mul (.n 10) (.v 2))),.if_ (.bin .inn (.v 3) (.k (.str Qm1))) [.asg 2 (.pu (.bin .add (.v 2) (.sm .index (.k (.str Qm1)) [(.v 3)])))] []],.ret (.mv 2)]
def zah_:Fn:=fnOf gi 2 2 zat_
noncomputable abbrev zu_:=X.call zah_ "_law_number"
def zak_:List S:=[.asgT ⟨uP,[2,3,4,5]⟩ (.v 1),.asg 6 (.pu (.bin .add (zu_ [(.v 0),(.v 3)]) (zu_ [(.v 0),(.v 5)]))),.if_ (.bin .eq (.v 4) (.k (.str [108,101,115,115]))) [.asg 6 (.pu (.bin .sub (zu_ [(.v 0),(.v 3)]) (zu_ [(.v 0),(.v 5)])))] [],.if_ (.bin .eq (.v 4) (.k (.str [116,105,109,101,115]))) [.asg 6 (.pu (.bin .mul (zu_ [(.v 0),(.v 3)]) (zu_ [(.v 0),(.v 5)])))] [],.asg 7 (.pu (.k (.str []))),.for_ .r1 [(.bin .add (.bin .sub (.i (.v 2) 1) (.i (.v 2) 0)) (.n 1))] ⟨uQ,[8]⟩ [.asg 7 (.pu (.bin .add (.bin .ix (.k (.str Qm1)) (.bin .mod (.v 6) (.n 10))) (.v 7))),.asg 6 (.pu (.bin .div (.v 6) (.n 10)))],.ret (.pu (.bin .add (.bin .add (.sl (.v 0) uO (uN (.bin .sub (.i (.v 2) 0) (.n 1)))) (.v 7)) (.sl (.v 0) (uN (.i (.v 2) 1)) uO)))]
def zH_:Fn:=fnOf gi 2 7 zak_
noncomputable def zbO_:List S:=[.ret (.pu (.ifx (.bin .is (.v 0) (.k .non)) (.lst []) (.bf .list [(.v 0)])))]
def za5_:Fn:=fnOf gi 1 0 zbO_
noncomputable abbrev zbU_:=X.call za5_ "own_list"
noncomputable def zeh_:List S:=[.if_ (.not (.v 0)) [.never] []]
def zcs_:Fn:=fnOf gi 2 0 zeh_
noncomputable abbrev zp_:=X.call zcs_ "ask_for"
def zO_:List S:=[.ex (.pu (zp_ [(.bin .le (.bf .len [(.fld (.v 0) "picks")]) (.g "MOST_PICKS" (.int 8))),(.k (.str [97,110,32,97,115,107,105,110,103,32,104,97,115,32,56,32,112,105,99,107,115,32,97,116,32,109,111,115,116]))])),.ex (.pu (zp_ [(.bin .le (.bf .len [(.fld (.v 0) "order")]) (.g "MOST_KEYS" (.int 6))),(.k (.str [97,110,32,97,115,107,105,110,103,32,104,97,115,32,54,32,107,101,121,115,32,97,116,32,109,111,115,116]))])),.ex (.pu (zp_ [(.bin .le (.bf .len [(.fld (.v 0) "works")]) (.g "MOST_WORKS" (.int 4))),(.k (.str [97,110,32,97,115,107,105,110,103,32,104,97,115,32,52,32,119,111,114,107,115,32,97,116,32,109,111,115,116]))])),.ex (.pu (zp_ [(.bin .le (.bf .len [(.fld (.v 0) "sums")]) (.g "MOST_SUMS" (.int 4))),(.k (.str [97,110,32,97,115,107,105,110,103,32,104,97,115,32,52,32,115,117,109,115,32,97,116,32,109,111,115,116]))]))]
def zN_:Fn:=fnOf gi 1 0 zO_
noncomputable def zI_:List S:=[.if_ (.bin .is (.fld (.v 0) "middle") (.k .non)) [.retN] [],.never,.never,.never]
def zv_:Fn:=fnOf gi 1 1 zI_
def zcU_:List S:=[.ret (.pu (.and (.bin .isn (.fld (.v 0) "middle") (.k .non)) (.bin .inn (.i (.fld (.v 0) "middle") 0) (.gt "MATING_WORDS" [[109,97,116,101,115],[119,105,116,104,111,117,116]]))))]
def zdi_:Fn:=fnOf gi 1 0 zcU_
def zdf_:List S:=[.ret (.pu (.ifx (.call zdi_ "mates_by" [(.v 0)]) (.lst [(.fld (.v 0) "deck"),(.i (.fld (.v 0) "middle") 1)]) (.lst [(.fld (.v 0) "deck")])))]
def za9_:Fn:=fnOf gi 1 0 zdf_
def zed_:List S:=[.ret (.pu (.and (.ch .le .le (.n 1) (.bf .len [(.v 0)]) (.g "LONGEST_NAME" (.int 8))) (.bf .all [(.comp ["letter"] [] .any [(.v 0)] ⟨uQ,[0]⟩ uO (.bin .inn (.v 0) (.g "SMALL_LETTERS" (.str Qm2))))])))]
def zeu_:Fn:=fnOf gi 1 0 zed_
def zbw_:List S:=[.asg 1 (.pu (.call za9_ "names_of" [(.v 0)])),.for_ .any [(.v 1)] ⟨uQ,[2]⟩ [.ex (.pu (zp_ [(.call zeu_ "is_name" [(.v 2)]),(.k (.str [97,32,110,97,109,101,32,104,97,115,32,111,110,101,32,116,111,32,101,105,103,104,116,32,115,109,97,108,108,32,108,101,116,116,101,114,115]))]))],.ex (.pu (zp_ [(.or (.bin .ne (.i (.v 1) 0) (.bin .ix (.v 1) (.neg (.n 1)))) (.bin .eq (.bf .len [(.v 1)]) (.n 1))),(.k (.str [116,104,101,32,116,119,111,32,110,97,109,101,115,32,97,114,101,32,117,110,108,105,107,101]))]))]
def zaq_:Fn:=fnOf gi 1 2 zbw_
noncomputable def zaG_:List S:=[.if_ (.bin .is (.fld (.v 0) "middle") (.k .non)) [.ret (.pu (.lst []))] [],.never]
def zy_:Fn:=fnOf gi 1 0 zaG_
noncomputable abbrev zM_:=X.call zy_ "middle_fields"
def zaK_:List S:=[.asg 1 (.pu (.bin .add (.bin .add (.bin .add (.comp ["pick"] [] .any [(.fld (.v 0) "picks")] ⟨uQ,[0]⟩ uO (.i (.v 0) 0)) (zM_ [(.v 0)])) (.fld (.v 0) "order")) (.fld (.v 0) "sums"))),.for_ .any [(.fld (.v 0) "works")] ⟨uQ,[2]⟩ [.ex (.bm .extend (.v 1) [(.x (.lst [(.i (.v 2) 0),(.i (.v 2) 1),(.i (.v 2) 3)]))])],.ret (.mv 1)]
def zaL_:Fn:=fnOf gi 1 2 zaK_
noncomputable def zcS_:List S:=[.ret (.pu (.and (.isa (.v 0) "int") (.not (.isa (.v 0) "bool"))))]
def zbY_:Fn:=fnOf gi 1 0 zcS_
noncomputable abbrev zaY_:=X.call zbY_ "is_whole"
def zbN_:List S:=[.ret (.pu (.and (zaY_ [(.v 0)]) (.and (zaY_ [(.v 1)]) (.ch3 .le .le .le (.n 1) (.v 0) (.v 1) (.g "BODY_WIDTH" (.int 36))))))]
def zbV_:Fn:=fnOf gi 2 0 zbN_
noncomputable def zaW_:List S:=[.asg 1 (.pu .dct0),.for_ .any [(.v 0)] ⟨uQ,[2]⟩ [.never],.ret (.mv 1)]
def zaT_:Fn:=fnOf gi 1 2 zaW_
noncomputable def zby_:List S:=[.asg 1 (.pu (.lst [])),.for_ .any [(.fld (.v 0) "picks")] ⟨uQ,[2]⟩ [.never],.ret (.mv 1)]
def zbs_:Fn:=fnOf gi 1 2 zby_
def zbz_:List S:=[.for_ .any [(.fld (.v 0) "picks")] ⟨uQ,[1]⟩ [.never,.never],.ex (.pu (zp_ [(.bin .isn (.call zaT_ "picked_signs" [(.call zbs_ "pick_passes" [(.v 0)])]) (.k .non)),(.k (.str [116,119,111,32,112,105,99,107,115,32,119,97,110,116,32,117,110,108,105,107,101,32,115,105,103,110,115,32,111,102,32,111,110,101,32,99,111,108,117,109,110]))]))]
def zac_:Fn:=fnOf gi 1 1 zbz_
def zB_:List S:=[.asg 1 (.pu (zM_ [(.v 0)])),.ifL (.v 1) [.never] []]
def zs_:Fn:=fnOf gi 1 1 zB_
noncomputable def zaH_:List S:=[.for_ .any [(.v 0)] ⟨uQ,[1]⟩ [.never],.asg 2 (.pu .dct0),.for_ .any [(.v 0)] ⟨uQ,[1]⟩ [.never,.never],.ret (.pu (.comp ["column"] [("leading",2)] .any [(.bf .sorted [(.v 2)])] ⟨uQ,[0]⟩ uO (.bin .ix (.v 1) (.v 0))))]
def zaO_:Fn:=fnOf gi 1 2 zaH_
def zb2_:List S:=[.try0 [.asg 1 (.pu (.call zaO_ "make_board" [(.v 0)]))] [],.ret (.pu (.bin .eq (.v 1) (.v 0)))]
def zb3_:Fn:=fnOf gi 1 1 zb2_
def zF_:List S:=[.ex (.pu (zp_ [(.and (zaY_ [(.fld (.v 0) "breaks")]) (.ch .le .le (.n 0) (.fld (.v 0) "breaks") (.g "MOST_BREAKS" (.int 3)))),(.k (.str [116,104,101,114,101,32,97,114,101,32,48,32,116,111,32,51,32,98,114,101,97,107,115]))])),.ex (.pu (zp_ [(.bin .le (.fld (.v 0) "breaks") (.bf .len [(.fld (.v 0) "order")])),(.k (.str [116,104,101,114,101,32,97,114,101,32,110,111,32,109,111,114,101,32,98,114,101,97,107,115,32,116,104,97,110,32,107,101,121,115]))])),.ex (.pu (zp_ [(.and (zaY_ [(.fld (.v 0) "figures")]) (.ch .le .le (.n 1) (.fld (.v 0) "figures") (.g "MOST_FIGURES" (.int 12)))),(.k (.str [119,104,101,101,108,115,32,104,97,118,101,32,49,32,116,111,32,49,50,32,102,105,103,117,114,101,115]))])),.ex (.pu (zp_ [(.call zb3_ "is_board" [(.fld (.v 0) "board")]),(.k (.str [116,104,101,32,98,111,97,114,100,32,105,115,32,110,111,110,101,44,32,111,114,32,110,111,116,32,115,111,114,116,101,100]))]))]
def zD_:Fn:=fnOf gi 1 0 zF_
def zan_:List S:=[.asg 2 (.pu (.bin .add (.bin .add (.comp ["pick"] [] .any [(.fld (.v 0) "picks")] ⟨uQ,[0]⟩ uO (.i (.v 0) 0)) (.sl (zM_ [(.v 0)]) uO (uN (.n 1)))) (.fld (.v 0) "order"))),.for_ .en [(.fld (.v 0) "works")] ⟨uP,[3,4]⟩ [.if_ (.bin .ne (.v 3) (.v 1)) [.ex (.bm .append (.v 2) [(.x (.i (.v 4) 0))])] [],.if_ (.bin .le (.v 3) (.v 1)) [.ex (.bm .extend (.v 2) [(.x (.lst [(.i (.v 4) 1),(.i (.v 4) 3)]))])] []],.ret (.mv 2)]
def zas_:Fn:=fnOf gi 2 3 zan_
def zbj_:List S:=[.ret (.pu (.or (.bin .lt (.i (.v 0) 1) (.i (.v 1) 0)) (.bin .lt (.i (.v 1) 1) (.i (.v 0) 0))))]
def zbh_:Fn:=fnOf gi 2 0 zbj_
def zag_:List S:=[.for_ .en [(.fld (.v 0) "works")] ⟨uP,[1,2]⟩ [.ex (.pu (zp_ [(.bin .inn (.i (.v 2) 2) (.gt "WORK_WORDS" [[112,108,117,115],[108,101,115,115],[116,105,109,101,115]])),(.k (.str [97,32,119,111,114,107,32,104,97,115,32,111,110,101,32,111,102,32,116,104,114,101,101,32,119,111,114,100,115]))])),.for_ .any [(.call zas_ "fields_kept" [(.v 0),(.v 1)])] ⟨uQ,[3]⟩ [.ex (.pu (zp_ [(.call zbh_ "are_apart" [(.i (.v 2) 0),(.v 3)]),(.k (.str [97,32,119,111,114,107,32,112,117,110,99,104,101,115,32,105,110,116,111,32,97,32,102,105,101,108,100,32,116,104,97,116,32,105,116,32,109,117,115,116,32,98,101,32,97,112,97,114,116,32,102,114,111,109]))]))]]]
def z8_:Fn:=fnOf gi 1 3 zag_
def z4_:List S:=[.ex (.pu (.call zN_ "check_lengths" [(.v 0)])),.ex (.pu (.call zv_ "check_middle_word" [(.v 0)])),.ex (.pu (.call zaq_ "check_names" [(.v 0)])),.for_ .any [(.call zaL_ "fields_due" [(.v 0)])] ⟨uQ,[1]⟩ [.ex (.pu (zp_ [(.call zbV_ "is_field" [(.i (.v 1) 0),(.i (.v 1) 1)]),(.k (.str [97,32,102,105,101,108,100,32,103,111,101,115,32,102,114,111,109,32,97,32,102,105,114,115,116,32,116,111,32,97,32,108,97,115,116,32,99,111,108,117,109,110,44,32,102,114,111,109,32,49,32,116,111,32,51,54]))]))],.ex (.pu (.call zac_ "check_picks" [(.v 0)])),.ex (.pu (.call zs_ "check_middle_widths" [(.v 0)])),.ex (.pu (.call zD_ "check_counting" [(.v 0)])),.ex (.pu (.call z8_ "check_works" [(.v 0)]))]
def zZ_:Fn:=fnOf gi 1 1 z4_
def zm_:List S:=[.setF (.v 0) "deck" (.v 1),.setF (.v 0) "picks" (.bf .list [(.v 2)]),.setF (.v 0) "middle" (.v 3),.setF (.v 0) "order" (.bf .list [(.v 4)]),.setF (.v 0) "works" (zbU_ [(.v 5)]),.setF (.v 0) "breaks" (.v 6),.setF (.v 0) "sums" (zbU_ [(.v 7)]),.setF (.v 0) "figures" (.v 8),.setF (.v 0) "board" (zbU_ [(.v 9)]),.ex (.pu (.call zZ_ "check_asking" [(.v 0)]))]
def zg_:Fn:=fnOf gi 10 0 zm_
def zaa_:List S:=[.for_ .any [(.call za9_ "names_of" [(.v 0)])] ⟨uQ,[2]⟩ [.if_ (.bin .nin (.v 2) (.v 1)) [.never] []]]
def z7_:Fn:=fnOf gi 2 1 zaa_
noncomputable def zbx_:List S:=[.asg 2 (.pu (.v 1)),.for_ .any [(.fld (.v 0) "picks")] ⟨uQ,[3]⟩ [.never],.ret (.mv 2)]
def zau_:Fn:=fnOf gi 2 2 zbx_
noncomputable def zbt_:List S:=[.if_ (.bin .is (.fld (.v 0) "middle") (.k .non)) [.ret (.mv 1)] [],.never,.never,.never,.never,.never,.never]
def zal_:Fn:=fnOf gi 3 3 zbt_
def zeD_:List S:=[.ret (.pu (.and (.bin .eq (.bf .len [(.v 0)]) (.n 1)) (.bin .inn (.v 0) (.g "SIGNS" (.str Qm0)))))]
def zev_:Fn:=fnOf gi 1 0 zeD_
def zeJ_:List S:=[.if_ (.not (.call zev_ "is_sign" [(.v 0)])) [.never] [],.ret (.pu (.sm .index (.g "SIGNS" (.str Qm0)) [(.v 0)]))]
def zeL_:Fn:=fnOf gi 1 0 zeJ_
def zeN_:List S:=[.ret (.pu (.bin .ix (.v 0) (.bin .sub (.v 1) (.n 1))))]
def zei_:Fn:=fnOf gi 2 0 zeN_
def zbR_:List S:=[.ret (.pu (.comp ["column"] [("card",0)] .any [(.v 1)] ⟨uQ,[0]⟩ uO (.call zeL_ "rank_of" [(.call zei_ "sign_at" [(.v 1),(.v 0)])])))]
def z9_:Fn:=fnOf gi 2 0 zbR_
def zaS_:List S:=[.ret (.pu (.srt "card" [("columns",1)] 0 (.call z9_ "ranks_at" [(.v 0),(.v 1)])))]
def zC_:Fn:=fnOf gi 2 0 zaS_
noncomputable def zbu_:List S:=[.asg 1 (.pu (.lst [])),.for_ .any [(.fld (.v 0) "order")] ⟨uQ,[2]⟩ [.never],.ret (.mv 1)]
def zam_:Fn:=fnOf gi 1 2 zbu_
def zcE_:List S:=[.ret (.pu (.sl (.v 0) (uN (.bin .sub (.i (.v 1) 0) (.n 1))) (uN (.i (.v 1) 1))))]
def zbA_:Fn:=fnOf gi 2 0 zcE_
def zbi_:List S:=[.asg 1 (.pu (.n 0)),.for_ .any [(.v 0)] ⟨uQ,[2]⟩ [.asg 1 (.pu (.bin .add (.bin .mul (.v 1) (.n 10)) (.sm .index (.g "FIGURES" (.str Qm1)) [(.v 2)])))],.ret (.mv 1)]
def zbl_:Fn:=fnOf gi 1 2 zbi_
def zbd_:List S:=[.asg 2 (.pu (.comp ["sign"] [] .any [(.call zbA_ "part_of" [(.v 0),(.v 1)])] ⟨uQ,[0]⟩ uO (.ifx (.bin .inn (.v 0) (.g "FIGURES" (.str Qm1))) (.v 0) (.k (.str [48]))))),.ret (.pu (.call zbl_ "number_by" [(.sm .join (.k (.str [])) [(.v 2)])]))]
def zay_:Fn:=fnOf gi 2 1 zbd_
def zbL_:List S:=[.ret (.pu (.bin .add (.bin .sub (.i (.v 0) 1) (.i (.v 0) 0)) (.n 1)))]
def zaZ_:Fn:=fnOf gi 1 0 zbL_
def zd1_:List S:=[.asg 1 (.pu (.n 1)),.for_ .r1 [(.v 0)] ⟨uQ,[2]⟩ [.asg 1 (.pu (.bin .mul (.v 1) (.n 10)))],.ret (.mv 1)]
def zcn_:Fn:=fnOf gi 1 2 zd1_
def zbJ_:List S:=[.asg 3 (.pu (.call zaZ_ "width_of" [(.v 1)])),.asg 4 (.pu (.sm .zfill (.bf .str [(.bin .mod (.v 2) (.call zcn_ "ten_to" [(.v 3)]))]) [(.v 3)])),.ret (.pu (.bin .add (.bin .add (.sl (.v 0) uO (uN (.bin .sub (.i (.v 1) 0) (.n 1)))) (.v 4)) (.sl (.v 0) (uN (.i (.v 1) 1)) uO)))]
def za4_:Fn:=fnOf gi 3 2 zbJ_
def zbe_:List S:=[.asg 2 (.pu (.call zay_ "number_of" [(.v 0),(.i (.v 1) 1)])),.asg 3 (.pu (.call zay_ "number_of" [(.v 0),(.i (.v 1) 3)])),.if_ (.bin .eq (.i (.v 1) 2) (.k (.str [112,108,117,115]))) [.asg 4 (.pu (.bin .add (.v 2) (.v 3)))] [.if_ (.bin .eq (.i (.v 1) 2) (.k (.str [108,101,115,115]))) [.asg 4 (.pu (.bin .sub (.v 2) (.v 3)))] [.asg 4 (.pu (.bin .mul (.v 2) (.v 3)))]],.ret (.pu (.call za4_ "punch_in" [(.v 0),(.i (.v 1) 0),(.v 4)]))]
def zbo_:Fn:=fnOf gi 2 3 zbe_
def zaj_:List S:=[.asg 2 (.pu (.v 1)),.for_ .any [(.fld (.v 0) "works")] ⟨uQ,[3]⟩ [.asg 2 (.pu (.call zbo_ "work_card" [(.v 2),(.v 3)]))],.ret (.mv 2)]
def zaf_:Fn:=fnOf gi 2 2 zaj_
def zav_:List S:=[.ex (.pu (.call z7_ "check_trays" [(.v 0),(.v 1)])),.asg 2 (.pu (.call zau_ "picked_deck" [(.v 0),(.bin .ix (.v 1) (.fld (.v 0) "deck"))])),.asg 2 (.pu (.call zal_ "middle_deck" [(.v 0),(.v 2),(.v 1)])),.asg 2 (.pu (.call zC_ "put_in_order" [(.v 2),(.call zam_ "key_columns" [(.v 0)])])),.ret (.pu (.comp ["card"] [("asking",0)] .any [(.v 2)] ⟨uQ,[0]⟩ uO (.call zaf_ "worked_card" [(.v 1),(.v 0)])))]
def zk_:Fn:=fnOf gi 2 1 zav_
def znR_:List S:=[.asg 1 (.pu (zbm_ [(.v 0),(.n 0)])),.asg 2 (.pu (.lst [(.k (.str [112,108,117,115])),(.k (.str [108,101,115,115])),(.k (.str [116,105,109,101,115]))])),.asg 3 (.pu (zK_ [(zbm_ [(.v 0),(.n 1)]),(.n 13),(.n 12)])),.asg 4 (.pu (zK_ [(zbm_ [(.v 0),(.n 2)]),(.n 25),(.n 12)])),.asg 5 (.pu (zK_ [(.bin .div (.v 1) (.n 18)),(.n 1),(.n 6)])),.asg 6 (.pu (.lst [(.tup [(.v 5),(.v 3),(.bin .ix (.v 2) (.bin .mod (.v 1) (.n 3))),(.v 4)])])),.if_ (.bin .eq (.bin .mod (.bin .div (.v 1) (.n 3)) (.n 2)) (.n 1)) [.ex (.bm .append (.v 6) [(.x (.tup [(zK_ [(.bin .div (.v 1) (.n 36)),(.n 7),(.n 6)]),(.bin .ix (.lst [(.v 5),(.v 4)]) (.bin .mod (.bin .div (.v 1) (.n 6)) (.n 2))),(.bin .ix (.v 2) (.bin .mod (.bin .div (.v 1) (.n 6)) (.n 3))),(.v 3)]))])] [],.asg 7 (.pu (.comp ["_law_k", "_law_number_here"] [] .en [(.sl (.v 0) (uN (.n 3)) (uN (.n 43)))] ⟨uP,[0,1]⟩ uO (.call zx_ "_law_card" [(.v 1),(.v 0)]))),.asg 8 (.pu (.lst [])),.for_ .any [(.v 7)] ⟨uQ,[9]⟩ [.for_ .any [(.v 6)] ⟨uQ,[10]⟩ [.asg 9 (.pu (.call zH_ "_law_worked" [(.v 9),(.v 10)]))],.ex (.bm .append (.v 8) [(.x (.v 9))])],.asg 11 (.pu (.mkd zg_ "Asking" [(.k (.str [112,97,121])),(.lst []),(.k .non),(.lst []),(.bf .list [(.v 6)])] [(.int 0),.non,(.int 6),.non])),.asg 12 (.pu (.ds1 (.k (.str [112,97,121])) (.bf .list [(.v 7)]))),.asg 13 (.pu (.call zk_ "chosen_deck" [(.v 11),(.v 12)])),.if_ (.or (.not (.isa (.v 13) "list")) (.or (.bin .ne (.v 13) (.v 8)) (.bin .ned (.v 12) (.ds1 (.k (.str [112,97,121])) (.v 7))))) [.ret (.pu (.k (.bl uQ)))] [],.asg 14 (.pu (.call zk_ "chosen_deck" [(.v 11),(.ds1 (.k (.str [112,97,121])) (.bf .list [(.v 13)]))])),.ret (.pu (.and (.isa (.v 14) "list") (.bin .eq (.v 14) (.v 8))))]
def f_law:Fn:=fnOf gi 1 14 znR_
set_option hygiene false in
local macro_rules | `(tactic|exists $ts,*) => `(tactic|first |simp only[S.runs, S.run, trD, zh1_, ye_mv, zqK_, zqi_, to_ok, bm_v, sd_v, onS, call1, atS_0, atS_s, Bm.ty, Bm.f, zpK_, ↓zfb_, ↓zoQ_, ↓sq_ct, ↓sq_ex, ↓zjt_, ↓mr_ex, ↓ze9_, zfb_, zoQ_, sq_ct, sq_ex, zjt_, mr_ex, ze9_, zmZ_, ifM_t, ifM_f, and_t, and_f, or_t, or_f, noE, or_b, and_b, min_i, vd_mod, zi2_, zk7_, nw_bl, zmy_, znL_, zpg_, zpV_, nw_c, nw_0, Bool.and_true, Mo.lim_ok, ag_d, ag_0, znA_, zoY_, zoh_, get_0, get_s, mv_0, mv_s, zjm_, zab_, zlA_, zjq_, frzE, List.foldl_cons, List.foldl_nil, frz_0, frz_n, frz_s, X.uses, X.usesL, X.usesO, zba_, zmD_, xv_v, zoq_, xv_ch, zqB_, zn4_, xv_or, zpt_, zql_, zqQ_, xv_sl, zpl_, zqw_, zqI_, zmB_, xv_bf, xv_lr, zqS_, zoC_, xs_0, xs_c, xo_0, xo_s, xt_0, xt_s, zpr_, zn2_, xk_bl, zpu_, zqU_, zqt_, fz_ix, fz_in, zpM_, znv_, znE_, fz_sl, zqq_, zit_, znw_, zqf_, zmX_, fz_is, zqs_, fz_bl, zqM_, zpD_, fz_rv, zm9_, znO_, zl1_, fz_eq, zqH_, Bo.f, Bf.f, Ik.f, forS, evG, List.map_cons, List.map_nil, List.length_cons, List.length_nil, List.set_cons_zero, List.set_cons_succ, List.replicate_succ, List.replicate_zero, List.cons_append, List.nil_append, zol_, zo1_, bl_vw, zo6_, zoK_, zkj_, ls_vw, zlz_, zaJ_, zoH_, ls_ix, ls_sl, zcg_, zll_, zo0_, ls_rv, ls_in, zlH_, zdt_, zc9_, vd_lt, vd_le, vd_gt, vd_ge, zoi_, zpT_, zoE_, vd_bl, vd_int, zoZ_, Bool.not_true, Bool.not_false, if_true, if_false, Bool.false_eq_true, Bool.true_eq_false, Option.map_some, Option.map_none, Nat.reduceAdd, Nat.reduceLT, Nat.reduceLeDiff, Int.reduceLT, Int.reduceLE, Int.reduceNeg, Int.reduceAdd, Int.reduceSub, Nat.lt_add_one, Nat.zero_lt_succ, Nat.zero_add, setE, cE, List.getElem?_cons_succ, List.getElem?_cons_zero, Option.join_some, setG, true_and, Int.toNat_natCast, zgm_, $[$ts:term],*]|skip)
set_option hygiene false in
local macro_rules | `(tactic|fail "q") => `(tactic|first |exact⟨_, _, rfl, .inl rfl⟩|exact⟨_, _, rfl, .inr ⟨rfl, rfl⟩⟩|exact⟨_, _, rfl, .inr ⟨rfl, trivial⟩⟩)
noncomputable abbrev Fd:=Int×Int
def F2 (f:Fd):D:=.nd .tup [.int f.1,.int f.2]
instance:Im F2:=⟨λ_=>rfl⟩
abbrev Pk:=Fd×List Nat
def PK (p:Pk):D:=.nd .tup [F2 p.1,.str p.2]
instance:Im PK:=⟨λ_=>rfl⟩
abbrev Wk:=Fd×Fd×List Nat×Fd
def WK (w:Wk):D:=.nd .tup [F2 w.1,F2 w.2.1,.str w.2.2.1,F2 w.2.2.2]
instance:Im WK:=⟨λ_=>rfl⟩
theorem F2_0 (f:Fd):ixA (F2 f) (.int 0)=.ok (.int f.1):=rfl
theorem F2_1 (f:Fd):ixA (F2 f) (.int 1)=.ok (.int f.2):=rfl
theorem PK_0 (f:Pk):ixA (PK f) (.int 0)=.ok (F2 f.1):=rfl
theorem PK_1 (f:Pk):ixA (PK f) (.int 1)=.ok (.str f.2):=rfl
theorem WK_0 (f:Wk):ixA (WK f) (.int 0)=.ok (F2 f.1):=rfl
theorem WK_1 (f:Wk):ixA (WK f) (.int 1)=.ok (F2 f.2.1):=rfl
theorem WK_2 (f:Wk):ixA (WK f) (.int 2)=.ok (.str f.2.2.1):=rfl
theorem WK_3 (f:Wk):ixA (WK f) (.int 3)=.ok (F2 f.2.2.2):=rfl
theorem zci_ (f:Fd):(F2 f).vw=F2 f:=rfl
theorem PK_vw (f:Pk):(PK f).vw=PK f:=rfl
theorem zcZ_ (f:Wk):(WK f).vw=WK f:=rfl
theorem zjs_ (f:Fd):(F2 f).new=uP:=zkj_ f
noncomputable def WFi:List Nat:=[102,105,114,115,116]
noncomputable def WMa:List Nat:=[109,97,116,101,115]
noncomputable def WWi:List Nat:=[119,105,116,104,111,117,116]
inductive Md where
 |no |fi (f:Fd)|ma (w n:Jx) (f g:Fd)
def MD:Md->D
 |.no=>.non
 |.fi f=>.nd .tup [.str WFi,F2 f]
 |.ma w n f g=>.nd .tup [.str w,.str n,F2 f,F2 g]
structure Ak where
 dk:List Nat
 pk:List Pk
 md:Md
 od:List Fd
 wk:List Wk
 br:Int
 su:List Fd
 fg:Int
 bd:List Fd
def aFs (A:Ak):List D:=[.str A.dk,LS PK A.pk,MD A.md,LS F2 A.od,LS WK A.wk,.int A.br,LS F2 A.su,.int A.fg,LS F2 A.bd]
def AO (A:Ak):D:=.nd (.obj "Asking" ["deck", "picks", "middle", "order", "works", "breaks", "sums", "figures", "board"]) (aFs A)
section
variable (A:Ak)
theorem AO_deck:fldD gi.cs "deck" (AO A)=.ok (.str A.dk):=rfl
theorem zpF_:fldD gi.cs "picks" (AO A)=.ok (.fz (LS PK A.pk)):=rfl
theorem znW_:fldD gi.cs "middle" (AO A)=.ok (MD A.md):=by cases h:A.md<;>· show Mq (MD A.md).vw=_;rw[h];rfl
theorem zqn_:fldD gi.cs "order" (AO A)=.ok (.fz (LS F2 A.od)):=rfl
theorem zn1_:fldD gi.cs "works" (AO A)=.ok (.fz (LS WK A.wk)):=rfl
theorem znT_:fldD gi.cs "breaks" (AO A)=.ok (.int A.br):=rfl
theorem AO_sums:fldD gi.cs "sums" (AO A)=.ok (.fz (LS F2 A.su)):=rfl
theorem zm3_:fldD gi.cs "figures" (AO A)=.ok (.int A.fg):=rfl
theorem zpB_:fldD gi.cs "board" (AO A)=.ok (.fz (LS F2 A.bd)):=rfl
theorem AO_vw:(AO A).vw=.fz (AO A):=rfl
theorem zU_:(D.fz (AO A)).vw=.fz (AO A):=rfl
end
def OkFd (f:Fd):Prop:=1<=f.1/\f.1<=f.2/\f.2<=36
def SG:List Nat:=Qm0
def LT:List Nat:=Qm2
def OkN (n:Jx):Prop:=1<=n.length/\n.length<=8/\∀c∈n,c∈LT
def OkK (sg:Int->Nat)(p:Pk):Prop:=OkFd p.1/\p.2=(rngI p.1.1 (p.1.2+1-p.1.1).toNat).map sg
def OkM (d:Jx):Md->Prop
 |.no=>True
 |.fi f=>OkFd f
 |.ma w n f g=>(w=WMa\/w=WWi)/\OkN n/\n≠d/\OkFd f/\OkFd g/\f.2-f.1=g.2-g.1
def WWo:Jy:=[[112,108,117,115],[108,101,115,115],[116,105,109,101,115]]
def OkW (w:Wk):Prop:=OkFd w.1/\OkFd w.2.1/\OkFd w.2.2.2/\w.2.2.1∈WWo
def apt (a b:Fd):Bool:=decide (a.2<b.1)||decide (b.2<a.1)
def midF:Md->List Fd
 |.no=>[]
 |.fi f=>[f]
 |.ma _ _ f g=>[f,g]
def gk (k:Int)(q:Int×Wk):List Fd:=(if q.1=k then[]else[q.2.1])++(if q.1<=k then[q.2.2.1,q.2.2.2.2]else[])
theorem zjX_ (a b:Fd):zbh_.val [F2 a,F2 b]=.ok (.bl (apt a b)):=by
 refine zaP_ rfl rfl λpn hp=>?_
 unfold zbj_
 exists hp,F2_0,F2_1
 fail "q"
theorem zpz_ (f:Fd):zaZ_.val [F2 f]=.ok (.int (f.2-f.1+1)):=rfl
theorem znB_ (w:Jx):zcs_.val [.bl uP,.str w]=.ok .non:=rfl
theorem zfK_ (i:Int):zbY_.val [.int i]=.ok (.bl uP):=rfl
theorem fieldb {f:Fd}(h:OkFd f):zbV_.val [.int f.1,.int f.2]=.ok (.bl uP):=by
 obtain⟨h1,h2,h3⟩:=h;refine zaP_ rfl rfl λpn hp=>?_
 unfold zbN_
 exists hp,zfK_,ch3D,chD,decide_eq_true h1,decide_eq_true h2,decide_eq_true h3
 fail "q"
theorem lnS_ {l:List Nat}(h:l.length<=100000):lenA [.str l]=.ok (.int l.length):=by
 show Mo.lim _ _=_
 rw[Mo.lim_ok h]
theorem zdG_ (l:Jx):walkA [.str l]=.ok (l.map λc=>.str [c]):=rfl
theorem rg1 {j:Int}(h0:0<=j)(h:j<=100000):rng1D [D.int j]=Mq ((mf j.toNat).map λi:Nat=>D.int (0+(i:Int))):=by
 unfold rng1D;dsimp only;rw[VI.vd_int,ze9_,Mo.grd_ok ⟨by lia,by lia⟩]
 unfold rngI;rw[l8];rfl
section
variable (ns:List Int)
theorem zms_ {k:Int}(h0:0<=k)(h1:k<=1000):∃c,zT_.val [scr ns,.int k]=.ok (.int c):=by
 by_cases hk:k<(ns.length:Int)
 ·refine⟨ns.getD k.toNat 0,zaP_ rfl rfl λpn hp=>?_⟩
  unfold zR_
  exists hp,zf0_,decide_eq_true hk,VI.vd_ix h0 hk
  fail "q"
 ·by_cases hl:(0:Int)<(ns.length:Int)
  ·have m0:=mm (k*7) (show(ns.length:Int)≠0 by lia)
   have m1:=mx (k*7) hl
   generalize hx:ns.getD (k*7 % (ns.length:Int)).toNat 0=x
   have n0:=mm (x*48271+k*7919) (show(2147483647:Int)≠0 by lia)
   have n1:=mx (x*48271+k*7919) (show(0:Int)<2147483647 by lia)
   refine⟨(x*48271+k*7919) % 2147483647*((x*48271+k*7919) % 2147483647) % 2147483629,zaP_ rfl rfl λpn hp=>?_⟩
   unfold zR_;have e1:ixA (scr ns) (.int (k*7 % (ns.length:Int)))=.ok (.int x):=by rw[VI.vd_ix m0 m1,hx]
   have e2:modD (.int (k*7)) (.int (ns.length:Int))=.ok (.int (k*7 % (ns.length:Int))):=VI.vd_mod hl
   generalize hy:(x*48271+k*7919) % 2147483647=y at n0 n1 ⊢
   exists hp,zf0_,decide_eq_false hk,decide_eq_true hl,e1,e2,hy,zfg_ (i:=y) (j:=y) (by lia) (by lia)
   fail "q"
  ·refine⟨(k*7919+5)*(k*7919+5) % 2147483629,zaP_ rfl rfl λpn hp=>?_⟩
   unfold zR_
   exists hp,zf0_,decide_eq_false hk,decide_eq_false hl,zfg_ (i:=k*7919+5) (j:=k*7919+5) (by lia) (by lia)
   fail "q"
def cel (k:Int):Int:=match zT_.val [scr ns,.int k]with |.ok (.int c)=>c |_=>0
theorem zfq_ {k:Int}(h0:0<=k)(h1:k<=1000):zT_.val [scr ns,.int k]=.ok (.int (cel ns k)):=by
 obtain⟨c,e⟩:=zms_ ns h0 h1;unfold cel;rw[e]
end
theorem sg_ix {i:Int}(h0:0<=i)(h1:i<37):∃s,s∈SG/\ixA (.str SG) (.int i)=.ok (.str [s]):=by
 obtain⟨s,e,hs⟩:=zkp_ (xs:=SG) h0 (show i<(SG.length:Int)from h1)
 refine⟨s,hs,?_⟩;show Mo.lim SG.length (Mo.opt ((atI SG i).map λc=>D.str [c]))=_
 rw[Mo.lim_ok (by decide),e];rfl
theorem zqV_ {α:Type}(xs:List α)(i k:Nat)(h:i<=xs.length):cutG xs (uN (i:Int)) (uN ((i:Int)+k))=(xs.drop i).take k:=by
 have e:cutG xs (uN (i:Int)) (uN ((i:Int)+k))=(xs.drop i).take (min (i+k) xs.length-i):=by
  unfold cutG HT.sIx;simp only[];rw[if_neg (by lia),if_neg (by lia),show min ((i:Int)+k).toNat xs.length=min (i+k) xs.length by lia,show min (i:Int).toNat xs.length=i by lia]
 rw[e];by_cases z:i+k<=xs.length
 ·congr 1;lia
 ·rw[oI (by rw[mG];lia),oI (by rw[mG];lia)]
noncomputable def LY:List Nat:=[97,98,99,100,101,102,103,104,105,106,107,108,109,110,111,112,113,114,115,116,117,118,119,120,121]
abbrev Cds:=Jy
def LG (l:Cds):Prop:=l.length<64/\∀c∈l,c.length<=1000
def pt (f:Fd)(c:Jx):List Nat:=cutG c (uN (f.1-1)) (uN f.2)
theorem zb9_ {c:List Nat}{lo hi:Option Int}(h:c.length<=1000):slA (.str c) lo hi=.ok (.str (cutG c lo hi)):=by
 show Mo.lim _ _=_;rw[Mo.lim_ok (by lia)]
theorem zmv_ {c:List Nat}{f:Fd}(h:c.length<=1000):zbA_.val [.str c,F2 f]=.ok (.str (pt f c)):=by
 refine zaP_ rfl rfl λpn hp=>?_
 unfold zcE_;have e:slA (.str c) (uN (f.1-1)) (uN f.2)=.ok (.str (pt f c)):=zb9_ h
 exists hp,F2_0,F2_1,e
 fail "q"
def kN_t (n:Jx):Key:=.inr ⟨n.toArray⟩
theorem znc_ {a b:List Nat}:kN_t a=kN_t b↔a=b:=by
 constructor
 ·intro h;injection h with h;injection h with h;simpa using congrArg qx h
 ·rintro rfl;rfl
def TD (m:List (List Nat×Cds)):D:=.nd (.dct (m.map λq=>kN_t q.1)) (m.map λq=>LS .str q.2)
theorem zdF_ (m:List (List Nat×Cds)):(D.fz (TD m)).vw=.fz (TD m):=rfl
theorem zps_ (m:List (List Nat×Cds)):(TD m).vw=.fz (TD m):=rfl
theorem zkC_:∀(m:List (List Nat×Cds)) (n:Jx),valD (m.map λq=>kN_t q.1) (m.map λq=>LS .str q.2) (kN_t n)=((m.find? λq=>decide (q.1=n)).map λq=>LS .str q.2)
 |[],n=>rfl
 |q::m,n=>by
  have ih:=zkC_ m n;unfold valD at ih ⊢;rw[lj,lj,l0,m7,m7];by_cases e:q.1=n
  ·rw[decide_eq_true (znc_.mpr e),decide_eq_true e];rfl
  ·rw[decide_eq_false (λz=>e (znc_.mp z)),decide_eq_false e];exact ih
theorem td_ix {m:List (List Nat×Cds)}{n:List Nat}{cs:Cds}(h:(m.find? λq=>decide (q.1=n))=uN (n,cs)):ixA (TD m) (.str n)=.ok (.fz (LS .str cs)):=by
 show Mo.opt ((valD _ _ (kN_t n)).map D.vw)=_
 rw[zkC_,h];rfl
theorem zoM_ {m:List (List Nat×Cds)}{n:List Nat}{cs:Cds}(h:(m.find? λq=>decide (q.1=n))=uN (n,cs)):inA uP (.str n) (TD m)=.ok (.bl uQ):=by
 show Mq (D.bl (if uP=uP then !(valD _ _ (kN_t n)).isSome else _))=_
 rw[zkC_,h];rfl
theorem zk5_ (c:Jx):z9_.val [.str c,.fz (LS .int [])]=.ok (LS .int []):=by
 refine zaP_ rfl rfl λpn hp=>?_
 unfold zbR_;rw[zjY_ (d:=LS .int []) (e:=[uN (.str c),uN (.fz (LS .int []))]) ?_]
 ·fail "q"
 ·rw[zh1_,xcompN (f:=λx:Int=>x) (o:=.int) (T:=λx=>[.int x]) ([]:List Int) rfl (by exists hp) (zba_ _ _) (λc hc=>by cases hc) (by simp)]
  exact zab_ _ zaJ_
def srtG (key:List Nat->List Int)(l:Cds):Cds:=(srtQ (l.map key) l.length).map λi=>l.getD i []
theorem zgu_:∀(l:Cds),strsD (l.map D.str)=uN l
 |[]=>rfl
 |c::l=>by rw[lj];unfold strsD;rw[zgu_ l];rfl
theorem zlo_ (l:Cds):strL (.fz (LS .str l))=.ok l:=by
 show Mo.opt (strsD (l.map D.str))=_
 rw[zgu_];rfl
theorem ziX_:∀(l:List Int),intsD (l.map D.int)=uN l
 |[]=>rfl
 |c::l=>by rw[lj];unfold intsD;rw[ziX_ l];rfl
theorem zgs_ (key:List Nat->List Int):∀(l:Cds),intLs (l.map λc=>LS .int (key c))=uN (l.map key)
 |[]=>rfl
 |c::l=>by
  rw[lj];unfold intLs;rw[zgs_ key l];show(intsD ((key c).map D.int)).bind _=_
  rw[ziX_];rfl
theorem zoP_ {key:List Nat->List Int}{cols:List Int}{l:Cds}(h:LG l)(hk:∀c∈l,z9_.val [.str c,.fz (LS .int cols)]=.ok (LS .int (key c))):zC_.val [.fz (LS .str l),.fz (LS .int cols)]=.ok (LS .str (srtG key l)):=by
 refine zaP_ rfl rfl λpn hp=>?_
 unfold zaS_;show En (S.runs gi pn _ [uN (.fz (LS .str l)),uN (.fz (LS .int cols))]) _
 rw[zjY_ (d:=LS .str (srtG key l)) (e:=[uN (.fz (LS .str l)),uN (.fz (LS .int cols))]) ?_]
 ·fail "q"
 ·rw[zh1_,zoN_]
  have e0:getE [uN (.fz (LS .str l)),uN (.fz (LS .int cols))] 0=.ok (.fz (LS .str l)):=rfl;show keep (Mb (getE [uN (.fz (LS .str l)),uN (.fz (LS .int cols))] 0) _) _ _=_
  rw[e0,ze9_,zlo_,ze9_];have e1:compM (λx=>cond1 (.ok uP) ((X.call z9_ "ranks_at" [.v 0,.v 1]).ev gi (setE (cE ["card"] [("columns",1)] [uN (.fz (LS .str l)),uN (.fz (LS .int cols))]) [0] x))) (l.map λc=>[D.str c]) []=.ok (l.map λc=>LS .int (key c)):=by
   rw[zeK_ (p:=λ_=>uP) (f:=λc:List Nat=>c) (o:=λc=>LS .int (key c)) (λc hc=>?_) (by have:=h.1;simp;lia)]
   ·rw[qV.mpr λ_ _=>rfl,List.map_id'];rfl
   ·unfold cond1
    rw[ze9_,if_pos rfl,if_pos rfl]
    exists hk c hc
    rfl
  rw[Mo.grd_ok h.1,e1,ze9_];unfold srtK;rw[zgs_];show keep (Mo.grd _ _) _ _=_
  rw[Mo.grd_ok (by simp)]
  unfold srtG;have e2:((srtQ (l.map key) l.length).map λi=>D.str (l.getD i []))=((srtQ (l.map key) l.length).map λi=>l.getD i []).map D.str:=by rw[l8];rfl
  rw[e2];exact zab_ _ zaJ_
theorem zkI_ (l:Cds):srtG (λ_=>[]) l=l:=by
 have e:srtQ (l.map λ_=>([]:List Int)) l.length=mf l.length:=by
  refine(zbD_ (lo_q _) (sV _) ?_).symm;refine List.pairwise_lt_range.imp λ{a b} fP=>zg5_.mpr ⟨?_,.inr (nI fP)⟩
  have:∀i,(l.map λ_=>([]:List Int)).getD i []=[]:=λi=>by
   rw[lM,lu];cases l[i]?<;>rfl
  show HT.lexLt _ _=uQ
  rw[this,this];rfl
 unfold srtG;rw[e];apply ny;intro i;by_cases hi:i<l.length
 ·simp[hi]
 ·simp[mL,hi,pL hi]
def isF (f:Int×Int):Prop:=1<=f.1/\f.1<=f.2/\f.2<=36
def prt (c:Jx)(f:Int×Int):List Nat:=cutG c (uN (f.1-1)) (uN f.2)
def num (c:Jx)(f:Int×Int):Int:=numL ((prt c f).map fig)
def wd (f:Int×Int):Nat:=(f.2-f.1+1).toNat
def pun (c:Jx)(f:Int×Int)(v:Int):List Nat:=cutG c uO (uN (f.1-1))++digs (wd f) (v % 10 ^ wd f).toNat++cutG c (uN f.2) uO
theorem fold10 {α:Type}:∀(xs:List α) (a:Int),xs.foldl (λs _=>10*s) a=10 ^ xs.length*a
 |[],a=>by simp
 |x::xs,a=>by rw[oQ,fold10 xs,lg,pH,pO]
theorem zmj_ (l:Jx):joinS [] (strsL (l.map λc=>[c]))=l:=by
 have:=L2.zen_ l;unfold strsL;rw[l8];exact this
theorem ziq_:∀(l:Jx) (a:Int),(∀c∈l,48<=c/\c<=57)->0<=a->0<=l.foldl (λ(v:Int) (c:Nat)=>v*10+((c:Int)-48)) a/\l.foldl (λ(v:Int) (c:Nat)=>v*10+((c:Int)-48)) a<(a+1)*10 ^ l.length
 |[],a,_,h=>by simp;lia
 |c::l,a,hc,h=>by
  have h1:=hc c (lO ..);have:=ziq_ l (a*10+((c:Int)-48)) (λd hd=>hc d (lL _ hd)) (by lia)
  rw[oQ,lg];refine⟨this.1,rD this.2 ?_⟩;rw[pH,t7 (10 ^ l.length) 10,<- pO];exact Int.mul_le_mul_of_nonneg_right (by lia) (Int.pow_nonneg (by decide))
theorem zlk_ (c:Jx)(f:Int×Int)(h:c.length<=40):0<=num c f/\num c f<10 ^ 40:=by
 have h1:=ziq_ ((prt c f).map fig) 0 (λc hc=>by obtain⟨b,_,rfl⟩:=nL.mp hc;exact zeo_ b) (by decide)
 refine⟨h1.1,rD h1.2 ?_⟩;have h2:((prt c f).map fig).length<=40:=by rw[kX];exact mq (zai_ _ _ _) h
 rw[show(0:Int)+1=1 from rfl,Int.one_mul]
 have h3:10 ^ ((prt c f).map fig).length<=10 ^ 40:=qR (by decide) h2
 have e1:∀n:Nat,(10:Int) ^ n=((10 ^ n:Nat):Int):=λn=>by rw[oS];rfl
 rw[e1,e1];exact Int.ofNat_le.mpr h3
theorem zJ_ (n:Nat):(0:Int)<10 ^ n:=Int.pow_pos (by decide)
theorem zgt_ {v:Int}{n:Nat}(h0:0<=v)(h1:v<10 ^ n)(hn:n<=100):v.natAbs.log2<1920:=by
 have h2:v.natAbs<10 ^ n:=by
  have e1:(10:Int) ^ n=((10 ^ n:Nat):Int):=by rw[oS];rfl
  rw[e1]at h1;lia
 have h3:10 ^ n<=10 ^ 100:=qR (by decide) hn
 have h4:(10:Nat) ^ 100<2 ^ 1000:=by decide
 rcases log2_lt (lG (lG h2 h3) (nI h4))with q |q
 ·lia
 ·rw[q];decide
theorem zkO_ {f:Int×Int}(h:isF f):((wd f:Nat):Int)=f.2-f.1+1/\1<=wd f/\wd f<=36:=by unfold wd;obtain⟨a,b,c⟩:=h;lia
theorem zeA_ {c:List Nat}{f:Int×Int}(hc:c.length=40)(h:isF f):cutG c uO (uN (f.1-1))=c.take (f.1-1).toNat/\cutG c (uN f.2) uO=c.drop f.2.toNat:=by
 obtain⟨h1,h2,h3⟩:=h;exact⟨zfE_ (by lia),zew_ (by lia)⟩
theorem zmw_ {c:List Nat}{f:Int×Int}(hc:c.length=40)(h:isF f)(v:Int):(pun c f v).length=40:=by
 have hw:=zkO_ h;unfold pun;obtain⟨e1,e2⟩:=zeA_ hc h;obtain⟨h1,h2,h3⟩:=h;rw[e1,e2,lE,lE,zr_,mQ,mG,hc];lia
theorem zgR_ {w:Nat}{v:Int}(hw:1<=w)(h0:0<=v)(h1:v<10 ^ w):zfL (strI v) (w:Int)=digs w v.toNat:=by
 obtain⟨m,rfl⟩:=nA h0;rw[zdO_];have h2:m<10 ^ w:=by
  have e1:(10:Int) ^ w=((10 ^ w:Nat):Int):=by rw[oS];rfl
  rw[e1]at h1;lia
 exact zds_ hw h2
theorem zhX_ (v:Int){j w:Nat}(h:j<w):((v % 10 ^ w).toNat / 10 ^ j % 10:Nat)=(v / 10 ^ j % 10).toNat:=by
 have hp:=zJ_ j;have hw:=zJ_ w;obtain⟨d,rfl⟩:∃d,w=j+(d+1):=⟨w-j-1,by lia⟩
 have e0:v=v % 10 ^ (j+(d+1))+10 ^ j*(10*(10 ^ d*(v / 10 ^ (j+(d+1))))):=by
  have:=Int.emod_add_mul_ediv v (10 ^ (j+(d+1)));rw[<- pO 10,<- pO (10 ^ j),show(10:Int) ^ j*(10*10 ^ d)=10 ^ (j+(d+1)) by rw[Int.pow_add,pH];simp[t7,Int.mul_left_comm,pO]]
  lia
 have h0:0<=v % 10 ^ (j+(d+1)):=mm v (oN hw)
 generalize v % 10 ^ (j+(d+1))=m at *
 generalize (10 ^ d*(v / 10 ^ (j+(d+1))))=q at *
 subst e0;rw[Int.add_mul_ediv_left _ _ (oN hp),Int.add_mul_emod_self_left];obtain⟨n,rfl⟩:=nA h0;rw[qe,show(10:Int) ^ j=((10 ^ j:Nat):Int) by rw[oS];rfl]
 lia
theorem znt_ {d:Int}(h0:0<=d)(h1:d<10):strI d=[48+d.toNat]:=by
 obtain⟨m,rfl⟩:=nA h0;rw[zdO_,zqe_ (by lia)]
 rfl
def wval (c:Jx)(w:(Int×Int)×(Int×Int)×List Nat×(Int×Int)):Int:=
 if w.2.2.1=[112,108,117,115]then num c w.2.1+num c w.2.2.2 else if w.2.2.1=[108,101,115,115]then num c w.2.1-num c w.2.2.2 else num c w.2.1*num c w.2.2.2
def wkd (c:Jx)(w:(Int×Int)×(Int×Int)×List Nat×(Int×Int)):List Nat:=pun c w.1 (wval c w)
theorem zi4_ (c:Jx)(f g:Int×Int)(h:c.length<=40):IntMulOk (num c f) (num c g):=by
 have a:=zlk_ c f h;have b:=zlk_ c g h;have e:(10:Int) ^ 40<2 ^ 1000:=by decide
 exact znJ_ (by lia) (by lia)
theorem zot_ {c:List Nat}{f:Int×Int}(h:isF f):prt c f=(c.take f.2.toNat).drop (f.1-1).toNat:=by
 obtain⟨h1,h2,h3⟩:=h;unfold prt cutG;rw[zhz_ (by lia),zhz_ (by lia)]
 apply ny;intro i;rw[pC,pD,pD,pC];by_cases q:(f.1-1).toNat+i<f.2.toNat
 ·rw[if_pos q]
  by_cases r:(f.1-1).toNat+i<c.length
  ·rw[if_pos (by lia)]
   congr 1;lia
  ·split
   ·rw[mL (by lia),mL (by lia)]
   ·exact(mL (by lia)).symm
 ·rw[if_neg q,if_neg (by lia)]
abbrev Apart (f g:Int×Int):Prop:=f.2<g.1\/g.2<f.1
theorem zem_ {c:List Nat}{f:Int×Int}(h:isF f)(i:Nat):(prt c f)[i]?=if(f.1-1).toNat+i<f.2.toNat then c[(f.1-1).toNat+i]? else uO:=by
 rw[zot_ h,pD,pC]
theorem zg4_ {c:List Nat}{f:Int×Int}(hc:c.length=40)(h:isF f)(v:Int)(i:Nat):(pun c f v)[i]?=if(f.1-1).toNat<=i/\i<f.2.toNat then(digs (wd f) (v % 10 ^ wd f).toNat)[i-(f.1-1).toNat]? else c[i]?:=by
 have hw:=zkO_ h;unfold pun;obtain⟨e1,e2⟩:=zeA_ hc h;obtain⟨h1,h2,h3⟩:=h;rw[e1,e2,nu,qS,qS,mQ,zr_,hc,pC,pD];by_cases a:i<(f.1-1).toNat
 ·rw[if_pos (by lia),if_pos (by lia),if_neg (by lia)]
 ·rw[if_neg (by lia)]
  by_cases b:i<f.2.toNat
  ·rw[if_pos (by lia),if_pos (by lia)]
   congr 1;lia
  ·rw[if_neg (by lia),if_neg (by lia)]
   congr 1;lia
theorem zfo_ {c:List Nat}{f g:Int×Int}(hc:c.length=40)(h:isF f)(hg:isF g)(ha:Apart f g)(v:Int):prt (pun c f v) g=prt c g:=by
 apply ny;intro i;rw[zem_ hg,zem_ hg,zg4_ hc h];obtain⟨h1,h2,h3⟩:=h;obtain⟨g1,g2,g3⟩:=hg;by_cases a:(g.1-1).toNat+i<g.2.toNat
 ·rw[if_pos a,if_pos a,if_neg (by lia)]
 ·rw[if_neg a,if_neg a]
theorem ziv_ {c:List Nat}{f:Int×Int}(hc:c.length=40)(h:isF f)(v:Int):prt (pun c f v) f=digs (wd f) (v % 10 ^ wd f).toNat:=by
 have hw:=zkO_ h;apply ny;intro i;rw[zem_ h,zg4_ hc h];obtain⟨h1,h2,h3⟩:=h;by_cases a:(f.1-1).toNat+i<f.2.toNat
 ·rw[if_pos a,if_pos (by lia)]
  congr 1;lia
 ·rw[if_neg a,mL]
  rw[zr_];lia
theorem zj1_ {c:List Nat}{f:Int×Int}(hc:c.length=40)(h:isF f){v:Int}(e:prt c f=digs (wd f) (v % 10 ^ wd f).toNat):pun c f v=c:=by
 have hw:=zkO_ h;apply ny;intro i;rw[zg4_ hc h,<- e,zem_ h];obtain⟨h1,h2,h3⟩:=h;by_cases a:(f.1-1).toNat<=i/\i<f.2.toNat
 ·rw[if_pos a,if_pos (by lia)]
  congr 1;lia
 ·rw[if_neg a]
theorem zee_ {c:List Nat}{w:Wk}(hc:c.length=40)(h:isF w.1):(wkd c w).length=40:=zmw_ hc h _
theorem zln_ {c d:List Nat}{w:Wk}(h1:prt c w.2.1=prt d w.2.1)(h2:prt c w.2.2.2=prt d w.2.2.2):wval c w=wval d w:=by unfold wval num;rw[h1,h2]
theorem zoz_ (d:Nat):max 0 (findS Qm1 [d])=(fig d:Int)-48:=by
 by_cases h:48<=d/\d<=57
 ·rw[zc7_ h,show fig d=d from if_pos h];omega
 ·rw[zd5_ h,show fig d=48 from if_neg h];rfl
def FG:List Nat:=Qm1
theorem znS_ (c:Nat):inA uQ (.str [c]) (.str Qm1)=.ok (.bl (decide (48<=c/\c<=57))):=by
 show Mq (D.bl (inS [c] Qm1))=_
 rw[zhO_]
theorem fg_ix {c:Nat}(h:48<=c/\c<=57):indexD Qm1 [.str [c]]=.ok (.int ((c:Int)-48)):=by
 show Mo.grd _ _=_
 rw[zc7_ h,Mo.grd_ok (by lia)]
theorem smf_i (l:Jx)(ds:List D):Sm.f .index l ds=indexD l ds:=rfl
theorem smf_j (l:Jx)(ds:List D):Sm.f .join l ds=joinD l ds:=rfl
theorem zpS_ (l:Jx)(ds:List D):Sm.f .zfill l ds=zfillD l ds:=rfl
theorem zcd_ (l:Jx):strOf (.str l)=.ok l:=rfl
theorem zqb_ (l:Jx)(hl:l.length<=1000)(h:∀c∈l,48<=c/\c<=57):zbl_.val [.str l]=.ok (.int (numL l)):=by
 refine zaP_ rfl rfl λpn hp=>?_
 unfold zbi_;rw[zW_ (d:=.int 0) (by exists hp) (hp _)]
 refine zcj_ (l:=l) (enc:=λc=>[.str [c]]) (d:=.str l) (items:=l.map λc=>.str [c]) (λd e=>∃o,e=[uN (.str l),uN (.int (numL d)),o]) (by exists hp) (by exists zdG_) (zba_ _ _) ⟨uO,rfl⟩ (λd c r e hd he=>?_) λe he=>?_
 ·obtain⟨o,rfl⟩:=he
  have hc:=h c (by rw[hd];simp)
  refine⟨[uN (.str l),uN (.int (numL d)),uN (.str [c])],(by exists hp),?_⟩
  rw[zW_ (d:=.int (numL (d++[c]))) ?_ (hp _)]
  ·exact⟨_,_,rfl,.inl ⟨.inl rfl,_,rfl⟩⟩
  ·have e:numL (d++[c])=numL d*10+((c:Int)-48):=by unfold numL;rw[pI];rfl
   exists zkR_,zcd_,smf_i,fg_ix hc,e
 ·obtain⟨o,rfl⟩:=he
  exists hp
  fail "q"
theorem zqj_ {n:Int}(h0:0<=n)(h1:n<=1000):zcn_.val [.int n]=.ok (.int (10 ^ n.toNat)):=by
 refine zaP_ rfl rfl λpn hp=>?_
 unfold zd1_;rw[zW_ (d:=.int 1) (by exists hp) (hp _)]
 refine zcj_ (l:=mf n.toNat) (enc:=λi:Nat=>[.int (0+(i:Int))]) (d:=.int n) (λd e=>∃o,e=[uN (.int n),uN (.int (10 ^ d.length)),o]) (by exists hp) (rg1 h0 (by lia)) (zba_ _ _) ⟨uO,rfl⟩ (λd j r e hd he=>?_) λe he=>?_
 ·obtain⟨o,rfl⟩:=he
  refine⟨[uN (.int n),uN (.int (10 ^ d.length)),uN (.int (0+(j:Int)))],(by exists hp),?_⟩
  rw[zW_ (d:=.int (10 ^ (d++[j]).length)) ?_ (hp _)]
  ·exact⟨_,_,rfl,.inl ⟨.inl rfl,_,rfl⟩⟩
  ·have e:(10:Int) ^ (d++[j]).length=10 ^ d.length*10:=by rw[lE,m9,pH]
   exists hp,e
 ·obtain⟨o,rfl⟩:=he
  rw[mr]
  exists hp
  fail "q"
theorem zqR_ (f:Fd):zaZ_.val [F2 f]=.ok (.int (f.2-f.1+1)):=by
 refine zaP_ rfl rfl λpn hp=>?_
 unfold zbL_
 exists hp,F2_0,F2_1
 fail "q"
theorem zmn_ (m:Jx)(h:m.length<=1000):joinD [] [.fz (LS .str (m.map λx=>[x]))]=.ok (.str m):=by
 show(Mo.opt (strsD ((m.map λx=>[x]).map D.str))).bind _=_
 rw[zgu_];show Mo.grd _ _=_
 rw[Mo.grd_ok (zdV_ (by unfold strsL;rw[kX,kX];show m.length*(0+1)<=_;lia) ?_)]
 ·congr 2
  have:=L2.zen_ m;unfold strsL;rw[l8];exact this
 ·intro z hz
  obtain⟨t,ht,rfl⟩:=nL.mp hz;obtain⟨x,_,rfl⟩:=nL.mp ht;exact kZ 1
theorem zmr_ {c:List Nat}{f:Fd}(h:c.length<=1000):zay_.val [.str c,F2 f]=.ok (.int (num c f)):=by
 refine zaP_ rfl rfl λpn hp=>?_
 unfold zbd_;have hl:(prt c f).length<=1000:=mq (zai_ _ _ _) h;have e1:X.ev gi [uN (.str c),uN (F2 f),uO] (.comp ["sign"] [] .any [(X.call zbA_ "part_of" [(.v 0),(.v 1)])] ⟨uQ,[0]⟩ uO (.ifx (.bin .inn (.v 0) (.g "FIGURES" (.str Qm1))) (.v 0) (.k (.str [48]))))=.ok (LS .str ((prt c f).map λx=>[fig x])):=by
  refine xcompN (f:=λx:Nat=>[fig x]) (o:=.str) (T:=λx=>[.str [x]]) (items:=(prt c f).map λx=>.str [x]) (prt c f) rfl ?_ (zba_ _ _) (λx hx=>?_) (by lia)
  ·have:=zmv_ (f:=f) h
   exists zci_,this,zdG_
   rfl
  ·unfold fig
   by_cases q:48<=x/\x<=57
   ·exists znS_,decide_eq_true q,if_pos q
   ·exists znS_,decide_eq_false q,if_neg q
 rw[zW_ (d:=LS .str ((prt c f).map λx=>[fig x])) (by rw[zh1_];show keep (X.ev gi [uN (.str c),uN (F2 f),uO] _) _ _=_;rw[e1];exact zab_ _ zaJ_) (hp _)]
 have e2:(prt c f).map (λx=>[fig x])=((prt c f).map fig).map λx=>[x]:=by rw[l8];rfl
 rw[e2];have e3:=zqb_ ((prt c f).map fig) (by rw[kX];exact hl) (λc hc=>by obtain⟨b,_,rfl⟩:=nL.mp hc;exact zeo_ b)
 have e4:=zmn_ ((prt c f).map fig) (by rw[kX];exact hl)
 exists hp,zkR_,zcd_,smf_j,e4,e3
 fail "q"
theorem zn5_ {c:List Nat}{f:Fd}(hc:c.length=40)(h:isF f)(v:Int):za4_.val [.str c,F2 f,.int v]=.ok (.str (pun c f v)):=by
 refine zaP_ rfl rfl λpn hp=>?_
 unfold zbJ_;obtain⟨w1,w2,w3⟩:=zkO_ h;have m0:=mm v (oN (zJ_ (wd f)));have m1:=mx v (zJ_ (wd f));have et:zcn_.val [.int (f.2-f.1+1)]=.ok (.int (10 ^ wd f)):=zqj_ (by lia) (by lia)
 have es:strD [.int (v % 10 ^ wd f)]=.ok (.str (strI (v % 10 ^ wd f))):=by show Mo.grd _ _=_;rw[Mo.grd_ok (zgt_ m0 m1 (by lia))]
 have ez:zfillD (strI (v % 10 ^ wd f)) [.int (f.2-f.1+1)]=.ok (.str (digs (wd f) (v % 10 ^ wd f).toNat)):=by
  show Mo.grd _ _=_
  rw[Mo.grd_ok (zbg_ (by lia) (by lia)),<- w1,zgR_ w2 m0 m1]
 have ea:=zb9_ (lo:=uO) (hi:=uN (f.1-1)) (show c.length<=1000 by lia)
 have eb:=zb9_ (lo:=uN f.2) (hi:=uO) (show c.length<=1000 by lia)
 have l1:=zai_ c uO (uN (f.1-1));have l2:=zai_ c (uN f.2) uO;have l3:=zr_ (wd f) (v % 10 ^ wd f).toNat;have a1:addA (.str (cutG c uO (uN (f.1-1)))) (.str (digs (wd f) (v % 10 ^ wd f).toNat))=.ok (.str (cutG c uO (uN (f.1-1))++digs (wd f) (v % 10 ^ wd f).toNat)):=by show Mo.lim _ _=_;rw[Mo.lim_ok (by lia)]
 have a2:addA (.str (cutG c uO (uN (f.1-1))++digs (wd f) (v % 10 ^ wd f).toNat)) (.str (cutG c (uN f.2) uO))=.ok (.str (pun c f v)):=by show Mo.lim _ _=_;rw[Mo.lim_ok (by rw[lE];lia)];rfl
 exists hp,zci_,zqR_,et,vd_mod (zJ_ (wd f)),zkR_,zcd_,zpS_,es,ez,F2_0,F2_1,ea,eb,a1,a2
 fail "q"
theorem zqx_ {c:List Nat}{w:Wk}(hc:c.length=40)(h:isF w.1):zbo_.val [.str c,WK w]=.ok (.str (wkd c w)):=by
 refine zaP_ rfl rfl λpn hp=>?_
 unfold zbe_;have n1:=zmr_ (c:=c) (f:=w.2.1) (by lia)
 have n2:=zmr_ (c:=c) (f:=w.2.2.2) (by lia)
 rw[zW_ (d:=.int (num c w.2.1)) (by exists zcZ_,WK_1,zci_,n1) (hp _)]
 rw[zW_ (d:=.int (num c w.2.2.2)) (by exists zcZ_,WK_3,zci_,n2) (hp _)]
 have pu:=zn5_ (v:=wval c w) hc h;have fin:En (S.runs gi pn [.ret (.pu (.call za4_ "punch_in" [(.v 0),(.i (.v 1) 0),(.v 4)]))] [uN (.str c),uN (WK w),uN (.int (num c w.2.1)),uN (.int (num c w.2.2.2)),uN (.int (wval c w))]) λo _=>o=.rt (.str (wkd c w))\/(o=.nx/\D.str (wkd c w)=.non):=by
  exists zcZ_,WK_0,zci_,pu
  fail "q"
 have e1:=zc9_ (neg:=uQ) w.2.2.1 [112,108,117,115];have e2:=zc9_ (neg:=uQ) w.2.2.1 [108,101,115,115];by_cases q1:w.2.2.1=[112,108,117,115]
 ·rw[decide_eq_true q1]at e1
  rw[zdJ_ (by exists zcZ_,WK_2,e1)]
  have ev:wval c w=num c w.2.1+num c w.2.2.2:=by unfold wval;rw[if_pos q1]
  rw[mT,zW_ (d:=.int (wval c w)) (by exists ev) (hp _)]
  exact fin
 ·rw[decide_eq_false q1]at e1
  rw[zb6_ (by exists zcZ_,WK_2,e1)]
  rw[mT];by_cases q2:w.2.2.1=[108,101,115,115]
  ·rw[decide_eq_true q2]at e2
   rw[zdJ_ (by exists zcZ_,WK_2,e2)]
   have ev:wval c w=num c w.2.1-num c w.2.2.2:=by unfold wval;rw[if_neg q1,if_pos q2]
   rw[mT,zW_ (d:=.int (wval c w)) (by exists ev) (hp _)]
   exact fin
  ·rw[decide_eq_false q2]at e2
   rw[zb6_ (by exists zcZ_,WK_2,e2)]
   have ev:wval c w=num c w.2.1*num c w.2.2.2:=by unfold wval;rw[if_neg q1,if_neg q2]
   rw[mT,zW_ (d:=.int (wval c w)) (by exists zin_ (zi4_ c w.2.1 w.2.2.2 (by lia)),ev) (hp _)]
   exact fin
def wks (ws:List Wk)(c:Jx):List Nat:=ws.foldl wkd c
theorem zf8_ {ws:List Wk}(h:∀w∈ws,isF w.1):∀{c:List Nat},c.length=40->(wks ws c).length=40:=by
 induction ws with
 |nil=>exact λhc=>hc
 |cons w ws ih=>intro c hc;exact ih (λx hx=>h x (lL _ hx)) (zee_ hc (h w lO))
theorem zpA_ {n m:Nat}{body:List S}{ds:List D}{d:D}{e:VI.Env}(hl:ds.length=n)(hc:D.colds ds=uP)(h:S.runs gi (pins ds) body (ds.map uN++lJ m uO)=.ok (.rt d) e):fnOf gi n m body ds=.ok d ds:=by
 unfold fnOf;rw[if_pos hl,h];show Mr.ok d (outs ds e)=_
 rw[za2_ hc]
theorem znp_ {v:Int}(h0:0<=v)(h1:v<10000):v.natAbs.log2<1920/\(zfL (strI v) 4).length=4:=by
 obtain⟨m,rfl⟩:=nA h0;have hm:m<10000:=by lia
 have e:zfL (strI (m:Int)) 4=digs 4 m:=by
  unfold zfL;rw[zdO_];exact zds_ (w:=4) (by decide) (by lia)
 refine⟨?_,by rw[e,zr_]⟩
 have:Int.natAbs (m:Int)=m:=by lia
 rw[this];by_cases h:m=0
 ·subst h;decide
 ·have:m.log2<14:=(Nat.log2_lt h).mpr (by lia)
  lia
theorem str_int {k:Int}(h:k.natAbs.log2<1920):strD [.int k]=.ok (.str (strI k)):=by
 show Mo.grd _ _=_
 rw[Mo.grd_ok h]
theorem zf_4 (l:Jx):zfillD l [.int 4]=.ok (.str (zfL l 4)):=by
 show Mo.grd _ _=_
 rw[Mo.grd_ok (zbg_ (by lia) (by lia))]
theorem ziU_ {c:List Nat}{f:Fd}(h:c.length<=1000):zah_.val [.str c,F2 f]=.ok (.int (num c f)):=by
 refine zaP_ rfl rfl λpn hp=>?_
 unfold zat_;rw[zW_ (d:=.int 0) (by exists hp) (hp _)]
 have hl:(prt c f).length<=1000:=mq (zai_ _ _ _) h;have es:slA (.str c) (uN (f.1-1)) (uN f.2)=.ok (.str (prt c f)):=zb9_ h;refine zcj_ (l:=prt c f) (enc:=λx=>[.str [x]]) (d:=.str (prt c f)) (items:=(prt c f).map λx=>.str [x]) (λd e=>∃o,e=[uN (.str c),uN (F2 f),uN (.int (numL (d.map fig))),o]) (by exists zci_,F2_0,F2_1,es) (by exists zdG_) (zba_ _ _) ⟨uO,rfl⟩ (λd x r e hd he=>?_) λe he=>?_
 ·obtain⟨o,rfl⟩:=he
  refine⟨[uN (.str c),uN (F2 f),uN (.int (numL (d.map fig))),uN (.str [x])],(by exists hp),?_⟩
  have en:numL ((d++[x]).map fig)=numL (d.map fig)*10+((fig x:Int)-48):=by unfold numL;rw[om,pI];rfl
  have em:mulD (.int 10) (.int (numL (d.map fig)))=.ok (.int (10*numL (d.map fig))):=zfg_ (by decide) (by decide)
  rw[zW_ (d:=.int (10*numL (d.map fig))) (by exists em) (hp _)]
  by_cases q:48<=x/\x<=57
  ·rw[zdJ_ (by exists znS_,decide_eq_true q)]
   rw[mT,zW_ (d:=.int (numL ((d++[x]).map fig))) ?_ (hp _)]
   ·exact⟨_,_,rfl,.inl ⟨.inl rfl,_,rfl⟩⟩
   ·have e2:numL ((d++[x]).map fig)=10*numL (d.map fig)+((x:Int)-48):=by rw[en,show fig x=x from if_pos q];lia
    exists zkR_,zcd_,smf_i,fg_ix q,e2
  ·rw[zb6_ (by exists znS_,decide_eq_false q)]
   refine⟨_,_,rfl,.inl ⟨.inl rfl,uN (.str [x]),?_⟩⟩;have e2:numL ((d++[x]).map fig)=10*numL (d.map fig):=by rw[en,show fig x=48 from if_neg q];lia
   rw[e2];rfl
 ·obtain⟨o,rfl⟩:=he
  exists hp
  fail "q"
theorem zjz_ (v:Int)(k:Nat):digs (k+1) (v % 10 ^ (k+1)).toNat=(48+(v / 10 ^ k % 10).toNat)::digs k (v % 10 ^ k).toNat:=by
 rw[zdm_,zhX_ v (o7 k)];congr 1;rw[<- zfu_ k (v % 10 ^ (k+1)).toNat];congr 1;have p1:=zJ_ k;have p2:=zJ_ (k+1);have a:=mm v (oN p2);have e1:(((v % 10 ^ (k+1)).toNat % 10 ^ k:Nat):Int)=v % 10 ^ k:=by
  rw[Int.natCast_emod,Int.toNat_of_nonneg a,oS];exact Int.emod_emod_of_dvd v ⟨10,by rw[pH];rfl⟩
 have b:=mm v (oN p1);lia
theorem fg_at {d:Int}(h0:0<=d)(h1:d<10):ixA (.str Qm1) (.int d)=.ok (.str [48+d.toNat]):=by
 obtain⟨n,rfl⟩:=nA h0;have:n=0\/n=1\/n=2\/n=3\/n=4\/n=5\/n=6\/n=7\/n=8\/n=9:=by lia
 rcases this with rfl |rfl |rfl |rfl |rfl |rfl |rfl |rfl |rfl |rfl<;>rfl
theorem zbG_ (c:Int){lo m:Int}(hm:0<m)(kx:m<1000):∃f:Fd,zao_.val [.int c,.int lo,.int m]=.ok (F2 f)/\lo<=f.1/\f.1<=f.2/\f.2<=lo+m-1:=by
 have a0:=mm c (oN hm);have a1:=mx c hm;have hq:0<lo+m-(lo+c % m):=by lia
 have b0:=mm (c / m) (oN hq);have b1:=mx (c / m) hq;refine⟨(lo+c % m,lo+c % m+c / m % (lo+m-(lo+c % m))),?_,by show lo<=lo+c % m;lia,by show lo+c % m<=_;lia,by show lo+c % m+_<=_;lia⟩
 refine zaP_ rfl rfl λpn hp=>?_
 unfold zap_;rw[zW_ (d:=.int (lo+c % m)) (by exists vd_mod hm) (hp _)]
 exists zi2_ hm (by lia),vd_mod hq
 fail "q"
theorem zje_ (c:Int){k:Int}(gJ:0<=k)(eO:k<10000):∃t,zx_.val [.int c,.int k]=.ok (.str t)/\t.length=40:=by
 have key:∀pn:Nat->Bool,(∀i,pn i=uQ)->En (S.runs gi pn zS_ ([.int c,.int k].map uN++lJ 2 uO)) λo _=>∃t,o=.rt (.str t)/\t.length=40:=λpn hp=>by
  unfold zS_;have p0:(0:Int)<10 ^ 36:=by decide
  have m0:=mm c (oN p0);have m1:=mx c p0;have ep:powD (.int 10) (.int 36)=.ok (.int (10 ^ 36)):=by
   show Mo.grd _ _=_
   rw[Mo.grd_ok (by decide)];rfl
  have es:strD [.int (c % 10 ^ 36)]=.ok (.str (strI (c % 10 ^ 36))):=by show Mo.grd _ _=_;rw[Mo.grd_ok (zgt_ (n:=36) m0 m1 (by lia))]
  have ez:zfillD (strI (c % 10 ^ 36)) [.int 36]=.ok (.str (digs 36 (c % 10 ^ 36).toNat)):=by
   show Mo.grd _ _=_
   rw[Mo.grd_ok (zbg_ (by lia) (by lia))]
   have:=zgR_ (w:=36) (v:=c % 10 ^ 36) (by decide) m0 m1
   exact congrArg (λl=>Mq (D.str l)) this
  rw[zW_ (d:=.str (digs 36 (c % 10 ^ 36).toNat)) (by exists ep,vd_mod p0,zkR_,zcd_,zpS_,es,ez) (hp _)]
  have hl:=zr_ 36 (c % 10 ^ 36).toNat
  generalize digs 36 (c % 10 ^ 36).toNat=t at hl
  have a0:=mm (c / 4) (show(36:Int)≠0 by lia)
  have a1:=mx (c / 4) (show(0:Int)<36 by lia)
  rw[zW_ (d:=.int (c / 4 % 36)) (by exists hp) (hp _)]
  obtain⟨jf,m2'⟩:=znp_ gJ eO;have fin:∀(u:Jx),u.length=36->En (S.runs gi pn [.ret (.pu (.bin .add (.v 2) (.sm .zfill (.bf .str [(.v 1)]) [(.n 4)])))] [uN (.int c),uN (.int k),uN (.str u),uN (.int (c / 4 % 36))]) λo _=>∃t,o=.rt (.str t)/\t.length=40:=λu hu=>by
   have ea:addA (.str u) (.str (zfL (strI k) 4))=.ok (.str (u++zfL (strI k) 4)):=by show Mo.lim _ _=_;rw[Mo.lim_ok (by lia)]
   exists hp,zkR_,zcd_,zpS_,str_int jf,zf_4,ea
   exact⟨_,_,rfl,u++zfL (strI k) 4,rfl,by rw[lE];lia⟩
  have b0:=mm c (show(4:Int)≠0 by lia)
  have b1:=mx c (show(0:Int)<4 by lia)
  by_cases q:0<c % 4
  ·rw[zdJ_ (by exists decide_eq_true q)]
   obtain⟨s,eS⟩:∃s,ixA (.str [32,90,65]) (.int (c % 4-1))=.ok (.str [s]):=by
    have:c % 4=1\/c % 4=2\/c % 4=3:=by lia
    rcases this with e |e |e<;>rw[e]<;>exact⟨_,rfl⟩
   have s1:=zb9_ (c:=t) (lo:=uO) (hi:=uN (c / 4 % 36)) (by lia)
   have s2:=zb9_ (c:=t) (lo:=uN (c / 4 % 36+1)) (hi:=uO) (by lia)
   rw[zfE_ a0]at s1;rw[zew_ (show(0:Int)<=c / 4 % 36+1 by lia)]at s2
   have l1:(t.take (c / 4 % 36).toNat).length=(c / 4 % 36).toNat:=by rw[mQ];lia
   have l2:(t.drop (c / 4 % 36+1).toNat).length=36-(c / 4 % 36+1).toNat:=by rw[mG];lia
   have d1:addA (.str (t.take (c / 4 % 36).toNat)) (.str [s])=.ok (.str (t.take (c / 4 % 36).toNat++[s])):=by show Mo.lim _ _=_;rw[Mo.lim_ok (by simp;lia)]
   have d2:addA (.str (t.take (c / 4 % 36).toNat++[s])) (.str (t.drop (c / 4 % 36+1).toNat))=.ok (.str (t.take (c / 4 % 36).toNat++[s]++t.drop (c / 4 % 36+1).toNat)):=by show Mo.lim _ _=_;rw[Mo.lim_ok (by simp;lia)]
   rw[mT,zW_ (d:=.str (t.take (c / 4 % 36).toNat++[s]++t.drop (c / 4 % 36+1).toNat)) (by exists s1,s2,eS,d1,d2) (hp _)]
   exact fin _ (by rw[lE,lE,l1,l2,m9];lia)
  ·rw[zb6_ (by exists decide_eq_false q)]
   exact fin t hl
 have hf:zx_=fnOf gi 2 2 zS_:=rfl;obtain⟨o,e,h1,t,rfl,h2⟩:=key (pins [.int c,.int k]) (zex_ rfl);exact⟨t,by rw[hf];exact zmi_ (zpA_ rfl rfl h1),h2⟩
theorem asgW {pn:Nat->Bool}(hp:∀i,pn i=uQ)(c:Jx)(w:Wk)(ss:List S):S.runs gi pn (.asgT ⟨uP,[2,3,4,5]⟩ (.v 1)::ss) [uN (.str c),uN (WK w),uO,uO,uO,uO,uO,uO,uO]=S.runs gi pn ss [uN (.str c),uN (WK w),uN (F2 w.1),uN (F2 w.2.1),uN (.str w.2.2.1),uN (F2 w.2.2.2),uO,uO,uO]:=by
 have e:S.run gi pn (.asgT ⟨uP,[2,3,4,5]⟩ (.v 1)) [uN (.str c),uN (WK w),uO,uO,uO,uO,uO,uO,uO]=.ok .nx [uN (.str c),uN (WK w),uN (F2 w.1),uN (F2 w.2.1),uN (.str w.2.2.1),uN (F2 w.2.2.2),uO,uO,uO]:=by
  rw[S.run];have e1:stX gi [uN (.str c),uN (WK w),uO,uO,uO,uO,uO,uO,uO] (.v 1)=.ok (WK w) [uN (.str c),uN (WK w),uO,uO,uO,uO,uO,uO,uO]:=rfl;rw[e1];show(match setG pn [uN (.str c),uN (WK w),uO,uO,uO,uO,uO,uO,uO] [2,3,4,5] [F2 w.1,F2 w.2.1,.str w.2.2.1,F2 w.2.2.2]with |some e'=>Mr.ok Fl.nx e' |none=>.no)=_
  have v:∀l,(D.str l).vw=.str l:=λ_=>rfl
  simp[setG,hp,zci_,v]
 rw[S.runs,e,zfb_]
theorem zjx_ {c:List Nat}{w:Wk}(hc:c.length=40)(h:isF w.1)(hw:w.2.2.1∈WWo):zH_.val [.str c,WK w]=.ok (.str (wkd c w)):=by
 refine zaP_ rfl rfl λpn hp=>?_
 unfold zak_;refine(congrArg (λr=>En r _) (asgW hp c w _)).mpr ?_
 have n1:=ziU_ (c:=c) (f:=w.2.1) (by lia)
 have n2:=ziU_ (c:=c) (f:=w.2.2.2) (by lia)
 rw[zW_ (d:=.int (num c w.2.1+num c w.2.2.2)) (by exists zci_,n1,n2) (hp _)]
 have e1:=zc9_ (neg:=uQ) w.2.2.1 [108,101,115,115];have e2:=zc9_ (neg:=uQ) w.2.2.1 [116,105,109,101,115];have fin:En (S.runs gi pn [.asg 7 (.pu (.k (.str []))),.for_ .r1 [(.bin .add (.bin .sub (.i (.v 2) 1) (.i (.v 2) 0)) (.n 1))] ⟨uQ,[8]⟩ [.asg 7 (.pu (.bin .add (.bin .ix (.k (.str Qm1)) (.bin .mod (.v 6) (.n 10))) (.v 7))),.asg 6 (.pu (.bin .div (.v 6) (.n 10)))],.ret (.pu (.bin .add (.bin .add (.sl (.v 0) uO (uN (.bin .sub (.i (.v 2) 0) (.n 1)))) (.v 7)) (.sl (.v 0) (uN (.i (.v 2) 1)) uO)))] [uN (.str c),uN (WK w),uN (F2 w.1),uN (F2 w.2.1),uN (.str w.2.2.1),uN (F2 w.2.2.2),uN (.int (wval c w)),uO,uO]) λo _=>o=.rt (.str (wkd c w))\/(o=.nx/\D.str (wkd c w)=.non):=by
  obtain⟨w1,w2,w3⟩:=zkO_ h;rw[zW_ (d:=.str []) (by exists hp) (hp _)]
  have ew:(w.1.2-w.1.1+1).toNat=wd w.1:=rfl;have er:rng1D [.int (w.1.2-w.1.1+1)]=_:=rg1 (by lia) (by lia)
  refine zcj_ (l:=mf (w.1.2-w.1.1+1).toNat) (enc:=λi:Nat=>[.int (0+(i:Int))]) (d:=.int (w.1.2-w.1.1+1)) (λd e=>∃o,e=[uN (.str c),uN (WK w),uN (F2 w.1),uN (F2 w.2.1),uN (.str w.2.2.1),uN (F2 w.2.2.2),uN (.int (wval c w / 10 ^ d.length)),uN (.str (digs d.length (wval c w % 10 ^ d.length).toNat)),o]) (by exists zci_,F2_0,F2_1) er (zba_ _ _) ⟨uO,by rw[show(([]:Jx).length)=0 from rfl,Int.pow_zero,tL];rfl⟩ (λd j r e hd he=>?_) λe he=>?_
  ·obtain⟨o,rfl⟩:=he
   have iM:d.length<36:=by
    have:=congrArg qN hd;rw[mr,lE,lg]at this;lia
   refine⟨[uN (.str c),uN (WK w),uN (F2 w.1),uN (F2 w.2.1),uN (.str w.2.2.1),uN (F2 w.2.2.2),uN (.int (wval c w / 10 ^ d.length)),uN (.str (digs d.length (wval c w % 10 ^ d.length).toNat)),uN (.int (0+(j:Int)))],(by exists hp),?_⟩
   have f1:=fg_at (mm (wval c w / 10 ^ d.length) (show(10:Int)≠0 by lia)) (mx (wval c w / 10 ^ d.length) (show(0:Int)<10 by lia))
   have ll:=zr_ d.length (wval c w % 10 ^ d.length).toNat;have a1:addA (.str [48+(wval c w / 10 ^ d.length % 10).toNat]) (.str (digs d.length (wval c w % 10 ^ d.length).toNat))=.ok (.str (digs (d.length+1) (wval c w % 10 ^ (d.length+1)).toNat)):=by
    show Mo.lim _ _=_
    rw[Mo.lim_ok (by rw[ll];simp;lia),zjz_];rfl
   rw[zW_ (d:=.str (digs (d.length+1) (wval c w % 10 ^ (d.length+1)).toNat)) (by exists f1,a1) (hp _)]
   have ed:wval c w / 10 ^ d.length / 10=wval c w / 10 ^ (d.length+1):=by rw[pH,Int.ediv_ediv_of_nonneg (Int.le_of_lt (zJ_ _))]
   rw[zW_ (d:=.int (wval c w / 10 ^ (d.length+1))) (by exists ed) (hp _)]
   refine⟨_,_,rfl,.inl ⟨.inl rfl,uN (.int (0+(j:Int))),?_⟩⟩;rw[lE,m9];rfl
  ·obtain⟨o,rfl⟩:=he
   rw[mr,ew];have ea:=zb9_ (lo:=uO) (hi:=uN (w.1.1-1)) (show c.length<=1000 by lia)
   have eb:=zb9_ (lo:=uN w.1.2) (hi:=uO) (show c.length<=1000 by lia)
   have l1:=zai_ c uO (uN (w.1.1-1));have l2:=zai_ c (uN w.1.2) uO;have l3:=zr_ (wd w.1) (wval c w % 10 ^ wd w.1).toNat;have a1:addA (.str (cutG c uO (uN (w.1.1-1)))) (.str (digs (wd w.1) (wval c w % 10 ^ wd w.1).toNat))=.ok (.str (cutG c uO (uN (w.1.1-1))++digs (wd w.1) (wval c w % 10 ^ wd w.1).toNat)):=by show Mo.lim _ _=_;rw[Mo.lim_ok (by lia)]
   have a2:addA (.str (cutG c uO (uN (w.1.1-1))++digs (wd w.1) (wval c w % 10 ^ wd w.1).toNat)) (.str (cutG c (uN w.1.2) uO))=.ok (.str (wkd c w)):=by show Mo.lim _ _=_;rw[Mo.lim_ok (by rw[lE];lia)];rfl
   exists zci_,F2_0,F2_1,ea,eb,a1,a2
   fail "q"
 rcases(show w.2.2.1=[112,108,117,115]\/w.2.2.1=[108,101,115,115]\/w.2.2.1=[116,105,109,101,115]from by unfold WWo at hw;simpa using hw)with q |q |q
 ·have ev:wval c w=num c w.2.1+num c w.2.2.2:=by unfold wval;rw[if_pos q]
  rw[decide_eq_false (by rw[q];decide)]at e1 e2
  rw[zb6_ (by exists e1)]
  show En (S.runs gi pn (S.if_ _ _ _::_) _) _
  rw[zb6_ (by exists e2),<- ev]
  exact fin
 ·have ev:wval c w=num c w.2.1-num c w.2.2.2:=by unfold wval;rw[if_neg (by rw[q];decide),if_pos q]
  rw[decide_eq_true q]at e1;rw[decide_eq_false (by rw[q];decide)]at e2
  rw[zdJ_ (by exists e1)]
  show En (S.runs gi pn (S.asg _ _::_) _) _
  rw[zW_ (d:=.int (wval c w)) (by exists zci_,n1,n2,ev) (hp _)]
  show En (S.runs gi pn (S.if_ _ _ _::_) _) _
  rw[zb6_ (by exists e2)]
  exact fin
 ·have ev:wval c w=num c w.2.1*num c w.2.2.2:=by unfold wval;rw[if_neg (by rw[q];decide),if_neg (by rw[q];decide)]
  rw[decide_eq_false (by rw[q];decide)]at e1
  rw[decide_eq_true q]at e2;rw[zb6_ (by exists e1)]
  show En (S.runs gi pn (S.if_ _ _ _::_) _) _
  rw[zdJ_ (by exists e2)]
  show En (S.runs gi pn (S.asg _ _::_) _) _
  rw[zW_ (d:=.int (wval c w)) (by exists zci_,n1,n2,zin_ (zi4_ c w.2.1 w.2.2.2 (by lia)),ev) (hp _)]
  exact fin
theorem zfz_ {c:List Nat}{u w:Wk}(hc:c.length=40)(hu:isF u.1)(h1:isF w.2.1)(h2:isF w.2.2.2)(a1:Apart u.1 w.2.1)(a2:Apart u.1 w.2.2.2):wval (wkd c u) w=wval c w:=
 zln_ (zfo_ hc hu h1 a1 _) (zfo_ hc hu h2 a2 _)
theorem ziL_ {c:List Nat}{w:Wk}(hc:c.length=40)(h:isF w.1)(e:prt c w.1=digs (wd w.1) (wval c w % 10 ^ wd w.1).toNat):wkd c w=c:=zj1_ hc h e
theorem again1 {c:List Nat}{w:Wk}(hc:c.length=40)(h:isF w.1)(h1:isF w.2.1)(h2:isF w.2.2.2)(a1:Apart w.1 w.2.1)(a2:Apart w.1 w.2.2.2):wkd (wkd c w) w=wkd c w:=
 ziL_ (zee_ hc h) h (by rw[zfz_ hc h h1 h2 a1 a2];exact ziv_ hc h _)
theorem again2 {c:List Nat}{u w:Wk}(hc:c.length=40)(hu:isF u.1)(u1:isF u.2.1)(u2:isF u.2.2.2)(hw:isF w.1)(w1:isF w.2.1)(w2:isF w.2.2.2)(a1:Apart u.1 u.2.1)(a2:Apart u.1 u.2.2.2)(b1:Apart w.1 w.2.1)(b2:Apart w.1 w.2.2.2)(c0:Apart w.1 u.1)(c1:Apart w.1 u.2.1)(c2:Apart w.1 u.2.2.2):
  wkd (wkd (wkd (wkd c u) w) u) w=wkd (wkd c u) w:=by
 have l1:=zee_ hc hu;have l2:=zee_ l1 hw;have e:wkd (wkd (wkd c u) w) u=wkd (wkd c u) w:=by
  refine ziL_ l2 hu ?_;rw[zfz_ l1 hw u1 u2 c1 c2,zfz_ hc hu u1 u2 a1 a2];show prt (pun (wkd c u) w.1 _) u.1=_
  rw[zfo_ l1 hw hu c0];exact ziv_ hc hu _
 rw[e];exact again1 l1 hw w1 w2 b1 b2
structure Wks (ws:List Wk):Prop where
 len:ws.length<=2
 ok:∀w∈ws,OkW w
 ag:∀c:List Nat,c.length=40->wks ws (wks ws c)=wks ws c
 ft:∀q∈enumL ws,∀f∈(enumL ws).flatMap (gk q.1),apt q.2.1 f=uP
noncomputable def pay:List Nat:=[112,97,121]
def AW (ws:List Wk):Ak:=⟨pay,[],.no,[],ws,0,[],6,[]⟩
theorem pay_ok:OkN pay:=⟨by decide,by decide,by decide⟩
theorem zhj_ {a b:Fd}(h:a.2<b.1\/b.2<a.1):apt a b=uP:=by unfold apt;rcases h with h |h<;>simp[h]
theorem wks_1 {f a b:Fd}{w:List Nat}(hf:1<=f.1/\f.1<=f.2/\f.2<=6)(ha:13<=a.1/\a.1<=a.2/\a.2<=24)(hb:25<=b.1/\b.1<=b.2/\b.2<=36)(hw:w∈WWo):Wks [(f,a,w,b)] where
 len:=nY rfl
 ok:=λx hx=>by
  rw[nj.mp hx];exact⟨⟨by show 1<=f.1;lia,hf.2.1,by show f.2<=36;lia⟩,⟨by show 1<=a.1;lia,ha.2.1,by show a.2<=36;lia⟩,⟨by show 1<=b.1;lia,hb.2.1,hb.2.2⟩,hw⟩
 ag:=λc hc=>again1 (w:=(f,a,w,b)) hc ⟨by show 1<=f.1;lia,hf.2.1,by show f.2<=36;lia⟩ ⟨by show 1<=a.1;lia,ha.2.1,by show a.2<=36;lia⟩ ⟨by show 1<=b.1;lia,hb.2.1,hb.2.2⟩ (.inl (by show f.2<a.1;lia)) (.inl (by show f.2<b.1;lia))
 ft:=λq hq g hg=>by
  simp[enumL]at hq;subst hq;simp[enumL,gk]at hg;rcases hg with rfl |rfl
  ·exact zhj_ (.inl (by show f.2<g.1;lia))
  ·exact zhj_ (.inl (by show f.2<g.1;lia))
theorem wks_2 {f a b s x:Fd}{w v:List Nat}(hf:1<=f.1/\f.1<=f.2/\f.2<=6)(ha:13<=a.1/\a.1<=a.2/\a.2<=24)(hb:25<=b.1/\b.1<=b.2/\b.2<=36)(hw:w∈WWo)(hs:7<=s.1/\s.1<=s.2/\s.2<=12)(hx:x=f\/x=b)(hv:v∈WWo):Wks [(f,a,w,b),(s,x,v,a)]:=by
 have F:isF f:=⟨by lia,hf.2.1,by lia⟩
 have A:isF a:=⟨by lia,ha.2.1,by lia⟩
 have B:isF b:=⟨by lia,hb.2.1,hb.2.2⟩
 have S:isF s:=⟨by lia,hs.2.1,by lia⟩
 have X:isF x:=by rcases hx with rfl |rfl<;>assumption
 have sx:Apart s x:=by
  rcases hx with rfl |rfl
  ·exact .inr (by lia)
  ·exact .inl (by lia)
 refine⟨nY rfl,λy hy=>?_,λc hc=>?_,λq hq g hg=>?_⟩
 ·rcases lI.mp hy with rfl |hy
  ·exact⟨F,A,B,hw⟩
  ·rw[nj.mp hy];exact⟨S,X,A,hv⟩
 ·exact again2 (u:=(f,a,w,b)) (w:=(s,x,v,a)) hc F A B S X A (.inl (by show f.2<a.1;lia)) (.inl (by show f.2<b.1;lia)) sx (.inl (by show s.2<a.1;lia)) (.inr (by show f.2<s.1;lia)) (.inl (by show s.2<a.1;lia)) (.inl (by show s.2<b.1;lia))
 ·have c_:q=((0:Int),(f,a,w,b))\/q=((1:Int),(s,x,v,a)):=by
   obtain⟨i,hi,e1,e2⟩:=zcv_ hq;obtain⟨q1,q2⟩:=q;have dt:i=0\/i=1:=by have:i<2:=hi;lia
   rcases dt with rfl |rfl
   ·left;cases e2;cases e1;rfl
   ·right;cases e2;cases e1;rfl
  have eg:enumL [(f,a,w,b),(s,x,v,a)]=[((0:Int),(f,a,w,b)),((1:Int),(s,x,v,a))]:=rfl;rw[eg]at hg;rcases c_ with rfl |rfl
  ·simp[gk]at hg
   rcases hg with rfl |rfl |rfl
   ·exact zhj_ (.inl (by show f.2<g.1;lia))
   ·exact zhj_ (.inl (by show f.2<g.1;lia))
   ·exact zhj_ (.inl (by show f.2<g.1;lia))
  ·simp[gk]at hg
   rcases hg with rfl |rfl |rfl |rfl |rfl
   ·exact zhj_ (.inr (by show g.2<s.1;lia))
   ·exact zhj_ (.inl (by show s.2<g.1;lia))
   ·exact zhj_ (.inl (by show s.2<g.1;lia))
   ·exact zhj_ sx
   ·exact zhj_ (.inl (by show s.2<g.1;lia))
theorem zof_ (m:Md):(MD m).imm=uP:=by cases m<;>rfl
theorem MD_nw (m:Md):(MD m).new=uP:=zgQ_ _ (zof_ m)
section
variable {ws:List Wk}
theorem AW_p:fldD gi.cs "picks" (AO (AW ws))=.ok (.fz (LS PK [])):=rfl
theorem AW_o:fldD gi.cs "order" (AO (AW ws))=.ok (.fz (LS F2 [])):=rfl
theorem AW_w:fldD gi.cs "works" (AO (AW ws))=.ok (.fz (LS WK ws)):=rfl
theorem AW_b:fldD gi.cs "breaks" (AO (AW ws))=.ok (.int 0):=rfl
theorem AW_s:fldD gi.cs "sums" (AO (AW ws))=.ok (.fz (LS F2 [])):=rfl
theorem AW_g:fldD gi.cs "figures" (AO (AW ws))=.ok (.int 6):=rfl
theorem AW_d:fldD gi.cs "board" (AO (AW ws))=.ok (.fz (LS F2 [])):=rfl
theorem AW_k:fldD gi.cs "deck" (AO (AW ws))=.ok (.str pay):=rfl
theorem flW {α β:Type}{n:Nat}{f:α->List β}:∀(l:List α),(∀x,(f x).length<=n)->(l.flatMap f).length<=n*l.length
 |[],_=>me _
 |x::l,h=>by
  have:=flW l h;have:=h x;rw[rO,lE,lg,Nat.mul_add];lia
theorem brdW:zb3_.val [.fz (LS F2 [])]=.ok (.bl uP):=by
 have es:srtI []=.ok (.nd .lst []):=by unfold srtI;rw[Mo.grd_ok (by decide),<- zbD_ zk4_ (ws:=[]) (sV _) .nil];rfl
 have es:sortI [(D.nd (.dct []) []).vw]=.ok (.nd .lst []):=es;have eb:zaO_.val [.fz (LS F2 [])]=.ok (LS F2 []):=by
  refine zaP_ rfl rfl λpn hp=>?_
  unfold zaH_
  exists hp
  refine zes_ (l:=([]:List Fd)) (enc:=F2) (a:=[_]) (b:=[_]) rfl (hp _) (λw hw=>by cases hw) (λo=>?_)
  exists hp
  refine zes_ (l:=([]:List Fd)) (enc:=F2) (a:=[_]) (b:=[_]) rfl (hp _) (λw hw=>by cases hw) (λo=>?_)
  exists hp
  rw[xcompN (f:=λw:Fd=>w) (o:=F2) (T:=λw=>[.int w.2]) (items:=[]) ([]:List Fd) rfl (by exists es;rfl) rfl (λc hc=>by cases hc) (me _)]
  exists hp
  fail "q"
 have ee:eqD uQ (LS F2 []) (LS F2 [])=.ok (.bl uP):=rfl;refine zaP_ rfl rfl λpn hp=>?_
 unfold zb2_
 exists hp,eb,ee
 fail "q"
theorem ziW_ (l:List Wk):enumD [LS WK l]=.ok ((enumL l).map λq=>.nd .tup [.int q.1,WK q.2]):=by
 show Mq ((enumL (l.map WK)).map λq=>D.nd .tup [.int q.1,q.2])=_
 unfold enumL;rw[kX,rE,l8,l8,l8];rfl
theorem keptW (h3:ws.length<=2)(k:Int):zas_.val [.fz (AO (AW ws)),.int k]=.ok (LS F2 ((enumL ws).flatMap (gk k))):=by
 have em:zy_.val [.fz (AO (AW ws))]=.ok (LS F2 []):=rfl;have a1:addA (LS F2 []) (LS F2 [])=.ok (LS F2 []):=rfl;refine zaP_ rfl rfl λpn hp=>?_
 unfold zan_
 exists hp,zU_
 rw[xcompN (f:=λp:Pk=>p.1) (o:=F2) ([]:List Pk) rfl rfl (zba_ _ _) (λc hc=>rfl) (me _)]
 exists hp,zU_,em,AW_o,AW_w,zfE_ (show(0:Int)<=1 by lia),show(1:Int).toNat=1 from rfl,qi,a1,ziW_
 refine zfG_ (l:=enumL ws) (enc:=λq=>[.int q.1,WK q.2]) (λd e=>∃o o',e=[uN (.fz (AO (AW ws))),uN (.int k),uN (LS F2 (d.flatMap (gk k))),o,o']) ⟨uO,uO,rfl⟩ (λd x r e hl he=>?_) (λe he=>?_)
 ·obtain⟨o,o',rfl⟩:=he
  refine⟨_,by exists hp;rfl,?_⟩
  have hlen:(d.flatMap (gk k)).length<=3*d.length:=flW d λq=>by unfold gk;split<;>split<;>simp
  have hle:d.length<=2:=by have:=zY_ ws;rw[hl,lE]at this;lia
  generalize hd:d.flatMap (gk k)=m at hlen
  rw[qW,hd,rO,List.flatMap_nil,oO];have ea:appendF [LS F2 m,F2 x.2.1]=_:=zjB_ (g:=F2) (l:=m) (x:=x.2.1) (by lia)
  have eb:∀m:List Fd,m.length<=31->extendF [LS F2 m,.nd .lst [F2 x.2.2.1,F2 x.2.2.2.2]]=.ok .non [LS F2 (m++[x.2.2.1,x.2.2.2.2]),_]:=λm hm=>zmK_ (b:=[x.2.2.1,x.2.2.2.2]) (by simp only[lg,pA];lia)
  unfold gk;by_cases c1:x.1=k
  ·have c2:x.1<=k:=by lia
   rw[if_pos c1,if_pos c2]
   exists hp,zcZ_,WK_0,WK_1,WK_3,zci_,zjs_,zdt_,decide_eq_true c1,decide_eq_true c2,eb m (by lia)
   exact⟨_,_,rfl,.inl ⟨.inl rfl,uN (.int x.1),uN (WK x.2),rfl⟩⟩
  ·rw[if_neg c1]
   by_cases c2:x.1<=k
   ·rw[if_pos c2]
    exists hp,zcZ_,WK_0,WK_1,WK_3,zci_,zjs_,zdt_,decide_eq_false c1,decide_eq_true c2,ea,eb (m++[x.2.1]) (by simp;lia)
    exact⟨_,_,rfl,.inl ⟨.inl rfl,uN (.int x.1),uN (WK x.2),by simp⟩⟩
   ·rw[if_neg c2]
    exists hp,zcZ_,WK_0,WK_1,WK_3,zci_,zjs_,zdt_,decide_eq_false c1,decide_eq_false c2,ea
    exact⟨_,_,rfl,.inl ⟨.inl rfl,uN (.int x.1),uN (WK x.2),by simp⟩⟩
 ·obtain⟨o,o',rfl⟩:=he
  exists hp
  fail "q"
theorem zjv_ {w:List Nat}(h:w∈WWo):inA uQ (.str w) (.nd .ktup (WWo.map .str))=.ok (.bl uP):=by
 unfold WWo at h;simp only[lI,o8,or_false]at h;rcases h with rfl |rfl |rfl<;>rfl
theorem cwrkW (h:Wks ws):z8_.val [.fz (AO (AW ws))]=.ok .non:=by
 refine zaP_ rfl rfl λpn hp=>?_
 unfold zag_
 exists hp,zU_,AW_w,ziW_
 refine zfG_ (l:=enumL ws) (enc:=λq=>[.int q.1,WK q.2]) (λd e=>∃a b o,e=[uN (.fz (AO (AW ws))),a,b,o]) ⟨uO,uO,uO,rfl⟩ (λd x r e hl he=>?_) (λe he=>?_)
 ·obtain⟨o1,o2,o3,rfl⟩:=he
  refine⟨_,by exists hp;rfl,?_⟩
  have hx:x∈enumL ws:=by rw[hl];simp
  have hw:x.2∈ws:=by obtain⟨i,_,_,e2⟩:=zcv_ hx;exact mV e2
  have ew:∀env,X.ev gi env (.gt "WORK_WORDS" WWo)=.ok (.nd .ktup (WWo.map .str)):=λenv=>xv_gt _ _ (by decide)
  have e2:=zjv_ (h.ok x.2 hw).2.2.2;unfold WWo at ew e2;simp only[lj,nJ]at e2
  exists hp,zcZ_,WK_2,zU_,keptW h.len,ew,e2,znB_
  refine zes_ (a:=[_,_,_]) (b:=[]) rfl (hp _) (λf hf=>?_) (λo=>?_)
  ·exists hp,zcZ_,WK_0,zci_,zjX_,h.ft x hx f hf,znB_
   exact⟨_,_,rfl,rfl,rfl⟩
  ·exists hp
   exact⟨_,_,rfl,.inl ⟨.inl rfl,_,_,_,rfl⟩⟩
 ·obtain⟨a,b,o,rfl⟩:=he
  exists hp
  fail "q"
theorem dueWk (h3:ws.length<=2):zaL_.val [.fz (AO (AW ws))]=.ok (LS F2 (ws.flatMap λw=>[w.1,w.2.1,w.2.2.2])):=by
 have em:zy_.val [.fz (AO (AW ws))]=.ok (LS F2 []):=rfl;have a1:addA (LS F2 []) (LS F2 [])=.ok (LS F2 []):=rfl;refine zaP_ rfl rfl λpn hp=>?_
 unfold zaK_
 exists hp,zU_
 rw[xcompN (f:=λp:Pk=>p.1) (o:=F2) ([]:List Pk) rfl rfl (zba_ _ _) (λc hc=>rfl) (me _)]
 exists hp,zU_,em,AW_o,AW_s,AW_w,a1
 refine zfG_ (l:=ws) (enc:=λw=>[WK w]) (λd e=>∃o,e=[uN (.fz (AO (AW ws))),uN (LS F2 (d.flatMap λw=>[w.1,w.2.1,w.2.2.2])),o]) ⟨uO,rfl⟩ (λd x r e hl he=>?_) (λe he=>?_)
 ·obtain⟨o,rfl⟩:=he
  refine⟨_,by exists hp;rfl,?_⟩
  have hlen:(d.flatMap λw:Wk=>[w.1,w.2.1,w.2.2.2]).length<=3*d.length:=flW d λq=>by simp
  have hle:d.length<=2:=by rw[hl,lE]at h3;lia
  have eb:extendF [LS F2 (d.flatMap λw=>[w.1,w.2.1,w.2.2.2]),.nd .lst [F2 x.1,F2 x.2.1,F2 x.2.2.2]]=.ok .non [LS F2 ((d.flatMap λw=>[w.1,w.2.1,w.2.2.2])++[x.1,x.2.1,x.2.2.2]),_]:=zmK_ (b:=[x.1,x.2.1,x.2.2.2]) (by simp only[lg,pA];lia)
  exists hp,zcZ_,WK_0,WK_1,WK_3,zci_,zjs_,eb
  exact⟨_,_,rfl,.inl ⟨.inl rfl,uN (WK x),by rw[qW];rfl⟩⟩
 ·obtain⟨o,rfl⟩:=he
  exists hp
  fail "q"
theorem checkW (h:Wks ws):zZ_.val [.fz (AO (AW ws))]=.ok .non:=by
 have hl:=h.len;have e1:zN_.val [.fz (AO (AW ws))]=.ok .non:=by
  refine zaP_ rfl rfl λpn hp=>?_
  unfold zO_
  exists hp,zU_,AW_p,AW_o,AW_w,AW_s,decide_eq_true (show(ws.length:Int)<=4 by lia),decide_eq_true (show((0:Nat):Int)<=8 by decide),decide_eq_true (show((0:Nat):Int)<=6 by decide),decide_eq_true (show((0:Nat):Int)<=4 by decide),znB_
  fail "q"
 have e2:zD_.val [.fz (AO (AW ws))]=.ok .non:=by
  have eb:=brdW;have z:((([]:List Fd).length:Nat):Int)=0:=rfl;refine zaP_ rfl rfl λpn hp=>?_
  unfold zF_
  exists hp,zU_,AW_b,AW_o,AW_g,AW_d,zfK_,chD,eb,decide_true,decide_eq_true (show(0:Int)<=((0:Nat):Int) by decide),znB_
  fail "q"
 have e3:zac_.val [.fz (AO (AW ws))]=.ok .non:=rfl;have e5:zv_.val [.fz (AO (AW ws))]=.ok .non:=rfl;have e6:zaq_.val [.fz (AO (AW ws))]=.ok .non:=rfl;have e7:zs_.val [.fz (AO (AW ws))]=.ok .non:=rfl;refine zaP_ rfl rfl λpn hp=>?_
 unfold z4_
 exists hp,zU_,e1,e5,e6,dueWk hl
 refine zes_ (a:=[_]) (b:=[]) rfl (hp _) (λf hf=>?_) (λo=>?_)
 ·have hF:OkFd f:=by
   obtain⟨w,hw,hf⟩:=List.mem_flatMap.mp hf;obtain⟨a,b,c,_⟩:=h.ok w hw;simp only[lI,o8,or_false]at hf;rcases hf with rfl |rfl |rfl<;>assumption
  exists hp,zci_,F2_0,F2_1,fieldb hF,znB_
  exact⟨_,_,rfl,rfl,rfl⟩
 ·exists hp,zU_,e2,e3,e7,cwrkW h
  fail "q"
theorem zoG_ {α:Type}{g:α->D}[Im g](l:List α):za5_.val [.fz (LS g l)]=.ok (LS g l):=by
 refine zaP_ rfl rfl λpn hp=>?_
 unfold zbO_;have e:isD uQ (LS g l) .non=.ok (.bl uQ):=rfl
 exists hp,e
 fail "q"
theorem makeW (h:Wks ws):makeD zg_ "Asking" [.str pay,.nd .lst [],.non,.nd .lst [],LS WK ws,.int 0,.non,.int 6,.non]=.ok (AO (AW ws)):=by
 have main:∀pn:Nat->Bool,∃e,S.runs gi pn zm_ [uN (.nd (.obj "Asking" []) []),uN (.str pay),uN (.fz (LS PK [])),uN .non,uN (.fz (LS F2 [])),uN (.fz (LS WK ws)),uN (.int 0),uN .non,uN (.int 6),uN .non]=.ok .nx (uN (AO (AW ws))::e):=λpn=>by
  have o1:za5_.val [.non]=.ok (.nd .lst []):=rfl;unfold zm_;rw[S.runs,S.run,zcK_ (d:=.str pay) rfl rfl rfl (by decide) (by decide) (by decide),zfb_]
  rw[S.runs,S.run,zcK_ (d:=LS PK []) (by exists zcg_) zaJ_ rfl (by decide) (by decide) (by decide),zfb_]
  rw[S.runs,S.run,zcK_ (d:=.non) rfl rfl rfl (by decide) (by decide) (by decide),zfb_]
  rw[S.runs,S.run,zcK_ (d:=LS F2 []) (by exists zcg_) zaJ_ rfl (by decide) (by decide) (by decide),zfb_]
  rw[S.runs,S.run,zcK_ (d:=LS WK ws) (by exists zoG_ ws) zaJ_ rfl (by decide) (by decide) (by decide),zfb_]
  rw[S.runs,S.run,zcK_ (d:=.int 0) rfl rfl rfl (by decide) (by decide) (by decide),zfb_]
  rw[S.runs,S.run,zcK_ (d:=LS F2 []) (by exists o1;rfl) zaJ_ rfl (by decide) (by decide) (by decide),zfb_]
  rw[S.runs,S.run,zcK_ (d:=.int 6) rfl rfl rfl (by decide) (by decide) (by decide),zfb_]
  rw[S.runs,S.run,zcK_ (d:=LS F2 []) (by exists o1;rfl) zaJ_ rfl (by decide) (by decide) (by decide),zfb_]
  have e0:∀l,getE (uN (D.nd (.obj "Asking" ["deck", "picks", "middle", "order", "works", "breaks", "sums", "figures", "board"]) (aFs (AW ws)))::l) 0=.ok (.fz (AO (AW ws))):=λl=>rfl
  unfold aFs AW at e0;have e1:=checkW h;unfold AW at e1;unfold MD at e0
  exists e0,zU_,e1
  exact⟨_,rfl⟩
 obtain⟨e,he⟩:=main (pins [.nd (.obj "Asking" []) [],.str pay,.fz (LS PK []),.non,.fz (LS F2 []),.fz (LS WK ws),.int 0,.non,.int 6,.non]);have hh:∃ds,zg_ [.nd (.obj "Asking" []) [],.str pay,.fz (LS PK []),.non,.fz (LS F2 []),.fz (LS WK ws),.int 0,.non,.int 6,.non]=.ok .non (AO (AW ws)::ds):=⟨_,zoU_ (G:=gi) (n:=10) (m:=0) (body:=zm_) (ds:=[.nd (.obj "Asking" []) [],.str pay,.fz (LS PK []),.non,.fz (LS F2 []),.fz (LS WK ws),.int 0,.non,.int 6,.non]) rfl he⟩;obtain⟨ds,hh⟩:=hh;unfold makeD;have em:[D.str pay,.nd .lst [],.non,.nd .lst [],LS WK ws,.int 0,.non,.int 6,.non].map D.vw=[.str pay,.fz (LS PK []),.non,.fz (LS F2 []),.fz (LS WK ws),.int 0,.non,.int 6,.non]:=rfl;rw[em,hh]
theorem zpo_ {c:List Nat}(hc:c.length=40)(h:∀w∈ws,isF w.1):zaf_.val [.fz (AO (AW ws)),.str c]=.ok (.str (wks ws c)):=by
 refine zaP_ rfl rfl λpn hp=>?_
 unfold zaj_;rw[zW_ (d:=.str c) (by exists hp) (hp _)]
 refine zcj_ (l:=ws) (enc:=λw=>[WK w]) (d:=.fz (LS WK ws)) (λd e=>∃o,e=[uN (.fz (AO (AW ws))),uN (.str c),uN (.str (wks d c)),o]) (by exists zU_,AW_w) (by exists hp) (zba_ _ _) ⟨uO,rfl⟩ (λd w r e hd he=>?_) λe he=>?_
 ·obtain⟨o,rfl⟩:=he
  have eY:(wks d c).length=40:=zf8_ (λx hx=>h x (by rw[hd];simp[hx])) hc
  have hw:=h w (by rw[hd];simp)
  refine⟨[uN (.fz (AO (AW ws))),uN (.str c),uN (.str (wks d c)),uN (WK w)],(by exists hp,zcZ_),?_⟩
  rw[zW_ (d:=.str (wks (d++[w]) c)) ?_ (hp _)]
  ·exact⟨_,_,rfl,.inl ⟨.inl rfl,_,rfl⟩⟩
  ·have e:wks (d++[w]) c=wkd (wks d c) w:=by unfold wks;rw[pI];rfl
   exists zcZ_,zqx_ eY hw,e
 ·obtain⟨o,rfl⟩:=he
  exists hp
  fail "q"
theorem chosenW {m:List (List Nat×Cds)}{cs:Cds}(hw:∀w∈ws,isF w.1)(hc:LG cs)(bw:∀c∈cs,c.length=40)(h:(m.find? λq=>decide (q.1=pay))=uN (pay,cs)):zk_.val [.fz (AO (AW ws)),.fz (TD m)]=.ok (LS .str (cs.map (wks ws))):=by
 have e1:zC_.val [.fz (LS .str cs),.fz (LS .int [])]=.ok (LS .str cs):=by
  have:=zoP_ (key:=λ_=>[]) (cols:=[]) hc λc _=>zk5_ c
  rw[zkI_]at this;exact this
 have ep:zau_.val [.fz (AO (AW ws)),.fz (LS .str cs)]=.ok (.fz (LS .str cs)):=rfl;have em:zal_.val [.fz (AO (AW ws)),.fz (LS .str cs),.fz (TD m)]=.ok (.fz (LS .str cs)):=rfl;have ek:zam_.val [.fz (AO (AW ws))]=.ok (LS .int []):=rfl;have en:za9_.val [.fz (AO (AW ws))]=.ok (LS .str [pay]):=rfl;have ec:z7_.val [.fz (AO (AW ws)),.fz (TD m)]=.ok .non:=by
  refine zaP_ rfl rfl λpn hp=>?_
  unfold zaa_;refine zcj_ (l:=[pay]) (enc:=λp=>[.str p]) (d:=LS .str [pay]) (λd e=>∃o,e=[uN (.fz (AO (AW ws))),uN (.fz (TD m)),o]) (by exists zU_,en) (by exists hp) (zba_ _ _) ⟨uO,rfl⟩ (λd p r e hl he=>?_) λe he=>?_
  ·obtain⟨o,rfl⟩:=he
   have jF:p=pay:=by
    have:p∈[pay]:=by rw[hl];simp
    simpa using this
   subst jF;refine⟨[uN (.fz (AO (AW ws))),uN (.fz (TD m)),uN (.str pay)],(by exists hp),?_⟩
   exists hp,zdF_,zoM_ h
   exact⟨_,_,rfl,.inl ⟨.inl rfl,_,rfl⟩⟩
  ·obtain⟨o,rfl⟩:=he
   exists hp
   fail "q"
 refine zaP_ rfl rfl λpn hp=>?_
 unfold zav_;rw[zo4_ (d:=.non) (e:=[uN (.fz (AO (AW ws))),uN (.fz (TD m)),uO]) (by exists zU_,zdF_,ec)]
 rw[zW_ (d:=.fz (LS .str cs)) (by exists zU_,zdF_,AW_k,td_ix h,ep) (hp _)]
 rw[zW_ (d:=.fz (LS .str cs)) (by exists zU_,zdF_,em) (hp _)]
 rw[zW_ (d:=LS .str cs) (by exists zU_,ek,e1) (hp _)]
 rw[zjY_ (d:=LS .str (cs.map (wks ws))) (e:=[uN (.fz (AO (AW ws))),uN (.fz (TD m)),uN (LS .str cs)]) ?_]
 ·fail "q"
 ·rw[zh1_,xcompN (f:=wks ws) (o:=.str) (T:=λx=>[.str x]) cs rfl (by exists hp) (zba_ _ _) (λc aA=>?_) (by have:=hc.1;lia)]
  ·exact zab_ _ zaJ_
  ·exists zU_,zpo_ (bw c aA) hw
end
theorem zfj_ (a b:Cds):eqT 12 (LS .str a) (LS .str b)=uN (decide (a=b)):=eq_ls (n:=11) (zlN_ 11) a b
theorem zqy_ (ns:List Int)(lo hi:Option Int):slA (scr ns) lo hi=.ok (LS .int (cutG ns lo hi)):=by
 show Mq (D.nd .lst ((cutG (ns.map D.int) lo hi).map .vw))=_
 unfold cutG LS;rw[kX,<- tu,<- tw,l8];rfl
theorem zie_ (l:List Int):enumD [LS .int l]=.ok ((enumL l).map λq=>.nd .tup [.int q.1,.int q.2]):=by
 show Mq ((enumL (l.map D.int)).map λq=>D.nd .tup [.int q.1,q.2])=_
 unfold enumL;rw[kX,rE,l8,l8,l8];rfl
theorem zob_ {a:List Nat}{x:D}:dspD [.str a,x]=.ok (.nd (.dct [kN_t a]) [x]):=by
 unfold dspD;rw[show prD [.str a,x]=uN ([kN_t a],[x])from rfl]
 show Mo.grd ([kN_t a].Nodup/\[kN_t a].length<=15) (.ok (D.nd (.dct [kN_t a]) [x]))=_
 rw[Mo.grd_ok ⟨by simp,by simp⟩]
theorem ned_1 {ks:List Key}{u u':Cds}(hu:u=u'):nedD (.fz (.nd (.dct ks) [LS .str u])) (.nd (.dct ks) [.fz (LS .str u')])=.ok (.bl uQ):=by
 subst hu;show Mo.grd (ks=ks) _=_
 rw[Mo.grd_ok rfl];have e1:eqT 12 (LS .str u) (.fz (LS .str u))=uN uP:=by rw[ziV_,zfj_];simp
 show(Mo.opt ((eqT 12 _ _).bind _)).bind _=_
 rw[e1];rfl
theorem deckW (l:List Int)(hl:l.length<64):∃g:Int×Int->List Nat,(∀q∈enumL l,zx_.val [.int q.2,.int q.1]=.ok (.str (g q)))/\LG ((enumL l).map g)/\∀c∈(enumL l).map g,c.length=40:=by
 have key:∀q:Int×Int,∃t,q∈enumL l->(zx_.val [.int q.2,.int q.1]=.ok (.str t)/\t.length=40):=λq=>by
  by_cases h:q∈enumL l
  ·obtain⟨k,hk,e,_⟩:=zcv_ h
   obtain⟨t,ht⟩:=zje_ q.2 (k:=q.1) (by lia) (by lia)
   exact⟨t,λ_=>ht⟩
  ·exact⟨[],λz=>absurd z h⟩
 have bw:∀c∈(enumL l).map λq=>(key q).choose,c.length=40:=λc hc=>by
  obtain⟨q,hq,rfl⟩:=nL.mp hc;exact((key q).choose_spec hq).2
 exact⟨λq=>(key q).choose,λq hq=>((key q).choose_spec hq).1,⟨by rw[kX,zY_];exact hl,λc hc=>by rw[bw c hc];decide⟩,bw⟩
theorem zix_ (c:Int):∃w,w∈WWo/\ixA (LS .str WWo) (.int (c % 3))=.ok (.str w):=by
 have a:=mm c (show(3:Int)≠0 by lia)
 have b:=mx c (show(0:Int)<3 by lia)
 have:c % 3=0\/c % 3=1\/c % 3=2:=by lia
 rcases this with e |e |e<;>rw[e]
 ·exact⟨_,by decide,rfl⟩
 ·exact⟨_,by decide,rfl⟩
 ·exact⟨_,by decide,rfl⟩
theorem dueW {pn:Nat->Bool}(hp:∀i,pn i=uQ){s0 s1 s2 s3 s4 s5:Option D}{ws:List Wk}{cs:Cds}(hl:LG cs)(bw:∀c∈cs,c.length=40)(hw:Wks ws){ss:List S}{Q:Fl->VI.Env->Prop}
  (hq:∀W o o',(W=LS WK ws\/W=.fz (LS WK ws))->En (S.runs gi pn ss [s0,s1,s2,s3,s4,s5,uN W,uN (.fz (LS .str cs)),uN (LS .str (cs.map (wks ws))),o,o',uO,uO,uO,uO]) Q):
  En (S.runs gi pn (.for_ .any [(.v 7)] ⟨uQ,[9]⟩ [.for_ .any [(.v 6)] ⟨uQ,[10]⟩ [.asg 9 (.pu (.call zH_ "_law_worked" [(.v 9),(.v 10)]))],.ex (.bm .append (.v 8) [(.x (.v 9))])]::ss) [s0,s1,s2,s3,s4,s5,uN (LS WK ws),uN (LS .str cs),uN (LS .str []),uO,uO,uO,uO,uO,uO]) Q:=by
 refine zgU_ (l:=cs) (enc:=λp=>[.str p]) (d:=.fz (LS .str cs)) (e1:=[s0,s1,s2,s3,s4,s5,uN (LS WK ws),uN (.fz (LS .str cs)),uN (LS .str []),uO,uO,uO,uO,uO,uO]) (λd e=>∃W o o',(W=LS WK ws\/W=.fz (LS WK ws))/\e=[s0,s1,s2,s3,s4,s5,uN W,uN (.fz (LS .str cs)),uN (LS .str (d.map (wks ws))),o,o',uO,uO,uO,uO]) (by exists hp) (by exists hp) (zba_ _ _) ⟨_,uO,uO,.inl rfl,rfl⟩ (λd c r e hd he=>?_) λe he=>?_
 ·obtain⟨W,o,o',hW,rfl⟩:=he
  have hc:c∈cs:=by rw[hd];simp
  refine⟨[s0,s1,s2,s3,s4,s5,uN W,uN (.fz (LS .str cs)),uN (LS .str (d.map (wks ws))),uN (.str c),o',uO,uO,uO,uO],(by exists hp),?_⟩
  refine zgU_ (l:=ws) (enc:=λw=>[WK w]) (d:=.fz (LS WK ws)) (e1:=[s0,s1,s2,s3,s4,s5,uN (.fz (LS WK ws)),uN (.fz (LS .str cs)),uN (LS .str (d.map (wks ws))),uN (.str c),o',uO,uO,uO,uO]) (λd2 e=>∃o',e=[s0,s1,s2,s3,s4,s5,uN (.fz (LS WK ws)),uN (.fz (LS .str cs)),uN (LS .str (d.map (wks ws))),uN (.str (wks d2 c)),o',uO,uO,uO,uO]) (by rcases hW with rfl |rfl<;>exists hp) (by exists hp) (zba_ _ _) ⟨_,rfl⟩ (λd2 w r2 e hd2 he=>?_) λe he=>?_
  ·obtain⟨o',rfl⟩:=he
   have iH:w∈ws:=by rw[hd2];simp
   have l2:(wks d2 c).length=40:=zf8_ (λx hx=>(hw.ok x (by rw[hd2];simp[hx])).1) (bw c hc)
   refine⟨[s0,s1,s2,s3,s4,s5,uN (.fz (LS WK ws)),uN (.fz (LS .str cs)),uN (LS .str (d.map (wks ws))),uN (.str (wks d2 c)),uN (WK w),uO,uO,uO,uO],(by exists hp,zcZ_),?_⟩
   rw[zW_ (d:=.str (wks (d2++[w]) c)) ?_ (hp _)]
   ·exact⟨_,_,rfl,.inl ⟨.inl rfl,uN (WK w),rfl⟩⟩
   ·have e:wks (d2++[w]) c=wkd (wks d2 c) w:=by unfold wks;rw[pI];rfl
    exists zcZ_,zjx_ l2 (hw.ok w iH).1 (hw.ok w iH).2.2.2,e
  ·obtain⟨o',rfl⟩:=he
   have iM:(d.map (wks ws)).length<100000:=by
    have h2:=congrArg qN hd;rw[lE,lg]at h2;have:=hl.1;rw[kX];lia
   rw[zo4_ (d:=.non) (e:=[s0,s1,s2,s3,s4,s5,uN (.fz (LS WK ws)),uN (.fz (LS .str cs)),uN (LS .str (d.map (wks ws)++[wks ws c])),uN (.str (wks ws c)),o',uO,uO,uO,uO]) (by exists zjB_ iM)]
   refine⟨_,_,rfl,.inl ⟨.inl rfl,.fz (LS WK ws),uN (.str (wks ws c)),o',.inr rfl,?_⟩⟩;rw[om];rfl
 ·obtain⟨W,o,o',hW,rfl⟩:=he
  exact hq W o o' hW
theorem zlC_ {pn:Nat->Bool}(hp:∀i,pn i=uQ){s0 s1 s2 s3 s4 s5 o o':Option D}{W:D}{ws:List Wk}{cs:Cds}(hl:LG cs)(bw:∀c∈cs,c.length=40)(hw:Wks ws)(hW:W=LS WK ws\/W=.fz (LS WK ws)):
  En (S.runs gi pn [.asg 11 (.pu (.mkd zg_ "Asking" [(.k (.str [112,97,121])),(.lst []),(.k .non),(.lst []),(.bf .list [(.v 6)])] [(.int 0),.non,(.int 6),.non])),.asg 12 (.pu (.ds1 (.k (.str [112,97,121])) (.bf .list [(.v 7)]))),.asg 13 (.pu (.call zk_ "chosen_deck" [(.v 11),(.v 12)])),.if_ (.or (.not (.isa (.v 13) "list")) (.or (.bin .ne (.v 13) (.v 8)) (.bin .ned (.v 12) (.ds1 (.k (.str [112,97,121])) (.v 7))))) [.ret (.pu (.k (.bl uQ)))] [],.asg 14 (.pu (.call zk_ "chosen_deck" [(.v 11),(.ds1 (.k (.str [112,97,121])) (.bf .list [(.v 13)]))])),.ret (.pu (.and (.isa (.v 14) "list") (.bin .eq (.v 14) (.v 8))))] [s0,s1,s2,s3,s4,s5,uN W,uN (.fz (LS .str cs)),uN (LS .str (cs.map (wks ws))),o,o',uO,uO,uO,uO]) λo _=>o=.rt (.bl uP)\/(o=.nx/\D.bl uP=.non):=by
 have j_:∀A:Ak,(AO A).new=uP:=λA=>by unfold AO aFs;simp only[zpV_,nw_c,nw_0,znL_,zmy_,zaJ_,MD_nw,qY]
 have vW:W.vw=.fz (LS WK ws):=by rcases hW with rfl |rfl<;>rfl
 have ll:listA [.fz (LS WK ws)]=.ok (LS WK ws):=by rw[zit_,zcg_]
 have ev:X.evs gi [s0,s1,s2,s3,s4,s5,uN W,uN (.fz (LS .str cs)),uN (LS .str (cs.map (wks ws))),o,o',uO,uO,uO,uO] [(.k (.str [112,97,121])),(.lst []),(.k .non),(.lst []),(.bf .list [(.v 6)])]=.ok [.str pay,.nd .lst [],.non,.nd .lst [],LS WK ws]:=by
  exists vW,ll
  rfl
 have mk:X.ev gi [s0,s1,s2,s3,s4,s5,uN W,uN (.fz (LS .str cs)),uN (LS .str (cs.map (wks ws))),o,o',uO,uO,uO,uO] (.mkd zg_ "Asking" [(.k (.str [112,97,121])),(.lst []),(.k .non),(.lst []),(.bf .list [(.v 6)])] [(.int 0),.non,(.int 6),.non])=.ok (AO (AW ws)):=by
  rw[znX_,if_pos (show(flats [.int 0,.non,.int 6,.non]).isSome=uP from rfl),ev,ze9_]
  exact makeW hw
 rw[zW_ (d:=AO (AW ws)) (by rw[zh1_,mk];exact zab_ _ (j_ _)) (hp _)]
 have eT:dspD [.str [112,97,121],LS .str cs]=.ok (TD [(pay,cs)]):=zob_;have nT:∀l,(TD [(pay,l)]).new=uP:=λl=>by unfold TD;simp only[lj,nJ,zpV_,nw_c,nw_0,zaJ_,qY]
 rw[zW_ (d:=TD [(pay,cs)]) (by exists zkE_,zcg_,eT,zab_ _ (nT cs)) (hp _)]
 have gu:∀w∈ws,isF w.1:=λw h=>(hw.ok w h).1
 have ch:zk_.val [.fz (AO (AW ws)),.fz (TD [(pay,cs)])]=.ok (LS .str (cs.map (wks ws))):=chosenW gu hl bw (by simp)
 have iT:∀c∈cs.map (wks ws),c.length=40:=λc hc=>by obtain⟨x,hx,rfl⟩:=nL.mp hc;exact zf8_ gu (bw x hx)
 have eJ:LG (cs.map (wks ws)):=⟨by rw[kX];exact hl.1,λc hc=>by rw[iT c hc];decide⟩
 have em:(cs.map (wks ws)).map (wks ws)=cs.map (wks ws):=by rw[l8];exact nG λc hc=>hw.ag c (bw c hc)
 have kj:zk_.val [.fz (AO (AW ws)),.fz (TD [(pay,cs.map (wks ws))])]=.ok (LS .str (cs.map (wks ws))):=by
  have:=chosenW (m:=[(pay,cs.map (wks ws))]) gu eJ iT (by simp)
  rw[em]at this;exact this
 rw[zW_ (d:=LS .str (cs.map (wks ws))) (by exists AO_vw,zps_,zU_,zdF_,ch) (hp _)]
 have i1:∀l,isaD "list" (LS .str l)=.ok (.bl uP):=λ_=>rfl
 have q1:∀l,eqD uP (LS .str l) (LS .str l)=.ok (.bl uQ):=λl=>by rw[zf1_ (zfj_ l l)];simp
 have q2:∀l,eqD uQ (LS .str l) (LS .str l)=.ok (.bl uP):=λl=>by rw[zf1_ (zfj_ l l)];simp
 have kd:dspD [.str [112,97,121],.fz (LS .str cs)]=.ok (.nd (.dct [kN_t pay]) [.fz (LS .str cs)]):=zob_;have nn:nedD (.fz (TD [(pay,cs)])) (.nd (.dct [kN_t pay]) [.fz (LS .str cs)])=.ok (.bl uQ):=ned_1 rfl;rw[zb6_ (by exists i1,q1,zps_,zdF_,zkE_,kd,nn;rfl)]
 show En (S.runs gi pn (S.asg _ _::_) _) _
 have ka:dspD [.str [112,97,121],LS .str (cs.map (wks ws))]=.ok (TD [(pay,cs.map (wks ws))]):=zob_;rw[zW_ (d:=LS .str (cs.map (wks ws))) (by exists zkE_,zcg_,ka,AO_vw,zps_,zU_,zdF_,kj) (hp _)]
 exists i1,q2
 fail "q"
theorem zko_:∀ns:List Int,ns.length<=63->BitsOk ns->f_law.val [scr ns]=.ok (.bl uP):=by
 intro ns hl _;obtain⟨a,ea,a1,a2,a3⟩:=zbG_ (cel ns 1) (lo:=13) (m:=12) (by lia) (by lia)
 obtain⟨b,eb,b1,b2,b3⟩:=zbG_ (cel ns 2) (lo:=25) (m:=12) (by lia) (by lia)
 obtain⟨f,ef,f1,f2,f3⟩:=zbG_ (cel ns 0 / 18) (lo:=1) (m:=6) (by lia) (by lia)
 obtain⟨s,es,s1,s2,s3⟩:=zbG_ (cel ns 0 / 36) (lo:=7) (m:=6) (by lia) (by lia)
 obtain⟨w,hw,ew⟩:=zix_ (cel ns 0);obtain⟨v,hv,ev⟩:=zix_ (cel ns 0 / 6);have hlen:=zai_ ns (uN 3) (uN 43);obtain⟨g,eg,hg,bw⟩:=deckW (cutG ns (uN 3) (uN 43)) (by lia)
 obtain⟨x,hx,ex⟩:∃x,(x=f\/x=b)/\ixA (.nd .lst [F2 f,F2 b]) (.int (cel ns 0 / 6 % 2))=.ok (F2 x):=by
  have a:=mm (cel ns 0 / 6) (show(2:Int)≠0 by lia)
  have b:=mx (cel ns 0 / 6) (show(0:Int)<2 by lia)
  have:cel ns 0 / 6 % 2=0\/cel ns 0 / 6 % 2=1:=by lia
  rcases this with e |e<;>rw[e]
  ·exact⟨f,.inl rfl,rfl⟩
  ·exact⟨_,.inr rfl,rfl⟩
 have iW:∀s1 s2 s3 s4 s5 s6,X.ev gi [uN (scr ns),s1,s2,s3,s4,s5,s6,uO,uO,uO,uO,uO,uO,uO,uO] (.comp ["_law_k", "_law_number_here"] [] .en [(.sl (.v 0) (uN (.n 3)) (uN (.n 43)))] ⟨uP,[0,1]⟩ uO (.call zx_ "_law_card" [(.v 1),(.v 0)]))=.ok (LS .str ((enumL (cutG ns (uN 3) (uN 43))).map g)):=λs1 s2 s3 s4 s5 s6=>by
  refine xcompN (f:=g) (o:=.str) (T:=λq=>[.int q.1,.int q.2]) (items:=(enumL (cutG ns (uN 3) (uN 43))).map λq=>.nd .tup [.int q.1,.int q.2]) (enumL (cutG ns (uN 3) (uN 43))) rfl (by exists zgm_,zqy_,zie_) (zmD_ _ _ _) (λq hq=>?_) (by rw[zY_];lia)
  exists eg q hq
 generalize (enumL (cutG ns (uN 3) (uN 43))).map g=cs at iW hg bw
 refine zaP_ rfl rfl λpn hp=>?_
 unfold znR_;have c0:=zfq_ ns (k:=0) (by lia) (by lia)
 have c1:=zfq_ ns (k:=1) (by lia) (by lia)
 have c2:=zfq_ ns (k:=2) (by lia) (by lia)
 rw[zW_ (d:=.int (cel ns 0)) (by exists zgm_,c0) (hp _)]
 rw[zW_ (d:=LS .str WWo) (by rw[zh1_];exact zab_ (d:=LS .str WWo) _ zaJ_) (hp _)]
 rw[zW_ (d:=F2 a) (by exists zgm_,c1,ea,zjs_) (hp _)]
 rw[zW_ (d:=F2 b) (by exists zgm_,c2,eb,zjs_) (hp _)]
 rw[zW_ (d:=F2 f) (by exists ef,zjs_) (hp _)]
 have j8:(D.nd .lst [.nd .tup [F2 f,F2 a,.str w,F2 b]])=LS WK [(f,a,w,b)]:=rfl;rw[zW_ (d:=LS WK [(f,a,w,b)]) (by exists zci_,ew,j8) (hp _)]
 have tail:∀ws:List Wk,Wks ws->En (S.runs gi pn (znR_.drop 7) [uN (scr ns),uN (.int (cel ns 0)),uN (LS .str WWo),uN (F2 a),uN (F2 b),uN (F2 f),uN (LS WK ws),uO,uO,uO,uO,uO,uO,uO,uO]) λo _=>o=.rt (.bl uP)\/(o=.nx/\D.bl uP=.non):=λws iG=>by
  show En (S.runs gi pn (.asg 7 _::.asg 8 _::_) _) _
  rw[zW_ (d:=LS .str cs) (by rw[zh1_,iW];exact zab_ _ zaJ_) (hp _)]
  rw[zW_ (d:=LS .str []) (by rw[zh1_];exact zab_ (d:=LS .str []) _ zaJ_) (hp _)]
  exact dueW hp hg bw iG λW o o' hW=>zlC_ hp hg bw iG hW
 have d0:=mm (cel ns 0 / 3) (show(2:Int)≠0 by lia)
 have e1:=zdt_ (neg:=uQ) (cel ns 0 / 3 % 2) 1;by_cases q:cel ns 0 / 3 % 2=1
 ·rw[decide_eq_true q]at e1
  rw[zdJ_ (by exists e1)]
  have ap:appendF [LS WK [(f,a,w,b)],WK (s,x,v,a)]=.ok .non [LS WK [(f,a,w,b),(s,x,v,a)],.gone]:=zjB_ (x:=(s,x,v,a)) (by simp)
  have j9:(D.nd .tup [F2 s,F2 x,.str v,F2 a])=WK (s,x,v,a):=rfl;have i8:(WK (s,x,v,a)).new=uP:=zkj_ _;rw[mT,zo4_ (d:=.non) (e:=[uN (scr ns),uN (.int (cel ns 0)),uN (LS .str WWo),uN (F2 a),uN (F2 b),uN (F2 f),uN (LS WK [(f,a,w,b),(s,x,v,a)]),uO,uO,uO,uO,uO,uO,uO,uO]) (by exists zci_,es,ex,ev,j9,i8,ap)]
  exact tail _ (wks_2 ⟨f1,f2,by lia⟩ ⟨a1,a2,by lia⟩ ⟨b1,b2,by lia⟩ hw ⟨s1,s2,by lia⟩ hx hv)
 ·rw[decide_eq_false q]at e1
  rw[zb6_ (by exists e1)]
  exact tail _ (wks_1 ⟨f1,f2,by lia⟩ ⟨a1,a2,by lia⟩ ⟨b1,b2,by lia⟩ hw)
def top (i:Nat):mi:=PySem.Challenge.pw_cardshop_k51_worked.main.body.getD i (.Pass ⟨0,0,0,0⟩)
abbrev zeP_:mi:=top 85
abbrev zdl_:mi:=top 87
abbrev ze7_:mi:=top 86
abbrev zc1_:mi:=top 88
abbrev zc5_:mi:=top 89
abbrev zgp_:mi:=top 46
abbrev zhK_:mi:=top 53
abbrev zca_:mi:=top 55
abbrev zaU_:mi:=top 56
abbrev zhg_:mi:=top 47
abbrev zhc_:mi:=top 48
abbrev zib_:mi:=top 51
abbrev zcO_:mi:=top 57
abbrev zcb_:mi:=top 49
abbrev zd4_:mi:=top 58
abbrev zgg_:mi:=top 18
abbrev zfM_:mi:=top 25
abbrev zcx_:mi:=top 33
abbrev zdp_:mi:=top 50
abbrev zcP_:mi:=top 59
abbrev zaD_:mi:=top 60
abbrev zdT_:mi:=top 23
abbrev zfl_:mi:=top 52
abbrev zbZ_:mi:=top 61
abbrev zdx_:mi:=top 63
abbrev ze4_:mi:=top 28
abbrev zdd_:mi:=top 62
abbrev zcw_:mi:=top 54
abbrev z5_:mi:=inClass (top 45) 0
abbrev zdh_:mi:=top 78
abbrev zdc_:mi:=top 79
abbrev zcW_:mi:=top 80
abbrev zh2_:mi:=top 12
abbrev zhl_:mi:=top 14
abbrev zhS_:mi:=top 15
abbrev zfx_:mi:=top 65
abbrev z3_:mi:=top 68
abbrev zc4_:mi:=top 81
abbrev zhR_:mi:=top 29
abbrev zeV_:mi:=top 20
abbrev zeZ_:mi:=top 30
abbrev zhh_:mi:=top 26
abbrev zj8_:mi:=top 19
abbrev zgZ_:mi:=top 31
abbrev zeU_:mi:=top 76
abbrev zcR_:mi:=top 82
abbrev zda_:mi:=top 83
abbrev s_law:mi:=top 90
structure Ek (K:Fgg):Prop where
 u0:Fg K "_law_cell" zeP_
 u1:Fg K "_law_within" zdl_
 u2:Fg K "_law_card" ze7_
 u3:Fg K "_law_number" zc1_
 u4:Fg K "_law_worked" zc5_
 u5:Fg K "own_list" zgp_
 u6:Fg K "ask_for" zhK_
 u7:Fg K "check_lengths" zca_
 u8:Fg K "check_middle_word" zaU_
 u9:Fg K "mates_by" zhg_
 u10:Fg K "names_of" zhc_
 u11:Fg K "is_name" zib_
 u12:Fg K "check_names" zcO_
 u13:Fg K "middle_fields" zcb_
 u14:Fg K "fields_due" zd4_
 u15:Fg K "is_whole" zgg_
 u16:Fg K "is_field" zfM_
 u17:Fg K "picked_signs" zcx_
 u18:Fg K "pick_passes" zdp_
 u19:Fg K "check_picks" zcP_
 u20:Fg K "check_middle_widths" zaD_
 u21:Fg K "make_board" zdT_
 u22:Fg K "is_board" zfl_
 u23:Fg K "check_counting" zbZ_
 u24:Fg K "fields_kept" zdx_
 u25:Fg K "are_apart" ze4_
 u26:Fg K "check_works" zdd_
 u27:Fg K "check_asking" zcw_
 u28:Fg K "check_trays" zdh_
 u29:Fg K "picked_deck" zdc_
 u30:Fg K "middle_deck" zcW_
 u31:Fg K "is_sign" zh2_
 u32:Fg K "rank_of" zhl_
 u33:Fg K "sign_at" zhS_
 u34:Fg K "ranks_at" zfx_
 u35:Fg K "put_in_order" z3_
 u36:Fg K "key_columns" zc4_
 u37:Fg K "part_of" zhR_
 u38:Fg K "number_by" zeV_
 u39:Fg K "number_of" zeZ_
 u40:Fg K "width_of" zhh_
 u41:Fg K "ten_to" zj8_
 u42:Fg K "punch_in" zgZ_
 u43:Fg K "work_card" zeU_
 u44:Fg K "worked_card" zcR_
 u45:Fg K "chosen_deck" zda_
 u46:Fg K "law" s_law
 u47:FmD K "Asking" "__init__" "Asking.__init__" z5_ [.non,(.int 0),.non,(.int 6),.non]
 u48:Fc K "Asking"
 u49:Fa K "Asking" "board"
 u50:Fa K "Asking" "breaks"
 u51:Fa K "Asking" "deck"
 u52:Fa K "Asking" "figures"
 u53:Fa K "Asking" "middle"
 u54:Fa K "Asking" "order"
 u55:Fa K "Asking" "picks"
 u56:Fa K "Asking" "sums"
 u57:Fa K "Asking" "works"
 u58:L2.Fl K (lamPos z3_)
 u59:Fb K "all"
 u60:Fb K "bool"
 u61:Fb K "enumerate"
 u62:Fb K "int"
 u63:Fb K "isinstance"
 u64:Fb K "len"
 u65:Fb K "list"
 u66:Fb K "range"
 u67:Fb K "sorted"
 u68:Fb K "str"
 u69:Fv K "BODY_WIDTH" (.int 36)
 u70:Fv K "FIGURES" (tx Qm1)
 u71:Fv K "LONGEST_NAME" (.int 8)
 u72:Fv K "MOST_BREAKS" (.int 3)
 u73:Fv K "MOST_FIGURES" (.int 12)
 u74:Fv K "MOST_KEYS" (.int 6)
 u75:Fv K "MOST_PICKS" (.int 8)
 u76:Fv K "MOST_SUMS" (.int 4)
 u77:Fv K "MOST_WORKS" (.int 4)
 u78:Fv K "SIGNS" (tx Qm0)
 u79:Fv K "SMALL_LETTERS" (tx Qm2)
 u80:Fk K "MATING_WORDS"
 u81:FtT K "MATING_WORDS" [[109,97,116,101,115],[119,105,116,104,111,117,116]]
 u82:Fk K "WORK_WORDS"
 u83:FtT K "WORK_WORDS" [[112,108,117,115],[108,101,115,115],[116,105,109,101,115]]
structure En (K:Fgg)(mg:Str->Option aU):Prop extends Ek K where
 m:Mgo K mg
def ft:Ft:={bs:=["all", "bool", "enumerate", "int", "isinstance", "len", "list", "range", "sorted", "str"],at_:=["board", "breaks", "deck", "figures", "middle", "order", "picks", "sums", "works"],gc:=[("BODY_WIDTH",(.int 36)),("FIGURES",(tx Qm1)),("LONGEST_NAME",(.int 8)),("MOST_BREAKS",(.int 3)),("MOST_FIGURES",(.int 12)),("MOST_KEYS",(.int 6)),("MOST_PICKS",(.int 8)),("MOST_SUMS",(.int 4)),("MOST_WORKS",(.int 4)),("SIGNS",(tx Qm0)),("SMALL_LETTERS",(tx Qm2))]}
theorem gok {K:Fgg}(e:Ek K):gi.Ok K:=⟨by decide,(zf_ (ftt_u e.u81) (zf_ (ftt_u e.u83) zdP_))⟩
theorem fo {K:Fgg}{mg:Str->Option aU}(e:En K mg):ft.Ok gi K mg:=⟨(zf_ (e.m.gb e.u59) (zf_ (e.m.gb e.u60) (zf_ (e.m.gb e.u61) (zf_ (e.m.gb e.u62) (zf_ (e.m.gb e.u63) (zf_ (e.m.gb e.u64) (zf_ (e.m.gb e.u65) (zf_ (e.m.gb e.u66) (zf_ (e.m.gb e.u67) (zf_ (e.m.gb e.u68) zdP_)))))))))),(zf_ e.u48.cls zdP_),(zf_ (zf_ e.u49.no (zf_ e.u50.no (zf_ e.u51.no (zf_ e.u52.no (zf_ e.u53.no (zf_ e.u54.no (zf_ e.u55.no (zf_ e.u56.no (zf_ e.u57.no zdP_))))))))) zdP_),(zf_ (e.m.gv e.u69) (zf_ (e.m.gv e.u70) (zf_ (e.m.gv e.u71) (zf_ (e.m.gv e.u72) (zf_ (e.m.gv e.u73) (zf_ (e.m.gv e.u74) (zf_ (e.m.gv e.u75) (zf_ (e.m.gv e.u76) (zf_ (e.m.gv e.u77) (zf_ (e.m.gv e.u78) (zf_ (e.m.gv e.u79) zdP_))))))))))),(zf_ (e.m.gkc e.u80) (zf_ (e.m.gkc e.u82) zdP_))⟩
section
variable {P:lQ}{w:l9}{K:Fgg}{mg:Str->Option aU}{base:Heap}
theorem g0 (e:En K mg):GG P w K mg base 1 "_law_cell" ["_law_script", "_law_k"] zT_:=zG_ e.m e.u0 (okW (N:=["_law_script", "_law_k", "_law_number_here"]) (body:=zR_) (n:=2) (m:=1) (gok e.toEk) (fo e) trivial)
theorem g1 (e:En K mg):GG P w K mg base 1 "_law_within" ["_law_cell_here", "_law_low", "_law_many"] zao_:=zG_ e.m e.u1 (okW (N:=["_law_cell_here", "_law_low", "_law_many", "_law_first"]) (body:=zap_) (n:=3) (m:=1) (gok e.toEk) (fo e) trivial)
theorem g2 (e:En K mg):GG P w K mg base 1 "_law_card" ["_law_cell_here", "_law_k"] zx_:=zG_ e.m e.u2 (okW (N:=["_law_cell_here", "_law_k", "_law_text", "_law_at"]) (body:=zS_) (n:=2) (m:=2) (gok e.toEk) (fo e) trivial)
theorem g3 (e:En K mg):GG P w K mg base 1 "_law_number" ["_law_card_here", "_law_field"] zah_:=zG_ e.m e.u3 (okW (N:=["_law_card_here", "_law_field", "_law_total", "_law_sign"]) (body:=zat_) (n:=2) (m:=2) (gok e.toEk) (fo e) trivial)
theorem g4 (e:En K mg):GG P w K mg base 2 "_law_worked" ["_law_card_here", "_law_work"] zH_:=zG_ e.m e.u4 (okW (N:=["_law_card_here", "_law_work", "_law_to", "_law_one", "_law_word", "_law_other", "_law_value", "_law_text", "_law_k"]) (body:=zak_) (n:=2) (m:=7) (gok e.toEk) (fo e) ⟨fkc (g3 e),fkc (g3 e),fkc (g3 e),fkc (g3 e),fkc (g3 e),fkc (g3 e),trivial⟩)
theorem g5 (e:En K mg):GG P w K mg base 1 "own_list" ["values"] za5_:=zG_ e.m e.u5 (okW (N:=["values"]) (body:=zbO_) (n:=1) (m:=0) (gok e.toEk) (fo e) trivial)
theorem g6 (e:En K mg):GG P w K mg base 1 "ask_for" ["holds", "words"] zcs_:=zG_ e.m e.u6 (okW (N:=["holds", "words"]) (body:=zeh_) (n:=2) (m:=0) (gok e.toEk) (fo e) trivial)
theorem g7 (e:En K mg):GG P w K mg base 2 "check_lengths" Qn1 zN_:=zG_ e.m e.u7 (okW (N:=Qn1) (body:=zO_) (n:=1) (m:=0) (gok e.toEk) (fo e) ⟨fkc (g6 e),fkc (g6 e),fkc (g6 e),fkc (g6 e),trivial⟩)
theorem g8 (e:En K mg):GG P w K mg base 1 "check_middle_word" Qn1 zv_:=zG_ e.m e.u8 (okW (N:=["asking", "many"]) (body:=zI_) (n:=1) (m:=1) (gok e.toEk) (fo e) trivial)
theorem g9 (e:En K mg):GG P w K mg base 1 "mates_by" Qn1 zdi_:=zG_ e.m e.u9 (okW (N:=Qn1) (body:=zcU_) (n:=1) (m:=0) (gok e.toEk) (fo e) trivial)
theorem g10 (e:En K mg):GG P w K mg base 2 "names_of" Qn1 za9_:=zG_ e.m e.u10 (okW (N:=Qn1) (body:=zdf_) (n:=1) (m:=0) (gok e.toEk) (fo e) ⟨fkc (g9 e),trivial⟩)
theorem g11 (e:En K mg):GG P w K mg base 1 "is_name" ["text"] zeu_:=zG_ e.m e.u11 (okW (N:=["text"]) (body:=zed_) (n:=1) (m:=0) (gok e.toEk) (fo e) trivial)
theorem g12 (e:En K mg):GG P w K mg base 3 "check_names" Qn1 zaq_:=zG_ e.m e.u12 (okW (N:=["asking", "names", "name"]) (body:=zbw_) (n:=1) (m:=2) (gok e.toEk) (fo e) ⟨fkc (g10 e),fkc (g6 e),fkc (g11 e),fkc (g6 e),trivial⟩)
theorem g13 (e:En K mg):GG P w K mg base 1 "middle_fields" Qn1 zy_:=zG_ e.m e.u13 (okW (N:=Qn1) (body:=zaG_) (n:=1) (m:=0) (gok e.toEk) (fo e) trivial)
theorem g14 (e:En K mg):GG P w K mg base 2 "fields_due" Qn1 zaL_:=zG_ e.m e.u14 (okW (N:=["asking", "fields", "work"]) (body:=zaK_) (n:=1) (m:=2) (gok e.toEk) (fo e) ⟨fkc (g13 e),trivial⟩)
theorem g15 (e:En K mg):GG P w K mg base 1 "is_whole" ["value"] zbY_:=zG_ e.m e.u15 (okW (N:=["value"]) (body:=zcS_) (n:=1) (m:=0) (gok e.toEk) (fo e) trivial)
theorem g16 (e:En K mg):GG P w K mg base 2 "is_field" ["first", "last"] zbV_:=zG_ e.m e.u16 (okW (N:=["first", "last"]) (body:=zbN_) (n:=2) (m:=0) (gok e.toEk) (fo e) ⟨fkc (g15 e),fkc (g15 e),trivial⟩)
theorem g17 (e:En K mg):GG P w K mg base 1 "picked_signs" ["row"] zaT_:=zG_ e.m e.u17 (okW (N:=["row", "signs", "step"]) (body:=zaW_) (n:=1) (m:=2) (gok e.toEk) (fo e) trivial)
theorem g18 (e:En K mg):GG P w K mg base 1 "pick_passes" Qn1 zbs_:=zG_ e.m e.u18 (okW (N:=["asking", "row", "pick"]) (body:=zby_) (n:=1) (m:=2) (gok e.toEk) (fo e) trivial)
theorem g19 (e:En K mg):GG P w K mg base 2 "check_picks" Qn1 zac_:=zG_ e.m e.u19 (okW (N:=["asking", "pick"]) (body:=zbz_) (n:=1) (m:=1) (gok e.toEk) (fo e) ⟨fkc (g6 e),fkc (g17 e),fkc (g18 e),trivial⟩)
theorem g20 (e:En K mg):GG P w K mg base 2 "check_middle_widths" Qn1 zs_:=zG_ e.m e.u20 (okW (N:=["asking", "fields"]) (body:=zB_) (n:=1) (m:=1) (gok e.toEk) (fo e) ⟨fkc (g13 e),trivial⟩)
theorem g21 (e:En K mg):GG P w K mg base 1 "make_board" ["wires"] zaO_:=zG_ e.m e.u21 (okW (N:=["wires", "wire", "leading"]) (body:=zaH_) (n:=1) (m:=2) (gok e.toEk) (fo e) trivial)
theorem g22 (e:En K mg):GG P w K mg base 2 "is_board" ["wires"] zb3_:=zG_ e.m e.u22 (okW (N:=["wires", "board"]) (body:=zb2_) (n:=1) (m:=1) (gok e.toEk) (fo e) ⟨fkc (g21 e),trivial⟩)
theorem g23 (e:En K mg):GG P w K mg base 3 "check_counting" Qn1 zD_:=zG_ e.m e.u23 (okW (N:=Qn1) (body:=zF_) (n:=1) (m:=0) (gok e.toEk) (fo e) ⟨fkc (g6 e),fkc (g15 e),fkc (g6 e),fkc (g6 e),fkc (g15 e),fkc (g6 e),fkc (g22 e),trivial⟩)
theorem g24 (e:En K mg):GG P w K mg base 2 "fields_kept" ["asking", "place"] zas_:=zG_ e.m e.u24 (okW (N:=["asking", "place", "fields", "other_place", "work"]) (body:=zan_) (n:=2) (m:=3) (gok e.toEk) (fo e) ⟨fkc (g13 e),trivial⟩)
theorem g25 (e:En K mg):GG P w K mg base 1 "are_apart" ["one", "other"] zbh_:=zG_ e.m e.u25 (okW (N:=["one", "other"]) (body:=zbj_) (n:=2) (m:=0) (gok e.toEk) (fo e) trivial)
theorem g26 (e:En K mg):GG P w K mg base 3 "check_works" Qn1 z8_:=zG_ e.m e.u26 (okW (N:=["asking", "place", "work", "field"]) (body:=zag_) (n:=1) (m:=3) (gok e.toEk) (fo e) ⟨fkc (g6 e),fkc (g24 e),fkc (g6 e),fkc (g25 e),trivial⟩)
theorem g27 (e:En K mg):GG P w K mg base 4 "check_asking" Qn1 zZ_:=zG_ e.m e.u27 (okW (N:=["asking", "field"]) (body:=z4_) (n:=1) (m:=1) (gok e.toEk) (fo e) ⟨fkc (g7 e),fkc (g8 e),fkc (g12 e),fkc (g14 e),fkc (g6 e),fkc (g16 e),fkc (g19 e),fkc (g20 e),fkc (g23 e),fkc (g26 e),trivial⟩)
theorem g28 (e:En K mg):GkD P w K mg base CX0 5 "Asking" (gA K "Asking") Qn0 ((flats [(.int 0),.non,(.int 6),.non]).getD []) (CtG K zg_):=show GkD P w K mg base CX0 5 "Asking" (gA K "Asking") Qn0 ([.non,(.int 0),.non,(.int 6),.non].drop 1) (CtG K zg_)from zov_ 1 e.m e.u48 e.u47 (λT f fd arr n oc od aq F lT hl=>bnd6 rfl F lT hl λd0 d1 d2 d3 d4 kV doc pm an af ct u0 u1 u2 u3 u4 u5 s ⟨o,ho,hd⟩=>BindsTo.of_defaults rfl ho hd rfl rfl) (okVD (k:=4) (ps:=Qn0) (st:=z5_) (N:=Qn0) (body:=zm_) (n:=10) (m:=0) (gok e.toEk) (fo e) ⟨fkc (g5 e),fkc (g5 e),fkc (g5 e),fkc (g27 e),trivial⟩ (by decide +kernel) ⟨rfl,rfl,rfl,by decide +kernel,rfl,by decide +kernel,by decide +kernel⟩ rfl rfl)
theorem g29 (e:En K mg):GG P w K mg base 3 "check_trays" ["asking", "trays"] z7_:=zG_ e.m e.u28 (okW (N:=["asking", "trays", "name"]) (body:=zaa_) (n:=2) (m:=1) (gok e.toEk) (fo e) ⟨fkc (g10 e),trivial⟩)
theorem g30 (e:En K mg):GG P w K mg base 1 "picked_deck" ["asking", "deck"] zau_:=zG_ e.m e.u29 (okW (N:=["asking", "deck", "left", "pick"]) (body:=zbx_) (n:=2) (m:=2) (gok e.toEk) (fo e) trivial)
theorem g31 (e:En K mg):GG P w K mg base 1 "middle_deck" ["asking", "deck", "trays"] zal_:=zG_ e.m e.u30 (okW (N:=["asking", "deck", "trays", "fields", "ordered", "parts"]) (body:=zbt_) (n:=3) (m:=3) (gok e.toEk) (fo e) trivial)
theorem g32 (e:En K mg):GG P w K mg base 1 "is_sign" ["text"] zev_:=zG_ e.m e.u31 (okW (N:=["text"]) (body:=zeD_) (n:=1) (m:=0) (gok e.toEk) (fo e) trivial)
theorem g33 (e:En K mg):GG P w K mg base 2 "rank_of" ["sign"] zeL_:=zG_ e.m e.u32 (okW (N:=["sign"]) (body:=zeJ_) (n:=1) (m:=0) (gok e.toEk) (fo e) ⟨fkc (g32 e),trivial⟩)
theorem g34 (e:En K mg):GG P w K mg base 1 "sign_at" ["card", "column"] zei_:=zG_ e.m e.u33 (okW (N:=["card", "column"]) (body:=zeN_) (n:=2) (m:=0) (gok e.toEk) (fo e) trivial)
theorem g35 (e:En K mg):GG P w K mg base 3 "ranks_at" ["card", "columns"] z9_:=zG_ e.m e.u34 (okW (N:=["card", "columns"]) (body:=zbR_) (n:=2) (m:=0) (gok e.toEk) (fo e) ⟨fkc (g33 e),fkc (g34 e),trivial⟩)
theorem g36 (e:En K mg):GG P w K mg base 5 "put_in_order" ["deck", "columns"] zC_:=zqr_ (st:=z3_) (N:=["deck", "columns"]) (n:=2) (m:=0) (p:="card") (fr:=[("columns",1)]) (i:=0) e.m e.u35 e.u58 (gok e.toEk) (fo e) ⟨fkc (g35 e),trivial⟩
theorem g37 (e:En K mg):GG P w K mg base 1 "key_columns" Qn1 zam_:=zG_ e.m e.u36 (okW (N:=["asking", "columns", "key"]) (body:=zbu_) (n:=1) (m:=2) (gok e.toEk) (fo e) trivial)
theorem g38 (e:En K mg):GG P w K mg base 1 "part_of" ["card", "field"] zbA_:=zG_ e.m e.u37 (okW (N:=["card", "field"]) (body:=zcE_) (n:=2) (m:=0) (gok e.toEk) (fo e) trivial)
theorem g39 (e:En K mg):GG P w K mg base 1 "number_by" ["figures"] zbl_:=zG_ e.m e.u38 (okW (N:=["figures", "value", "figure"]) (body:=zbi_) (n:=1) (m:=2) (gok e.toEk) (fo e) trivial)
theorem g40 (e:En K mg):GG P w K mg base 2 "number_of" ["card", "field"] zay_:=zG_ e.m e.u39 (okW (N:=["card", "field", "figures"]) (body:=zbd_) (n:=2) (m:=1) (gok e.toEk) (fo e) ⟨fkc (g38 e),fkc (g39 e),trivial⟩)
theorem g41 (e:En K mg):GG P w K mg base 1 "width_of" ["field"] zaZ_:=zG_ e.m e.u40 (okW (N:=["field"]) (body:=zbL_) (n:=1) (m:=0) (gok e.toEk) (fo e) trivial)
theorem g42 (e:En K mg):GG P w K mg base 1 "ten_to" ["power"] zcn_:=zG_ e.m e.u41 (okW (N:=["power", "value", "step"]) (body:=zd1_) (n:=1) (m:=2) (gok e.toEk) (fo e) trivial)
theorem g43 (e:En K mg):GG P w K mg base 2 "punch_in" ["card", "field", "value"] za4_:=zG_ e.m e.u42 (okW (N:=["card", "field", "value", "width", "punched"]) (body:=zbJ_) (n:=3) (m:=2) (gok e.toEk) (fo e) ⟨fkc (g41 e),fkc (g42 e),trivial⟩)
theorem g44 (e:En K mg):GG P w K mg base 3 "work_card" ["card", "work"] zbo_:=zG_ e.m e.u43 (okW (N:=["card", "work", "one", "other", "value"]) (body:=zbe_) (n:=2) (m:=3) (gok e.toEk) (fo e) ⟨fkc (g40 e),fkc (g40 e),fkc (g43 e),trivial⟩)
theorem g45 (e:En K mg):GG P w K mg base 4 "worked_card" ["asking", "card"] zaf_:=zG_ e.m e.u44 (okW (N:=["asking", "card", "worked", "work"]) (body:=zaj_) (n:=2) (m:=2) (gok e.toEk) (fo e) ⟨fkc (g44 e),trivial⟩)
theorem g46 (e:En K mg):GG P w K mg base 6 "chosen_deck" ["asking", "trays"] zk_:=zG_ e.m e.u45 (okW (N:=["asking", "trays", "deck"]) (body:=zav_) (n:=2) (m:=1) (gok e.toEk) (fo e) ⟨fkc (g29 e),fkc (g30 e),fkc (g31 e),fkc (g36 e),fkc (g37 e),fkc (g45 e),trivial⟩)
theorem g47 (e:En K mg):OkF P w K mg base CX0 7 "law" "law" s_law ["_law_script"] (CtG K f_law):=okW (N:=["_law_script", "_law_cell_here", "_law_words", "_law_one", "_law_other", "_law_first", "_law_works", "_law_deck", "_law_due", "_law_card_here", "_law_work", "_law_asking", "_law_trays", "_law_found", "_law_again"]) (body:=znR_) (n:=1) (m:=14) (gok e.toEk) (fo e) ⟨fkc (g0 e),fkc (g1 e),fkc (g0 e),fkc (g1 e),fkc (g0 e),fkc (g1 e),fkc (g1 e),fkc (g2 e),fkc (g4 e),fkd (g28 e),fkc (g46 e),fkc (g46 e),trivial⟩
end
theorem all_mk {l:tE}{w:l9}{K:Fgg}{h:Heap}{mg:Str->Option aU}{fa:k9}(X:K.In h)(G:h.Ns lH mg)(gQ:mg "law"=uN (.ref fa))(k:Ek K):
  ∃fd:mO,(∀(s:kR) (v:aU),BindsTo s fd ⟨[v],[]⟩ [("_law_script",v)])/\∀base:Heap,K.In base->base.Ns lH mg->FnOk l.prog w K mg base CX0 7 fa fd ["_law_script"] (spL K):=by
 have e:En K mg:=⟨k,_,X,G⟩;refine okLaw e.m e.u46 gQ (λ_ _ _ _ _ _ _ _=>rfl) λbase f fd F=>?_
 exact okLV (g47 (P:=l.prog) (w:=w) (base:=base) e f fd F).1 zko_
theorem walk {l:tE}{q:lQ}{loose:List Str}{XP:(Str->Option aU)->Heap->Prop}{YP:l9->Heap->Prop}{d:DefRec}{K:Params->Fgg}(hn:l.most=uN 63)(eW:d.params.defaults=[])(bX:∀p,L2.lamOk q (K p)=uP)
  (hY:∀(w:l9) (h:Heap),YP w h->(K w.params).In h)
  (F:∀(w:l9) (mg:Str->Option aU) (fa:k9) (h:Heap),(K w.params).In h->h.Ns lH mg->mg d.name=uN (.ref fa) ->
   ∃fd:mO,(∀(s:kR) (u:aU),BindsTo s fd ⟨[u],[]⟩ [("_law_script",u)])/\∀base:Heap,(K w.params).In base->base.Ns lH mg->FnOk l.prog w (K w.params) mg base CX0 7 fa fd ["_law_script"] (spL (K w.params))):
  W.WalkO q loose XP YP l.row.toRowW d [] (λf vs=>sQ f vs):=
 L2.zjS_ (n:=63) (k:=7) (x:="_law_script") (CX:=λ_=>CX0) (sp:=λw=>spL (K w.params)) hn (by decide) eW ⟨rfl,by decide,by decide⟩ bX hY F (λ_ _ a ns hl hb _ hS=>⟨a,ns,rfl,hS,hl,hb,λ_=>rfl⟩) λ_ _ _ _ _ z=>z
end K51
open PySem PySem.W PyProof.Rows
set_option maxRecDepth 100000 in
set_option maxHeartbeats 0 in
theorem PySem.Challenge.cw_cardshop_k51_worked_holds : PySem.Challenge.rw_cardshop_k51_worked.Holds := by
 w_on;o_law;k_head;(case hw=>w_witness2)
 k_fill
 refine K51.walk (l:=PySem.Challenge.rw_cardshop_k51_worked) rfl rfl ?L (λw h Y=>W.km_in_of Y) ?F
 case L=>intro p;kernel_rfl!
 case F=>
  intro w mg fa h KX G eI;refine K51.all_mk KX G eI ?_;constructor
  all_goals first |(refine' L2.Fl.mk_ ?x0 ?x1 ?x2 ?x3 ?x4 ?x5 ?x6 ?x7 ?x8;(case x0=>k_is);(case x1=>k_is);(case x2=>rfl);(case x3=>k_is);(case x4=>rfl);(case x5=>rfl);(case x6=>rfl);(case x7=>rfl);(case x8=>rfl))|(refine' L2.FmD.mk_ ?x0 ?x1 ?x2 ?x3 ?x4 ?x5 ?x6 ?x7;(case x0=>k_is);(case x1=>k_is);(case x2=>k_is);(case x3=>k_is);(case x4=>k_is);(case x5=>k_is);(case x6=>k_is);(case x7=>(show _=_;kernel_rfl!)))|(refine' L2.Fg.mk_ ?x0 ?x1 ?x2 ?x3;(case x0=>k_is);(case x1=>k_is);(case x2=>k_is);(case x3=>k_is))|(refine' L2.Fm.mk_ ?x0 ?x1 ?x2 ?x3 ?x4 ?x5;(case x0=>k_is);(case x1=>k_is);(case x2=>k_is);(case x3=>k_is);(case x4=>k_is);(case x5=>k_is))|(refine' L2.Fc.mk_ ?x0 ?x1 ?x2 ?x3 ?x4 ?x5 ?x6;(case x0=>k_is);(case x1=>k_is);(case x2=>k_is);(case x3=>k_is);(case x4=>k_is);(case x5=>k_is);(case x6=>k_is))|(refine' L2.Fa.mk_ ?x0 ?x1;(case x0=>k_is);(case x1=>k_is))|(delta L2.Fb;k_is)|(refine' L2.Fv.mk_ ?x0 ?x1;(case x0=>k_is);(case x1=>first |exact⟨_,rfl⟩|rfl))|(refine' L2.Fk.mk_ ?x0;(case x0=>k_is))|(refine' L2.Fe1.mk_ ?x0 ?x1;(case x0=>k_is);(case x1=>(show _=_;kernel_rfl!)))|(refine' L2.FtT.mk_ ?x0 ?x1 ?x2 ?x3;(case x0=>k_is);(case x1=>k_is);(case x2=>(show _=_;kernel_rfl!));(case x3=>decide))
#print axioms PySem.Challenge.cw_cardshop_k51_worked_holds
