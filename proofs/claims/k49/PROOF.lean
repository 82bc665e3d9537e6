import PyProof.Rows.All
import Wide.All
import OpenK.AllK
import Wide.FinOn
import Lean
import PyProof.EqAt
import PyProof.EqKinds
import PyProof.TupleCall
import PyProof.StrLawsRepr
import PyProof.NeKinds
import KE.KTryMore
import PyProof.Rows.TupIter
import PyProof.InstStoreFacts
import PyProof.ExcInit
import KE.KEqDict
import KE.KDictOf
import KE.KPairComp
import PySem.Challenge.RW_cardshop_k49_by_the_middle
set_option Elab.async false
set_option compiler.extract_closed false
set_option linter.all false
set_option maxRecDepth 100000
set_option maxHeartbeats 4000000
namespace PySem.W.Fast
def tw4917420309550873801:=()
def tw4044847276728187926:=()
def tw17763813508220691364:=()
def tw11629892307777608274:=()
def tw119394922427215311:=()
def tw17067849215675773321:=()
def tw7790174189197006629:=()
def tw8461906490179664152:=()
def tw13977468242481242714:=()
def tw12388014485059068355:=()
def tw8974090566972134382:=()
def tw4170994790161669002:=()
def tw10898301149596310708:=()
def tw15689681043590572247:=()
def tw11279177993068022170:=()
def tw7388414200691960790:=()
def tw882608253910618839:=()
def tw14716953395142494732:=()
def tw12349233067225689857:=()
def tw8297493820004513849:=()
def tw8706723009392491966:=()
def tw14491379061786709956:=()
def tw7384441297815487979:=()
def tw7798477678307901749:=()
def tw9365656098380913785:=()
def tw12020170731451376637:=()
def tw7842813871722918708:=()
def tw10933815829723266372:=()
def tw11704638453928753342:=()
def tw2279189558753526019:=()
def tw4481417957725521444:=()
def tw2602637230445005985:=()
def tw1858213220235104712:=()
def tw8331980106024722796:=()
def tw9379467673336366011:=()
def tw461750479255860727:=()
def tw4375194293501412654:=()
def tw2668327613125596780:=()
def tw15722238613536533280:=()
def tw12289166124021388019:=()
def tw5932916059396006788:=()
def tw2764838898306645284:=()
def tw12564173001423248517:=()
def tw6577482513922294265:=()
def tw9930387776861692012:=()
def tw15068399960355519013:=()
def tw16972683867802569211:=()
def tw10791942387616744400:=()
def tw14961943595691605797:=()
def tw4933112775797466609:=()
def tw17944471683651666588:=()
def tw8544809065449952677:=()
def tw2623059972994354557:=()
def tw2531003829298712646:=()
def tw5315089780592332468:=()
def tw3688711546939964841:=()
def tw10236238659621857563:=()
def tw1981966221391256337:=()
def tw13178249139895495967:=()
def tw10464476019874618465:=()
def tw6923360059750893970:=()
def tw781750552386146433:=()
def tw1897764158579835754:=()
def tw10416504630798706326:=()
def tw15580864456276103678:=()
def tw5184000092097812623:=()
def tw67771477606910570:=()
def tw1064145811306797022:=()
def tw7194148134379458120:=()
def tw2977151751709278050:=()
def tw15438662318329585222:=()
def tw16849647395564265586:=()
def tw6503352738789638412:=()
def tw11430672275052849176:=()
def tw9349309904570050004:=()
def tw3489153885686520227:=()
def tw14050096195523179488:=()
def tw15223765449267534975:=()
def tw7446701672102613930:=()
def tw10367721113391570018:=()
def tw8341833937441262680:=()
def tw13825152589094737316:=()
def tw11554732437833326932:=()
def tw13728513184601483023:=()
def tw10309966356246075391:=()
def tw5115277026814862875:=()
def tw7985340093432769275:=()
def tw11344890981618367751:=()
def tw5173861663906076232:=()
def tw11736637428181558414:=()
def tw14962931736162766761:=()
def tw12817296782846337945:=()
def tw6460104555379981632:=()
def tw8886793818599849343:=()
def tw12991688044383956159:=()
def tw13677128859434258623:=()
def tw17848570414552392221:=()
def tw17238658296601763310:=()
def tw11937141592426670044:=()
def tw18093385525539825271:=()
def tw1444030767253053312:=()
def tw12731092552447229165:=()
def tw1033225960170190799:=()
def tw12383306514434641955:=()
def tw3696771687947609904:=()
def tw2283132017144312871:=()
def tw1031415207849037562:=()
def tw14524664187395180611:=()
def tw4306902632887802766:=()
def tw1142335762930850230:=()
def tw3247388068501893483:=()
def tw12787190722499594308:=()
def tw4581805553568889170:=()
def tw4031358621573658112:=()
def tw15055242019382605254:=()
def tw582122900342874625:=()
def tw7676844859038959215:=()
def tw13998738241857000069:=()
def tw8539244610166243716:=()
def tw9152078155347185619:=()
def tw6128112972384903744:=()
def tw12682998354537438444:=()
def tw998935901465349625:=()
def tw6470424324278941409:=()
def tw9724763120954613723:=()
def tw14514110328061304538:=()
def tw17644692881213304786:=()
def tw7722787351285691237:=()
def tw531845635019129505:=()
def tw8753073028882704468:=()
def tw6801350346981796261:=()
def tw10197118690682510529:=()
def tw3677837019364743540:=()
def tw7163855042141237220:=()
def tw13636485256417505827:=()
def tw1373739463985220659:=()
def tw8862719585640304900:=()
def tw10137146642300124806:=()
def tw1667031301093542003:=()
def tw10827232747664580020:=()
def tw1155862464755029999:=()
def tw7291514240650342213:=()
def tw17521635597062825765:=()
def tw748628380789154458:=()
def tw14351447896348623135:=()
def tw16105448666117893157:=()
def tw10893811338030155904:=()
def tw10974282128434234989:=()
def tw9999821069561353797:=()
def tw14089733942573214546:=()
def tw10448454235894287015:=()
def tw16468837555040318783:=()
def tw301364983971102071:=()
def tw14915796425556050814:=()
def tw11329697253605460542:=()
def tw14031154583282072844:=()
def tw7473740214939705299:=()
def tw8792357244786094046:=()
def tw4434403056027204432:=()
def tw9237653437927570593:=()
def tw13995035737444437565:=()
def tw14723648002105223167:=()
def tw14777785486993009113:=()
def tw16946667157995763203:=()
def tw5760160266899755355:=()
def tw17582918324632358617:=()
def tw1619198189053232542:=()
def tw17191632260329327385:=()
def tw14842504354255243780:=()
def tw231614622409156130:=()
def tw3352043474091851520:=()
def tw17452441930463765638:=()
def tw1570685191356680039:=()
def tw4402874619038369941:=()
def tw10687806828443074078:=()
def tw10916310453794893872:=()
def tw2809124363010187764:=()
def tw1343389362406338798:=()
def tw6107053686483962925:=()
def tw1587503452654131562:=()
def tw11793529680925046228:=()
def tw2280527768336749412:=()
def tw17687428358337912785:=()
def tw10955236436747102561:=()
def tw17414969166080806245:=()
def tw13114613678904015378:=()
def tw7642319985645384051:=()
def tw3023283748523573418:=()
def tw10025437732449640951:=()
def tw4612946588321213136:=()
def tw8685981534303138317:=()
def tw283296757749343372:=()
def tw14711978019045515131:=()
def tw17485291485366058621:=()
def tw12408618186845522511:=()
def tw4946403195477764090:=()
def tw17936624468544725993:=()
def tw12625870799154449985:=()
def tw16839656413263499865:=()
def tw11359178204046868974:=()
def tw15291526572688242431:=()
def tw5291037669027840333:=()
def tw14553360616046070716:=()
def tw1917102912375340544:=()
def tw9217328756659251396:=()
def tw8380540253968285280:=()
def tw3557717867856421246:=()
def tw9570387058878403266:=()
def tw6491282516624060090:=()
def tw2806202678997146041:=()
def tw6128188427974137805:=()
def tw17161004156015842606:=()
def tw6392741721872433238:=()
def tw2675965699560700476:=()
def tw3432313941848952794:=()
def tw12670418695648887953:=()
def tw17581820499834146416:=()
def tw5935349171732706240:=()
def tw1211130027102728088:=()
def tw8155378857258099990:=()
def tw11507827074607464807:=()
def tw16371788793727340098:=()
def tw2699223750445166289:=()
def tw4480484092602843358:=()
def tw659830441280201706:=()
def tw16590912891046460395:=()
def tw1974965516919999841:=()
def tw16679517655730031515:=()
def tw5232708984529653733:=()
def tw16516359249696761051:=()
def tw2294103435731028422:=()
def tw10250065171537794796:=()
def tw11745372964498932913:=()
def tw10639942948956615060:=()
def tw14724683217309041766:=()
def tw13113553164779539445:=()
def tw10600349928317976440:=()
def tw2336776242040196024:=()
def tw14895017612069020506:=()
def tw247387180774581771:=()
def tw2632525159070185661:=()
def tw11446972971566726230:=()
def tw9289648231515064850:=()
def tw11763297976526774651:=()
def tw101914684038988196:=()
end PySem.W.Fast
set_option genSizeOf false
set_option genSizeOfSpec false
set_option bootstrap.genMatcherCode false
noncomputable section
open PySem renaming Value→aU,Shared→kn,wpAny_bind→kr,Addr→kz,sizeLine→kR,Expr→k8,mainGlobals→lh,wpAny_pure→lj,compareOp→lp,wpAny→lC,Program→lF,starEach→lJ,wpAny_truthy_bool→lR,Stmt→lV,World→lW,Around→lY,mem_of_lookup→l6,strIterType→mj,FuncData→mz,wpAny_mono→mF,assignEach→mZ,binaryOp→nj,bootBuiltins→nr,wpAny_Call_Name_kw→nz,NameKind→nA,backTo→nX,wpAny_passesOwn→oP,keywordEach→pv,Within→qb,backToKw→qy,Builtin→rm,wpAny_field→rV,call→sG,Obj→sX,Args→uw
open Bool renaming and_eq_true→kl,and_eq_true_iff→lP,false_ne_true→mh,eq_iff_iff→ni,or_eq_true→nO,false_eq_true→pN,not_eq_true'→pR,false_or→sQ,and_true→sV,true→uE,false→uF
open List renaming getElem?_eq_getElem→km,length_map→ko,size_toArray→ky,getD_eq_getElem?_getD→kE,map_cons→kF,getElem?_map→kH,length_append→kX,replicate→kY,length_cons→kZ,mem_cons→k9,getElem?_eq_some_iff→lg,mem_cons_of_mem→lu,mem_cons_self→lA,getElem?_set_ne→lD,mem_append_right→lE,range→lG,zip_cons_cons→lM,isEmpty_iff→lN,mem_range→lO,mem_singleton→lQ,map_map→lX,length_range→lZ,exists_cons_of_length_eq_add_one→l4,length_eq_zero_iff→l9,all_eq_true→me,cons_append→mf,all_cons→mi,length_zip→mn,length_take→mq,getElem?_append_right→mr,getElem?_append_left→mx,mem_map→my,nil_append→mB,length_drop→mC,getElem_mem→mD,replicate_succ→mE,pairwise_iff_getElem→mL,length_set→mM,mem_of_getElem?→mN,getElem?_set_self→mS,length_eq_one_iff→mT,mem_append→mU,map_append→mV,find?_cons→mW,idxOf_lt_length_iff→m6,append_assoc→m9,getElem?_set→ng,getElem?_cons_succ→nh,map_congr_left→nq,map_nil→nu,find?_cons_of_neg→nv,getElem_idxOf→nE,length_singleton→nG,getElem?_eq_none→nH,append_nil→nL,of_mem_zip→nM,flatten_cons→nS,take_of_length_le→oj,set_cons_zero→oq,nodup_cons→ot,any_cons→ox,mem_append_left→oz,getElem?_zip_eq_some→oI,drop_eq_getElem_cons→oJ,length_nil→oQ,set_cons_succ→oS,lookup→oU,ext_getElem?→oX,set_set→oY,length_filter_le→o9,lookup_cons→ph,getElem?_mapIdx→pz,mem_filter→pA,foldl_cons→pB,filterMap_cons→pE,getElem_of_mem→pG,map_id'→pI,getElem?_eq_none_iff→pO,nodup_append→pT,filter_congr→pU,drop_length→p6,map_snd_zip→p8,any_eq_true→qa,foldl→qg,drop_eq_nil_of_le→qj,length_replicate→qp,cons_lt_cons_iff→qr,singleton_append→qt,length→qx,drop_zero→qA,mem_iff_getElem→qB,mem_of_mem_drop→qE,mem_of_mem_take→qF,lt_irrefl→qG,getElem?_range→qJ,filter_eq_self→qK,length_flatten→qL,take_nil→qN,map_take→qO,mem_filterMap→qS,getElem_range→qW,pairwise_cons→qZ,map_singleton→q9,filter_append→rd,any_eq_false→rf,toArray→rq,getElem_inj→rD,nodup_range→rL,not_mem_nil→rN,map_reverse→rP,getElem_map→rQ,map_id→rW,idxOf_cons→si,filter_nil→sj,drop_nil→sS,set_comm→sU,map_drop→sW,all_map→tS
open PySem.Heap renaming get?_push_of_some→kq,lt_size→kJ,get?_push_size→ll,SameBut→oB,get?_update_other→qf,size_push→qw,get?_push_cases→qz,get?_push_ne→rB,size_update→rM
open Nat renaming le_refl→kx,lt_of_lt_of_le→lq,ne_of_lt→lB,zero_le→l5,le_trans→mG,le_of_ble_eq_true→mX,le_of_lt→nQ,le_succ→nR,min_self→nU,lt_irrefl→nW,lt_succ_of_lt→oy,ne_of_gt→oE,pow_succ→oV,div_lt_iff_lt_mul→o8,lt_succ_self→pd,le_of_not_lt→pf,toDigits_of_lt_base→p5,le_of_eq→qd,toDigits→qh,lt_of_succ_lt_succ→ql,div_add_mod→qo,pow_pos→qC,digitChar→qM,lt_of_le_of_lt→q8,mul_comm→rg,sub_self→rj,zero_add→rA,mod_eq_of_lt→rJ,le_add_right→rO,le_antisymm→r9,min_eq_left→se,mod_lt→sy,lt_trans→tE,sub_zero→tF
open Option renaming bind_eq_some_iff→kP,map_eq_some_iff→kQ,isNone_iff_eq_none→nJ,isSome_map→oW,isSome_iff_exists→pV,isSome_some→qX,getD_none→rH,none→ui,some→uC,none→uD
open PySem.Obj renaming mapSeq→lH
open Option.some renaming inj→lI
open PySem.W renaming Frag→lK,Frag→l8,nsIn→mY,findIn→ny,keepIn→oe,emptyDict→og,kia_one→ou,instObj→pb,codeIn→pq,kla_fn→pM,hasDictIn→pP,plainGet→qc,plainOver→qv,mg_of→rp,makesIn→rE,cellsFrom_some→rF,methodObj→rS,specialIn→rT,tabIn→so,kla_fn→sJ,takerIn→sY,OpenLaw→tj,callWith_K→tB,isFn→tD,lookIn→ug,kitOne→uh
open False renaming elim→lL
open Int renaming emod_lt_of_pos→lU,emod_nonneg→l7,eq_ofNat_of_zero_le→mH,toNat_natCast→pS
open Array renaming getElem?_toList→ml,length_toList→mm,getD_eq_getD_getElem?→mP,getElem?_eq_some_iff→nC,getElem?_eq_none_iff→oA,toList→pH,perm_iff_toList_perm→pL,getD→qY
open PySem.Value renaming ref→mw,none→mR,bool→oh,str→oT,int→pY,type→qR,float→rR,isStrOf→sO,isInt→ue,bytes→uf
open True renaming intro→mJ
open Nat.succ renaming inj→mK
open PyProof.Rows renaming callWith_type1→mO,slot_tuple_getitem→n6,callWith_builtin1→rG,lt_int→uq
open PySem.Builtin.Str renaming strSliceIndices→mQ,occurrences→m8,tooLong→pF,padded→qV,glued→uy
open PySem.Str renaming length→m4,ofString→oF,empty→sZ
open List.Nodup renaming idxOf_getElem→m7
open PySem.Builtin.Slice renaming slicePlaces→nI,sliceAdjust→oH,sliceApplied→pJ,slicePartIndex→rX,sliceFields→sM
open PySem.Builtin.Tuple renaming tupleExact→nY,tupleItemsOf→sx
open PySem.Builtin.List renaming listTooLong→n5,listExtendWith→sr
open PySem.SeqAt renaming RcAt→om,RcNeAt→oG,ne_of_list_tuple→qi,EqAt→qT
open PySem.Builtin.Int renaming intBits→oM
open PySem.Heap.SameBut renaming update→oN
open Ne renaming symm→oO
open PySem.Env renaming kindOf→pj
open PySem.F renaming slot_list_lt→px,slot_dict_setdefault→pD,args_tuple_add_2→pW,entry_tuple_add→p4,plain_list_iadd→p7,slot_list_index→p9,slot_tuple_add→qe,args_list_lt_2→qk,entry_list_lt→qq,slot_int_rmul→rY
open PySem.Builtin renaming divisionGoesByPylong→pC
open PySem.StrLaws renaming subAt_one→pQ
open List.cons renaming inj→pX
open PySem.Builtin.Range renaming rangeSize→pZ
open PySem.SeqAt.EqAt renaming same→qm,int_str→qP,str_int→qQ,int_int→qU
open Sum renaming inl→qH,inr→qI
open PySem.SeqAt.RcNeAt renaming lists_lengths→sD,tuple_none→tm,tuple_bool→tq,none_tuple→tu,bool_tuple→tw,none_none→tG,none_bool→tH,bool_none→tI,bool_bool→tJ,list_none→tK,list_bool→tL,none_list→tM,bool_list→tN,tuple_int→tO,tuple_str→tP,int_tuple→tQ,str_tuple→tR,none_int→tT,none_str→tU,bool_int→tV,bool_str→tW,int_none→tX,int_bool→tY,str_none→tZ,str_bool→t5,list_int→t6,list_str→t7,int_list→t8,str_list→t9,int_int→uj,int_str→uk,str_int→um,str_str→uo,tuples→ur,lists→uv
open List.Perm renaming refl→sL
open PySem.Heap.IsSliceOf renaming new→uu
open PySem.Within renaming cons→ux
open List.Pairwise renaming nil→uz
open Iff renaming rfl→uA
open PySem.Heap.DictOf renaming new→uB
namespace L2
open PySem PySem.Spec PyProof.Rows
theorem sN.{u}{α:Type u}(a:α):uC a≠uD:=Option.some_ne_none a
noncomputable abbrev Fgg:=lK
noncomputable abbrev Pnn:=List (kz×sX)
noncomputable abbrev Key:=Sum Int Str
def keyIs:Key->aU->Bool
 |.inl k,v=>ue k v
 |.inr x,v=>sO x v
def keyH (w:lW):Key->Int
 |.inl k=>hashInt k
 |.inr x=>hashStr w x
theorem zp_:∀{k:Key}{v:aU},keyIs k v=uE->(∃i t,k=qH i/\v=pY i t)\/(∃x t,k=qI x/\v=oT x t)
 |.inl i,v,h=>by
  obtain⟨t,e⟩:=Value.isInt_shape (k:=i) (v:=v) h;exact .inl ⟨i,t,rfl,e⟩
 |.inr x,v,h=>by
  obtain⟨t,e⟩:=Value.isStrOf_shape (x:=x) (v:=v) h;exact .inr ⟨x,t,rfl,e⟩
theorem ziR_ (i:Int)(t:Tok):keyIs (.inl i) (.int i t)=uE:=by simp[keyIs,ue]
theorem ziA_ (x:Str)(t:Tok):keyIs (.inr x) (.str x t)=uE:=by simp[keyIs,sO]
theorem zpe_ (a b:Int):decide ((qH a:Key)=qH b)=(a == b):=by
 by_cases e:a=b
 ·subst e;simp
 ·have h:¬(qH a:Key)=qH b:=λq=>e (Sum.inl.inj q)
  rw[decide_eq_false h];exact(beq_eq_false_iff_ne.mpr e).symm
theorem zqt_ (a b:Str):decide ((qI a:Key)=qI b)=decide (a=b):=by
 by_cases e:a=b
 ·subst e;simp
 ·have h:¬(qI a:Key)=qI b:=λq=>e (Sum.inr.inj q)
  rw[decide_eq_false h,decide_eq_false e]
theorem zpG_ (a:Int)(b:Str):decide ((qH a:Key)=qI b)=uF:=decide_eq_false (λq=>nomatch q)
theorem zrd_ (a:Str)(b:Int):decide ((qI a:Key)=qH b)=uF:=decide_eq_false (λq=>nomatch q)
def mixKind (prog:lF)(w:lW):PySem.KeyKind prog w Key where
 is:=keyIs
 hash:=keyH w
 inj:=λv a b ha hb=>by
  rcases zp_ ha with⟨i,t,rfl,rfl⟩|⟨x,t,rfl,rfl⟩
  ·rcases zp_ hb with⟨j,u,rfl,e⟩|⟨y,u,rfl,e⟩
   ·injection e with e1 _;rw[e1]
   ·exact nomatch e
  ·rcases zp_ hb with⟨j,u,rfl,e⟩|⟨y,u,rfl,e⟩
   ·exact nomatch e
   ·injection e with e1 _;rw[e1]
 byValue:=λk v h=>by
  rcases zp_ h with⟨i,t,rfl,rfl⟩|⟨x,t,rfl,rfl⟩<;>rfl
 pyHash:=λhv h=>by
  rcases zp_ hv with⟨i,t,rfl,rfl⟩|⟨x,t,rfl,rfl⟩
  ·exact wpAny_pyHash_int h
  ·exact wpAny_pyHash_str h
 eqBool:=λhu hv h=>by
  rcases zp_ hu with⟨i,t,rfl,rfl⟩|⟨x,t,rfl,rfl⟩
  ·rcases zp_ hv with⟨j,u,rfl,rfl⟩|⟨y,u,rfl,rfl⟩
   ·rw[zpe_]at h;exact wpAny_eqBool_int h
   ·rw[zpG_]at h;exact qP i t y u _ _ _ _ h
  ·rcases zp_ hv with⟨j,u,rfl,rfl⟩|⟨y,u,rfl,rfl⟩
   ·rw[zrd_]at h;exact qQ x t j u _ _ _ _ h
   ·rw[zqt_]at h;exact wpAny_eqBool_str h
 «strs»:=λk x t v h=>by
  rcases zp_ h with⟨i,u,rfl,e⟩|⟨y,u,rfl,e⟩
  ·exact nomatch e
  ·injection e with e1 _
   subst e1;cases v<;>rfl
theorem zgY_ (prog:lF)(w:lW)(k:Key)(v:aU):(mixKind prog w).is k v=keyIs k v:=rfl
theorem zfe_ (prog:lF)(w:lW)(i:Int)(t:Tok):(mixKind prog w).is (.inl i) (.int i t)=uE:=ziR_ i t
theorem zfw_ (prog:lF)(w:lW)(x:Str)(t:Tok):(mixKind prog w).is (.inr x) (.str x t)=uE:=ziA_ x t
inductive V where
 |non |bl (b:Bool)|int (i:Int)|str (x:Str)|byt (b:Array UInt8)|flt (b:UInt64)|ref (a:kz)|ty (n:String)
 deriving DecidableEq
noncomputable def RelV:V->aU->Prop
 |.non,u=>u=mR
 |.bl b,u=>u=oh b
 |.int i,u=>∃t,u=pY i t
 |.str x,u=>∃t,u=oT x t
 |.byt b,u=>∃t,u=uf b t
 |.flt b,u=>∃t,u=rR b t
 |.ref a,u=>u=mw a
 |.ty n,u=>u=qR n
abbrev Vals:List V->List aU->Prop:=Paired RelV
theorem Vals.length {xs:List V}{us:List aU}(r:Vals xs us):xs.length=us.length:=Paired.length r
theorem Vals.get:∀{xs:List V}{us:List aU}{i:Nat}{x:V},Vals xs us->xs[i]?=uC x->∃u,us[i]?=uC u/\RelV x u
 |_,_,_,_,.nil,e=>by simp at e
 |_,_,0,_,.cons r _,e=>by simp at e;subst e;exact⟨_,rfl,r⟩
 |_,_,i+1,x,.cons _ t,e=>by
  obtain⟨u,h1,h2⟩:=Vals.get (i:=i) (x:=x) t (by simpa using e)
  exact⟨u,by simpa using h1,h2⟩
theorem Vals.set {x:V}{u:aU}(r:RelV x u):∀{xs:List V}{us:List aU}(i:Nat),Vals xs us->Vals (xs.set i x) (us.set i u)
 |_,_,_,.nil=>.nil
 |_,_,0,.cons _ t=>.cons r t
 |_,_,i+1,.cons q t=>.cons q (Vals.set r i t)
theorem Vals.append:∀{xs ys:List V}{us ws:List aU},Vals xs us->Vals ys ws->Vals (xs++ys) (us++ws)
 |_,_,_,_,.nil,s=>s
 |_,_,_,_,.cons r t,s=>.cons r (Vals.append t s)
theorem Vals.take:∀{xs:List V}{us:List aU}(n:Nat),Vals xs us->Vals (xs.take n) (us.take n)
 |_,_,0,_=>.nil
 |_,_,_+1,.nil=>.nil
 |_,_,n+1,.cons r t=>.cons r (Vals.take n t)
theorem Vals.drop:∀{xs:List V}{us:List aU}(n:Nat),Vals xs us->Vals (xs.drop n) (us.drop n)
 |_,_,0,r=>r
 |_,_,_+1,.nil=>.nil
 |_,_,n+1,.cons _ t=>Vals.drop n t
def RelO:Option V->Option aU->Prop
 |some v,uC u=>RelV v u
 |none,uD=>True
 |_,_=>False
def KV {κ:Type}:List (κ×V)->List (κ×aU)->Prop:=Paired λ(p:κ×V) (q:κ×aU)=>p.1=q.1/\RelV p.2 q.2
def kV:Key->V
 |.inl i=>.int i
 |.inr x=>.str x
inductive HO where
 |lst (xs:List V)
 |tup (xs:List V)
 |dK (kvs:List (Key×V))|dT (kvs:List (List Key×V))
 |set (S:Int->Bool) (n:Nat)
 |ins (C dx:kz) (fs:List (Str×V))
 |own (x:kz)
 |xd (fs:List (Str×V))
 |met (f x:kz)
 |rng (lo hi:Int)
 |frz (o:sX) (u:HO)
 |tbl (pos:Pos) (qual:Str)
 |ext (φ:Heap->Prop)
noncomputable abbrev Hp:=kz->Option HO
def upd (H:Hp)(a:kz)(o:HO):Hp:=λb=>if b=a then uC o else H b
theorem ze_ {H:Hp}{a:kz}{o:HO}:upd H a o a=uC o:=by unfold upd;rw[if_pos rfl]
theorem zc_ {H:Hp}{a b:kz}{o:HO}(h:b≠a):upd H a o b=H b:=by unfold upd;rw[if_neg h]
theorem ne_of {H:Hp}{a b:kz}{o u:HO}(h:H a=uC o)(h':H b=uC u)(d:o≠u):a≠b:=by
 intro e;subst e;rw[h]at h';exact d (lI h')
theorem zd_ {H:Hp}{a b:kz}{o:HO}(h:H a=uC o)(h':H b=uD):a≠b:=by
 intro e;subst e;rw[h]at h';cases h'
section
variable (P:lF)(w:lW)
def ObjOk (H:Hp)(h:Heap)(a:kz):HO->Prop
 |.lst xs=>xs.length<=kR/\∃(aa:List aU) (n:Nat),Vals xs aa/\h.get? a=uC {cls:=.type "list",data:=.seq aa.toArray n}
 |.tup xs=>xs.length<=kR/\∃aa:List aU,Vals xs aa/\IsTup h a aa.toArray
 |.dK kvs=>kvs.length<=kR/\(a == sysModules)=uF/\∃vs,KV kvs vs/\h.DictOf (mixKind P w) a vs
 | .dT kvs=>kvs.length<=kR/\(a == sysModules)=uF/\∃xs:List (List Key×kz×aU),
   Paired (λ(p:List Key×V) (q:List Key×kz×aU)=>p.1=q.1/\H q.2.1=uC (.tup (p.1.map kV))/\RelV p.2 q.2.2) kvs xs /\
   ∃o es ep,h.get? a=uC o/\o.ExactDict/\o.data=.dict es ep/\es.toList=xs.map (entryOfKey (tupleKind (mixKind P w)))/\(xs.map (·.1)).Nodup
 |.set S n=>h.SetOf (intKind P w) a S n
 | .ins C dx fs=>H dx=uC (.own a)/\fs.length<=1000/\dx≠a/\h.get? a=uC (pb C dx) /\
   ∃mA,h.Ns1 dx mA/\(∀f,RelO (fs.lookup f) (mA f))/\qb mA (fs.map (·.1))
 |.own _=>∃o,h.get? a=uC o
 |.xd fs=>∃mA,h.Ns1 a mA/\∀f,RelO (fs.lookup f) (mA f)
 |.rng lo hi=>∃t u v,h.get? a=uC {cls:=.type "range",data:=.fields #[.int lo t,.int hi u,.int 1 v]}
 |.frz o u=>h.get? a=uC o/\ObjOk H h a u
 |.tbl pos qual=>∃ps:Array aU,h.get? a=uC {cls:=.none,data:=.fields ps}/\TriplesOk ps.toList/\∀cv,codeAmong pos ps.toList=uC cv->∃c o vs t,cv=.ref c/\H c=uC (.frz o (.own a))/\o.data=.fields vs/\vs[1]?=uC (.str qual t)
 |.met f x=>h.get? a=uC (rS (.ref f) (.ref x))
 |.ext φ=>φ h/\(∃o,h.get? a=uC o)/\∀h1 h2:Heap,φ h1->(∀o,h1.get? a=uC o->h2.get? a=uC o)->φ h2
def HOk (H:Hp)(h:Heap):Prop:=∀a o,H a=uC o->ObjOk P w H h a o
end
section
variable {P:lF}{w:lW}{H H':Hp}{h h':Heap}{a:kz}{o:HO}
theorem ObjOk.lt (x:ObjOk P w H h a o):a<h.objs.size:=by
 cases o with
 |lst xs=>obtain⟨_,_,_,_,e⟩:=x;exact kJ e
 |tup xs=>obtain⟨_,_,_,p⟩:=x;exact p.lt
 |dK kvs=>obtain⟨_,_,_,_,o,_,_,e,_⟩:=x;exact kJ e
 |dT kvs=>obtain⟨_,_,_,_,o,_,_,e,_⟩:=x;exact kJ e
 |set S n=>obtain⟨o,_,_,_,e,_⟩:=x;exact kJ e
 |ins C dx fs=>obtain⟨_,_,_,e,_⟩:=x;exact kJ e
 |own y=>obtain⟨_,e⟩:=x;exact kJ e
 |xd fs=>obtain⟨_,⟨_,_,_,e,_⟩,_⟩:=x;exact kJ e
 |rng lo hi=>obtain⟨_,_,_,e⟩:=x;exact kJ e
 |frz ob u=>obtain⟨e,_⟩:=x;exact kJ e
 |tbl pos qual=>obtain⟨_,e,_⟩:=x;exact kJ e
 |met f y=>exact kJ (show h.get? a=uC _ from x)
 |ext φ=>obtain⟨_,⟨_,e⟩,_⟩:=x;exact kJ e
theorem Paired.mapP {α β:Type}{F G:α->β->Prop}:∀{dQ:List α}{dP:List β},Paired F dQ dP->(∀a b,F a b->G a b)->Paired G dQ dP
 |_,_,.nil,_=>.nil
 |_,_,.cons r t,f=>.cons (f _ _ r) (Paired.mapP t f)
theorem ObjOk.stay (x:ObjOk P w H h a o)(k:∀b u,(b=a\/H b=uC (.own a))->h.get? b=uC u->h'.get? b=uC u)
  (ho:∀b,H b=uC (.own a)->H' b=uC (.own a)) (ht:∀b xs,H b=uC (.tup xs)->H' b=uC (.tup xs)) (hf:∀b ob,H b=uC (.frz ob (.own a))->H' b=uC (.frz ob (.own a)):=by exact λ_ _ q=>q):ObjOk P w H' h' a o:=by
 induction o with
 |lst xs=>obtain⟨z,aa,n,r,e⟩:=x;exact⟨z,aa,n,r,k _ _ (.inl rfl) e⟩
 |tup xs=>obtain⟨z,aa,r,ob,e,c⟩:=x;exact⟨z,aa,r,ob,k _ _ (.inl rfl) e,c⟩
 |dK kvs=>obtain⟨z,y,vs,r,ob,es,ep,e,c⟩:=x;exact⟨z,y,vs,r,ob,es,ep,k _ _ (.inl rfl) e,c⟩
 |dT kvs=>
  obtain⟨z,y,xs,r,ob,es,ep,e,c⟩:=x;exact⟨z,y,xs,Paired.mapP r λp q z=>⟨z.1,ht _ _ z.2.1,z.2.2⟩,ob,es,ep,k _ _ (.inl rfl) e,c⟩
 |set S n=>obtain⟨ob,es,ep,t,e,c⟩:=x;exact⟨ob,es,ep,t,k _ _ (.inl rfl) e,c⟩
 |ins C dx fs=>
  obtain⟨d,z,ne,e,mA,⟨od,es,ep,e2,c⟩,r⟩:=x;exact⟨ho _ d,z,ne,k _ _ (.inl rfl) e,mA,⟨od,es,ep,k _ _ (.inr d) e2,c⟩,r⟩
 |own y=>obtain⟨ob,e⟩:=x;exact⟨ob,k _ _ (.inl rfl) e⟩
 |xd fs=>obtain⟨mA,⟨od,es,ep,e,c⟩,r⟩:=x;exact⟨mA,⟨od,es,ep,k _ _ (.inl rfl) e,c⟩,r⟩
 |rng lo hi=>obtain⟨t,u,v,e⟩:=x;exact⟨t,u,v,k _ _ (.inl rfl) e⟩
 |frz ob u ih=>obtain⟨e,q⟩:=x;exact⟨k _ _ (.inl rfl) e,ih q⟩
 |tbl pos qual=>
  obtain⟨ps,e,t,f⟩:=x;exact⟨ps,k a _ (.inl rfl) e,t,λcv q=>let⟨c,ob,vs,t,q1,q2,q3⟩:=f cv q;⟨c,ob,vs,t,q1,hf _ _ q2,q3⟩⟩
 |met f y=>
  have e:h.get? a=uC (rS (.ref f) (.ref y)):=x;show h'.get? a=uC (rS (.ref f) (.ref y))
  exact k a _ (.inl rfl) e
 |ext φ=>obtain⟨p,⟨o,e⟩,st⟩:=x;exact⟨st _ _ p λo q=>k _ _ (.inl rfl) q,⟨o,k _ _ (.inl rfl) e⟩,st⟩
theorem HOk.lt (x:HOk P w H h)(e:H a=uC o):a<h.objs.size:=(x a o e).lt
theorem HOk.fresh (x:HOk P w H h)(e:h.objs.size<=a):H a=uD:=by
 cases q:H a with
 |none=>rfl
 |some u=>exact absurd (lq (x.lt q) e) (nW _)
theorem HOk.kept (x:HOk P w H h)(k:∀b u,h.get? b=uC u->h'.get? b=uC u):HOk P w H h':=λa o e=>
 (x a o e).stay (λb u _ q=>k b u q) (λ_ q=>q) λ_ _ q=>q
theorem HOk.laid (x:HOk P w H h)(k:∀b u,h.get? b=uC u->h'.get? b=uC u)(hp:h.objs.size<=a)(new:ObjOk P w (upd H a o) h' a o):HOk P w (upd H a o) h':=λb u e=>by
 have hn:=x.fresh hp;by_cases hb:b=a
 ·subst hb;rw[ze_]at e;cases e;exact new
 ·rw[zc_ hb]at e
  exact(x b u e).stay (λc v _ q=>k c v q) (λc q=>by rw[zc_ (zd_ q hn)];exact q) (λc xs q=>by rw[zc_ (zd_ q hn)];exact q) λc ob q=>by rw[zc_ (zd_ q hn)];exact q
end
def Rd (H:Hp)(a:kz)(u:HO):Prop:=H a=uC u\/∃o,H a=uC (.frz o u)
theorem Rd.ok {P:lF}{w:lW}{H:Hp}{h:Heap}{a:kz}{u:HO}(r:Rd H a u)(x:HOk P w H h):ObjOk P w H h a u:=by
 rcases r with r |⟨o,r⟩
 ·exact x a u r
 ·obtain⟨_,q⟩:=x a _ r
  exact q
noncomputable def Mut:Option HO->Prop
 |some (.lst _)=>True
 |some (.dK _)=>True
 |some (.dT _)=>True
 |some (.set _ _)=>True
 |some (.ins _ _ _)=>True
 |some (.ext _)=>True
 |_=>False
section
variable {P:lF}{w:lW}{H:Hp}{h h':Heap}{x e:kz}{o':HO}
theorem HOk.write (ok:HOk P w H h)(mu:Mut (H x))(he:e=x\/H e=uC (.own x))(k:∀b u,b≠e->h.get? b=uC u->h'.get? b=uC u)(bG:∃u,h'.get? e=uC u)
  (new:ObjOk P w (upd H x o') h' x o'):HOk P w (upd H x o') h':=λb u q=>by
 have dM:∀c y,H c=uC (.own y)->c≠x:=λc y r z=>by subst z;rw[r]at mu;exact mu
 have fU:∀c xs,H c=uC (.tup xs)->c≠x:=λc xs r z=>by subst z;rw[r]at mu;exact mu
 by_cases hb:b=x
 ·subst hb;rw[ze_]at q;cases q;exact new
 ·rw[zc_ hb]at q
  by_cases hbe:b=e
  ·have q':H b=uC (.own x):=by
    rcases he with z |z
    ·exact absurd (hbe.trans z) hb
    ·rw[hbe];exact z
   rw[q]at q';cases q';obtain⟨v,hv⟩:=bG;exact⟨v,by rw[hbe];exact hv⟩
  ·refine(ok b u q).stay (λc v hc r=>k c v ?_ r) (λc r=>by rw[zc_ (dM c b r)];exact r) (λc xs r=>by rw[zc_ (fU c xs r)];exact r) λc ob r=>by rw[zc_ (λz=>by subst z;rw[r]at mu;exact mu)];exact r
   rcases hc with rfl |hc
   ·exact hbe
   ·rintro rfl
    rcases he with z |z
    ·exact dM c b hc z
    ·rw[hc]at z;cases z;exact hb rfl
end
structure Un (fs ex:List kz)(H H':Hp)(h h':Heap):Prop where
 keep:∀b o,h.get? b=uC o->H b=uD->b∉fs->b∉ex->h'.get? b=uC o
 slot:∀b o,h.get? b=uC o->H b=uD->b∈fs->b∉ex->∃sl,h'.get? b=uC {o with slots:=sl}
 free:∀b o,h.get? b=uC o->H b=uD->b∉ex->H' b=uD
 there:∀b o,h.get? b=uC o->b∉ex->∃o',h'.get? b=uC o'
 tups:∀b xs,H b=uC (.tup xs)->H' b=uC (.tup xs)
 frzs:∀b o u,H b=uC (.frz o u)->H' b=uC (.frz o u)
 tbls:∀b p q,H b=uC (.tbl p q)->H' b=uC (.tbl p q)
section
variable {fs ex:List kz}{H H1 H2:Hp}{h h1 h2 h':Heap}{a x e:kz}{o:HO}
theorem Un.any (u:Un fs ex H H1 h h1){b:kz}{ob:sX}(q:h.get? b=uC ob)(n:H b=uD)(hx:b∉ex):∃sl,h1.get? b=uC {ob with slots:=sl}:=by
 by_cases hb:b∈fs
 ·exact u.slot b ob q n hb hx
 ·exact⟨ob.slots,u.keep b ob q n hb hx⟩
theorem Un.trans (a:Un fs ex H H1 h h1)(b:Un fs ex H1 H2 h1 h2):Un fs ex H H2 h h2 where
 keep:=λc ob q n hc hx=>b.keep c ob (a.keep c ob q n hc hx) (a.free c ob q n hx) hc hx
 slot:=λc ob q n hc hx=>by
  obtain⟨sl,e1⟩:=a.slot c ob q n hc hx;obtain⟨fQ,e2⟩:=b.slot c _ e1 (a.free c ob q n hx) hc hx;exact⟨fQ,e2⟩
 free:=λc ob q n hx=>by
  obtain⟨o',e1⟩:=a.there c ob q hx;exact b.free c o' e1 (a.free c ob q n hx) hx
 there:=λc ob q hx=>by
  obtain⟨o',e1⟩:=a.there c ob q hx;exact b.there c o' e1 hx
 tups:=λc xs q=>b.tups c xs (a.tups c xs q)
 frzs:=λc ob xs q=>b.frzs c ob xs (a.frzs c ob xs q)
 tbls:=λc p' q' q=>b.tbls c p' q' (a.tbls c p' q' q)
theorem Un.kept (k:∀b u,h.get? b=uC u->h'.get? b=uC u):Un fs ex H H h h':=
 ⟨λb ob q _ _ _=>k b ob q,λb ob q _ _ _=>⟨ob.slots,k b ob q⟩,λ_ _ _ n _=>n,λb ob q _=>⟨ob,k b ob q⟩,λ_ _ q=>q,λ_ _ _ q=>q,λ_ _ _ q=>q⟩
theorem Un.refl:Un fs ex H H h h:=Un.kept λ_ _ q=>q
theorem Un.laid (k:∀b u,h.get? b=uC u->h'.get? b=uC u)(hp:h.objs.size<=a)(hn:H a=uD):Un fs ex H (upd H a o) h h' where
 keep:=λb u q _ _ _=>k b u q
 slot:=λb u q _ _ _=>⟨u.slots,k b u q⟩
 free:=λb u q n _=>by rw[zc_ (lB (lq (kJ q) hp))];exact n
 there:=λb u q _=>⟨u,k b u q⟩
 tups:=λb xs q=>by rw[zc_ (zd_ q hn)];exact q
 frzs:=λb u xs q=>by rw[zc_ (zd_ q hn)];exact q
 tbls:=λb p' q' q=>by rw[zc_ (zd_ q hn)];exact q
theorem Un.write (mu:Mut (H x))(he:e=x\/H e=uC (.own x))(k:∀b u,b≠e->h.get? b=uC u->h'.get? b=uC u)(bG:∃u,h'.get? e=uC u):Un fs ex H (upd H x o) h h':=by
 have hx:∀b,H b=uD->b≠x:=λb n z=>by subst z;rw[n]at mu;exact mu
 have hb:∀b,H b=uD->b≠e:=λb n z=>by
  subst z;rcases he with r |r
  ·exact hx b n r
  ·rw[n]at r;cases r
 have hm:∀b u,H b=uC u->¬Mut (uC u)->b≠x:=λb u q nm z=>by subst z;rw[q]at mu;exact nm mu
 refine⟨λb u q n _ _=>k b u (hb b n) q,λb u q n _ _=>⟨u.slots,k b u (hb b n) q⟩,λb u q n _=>by rw[zc_ (hx b n)];exact n,λb u q _=>?_,
  λb xs q=>by rw[zc_ (hm b _ q λz=>z)];exact q,λb u xs q=>by rw[zc_ (hm b _ q λz=>z)];exact q,λb p' q' q=>by rw[zc_ (hm b _ q λz=>z)];exact q⟩
 by_cases hbe:b=e
 ·subst hbe;exact bG
 ·exact⟨u,k b u hbe q⟩
end
def trk (h:Heap)(H:Hp):List kz:=(lG h.objs.size).filter λa=>(H a).isSome
def hidT (h:Heap)(H:Hp):Heap:=W.hideAll h (trk h H)
theorem zh3_ (h:Heap)(H:Hp):(hidT h H).objs.size=h.objs.size:=W.hideAll_size _ _
theorem zkh_ {h:Heap}{H:Hp}{b:kz}{o:sX}(e:h.get? b=uC o)(n:H b=uD):(hidT h H).get? b=uC o:=
 W.hideAll_get _ e λhm=>by
  have q:(H b).isSome=uE:=(pA.mp hm).2;rw[n]at q;simp at q
theorem znx_ {h:Heap}{H:Hp}{b:kz}{o:sX}(e:(hidT h H).get? b=uC o):h.get? b=uC o/\H b=uD:=by
 have e':h.get? b=uC o:=W.of_hideAll (trk h H) e;refine⟨e',?_⟩;cases q:H b with
 |none=>rfl
 |some x=>
  have hm:b∈trk h H:=pA.mpr ⟨lO.mpr (kJ e'),by simp[q]⟩
  have z:(hidT h H).get? b=uD:=W.hideAll_none (trk h H) hm;rw[z]at e;cases e
def lamK (K:Fgg):Option (kz×Pos×Str):=match mY K lh "put_in_order" with
 |some (uC (.ref f))=>(match K.lookup f with
  |some ⟨_,_,.func fd,_⟩=>(match fd.body,so K "put_in_order" with
   |.stmts [.Return (uC (.Call _ _ [⟨_,.Lambda _ _ _ pos,_⟩] _)) _],uC (_,P)=>uC (P,pos,fd.qualname ++ ".<locals>." ++ "<lambda>")
   |_,_=>uD)
  |_=>uD)
 |_=>uD
def Tb (K:Fgg)(H:Hp):Prop:=∀P pos q,lamK K=uC (P,pos,q)->H P=uC (.tbl pos q)
structure Mod (K:Fgg)(mg:Str->Option aU)(base:Heap):Prop where
 kin:K.In base
 glob:base.Ns lh mg
 blt:∃mb,base.Ns builtinsNs mb/\∀x:Str,x ≠ "__name__" -> mb x=nr x
 nolimit:base.NoLimit
 bm:∃bm ob,mg "__builtins__"=uC (.ref bm)/\bm≠builtinsNs/\base.get? bm=uC ob/\ob.cls=.type "module" /\ ob.dict=uC builtinsNs/\ob.data=.plain
structure Cx where
 prog:lF
 w:lW
 K:Fgg
 mg:Str->Option aU
 base:Heap
 A:lY
 N:List Str
 s₀:kn
 H₀:Hp
 env:Env
 outer:List Env
 stack:List Env
 ex:List kz
 fn:Str->Bool
 calm:Bool
 pn:Pnn
 xe:aU->kn->Prop
noncomputable def frs (l:List Env):List kz:=l.filterMap (·.frame)
abbrev Cx.fs (X:Cx):List kz:=frs X.outer
def Vis (sc:Scope)(x:Str):Prop:=sc.names.lookup x=uC .local\/sc.names.lookup x=uC .cell\/sc.names.lookup x=uC .free
def Loc (sc:Scope)(x:Str):Prop:=sc.names.lookup x=uC .local\/sc.names.lookup x=uC .cell
def Look (env:Env)(h:Heap)(m:Str->Option aU)(x:Str)(u:aU):Prop:=
 (env.kindOf x=uC .local/\m x=uC u)\/((env.kindOf x=uC .cell\/env.kindOf x=uC .free)/\∃c,env.cells.lookup x=uC c/\h.IsCell c (uC u))
structure Cx.Ok (X:Cx):Prop where
 mod:Mod X.K X.mg X.base
 kind:X.env.scope.kind=.function
 glob:X.env.globals=lh
 blt:X.env.builtins=builtinsNs
 above:X.s₀.heap.objs.size<=X.env.locals
 inj:∀x y c,X.env.cells.lookup x=uC c->X.env.cells.lookup y=uC c->x=y
 has:∀x,(X.env.kindOf x=uC .cell\/X.env.kindOf x=uC .free)->∃c,X.env.cells.lookup x=uC c
 cab:∀x c,X.fn x=uE->X.env.cells.lookup x=uC c->X.s₀.heap.objs.size<=c
 hd:X.calm=uE->X.A.handled=uD
 frames:X.A.frames=uC X.stack
 stk:X.stack=X.outer\/(X.stack=X.env::X.outer/\X.env.frame=uC X.env.locals)
 exf:∀b∈X.ex,b≠X.env.locals/\∀x c,X.env.cells.lookup x=uC c->c≠b
 bs:∀b o,X.base.get? b=uC o->X.s₀.heap.get? b=uC o/\X.H₀ b=uD
 bsz:X.base.objs.size<=X.s₀.heap.objs.size
 noex:∀b o,X.base.get? b=uC o->b∉X.ex
 exfs:∀b∈X.ex,b∉X.fs
 funs:X.s₀.heap.FunFrames X.base X.outer
 frf:∀b∈X.fs,X.H₀ b=uD
 tb:Tb X.K X.H₀
structure Inv (X:Cx)(pins:Pnn)(σ:List (Option V))(H:Hp)(s:kn):Prop where
 ok:X.Ok
 os:s.os=X.s₀.os
 bare:AllBare s.gens
 base:Un X.fs X.ex X.H₀ H X.s₀.heap s.heap
 loc:∃m,s.heap.Ns X.env.locals m/\∀(i:Nat) (x:Str) (v:V),X.N[i]?=uC x->σ[i]?=uC (uC v)->Vis X.env.scope x->∃u,RelV v u/\Look X.env s.heap m x u
 cell:∀x c,X.env.cells.lookup x=uC c->∃v,s.heap.IsCell c v
 free:H X.env.locals=uD
 freeC:∀x c,X.env.cells.lookup x=uC c->H c=uD
 pin:∀p∈X.pn++pins,s.heap.get? p.1=uC p.2/\H p.1=uD/\p.1≠X.env.locals/\p.1∉X.fs/\∀v,p.2.data≠.cell v
 hok:HOk X.prog X.w H s.heap
 len:σ.length=X.N.length
section
variable {X:Cx}{pins:Pnn}{σ:List (Option V)}{H H':Hp}{s:kn}{h':Heap}
theorem Cx.Ok.nofr (ok:X.Ok){b:kz}{o:sX}(e:X.base.get? b=uC o):b∉X.fs:=λhb=>by
 have:=(ok.funs.mem hb).1;rw[e]at this;cases this
theorem Inv.bs (I:Inv X pins σ H s):∀b o,X.base.get? b=uC o->s.heap.get? b=uC o/\H b=uD:=λb o e=>
 ⟨I.base.keep b o (I.ok.bs b o e).1 (I.ok.bs b o e).2 (I.ok.nofr e) (I.ok.noex b o e),I.base.free b o (I.ok.bs b o e).1 (I.ok.bs b o e).2 (I.ok.noex b o e)⟩
theorem Inv.tb (I:Inv X pins σ H s):Tb X.K H:=λP p q e=>I.base.tbls _ _ _ (I.ok.tb P p q e)
theorem Inv.bk (I:Inv X pins σ H s):∀b o,X.base.get? b=uC o->s.heap.get? b=uC o:=λb o e=>(I.bs b o e).1
theorem Inv.mod (I:Inv X pins σ H s):Mod X.K X.mg X.base:=I.ok.mod
theorem Inv.kIn (I:Inv X pins σ H s):X.K.In s.heap:=I.ok.mod.kin.keeps I.bk
theorem Inv.nolimit (I:Inv X pins σ H s):s.heap.NoLimit:=I.ok.mod.nolimit.keeps I.bk
theorem Inv.lt (I:Inv X pins σ H s):X.env.locals<s.heap.objs.size:=let⟨_,hn,_⟩:=I.loc;hn.lt
theorem Inv.sz (I:Inv X pins σ H s):X.s₀.heap.objs.size<=s.heap.objs.size:=mG I.ok.above (nQ I.lt)
theorem Inv.nofs (I:Inv X pins σ H s){a:kz}(h:s.heap.objs.size<=a):a∉X.fs:=λhb=>by
 obtain⟨_,o,ho,_⟩:=I.ok.funs.mem hb;exact absurd (lq (kJ ho) (mG I.sz h)) (nW _)
theorem Inv.cne (I:Inv X pins σ H s):∀x c,X.env.cells.lookup x=uC c->c≠X.env.locals:=λx c e z=>by
 obtain⟨v,o,ho,hd⟩:=I.cell x c e;obtain⟨m,⟨o',es,ep,aI,hd',_⟩,_⟩:=I.loc;rw[z,aI]at ho;cases ho;rw[hd']at hd;cases hd
theorem Inv.funs (I:Inv X pins σ H s):s.heap.FunFrames X.base X.outer:=by
 have all:∀(l:List Env),(∀b∈frs l,b∈X.fs)->X.s₀.heap.FunFrames X.base l->s.heap.FunFrames X.base l:=by
  intro l;induction l with
  |nil=>intro _ _;trivial
  |cons env r ih=>
   intro hs hl;obtain⟨hk,⟨L,o,hf,hn,ho,hd⟩,hr⟩:=hl;have hL:L∈X.fs:=hs L (by unfold frs;rw[pE,hf];exact lA)
   obtain⟨sl,e⟩:=I.base.slot L o ho (I.ok.frf L hL) hL λz=>I.ok.exfs L z hL
   exact⟨hk,⟨L,_,hf,hn,e,hd⟩,ih (λb hb=>hs b (by unfold frs;rw[pE,hf];exact lu _ hb)) hr⟩
 exact all X.outer (λ_ hb=>hb) I.ok.funs
theorem Inv.stack (I:Inv X pins σ H s):s.heap.FunFrames X.base X.stack:=by
 rcases I.ok.stk with e |⟨e,hf⟩
 ·rw[e];exact I.funs
 ·rw[e]
  obtain⟨m,hn,_⟩:=I.loc;refine .cons (by rw[I.ok.kind];decide) hf hn ?_ I.funs
  exact Heap.get?_none_of_le (mG I.ok.bsz I.ok.above)
theorem Inv.stkSub (I:Inv X pins σ H s):∀b∈frs X.stack,b∈X.env.locals::X.fs:=λb hb=>by
 rcases I.ok.stk with e |⟨e,hf⟩
 ·rw[e]at hb;exact lu _ hb
 ·rw[e]at hb
  unfold frs at hb;rw[pE,hf]at hb;exact hb
theorem Inv.stkFree (I:Inv X pins σ H s):∀b∈frs X.stack,H b=uD:=λb hb=>by
 rcases k9.mp (I.stkSub b hb)with e |hb
 ·rw[e];exact I.free
 ·obtain⟨_,o,ho,_⟩:=I.ok.funs.mem hb
  exact I.base.free b o ho (I.ok.frf b hb) λz=>I.ok.exfs b z hb
theorem Inv.step {g':Array GenState}{t':Nat}{d':Drawn}{ch:List kz}(I:Inv X pins σ H s)
  (b8:∀b∈ch,(b∈X.ex\/X.s₀.heap.objs.size<=b)/\b≠X.env.locals/\(∀x c,X.env.cells.lookup x=uC c->c≠b)/\∀p∈X.pn++pins,p.1≠b)
  (keep:∀b o,b≠X.env.locals->b∉X.fs->b∉ch->s.heap.get? b=uC o->H b=uD->h'.get? b=uC o)
  (slot:∀b o,b≠X.env.locals->b∈X.fs->b∉ch->s.heap.get? b=uC o->H b=uD->∃sl,h'.get? b=uC {o with slots:=sl}) (free:∀b o,b∉ch->s.heap.get? b=uC o->H b=uD->H' b=uD)
  (there:∀b o,b∉ch->s.heap.get? b=uC o->∃o',h'.get? b=uC o')
  (tups:∀b xs,H b=uC (.tup xs)->H' b=uC (.tup xs)) (frzs:∀b o u,H b=uC (.frz o u)->H' b=uC (.frz o u)) (tbls:∀b p q,H b=uC (.tbl p q)->H' b=uC (.tbl p q))
  (ns:∀m,s.heap.Ns X.env.locals m->h'.Ns X.env.locals m) (hok:HOk X.prog X.w H' h') (hg:AllBare g'):
  Inv X pins σ H' {s with heap:=h',gens:=g',drawn:=d',toks:=t'}:=by
 have h_:∀b o,X.s₀.heap.get? b=uC o->b≠X.env.locals:=λb o e=>lB (lq (kJ e) I.ok.above)
 have fu:∀b o,X.s₀.heap.get? b=uC o->b∉X.ex->b∉ch:=λb o e hx hb=>by
  rcases(b8 b hb).1 with z |z
  ·exact hx z
  ·exact absurd (lq (kJ e) z) (nW _)
 have cellK:∀x c,X.env.cells.lookup x=uC c->∀v,s.heap.IsCell c v->h'.IsCell c v:=λx c e v ⟨o,ho,hd⟩=>by
  have dO:c∉ch:=λz=>(b8 c z).2.2.1 x c e rfl
  by_cases hc:c∈X.fs
  ·obtain⟨sl,q⟩:=slot c o (I.cne x c e) hc dO ho (I.freeC x c e)
   exact⟨_,q,hd⟩
  ·exact⟨o,keep c o (I.cne x c e) hc dO ho (I.freeC x c e),hd⟩
 refine⟨I.ok,I.os,hg,⟨λb o e n hb hx=>?_,λb o e n hb hx=>?_,λb o e n hx=>?_,λb o e hx=>?_,λb xs e=>tups b xs (I.base.tups b xs e),λb o xs e=>frzs b o xs (I.base.frzs b o xs e),λb p q e=>tbls b p q (I.base.tbls b p q e)⟩,?_,λx c e=>?_,?_,λx c e=>?_,λp hp=>?_,hok,I.len⟩
 ·exact keep b o (h_ b o e) hb (fu b o e hx) (I.base.keep b o e n hb hx) (I.base.free b o e n hx)
 ·obtain⟨sl,e1⟩:=I.base.slot b o e n hb hx
  obtain⟨fQ,e2⟩:=slot b _ (h_ b o e) hb (fu b o e hx) e1 (I.base.free b o e n hx);exact⟨fQ,e2⟩
 ·obtain⟨o',e1⟩:=I.base.there b o e hx
  exact free b o' (fu b o e hx) e1 (I.base.free b o e n hx)
 ·obtain⟨o',e1⟩:=I.base.there b o e hx
  exact there b o' (fu b o e hx) e1
 ·obtain⟨m,hn,hl⟩:=I.loc
  refine⟨m,ns m hn,λi x v e1 e2 e3=>?_⟩
  obtain⟨u,r,l⟩:=hl i x v e1 e2 e3;refine⟨u,r,?_⟩;rcases l with l |⟨k,c,e,z⟩
  ·exact .inl l
  ·exact .inr ⟨k,c,e,cellK x c e _ z⟩
 ·obtain⟨v,z⟩:=I.cell x c e
  exact⟨v,cellK x c e v z⟩
 ·obtain⟨m,⟨o,_,_,ho,_⟩,_⟩:=I.loc
  exact free _ o (λz=>(b8 _ z).2.1 rfl) ho I.free
 ·obtain⟨v,o,ho,hd⟩:=I.cell x c e
  exact free c o (λz=>(b8 c z).2.2.1 x c e rfl) ho (I.freeC x c e)
 ·obtain⟨e,n,ne,nf,d⟩:=I.pin p hp
  have dO:p.1∉ch:=λz=>(b8 p.1 z).2.2.2 p hp rfl
  exact⟨keep p.1 p.2 ne nf dO e n,free p.1 p.2 dO e n,ne,nf,d⟩
theorem Inv.un {t':Nat}(I:Inv X pins σ H s)(u:Un X.fs [] H H' s.heap h')(hok:HOk X.prog X.w H' h'):Inv X pins σ H' {s with heap:=h',toks:=t'}:=by
 obtain⟨m,⟨o,es,ep,ho,r⟩,_⟩:=id I.loc;obtain⟨sl,hL⟩:=u.any ho I.free (by simp)
 exact I.step (g':=s.gens) (d':=s.drawn) (ch:=[]) (λ_ z=>nomatch z) (λb o _ hb _ e n=>u.keep b o e n hb (by simp)) (λb o _ hb _ e n=>u.slot b o e n hb (by simp)) (λb o _ e n=>u.free b o e n (by simp)) (λb o _ e=>u.there b o e (by simp)) u.tups u.frzs u.tbls (λm' hm=>by
  obtain⟨o',es',ep',aI,r'⟩:=hm;rw[ho]at aI;cases aI;exact⟨_,es',ep',hL,r'⟩) hok I.bare
theorem Inv.call {g':Array GenState}{t':Nat}{d':Drawn}{ch:List kz}(I:Inv X pins σ H s)(u:Un (frs X.stack) ch H H' s.heap h')(hok:HOk X.prog X.w H' h')(hg:AllBare g')
  (b8:∀b∈ch,(b∈X.ex\/X.s₀.heap.objs.size<=b)/\b≠X.env.locals/\(∀x c,X.env.cells.lookup x=uC c->c≠b)/\∀p∈X.pn++pins,p.1≠b):
  Inv X pins σ H' {s with heap:=h',gens:=g',drawn:=d',toks:=t'}:=by
 obtain⟨m,⟨o,es,ep,ho,r⟩,_⟩:=id I.loc;obtain⟨sl,hL⟩:=u.any ho I.free λz=>(b8 _ z).2.1 rfl
 exact I.step (ch:=ch) b8 (λb o hL hb hc e n=>u.keep b o e n (λz=>(k9.mp (I.stkSub b z)).elim hL hb) hc) (λb o _ _ hc e n=>u.any e n hc) (λb o hc e n=>u.free b o e n hc) (λb o hc e=>u.there b o e hc) u.tups u.frzs u.tbls (λm' hm=>by
  obtain⟨o',es',ep',aI,r'⟩:=hm;rw[ho]at aI;cases aI;exact⟨_,es',ep',hL,r'⟩) hok hg
theorem Inv.turned {t':Nat}{it:kz}(I:Inv X pins σ H s)(k:∀b o,b≠it->s.heap.get? b=uC o->h'.get? b=uC o)(hn:H it=uD)(hL:it≠X.env.locals)
  (h1:it∈X.ex\/X.s₀.heap.objs.size<=it) (h2:∀x c,X.env.cells.lookup x=uC c->c≠it) (h3:∀p∈X.pn++pins,p.1≠it):Inv X pins σ H {s with heap:=h',toks:=t'}:=by
 have dN:∀b u,H b=uC u->b≠it:=λb u e z=>by rw[z,hn]at e;cases e
 refine I.step (g':=s.gens) (d':=s.drawn) (ch:=[it]) (λb hb=>?_) (λb o _ _ hc e _=>k b o (λz=>hc (by simp[z])) e) (λb o _ _ hc e _=>⟨o.slots,k b o (λz=>hc (by simp[z])) e⟩) (λ_ _ _ _ n=>n)
  (λb o hc e=>⟨o,k b o (λz=>hc (by simp[z])) e⟩) (λ_ _ e=>e) (λ_ _ _ e=>e) (λ_ _ _ e=>e) (λm hm=>?_) (λb u e=>?_) I.bare
 ·have e:b=it:=by simpa using hb
  subst e;exact⟨h1,hL,h2,h3⟩
 ·obtain⟨o,es,ep,ho,r⟩:=hm
  exact⟨o,es,ep,k _ o (oO hL) ho,r⟩
 ·refine(I.hok b u e).stay (λc v hc q=>k c v ?_ q) (λ_ q=>q) λ_ _ q=>q
  rcases hc with z |z
  ·rw[z];exact dN b u e
  ·exact dN c _ z
theorem Inv.tok (I:Inv X pins σ H s)(t:Nat):Inv X pins σ H {s with toks:=t}:=I.un (h':=s.heap) (t':=t) Un.refl I.hok
theorem Inv.kept {t':Nat}(I:Inv X pins σ H s)(k:∀b u,s.heap.get? b=uC u->h'.get? b=uC u):Inv X pins σ H {s with heap:=h',toks:=t'}:=I.un (Un.kept k) (I.hok.kept k)
theorem Inv.laid {a:kz}{o:HO}{t':Nat}(I:Inv X pins σ H s)(k:∀b u,s.heap.get? b=uC u->h'.get? b=uC u)(hp:s.heap.objs.size<=a)(new:ObjOk X.prog X.w (upd H a o) h' a o):
  Inv X pins σ (upd H a o) {s with heap:=h',toks:=t'}:=I.un (Un.laid k hp (I.hok.fresh hp)) (I.hok.laid k hp new)
theorem Inv.write {x e:kz}{o:HO}{t':Nat}(I:Inv X pins σ H s)(mu:Mut (H x))(he:e=x\/H e=uC (.own x))(k:∀b u,b≠e->s.heap.get? b=uC u->h'.get? b=uC u)(bG:∃u,h'.get? e=uC u)
  (new:ObjOk X.prog X.w (upd H x o) h' x o):Inv X pins σ (upd H x o) {s with heap:=h',toks:=t'}:=I.un (Un.write mu he k bG) (I.hok.write mu he k bG new)
theorem Inv.pins_of {cF:Pnn}(I:Inv X pins σ H s)(h:∀p∈cF,s.heap.get? p.1=uC p.2/\H p.1=uD/\p.1≠X.env.locals/\p.1∉X.fs/\∀v,p.2.data≠.cell v):Inv X cF σ H s:=
 ⟨I.ok,I.os,I.bare,I.base,I.loc,I.cell,I.free,I.freeC,λp hp=>(mU.mp hp).elim (λz=>I.pin p (oz _ z)) (h p),I.hok,I.len⟩
theorem zht_ {N:List Str}(hN:N.Nodup){i j:Nat}{x:Str}(a:N[i]?=uC x)(b:N[j]?=uC x):i=j:=by
 obtain⟨h1,e1⟩:=lg.mp a;obtain⟨h2,e2⟩:=lg.mp b;exact(rD hN).mp (e1.trans e2.symm)
theorem ziv_ {M:Model}{A:lY}{E:aU->kn->Prop}{i:Nat}{x:Str}{v:V}{u:aU}{Q:Unit->kn->Prop}(I:Inv X pins σ H s)(hN:X.N.Nodup)(hi:X.N[i]?=uC x)(hx:Loc X.env.scope x)(r:RelV v u)
  (h:∀s',Inv X pins (σ.set i (uC v)) H s'->(∃a,oB a s.heap s'.heap/\(a=X.env.locals\/X.env.cells.lookup x=uC a))->Q () s') (hf:X.fn x=uE\/X.env.scope.names.lookup x=uC .local:=by first |exact .inl rfl |exact .inr rfl |assumption):lC M A (storeName X.env x u) Q E s:=by
 obtain⟨m,hn,hl⟩:=id I.loc;have gJ:(X.env.scope.kind == .class ||(X.env.scope.kind == .module && X.env.locals != X.env.globals))=uF:=by rw[I.ok.kind];rfl
 have eC:i<σ.length:=by rw[I.len];exact(lg.mp hi).1
 have cne:=I.cne;have tracked:∀{a:kz}{h':Heap},(∃o,s.heap.get? a=uC o/\H a=uD)->oB a s.heap h'->HOk X.prog X.w H h':=λ{a h'} ha hs b ob e=>by
  obtain⟨_,_,hfree⟩:=ha;refine(I.hok b ob e).stay (λc w' hc q=>(hs.2 c ?_).trans q) (λ_ q=>q) λ_ _ q=>q
  rintro rfl;rcases hc with rfl |hc
  ·rw[hfree]at e;cases e
  ·rw[hfree]at hc;cases hc
 rcases hx with hk |hk
 ·refine wpAny_storeName_local hk hn (λh' gu hs=>?_) gJ
  obtain⟨oL,_,_,cH,_⟩:=id hn;refine h _ ⟨I.ok,I.os,I.bare,⟨λb o e n hb hx=>?_,λb o e n hb hx=>?_,I.base.free,λb o e hx=>?_,I.base.tups,I.base.frzs,I.base.tbls⟩,⟨_,gu,λj y v' e1 e2 e3=>?_⟩,λy c e=>?_,I.free,I.freeC,λp hp=>?_,tracked ⟨oL,cH,I.free⟩ hs,by simpa using I.len⟩ ⟨_,hs,.inl rfl⟩
  ·exact(hs.2 b (lB (lq (kJ e) I.ok.above))).trans (I.base.keep b o e n hb hx)
  ·obtain⟨sl,e1⟩:=I.base.slot b o e n hb hx
   exact⟨sl,(hs.2 b (lB (lq (kJ e) I.ok.above))).trans e1⟩
  ·obtain⟨o',e1⟩:=I.base.there b o e hx
   exact⟨o',(hs.2 b (lB (lq (kJ e) I.ok.above))).trans e1⟩
  ·by_cases hj:j=i
   ·subst hj
    rw[hi]at e1;cases e1;rw[mS eC]at e2;cases e2;exact⟨u,r,.inl ⟨hk,by simp⟩⟩
   ·rw[lD (oO hj)]at e2
    obtain⟨u',r',q⟩:=hl j y v' e1 e2 e3;refine⟨u',r',?_⟩;rcases q with⟨k,e⟩|⟨k,c,e,z⟩
    ·refine .inl ⟨k,?_⟩
     have:y≠x:=λe=>hj (zht_ hN e1 (e ▸ hi))
     simp[this,e]
    ·exact .inr ⟨k,c,e,z.sameBut hs (cne y c e)⟩
  ·obtain⟨w',z⟩:=I.cell y c e
   exact⟨w',z.sameBut hs (cne y c e)⟩
  ·obtain⟨e,n,ne,nf,d⟩:=I.pin p hp
   exact⟨(hs.2 p.1 ne).trans e,n,ne,nf,d⟩
 ·have c9:X.fn x=uE:=by
   rcases hf with z |z
   ·exact z
   ·rw[z]at hk;cases hk
  obtain⟨c,hc⟩:=I.ok.has x (.inl hk);obtain⟨w',z⟩:=I.cell x c hc;refine wpAny_storeName_cell I.ok.kind hk hc z (λh' aC hs=>?_)
  obtain⟨oc,hoc,hocd⟩:=id z;refine h {s with heap:=h'} ⟨I.ok,I.os,I.bare,⟨λb o e n hb hx=>?_,λb o e n hb hx=>?_,I.base.free,λb o e hx=>?_,I.base.tups,I.base.frzs,I.base.tbls⟩,⟨m,hn.sameBut hs (oO (cne x c hc)),λj y v' e1 e2 e3=>?_⟩,λy c' e=>?_,I.free,I.freeC,λp hp=>?_,tracked ⟨oc,hoc,I.freeC x c hc⟩ hs,by simpa using I.len⟩ ⟨c,hs,.inr hc⟩
  ·exact(hs.2 b (lB (lq (kJ e) (I.ok.cab x c c9 hc)))).trans (I.base.keep b o e n hb hx)
  ·obtain⟨sl,e1⟩:=I.base.slot b o e n hb hx
   exact⟨sl,(hs.2 b (lB (lq (kJ e) (I.ok.cab x c c9 hc)))).trans e1⟩
  ·obtain⟨o',e1⟩:=I.base.there b o e hx
   exact⟨o',(hs.2 b (lB (lq (kJ e) (I.ok.cab x c c9 hc)))).trans e1⟩
  ·by_cases hj:j=i
   ·subst hj
    rw[hi]at e1;cases e1;rw[mS eC]at e2;cases e2;exact⟨u,r,.inr ⟨.inl hk,c,hc,aC⟩⟩
   ·rw[lD (oO hj)]at e2
    obtain⟨u',r',q⟩:=hl j y v' e1 e2 e3;refine⟨u',r',?_⟩;rcases q with q |⟨k,c',e,z'⟩
    ·exact .inl q
    ·refine .inr ⟨k,c',e,z'.sameBut hs ?_⟩
     rintro rfl;exact hj (zht_ hN e1 (I.ok.inj _ _ _ e hc ▸ hi))
  ·by_cases hcc:c'=c
   ·subst hcc;exact⟨_,aC⟩
   ·obtain⟨w2,z2⟩:=I.cell y c' e
    exact⟨w2,z2.sameBut hs hcc⟩
  ·obtain⟨e,n,ne,nf,d⟩:=I.pin p hp
   refine⟨(hs.2 p.1 ?_).trans e,n,ne,nf,d⟩;intro q;rw[q,hoc]at e;have q':oc=p.2:=lI e;exact d w' (by rw[<- q'];exact hocd)
theorem zfH_ {M:Model}{A:lY}{E:aU->kn->Prop}{i:Nat}{x:Str}{v:V}{u:aU}{Q:Unit->kn->Prop}(I:Inv X pins σ H s)(hN:X.N.Nodup)(hi:X.N[i]?=uC x)(hx:Loc X.env.scope x)(r:RelV v u)
  (h:∀s',Inv X pins (σ.set i (uC v)) H s'->Q () s') (hf:X.fn x=uE\/X.env.scope.names.lookup x=uC .local:=by first |exact .inl rfl |exact .inr rfl |assumption):lC M A (storeName X.env x u) Q E s:=
 ziv_ I hN hi hx r (λs' I' _=>h s' I') hf
theorem Inv.call' {s':kn}{ch:List kz}(I:Inv X pins σ H s)(ho:s'.os=s.os)(u:Un (frs X.stack) ch H H' s.heap s'.heap)(hok:HOk X.prog X.w H' s'.heap)(hg:AllBare s'.gens)
  (b8:∀b∈ch,(b∈X.ex\/X.s₀.heap.objs.size<=b)/\b≠X.env.locals/\(∀x c,X.env.cells.lookup x=uC c->c≠b)/\∀p∈X.pn++pins,p.1≠b):Inv X pins σ H' s':=by
 obtain⟨h',g',d',t',o'⟩:=s';have e:o'=s.os:=ho;subst e;exact I.call (g':=g') (t':=t') (d':=d') u hok hg b8
end
abbrev XK:=aU->Option kz->Hp->Prop
noncomputable abbrev St:=List (Option V)
abbrev VK:=V->Hp->Prop
abbrev TE:=St->Hp->VK->Prop
abbrev TT:=St->Hp->(Bool->Hp->Prop)->Prop
abbrev TA:=St->Hp->(List V->Hp->Prop)->Prop
structure Ends where
 nx:St->Hp->Prop
 rt:VK
 bk:St->Hp->Prop:=λ_ _=>False
 ct:St->Hp->Prop:=λ_ _=>False
abbrev TS:=Ends->St->Hp->Prop
def EP (X:Cx)(pins:Pnn)(σ:St)(Q:VK)(u:aU)(s':kn):Prop:=∃v H',Inv X pins σ H' s'/\RelV v u/\Q v H'
def TP (X:Cx)(pins:Pnn)(σ:St)(Q:Bool->Hp->Prop)(b:Bool)(s':kn):Prop:=∃H',Inv X pins σ H' s'/\Q b H'
def AP (X:Cx)(pins:Pnn)(σ:St)(Q:List V->Hp->Prop)(us:List aU)(s':kn):Prop:=∃vs H',Inv X pins σ H' s'/\Vals vs us/\Q vs H'
def SP (X:Cx)(pins:Pnn)(D:Ends)(f:Flow)(s':kn):Prop:=
 match f with
 |.next=>∃ai H',Inv X pins ai H' s'/\D.nx ai H'
 |.brk=>∃ai H',Inv X pins ai H' s'/\D.bk ai H'
 |.cont=>∃ai H',Inv X pins ai H' s'/\D.ct ai H'
 |.ret u=>∃v ai H',Inv X pins ai H' s'/\RelV v u/\D.rt v H'
def PE (X:Cx)(e:k8)(t:TE):Prop:=
 ∀(pins:Pnn) (s:kn) (σ:St) (H:Hp) (Q:VK),Inv X pins σ H s->t σ H Q->lC (model X.prog X.w) X.A (eval e X.env) (EP X pins σ Q) X.xe s
def PT (X:Cx)(e:k8)(t:TT):Prop:=
 ∀(pins:Pnn) (s:kn) (σ:St) (H:Hp) (Q:Bool->Hp->Prop),Inv X pins σ H s->t σ H Q->lC (model X.prog X.w) X.A (isTrue e X.env (eval e X.env)) (TP X pins σ Q) X.xe s
def PW (X:Cx)(e:k8)(t:TT):Prop:=
 ∀(whole:Sem aU) (pins:Pnn) (s:kn) (σ:St) (H:Hp) (Q:Bool->Hp->Prop),Inv X pins σ H s->t σ H Q->lC (model X.prog X.w) X.A (isTrue e X.env whole) (TP X pins σ Q) X.xe s
theorem PW.pt {X:Cx}{e:k8}{t:TT}(h:PW X e t):PT X e t:=h _
def PA (X:Cx)(es:List k8)(t:TA):Prop:=
 ∀(pos:Pos) (pins:Pnn) (s:kn) (σ:St) (H:Hp) (Q:List V->Hp->Prop),Inv X pins σ H s->t σ H Q->lC (model X.prog X.w) X.A (spliced (nX pos (lJ es X.env))) (AP X pins σ Q) X.xe s
def PS (X:Cx)(st:lV)(t:TS):Prop:=
 ∀(pins:Pnn) (s:kn) (σ:St) (H:Hp) (D:Ends),Inv X pins σ H s->t D σ H->lC (model X.prog X.w) X.A (exec st X.env) (SP X pins D) X.xe s
def PSs (X:Cx)(st:List lV)(t:TS):Prop:=
 ∀(pins:Pnn) (s:kn) (σ:St) (H:Hp) (D:Ends),Inv X pins σ H s->t D σ H->lC (model X.prog X.w) X.A (execs st X.env) (SP X pins D) X.xe s
theorem thn {α:Type}{t:Sem α}{Q Q':α->kn->Prop}{M:Model}{A:lY}{E:aU->kn->Prop}{s:kn}(h:lC M A t Q E s)(hQ:∀a s,Q a s->Q' a s):lC M A t Q' E s:=mF h hQ λ_ _ x=>x
section
variable {X:Cx}
def tVar (i:Nat):TE:=λσ H Q=>∃v,σ[i]?=uC (uC v)/\Q v H
def tC (v:V):TE:=λ_ H Q=>Q v H
theorem zoT_ {i:Nat}{x:Str}{pos:Pos}(hN:X.N[i]?=uC x)(hv:Vis X.env.scope x)(hd:(x==("__debug__":Str))=uF:=by decide)(av:(x==("__classdict__":Str))=uF:=by decide):PE X (.Name x pos) (tVar i):=by
 intro pins s σ H Q I h;obtain⟨v,e,h⟩:=h;obtain⟨m,hn,hl⟩:=I.loc;obtain⟨u,r,l⟩:=hl i x v hN e hv;have fin:EP X pins σ Q u s:=⟨v,H,I,r,h⟩;rcases l with⟨hk,hm⟩|⟨hk,c,hc,bu⟩
 ·exact wpAny_Name (wpAny_loadName_local I.ok.kind hk hn hm fin) hd
 ·rcases hk with hk |hk
  ·exact wpAny_Name (wpAny_loadName_cell I.ok.kind hk hc bu fin) hd
  ·exact wpAny_Name (wpAny_loadName_free I.ok.kind hk hc bu fin av) hd
theorem zpm_ {i j pos}:PE X (.Constant (.int i) j pos) (tC (.int i)):=λ_ _ _ H _ I h=>wpAny_Constant_int ⟨.int i,H,I.tok _,⟨_,rfl⟩,h⟩
theorem pe_bl {b j pos}:PE X (.Constant (.bool b) j pos) (tC (.bl b)):=λ_ _ _ H _ I h=>Constant_bool ⟨.bl b,H,I,rfl,h⟩
theorem zqF_ {j pos}:PE X (.Constant .none j pos) (tC .non):=λ_ _ _ H _ I h=>Constant_none ⟨.non,H,I,rfl,h⟩
theorem zpT_ {x j pos}:PE X (.Constant (.str x) j pos) (tC (.str x)):=λ_ _ _ H _ I h=>Calls.Constant_str ⟨.str x,H,I.tok _,⟨_,rfl⟩,h⟩
def Gl (X:Cx)(x:Str):Prop:=X.env.kindOf x=uC .globalImplicit
theorem zeK_ {E:aU->kn->Prop}{pins:Pnn}{s:kn}{σ:St}{H:Hp}{x:Str}{u:aU}{pos:Pos}{Q:aU->kn->Prop}(I:Inv X pins σ H s)(hg:Gl X x)(hm:X.mg x=uC u)(h:Q u s)
  (hd:(x==("__debug__":Str))=uF:=by decide):lC (model X.prog X.w) X.A (eval (.Name x pos) X.env) Q E s:=
 Calls.Name_function_global I.ok.kind hg (Calls.loadGlobal_global (by rw[I.ok.glob];exact I.mod.glob.keeps I.bk) hm h) hd
theorem zdB_ {E:aU->kn->Prop}{pins:Pnn}{s:kn}{σ:St}{H:Hp}{x:Str}{u:aU}{pos:Pos}{Q:aU->kn->Prop}(I:Inv X pins σ H s)(hg:Gl X x)(hm:X.mg x=uD)(hv:nr x=uC u)(h:Q u s)
  (hn:x ≠ "__name__":=by decide) (hd:(x==("__debug__":Str))=uF:=by decide):lC (model X.prog X.w) X.A (eval (.Name x pos) X.env) Q E s:=by
 obtain⟨mb,h1,h2⟩:=I.mod.blt;exact Calls.Name_function_global I.ok.kind hg (Calls.loadGlobal_builtin (by rw[I.ok.glob];exact I.mod.glob.keeps I.bk) hm (by rw[I.ok.blt];exact h1.keeps I.bk) ((h2 x hn).trans hv) h) hd
theorem zom_ {x:Str}{v:V}{u:aU}{pos:Pos}(hg:Gl X x)(hm:X.mg x=uC u)(r:RelV v u)(hd:(x==("__debug__":Str))=uF:=by decide):PE X (.Name x pos) (tC v):=
 λ_ _ _ H _ I h=>zeK_ I hg hm ⟨v,H,I,r,h⟩ hd
theorem zoq_ {x:Str}{v:V}{u:aU}{pos:Pos}(hg:Gl X x)(hm:X.mg x=uD)(hv:nr x=uC u)(r:RelV v u)(hn:x ≠ "__name__":=by decide)(hd:(x==("__debug__":Str))=uF:=by decide):PE X (.Name x pos) (tC v):=
 λ_ _ _ H _ I h=>zdB_ I hg hm hv ⟨v,H,I,r,h⟩ hn hd
variable {a:k8}{pos:Pos}
variable {tA:TT}
def tNot (t:TT):TT:=λσ H Q=>t σ H λc H1=>Q (!c) H1
theorem zmE_ (ha:PT X a tA):PW X (.BoolOp .And [a] pos) tA:=by
 intro wh pins s σ H Q I h;refine isTrue_and (thn (ha pins s σ H Q I h) λc s1 e=>?_)
 cases c with
 |true=>exact isTrue_and_nil e
 |false=>exact e
theorem zqb_ (ha:PT X a tA):PW X (.BoolOp .Or [a] pos) tA:=by
 intro wh pins s σ H Q I h;refine isTrue_or (thn (ha pins s σ H Q I h) λc s1 e=>?_)
 cases c with
 |false=>exact isTrue_or_nil e
 |true=>exact e
theorem zqO_ (ha:PT X a tA):PT X (.UnaryOp .Not a pos) (tNot tA):=by
 intro pins s σ H Q I h;exact isTrue_not (ha pins s σ H (λc H1=>Q (!c) H1) I h)
theorem zoc_ {op}{t:TE}(h:PE X a t):PE X (.BoolOp op [a] pos) t:=λpins s σ H Q I hw=>BoolOp_one (h pins s σ H Q I hw)
end
def SqL (K:Fgg)(H:Hp)(a:kz)(xs:List V):Prop:=
 Rd H a (.lst xs) \/
  ∃(o:sX) (aa:Array aU) (n:Nat),K.lookup a=uC o/\o.cls=.type "list" /\ o.dict=uD/\o.data=.seq aa n/\aa.size<=kR/\Vals xs aa.toList
def SqT (K:Fgg)(H:Hp)(a:kz)(xs:List V):Prop:=
 Rd H a (.tup xs) \/
  ∃(o:sX) (aa:Array aU) (n:Nat),K.lookup a=uC o/\o.cls=.type "tuple" /\ o.data=.seq aa n/\aa.size<=kR/\Vals xs aa.toList
noncomputable def absV:aU->Option V
 |.none=>uC .non
 |.bool b=>uC (.bl b)
 |.int i _=>uC (.int i)
 |.str x _=>uC (.str x)
 |.bytes b _=>uC (.byt b)
 |.float b _=>uC (.flt b)
 |.ref a=>uC (.ref a)
 |.type n=>uC (.ty n)
 |_=>uD
theorem RelV.abs {x:V}{u:aU}(r:RelV x u):absV u=uC x:=by
 cases x with
 |non=>cases r;rfl
 |bl _=>cases r;rfl
 |int _=>obtain⟨t,rfl⟩:=r;rfl
 |str _=>obtain⟨t,rfl⟩:=r;rfl
 |byt _=>obtain⟨t,rfl⟩:=r;rfl
 |flt _=>obtain⟨t,rfl⟩:=r;rfl
 |ref _=>cases r;rfl
 |ty _=>cases r;rfl
theorem RelV.inj {x y:V}{u:aU}(r:RelV x u)(q:RelV y u):x=y:=lI (r.abs.symm.trans q.abs)
theorem Vals.inj:∀{xs ys:List V}{us:List aU},Vals xs us->Vals ys us->xs=ys
 |_,_,_,.nil,.nil=>rfl
 |_,_,_,.cons r t,.cons r' t'=>by rw[r.inj r',Vals.inj t t']
section
variable {X:Cx}{pins:Pnn}{σ:St}{H:Hp}{s:kn}{a:kz}{xs ys:List V}
theorem SqL.of {K:Fgg}(h:H a=uC (.lst xs)):SqL K H a xs:=.inl (.inl h)
theorem SqT.of {K:Fgg}(h:H a=uC (.tup xs)):SqT K H a xs:=.inl (.inl h)
theorem Inv.list (I:Inv X pins σ H s)(h:SqL X.K H a xs):∃aa:List aU,Vals xs aa/\PlainL s.heap a aa.toArray/\xs.length<=kR:=by
 rcases h with h |⟨o,aa,n,hk,hc,hd,hs,hz,r⟩
 ·obtain⟨z,aa,n,r,e⟩:=h.ok I.hok
  exact⟨aa,r,⟨_,n,e,rfl,rfl,rfl⟩,z⟩
 ·refine⟨aa.toList,r,⟨o,n,I.kIn a o hk,hc,hd,by simpa using hs⟩,?_⟩
  have e:=r.length;simp only[mm]at e;lia
theorem Inv.tuple (I:Inv X pins σ H s)(h:SqT X.K H a xs):∃aa:List aU,Vals xs aa/\IsTup s.heap a aa.toArray/\xs.length<=kR:=by
 rcases h with h |⟨o,aa,n,hk,hc,hs,hz,r⟩
 ·obtain⟨z,aa,r,p⟩:=h.ok I.hok
  exact⟨aa,r,p,z⟩
 ·refine⟨aa.toList,r,⟨o,I.kIn a o hk,hc,n,by simpa using hs⟩,?_⟩
  have e:=r.length;simp only[mm]at e;lia
theorem Inv.list_inj (I:Inv X pins σ H s)(h:SqL X.K H a xs)(h':SqL X.K H a ys):xs=ys:=by
 obtain⟨aa,r,⟨o,n,e,_,_,d⟩,_⟩:=I.list h;obtain⟨its',r',⟨o',n',e',_,_,d'⟩,_⟩:=I.list h';rw[e]at e';cases e';rw[d]at d';injection d' with d1 _;have:aa=its':=by simpa using congrArg pH d1
 subst this;exact r.inj r'
theorem Inv.tuple_inj (I:Inv X pins σ H s)(h:SqT X.K H a xs)(h':SqT X.K H a ys):xs=ys:=by
 obtain⟨aa,r,⟨o,e,_,n,d⟩,_⟩:=I.tuple h;obtain⟨its',r',⟨o',e',_,n',d'⟩,_⟩:=I.tuple h';rw[e]at e';cases e';rw[d]at d';injection d' with d1 _;have:aa=its':=by simpa using congrArg pH d1
 subst this;exact r.inj r'
end
noncomputable abbrev Cx.wish (X:Cx)(E:aU->kn->Prop):Cx:={X with xe:=E}
abbrev Cx.nox (X:Cx):Cx:=X.wish λ_ _=>False
theorem Cx.Ok.wish {X:Cx}(ok:X.Ok)(E:aU->kn->Prop):(X.wish E).Ok:=
 ⟨ok.mod,ok.kind,ok.glob,ok.blt,ok.above,ok.inj,ok.has,ok.cab,ok.hd,ok.frames,ok.stk,ok.exf,ok.bs,ok.bsz,ok.noex,ok.exfs,ok.funs,ok.frf,ok.tb⟩
theorem Cx.Ok.unwish {X:Cx}{E:aU->kn->Prop}(ok:(X.wish E).Ok):X.Ok:=
 ⟨ok.mod,ok.kind,ok.glob,ok.blt,ok.above,ok.inj,ok.has,ok.cab,ok.hd,ok.frames,ok.stk,ok.exf,ok.bs,ok.bsz,ok.noex,ok.exfs,ok.funs,ok.frf,ok.tb⟩
section
variable {X:Cx}{pins:Pnn}{σ:St}{H:Hp}{s:kn}{E:aU->kn->Prop}
theorem Inv.wish (I:Inv X pins σ H s)(E:aU->kn->Prop):Inv (X.wish E) pins σ H s:=⟨I.ok.wish E,I.os,I.bare,I.base,I.loc,I.cell,I.free,I.freeC,I.pin,I.hok,I.len⟩
theorem Inv.unwish (I:Inv (X.wish E) pins σ H s):Inv X pins σ H s:=⟨I.ok.unwish,I.os,I.bare,I.base,I.loc,I.cell,I.free,I.freeC,I.pin,I.hok,I.len⟩
theorem SP.unwish {D:Ends}{f:Flow}{s':kn}(h:SP (X.wish E) pins D f s'):SP X pins D f s':=by
 cases f with
 |next=>obtain⟨ai,H',I,q⟩:=h;exact⟨ai,H',I.unwish,q⟩
 |brk=>obtain⟨ai,H',I,q⟩:=h;exact⟨ai,H',I.unwish,q⟩
 |cont=>obtain⟨ai,H',I,q⟩:=h;exact⟨ai,H',I.unwish,q⟩
 |ret u=>obtain⟨v,ai,H',I,r,q⟩:=h;exact⟨v,ai,H',I.unwish,r,q⟩
end
section
variable {X:Cx}{st:lV}{rest:List lV}{t u:TS}{e:k8}{te:TE}{pos:Pos}
def tNext:TS:=λD σ H=>D.nx σ H
def tSeq (t u:TS):TS:=λD σ H=>t {D with nx:=u D} σ H
theorem zjg_:PSs X [] tNext:=λ_ _ σ H _ I h=>wpAny_execs_nil ⟨σ,H,I,h⟩
theorem zgH_ (h1:PS X st t)(h2:PSs X rest u):PSs X (st::rest) (tSeq t u):=by
 intro pins s σ H D I h;refine wpAny_execs_cons (thn (h1 pins s σ H {D with nx:=u D} I h) λf s1 q=>?_)
 cases f with
 |next=>
  obtain⟨ai,H',I',q⟩:=q;exact h2 pins s1 ai H' D I' q
 |ret v=>exact q
 |brk=>exact q
 |cont=>exact q
def tCont:TS:=λD σ H=>D.ct σ H
theorem zog_:PS X (.Pass pos) tNext:=λ_ _ σ H _ I h=>wpAny_Pass ⟨σ,H,I,h⟩
theorem zfp_:PS X (.Continue pos) tCont:=λ_ _ σ H _ I h=>wpAny_Continue ⟨σ,H,I,h⟩
theorem Inv.quiet {pins:Pnn}{σ:St}{H:Hp}{s:kn}(I:Inv X pins σ H s):interactive X.env=uF:=by simp[interactive,I.ok.kind]
theorem zo8_ {x j pos pos'}:PS X (.Expr (.Constant (.str x) j pos) pos') tNext:=λ_ s σ H _ I h=>wpAny_Expr (Calls.Constant_str (show SP X _ _ .next {s with toks:=s.toks+1}from⟨σ,H,I.tok _,h⟩)) I.quiet
def tDrop (te:TE):TS:=λD σ H=>te σ H λ_ H1=>D.nx σ H1
theorem zm9_ (he:PE X e te)(hs:swapsWith e uD pos.line X.env=pure uF:=by rfl):PS X (.Expr e pos) (tDrop te):=by
 intro pins s σ H D I h;exact wpAny_Expr_any (thn (he pins s σ H _ I h) λv s1 ⟨x,H1,I1,r1,q1⟩=>⟨σ,H1,I1,q1⟩) I.quiet hs
def tRet (te:TE):TS:=λD σ H=>te σ H D.rt
theorem znf_ (he:PE X e te):PS X (.Return (uC e) pos) (tRet te):=by
 intro pins s σ H D I h;exact wpAny_Return_some (thn (he pins s σ H _ I h) λv s1 ⟨x,H1,I1,r1,q1⟩=>⟨x,σ,H1,I1,r1,q1⟩)
def tRetN:TS:=λD _ H=>D.rt .non H
theorem zmI_:PS X (.Return uD pos) tRetN:=λ_ _ σ H _ I h=>wpAny_Return_none ⟨.non,σ,H,I,rfl,h⟩
def tNever:TS:=λ_ _ _=>False
theorem zk7_:PS X st tNever:=λ_ _ _ _ _ _ h=>h.elim
end
abbrev TG:=V->St->Hp->(St->Hp->Prop)->Prop
abbrev TGs:=List V->St->Hp->(St->Hp->Prop)->Prop
def PG (X:Cx)(target:k8)(t:TG):Prop:=
 ∀(pins:Pnn) (s:kn) (σ:St) (H:Hp) (v:V) (u:aU) (Q:St->Hp->Prop),Inv X pins σ H s->RelV v u->t v σ H Q ->
  lC (model X.prog X.w) X.A (assign target X.env u) (λ_ s'=>∃ai H',Inv X pins ai H' s'/\Q ai H') X.xe s
def PGs (X:Cx)(ts:List k8)(t:TGs):Prop:=
 ∀(pins:Pnn) (s:kn) (σ:St) (H:Hp) (vs:List V) (us:List aU) (Q:St->Hp->Prop),Inv X pins σ H s->Vals vs us->t vs σ H Q ->
  lC (model X.prog X.w) X.A (assignInOrder ((mZ ts X.env).map (·.2)) us) (λ_ s'=>∃ai H',Inv X pins ai H' s'/\Q ai H') X.xe s
abbrev TSet:=V->V->V->Hp->(Hp->Prop)->Prop
def PSet (X:Cx)(t:TSet):Prop:=
 ∀(pins:Pnn) (s:kn) (σ:St) (H:Hp) (o i v:V) (ov iv u:aU) (Q:Hp->Prop),Inv X pins σ H s->RelV o ov->RelV i iv->RelV v u->t o i v H Q ->
  lC (model X.prog X.w) X.A (setItem ov iv u) (λ_ s'=>∃H',Inv X pins σ H' s'/\Q H') X.xe s
section
variable {X:Cx}{pos:Pos}
def gName (i:Nat):TG:=λv σ H Q=>Q (σ.set i (uC v)) H
theorem znB_ {i:Nat}{x:Str}(hN:X.N.Nodup)(hi:X.N[i]?=uC x)(hx:Loc X.env.scope x)(hf:X.fn x=uE\/X.env.scope.names.lookup x=uC .local:=by first |exact .inl rfl |exact .inr rfl |assumption):PG X (.Name x pos) (gName i):=by
 intro pins s σ H v u Q I r h;exact wpAny_assign_Name (zfH_ I hN hi hx r (λs' I'=>⟨_,H,I',h⟩) hf)
def gNil:TGs:=λvs σ H Q=>vs=[]/\Q σ H
def gCons (t:TG)(u:TGs):TGs:=λvs σ H Q=>∃v r,vs=v::r/\t v σ H λai H'=>u r ai H' Q
theorem znR_:PGs X [] gNil:=by
 intro pins s σ H vs us Q I r h;obtain⟨e,h⟩:=h;subst e;cases r;exact assignInOrder_nil ⟨σ,H,I,h⟩
theorem zkb_ {e:k8}{es:List k8}{t:TG}{u:TGs}(h1:PG X e t)(h2:PGs X es u)
  (hs:(mZ (e::es) X.env).map (·.2)=assign e X.env::(mZ es X.env).map (·.2):=by rfl):PGs X (e::es) (gCons t u):=by
 intro pins s σ H vs us Q I r h;obtain⟨v,vr,e1,h⟩:=h;subst e1;cases r with
 |cons r rr=>
  rw[hs];refine assignInOrder_cons (thn (h1 pins s σ H _ _ _ I r h) λ_ s1 af=>?_)
  obtain⟨iO,H1,I1,q1⟩:=af;exact h2 pins s1 iO H1 _ _ Q I1 rr q1
def gTup (K:Fgg)(n:Nat)(t:TGs):TG:=λv σ H Q=>∃a xs,v=.ref a/\SqT K H a xs/\xs.length=n/\t xs σ H Q
theorem zoY_ {es:List k8}{k:Nat}{t:TGs}{n:Nat}(hc:X.calm=uE)(h:PGs X es t)
  (hn:(mZ es X.env).length=n:=by rfl) (gm:(mZ es X.env).findIdx? (·.1)=uD:=by rfl):PG X (.Tuple es k pos) (gTup X.K n t):=by
 intro pins s σ H v u Q I r hw;obtain⟨a,xs,e1,hq,hl,hw⟩:=hw;subst e1;cases r;obtain⟨aa,rv,ht,hz⟩:=I.tuple hq;refine assign_Tuple_tuple (I.ok.hd hc) ht (by simp[hn,<- hl,rv.length]) gm λh' hx=>?_
 have I1:Inv X pins σ H {s with heap:=h'}:=I.kept (t':=s.toks) λb o e=>hx b o (lB (kJ e)) e
 exact h pins _ σ H xs _ Q I1 (by simpa using rv) hw
def gSub (to ti:TE)(t:TSet):TG:=λv σ H Q=>to σ H λo H1=>ti σ H1 λi H2=>t o i v H2 λH3=>Q σ H3
theorem zpE_ {o i:k8}{to ti:TE}{t:TSet}(ho:PE X o to)(hi:PE X i ti)(hs:PSet X t)
  (ha:∀v,assign (.Subscript o i pos) X.env v=(do
   let ov <- holding [v] (eval o X.env)
   let iv <- holding [v,ov] (eval i X.env)
   standAt pos
   holding [v,ov,iv] (setItem ov iv v)
   release [v,ov,iv] []):=by intro _;rfl):PG X (.Subscript o i pos) (gSub to ti t):=by
 intro pins s σ H v u Q I r h;rw[ha];refine kr (wpAny_holding (thn (ho pins s σ H _ I h) λov s1 af=>?_))
 obtain⟨x,H1,I1,r1,q1⟩:=af;refine kr (wpAny_holding (thn (hi pins s1 σ H1 _ I1 q1) λiv s2 af=>?_))
 obtain⟨y,H2,I2,r2,q2⟩:=af;refine kr (wpAny_standAt (kr (wpAny_holding (thn (hs pins s2 σ H2 x y v ov iv u _ I2 r1 r2 r q2) λ_ s3 af=>?_))))
 obtain⟨H3,I3,q3⟩:=af;exact wpAny_release ⟨σ,H3,I3,q3⟩
def tAsg (te:TE)(g:TG):TS:=λD σ H=>te σ H λx H1=>g x σ H1 D.nx
theorem zqR_ {tg e:k8}{te:TE}{g:TG}(he:PE X e te)(hg:PG X tg g)(hs:swapsWithSole [tg] e pos.line X.env=pure uF:=by rfl)(hw:swappedStores [tg] e X.env=pure uD:=by rfl)
  (h1:(mZ [tg] X.env).map (·.2)=[assign tg X.env]:=by rfl):PS X (.Assign [tg] e pos) (tAsg te g):=by
 intro pins s σ H D I h;refine wpAny_Assign_stores (thn (he pins s σ H _ I h) λv s1 af=>?_) hs hw
 obtain⟨x,H1,I1,r1,q1⟩:=af;rw[h1];exact thn (hg pins s1 σ H1 x v _ I1 r1 q1) λ_ s2 q=>q
theorem znC_ {i:Nat}{x:Str}{e:k8}{te:TE}{pos':Pos}(hN:X.N.Nodup)(hi:X.N[i]?=uC x)(hx:Loc X.env.scope x)(he:PE X e te)(hs:swapsWith e (uC (.Name x pos')) pos.line X.env=pure uF:=by rfl)(hf:X.fn x=uE\/X.env.scope.names.lookup x=uC .local:=by first |exact .inl rfl |exact .inr rfl |assumption):
  PS X (.Assign [.Name x pos'] e pos) (tAsg te (gName i)):=by
 intro pins s σ H D I h;refine wpAny_Assign_Name (thn (he pins s σ H _ I h) λv s1 af=>?_) hs
 obtain⟨y,H1,I1,r1,q1⟩:=af;exact zfH_ I1 hN hi hx r1 (λs2 I2=>⟨_,H1,I2,q1⟩) hf
end
structure It where
 go:Nat->Hp->Prop
 yld:Nat->Hp->V->Hp->Prop
 stop:Nat->Hp->Prop
def FpOk (X:Cx)(pins:Pnn)(H:Hp)(b:kz):Prop:=
 H b=uD/\b≠X.env.locals/\b∉X.fs/\(b∈X.ex\/X.s₀.heap.objs.size<=b)/\(∀x c,X.env.cells.lookup x=uC c->c≠b)/\∀p∈X.pn++pins,p.1≠b
theorem Inv.fpOk {X:Cx}{pins:Pnn}{σ:St}{H H':Hp}{s:kn}{b:kz}(I:Inv X pins σ H s)(hb:s.heap.objs.size<=b)(hn:H' b=uD):FpOk X pins H' b:=by
 refine⟨hn,oE (lq I.lt hb),I.nofs hb,.inr (mG I.sz hb),λx c e z=>?_,λp hp z=>?_⟩
 ·obtain⟨v,q⟩:=I.cell x c e
  exact absurd (lq q.lt (by rw[z];exact hb)) (nW _)
 ·exact absurd (lq (kJ (I.pin p hp).1) (by rw[z];exact hb)) (nW _)
structure Turn (P:lF)(w:lW)(K:Fgg)(tg:k8)(J:It)(fp:List kz)(it:kz)(tn:Nat->Heap->Prop):Prop where
 mem:it∈fp
 obj:∀i h,tn i h->∀b∈fp,∃o,h.get? b=uC o/\∀v,o.data≠.cell v
 keep:∀i h h',tn i h->(∀b∈fp,∀o,h.get? b=uC o->h'.get? b=uC o)->tn i h'
 item:∀(X:Cx),X.prog=P->X.w=w->X.K=K->X.calm=uE->∀(i:Nat) (pins:Pnn) (s:kn) (σ:St) (H:Hp) (E:aU->kn->Prop),Inv X pins σ H s->(∀b∈fp,FpOk X pins H b)->tn i s.heap->J.go i H ->
  lC (model P w) X.A (pyNext (.ref it)) (λr s1=>∃u,r=uC u /\
   lC (model P w) X.A (letOwnedTupleGo tg (.ref it) u) (λ_ s2=>∃x H',Inv X pins σ H' s2/\RelV x u/\J.yld i H x H'/\tn (i+1) s2.heap/\∀b∈fp,H' b=uD) E s1) E s
 done:∀(X:Cx),X.prog=P->X.w=w->X.K=K->X.calm=uE->∀(i:Nat) (pins:Pnn) (s:kn) (σ:St) (H:Hp) (E:aU->kn->Prop),Inv X pins σ H s->(∀b∈fp,FpOk X pins H b)->tn i s.heap->J.stop i H ->
  lC (model P w) X.A (pyNext (.ref it)) (λr s1=>r=uD/\Inv X pins σ H s1) E s
 self:∀(A:lY) (i:Nat) (s:kn) (Q:aU->kn->Prop) (E:aU->kn->Prop),tn i s.heap->Q (.ref it) s->lC (model P w) A (pyIter (.ref it)) Q E s
abbrev TI:=St->Hp->(It->Hp->Prop)->Prop
def PIE (X:Cx)(pins:Pnn)(σ:St)(tg:k8)(R:It->Hp->Prop)(fA:aU)(s2:kn):Prop:=
 ∃(it:kz) (fp:List kz) (tn:Nat->Heap->Prop) (J:It) (H':Hp),fA=.ref it/\Inv X pins σ H' s2/\Turn X.prog X.w X.K tg J fp it tn/\tn 0 s2.heap/\(∀b∈fp,FpOk X pins H' b)/\R J H'
def PI (X:Cx)(tg iter:k8)(wi:TI):Prop:=
 ∀(pins:Pnn) (s:kn) (σ:St) (H:Hp) (R:It->Hp->Prop),Inv X pins σ H s->wi σ H R ->
  lC (model X.prog X.w) X.A (eval iter X.env) (λv s1=>lC (model X.prog X.w) X.A (pyIter v) (PIE X pins σ tg R) X.xe s1) X.xe s
theorem zoG_ {M:Model}{A:lY}{E:aU->kn->Prop}{s:kn}{tg:k8}{it:kz}{u:aU}{o:sX}{n:String}{vs:Array aU}{Q:Unit->kn->Prop}(ho:s.heap.get? it=uC o)(hc:o.cls=.type n)(hd:o.data=.fields vs)
  (hn:["enumerate", "zip", "dict_itemiterator", "dict_reverseitemiterator", "odict_iterator", "itertools.zip_longest", "itertools.pairwise"].contains n=uF) (hQ:Q () s):lC M A (letOwnedTupleGo tg (.ref it) u) Q E s:=by
 unfold letOwnedTupleGo
 cases tg<;>first
  |exact lj hQ
  | (cases u<;>first
    |exact lj hQ
    | (refine kr (wpAny_load ho ?_)
       rw[hc,hd];show lC M A (if(["enumerate", "zip", "dict_itemiterator", "dict_reverseitemiterator", "odict_iterator", "itertools.zip_longest", "itertools.pairwise"].contains n && vs[0]?==uC (rawInt _))=uE then _ else _) Q E s
       rw[if_neg (by intro h;rw[hn,Bool.false_and]at h;cases h)]
       exact lj hQ))
def Itl (K:Fgg)(a:kz):It:=
 ⟨λi H=>∃xs x,SqL K H a xs/\xs[i]?=uC x,λi H x H'=>H'=H/\∀xs,SqL K H a xs->xs[i]?=uC x,λi H=>∃xs,SqL K H a xs/\xs.length<=i⟩
def Itt (K:Fgg)(a:kz):It:=
 ⟨λi H=>∃xs x,SqT K H a xs/\xs[i]?=uC x,λi H x H'=>H'=H/\∀xs,SqT K H a xs->xs[i]?=uC x,λi H=>∃xs,SqT K H a xs/\xs.length<=i⟩
noncomputable def Itr (lo:Int)(n:Nat):It:=⟨λi _=>i<n,λi H x H'=>H'=H/\x=.int (lo+i),λi _=>n<=i⟩
theorem zij_ {P:lF}{w:lW}{K:Fgg}{tg:k8}(a it:kz):Turn P w K tg (Itl K a) [it] it (λi h=>h.IsListIter it a i) where
 mem:=by simp
 obj:=λi h st b hb=>by
  have e:b=it:=by simpa using hb
  subst e;obtain⟨o,e,c,d⟩:=st;exact⟨o,e,λv z=>by rw[d]at z;cases z⟩
 keep:=λi h h' st k=>st.at λo e=>k it (by simp) o e
 item:=by
  intro X hP hw hK hc i pins s σ H E I hf st hg;subst hP hw hK;obtain⟨xs,x,hq,hx⟩:=hg;obtain⟨aa,rv,p,hz⟩:=I.list hq;obtain⟨u,hu,ru⟩:=rv.get hx;obtain⟨f0,f1,f2,f3,f4,f5⟩:=hf it (by simp)
  refine wpAny_pyNext_list_item st p.isList (x:=u) (by simpa using hu) λh' st' sb=>?_
  have I1:Inv X pins σ H {s with heap:=h'}:=I.turned (t':=s.toks) (λb o hb e=>(sb.2 b hb).trans e) f0 f1 f3 f4 f5
  obtain⟨o,e,c,d⟩:=id st';exact⟨u,rfl,zoG_ (s:={s with heap:=h'}) e c d (by decide) ⟨x,H,I1,ru,⟨rfl,λys hy=>by rw[I.list_inj hy hq];exact hx⟩,st',λb hb=>(hf b hb).1⟩⟩
 done:=by
  intro X hP hw hK hc i pins s σ H E I hf st hg;subst hP hw hK;obtain⟨xs,hq,hx⟩:=hg;obtain⟨aa,rv,p,hz⟩:=I.list hq;obtain⟨f0,f1,f2,f3,f4,f5⟩:=hf it (by simp)
  have hl:=rv.length;exact wpAny_pyNext_list_end (I.ok.hd hc) st p.isList (by simp;lia) λh' eb=>⟨rfl,I.turned (t':=s.toks) (λb o hb e=>eb b o hb e) f0 f1 f3 f4 f5⟩
 self:=λ_ _ _ _ _ st h=>wpAny_pyIter_listiter st h
theorem zfM_ {P:lF}{w:lW}{K:Fgg}{tg:k8}(a it:kz):Turn P w K tg (Itt K a) [it] it (λi h=>h.IsTupleIter it a i) where
 mem:=by simp
 obj:=λi h st b hb=>by
  have e:b=it:=by simpa using hb
  subst e;obtain⟨o,e,c,d⟩:=st;exact⟨o,e,λv z=>by rw[d]at z;cases z⟩
 keep:=λi h h' st k=>st.at λo e=>k it (by simp) o e
 item:=by
  intro X hP hw hK hc i pins s σ H E I hf st hg;subst hP hw hK;obtain⟨xs,x,hq,hx⟩:=hg;obtain⟨aa,rv,p,hz⟩:=I.tuple hq;obtain⟨u,hu,ru⟩:=rv.get hx;obtain⟨f0,f1,f2,f3,f4,f5⟩:=hf it (by simp)
  refine wpAny_pyNext_tuple_item st (show s.heap.IsTuple a aa.toArray from p) (x:=u) (by simpa using hu) λh' st' sb=>?_
  have I1:Inv X pins σ H {s with heap:=h'}:=I.turned (t':=s.toks) (λb o hb e=>(sb.2 b hb).trans e) f0 f1 f3 f4 f5
  obtain⟨o,e,c,d⟩:=id st';exact⟨u,rfl,zoG_ (s:={s with heap:=h'}) e c d (by decide) ⟨x,H,I1,ru,⟨rfl,λys hy=>by rw[I.tuple_inj hy hq];exact hx⟩,st',λb hb=>(hf b hb).1⟩⟩
 done:=by
  intro X hP hw hK hc i pins s σ H E I hf st hg;subst hP hw hK;obtain⟨xs,hq,hx⟩:=hg;obtain⟨aa,rv,p,hz⟩:=I.tuple hq;obtain⟨f0,f1,f2,f3,f4,f5⟩:=hf it (by simp)
  have hl:=rv.length;exact wpAny_pyNext_tuple_end (I.ok.hd hc) st (show s.heap.IsTuple a aa.toArray from p) (by simp;lia) λh' eb=>⟨rfl,I.turned (t':=s.toks) (λb o hb e=>eb b o hb e) f0 f1 f3 f4 f5⟩
 self:=λ_ _ _ _ _ st h=>wpAny_pyIter_tupleiter st h
theorem zf1_ {P:lF}{w:lW}{K:Fgg}{tg:k8}(it:kz)(lo:Int)(n:Nat):Turn P w K tg (Itr lo n) [it] it (λi h=>IsRangeIter h it (lo+(i:Nat)*1) ((n:Int)-(i:Nat)) 1) where
 mem:=by simp
 obj:=λi h st b hb=>by
  have e:b=it:=by simpa using hb
  subst e;exact⟨_,st,λv z=>by
   have z':Data.fields _=Data.cell v:=z;cases z'⟩
 keep:=λi h h' st k=>k it (by simp) _ st
 item:=by
  intro X hP hw hK hc i pins s σ H E I hf st hg;subst hP hw hK;obtain⟨f0,f1,f2,f3,f4,f5⟩:=hf it (by simp)
  have W:=Walks.range (prog:=X.prog) (w:=X.w) (I.ok.hd hc) it lo 1 n;refine W.item i s _ _ hg st λv h' tk hv st' kk=>?_
  obtain⟨t,rfl⟩:=hv;have I1:Inv X pins σ H {s with heap:=h',toks:=tk}:=I.turned (λb o hb e=>kk b o (by simpa using hb) e) f0 f1 f3 f4 f5
  refine⟨_,rfl,zoG_ (s:={s with heap:=h',toks:=tk}) (n:="range_iterator") st' rfl rfl (by decide) ⟨.int (lo+i),H,I1,⟨t,?_⟩,⟨rfl,rfl⟩,st',λb hb=>(hf b hb).1⟩⟩
  rw[Int.mul_one]
 done:=by
  intro X hP hw hK hc i pins s σ H E I hf st hg;subst hP hw hK;obtain⟨f0,f1,f2,f3,f4,f5⟩:=hf it (by simp)
  exact wpAny_pyNext_range_end (I.ok.hd hc) st (by have:n<=i:=hg;lia) λh' eb=>⟨rfl,I.turned (t':=s.toks) (λb o hb e=>eb b o hb e) f0 f1 f3 f4 f5⟩
 self:=λ_ _ _ _ _ st h=>wpAny_pyIter_rangeiter st h
section
variable {X:Cx}{tg:k8}
theorem zf2_ {pins:Pnn}{σ:St}{H:Hp}{s:kn}{R:It->Hp->Prop}{E:aU->kn->Prop}{lo hi:Int}{t u v:Tok}{tk:Nat}(I:Inv X pins σ H s)(h1 : -(2 ^ 62)<=lo)(h2:lo<2 ^ 62)(h3 : -(2 ^ 62)<=hi)(h4:hi<2 ^ 62)
  (q:R (Itr lo (hi-lo).toNat) H):lC (model X.prog X.w) X.A (pyIter (.ref s.heap.objs.size)) (PIE X pins σ tg R) E {s with heap:=s.heap.push {cls:=.type "range",data:=.fields #[.int lo t,.int hi u,.int 1 v]},toks:=tk}:=by
 refine wpAny_pyIter_range (IsRange.new ..) (small_one h1 h2 h3 h4) ?_;have I1:Inv X pins σ H {s with heap:=s.heap.push {cls:=.type "range",data:=.fields #[.int lo t,.int hi u,.int 1 v]},toks:=tk}:=I.kept λb o e=>kq _ e
 refine⟨(s.heap.push {cls:=.type "range",data:=.fields #[.int lo t,.int hi u,.int 1 v]}).objs.size,[(s.heap.push {cls:=.type "range",data:=.fields #[.int lo t,.int hi u,.int 1 v]}).objs.size],_,_,H,rfl,
  I1.kept (t':=tk) λb o e=>kq _ e,zf1_ _ lo (hi-lo).toNat,?_,λb hb=>?_,q⟩
 ·have e1:lo+((0:Nat):Int)*1=lo:=by simp
  have e2:(((hi-lo).toNat:Nat):Int)-((0:Nat):Int)=pZ lo hi 1:=by rw[rangeSize_one];split<;>omega
  show IsRangeIter _ _ (lo+((0:Nat):Int)*1) ((((hi-lo).toNat:Nat):Int)-((0:Nat):Int)) 1
  rw[e1,e2];exact ll _ rfl
 ·have e:b=(s.heap.push {cls:=.type "range",data:=.fields #[.int lo t,.int hi u,.int 1 v]}).objs.size:=by simpa using hb
  subst e;exact I1.fpOk (kx _) (I1.hok.fresh (kx _))
def tFor (wi:TI)(g:TG)(tb:TS):TS:=λD σ H=>wi σ H λJ H1=>∃W:Nat->Nat->St->Hp->Prop,(∃m,W 0 m σ H1)/\∀i m σ H,W i m σ H ->
 (J.stop i H/\D.nx σ H)\/(J.go i H/\∃N:St->Hp->Prop,(∀ai H',N ai H'->∃m',m'<m/\W (i+1) m' ai H')/\∀x H',J.yld i H x H'->g x σ H' λdu H2=>tb {D with nx:=N,ct:=N,bk:=D.nx} du H2)
def pinsAt (fp:List kz)(h:Heap):Pnn:=fp.filterMap λb=>(h.get? b).map λo=>(b,o)
theorem za9_ {fp:List kz}{h:Heap}{b:kz}{o:sX}(hb:b∈fp)(e:h.get? b=uC o):(b,o)∈pinsAt fp h:=qS.mpr ⟨b,hb,by rw[e];rfl⟩
theorem ziH_ {fp:List kz}{h:Heap}{p:kz×sX}(hp:p∈pinsAt fp h):p.1∈fp/\h.get? p.1=uC p.2:=by
 obtain⟨b,hb,e⟩:=qS.mp hp;cases q:h.get? b with
 |none=>rw[q]at e;cases e
 |some o=>
  rw[q]at e;have e':(b,o)=p:=lI e;subst e';exact⟨hb,q⟩
theorem Inv.pinned {pins:Pnn}{σ:St}{H:Hp}{s:kn}{fp:List kz}(I:Inv X pins σ H s)(hf:∀b∈fp,FpOk X pins H b)(ho:∀b∈fp,∃o,s.heap.get? b=uC o/\∀v,o.data≠.cell v):Inv X (pins++pinsAt fp s.heap) σ H s:=
 I.pins_of λp hp=>(mU.mp hp).elim (λz=>I.pin p (lE _ z)) λz=>by
  obtain⟨hb,e⟩:=ziH_ z;obtain⟨f0,f1,f2,_⟩:=hf p.1 hb;obtain⟨o,e',d⟩:=ho p.1 hb;rw[e]at e';cases e';exact⟨e,f0,f1,f2,d⟩
theorem Inv.unpinned {pins pl:Pnn}{σ:St}{H:Hp}{s:kn}(I:Inv X (pins++pl) σ H s):Inv X pins σ H s:=I.pins_of λp hp=>I.pin p (lE _ (oz _ hp))
theorem zpY_ {iter:k8}{body:List lV}{wi:TI}{g:TG}{tb:TS}{pos:Pos}(hp:PassesOwn (model X.prog X.w) X.A X.env X.xe)(hc:X.calm=uE)(hi:PI X tg iter wi)(hg:PG X tg g)(hb:PSs X body tb)
  (hs:∀x,foldedSetIterable iter X.env x=pure x:=by intro _;rfl):PS X (.For tg iter body [] pos) (tFor wi g tb):=by
 intro pins s σ H D I h;refine wpAny_For (thn (hi pins s σ H _ I h) λv s1 h1=>thn h1 λfA s2 h2=>?_) hs
 obtain⟨it,fp,tn,J,H2,e,I2,T,st2,f2,W,⟨m0,w0⟩,turn⟩:=h2;subst e;have aW:∀{H':Hp},(∀b∈fp,H' b=uD)->∀b∈fp,FpOk X pins H' b:=λhn b hb=>⟨hn b hb,(f2 b hb).2⟩
 refine codeAny_forLoop_any (λn s'=>∃i ai H',Inv X pins ai H' s'/\tn i s'.heap/\(∀b∈fp,H' b=uD)/\W i n ai H') ?_ m0 ⟨0,σ,H2,I2,st2,λb hb=>(f2 b hb).1,w0⟩
 rintro n s3 ⟨i,bE,H3,I3,st3,fr3,w3⟩;rcases turn i n bE H3 w3 with⟨stop,qn⟩|⟨go,N,hN,step⟩
 ·refine oP hp (thn (T.done X rfl rfl rfl hc i pins s3 bE H3 X.xe I3 (aW fr3) st3 stop) λr s4 af=>?_)
  obtain⟨hr,I4⟩:=af;subst hr;exact wpAny_execs_nil ⟨bE,H3,I4,qn⟩
 ·refine oP hp (thn (T.item X rfl rfl rfl hc i pins s3 bE H3 X.xe I3 (aW fr3) st3 go) λr s4 af=>?_)
  obtain⟨u,hr,h4⟩:=af;subst hr;refine oP hp (thn h4 λ_ s5 af=>?_)
  obtain⟨x,H5,I5,r5,y5,st5,fr5⟩:=af;have gW:=I5.pinned (aW fr5) (T.obj _ _ st5);refine oP hp (thn (hg _ s5 bE H5 x u _ gW r5 (step x H5 y5)) λ_ s6 af=>?_)
  obtain⟨bZ,H6,I6,q6⟩:=af;refine oP hp (thn (hb _ s6 bZ H6 _ I6 q6) λf s7 q7=>?_)
  have again:∀{bH:St}{H7:Hp},Inv X (pins++pinsAt fp s5.heap) bH H7 s7->N bH H7->∃m,m<n/\∃i ai H',Inv X pins ai H' s7/\tn i s7.heap/\(∀b∈fp,H' b=uD)/\W i m ai H':=λ{bH H7} I7 n7=>by
   obtain⟨m',hm,w7⟩:=hN bH H7 n7;refine⟨m',hm,i+1,bH,H7,I7.unpinned,T.keep _ _ _ st5 λb hb o e=>(I7.pin (b,o) (lE _ (lE _ (za9_ hb e)))).1,λb hb=>?_,w7⟩
   obtain⟨o,e,d⟩:=T.obj _ _ st5 b hb;exact(I7.pin (b,o) (lE _ (lE _ (za9_ hb e)))).2.1
  cases f with
  |next=>obtain⟨bH,H7,I7,n7⟩:=q7;exact again I7 n7
  |cont=>obtain⟨bH,H7,I7,n7⟩:=q7;exact again I7 n7
  |brk=>obtain⟨bH,H7,I7,q7⟩:=q7;exact⟨bH,H7,I7.unpinned,q7⟩
  |ret v=>obtain⟨x7,bH,H7,I7,r7,q7⟩:=q7;exact⟨x7,bH,H7,I7.unpinned,r7,q7⟩
end
abbrev R2:=V->V->Hp->VK->Prop
def OpR (X:Cx)(f:aU->aU->Sem aU)(r:R2):Prop:=
 ∀(pins:Pnn) (s:kn) (σ:St) (H:Hp) (x y:V) (v u:aU) (Q:VK),Inv X pins σ H s->RelV x v->RelV y u->r x y H Q ->
  lC (model X.prog X.w) X.A (f v u) (EP X pins σ Q) X.xe s
def UnR (X:Cx)(f:aU->Sem aU)(r:V->Hp->VK->Prop):Prop:=
 ∀(pins:Pnn) (s:kn) (σ:St) (H:Hp) (x:V) (v:aU) (Q:VK),Inv X pins σ H s->RelV x v->r x H Q ->
  lC (model X.prog X.w) X.A (f v) (EP X pins σ Q) X.xe s
def CallR (X:Cx)(f:aU)(r:List V->Hp->VK->Prop):Prop:=
 ∀(pins:Pnn) (s:kn) (σ:St) (H:Hp) (xs:List V) (us:List aU) (Q:VK),Inv X pins σ H s->Vals xs us->r xs H Q ->
  lC (model X.prog X.w) X.A (call f us) (EP X pins σ Q) X.xe s
def tOp (r:R2)(ta tb:TE):TE:=λσ H Q=>ta σ H λx H1=>tb σ H1 λy H2=>r x y H2 Q
def rI (C:Int->Int->Prop)(g:Int->Int->V):R2:=λx y H Q=>∃i j,x=.int i/\y=.int j/\C i j/\Q (g i j) H
def rI0 (g:Int->Int->V):R2:=λx y H Q=>∃i j,x=.int i/\y=.int j/\Q (g i j) H
def rU (g:Int->V):V->Hp->VK->Prop:=λx H Q=>∃i,x=.int i/\Q (g i) H
section
variable {X:Cx}{a b:k8}{ta tb:TE}{pos:Pos}
theorem binT (ha:PE X a ta)(hb:PE X b tb){pins:Pnn}{s:kn}{σ:St}{H:Hp}{R:V->V->Hp->Prop}(I:Inv X pins σ H s)
  (h:ta σ H λx H1=>tb σ H1 λy H2=>R x y H2) {Q:aU->kn->Prop}{f:aU->aU->Sem aU}
  (hf:∀v u s2 x y H2,Inv X pins σ H2 s2->RelV x v->RelV y u->R x y H2->lC (model X.prog X.w) X.A (f v u) Q X.xe s2):
  lC (model X.prog X.w) X.A (eval a X.env) (λv ab=>lC (model X.prog X.w) X.A (eval b X.env) (λu aO=>lC (model X.prog X.w) X.A (f v u) Q X.xe aO) X.xe ab) X.xe s:=by
 refine thn (ha pins s σ H _ I h) λv s1 af=>?_
 obtain⟨x,H1,I1,r1,q1⟩:=af;refine thn (hb pins s1 σ H1 _ I1 q1) λu s2 af=>?_
 obtain⟨y,H2,I2,r2,q2⟩:=af;exact hf v u s2 x y H2 I2 r1 r2 q2
theorem pe_op {op:Operator}{r:R2}(ho:OpR X (nj op) r)(ha:PE X a ta)(hb:PE X b tb):PE X (.BinOp a op b pos) (tOp r ta tb):=by
 intro pins s σ H Q I h;exact wpAny_BinOp (binT ha hb I h λv u s2 x y H2 I2 rx ry q=>ho pins s2 σ H2 x y v u Q I2 rx ry q)
theorem opI {f:aU->aU->Sem aU}{C:Int->Int->Prop}{g:Int->Int->Int}
  (rule:∀(i j:Int) (t u:Tok) (s:kn) (Q:aU->kn->Prop) (E:aU->kn->Prop),C i j->Q (.int (g i j) s.toks) {s with toks:=s.toks+1}->lC (model X.prog X.w) X.A (f (.int i t) (.int j u)) Q E s):
  OpR X f (rI C λi j=>.int (g i j)):=by
 intro pins s σ H x y v u Q I rx ry h;obtain⟨i,j,rfl,rfl,hc,q⟩:=h;obtain⟨t,rfl⟩:=rx;obtain⟨t',rfl⟩:=ry;exact rule i j t t' s _ _ hc ⟨.int (g i j),H,I.tok _,⟨_,rfl⟩,q⟩
theorem opI0 {f:aU->aU->Sem aU}{g:Int->Int->Int}
  (rule:∀(i j:Int) (t u:Tok) (s:kn) (Q:aU->kn->Prop) (E:aU->kn->Prop),Q (.int (g i j) s.toks) {s with toks:=s.toks+1}->lC (model X.prog X.w) X.A (f (.int i t) (.int j u)) Q E s):
  OpR X f (rI0 λi j=>.int (g i j)):=by
 intro pins s σ H x y v u Q I rx ry h;obtain⟨i,j,rfl,rfl,q⟩:=h;obtain⟨t,rfl⟩:=rx;obtain⟨t',rfl⟩:=ry;exact rule i j t t' s _ _ ⟨.int (g i j),H,I.tok _,⟨_,rfl⟩,q⟩
theorem opB0 {f:aU->aU->Sem aU}{g:Int->Int->Bool}
  (rule:∀(i j:Int) (t u:Tok) (s:kn) (Q:aU->kn->Prop) (E:aU->kn->Prop),Q (.bool (g i j)) s->lC (model X.prog X.w) X.A (f (.int i t) (.int j u)) Q E s):
  OpR X f (rI0 λi j=>.bl (g i j)):=by
 intro pins s σ H x y v u Q I rx ry h;obtain⟨i,j,rfl,rfl,q⟩:=h;obtain⟨t,rfl⟩:=rx;obtain⟨t',rfl⟩:=ry;exact rule i j t t' s _ _ ⟨.bl (g i j),H,I,rfl,q⟩
def CDiv (i j:Int):Prop:=0<j/\j<1073741824
def CPow (i j:Int):Prop:=0<=j/\j<=1000000/\i.natAbs<2 ^ 64
def CMul (i j:Int):Prop:=(-(2 ^ 64)<i/\i<2 ^ 64)\/(-(2 ^ 64)<j/\j<2 ^ 64)
theorem CMul.ok {i j:Int}(h:CMul i j):IntMulOk i j:=by
 rcases h with⟨h1,h2⟩|⟨h1,h2⟩
 ·exact .of_left (intBits_le_64 h1 h2)
 ·exact .of_right (intBits_le_64 h1 h2)
theorem zrp_:OpR X (nj .Add) (rI0 λi j=>.int (i+j)):=opI0 λ_ _ _ _ _ _ _ q=>add_int q
theorem zqu_:OpR X (nj .Sub) (rI0 λi j=>.int (i-j)):=opI0 λ_ _ _ _ _ _ _ q=>sub_int q
theorem zrj_:OpR X (nj .Mod) (rI (λ_ j=>0<j) λi j=>.int (i % j)):=opI λi j _ _ _ _ _ hc q=>by
 have h1:(0:Int)<j:=hc;exact mod_int' (by lia) (by rw[Int.fmod_eq_emod_of_nonneg i (by lia)];exact q)
theorem unI {f:aU->Sem aU}{g:Int->Int}
  (rule:∀(i:Int) (t:Tok) (s:kn) (Q:aU->kn->Prop) (E:aU->kn->Prop),Q (.int (g i) s.toks) {s with toks:=s.toks+1}->lC (model X.prog X.w) X.A (f (.int i t)) Q E s):
  UnR X f (rU λi=>.int (g i)):=by
 intro pins s σ H x v Q I rx h;obtain⟨i,rfl,q⟩:=h;obtain⟨t,rfl⟩:=rx;exact rule i t s _ _ ⟨.int (g i),H,I.tok _,⟨_,rfl⟩,q⟩
theorem zqq_:UnR X (unaryOp .USub) (rU λi=>.int (-i)):=unI λ_ _ _ _ _ q=>neg_int q
theorem zfB_ {pins:Pnn}{σ:St}{H:Hp}{s:kn}{Q:VK}{k k':Bool}(I:Inv X pins σ H s)(q:Q (.bl k) H)(e:k=k'):EP X pins σ Q (.bool k') s:=by
 subst e;exact⟨.bl k,H,I,rfl,q⟩
theorem op_lt:OpR X (lp .Lt) (rI0 λi j=>.bl (decide (i<j))):=opB0 λ_ _ _ _ _ _ _ q=>lt_int q
theorem op_le:OpR X (lp .LtE) (rI0 λi j=>.bl (decide (i<=j))):=opB0 λ_ _ _ _ _ _ _ q=>le_int q
theorem op_gt:OpR X (lp .Gt) (rI0 λi j=>.bl (decide (j<i))):=opB0 λ_ _ _ _ _ _ _ q=>gt_int q
theorem op_ge:OpR X (lp .GtE) (rI0 λi j=>.bl (decide (j<=i))):=opB0 λ_ _ _ _ _ _ _ q=>ge_int q
theorem zib_:OpR X (lp .Lt) (λx y H Q=>∃i j,x=.str i/\y=.str j/\Q (.bl (decide (i.cps.toList<j.cps.toList))) H):=by
 intro pins s σ H x y v u Q I rx ry h;obtain⟨i,j,rfl,rfl,q⟩:=h;obtain⟨t,rfl⟩:=rx;obtain⟨t',rfl⟩:=ry;exact lt_str (zfB_ I q rfl)
theorem ziL_:OpR X (lp .In) (λx y H Q=>∃i j,x=.str i/\y=.str j/\Q (.bl (!(m8 j i 0 j.length 1).isEmpty)) H):=by
 intro pins s σ H x y v u Q I rx ry h;obtain⟨i,j,rfl,rfl,q⟩:=h;obtain⟨t,rfl⟩:=rx;obtain⟨t',rfl⟩:=ry;exact in_str (zfB_ I q rfl)
theorem zq1_:OpR X (lp .Is) (λx y H Q=>y=.non/\Q (.bl (decide (x=.non))) H):=by
 intro pins s σ H x y v u Q I rx ry h;obtain⟨rfl,q⟩:=h;cases ry;refine is_none_gen (zfB_ I q ?_)
 cases x<;>first
  |(cases rx;rfl)
  |(obtain⟨t,rfl⟩:=rx;rfl)
theorem zoa_:OpR X (lp .IsNot) (λx y H Q=>y=.non/\Q (.bl (!decide (x=.non))) H):=by
 intro pins s σ H x y v u Q I rx ry h;obtain⟨rfl,q⟩:=h;cases ry;refine isnot_none_gen (zfB_ I q ?_)
 cases x<;>first
  |(cases rx;rfl)
  |(obtain⟨t,rfl⟩:=rx;rfl)
theorem zeu_:OpR X (lp .NotIn) (λx y H Q=>∃i j,x=.str i/\y=.str j/\Q (.bl (!(!(m8 j i 0 j.length 1).isEmpty))) H):=by
 intro pins s σ H x y v u Q I rx ry h;obtain⟨i,j,rfl,rfl,q⟩:=h;obtain⟨t,rfl⟩:=rx;obtain⟨t',rfl⟩:=ry;exact notIn_str (zfB_ I q rfl)
theorem zmc_ {op:CmpOp}{r:R2}(ho:OpR X (lp op) r)(ha:PE X a ta)(hb:PE X b tb)(hm:behindInMarks op b=uF):PE X (.Compare a [op] [b] pos) (tOp r ta tb):=by
 intro pins s σ H Q I h;exact wpAny_Compare1 (binT ha hb I h λv u s2 x y H2 I2 rx ry q=>ho pins s2 σ H2 x y v u Q I2 rx ry q) hm
theorem line63:(kR:Nat)<2 ^ 63:=by rw[sizeLine_eq];decide
theorem zhg_:OpR X (nj .Add) (λx y H Q=>∃i j,x=.str i/\y=.str j/\i.length+j.length<=kR/\Q (.str (i++j)) H):=by
 intro pins s σ H x y v u Q I rx ry h;obtain⟨i,j,rfl,rfl,hz,q⟩:=h;obtain⟨t,rfl⟩:=rx;obtain⟨t',rfl⟩:=ry;exact add_str (λt' tk=>⟨.str (i++j),H,I.tok _,⟨_,rfl⟩,q⟩) hz
theorem vals1 {x:V}{us:List aU}(r:Vals [x] us):∃u,us=[u]/\RelV x u:=by
 cases r with
 |cons r1 r2=>cases r2;exact⟨_,rfl,r1⟩
theorem vals2 {x y:V}{us:List aU}(r:Vals [x,y] us):∃u w',us=[u,w']/\RelV x u/\RelV y w':=by
 cases r with
 |cons r1 r2=>
  cases r2 with
  |cons r3 r4=>cases r4;exact⟨_,_,rfl,r1,r3⟩
theorem ziN_ (hc:X.calm=uE):CallR X (.builtin "min") (λxs H Q=>∃i j,xs=[.int i,.int j]/\Q (.int (if j<i then j else i)) H):=by
 intro pins s σ H xs us Q I r h;obtain⟨i,j,rfl,q⟩:=h;obtain⟨u,w',rfl,⟨t,rfl⟩,⟨t',rfl⟩⟩:=vals2 r;refine min_two_ints (I.ok.hd hc) λh' tk k=>⟨_,H,I.kept k,?_,q⟩
 by_cases hj:j<i
 ·rw[if_pos hj,if_pos hj];exact⟨_,rfl⟩
 ·rw[if_neg hj,if_neg hj];exact⟨_,rfl⟩
theorem zex_:CallR X (.type "str") (λxs H Q=>∃i,xs=[.int i]/\i.natAbs.log2<1920/\Q (.str (toString i)) H):=by
 intro pins s σ H xs us Q I r h;obtain⟨i,rfl,hz,q⟩:=h;obtain⟨u,rfl,t,rfl⟩:=vals1 r;exact PySem.P.str_of_int hz ⟨.str _,H,I.tok _,⟨_,rfl⟩,q⟩
end
structure ObjM (h:Heap)(x dx C:kz)(mA:Str->Option aU):Prop where
 obj:h.get? x=uC (pb C dx)
 ns:h.Ns1 dx mA
 ne:dx≠x
theorem zhT_ {h:Heap}{dx:kz}{mA:Str->Option aU}(n:h.Ns1 dx mA):∃od,h.get? dx=uC od/\∀name,ug name od=uC (mA name):=by
 obtain⟨o,es,ep,ho,hd,hk,_,hm⟩:=n;refine⟨o,ho,λname=>?_⟩
 have e:=hm name;unfold nsFind findBy at e;rw[<- Array.find?_toList]at e;unfold ug;rw[hd];dsimp only;split
 ·rename_i y q
  rw[q]at e;exact congrArg uC e
 ·rename_i q
  rw[q]at e;have a:es.toList.any (·.refKey)=uF:=by
   rw[rf];intro y hy;obtain⟨z,t,hkey⟩:=hk y (Array.mem_toList_iff.mp hy);simp[DictEntry.refKey,hkey]
  have a':¬es.toList.any (·.refKey)=uE:=by rw[a];exact mh
  rw[if_neg a'];exact congrArg uC e
theorem ObjM.look {h:Heap}{x dx C:kz}{mA:Str->Option aU}(I:ObjM h x dx C mA):∃od,W.InstAt h x (pb C dx) C (uC od)/\∀name,ug name od=uC (mA name):=
 let⟨od,ho,hl⟩:=zhT_ I.ns
 ⟨od,⟨I.obj,rfl,rfl,ho⟩,hl⟩
section
variable {prog:lF}{w:lW}{A:lY}{E:aU->kn->Prop}{s:kn}{K:Fgg}{x dx C f:kz}{mA:Str->Option aU}{name:Str}{v:aU}
theorem zmY_ {expr:Bool}{Q:aU->kn->Prop}(X:K.In s.heap)(I:ObjM s.heap x dx C mA)(hg:qc K C name=uE)(hh:pP K C=uE)
  (ha:ny K (.ref C) name=uC uD) (hv:mA name=uC v) (gh:W.handedIn v=uE) (h:Q v {s with toks:=s.toks+1}):
  lC (model prog w) A (getAttr (.ref x) name expr) Q E s:=by
 obtain⟨od,J,hl⟩:=I.look;exact W.get_value X J (W.plainGet_of hg).1 (W.findObj_own hh ha rfl (by rw[hl,hv])) gh h
theorem zlL_ {ns:List Str}{Q:Unit->kn->Prop}(X:K.In s.heap)(I:ObjM s.heap x dx C mA)
  (hs:ny K (.ref C) "__setattr__"=uC (uC (.builtin "object.__setattr__"))) (hp:qv K C=uE) (ht:sY K C name=uC uD) (hh:pP K C=uE)
  (hw:qb mA ns) (hsz:ns.length<=kR)
  (h:∀h',ObjM h' x dx C (λy=>if y=name then uC v else mA y)->oB dx s.heap h'->Q () {s with heap:=h',toks:=s.toks+2}):
  lC (model prog w) A (setAttr (.ref x) name v) Q E s:=by
 obtain⟨od,J,hl⟩:=I.look;refine W.set_plain X J hs (W.osa_open (s:={s with toks:=s.toks+1}) (r:=uD) X J hp ht λb=>?_)
 obtain⟨cd,hc,hd'⟩:=W.any_some hh;have hx:s.heap.get? x=uC ⟨.ref C,uC dx,.plain,#[]⟩:=I.obj;refine kr (lj (kr (kr (wpAny_loadPart hx (kr (W.Looks.here (s:={s with toks:=s.toks+1}) (W.looks_clsIn X hc) ?_))))));rw[hd'];refine lj (a:=uC dx) (kr (lj (kr ?_)));refine wpAny_nsSet1 (s:={s with toks:=s.toks+1}) I.ns λh' fD aQ=>?_
 obtain⟨oD,esD,epD,hoD,hdD,hcD⟩:=fD.count (ux name v hw);refine kr (wpAny_lookBehind hoD (by rw[hdD];exact pastItsLine_dict (mG hcD (by rw[kZ];lia))) ?_)
 exact lj (h _ ⟨(aQ.2 _ (oO I.ne)).trans I.obj,fD,I.ne⟩ aQ)
theorem zjO_ {R:Result->kn->Prop}{vs:List aU}{kw:List (Str×aU)}(X:K.In s.heap)(hm:rE K C=uE)
  (hi:ny K (.ref C) "__init__"=uC (uC (.ref f))) (hf:W.typeIn K (.ref f)=uC (.type "function"))
  (h:codeAny (model prog w) (A.under (.builtin "type.__call__" ⟨.ref C::vs,kw⟩)) (.call (.ref f) ⟨.ref (s.heap.objs.size+1)::vs,kw⟩) (W.InitBack (s.heap.objs.size+1) R)
   {s with heap:=(s.heap.push og).push (pb C s.heap.objs.size)}):
  codeAny (model prog w) A (.call (.ref C) ⟨vs,kw⟩) R s:=by
 obtain⟨hh,g,d,t,os⟩:=s;exact W.make_core (W.makes_of X hm) (W.looks_findIn X hi) (λself=>W.bind_fn X self hf) (.inl rfl) h
end
noncomputable def putF (f:Str)(v:V):List (Str×V)->List (Str×V)
 |[]=>[(f,v)]
 |(g,x)::r=>if g=f then(g,v)::r else(g,x)::putF f v r
theorem zcs_ (f g:Str)(v:V):∀fs:List (Str×V),(putF f v fs).lookup g=if g=f then uC v else fs.lookup g
 |[]=>by
  show oU g [(f,v)]=_
  by_cases h:g=f
  ·have hb:(g == f)=uE:=beq_iff_eq.mpr h
   simp only[oU,hb,if_pos h]
  ·have hb:(g == f)=uF:=beq_eq_false_iff_ne.mpr h
   simp only[oU,hb,if_neg h]
 |(k,x)::r=>by
  have ih:=zcs_ f g v r;rw[show putF f v ((k,x)::r)=(if k=f then(k,v)::r else(k,x)::putF f v r)from rfl]
  by_cases hk:k=f
  ·rw[if_pos hk]
   by_cases h:g=k
   ·have hb:(g == k)=uE:=beq_iff_eq.mpr h
    simp only[oU,hb,if_pos (h.trans hk)]
   ·have hb:(g == k)=uF:=beq_eq_false_iff_ne.mpr h
    simp only[oU,hb,if_neg (λe:g=f=>h (e.trans hk.symm))]
  ·rw[if_neg hk]
   by_cases h:g=k
   ·have hb:(g == k)=uE:=beq_iff_eq.mpr h
    simp only[oU,hb,if_neg (λe:g=f=>hk (h.symm.trans e))]
   ·have hb:(g == k)=uF:=beq_eq_false_iff_ne.mpr h
    simp only[oU,hb];exact ih
theorem zcS_ (f:Str)(v:V):∀fs:List (Str×V),f∈(putF f v fs).map (·.1)/\∀g,g∈fs.map (·.1)->g∈(putF f v fs).map (·.1)
 |[]=>⟨by simp[putF],λg h=>by simp at h⟩
 |(k,x)::r=>by
  obtain⟨i1,i2⟩:=zcS_ f v r;rw[show putF f v ((k,x)::r)=(if k=f then(k,v)::r else(k,x)::putF f v r)from rfl]
  by_cases hk:k=f
  ·rw[if_pos hk]
   subst hk;exact⟨by simp,λg h=>by simpa using h⟩
  ·rw[if_neg hk]
   refine⟨?_,λg h=>?_⟩
   ·rw[kF]
    exact lu _ i1
   ·rw[kF]at h ⊢
    rcases k9.mp h with e |e
    ·exact k9.mpr (.inl e)
    ·exact lu _ (i2 g e)
theorem zcB_ (f:Str)(v:V):∀fs:List (Str×V),(putF f v fs).length<=fs.length+1
 |[]=>by simp[putF]
 |(k,x)::r=>by
  have ih:=zcB_ f v r;rw[show putF f v ((k,x)::r)=(if k=f then(k,v)::r else(k,x)::putF f v r)from rfl]
  by_cases hk:k=f
  ·rw[if_pos hk,kZ,kZ];lia
  ·rw[if_neg hk,kZ,kZ];lia
theorem RelO.some_of {v:V}{o:Option aU}(r:RelO (uC v) o):∃u,o=uC u/\RelV v u:=by
 cases o with
 |none=>exact(show False from r).elim
 |some u=>exact⟨u,rfl,r⟩
theorem zhX_ {v:V}{u:aU}(r:RelV v u):W.handedIn u=uE:=by
 cases v with
 |non=>cases(show u=mR from r);rfl
 |bl b=>cases(show u=oh b from r);rfl
 |int i=>obtain⟨t,e⟩:=(show∃t,u=pY i t from r);cases e;rfl
 |str x=>obtain⟨t,e⟩:=(show∃t,u=oT x t from r);cases e;rfl
 |byt b=>obtain⟨t,e⟩:=(show∃t,u=uf b t from r);cases e;rfl
 |flt b=>obtain⟨t,e⟩:=(show∃t,u=rR b t from r);cases e;rfl
 |ref a=>cases(show u=mw a from r);rfl
 |ty n=>cases(show u=qR n from r);rfl
section
variable {P:lF}{w:lW}{H:Hp}{h:Heap}{a C dx:kz}{fs:List (Str×V)}
theorem zgp_ (hok:HOk P w H h)(e:H a=uC (.ins C dx fs)):∃mA,ObjM h a dx C mA/\(∀f,RelO (fs.lookup f) (mA f))/\qb mA (fs.map (·.1))/\fs.length<=1000/\H dx=uC (.own a):=by
 obtain⟨d,z,ne,ob,mA,n,r,q⟩:=(show ObjOk P w H h a (.ins C dx fs)from hok a _ e)
 exact⟨mA,⟨ob,n,ne⟩,r,q,z,d⟩
end
structure Cls (K:Fgg)(C:kz):Prop where
 pg:qc K C sZ=uE
 hd:pP K C=uE
 po:qv K C=uE
 sa:ny K (.ref C) "__setattr__"=uC (uC (.builtin "object.__setattr__"))
theorem Cls.get {K:Fgg}{C:kz}(c:Cls K C)(f:Str):qc K C f=uE:=c.pg
def NoAttr (K:Fgg)(C:kz)(f:Str):Prop:=ny K (.ref C) f=uC uD
theorem NoAttr.taker {K:Fgg}{C:kz}{f:Str}(n:NoAttr K C f):sY K C f=uC uD:=by
 unfold sY;rw[show ny K (.ref C) f=uC uD from n]
 rfl
section
variable {X:Cx}{pins:Pnn}{σ:St}{H:Hp}{s:kn}{a C dx:kz}{fs:List (Str×V)}{f:Str}{v:V}{A:lY}{E:aU->kn->Prop}
theorem zgL_ {b:Bool}{Q:aU->kn->Prop}(I:Inv X pins σ H s)(e:H a=uC (.ins C dx fs))(c:Cls X.K C)(n:NoAttr X.K C f)(l:fs.lookup f=uC v)
  (h:∀u s',Inv X pins σ H s'->RelV v u->Q u s'):lC (model X.prog X.w) A (getAttr (.ref a) f b) Q E s:=by
 obtain⟨mA,O,r,_,_,_⟩:=zgp_ I.hok e;obtain⟨u,hu,ru⟩:=RelO.some_of (v:=v) (o:=mA f) (by rw[<- l];exact r f)
 exact zmY_ I.kIn O (c.get f) c.hd n hu (zhX_ ru) (h u _ (I.tok _) ru)
theorem zgy_ {y:V}{u:aU}{Q:Unit->kn->Prop}(I:Inv X pins σ H s)(e:H a=uC (.ins C dx fs))(c:Cls X.K C)(n:NoAttr X.K C f)(hl:fs.length<1000)(ry:RelV y u)
  (h:∀s',Inv X pins σ (upd H a (.ins C dx (putF f y fs))) s'->Q () s'):lC (model X.prog X.w) A (setAttr (.ref a) f u) Q E s:=by
 obtain⟨mA,O,r,wi,_,ho⟩:=zgp_ I.hok e;have hz:(fs.map (·.1)).length<=kR:=by rw[ko,sizeLine_eq];lia
 refine zlL_ I.kIn O c.sa c.po n.taker c.hd wi hz λh' O' sb=>h _ ?_
 have hd:∃o,h'.get? dx=uC o:=let⟨o,_,_,e',_⟩:=O'.ns;⟨o,e'⟩
 refine I.write (x:=a) (e:=dx) (by rw[e];exact mJ) (.inr ho) (λb q hb z=>(sb.2 b hb).trans z) hd ?_
 refine⟨by rw[zc_ O.ne];exact ho,?_,O.ne,O'.obj,_,O'.ns,λg=>?_,λg hg=>?_⟩
 ·have:=zcB_ f y fs;lia
 ·show RelO ((putF f y fs).lookup g) (if g=f then uC u else mA g)
  rw[zcs_];by_cases q:g=f
  ·rw[if_pos q,if_pos q];exact ry
  ·rw[if_neg q,if_neg q];exact r g
 ·by_cases q:g=f
  ·rw[q];exact(zcS_ f y fs).1
  ·refine(zcS_ f y fs).2 g (wi g λz=>hg ?_)
   show(if g=f then uC u else mA g)=uD
   rw[if_neg q];exact z
theorem Inv.made (I:Inv X pins σ H s):Inv X pins σ (upd (upd H s.heap.objs.size (.own (s.heap.objs.size+1))) (s.heap.objs.size+1) (.ins C s.heap.objs.size []))
  {s with heap:=(s.heap.push og).push (pb C s.heap.objs.size)}:=by
 have e1:(s.heap.push og).get? s.heap.objs.size=uC og:=ll s.heap rfl;have e2:((s.heap.push og).push (pb C s.heap.objs.size)).get? (s.heap.objs.size+1)=uC (pb C s.heap.objs.size):=by
  have:=ll (s.heap.push og) (o:=pb C s.heap.objs.size) rfl;rwa[qw]at this
 have e3:(s.heap.push og).Ns s.heap.objs.size (λ_=>uD):=⟨og,#[],_,e1,rfl,(λe he=>absurd he (by simp)),λ_=>rfl⟩
 have I1:=I.laid (a:=s.heap.objs.size) (o:=.own (s.heap.objs.size+1)) (h':=s.heap.push og) (t':=s.toks) (λb u q=>kq _ q) (kx _) ⟨_,e1⟩
 refine I1.laid (a:=s.heap.objs.size+1) (o:=.ins C s.heap.objs.size []) (t':=s.toks) (λb u q=>kq _ q) (qd (qw _ _)) ?_
 have ne:s.heap.objs.size≠s.heap.objs.size+1:=lB (pd _);refine⟨by rw[zc_ ne,ze_],l5 _,ne,e2,λ_=>uD,(Heap.Ns1.of_empty e3).at λo q=>kq _ q,λ_=>mJ,λy hy=>absurd rfl hy⟩
theorem zmQ_ {prog:lF}{w:lW}{env:Env}{e:k8}{f:Str}{pos:Pos}{s:kn}{Q:aU->kn->Prop}(hb:attributeBase e f env (eval e env)=eval e env)
  (h:lC (model prog w) A (eval e env) (λo ab=>lC (model prog w) A (getAttr o f uE) Q E ab) E s):lC (model prog w) A (eval (.Attribute e f pos) env) Q E s:=
 Attribute_any_ h (by rw[arm_eval_Attribute,hb])
end
section
variable {X:Cx}{pins:Pnn}{σ:St}{H:Hp}{s:kn}{A:lY}{E Q:aU->kn->Prop}{c:aU}{b:Bool}
inductive TyOf (K:Fgg) (H:Hp):V->aU->Prop where
 |non:TyOf K H .non (.type "NoneType")
 |bl (x:Bool):TyOf K H (.bl x) (.type "bool")
 |int (i:Int):TyOf K H (.int i) (.type "int")
 |str (x:Str):TyOf K H (.str x) (.type "str")
 |flt (x:UInt64):TyOf K H (.flt x) (.type "float")
 |lst {a:kz}{xs:List V}(e:H a=uC (.lst xs)):TyOf K H (.ref a) (.type "list")
 |frz {a:kz}{o:sX}{xs:List V}(e:H a=uC (.frz o (.lst xs))):TyOf K H (.ref a) (.type "list")
 |tup {a:kz}{xs:List V}(e:H a=uC (.tup xs)):TyOf K H (.ref a) (.type "tuple")
 |dK {a:kz}{kvs:List (Key×V)}(e:H a=uC (.dK kvs)):TyOf K H (.ref a) (.type "dict")
 |dT {a:kz}{kvs:List (List Key×V)}(e:H a=uC (.dT kvs)):TyOf K H (.ref a) (.type "dict")
 | ins {a C dx:kz}{fs:List (Str×V)}(e:H a=uC (.ins C dx fs)) (cl:Cls K C) (ha:ny K (.ref C) "__class__"=uC (uC (.builtin "object.__class__")))
   (hn:rT K (.builtin "object.__class__") "__get__"=uC (uC (.builtin "getset_descriptor.__get__"))) (iq:W.takesIn K (.builtin "object.__class__")=uC uE)
   (hm:W.mroIn K C (.type "object")=uC uE):TyOf K H (.ref a) (.ref C)
theorem ziu_ {x:V}{u t:aU}(I:Inv X pins σ H s)(rx:RelV x u)(ty:TyOf X.K H x t)(e:uh X.K t c=uC b)(h:∀tk,Q (.bool b) {s with toks:=tk}):
  lC (model X.prog X.w) A (call (.builtin "isinstance") [u,c]) Q E s:=by
 cases ty with
 |non=>cases(show u=mR from rx);exact ou W.kitx_none I.kIn mJ e (λz=>nomatch z) h
 |bl y=>cases(show u=oh y from rx);exact ou W.kitx_bool I.kIn mJ e (λz=>nomatch z) h
 |int i=>obtain⟨t,q⟩:=(show∃t,u=pY i t from rx);cases q;exact ou W.kitx_int I.kIn mJ e (λz=>nomatch z) h
 |str y=>obtain⟨t,q⟩:=(show∃t,u=oT y t from rx);cases q;exact ou W.kitx_str I.kIn mJ e (λz=>nomatch z) h
 |flt y=>obtain⟨t,q⟩:=(show∃t,u=rR y t from rx);cases q;exact ou W.kitx_float I.kIn mJ e (λz=>nomatch z) h
 | @lst a xs ea=>
  cases(show u=mw a from rx)
  obtain⟨_,_,n,_,h1⟩:=(show ObjOk X.prog X.w H s.heap a (.lst xs)from I.hok a _ ea)
  exact ou W.kitx_list I.kIn ⟨_,h1,rfl⟩ e (λz=>nomatch z) h
 | @frz a ob xs ea=>
  cases(show u=mw a from rx)
  obtain⟨_,_,_,n,_,h1⟩:=(show ObjOk X.prog X.w H s.heap a (.frz ob (.lst xs))from I.hok a _ ea)
  exact ou W.kitx_list I.kIn ⟨_,h1,rfl⟩ e (λz=>nomatch z) h
 | @tup a xs ea=>
  cases(show u=mw a from rx)
  obtain⟨_,_,_,p⟩:=(show ObjOk X.prog X.w H s.heap a (.tup xs)from I.hok a _ ea)
  obtain⟨o,h1,h2,_⟩:=p;exact ou W.kitx_tuple I.kIn ⟨o,h1,h2⟩ e (λz=>nomatch z) h
 | @dK a kvs ea=>
  cases(show u=mw a from rx)
  obtain⟨_,_,vs,_,p⟩:=(show ObjOk X.prog X.w H s.heap a (.dK kvs)from I.hok a _ ea)
  obtain⟨o,es,ep,h1,h2,_⟩:=p;exact ou W.kitx_dict I.kIn ⟨o,h1,h2.1⟩ e (λz=>nomatch z) h
 | @dT a kvs ea=>
  cases(show u=mw a from rx)
  obtain⟨_,_,xs,_,o,es,ep,h1,h2,_⟩:=(show ObjOk X.prog X.w H s.heap a (.dT kvs)from I.hok a _ ea)
  exact ou W.kitx_dict I.kIn ⟨o,h1,h2.1⟩ e (λz=>nomatch z) h
 | @ins a C dx fs ea cl ha hn iq hm=>
  cases(show u=mw a from rx)
  obtain⟨mA,O,_⟩:=zgp_ I.hok ea;obtain⟨od,J,_⟩:=O.look;exact ou (W.kitx_own (cl.get _) cl.hd ha hn iq hm) I.kIn J e (λz=>nomatch z) h
end
structure Room (k:Nat)(A:lY):Prop where
 hd:A.handled=uD
 dp:A.depth+3*k+5<recursionLimit
 un:A.units+16*k+200<cLine
theorem Room.mono {j k:Nat}{A:lY}(r:Room k A)(h:j<=k):Room j A:=⟨r.hd,by have:=r.dp;lia,by have:=r.un;lia⟩
theorem Room.deeper {k:Nat}{A:lY}(r:Room (k+1) A)(env:Env):Room k (A.deeper env):=
 ⟨r.hd,by have:=r.dp;show A.depth+1+3*k+5<_;lia,by have:=r.un;show A.units+3+16*k+200<_;lia⟩
theorem zgD_ {A:lY}{C:kz}{us:List aU}{kw:List (Str×aU)}:(A.under (.builtin "type.__call__" ⟨.ref C::us,kw⟩)).depth=A.depth+1:=by
 first |rfl |simp[Around.under,Code.weight,Code.isCreation,Code.isGuard,Code.isCaller,Code.frames,Code.isFrame,guardIds]
theorem zgi_ {A:lY}{C:kz}{us:List aU}{kw:List (Str×aU)}:(A.under (.builtin "type.__call__" ⟨.ref C::us,kw⟩)).units=A.units+1:=by
 first |rfl |simp[Around.under,Code.cUnits,Code.frames,Code.isFrame]
theorem Room.make {k:Nat}{A:lY}(r:Room (k+1) A)(C:kz)(us:List aU)(kw:List (Str×aU)):Room k (A.under (.builtin "type.__call__" ⟨.ref C::us,kw⟩)):=
 ⟨r.hd,by have:=r.dp;rw[zgD_];lia,by have:=r.un;rw[zgi_];lia⟩
theorem Room.depth {k:Nat}{A:lY}(r:Room k A):A.depth<recursionLimit:=by have:=r.dp;lia
def tNil:TA:=λ_ H Q=>Q [] H
def tCons (ta:TE)(tr:TA):TA:=λσ H Q=>ta σ H λx H1=>tr σ H1 λxs H2=>Q (x::xs) H2
section
variable {X:Cx}{e:k8}{es:List k8}{te:TE}{t:TA}{pos:Pos}
theorem zfA_:PA X [] tNil:=λ_ _ _ _ H Q I h=>Calls.spliced_nil ⟨[],H,I,.nil,h⟩
theorem zbH_ (ha:PE X e te)(hr:PA X es t)(hs:lJ (e::es) X.env=(uF,eval e X.env)::lJ es X.env:=by rfl):PA X (e::es) (tCons te t):=by
 intro pos pins s σ H Q I h;rw[hs];show lC _ _ (spliced ((uF,eval e X.env)::nX pos (lJ es X.env))) _ _ s
 refine Calls.spliced_cons (thn (ha pins s σ H _ I h) λu s1 af=>?_)
 obtain⟨x,H1,I1,r1,q1⟩:=af;exact thn (hr pos pins s1 σ H1 _ I1 q1) λus s2 ⟨xs,H2,I2,r2,q2⟩=>⟨x::xs,H2,I2,.cons r1 r2,q2⟩
def tTup (t:TA):TE:=λσ H Q=>t σ H λxs H1=>xs.length<=kR/\∀p,H1 p=uD->Q (.ref p) (upd H1 p (.tup xs))
def tLst (t:TA):TE:=λσ H Q=>t σ H λxs H1=>xs.length<=kR/\∀p,H1 p=uD->Q (.ref p) (upd H1 p (.lst xs))
theorem zqz_ {x1}(h:PA X es t):PE X (.Tuple es x1 pos) (tTup t):=by
 intro pins s σ H Q I hq;refine wpAny_Tuple_spliced (thn (h pos pins s σ H _ I hq) λus s1 ⟨xs,H1,I1,r,z,q⟩=>⟨by rw[<- r.length];exact z,?_⟩)
 have hf:H1 s1.heap.objs.size=uD:=I1.hok.fresh (kx _);refine⟨.ref s1.heap.objs.size,upd H1 s1.heap.objs.size (.tup xs),I1.laid (t':=s1.toks) (λb u e=>kq _ e) (kx _) ?_,rfl,q _ hf⟩
 exact⟨z,us,r,⟨_,ll _ rfl,rfl,_,rfl⟩⟩
theorem zoQ_ (h:PA X es t):PE X (.List es pos) (tLst t):=by
 intro pins s σ H Q I hq;refine wpAny_List_spliced (thn (h pos pins s σ H _ I hq) λus s1 ⟨xs,H1,I1,r,z,q⟩=>⟨by rw[<- r.length];exact z,?_⟩)
 have hf:H1 s1.heap.objs.size=uD:=I1.hok.fresh (kx _);refine⟨.ref s1.heap.objs.size,upd H1 s1.heap.objs.size (.lst xs),I1.laid (t':=s1.toks) (λb u e=>kq _ e) (kx _) ?_,rfl,q _ hf⟩
 exact⟨z,us,0,r,ll _ rfl⟩
end
abbrev Sp:=List V->Hp->VK->XK->Prop
abbrev CXT:=List Env->Hp->kn->XK->aU->kn->Prop
structure Env0 (P:lF)(w:lW)(K:Fgg)(mg:Str->Option aU)(base:Heap)(A:lY)(outer:List Env)(s:kn)(H:Hp):Prop where
 frames:A.frames=uC outer
 mod:Mod K mg base
 bs:∀b o,base.get? b=uC o->s.heap.get? b=uC o/\H b=uD
 bsz:base.objs.size<=s.heap.objs.size
 funs:s.heap.FunFrames base outer
 frf:∀b∈frs outer,H b=uD
 hok:HOk P w H s.heap
 bare:AllBare s.gens
 tb:Tb K H
def CE (outer:List Env)(P:lF)(w:lW)(H:Hp)(s:kn)(Q:VK)(u:aU)(s':kn):Prop:=
 ∃v H',s'.os=s.os/\AllBare s'.gens/\Un (frs outer) [] H H' s.heap s'.heap/\HOk P w H' s'.heap/\RelV v u/\Q v H'
def CR (CX:CXT)(outer:List Env)(P:lF)(w:lW)(H:Hp)(s:kn)(Q:VK)(E:XK)(r:Result)(s':kn):Prop:=
 match r with
 |.ok (.ret u)=>CE outer P w H s Q u s'
 |.ok _=>False
 |.error e=>CX outer H s E e s'
structure FnOk (P:lF)(w:lW)(K:Fgg)(mg:Str->Option aU)(base:Heap)(CX:CXT)(k:Nat)(f:kz)(fd:mz)(ps:List Str)(sp:Sp):Prop where
 len:∀vs H Q E,sp vs H Q E->vs.length=ps.length
 run:∀(A:lY) (outer:List Env) (s:kn) (H:Hp) (args:Args) (us:List aU) (vs:List V) (Q:VK) (E:XK),Room k A->Env0 P w K mg base A outer s H->BindsTo s fd args (ps.zip us)->Vals vs us->sp vs H Q E ->
  codeAny (model P w) A (.call (.ref f) args) (CR CX outer P w H s Q E) s
theorem Env0.make {P:lF}{w:lW}{K:Fgg}{mg:Str->Option aU}{base:Heap}{A:lY}{outer:List Env}{s:kn}{H:Hp}(e:Env0 P w K mg base A outer s H)(C:kz)(us:List aU)(kw:List (Str×aU)):
  Env0 P w K mg base (A.under (.builtin "type.__call__" ⟨.ref C::us,kw⟩)) outer s H:=⟨by first |exact e.frames |(simpa [Around.under,Code.envs,Code.isFrame,pushEnvs]using e.frames),e.mod,e.bs,e.bsz,e.funs,e.frf,e.hok,e.bare,e.tb⟩
section
variable {X:Cx}{pins:Pnn}{σ:St}{H:Hp}{s s':kn}
theorem Inv.env0 (I:Inv X pins σ H s):Env0 X.prog X.w X.K X.mg X.base X.A X.stack s H:=
 ⟨I.ok.frames,I.ok.mod,I.bs,mG I.ok.bsz I.sz,I.stack,I.stkFree,I.hok,I.bare,I.tb⟩
theorem Inv.after {Q:VK}{u:aU}(I:Inv X pins σ H s)(h:CE X.stack X.prog X.w H s Q u s'):EP X pins σ Q u s':=by
 obtain⟨v,H',os,bare,un,hok,r,q⟩:=h;obtain⟨hh,g,d,t,aM⟩:=s';obtain rfl:aM=s.os:=os;exact⟨v,H',I.call (h':=hh) (g':=g) (d':=d) (t':=t) (ch:=[]) un hok bare (λb z=>absurd z (by simp)),r,q⟩
end
def tCall (sp:Sp)(au:List V)(E:XK)(t:TA):TE:=λσ H Q=>t σ H λvs H1=>sp (vs++au) H1 Q E
def tMake (C:kz)(sp:Sp)(au:List V)(E:XK)(t:TA):TE:=λσ H Q=>t σ H λvs H1=>∀x dx,H1 x=uD->H1 dx=uD->dx≠x ->
 sp (.ref x::(vs++au)) (upd (upd H1 dx (.own x)) x (.ins C dx [])) (λv H2=>v=.non/\Q (.ref x) H2) E
def Binds (K:Fgg)(fd:mz)(ps:List Str)(ds:List aU):Prop:=
 ∀(s:kn) (us:List aU),K.In s.heap->(us++ds).length=ps.length->BindsTo s fd ⟨us,[]⟩ (ps.zip (us++ds))
theorem Binds.all {K:Fgg}{fd:mz}{ps:List Str}(h:∀us:List aU,us.length=ps.length->bindArgs fd ⟨us,[]⟩=pure (ps.zip us)):Binds K fd ps []:=λs us _ hl=>by
 rw[nL]at hl ⊢;exact .of_eq (h us hl)
def Passes (CX:CXT)(X:Cx)(E:XK):Prop:=∀(pins:Pnn) (σ:St) (H:Hp) (s:kn) (e:aU) (s':kn),Inv X pins σ H s->CX X.stack H s E e s'->X.xe e s'
section
variable {X:Cx}{CX:CXT}{k:Nat}{f C:kz}{fd:mz}{ps:List Str}{sp:Sp}{au:List V}{ds:List aU}{E:XK}{x:Str}{p pos:Pos}{e:k8}{es:List k8}{t:TA}
theorem znT_ {pins:Pnn}{σ:St}{H:Hp}{s:kn}{Q:VK}{us:List aU}{vs:List V}(F:FnOk X.prog X.w X.K X.mg X.base CX k f fd ps sp)(hr:Room k X.A)(hb:Binds X.K fd ps ds)(hd:Vals au ds)(hx:Passes CX X E)
  (I:Inv X pins σ H s) (r:Vals vs us) (h:sp (vs++au) H Q E):lC (model X.prog X.w) X.A (call (.ref f) us) (EP X pins σ Q) X.xe s:=by
 have r2:Vals (vs++au) (us++ds):=r.append hd;have hl:(us++ds).length=ps.length:=by rw[<- r2.length];exact F.len _ _ _ _ h
 refine wpAny_call (codeAny_mono (F.run X.A X.stack s H ⟨us,[]⟩ (us++ds) (vs++au) Q E hr I.env0 (hb s us I.kIn hl) r2 h) λr s' hq=>?_)
 cases r with
 |error e=>exact hx pins σ H s e s' I hq
 |ok fl=>
  cases fl with
  |ret u=>exact I.after hq
  |next=>exact lL hq
  |brk=>exact lL hq
  |cont=>exact lL hq
theorem zlI_ (F:FnOk X.prog X.w X.K X.mg X.base CX k f fd ps sp)(hr:Room k X.A)(hg:Gl X x)(hm:X.mg x=uC (.ref f))(hk:oe X.K (.ref f)=uE)(hb:Binds X.K fd ps ds)(hd:Vals au ds)(hx:Passes CX X E)
  (ha:PA X (e::es) t) (a7:(x==("__debug__":Str))=uF:=by decide) (he:lJ (e::es) X.env=(uF,eval e X.env)::lJ es X.env:=by rfl) (aT:(nX pos (lJ es X.env)).any (·.1)=uF:=by rfl):
  PE X (.Call (.Name x p) (e::es) [] pos) (tCall sp au E t):=by
 intro pins s σ H Q I h;refine nz (zeK_ I hg hm ?_ a7);refine tB (h₀:=X.base) I.ok.mod.kin hk (thn (ha pos pins s σ H _ I h) λus s1 ⟨vs,H1,I1,r,q⟩=>⟨I1.kIn,?_⟩) he aT
 exact znT_ F hr hb hd hx I1 r q
theorem zkR_ (F:FnOk X.prog X.w X.K X.mg X.base CX k f fd ps sp)(hr:Room k X.A)(hg:Gl X x)(hm:X.mg x=uC (.ref f))(hk:oe X.K (.ref f)=uE)(hb:Binds X.K fd ps ds)(hd:Vals au ds)(hx:Passes CX X E)
  (a7:(x==("__debug__":Str))=uF:=by decide):PE X (.Call (.Name x p) [] [] pos) (tCall sp au E tNil):=by
 intro pins s σ H Q I h;refine nz (zeK_ I hg hm ?_ a7);exact W.callWith_K0 I.kIn hk (znT_ (us:=[]) F hr hb hd hx I .nil h)
structure Mk (K:Fgg)(C f:kz):Prop where
 makes:rE K C=uE
 init:ny K (.ref C) "__init__"=uC (uC (.ref f))
 fn:tD K (.ref f)=uE
 kp:oe K (.ref C)=uE
theorem zj1_ {pins:Pnn}{σ:St}{H:Hp}{s:kn}{Q:VK}{us:List aU}{vs:List V}(M:Mk X.K C f)(F:FnOk X.prog X.w X.K X.mg X.base CX k f fd ps sp)(hr:Room (k+1) X.A)(hb:Binds X.K fd ps ds)(hd:Vals au ds)
  (hx:Passes CX X E) (I:Inv X pins σ H s) (r:Vals vs us)
  (h:∀x dx,H x=uD->H dx=uD->dx≠x->sp (.ref x::(vs++au)) (upd (upd H dx (.own x)) x (.ins C dx [])) (λv H2=>v=.non/\Q (.ref x) H2) E):
  lC (model X.prog X.w) X.A (call (.ref C) us) (EP X pins σ Q) X.xe s:=by
 have hq:=h (s.heap.objs.size+1) s.heap.objs.size (I.hok.fresh (nR _)) (I.hok.fresh (kx _)) (lB (pd _));have I2:=Inv.made (C:=C) I;have r2:Vals (V.ref (s.heap.objs.size+1)::(vs++au)) (mw (s.heap.objs.size+1)::(us++ds)):=.cons rfl (r.append hd);have hl:(mw (s.heap.objs.size+1)::us++ds).length=ps.length:=by
  have e:=r2.length;rw[F.len _ _ _ _ hq]at e;exact e.symm
 refine wpAny_call (zjO_ (f:=f) I.kIn M.makes M.init (beq_iff_eq.mp M.fn) (codeAny_mono (F.run _ X.stack _ _ ⟨mw (s.heap.objs.size+1)::us,[]⟩ (mw (s.heap.objs.size+1)::(us++ds)) _ _ E (hr.make C us [])
  (I2.env0.make C us []) (hb _ (mw (s.heap.objs.size+1)::us) I2.kIn hl) r2 hq) λr s' d5=>?_))
 cases r with
 |error e=>exact hx pins σ _ _ e s' I2 d5
 |ok fl=>
  cases fl with
  |ret u=>
   obtain⟨v,H',I3,rv,ev,q3⟩:=I2.after d5;subst ev;exact⟨rv,⟨V.ref (s.heap.objs.size+1),H',I3,rfl,q3⟩⟩
  |next=>exact lL d5
  |brk=>exact lL d5
  |cont=>exact lL d5
theorem zmf_ (M:Mk X.K C f)(F:FnOk X.prog X.w X.K X.mg X.base CX k f fd ps sp)(hr:Room (k+1) X.A)(hg:Gl X x)(hm:X.mg x=uC (.ref C))(hb:Binds X.K fd ps ds)(hd:Vals au ds)(hx:Passes CX X E)
  (ha:PA X (e::es) t) (a7:(x==("__debug__":Str))=uF:=by decide) (he:lJ (e::es) X.env=(uF,eval e X.env)::lJ es X.env:=by rfl) (aT:(nX pos (lJ es X.env)).any (·.1)=uF:=by rfl):
  PE X (.Call (.Name x p) (e::es) [] pos) (tMake C sp au E t):=by
 intro pins s σ H Q I h;refine nz (zeK_ I hg hm ?_ a7);refine tB (h₀:=X.base) I.ok.mod.kin M.kp (thn (ha pos pins s σ H _ I h) λus s1 ⟨vs,H1,I1,r,q⟩=>⟨I1.kIn,?_⟩) he aT
 exact zj1_ M F hr hb hd hx I1 r q
end
structure FnScope (N P:List Str)(sc:Scope):Prop where
 kind:sc.kind=.function
 co:sc.isCoroutine=uF
 gen:sc.isGenerator=uF
 nd:N.Nodup
 pre:N.take P.length=P
 par:∀x∈P,sc.names.lookup x=uC .local\/sc.names.lookup x=uC .cell
 nofree:∀y∈sc.names,y.2≠.free
theorem zfb_ {kindOf:Str->Option nA}{x:Str}:∀{binds:List (Str×aU)}{m:Str->Option aU},(∀v,(x,v)∉binds)->bindL kindOf binds m x=m x
 |[],_,_=>rfl
 |(n,v)::r,m,h=>by
  unfold bindL;rw[zfb_ λw hw=>h w (lu _ hw)]
  split
  ·have:x≠n:=by rintro rfl;exact h v lA
   simp[this]
  ·rfl
theorem zfa_ {kindOf:Str->Option nA}{x:Str}:∀{binds:List (Str×aU)}{m:Str->Option aU},(∀v,(x,v)∉binds)->bindC kindOf binds m x=m x
 |[],_,_=>rfl
 |(n,v)::r,m,h=>by
  unfold bindC;rw[zfa_ λw hw=>h w (lu _ hw)]
  split
  ·rfl
  ·have:x≠n:=by rintro rfl;exact h v lA
   simp[this]
theorem ze6_ {kindOf:Str->Option nA}{x:Str}{v:aU}:∀{P:List Str}{vs:List aU}{i:Nat}{m:Str->Option aU},P.Nodup->P[i]?=uC x->vs[i]?=uC v->kindOf x=uC .local ->
  bindL kindOf (P.zip vs) m x=uC v
 |[],_,_,_,_,h,_,_=>by simp at h
 |_::_,[],_,_,_,_,h,_=>by simp at h
 |p::P,w::vs,0,m,nd,h1,h2,hk=>by
  simp at h1 h2;subst h1;subst h2;show bindL kindOf ((p,w)::P.zip vs) m p=_
  unfold bindL;rw[zfb_ λv hv=>(ot.mp nd).1 (nM hv).1,if_pos hk]
  simp
 |p::P,w::vs,i+1,m,nd,h1,h2,hk=>by
  show bindL kindOf ((p,w)::P.zip vs) m x=_
  unfold bindL;exact ze6_ (i:=i) (ot.mp nd).2 (by simpa using h1) (by simpa using h2) hk
theorem zeF_ {kindOf:Str->Option nA}{x:Str}{v:aU}:∀{P:List Str}{vs:List aU}{i:Nat}{m:Str->Option aU},P.Nodup->P[i]?=uC x->vs[i]?=uC v->kindOf x≠uC .local ->
  bindC kindOf (P.zip vs) m x=uC v
 |[],_,_,_,_,h,_,_=>by simp at h
 |_::_,[],_,_,_,_,h,_=>by simp at h
 |p::P,w::vs,0,m,nd,h1,h2,hk=>by
  simp at h1 h2;subst h1;subst h2;show bindC kindOf ((p,w)::P.zip vs) m p=_
  unfold bindC;rw[zfa_ λv hv=>(ot.mp nd).1 (nM hv).1,if_neg hk]
  simp
 |p::P,w::vs,i+1,m,nd,h1,h2,hk=>by
  show bindC kindOf ((p,w)::P.zip vs) m x=_
  unfold bindC;exact zeF_ (i:=i) (ot.mp nd).2 (by simpa using h1) (by simpa using h2) hk
def start (N:List Str)(vs:List V):St:=vs.map uC++kY (N.length-vs.length) uD
def cxOf (CX:CXT)(P:lF)(w:lW)(K:Fgg)(mg:Str->Option aU)(base:Heap)(N:List Str)(qual:Str)(scope:Scope)(f:kz)(cd:aU)(A:lY)(outer:List Env)(s:kn)(H:Hp)(E:XK):Cx where
 prog:=P
 w:=w
 K:=K
 mg:=mg
 base:=base
 A:=A.deeper (envOfC qual scope s.heap.objs.size f cd)
 N:=N
 s₀:=s
 H₀:=H
 env:=envOfC qual scope s.heap.objs.size f cd
 outer:=outer
 stack:=envOfC qual scope s.heap.objs.size f cd::outer
 ex:=[]
 calm:=uE
 fn:=λ_=>uE
 pn:=[]
 xe:=λe s'=>lC (model P w) (A.deeper (envOfC qual scope s.heap.objs.size f cd)) (leaving (envOfC qual scope s.heap.objs.size f cd) e) (λ_ cp=>CX outer H s E e cp) (λe' cp=>CX outer H s E e' cp) s'
theorem zek_ {sc:Scope}{n:Nat}{x:Str}(h:sc.names.lookup x=uC .cell):∃c,(cellsFrom n sc.names []).lookup x=uC c:=by
 have q:=rF sc.names n [] (.inl h);exact pV.mp q
theorem zhG_ {CX:CXT}{P:lF}{w:lW}{K:Fgg}{mg:Str->Option aU}{base:Heap}{N ps:List Str}{qual:Str}{scope:Scope}{f:kz}{cd:aU}{A:lY}{outer:List Env}{s s1:kn}{H:Hp}{E:XK}{us:List aU}{vs:List V}
  (S:FnScope N ps scope) (hd:A.handled=uD) (e0:Env0 P w K mg base A outer s H) (hl:vs.length=ps.length) (r:Vals vs us)
  (x:InCallC s s.heap.objs.size (bindL (envOfC qual scope s.heap.objs.size f cd).kindOf (ps.zip us) λ_=>uD) (cellsFrom (s.heap.objs.size+1) scope.names []) (bindC (envOfC qual scope s.heap.objs.size f cd).kindOf (ps.zip us) λ_=>uD) s1):
  Inv (cxOf CX P w K mg base N qual scope f cd A outer s H E) [] (start N vs) H s1:=by
 have aT:ps.length<=N.length:=by have:=congrArg qx S.pre;rw[mq]at this;lia
 obtain⟨h1,tk,rfl,hk⟩:=x.done;have cq:∀b:kz,b∉(cxOf CX P w K mg base N qual scope f cd A outer s H E).ex:=λb z=>absurd (show b∈([]:List kz)from z) (by simp)
 refine⟨⟨e0.mod,S.kind,rfl,rfl,kx _,λy z c h1 h2=>?_,λy hy=>?_,λy c _ h=>?_,λ_=>hd,Around.frames_deeper e0.frames,.inr ⟨rfl,rfl⟩,λb z=>absurd z (cq b),e0.bs,e0.bsz,λb _ _=>cq b,λb z=>absurd z (cq b),e0.funs,e0.frf,e0.tb⟩,
  rfl,e0.bare,Un.kept hk,⟨_,x.toInCall.ns,λi y v h1 h2 h3=>?_⟩,λy c h=>⟨_,x.cell y c h⟩,e0.hok.fresh (kx _),λy c h=>?_,λp hp=>absurd (show p∈([]:Pnn)from hp) (by simp),e0.hok.kept hk,?_⟩
 ·exact name_of_addr x.apart (l6 h1) (l6 h2)
 ·have hy:scope.names.lookup y=uC .cell\/scope.names.lookup y=uC .free:=hy
  rcases hy with hy |hy
  ·exact zek_ hy
  ·exact absurd rfl (S.nofree _ (l6 hy))
 ·exact nQ (x.above y c (l6 h))
 ·have hi:i<vs.length:=by
   unfold start at h2;by_cases hi:i<vs.length
   ·exact hi
   ·rw[mr (by simpa using hi)]at h2
    rw[List.getElem?_replicate]at h2;split at h2<;>cases h2
  have ha:vs[i]?=uC v:=by
   unfold start at h2;rw[mx (by simpa using hi),kH]at h2
   cases e:vs[i]? with
   |none=>rw[e]at h2;cases h2
   |some a=>rw[e]at h2;cases h2;rfl
  obtain⟨u,hu,rv⟩:=r.get ha;have hp:ps[i]?=uC y:=by
   rw[<- S.pre,List.getElem?_take_of_lt (by lia)];exact h1
  have ia:ps.Nodup:=by rw[<- S.pre];exact S.nd.sublist (List.take_sublist _ _)
  refine⟨u,rv,?_⟩;rcases S.par y (mN hp)with k |k
  ·exact .inl ⟨k,ze6_ ia hp hu k⟩
  ·obtain⟨c,e⟩:=zek_ (n:=s.heap.objs.size+1) k
   refine .inr ⟨.inl k,c,e,?_⟩;have q:=x.cell y c e;rw[zeF_ ia hp hu (by show scope.names.lookup y≠_;rw[k];decide)]at q
   exact q
 ·exact e0.hok.fresh (nQ (x.above y c (l6 h)))
 ·unfold start
  show _=N.length
  rw[kX,ko,qp];lia
theorem zpZ_ {CX:CXT}{P:lF}{w:lW}{K:Fgg}{mg:Str->Option aU}{base:Heap}{k:Nat}{f:kz}{name qual:Str}{params:Arguments}{body:List lV}{scope:Scope}{dV kV doc pm ae ct oc:aU}{an od:Option kz}
  {aq:Array (Option aU)}{N ps:List Str}{sp:Sp}(lk:K.lookup f=uC ⟨oc,od,.func (W.fnOf name qual params body scope dV kV doc pm an ae ct),aq⟩) (av:pq K ae qual=uE) (S:FnScope N ps scope)
  (len:∀vs H Q E,sp vs H Q E->vs.length=ps.length)
  (eN:∀(A:lY) (outer:List Env) (s:kn) (H:Hp) (vs:List V) (Q:VK) (E:XK),Room k (A.deeper (envOfC qual scope s.heap.objs.size f ae))->sp vs H Q E ->
   ∃t,PSs (cxOf CX P w K mg base N qual scope f ae A outer s H E) body t/\t {nx:=λ_ H'=>Q .non H',rt:=Q} (start N vs) H):
  FnOk P w K mg base CX (k+1) f (W.fnOf name qual params body scope dV kV doc pm an ae ct) ps sp:=by
 refine⟨len,λA outer s H args us vs Q E hr e0 hb r dB=>?_⟩
 have hl:=len _ _ _ _ dB;have KX:K.In s.heap:=e0.mod.kin.keeps λb o e=>(e0.bs b o e).1
 have lim:s.heap.NoLimit:=e0.mod.nolimit.keeps λb o e=>(e0.bs b o e).1
 have d_:∀y∈ps.zip us,scope.names.lookup y.1=uC .local\/(scope.names.lookup y.1=uC .cell/\((cellsFrom (s.heap.objs.size+1) scope.names []).lookup y.1).isSome=uE):=λ⟨n,v⟩ hy=>by
  rcases S.par n (nM hy).1 with q |q
  ·exact .inl q
  ·exact .inr ⟨q,rF _ _ _ (.inl q)⟩
 refine codeAny_call_function hr.depth (KX _ _ lk) rfl S.co S.gen rfl (W.codeRec_of KX av) (hb _ _ _ _ ?_);refine wpAny_newFunctionEnv_cells S.kind d_ λenv he s1 x=>?_
 subst he;refine⟨lim.keeps x.toInCall.keep,codeAny_func ?_⟩;obtain⟨t,ht,hq⟩:=eN A outer s H vs Q E (hr.deeper _) dB;have I:Inv (cxOf CX P w K mg base N qual scope f ae A outer s H E) [] (start N vs) H s1:=zhG_ S hr.hd e0 hl r x;refine mF (ht [] s1 (start N vs) H _ I hq) (λfl s' hs=>?_) λe s' hs=>hs
 have fin:∀{ai:St}{H':Hp}{v:V}{u:aU},Inv (cxOf CX P w K mg base N qual scope f ae A outer s H E) [] ai H' s'->RelV v u->Q v H'->CE outer P w H s Q u s':=
  λ{ai H' v u} J rv q=>⟨v,H',J.os,J.bare,J.base,J.hok,rv,q⟩
 cases fl with
 |ret u=>
  obtain⟨v,ai,H',J,rv,q⟩:=hs;exact fin J rv q
 |next=>
  obtain⟨ai,H',J,q⟩:=hs;exact fin (v:=V.non) (u:=mR) J rfl q
 |brk=>
  obtain⟨_,_,_,q⟩:=hs;exact lL q
 |cont=>
  obtain⟨_,_,_,q⟩:=hs;exact lL q
section
variable {X:Cx}{x:Str}{p pos:Pos}{e:k8}{es:List k8}{t:TA}{id T:String}{r:List V->Hp->VK->Prop}
def tCB (r:List V->Hp->VK->Prop)(t:TA):TE:=λσ H Q=>t σ H λvs H1=>r vs H1 Q
theorem zkw_ (hc:CallR X (.builtin id) r)(hg:Gl X x)(hm:X.mg x=uD)(hv:nr x=uC (.builtin id))(ha:PA X (e::es) t)(hn:x ≠ "__name__":=by decide)(a7:(x==("__debug__":Str))=uF:=by decide)
  (he:lJ (e::es) X.env=(uF,eval e X.env)::lJ es X.env:=by rfl) (aT:(nX pos (lJ es X.env)).any (·.1)=uF:=by rfl):PE X (.Call (.Name x p) (e::es) [] pos) (tCB r t):=by
 intro pins s σ H Q I h;refine nz (zdB_ I hg hm hv ?_ hn a7);exact rG (thn (ha pos pins s σ H _ I h) λus s1 ⟨vs,H1,I1,r1,q1⟩=>hc pins s1 σ H1 vs us Q I1 r1 q1) he aT
theorem zid_ (hc:CallR X (.type T) r)(hg:Gl X x)(hm:X.mg x=uD)(hv:nr x=uC (.type T))(ha:PA X (e::es) t)(hn:x ≠ "__name__":=by decide)(a7:(x==("__debug__":Str))=uF:=by decide)
  (he:lJ (e::es) X.env=(uF,eval e X.env)::lJ es X.env:=by rfl) (aT:(nX pos (lJ es X.env)).any (·.1)=uF:=by rfl):PE X (.Call (.Name x p) (e::es) [] pos) (tCB r t):=by
 intro pins s σ H Q I h;refine nz (zdB_ I hg hm hv ?_ hn a7);exact mO (thn (ha pos pins s σ H _ I h) λus s1 ⟨vs,H1,I1,r1,q1⟩=>hc pins s1 σ H1 vs us Q I1 r1 q1) he aT
end
end L2
namespace HT
open PySem PyProof.Rows
noncomputable def lexLt:List Int->List Int->Bool
 |[],[]=>uF
 |[],_::_=>uE
 |_::_,[]=>uF
 |x::xs,y::ys=>if x=y then lexLt xs ys else decide (x<y)
theorem lexLt_cons (x y:Int)(xs ys:List Int):lexLt (x::xs) (y::ys)=if x=y then lexLt xs ys else decide (x<y):=rfl
theorem eqAt_int (A:lY)(s:kn)(a:Int)(t:Tok)(c:Int)(u:Tok):∃e,qT A s (.int a t) (.int c u) e/\(e=uE↔a=c):=
 ⟨(a == c),qU a t c u,by simp⟩
theorem rcLt_int (A:lY)(s:kn)(a:Int)(t:Tok)(c:Int)(u:Tok)(prog:lF)(w:lW)(E:aU->kn->Prop)(Q:aU->kn->Prop)(h:Q (.bool (decide (a<c))) s):
  lC (model prog w) A (richCompare .Lt (.int a t) (.int c u)) Q E s:=
 (uq h:lC (model prog w) A (lp .Lt (.int a t) (.int c u)) Q E s)
section
open PySem.SeqAt
open PySem.AutoSeq1 (wpAny_loadPart')
open PySem.MeetsSeq PySem.MeetsSeq2 PySem.MeetsSeq3
end
section
variable {prog:lF}{w:lW}{A:lY}{E:aU->kn->Prop}{s:kn}
theorem cat_tup {t b:kz}{vs ws:List aU}{Q:aU->kn->Prop}(ht:IsTup s.heap t vs.toArray)(hb:IsTup s.heap b ws.toArray)(hv:vs≠[])
  (h1:ws=[]->Q (.ref t) s) (h2:ws≠[]->Q (.ref s.heap.objs.size) {s with heap:=s.heap.push {cls:=.type "tuple",data:=.seq (vs++ws).toArray}})
  (hsz:vs.length+ws.length<=kR):lC (model prog w) A (nj .Add (.ref t) (.ref b)) Q E s:=by
 obtain⟨⟨cls,dd,data,sl⟩,ho,hc,n,hd⟩:=id ht;obtain⟨⟨e_,bY,data2,bJ⟩,bx,a8,n2,hd2⟩:=id hb;simp only at hc hd a8 hd2;subst hc hd a8 hd2;have e:vs.toArray++ws.toArray=(vs++ws).toArray:=by simp
 by_cases hw:ws=[]
 ·exact concat_meets ⟨_,ho,rfl⟩ ⟨_,bx,rfl⟩ noFill_tuple_add seq_tuple_add qe p4 (pW _ _)
   (tuple_addW1 t b vs.toArray ws.toArray n n2 dd bY sl bJ (by simpa using hv) (by simp[hw])) ⟨ho,bx,h1 hw⟩
 ·refine concat_meets ⟨_,ho,rfl⟩ ⟨_,bx,rfl⟩ noFill_tuple_add seq_tuple_add qe p4 (pW _ _)
   (tuple_addW2 t b vs.toArray ws.toArray n n2 dd bY sl bJ (by simpa using hv) (by simpa using hw) (by rw[ky,ky];exact hsz)) ⟨ho,bx,?_⟩
  rw[e];exact h2 hw
noncomputable def sIx (n d:Nat):Option Int->Nat
 |none=>d
 |some v=>if v<0 then(v+(n:Int)).toNat else min v.toNat n
theorem sIx_le (n d:Nat)(hd:d<=n)(o:Option Int):sIx n d o<=n:=by
 cases o with
 |none=>exact hd
 |some v=>
  show(if v<0 then(v+(n:Int)).toNat else min v.toNat n)<=n
  by_cases hv:v<0
  ·rw[if_pos hv];lia
  ·rw[if_neg hv];exact Nat.min_le_right _ _
theorem ziS_ (v:Int)(n d:Nat):(if v<0 then max (v+(n:Int)) 0 else min v (n:Int))=((sIx n d (uC v):Nat):Int):=by
 show(if v<0 then max (v+(n:Int)) 0 else min v (n:Int))=(((if v<0 then(v+(n:Int)).toNat else min v.toNat n):Nat):Int)
 by_cases hv:v<0
 ·simp only[if_pos hv];lia
 ·simp only[if_neg hv];lia
theorem zhB_ (lo hi:Option Int)(n:Nat):oH lo hi 1 (n:Int)=(((sIx n 0 lo:Nat):Int),((sIx n n hi:Nat):Int)):=by
 have h1:¬((1:Int)<0):=by lia
 unfold oH;simp only[h1,if_false];refine Prod.ext ?_ ?_
 ·cases lo with
  |none=>rfl
  |some v=>exact ziS_ v n 0
 ·cases hi with
  |none=>rfl
  |some v=>exact ziS_ v n n
theorem zgP_ (i j:Nat):nI (i:Int) (j:Int) 1=j-i:=by
 unfold nI;have h1:(1:Int) > 0:=by lia
 simp only[h1,if_true,Int.ediv_one];split<;>lia
theorem zds_ {v:aU}{o:Option Int}{Q:Option Int->kn->Prop}(p:IsPart v o)(h:Q o s):lC (model prog w) A (rX v) Q E s:=by
 cases p with
 |none=>exact slicePart_none h
 |int i t=>exact slicePart_int h
theorem zch_ {sl:kz}{vl vu:aU}{lo hi:Option Int}{n:Nat}{Q:Int×Int×Nat->kn->Prop}(hs:s.heap.IsSliceOf sl vl vu .none)(pl:IsPart vl lo)(pu:IsPart vu hi)
  (h:Q (((sIx n 0 lo:Nat):Int),1,sIx n n hi-sIx n 0 lo) s):lC (model prog w) A (pJ (.ref sl) (pure (n:Int))) Q E s:=by
 obtain⟨os,hos,hcs,hds⟩:=id hs;unfold pJ sM;refine kr (kr (rV hos hds (x:=vl) rfl (kr (rV hos hds (x:=vu) rfl (kr (rV hos hds (x:=.none) rfl (lj ?_)))))));refine kr (slicePart_none ?_);show lC _ _ (if((1:Int) == 0)=uE then _ else _) _ _ s
 rw[if_neg (by decide)]
 refine kr (zds_ pl (kr (zds_ pu (kr (lj ?_)))));show lC _ _ (match oH lo hi 1 (n:Int)with |(lo,hi)=>pure (lo,(1:Int),nI lo hi 1)) _ _ s
 rw[zhB_ lo hi n];show lC _ _ (pure (((sIx n 0 lo:Nat):Int),(1:Int),nI ((sIx n 0 lo:Nat):Int) ((sIx n n hi:Nat):Int) 1)) _ _ s
 rw[zgP_];exact lj h
theorem zky_ (xs:Array aU)(i k:Nat):((lG k).filterMap λ(m:Nat)=>xs[((i:Int)+(m:Int)*1).toNat]?).toArray=((xs.toList.drop i).take k).toArray:=by
 have e:(λ(m:Nat)=>xs[((i:Int)+(m:Int)*1).toNat]?)=λm=>xs[i+m]?:=by
  funext m;have:((i:Int)+(m:Int)*1).toNat=i+m:=by lia
  rw[this]
 rw[e];have:=pick_run xs i k;rw[List.filterMap_map]at this;have e2:((λx=>xs[x]?)∘λx=>i+x)=λm=>xs[i+m]?:=rfl
 rw[e2]at this;rw[this]
theorem getItem_tuple_cut {t sl:kz}{items:Array aU}{vl vu:aU}{lo hi:Option Int}{Q:aU->kn->Prop}(ht:IsTup s.heap t items)(hs:s.heap.IsSliceOf sl vl vu .none)(pl:IsPart vl lo)(pu:IsPart vu hi)
  (hw:¬(sIx items.size 0 lo=0/\sIx items.size items.size hi=items.size))
  (h:Q (.ref s.heap.objs.size) {s with heap:=s.heap.push {cls:=.type "tuple",data:=.seq ((items.toList.drop (sIx items.size 0 lo)).take (sIx items.size items.size hi-sIx items.size 0 lo)).toArray}})
  (hsz:items.size<=kR):lC (model prog w) A (getItem (.ref t) (.ref sl)) Q E s:=by
 have bj:sizeOk (.seq ((items.toList.drop (sIx items.size 0 lo)).take (sIx items.size items.size hi-sIx items.size 0 lo)).toArray):=by
  show((items.toList.drop (sIx items.size 0 lo)).take (sIx items.size items.size hi-sIx items.size 0 lo)).toArray.size<=kR
  rw[ky,mq,mC,mm];lia
 have hj:sIx items.size items.size hi<=items.size:=sIx_le _ _ (kx _) hi;obtain⟨os,hos,hcs,hds⟩:=id hs;have jJ:s.TypeIs (.ref sl) "slice":=⟨os,hos,hcs⟩;unfold getItem
 try with_reducible refine wpAny_holding ?_
 first |refine kr (lj ?_)|skip
 refine kr (wpAny_sequenceKey ht.typeIs (by decide) ?_)
 refine kr (wpAny_callSpecial?_slot (name:=oF "__getitem__") ht.typeIs n6
  (wpAny_call_entry n6 ht.typeIs entry_tuple_getitem ?_ (args_tuple_getitem _ _)))
 show lC _ _ (sx (.ref t)>>=_) _ _ s
 refine kr (tupleItemsOf_ ht ?_);refine kr (wpAny_typeOf jJ ?_);rw[if_pos (by decide)]
 refine kr (zch_ hs pl pu ?_);have jr:¬((((sIx items.size 0 lo:Nat):Int) == 0 && (1:Int) == 1 && (sIx items.size items.size hi-sIx items.size 0 lo) == items.size)=uE):=by
  intro q;rw[kl,kl]at q;have q1:((sIx items.size 0 lo:Nat):Int)=0:=eq_of_beq q.1.1;have q2:sIx items.size items.size hi-sIx items.size 0 lo=items.size:=eq_of_beq q.2;exact hw ⟨by lia,by lia⟩
 show lC _ _ (if(((sIx items.size 0 lo:Nat):Int) == 0 && (1:Int) == 1 && (sIx items.size items.size hi-sIx items.size 0 lo) == items.size)=uE then _ else _) _ _ s
 rw[if_neg jr,zky_]
 first
  |exact kr (m:=nY _) (wpAny_newObj_type (lj ⟨_,rfl,lj h⟩) bj)
  |exact kr (m:=nY _) (wpAny_newObj_type (kr (lj (lj ⟨_,rfl,lj h⟩))) bj)
  |exact kr (kr (m:=nY _) (wpAny_newObj_type (lj (lj ⟨_,rfl,lj h⟩)) bj))
  |exact kr (kr (m:=nY _) (wpAny_newObj_type (lj ⟨_,rfl,lj h⟩) bj))
end
end HT
namespace L2
open PySem PySem.Spec PyProof.Rows
abbrev TO:=St->Hp->(Option Int->Hp->Prop)->Prop
def PO (X:Cx)(e:Option k8)(t:TO):Prop:=
 ∀(pins:Pnn) (s:kn) (σ:St) (H:Hp) (Q:Option Int->Hp->Prop),Inv X pins σ H s->t σ H Q ->
  lC (model X.prog X.w) X.A (evalPart e X.env) (λu s'=>∃o H',Inv X pins σ H' s'/\IsPart u o/\Q o H') X.xe s
def tNoPart:TO:=λ_ H Q=>Q uD H
theorem zbU_ {ns:List Int}:∀{us:List aU},Vals (ns.map V.int) us->IntsAre us ns:=by
 induction ns with
 |nil=>intro us r;rw[nu]at r;cases r;exact .nil
 |cons n ns ih=>
  intro us r;rw[kF]at r;cases r with
  |cons r1 r2=>
   obtain⟨t,e⟩:=r1;subst e;exact .cons n t (ih r2)
section
variable {X:Cx}{e:k8}{te:TE}{lo hi:Option k8}{tl th:TO}{pos p2:Pos}
theorem znW_:PO X uD tNoPart:=by
 intro pins s σ H Q I h;rw[evalPart_none];exact lj ⟨uD,H,I,.none,h⟩
def SlR (X:Cx)(r:V->Option Int->Option Int->Hp->VK->Prop):Prop:=
 ∀(pins:Pnn) (s:kn) (σ:St) (H:Hp) (x:V) (v vl vu:aU) (lo hi:Option Int) (sl:kz) (Q:VK),Inv X pins σ H s->RelV x v->s.heap.IsSliceOf sl vl vu .none->IsPart vl lo->IsPart vu hi->r x lo hi H Q ->
  ∃T id,typeLookup (.type T) "__getitem__"=pure (uC (.builtin id))/\s.TypeIs v T/\lC (model X.prog X.w) X.A (getItem v (.ref sl)) (EP X pins σ Q) X.xe s
theorem SlR.or {r r':V->Option Int->Option Int->Hp->VK->Prop}(h:SlR X r)(h':SlR X r'):SlR X (λx lo hi H Q=>r x lo hi H Q\/r' x lo hi H Q):=by
 intro pins s σ H x v vl vu lo hi sl Q I rx hs pl pu q;rcases q with q |q
 ·exact h pins s σ H x v vl vu lo hi sl Q I rx hs pl pu q
 ·exact h' pins s σ H x v vl vu lo hi sl Q I rx hs pl pu q
def tSl (r:V->Option Int->Option Int->Hp->VK->Prop)(te:TE)(tl th:TO):TE:=λσ H Q=>te σ H λx H1=>tl σ H1 λl H2=>th σ H2 λu H3=>r x l u H3 Q
theorem zk5_ {r:V->Option Int->Option Int->Hp->VK->Prop}(hr:SlR X r)(he:PE X e te)(hl:PO X lo tl)(hu:PO X hi th):PE X (.Subscript e (.Slice lo hi uD p2) pos) (tSl r te tl th):=by
 intro pins s σ H Q I h;refine Subscript_ (thn (he pins s σ H _ I h) λv s1 af=>?_)
 obtain⟨x,H1,I1,r1,q1⟩:=af;refine wpAny_Slice (thn (hl pins s1 σ H1 _ I1 q1) λvl s2 ⟨l,H2,I2,pl,q2⟩=>thn (hu pins s2 σ H2 _ I2 q2) λvu s3 af=>?_)
 obtain⟨u,H3,I3,pu,q3⟩:=af;rw[evalPart_none];refine lj ?_;have I4:Inv X pins σ H3 {s3 with heap:=s3.heap.push {cls:=.type "slice",data:=.fields #[vl,vu,.none]}}:=I3.kept (t':=s3.toks) λb ob q=>kq _ q
 obtain⟨T,id,hT,ht,hg⟩:=hr pins {s3 with heap:=s3.heap.push {cls:=.type "slice",data:=.fields #[vl,vu,.none]}} σ H3 x v vl vu l u s3.heap.objs.size Q I4 r1 (uu ..) pl pu q3;show lC (model X.prog X.w) X.A (subscriptTail e (.Slice lo hi uD p2) v (.ref s3.heap.objs.size)) (EP X pins σ Q) X.xe {s3 with heap:=s3.heap.push {cls:=.type "slice",data:=.fields #[vl,vu,.none]}}
 exact tail_any (ops:=[.ref s3.heap.objs.size,v]) ht hT hg (by with_unfolding_all rfl)
def cutV (xs:List V)(lo hi:Option Int):List V:=(xs.drop (HT.sIx xs.length 0 lo)).take (HT.sIx xs.length xs.length hi-HT.sIx xs.length 0 lo)
theorem zcz_ (xs:List V)(lo hi:Option Int):(cutV xs lo hi).length<=xs.length:=by
 unfold cutV;rw[mq,mC];lia
def rSlT (K:Fgg):V->Option Int->Option Int->Hp->VK->Prop:=λx lo hi H Q=>∃a xs,x=.ref a/\SqT K H a xs /\
 ¬(HT.sIx xs.length 0 lo=0/\HT.sIx xs.length xs.length hi=xs.length)/\∀p,H p=uD->Q (.ref p) (upd H p (.tup (cutV xs lo hi)))
theorem zpd_:SlR X (rSlT X.K):=by
 intro pins s σ H x v vl vu lo hi sl Q I rx hs pl pu h;obtain⟨a,xs,rfl,hx,hw,q⟩:=h;cases rx;obtain⟨aa,r,ht,hz⟩:=I.tuple hx;have hlen:aa.toArray.size=xs.length:=by rw[ky];exact r.length.symm
 refine⟨"tuple",_,n6.lookup,ht.typeIs,?_⟩;refine HT.getItem_tuple_cut ht hs pl pu (by rw[hlen];exact hw) ?_ (by rw[hlen];exact hz)
 rw[hlen];refine⟨.ref s.heap.objs.size,_,I.laid (t':=s.toks) (o:=.tup (cutV xs lo hi)) (λb ob q=>kq _ q) (kx _) ?_,rfl,q _ (I.hok.fresh (kx _))⟩
 exact⟨mG (zcz_ xs lo hi) hz,_,(r.drop (HT.sIx xs.length 0 lo)).take (HT.sIx xs.length xs.length hi-HT.sIx xs.length 0 lo),IsTup.new _ _⟩
def rCatT (K:Fgg):R2:=λx y H Q=>∃a b xs ys,x=.ref a/\y=.ref b/\SqT K H a xs/\SqT K H b ys/\xs≠[]/\xs.length+ys.length<=kR /\
 (ys=[]->Q (.ref a) H)/\(ys≠[]->∀p,H p=uD->Q (.ref p) (upd H p (.tup (xs++ys))))
theorem Vals.nil_iff {xs:List V}{us:List aU}(r:Vals xs us):us=[]↔xs=[]:=by
 cases r with
 |nil=>simp
 |cons _ _=>simp
theorem zos_:OpR X (nj .Add) (rCatT X.K):=by
 intro pins s σ H x y v u Q I rx ry h;obtain⟨a,b,xs,ys,rfl,rfl,ha,hb,hx,hz,q1,q2⟩:=h;cases rx;cases ry;obtain⟨aa,r1,p1,_⟩:=I.tuple ha;obtain⟨aj,r2,p2,_⟩:=I.tuple hb;refine HT.cat_tup p1 p2 (λz=>hx (r1.nil_iff.mp z)) (λz=>⟨.ref a,H,I,rfl,q1 (r2.nil_iff.mp z)⟩) (λz=>?_) (by rw[<- r1.length,<- r2.length];exact hz)
 refine⟨.ref s.heap.objs.size,_,I.laid (t':=s.toks) (o:=.tup (xs++ys)) (λb ob q=>kq _ q) (kx _) ?_,rfl,q2 (λw=>z (r2.nil_iff.mpr w)) _ (I.hok.fresh (kx _))⟩
 exact⟨by rw[kX];exact hz,_,r1.append r2,IsTup.new _ _⟩
end
noncomputable def ixN (n:Nat)(i:Int):Option Nat:=if 0<=i then(if i<n then uC i.toNat else uD)else if -(n:Int)<=i then uC (i+n).toNat else uD
def atI {α:Type}(xs:List α)(i:Int):Option α:=(ixN xs.length i).bind λj=>xs[j]?
theorem zfF_ {n:Nat}{i:Int}{j:Nat}(h:ixN n i=uC j):seqIndex? i n=uC j/\j<n /\ -(n:Int)<=i/\i<n:=by
 unfold ixN at h;by_cases h0:0<=i
 ·rw[if_pos h0]at h
  by_cases h1:i<n
  ·rw[if_pos h1]at h
   have e:i.toNat=j:=lI h;exact⟨by rw[seqIndex_of h0 h1,e],by lia,by lia,h1⟩
  ·rw[if_neg h1]at h;cases h
 ·rw[if_neg h0]at h
  by_cases h1 : -(n:Int)<=i
  ·rw[if_pos h1]at h
   have e:(i+n).toNat=j:=lI h;exact⟨by rw[seqIndex_neg (by lia) h1,e],by lia,h1,by lia⟩
  ·rw[if_neg h1]at h;cases h
theorem zhj_ {α:Type}{xs:List α}{i:Int}{v:α}(h:atI xs i=uC v):∃j,seqIndex? i xs.length=uC j/\xs[j]?=uC v/\j<xs.length /\ -(xs.length:Int)<=i/\i<xs.length:=by
 unfold atI at h;cases e:ixN xs.length i with
 |none=>rw[e]at h;cases h
 |some j=>
  rw[e]at h;obtain⟨h1,h2,h3,h4⟩:=zfF_ e;exact⟨j,h1,h,h2,h3,h4⟩
def PlainIx (b:k8):Prop:=∀o i,subscripted b uF o i=operate [o,i] (getItem o i)
def IxR (X:Cx)(r:R2):Prop:=
 ∀(value slice:k8) (pins:Pnn) (s:kn) (σ:St) (H:Hp) (x y:V) (v u:aU) (Q:VK),Inv X pins σ H s->RelV x v->RelV y u->r x y H Q ->
  subscripted slice uF v u=operate [v,u] (getItem v u)->lC (model X.prog X.w) X.A (subscriptTail value slice v u) (EP X pins σ Q) X.xe s
def MtR (X:Cx)(id:String)(r:V->List V->Hp->VK->Prop):Prop:=
 ∀(pins:Pnn) (s:kn) (σ:St) (H:Hp) (x:V) (xs:List V) (v:aU) (us:List aU) (Q:VK),Inv X pins σ H s->RelV x v->Vals xs us->r x xs H Q ->
  lC (model X.prog X.w) X.A (call (.builtin id) (v::us)) (EP X pins σ Q) X.xe s
section
variable {X:Cx}{a b:k8}{ta tb:TE}{pos:Pos}
theorem pe_ix {r:R2}(hr:IxR X r)(ha:PE X a ta)(hb:PE X b tb)(hs:PlainIx b):PE X (.Subscript a b pos) (tOp r ta tb):=by
 intro pins s σ H Q I h;exact Subscript_ (binT ha hb I h λv u s2 x y H2 I2 rx ry q=>hr a b pins s2 σ H2 x y v u Q I2 rx ry q (hs _ _))
def rIxL (K:Fgg):R2:=λx y H Q=>∃p xs i v,x=.ref p/\y=.int i/\SqL K H p xs/\atI xs i=uC v/\Q v H
def rIxT (K:Fgg):R2:=λx y H Q=>∃p xs i v,x=.ref p/\y=.int i/\SqT K H p xs/\atI xs i=uC v/\Q v H
def rIxS:R2:=λx y H Q=>∃z i c,x=.str z/\y=.int i/\z.length<=kR/\atI z.cps.toList i=uC c/\Q (.str ⟨#[c]⟩) H
theorem znU_:IxR X (rIxL X.K):=by
 intro value slice pins s σ H x y v u Q I rx ry h hs;obtain⟨p,xs,i,z,rfl,rfl,hq,he,q⟩:=h;cases rx;obtain⟨t,rfl⟩:=ry;obtain⟨aa,r,pl,hz⟩:=I.list hq;obtain⟨j,h1,h2,h3,h4,h5⟩:=zhj_ he;obtain⟨w,ew,bK⟩:=r.get h2;have hl:=r.length;have hn:=line63;have fin:EP X pins σ Q w s:=⟨z,H,I,bK,q⟩;by_cases h0:0<=i
 ·have hj:i.toNat=j:=by
   rw[seqIndex_of h0 h5]at h1;exact lI h1
  exact item_listR pl.isList h0 (by lia) (by rw[hj];simpa using ew) fin hs
 ·have hj:(i+(aa.toArray.size:Int)).toNat=j:=by
   rw[seqIndex_neg (by lia) h4]at h1
   rw[ky,<- hl];exact lI h1
  exact subscriptTail_builtinR (x:=w) pl.isList.typeIs slot_list_getitem.lookup
   (wpAny_getItem_list_neg (Q:=λr s'=>r=w/\EP X pins σ Q r s') pl.isList (by lia) (by rw[ky]<;>lia) (by lia) (by rw[hj];simpa using ew) ⟨rfl,fin⟩) hs
theorem zqn_:IxR X (rIxT X.K):=by
 intro value slice pins s σ H x y v u Q I rx ry h hs;obtain⟨p,xs,i,z,rfl,rfl,hq,he,q⟩:=h;cases rx;obtain⟨t,rfl⟩:=ry;obtain⟨aa,r,pl,hz⟩:=I.tuple hq;obtain⟨j,h1,h2,h3,h4,h5⟩:=zhj_ he;obtain⟨w,ew,bK⟩:=r.get h2;have hl:=r.length;have hn:=line63;have fin:EP X pins σ Q w s:=⟨z,H,I,bK,q⟩
 exact subscriptTail_builtinR (x:=w) pl.typeIs slot_tuple_getitem.lookup
  (getItem_tuple (j:=j) (Q:=λr s'=>r=w/\EP X pins σ Q r s') pl (by lia) (by lia) (by rw[ky,<- hl];exact h1) (by simpa using ew) ⟨rfl,fin⟩) hs
theorem zrn_:IxR X rIxS:=by
 intro value slice pins s σ H x y v u Q I rx ry h hs;obtain⟨z,i,c,rfl,rfl,hz,he,q⟩:=h;obtain⟨t,rfl⟩:=rx;obtain⟨t',rfl⟩:=ry;obtain⟨j,h1,h2,h3,h4,h5⟩:=zhj_ he;have hl:z.cps.toList.length=z.length:=by simp[m4]
 rw[hl]at h1 h4 h5;have hn:=line63;exact tail_any (typeIs_str s z t) slot_str_getitem.lookup (getItem_str (c:=c) (by
  have e1:decide (i < -(2 ^ 63:Int))=uF:=decide_eq_false (by lia)
  have e2:decide (i ≥ 2 ^ 63)=uF:=decide_eq_false (by lia)
  rw[e1,e2,Bool.or_false]) (by rw[h1];simpa using h2) ⟨.str ⟨#[c]⟩,H,I.tok _,⟨_,rfl⟩,q⟩) hs
theorem zha_ (aa:List aU)(n j:Nat)(u:aU):lH (·.setIfInBounds j u) {cls:=.type "list",data:=.seq aa.toArray n}={cls:=.type "list",data:=.seq (aa.set j u).toArray n}:=by
 simp[lH]
theorem Inv.lst {pins:Pnn}{σ:St}{H:Hp}{s:kn}{p:kz}{xs:List V}(I:Inv X pins σ H s)(h:H p=uC (.lst xs)):
  ∃(aa:List aU) (n:Nat),Vals xs aa/\s.heap.get? p=uC {cls:=.type "list",data:=.seq aa.toArray n}/\xs.length<=kR:=by
 obtain⟨z,aa,n,r,e⟩:=I.hok p _ h;exact⟨aa,n,r,e,z⟩
theorem Inv.lstUpd {pins:Pnn}{σ:St}{H:Hp}{s:kn}{p:kz}{xs ys:List V}{aa its':List aU}{n n':Nat}{f:sX->sX}(I:Inv X pins σ H s)(h:H p=uC (.lst xs))
  (ho:s.heap.get? p=uC {cls:=.type "list",data:=.seq aa.toArray n}) (hf:f {cls:=.type "list",data:=.seq aa.toArray n}={cls:=.type "list",data:=.seq its'.toArray n'}) (r:Vals ys its') (hz:ys.length<=kR) (t:Nat):
  Inv X pins σ (upd H p (.lst ys)) {s with heap:=s.heap.update p f,toks:=t}:=by
 have e:(s.heap.update p f).get? p=uC {cls:=.type "list",data:=.seq its'.toArray n'}:=by
  rw[Heap.get?_update_self f ho (by rw[hf]<;>rfl),hf]
 refine I.write (x:=p) (e:=p) (by rw[h];trivial) (.inl rfl) (λb u hb q=>(qf _ _ (oO hb)).trans q) ⟨_,e⟩ ?_
 exact⟨hz,its',n',r,e⟩
def rSetL:V->V->V->Hp->(Hp->Prop)->Prop:=λo i v H Q=>∃p xs k j,o=.ref p/\i=.int k/\H p=uC (.lst xs)/\ixN xs.length k=uC j/\Q (upd H p (.lst (xs.set j v)))
theorem zkU_:PSet X rSetL:=by
 intro pins s σ H o i v ov iv u Q I ro ri rv h;obtain⟨p,xs,k,j,rfl,rfl,hp,hj,q⟩:=h;cases ro;obtain⟨t,rfl⟩:=ri;obtain⟨aa,n,r,ho,hz⟩:=I.lst hp;obtain⟨h1,h2,h3,h4⟩:=zfF_ hj;have hl:=r.length;have hn:=line63;have I':Inv X pins σ (upd H p (.lst (xs.set j v))) {s with heap:=s.heap.update p (lH (·.setIfInBounds j u))}:=
  I.lstUpd hp ho (zha_ aa n j u) (r.set rv j) (by rw[mM];exact hz) s.toks
 by_cases h0:0<=k
 ·have hk:k.toNat=j:=by
   rw[seqIndex_of h0 h4]at h1;exact lI h1
  exact W.ki_setAt ho h0 (by lia) (by rw[ky,<- hl];exact h4) (by rw[hk];exact⟨_,I',q⟩)
 ·have hk:(k+(aa.toArray.size:Int)).toNat=j:=by
   rw[seqIndex_neg (by lia) h3]at h1
   rw[ky,<- hl];exact lI h1
  exact W.ki_setBack ho (by lia) (by rw[ky,<- hl];exact h3) (by lia) (by rw[hk];exact⟨_,I',q⟩)
theorem zez_ (lo hi:Option Int)(n:Nat):(sliceBounds lo hi uD n).1=((HT.sIx n 0 lo:Nat):Int)/\(sliceBounds lo hi uD n).2.1=((HT.sIx n n hi:Nat):Int)/\(sliceBounds lo hi uD n).2.2=1:=by
 refine⟨?_,?_,rfl⟩
 ·cases lo with
  |none=>simp[sliceBounds,HT.sIx]
  |some i=>
   simp only[sliceBounds,HT.sIx,rH,show(1:Int) > 0 by decide,if_true]
   by_cases h:i<0
   ·simp only[h,if_true]<;>lia
   ·simp only[h,if_false]<;>lia
 ·cases hi with
  |none=>simp[sliceBounds,HT.sIx]
  |some i=>
   simp only[sliceBounds,HT.sIx,rH,show(1:Int) > 0 by decide,if_true]
   by_cases h:i<0
   ·simp only[h,if_true]<;>lia
   ·simp only[h,if_false]<;>lia
theorem zdd_ (aa:List aU)(lo hi:Option Int):slicePick aa.toArray lo hi uD=((aa.drop (HT.sIx aa.length 0 lo)).take (HT.sIx aa.length aa.length hi-HT.sIx aa.length 0 lo)).toArray:=by
 obtain⟨h1,h2,h3⟩:=zez_ lo hi aa.toArray.size;unfold slicePick;rw[h1,h2,h3];simp only[sliceRange_one,pick_run,ky]<;>rfl
def rSlL (K:Fgg):V->Option Int->Option Int->Hp->VK->Prop:=λx lo hi H Q=>∃a xs,x=.ref a/\SqL K H a xs/\∀p,H p=uD->Q (.ref p) (upd H p (.lst (cutV xs lo hi)))
theorem zl0_:SlR X (rSlL X.K):=by
 intro pins s σ H x v vl vu lo hi sl Q I rx hs pl pu h;obtain⟨a,xs,rfl,hx,q⟩:=h;cases rx;obtain⟨aa,r,ht,hz⟩:=I.list hx;have hlen:=r.length;refine⟨"list",_,slot_list_getitem.lookup,ht.isList.typeIs,?_⟩;refine wpAny_getItem_list_slice ht.isList hs pl pu .none (by simp) ?_ (by rw[ky]<;>lia)
 rw[zdd_,<- hlen];refine⟨.ref s.heap.objs.size,_,I.laid (t':=s.toks) (o:=.lst (cutV xs lo hi)) (λb ob q=>kq _ q) (kx _) ?_,rfl,q _ (I.hok.fresh (kx _))⟩
 exact⟨mG (zcz_ xs lo hi) hz,_,0,(r.drop (HT.sIx xs.length 0 lo)).take (HT.sIx xs.length xs.length hi-HT.sIx xs.length 0 lo),ll _ rfl⟩
noncomputable def flatV:V->Bool
 |.non=>uE
 |.bl _=>uE
 |.int _=>uE
 |.str _=>uE
 |_=>uF
noncomputable def eqV:V->V->Bool
 |.non,.non=>uE
 |.bl a,.bl b=>a == b
 |.bl a,.int b=>(if a then 1 else 0) == b
 |.int a,.bl b=>a == (if b then 1 else 0)
 |.int a,.int b=>a == b
 |.str a,.str b=>a == b
 |_,_=>uF
theorem zmz_ {A:lY}{s:kn}{y x:V}{u v:aU}(ry:RelV y u)(rx:RelV x v)(fy:flatV y=uE)(fx:flatV x=uE):qT A s u v (eqV y x):=by
 cases y with
 |non=>
  cases ry;cases x with
  |non=>cases rx;exact qm _
  |bl b=>cases rx;exact SeqAt.EqAt.none_bool b
  |int b=>obtain⟨t,rfl⟩:=rx;exact SeqAt.EqAt.none_int b t
  |str b=>obtain⟨t,rfl⟩:=rx;exact SeqAt.EqAt.none_str b t
  |_=>exact absurd (show uF=uE from fx) mh
 |bl a=>
  cases ry;cases x with
  |non=>cases rx;exact SeqAt.EqAt.bool_none a
  |bl b=>cases rx;exact SeqAt.EqAt.bool_bool a b
  |int b=>obtain⟨t,rfl⟩:=rx;exact SeqAt.EqAt.bool_int a b t
  |str b=>obtain⟨t,rfl⟩:=rx;exact SeqAt.EqAt.bool_str a b t
  |_=>exact absurd (show uF=uE from fx) mh
 |int a=>
  obtain⟨t',rfl⟩:=ry;cases x with
  |non=>cases rx;exact SeqAt.EqAt.int_none a t'
  |bl b=>cases rx;exact SeqAt.EqAt.int_bool a t' b
  |int b=>obtain⟨t,rfl⟩:=rx;exact qU a t' b t
  |str b=>obtain⟨t,rfl⟩:=rx;exact qP a t' b t
  |_=>exact absurd (show uF=uE from fx) mh
 |str a=>
  obtain⟨t',rfl⟩:=ry;cases x with
  |non=>cases rx;exact SeqAt.EqAt.str_none a t'
  |bl b=>cases rx;exact SeqAt.EqAt.str_bool a t' b
  |int b=>obtain⟨t,rfl⟩:=rx;exact qQ a t' b t
  |str b=>obtain⟨t,rfl⟩:=rx;exact SeqAt.EqAt.str_str a t' b t
  |_=>exact absurd (show uF=uE from fx) mh
 |_=>exact absurd (show uF=uE from fy) mh
def eqU (x:V)(u:aU):Bool:=match u with
 |.none=>eqV .non x
 |.bool b=>eqV (.bl b) x
 |.int i _=>eqV (.int i) x
 |.str z _=>eqV (.str z) x
 |_=>uF
theorem zlT_ {x y:V}{u:aU}(r:RelV y u)(f:flatV y=uE):eqU x u=eqV y x:=by
 cases y with
 |non=>cases r;rfl
 |bl b=>cases r;rfl
 |int i=>obtain⟨t,rfl⟩:=r;rfl
 |str z=>obtain⟨t,rfl⟩:=r;rfl
 |_=>exact absurd (show uF=uE from f) mh
theorem zdE_ {x:V}:∀{xs:List V}{us:List aU},Vals xs us->xs.all flatV=uE->us.any (eqU x)=xs.any λy=>eqV y x
 |_,_,.nil,_=>rfl
 |y::xs,u::us,.cons r t,f=>by
  rw[mi,kl]at f;rw[ox,ox,zlT_ r f.1,zdE_ t f.2]
theorem zcl_ {A:lY}{s:kn}{x:V}{v:aU}(rx:RelV x v)(fx:flatV x=uE):∀{xs:List V}{us:List aU},Vals xs us->xs.all flatV=uE->∀u∈us,qT A s u v (eqU x u)
 |_,_,.nil,_=>λu hu=>by cases hu
 |y::xs,u::us,.cons r t,f=>λu' hu=>by
  rw[mi,kl]at f;rcases k9.mp hu with rfl |hu
  ·rw[zlT_ r f.1];exact zmz_ r rx f.1 fx
  ·exact zcl_ rx fx t f.2 u' hu
def inV (x:V)(xs:List V):Bool:=xs.any λy=>eqV y x
def rIn (K:Fgg)(neg:Bool):R2:=λx y H Q=>∃p xs,y=.ref p/\(SqL K H p xs\/SqT K H p xs)/\flatV x=uE/\xs.all flatV=uE/\Q (.bl (if neg then !inV x xs else inV x xs)) H
theorem ziG_:OpR X (lp .In) (rIn X.K uF):=by
 intro pins s σ H x y v u Q I rx ry h;obtain⟨p,xs,rfl,hq,fx,fs,q⟩:=h;cases ry;rcases hq with hq |hq
 ·obtain⟨aa,r,pl,hz⟩:=I.list hq
  refine SeqAt.in_listAt (eqU x) pl.isList (λw hw=>zcl_ rx fx r fs w (by simpa using hw)) ⟨.bl _,H,I,rfl,?_⟩
  rw[show aa.toArray.any (eqU x)=aa.any (eqU x) by simp,zdE_ r fs]
  exact q
 ·obtain⟨aa,r,pl,hz⟩:=I.tuple hq
  refine SeqAt.in_tupleAt (eqU x) pl (λw hw=>zcl_ rx fx r fs w (by simpa using hw)) ⟨.bl _,H,I,rfl,?_⟩
  rw[show aa.toArray.any (eqU x)=aa.any (eqU x) by simp,zdE_ r fs]
  exact q
theorem zei_:OpR X (lp .NotIn) (rIn X.K uE):=by
 intro pins s σ H x y v u Q I rx ry h;obtain⟨p,xs,rfl,hq,fx,fs,q⟩:=h;cases ry;rcases hq with hq |hq
 ·obtain⟨aa,r,pl,hz⟩:=I.list hq
  refine SeqAt.notIn_listAt (eqU x) pl.isList (λw hw=>zcl_ rx fx r fs w (by simpa using hw)) ⟨.bl _,H,I,rfl,?_⟩
  rw[show aa.toArray.any (eqU x)=aa.any (eqU x) by simp,zdE_ r fs]
  exact q
 ·obtain⟨aa,r,pl,hz⟩:=I.tuple hq
  refine SeqAt.notIn_tupleAt (eqU x) pl (λw hw=>zcl_ rx fx r fs w (by simpa using hw)) ⟨.bl _,H,I,rfl,?_⟩
  rw[show aa.toArray.any (eqU x)=aa.any (eqU x) by simp,zdE_ r fs]
  exact q
theorem zd1_:CallR X (.builtin "len") (λxs H Q=>∃p ys,xs=[.ref p]/\(SqL X.K H p ys\/SqT X.K H p ys)/\Q (.int ys.length) H):=by
 intro pins s σ H xs us Q I r h;obtain⟨p,ys,rfl,hq,q⟩:=h;obtain⟨u,rfl,rx⟩:=vals1 r;cases rx;have hn:=line63;rcases hq with hq |hq
 ·obtain⟨aa,r',pl,hz⟩:=I.list hq
  have hlen:=r'.length;exact Calls.call_len_list pl.isList (by simp only[ky]<;>lia) ⟨.int ys.length,H,I.tok _,⟨s.toks+1,by rw[ky,hlen]⟩,q⟩
 ·obtain⟨aa,r',pl,hz⟩:=I.tuple hq
  have hlen:=r'.length;exact len_tuple pl (by simp only[ky]<;>lia) ⟨.int ys.length,H,I.tok _,⟨s.toks+1,by rw[ky,hlen]⟩,q⟩
theorem zep_:CallR X (.builtin "len") (λxs H Q=>∃z,xs=[.str z]/\z.length<=kR/\Q (.int z.length) H):=by
 intro pins s σ H xs us Q I r h;obtain⟨z,rfl,hz,q⟩:=h;obtain⟨u,rfl,t,rfl⟩:=vals1 r;have hn:=line63;exact len_str (by lia) ⟨.int z.length,H,I.tok _,⟨_,rfl⟩,q⟩
theorem zel_:CallR X (.type "list") (λxs H Q=>∃p ys,xs=[.ref p]/\(SqL X.K H p ys\/SqT X.K H p ys)/\∀l,H l=uD->Q (.ref l) (upd H l (.lst ys))):=by
 intro pins s σ H xs us Q I r h;obtain⟨p,ys,rfl,hq,q⟩:=h;obtain⟨u,rfl,rx⟩:=vals1 r;cases rx
 have fin:∀(aa:List aU),Vals ys aa->ys.length<=kR->∀(h':Heap) (c':Nat),(∀b o',s.heap.get? b=uC o'->h'.get? b=uC o') ->
   h'.get? s.heap.objs.size=uC {cls:=.type "list",dict:=uD,data:=.seq aa.toArray c',slots:=#[]}->EP X pins σ Q (.ref s.heap.objs.size) {s with heap:=h'}:=λaa r' hz h' c' kp e=>
  ⟨.ref s.heap.objs.size,_,I.laid (t':=s.toks) kp (kx _) (show ObjOk X.prog X.w _ h' _ (.lst ys)from⟨hz,aa,c',r',e⟩),rfl,q _ (I.hok.fresh (kx _))⟩
 rcases hq with hq |hq
 ·obtain⟨aa,r',pl,hz⟩:=I.list hq
  have hlen:=r'.length;obtain⟨o,ho,hc,n,hd⟩:=pl.isList;exact call_list_seq p (.inl rfl) ho hc hd (λh' c' kp e=>fin aa r' hz h' c' kp e) (by simp only[ky]<;>lia)
 ·obtain⟨aa,r',pl,hz⟩:=I.tuple hq
  have hlen:=r'.length;obtain⟨o,ho,hc,n,hd⟩:=pl;exact call_list_seq p (.inr rfl) ho hc hd (λh' c' kp e=>fin aa r' hz h' c' kp e) (by simp only[ky]<;>lia)
def tyV (K:Fgg)(T:String)(x:V)(H:Hp):Prop:=match x with
 |.str _=>T="str"
 |.int _=>T="int"
 | .ref p=>(T="list" /\ ∃xs,SqL K H p xs)\/(T="tuple" /\ ∃o,K.lookup p=uC o/\o.cls=.type "tuple" /\ o.dict=uD) \/
   (T="dict" /\ ((∃kvs,H p=uC (.dK kvs))\/∃kvs,H p=uC (.dT kvs)))\/(T="set" /\ ∃S n,H p=uC (.set S n))
 |_=>False
theorem znQ_ {pins:Pnn}{σ:St}{H:Hp}{s:kn}{T:String}{x:V}{v:aU}(I:Inv X pins σ H s)(r:RelV x v)(ty:tyV X.K T x H):
  s.TypeIs v T/\∀a,v=.ref a->∃ob,s.heap.get? a=uC ob/\ob.dict=uD:=by
 cases x with
 |str z=>
  obtain⟨t,rfl⟩:=r;cases(show T="str" from ty)
  exact⟨typeIs_str s z t,λ_ e=>nomatch e⟩
 |int i=>
  obtain⟨t,rfl⟩:=r;cases(show T="int" from ty)
  exact⟨typeIs_int s i t,λ_ e=>nomatch e⟩
 |ref p=>
  cases r;rcases ty with⟨rfl,xs,hq⟩|⟨rfl,o,hk,hc,hd⟩|⟨rfl,hk⟩|⟨rfl,S,n,hk⟩
  ·obtain⟨aa,_,pl,_⟩:=I.list hq
   refine⟨pl.isList.typeIs,λa e=>?_⟩
   cases e;obtain⟨o,n,e,c,hd,_⟩:=pl;exact⟨o,e,hd⟩
  ·refine⟨⟨o,I.kIn p o hk,hc⟩,λa e=>?_⟩
   cases e;exact⟨o,I.kIn _ o hk,hd⟩
  ·have z:∃o,s.heap.get? p=uC o/\o.ExactDict:=by
    rcases hk with⟨kvs,hk⟩|⟨kvs,hk⟩
    ·obtain⟨_,_,_,_,o,_,_,e,ex,_⟩:=I.hok p _ hk
     exact⟨o,e,ex⟩
    ·obtain⟨_,_,_,_,o,_,_,e,ex,_⟩:=I.hok p _ hk
     exact⟨o,e,ex⟩
   obtain⟨o,e,ex⟩:=z;refine⟨⟨o,e,ex.1⟩,λa e2=>?_⟩
   cases e2;exact⟨o,e,ex.2.1⟩
  ·obtain⟨o,_,_,_,e,ex,_⟩:=I.hok p _ hk
   refine⟨⟨o,e,ex.1⟩,λa e2=>?_⟩
   cases e2;exact⟨o,e,ex.2.1⟩
 |_=>exact lL ty
def tBM0 (K:Fgg)(T:String)(r:V->List V->Hp->VK->Prop)(to:TE):TE:=λσ H Q=>to σ H λx H1=>tyV K T x H1/\r x [] H1 Q
def tBM (K:Fgg)(T:String)(r:V->List V->Hp->VK->Prop)(to:TE)(t:TA):TE:=λσ H Q=>to σ H λx H1=>tyV K T x H1/\t σ H1 λxs H2=>r x xs H2 Q
variable {o e:k8}{es:List k8}{to:TE}{t:TA}{name:Str}{apos ao:Pos}{T id:String}{r:V->List V->Hp->VK->Prop}
theorem zmP_ (pa:PlainAttrs T)(slot:Slot T name id)(dX:typeOf (.builtin id)=pure (.type "method_descriptor"))(hm:MtR X id r)(ho:PE X o to)
  (bW:attributeBase o name X.env (eval o X.env)=eval o X.env:=by rfl) (bT:(apos.endLine == ao.line)=uE:=by rfl):PE X (.Call (.Attribute o name apos) [] [] ao) (tBM0 X.K T r to):=by
 intro pins s σ H Q I h;refine wpAny_Call_method0_late bW bT (thn (ho pins s σ H _ I h) λv s1 af=>?_)
 obtain⟨x,H1,I1,r1,ty,q1⟩:=af;obtain⟨h1,h2⟩:=znQ_ I1 r1 ty;exact⟨T,id,pa,slot,dX,h1,h2,Calls.callWith_builtin rfl (PySem.evalArgs_none (hm pins s1 σ H1 x [] v [] Q I1 r1 .nil q1))⟩
theorem zoz_ (pa:PlainAttrs T)(slot:Slot T name id)(dX:typeOf (.builtin id)=pure (.type "method_descriptor"))(hm:MtR X id r)(ho:PE X o to)(ha:PA X (e::es) t)
  (bW:attributeBase o name X.env (eval o X.env)=eval o X.env:=by rfl)
  (gE:((nX ao (lJ (e::es) X.env)).all (λx=>!x.1) && (qy ao (pv [] X.env)).all (λx=>x.1.isSome)
   && decide ((e::es).length+([]:List Keyword).length+(if([]:List Keyword).isEmpty then 0 else 1)<30))=uE:=by rfl)
  (bT:(apos.endLine == ao.line)=uE:=by rfl) (hs:lJ (e::es) X.env=(uF,eval e X.env)::lJ es X.env:=by rfl) (cX:(nX ao (lJ es X.env)).any (·.1)=uF:=by rfl):
  PE X (.Call (.Attribute o name apos) (e::es) [] ao) (tBM X.K T r to t):=by
 intro pins s σ H Q I h;refine wpAny_Call_method_late bW gE bT rfl (thn (ho pins s σ H _ I h) λv s1 af=>?_)
 obtain⟨x,H1,I1,r1,ty,q1⟩:=af;obtain⟨h1,h2⟩:=znQ_ I1 r1 ty;refine⟨T,id,pa,slot,dX,h1,h2,?_⟩;have hA:=ha ao pins s1 σ H1 _ I1 q1;rw[hs]at hA ⊢;refine Calls.callWith_builtin (by show(uF ||(nX ao (lJ es X.env)).any (·.1))=uF;rw[cX]<;>rfl) (Calls.evalArgs_plain ?_)
 exact thn hA λus s2 ⟨vs,H2,I2,r2,q2⟩=>hm pins s2 σ H2 x vs v us Q I2 r1 r2 q2
end
def MtM (X:Cx)(id:String)(r:V->List V->Hp->VK->Prop):Prop:=
 ∀(pins:Pnn) (s:kn) (σ:St) (H:Hp) (x:V) (xs:List V) (v:aU) (us:List aU) (Q:VK),Inv X pins σ H s->RelV x v->Vals xs us->r x xs H Q ->
  lC (model X.prog X.w) X.A (call (.builtin id) (v::us)) (EP X pins σ Q) X.xe s
theorem Vals.one:∀{x:V}{us:List aU},Vals [x] us->∃u,us=[u]/\RelV x u
 |_,_,.cons r .nil=>⟨_,rfl,r⟩
theorem Vals.dropLast {xs:List V}{us:List aU}(h:Vals xs us):Vals xs.dropLast us.dropLast:=by
 induction h with
 |nil=>exact .nil
 |cons r t ih=>
  cases t with
  |nil=>exact .nil
  |cons q t'=>exact .cons r ih
theorem Vals.rep {xs:List V}{us:List aU}(h:Vals xs us):∀k:Nat,Vals (kY k xs).flatten (kY k us).flatten
 |0=>.nil
 |k+1=>by
  rw[mE,mE,nS,nS];exact Vals.append h (Vals.rep h k)
theorem zm8_ {α:Type}(l:List α):l.eraseIdx (l.length-1)=l.dropLast:=by
 induction l with
 |nil=>rfl
 |cons a r ih=>
  cases r with
  |nil=>rfl
  |cons b r=>
   have e:(a::b::r).length-1=((b::r).length-1)+1:=by
    have h1:(a::b::r).length=r.length+2:=rfl;have h2:(b::r).length=r.length+1:=rfl;lia
   rw[e,List.eraseIdx_cons_succ,ih]
   all_goals rfl
theorem zeU_ (aa:List aU):∀(k:Nat) (acc:List aU),
  qg (λx1 x2=>x1++x2) acc.toArray (kY k aa.toArray)=(acc++(kY k aa).flatten).toArray
 |0,acc=>by simp
 |k+1,acc=>by
  have e:acc.toArray++aa.toArray=(acc++aa).toArray:=by simp
  have e2:(acc++aa)++(kY k aa).flatten=acc++(kY (k+1) aa).flatten:=by
   rw[mE,nS,m9]
  rw[<- e2,<- zeU_ aa k (acc++aa),<- e,mE,pB]
section
variable {X:Cx}{pins:Pnn}{σ:St}{H:Hp}{s:kn}{l:kz}{xs ys:List V}
theorem Inv.lset {aa its':List aU}{n:Nat}{f:Array aU->Array aU}{t':Nat}(I:Inv X pins σ H s)(hH:H l=uC (.lst xs))
  (e:s.heap.get? l=uC {cls:=.type "list",data:=.seq aa.toArray n}) (hf:f aa.toArray=its'.toArray) (hv:Vals ys its') (hz:ys.length<=kR):
  Inv X pins σ (upd H l (.lst ys)) {s with heap:=s.heap.update l (lH f),toks:=t'}:=by
 have q:=PySem.IsL.update e f;rw[hf]at q;refine I.write (x:=l) (e:=l) (by rw[hH];exact trivial) (.inl rfl) (λb' u hb hu=>(qf s.heap (lH f) (oO hb)).trans hu) ⟨_,q⟩ ?_
 exact⟨hz,its',_,hv,q⟩
theorem Inv.lnew {aa:List aU}{t':Nat}(I:Inv X pins σ H s)(hv:Vals ys aa)(hz:ys.length<=kR):
  Inv X pins σ (upd H s.heap.objs.size (.lst ys)) {s with heap:=s.heap.push {cls:=.type "list",data:=.seq aa.toArray},toks:=t'}:=
 I.laid (λ_ _ q=>kq _ q) (kx _) ⟨hz,aa,0,hv,ll _ rfl⟩
theorem Inv.fresh (I:Inv X pins σ H s):H s.heap.objs.size=uD:=I.hok.fresh (kx _)
theorem Inv.lstM (I:Inv X pins σ H s)(hH:H l=uC (.lst xs)):xs.length<=kR/\∃(aa:List aU) (n:Nat),Vals xs aa/\xs.length=aa.length/\s.heap.get? l=uC {cls:=.type "list",data:=.seq aa.toArray n}:=by
 obtain⟨z,aa,n,r,e⟩:=I.hok l _ hH;exact⟨z,aa,n,r,r.length,e⟩
theorem notLongL {n:Nat}(h:n<=kR):n5 n=uF:=by
 unfold n5;exact decide_eq_false (by lia)
end
section
variable {X:Cx}
def rAppend:V->List V->Hp->VK->Prop:=λx vs H Q=>∃l xs y,x=.ref l/\vs=[y]/\H l=uC (.lst xs)/\xs.length<kR/\Q .non (upd H l (.lst (xs++[y])))
theorem zcM_:MtM X "list.append" rAppend:=by
 intro pins s σ H x vs v us Q I rx rv h;obtain⟨l,xs,y,rfl,rfl,hH,hz,q⟩:=h;cases rx;obtain⟨u,rfl,ru⟩:=rv.one;obtain⟨z,aa,n,r,hl,e⟩:=I.lstM hH;refine call_meets F.slot_list_append ⟨_,e,rfl⟩ F.entry_list_append (F.args_list_append_2 _ _) (PySem.list_append l aa.toArray n u (by rw[ky];lia)) ⟨e,?_⟩
 refine⟨.non,_,I.lset (its':=aa++[u]) hH e (by simp) (r.append (.cons ru .nil)) ?_,rfl,q⟩
 rw[kX,nG];lia
def rExtend:V->List V->Hp->VK->Prop:=λx vs H Q=>∃l b xs zs,x=.ref l/\vs=[.ref b]/\H l=uC (.lst xs)/\H b=uC (.lst zs)/\xs.length+zs.length<=kR/\Q .non (upd H l (.lst (xs++zs)))
theorem ze1_:MtM X "list.extend" rExtend:=by
 intro pins s σ H x vs v us Q I rx rv h;obtain⟨l,b,xs,zs,rfl,rfl,hH,hB,hz,q⟩:=h;cases rx;obtain⟨u,rfl,ru⟩:=rv.one;cases ru;obtain⟨z,aa,n,r,hl,e⟩:=I.lstM hH;obtain⟨z2,aj,n2,r2,fE,e2⟩:=I.lstM hB;have hsz:aa.toArray.size+aj.toArray.size<=kR:=by rw[ky,ky];lia
 have bS:¬(!aa.toArray.isEmpty && n5 (aa.toArray.size+aj.toArray.size))=uE:=by
  rw[notLongL hsz,Bool.and_false];exact mh
 refine call_meets F.slot_list_extend ⟨_,e,rfl⟩ F.entry_list_extend (F.args_list_extend_2 _ _)
  (AutoSeq1.list_extend_list_list_0 l aa.toArray n b aj.toArray n2 bS (by rw[ky];lia) (by lia)) ⟨e,e2,?_⟩
 refine⟨.non,_,I.lset (its':=aa++aj) hH e (by simp) (r.append r2) ?_,rfl,q⟩
 rw[kX];lia
def rCat:R2:=λx y H Q=>∃l b xs zs,x=.ref l/\y=.ref b/\H l=uC (.lst xs)/\H b=uC (.lst zs)/\xs.length+zs.length<=kR/\∀p,H p=uD->Q (.ref p) (upd H p (.lst (xs++zs)))
theorem zqo_:OpR X (nj .Add) rCat:=by
 intro pins s σ H x y v u Q I rx ry h;obtain⟨l,b,xs,zs,rfl,rfl,hH,hB,hz,q⟩:=h;cases rx;cases ry;obtain⟨z,aa,n,r,hl,e⟩:=I.lstM hH;obtain⟨z2,aj,n2,r2,fE,e2⟩:=I.lstM hB;refine PySem.P.add_list e e2 ?_ (by rw[ky,ky];lia)
 have ea:aa.toArray++aj.toArray=(aa++aj).toArray:=by simp
 rw[ea];exact⟨.ref _,_,I.lnew (t':=s.toks) (r.append r2) (by rw[kX];lia),rfl,q _ I.fresh⟩
def rRep:R2:=λx y H Q=>∃l k xs,x=.ref l/\y=.int k/\H l=uC (.lst xs) /\ -(2 ^ 63)<=k/\k<2 ^ 63/\xs.length*k.toNat<=kR /\
 ∀p,H p=uD->Q (.ref p) (upd H p (.lst (kY k.toNat xs).flatten))
theorem zi4_ {α:Type}(xs:List α)(k:Nat):(kY k xs).flatten.length=k*xs.length:=by
 induction k with
 |zero=>simp
 |succ k ih=>rw[mE,nS,kX,ih,Nat.succ_mul,Nat.add_comm]
theorem zqM_:OpR X (nj .Mult) rRep:=by
 intro pins s σ H x y v u Q I rx ry h;obtain⟨l,k,xs,rfl,rfl,hH,h1,h2,hz,q⟩:=h;cases rx;obtain⟨t,rfl⟩:=ry;obtain⟨z,aa,n,r,hl,e⟩:=I.lstM hH;have hlen:aa.toArray.size*k.toNat<=kR:=by rw[ky,<- hl];exact hz
 have gK:¬aa.toArray.size*k.toNat > (2 ^ 63-1) / 8:=by
  have:(kR:Nat)<=(2 ^ 63-1) / 8:=by decide
  lia
 have gD:¬(!Builtin.List.listFitsIndex k)=uE:=by
  rw[fitsIndex_both h1 h2];exact mh
 have bS:¬n5 (aa.toArray.size*k.toNat)=uE:=by
  rw[notLongL hlen];exact mh
 have gr:qg (λx1 x2=>x1++x2) #[] (kY (if aa.toArray.isEmpty=uE then 0 else k.toNat) aa.toArray)=(kY k.toNat aa).flatten.toArray:=by
  have f0:∀m:Nat,qg (λx1 x2=>x1++x2) #[] (kY m aa.toArray)=(kY m aa).flatten.toArray:=λm=>by
   have:=zeU_ aa m [];rw[mB]at this;exact this
  rw[f0];cases aa with
  |nil=>simp
  |cons a r'=>rw[if_neg (by simp)]
 refine wpAny_binaryOp_repeat_ref (T:="list") (U:="int") (by decide) ⟨_,e,rfl⟩ (λs'=>typeIs_int s' k t) noFill_list_mul F.fills_int_mul rY repeat_list F.slot_int_index.lookup
  (call_meets rY (typeIs_int s k t) F.entry_int_rmul (F.args_int_rmul_2 _ _) (int___rmul___int_list k t l aa.toArray n)
   ⟨e,rfl,⟨_,e,rfl⟩,call_meets F.slot_list_mul ⟨_,e,rfl⟩ F.entry_list_mul (F.args_list_mul_2 _ _) (AutoListH.list___mul___list_int_3 l aa.toArray n k t gD gK bS) ⟨e,?_⟩⟩)
 rw[gr];exact⟨.ref _,_,I.lnew (t':=s.toks) (r.rep k.toNat) (by rw[zi4_,rg];exact hz),rfl,q _ I.fresh⟩
end
end L2
namespace Att
open PySem PySem.W PySem.Calls PyProof.Rows
theorem zcp_ {P:Params}{h:Heap}:∀(ns:List Int) (vs:List aU),WellAll P h vs (ns.map WData.int)->IntsAre vs ns:=by
 intro ns;induction ns with
 |nil=>
  intro vs w;rw[nu]at w;cases w;exact .nil
 |cons n ns ih=>
  intro vs w;rw[kF]at w;cases w with
  |cons a b=>
   cases a;exact .cons _ _ (ih _ b)
theorem ziz_ {l:OpenLaw}{n:Nat}(hn:l.most=uC n){P:Params}{h:Heap}{args:List WData}{vals:List aU}
  (cz:l.row.toRowW.claim.pre args=uE) (gf:WellAll P h vals args):
  ∃a vs ns,vals=[mw a]/\args=[WData.list (ns.map WData.int)]/\h.get? a=uC {cls:=.type "list",data:=.seq vs.toArray}/\IntsAre vs ns/\ns.length<=n:=by
 have jf:WShape.hasAll [] args [.list .int]=uE:=(pre_splitW cz).1;have hc:l.pre.holds [] {args:=args}=uE:=(pre_splitW cz).2;obtain⟨d,r,rfl,h1,h2⟩:=hasAllW_cons jf;obtain rfl:=hasAllW_nil h2;obtain⟨xs,rfl,h3⟩:=hasW_list h1;obtain⟨ns,rfl⟩:=items_int h3;have hlen:ns.length<=n:=by
  unfold OpenLaw.pre at hc;have h4:(WTm.not (.lt (.lit (.int (n:Int))) (.len (.arg 0)))).holds [] {args:=[.list (ns.map .int)]}=uE:=by
   have h4:=(holds_andW hc).1;rw[hn]at h4;exact h4
  have h5:=condW_of h4 (w_not (w_lt w_lit (w_len_list (w_arg rfl))));rw[ko]at h5;refine pf λq=>?_
  have q':(n:Int)<((ns.length:Nat):Int):=by lia
  first
   |(rw[decide_eq_true q']at h5;exact absurd h5 (by decide))
   |(simp at h5;lia)
 cases gf with
 |cons w1 w2=>
  cases w2;cases w1 with
  |list ho bB=>exact⟨_,_,ns,rfl,rfl,ho,zcp_ ns _ bB,hlen⟩
theorem zin_ (l:OpenLaw)(args:List WData):l.row.toRowW.claim.post args (.bool uE) args=uE:=
 postW_of (r:=l.row.toRowW) (X:=(uE == uE))
  (show WShape.has [] (.bool uE) .bool=uE by first |rfl |decide |simp[WShape.has,WShape.arms,WShape.armsAll])
  (show(WTm.eq .res (.lit (.bool uE))).value [] {args:=args,res:=uC (.bool uE),after:=args}=uC (.bool (uE == uE))from w_eq_bool (w_res rfl) w_lit) rfl
section
end
end Att
namespace L2
open PySem PySem.Spec PyProof.Rows
theorem zaL_:∀{vs:List aU}{ns:List Int},IntsAre vs ns->Vals (ns.map V.int) vs
 |_,_,.nil=>.nil
 |_,_,.cons n t h=>.cons ⟨t,rfl⟩ (zaL_ h)
def Only (H:Hp):Prop:=∀b,H b=uD\/(∃o xs,H b=uC (.frz o (.lst xs)))\/∃p q,H b=uC (.tbl p q)
theorem zkH_ {P:lF}{w:lW}{K:Fgg}{mg mb:Str->Option aU}{CX:CXT}{k:Nat}{fa a:kz}{fd:mz}{x:Str}{sp:Sp}{ab:kn}{vs:List aU}{ns:List Int}
  (KX:K.In ab.heap) (cI:ab.heap.Ns lh mg) (hb:ab.heap.Ns builtinsNs mb) (gM:∀x:Str,x ≠ "__name__" -> mb x=nr x) (gw:ab.heap.NoLimit) (jH:∃bm ob,mg "__builtins__"=uC (.ref bm)/\bm≠builtinsNs/\ab.heap.get? bm=uC ob/\ob.cls=.type "module" /\ ob.dict=uC builtinsNs/\ob.data=.plain) (hg:ab.gens=#[])
  (ha:ab.heap.get? a=uC {cls:=.type "list",data:=.seq vs.toArray}) (hi:IntsAre vs ns) (hl:ns.length<=kR) (hr:Room k callerA)
  (F:∀base:Heap,K.In base->base.Ns lh mg->FnOk P w K mg base CX k fa fd [x] sp) (eQ:∀(s:kn) (u:aU),BindsTo s fd ⟨[u],[]⟩ [(x,u)])
  (dB:∀H:Hp,Only H->SqL K H a (ns.map V.int)->sp [.ref a] H (λv _=>v=.bl uE) λ_ _ _=>False)
  (gP:∀H e s',CX [] H ab (λ_ _ _=>False) e s'->False)
  (hT:∀Pt pos q,lamK K=uC (Pt,pos,q)->K.lookup Pt=uD/\isCodeTable ab.heap Pt/\ab.heap.get? Pt=uC {cls:=.none,data:=.fields #[]}):
  codeAny (model P w) callerA (.call (.ref fa) ⟨[.ref a],[]⟩) (λr s'=>r=.ok (.ret (.bool uE))/\OldK ab.heap s'.heap/\s'.os=ab.os/\AllBare s'.gens) ab:=by
 have rv:=zaL_ hi;have fW:=hi.length
 have core:∀H:Hp,Only H->SqL K H a (ns.map V.int)->HOk P w H ab.heap->Tb K H->(∀b,H b≠uD->b=a\/∃p q,lamK K=uC (b,p,q))->(H a≠uD->K.lookup a=uD) ->
   codeAny (model P w) callerA (.call (.ref fa) ⟨[.ref a],[]⟩) (λr s'=>r=.ok (.ret (.bool uE))/\OldK ab.heap s'.heap/\s'.os=ab.os/\AllBare s'.gens) ab:=by
  intro H hO hS hok jL hA hK;have aR:∀{b:kz}{o:sX},ab.heap.get? b=uC o->H b=uD->(hidT ab.heap H).get? b=uC o:=λe n=>zkh_ e n
  have cq:∀{b:kz}{o:sX}{es:Array DictEntry}{ep:Nat},ab.heap.get? b=uC o->o.data=.dict es ep->H b=uD:=λ{b o es ep} e d=>by
   cases q:H b with
   |none=>rfl
   |some u=>
    rcases hA b (by rw[q];simp)with e' |⟨p',q',e'⟩
    ·subst e'
     rw[ha]at e;cases e;have d':Data.seq vs.toArray _=Data.dict es ep:=d;cases d'
    ·have z:=(hT _ _ _ e').2.2
     rw[z]at e;cases e;cases d
  have fq:∀{b:kz}{m:Str->Option aU},ab.heap.Ns b m->(hidT ab.heap H).Ns b m:=λ{b m} ⟨o,es,ep,e,d,r⟩=>⟨o,es,ep,aR e (cq e d),d,r⟩
  have iE:K.In (hidT ab.heap H):=λb o e=>aR (KX b o e) (by
   cases q:H b with
   |none=>rfl
   |some u=>
    rcases hA b (by rw[q];simp)with e' |⟨p',q',e'⟩
    ·subst e'
     rw[hK (by rw[q];simp)]at e;cases e
    ·rw[(hT _ _ _ e').1]at e;cases e)
  have hM:Mod K mg (hidT ab.heap H):=⟨iE,fq cI,⟨mb,fq hb,gM⟩,let⟨mc,h1,h2⟩:=gw;⟨mc,fq h1,h2⟩,by
   obtain⟨bm,ob,b1,b2,b3,b4,b5,b6⟩:=jH;refine⟨bm,ob,b1,b2,aR b3 ?_,b4,b5,b6⟩;cases q:H bm with
   |none=>rfl
   |some u=>
    rcases hA bm (by rw[q];simp)with e' |⟨p',q',e'⟩
    ·subst e'
     rw[ha]at b3;cases b3;have z:qR "list"=qR "module":=b4;injection z with z;exact absurd z (by decide)
    ·have z:=(hT _ _ _ e').2.2
     rw[z]at b3;cases b3;cases b4⟩
  have e0:Env0 P w K mg (hidT ab.heap H) callerA [] ab H:=⟨rfl,hM,λb o e=>znx_ e,qd (zh3_ _ _),trivial,λb hb=>absurd (show b∈([]:List kz)from hb) (by simp),hok,.of_eq hg,jL⟩
  refine codeAny_mono ((F _ iE (fq cI)).run callerA [] ab H ⟨[.ref a],[]⟩ [.ref a] [.ref a] _ _ hr e0 (eQ ab (.ref a)) (.cons rfl .nil) (dB H hO hS)) λr s' h=>?_
  cases r with
  |error e=>exact(gP H e s' h).elim
  |ok fl=>
   cases fl with
   |next=>exact lL h
   |brk=>exact lL h
   |cont=>exact lL h
   |ret u=>
    obtain⟨v,H',os,bare,un,hok',r',q⟩:=h;have q':v=.bl uE:=q;subst q';obtain rfl:u=oh uE:=r';have both:∀b o,ab.heap.get? b=uC o->asItWas ab.heap s'.heap b o/\∃o',s'.heap.get? b=uC o':=λb o e=>by
     cases q:H b with
     |none=>
      have z:=un.keep b o e q (by intro z;exact absurd (show b∈([]:List kz)from z) (by simp)) (by simp)
      exact⟨.inl z,_,z⟩
     |some u=>
      rcases hO b with z |⟨ob,xs,z⟩|⟨p',q',z⟩
      ·rw[q]at z;cases z
      ·have z2:=un.frzs b ob _ z
       obtain⟨e1,_⟩:=hok b _ z;obtain⟨e2,_⟩:=hok' b _ z2;rw[e]at e1;cases e1;exact⟨.inl e2,_,e2⟩
      ·obtain⟨ps,e2,_⟩:=hok' b _ (un.tbls b p' q' z)
       rcases hA b (by rw[q];simp)with e' |⟨p1,q1,e'⟩
       ·subst e'
        obtain⟨j8,e3,_⟩:=hok b _ z;rw[ha]at e3;cases e3
       ·obtain⟨_,ht,e3⟩:=hT _ _ _ e'
        rw[e]at e3;cases e3;exact⟨.inr (.inl ⟨ht,rfl,#[],ps,rfl,by rw[Array.empty_append];exact e2⟩),_,e2⟩
    exact⟨rfl,⟨λb o e=>(both b o e).1,λb o e=>(both b o e).2⟩,os,bare⟩
 obtain⟨T,t1,t2,t3⟩:∃T:Hp,Tb K T/\(∀b u,T b=uC u->∃p q,lamK K=uC (b,p,q)/\u=.tbl p q)/\T a=uD:=by
  cases hq:lamK K with
  |none=>exact⟨λ_=>uD,λ_ _ _ e=>(by rw[hq]at e;cases e),λ_ _ e=>(by cases e),rfl⟩
  |some z=>
   obtain⟨Pt,pos,q⟩:=z;have na:a≠Pt:=λz=>by
    have e:=(hT _ _ _ hq).2.2;rw[<- z,ha]at e;cases e
   refine⟨λb=>if b=Pt then uC (.tbl pos q)else uD,λ_ _ _ e=>(by rw[hq]at e;cases e;exact if_pos rfl),λb u e=>?_,if_neg na⟩
   by_cases hb:b=Pt
   ·have e':=(if_pos hb).symm.trans e
    cases e';exact⟨pos,q,by rw[hb],rfl⟩
   ·have e':=(if_neg hb).symm.trans e
    cases e'
 have d6:∀(H:Hp) b p q,lamK K=uC (b,p,q)->ObjOk P w H ab.heap b (.tbl p q):=λH b p q e=>
  ⟨#[],(hT _ _ _ e).2.2,mJ,λcv z=>by cases z⟩
 cases hk:K.lookup a with
 |some o=>
  have e:=KX a o hk;rw[ha]at e;cases e;refine core T (λb=>?_) (.inr ⟨_,vs.toArray,_,hk,rfl,rfl,rfl,by rw[ky,fW];exact hl,by simpa using rv⟩) (λb u z=>?_) t1 (λb z=>?_) λz=>absurd t3 z
  ·cases q:T b with
   |none=>exact .inl rfl
   |some u=>obtain⟨p',q',_,rfl⟩:=t2 b u q;exact .inr (.inr ⟨p',q',rfl⟩)
  ·obtain⟨p',q',e1,rfl⟩:=t2 b u z;exact d6 _ _ _ _ e1
  ·cases q:T b with
   |none=>exact absurd q z
   |some u=>obtain⟨p',q',e1,rfl⟩:=t2 b u q;exact .inr ⟨p',q',e1⟩
 |none=>
  refine core (upd T a (.frz {cls:=.type "list",data:=.seq vs.toArray} (.lst (ns.map V.int)))) (λb=>?_) (.inl (.inr ⟨{cls:=.type "list",data:=.seq vs.toArray},ze_⟩)) (λb u z=>?_) (λp' pos q e=>?_) (λb z=>?_) λ_=>hk
  ·by_cases hb:b=a
   ·rw[hb];exact .inr (.inl ⟨_,_,ze_⟩)
   ·rw[zc_ hb]
    cases q:T b with
    |none=>exact .inl rfl
    |some u=>obtain⟨p',q',_,rfl⟩:=t2 b u q;exact .inr (.inr ⟨p',q',rfl⟩)
  ·by_cases hb:b=a
   ·subst hb
    rw[ze_]at z;cases z;exact⟨ha,by rw[ko];exact hl,vs,_,rv,ha⟩
   ·rw[zc_ hb]at z
    obtain⟨p',q',e1,rfl⟩:=t2 b u z;exact d6 _ _ _ _ e1
  ·have z:=t1 p' pos q e
   rw[zc_ (λw=>by rw[w,t3]at z;cases z)];exact z
  ·by_cases hb:b=a
   ·exact .inl hb
   ·rw[zc_ hb]at z
    cases q:T b with
    |none=>exact absurd q z
    |some u=>obtain⟨p',q',e1,rfl⟩:=t2 b u q;exact .inr ⟨p',q',e1⟩
def lamOk (q:lF)(K:Fgg):Bool:=match lamK K with
 |none=>uE
 |some (P,_,_)=>(K.lookup P).isNone && ((recsOf q).find? λe=>e.name==(oF "put_in_order")).isSome
theorem znb_ {p:lF}{K:Fgg}{h:Heap}{loose:List Str}{fV:ExcName->Option aU}{mg mb:Str->Option aU}(T:Top p loose fV mg mb h)(X:K.In h)(hq:lamOk p K=uE):
  ∀Pt pos q,lamK K=uC (Pt,pos,q)->K.lookup Pt=uD/\isCodeTable h Pt/\h.get? Pt=uC {cls:=.none,data:=.fields #[]}:=λPt pos q e=>by
 unfold lamOk at hq;rw[e]at hq;obtain⟨h1,h2⟩:=lP.mp hq;obtain⟨d,hd⟩:=pV.mp h2;obtain⟨c,ht⟩:∃c,so K "put_in_order"=uC (c,Pt):=by
  unfold lamK at e;split at e
  ·split at e
   ·split at e
    ·rename_i z;cases e;exact⟨_,z⟩
    ·cases e
   ·cases e
  ·cases e
 obtain⟨a,b⟩:=W.tab_of T X hd ht;exact⟨nJ.mp h1,(a.tab b).isCodeTable,b⟩
noncomputable def inClass (s:lV)(j:Nat):lV:=match s with
 |.ClassDef _ _ _ body _ _ _ _ _ _ _=>body.getD j (.Pass ⟨0,0,0,0⟩)
 |_=>.Pass ⟨0,0,0,0⟩
noncomputable def defArgs (s:lV):Arguments:=match s with
 |.FunctionDef _ a _ _ _ _ _ _ _ _=>a
 |_=>{posonlyargs:=[],args:=[],vararg:=uD,kwonlyargs:=[],kw_defaults:=[],kwarg:=uD,defaults:=[]}
noncomputable def defBody (s:lV):List lV:=match s with
 |.FunctionDef _ _ b _ _ _ _ _ _ _=>b
 |_=>[]
noncomputable def defScope (s:lV):Scope:=match s with
 |.FunctionDef _ _ _ _ _ _ sc _ _ _=>sc
 |_=>{kind:=.function,names:=[],isGenerator:=uF,isCoroutine:=uF}
abbrev CX0:CXT:=λ_ _ _ _ _ _=>False
abbrev E0:XK:=λ_ _ _=>False
structure Fun (K:Fgg)(x qual:Str)(st:lV)(f:kz)(fd:mz):Prop where
 ex:∃(oc:aU) (od:Option kz) (kV doc pm:aU) (an:Option kz) (ae ct:aU) (aq:Array (Option aU)),
  fd=W.fnOf x qual (defArgs st) (defBody st) (defScope st) .none kV doc pm an ae ct/\K.lookup f=uC ⟨oc,od,.func fd,aq⟩/\pq K ae qual=uE
 kp:oe K (.ref f)=uE
section
variable {K:Fgg}
theorem Fun.binds {x qual:Str}{st:lV}{f:kz}{fd:mz}{ps:List Str}(F:Fun K x qual st f fd)
  (h:∀(kV doc pm:aU) (an:Option kz) (ae ct:aU) (us:List aU),us.length=ps.length->bindArgs (W.fnOf x qual (defArgs st) (defBody st) (defScope st) .none kV doc pm an ae ct) ⟨us,[]⟩=pure (ps.zip us)):Binds K fd ps []:=by
 obtain⟨oc,od,kV,doc,pm,an,ae,ct,aq,rfl,lk,av⟩:=F.ex;exact .all (h kV doc pm an ae ct)
theorem znk_ {x qual:Str}{st:lV}{f:kz}{oc:aU}{od an:Option kz}{aq:Array (Option aU)}{kV doc pm ae ct:aU}(l:K.lookup f=uC ⟨oc,od,.func (W.fnOf x qual (defArgs st) (defBody st) (defScope st) .none kV doc pm an ae ct),aq⟩)
  (c:pq K ae qual=uE) (k:oe K (.ref f)=uE):Fun K x qual st f (W.fnOf x qual (defArgs st) (defBody st) (defScope st) .none kV doc pm an ae ct):=⟨⟨oc,od,kV,doc,pm,an,ae,ct,aq,rfl,l,c⟩,k⟩
end
def Same (H H':Hp):Prop:=∀b o,H b=uC o->H' b=uC o
theorem Same.refl (H:Hp):Same H H:=λ_ _ h=>h
theorem Same.trans {H H1 H2:Hp}(a:Same H H1)(b:Same H1 H2):Same H H2:=λc o h=>b c o (a c o h)
theorem Same.free {H H':Hp}(e:Same H H'){l:kz}(h:H' l=ui):H l=ui:=by
 cases q:H l with
 |none=>rfl
 |some o=>
  rw[e l o q]at h;cases h
theorem Same.seq {K:Fgg}{H H':Hp}{a:kz}{xs:List V}(e:Same H H')(h:SqL K H a xs):SqL K H' a xs:=by
 rcases h with(h |⟨o,h⟩)|h
 ·exact .inl (.inl (e _ _ h))
 ·exact .inl (.inr ⟨o,e _ _ h⟩)
 ·exact .inr h
noncomputable def Itp (n:Nat)(f:Nat->V):It:=⟨λi _=>i<n,λi H x H'=>H'=H/\x=f i,λi _=>n<=i⟩
noncomputable def ownTups:List String:=["enumerate", "zip", "dict_itemiterator", "dict_reverseitemiterator", "odict_iterator", "itertools.zip_longest", "itertools.pairwise"]
theorem zir_ {P:lF}{w:lW}{K:Fgg}{tg:k8}{it:kz}{n:Nat}{f:Nat->V}{Pw:Nat->aU->Prop}{St:Nat->Heap->Prop}
  (W:∀A:lY,A.handled=uD->Walks P w A it [it] [it] n Pw St) (hv:∀i v,i<n->Pw i v->RelV (f i) v)
  (ho:∀i h,St i h->∃o nm vs,h.get? it=uC o/\o.cls=.type nm/\o.data=.fields vs/\ownTups.contains nm=uF)
  (dY:∀(A:lY) (i:Nat) (s:kn) (Q:aU->kn->Prop) (E:aU->kn->Prop),St i s.heap->Q (.ref it) s->lC (model P w) A (pyIter (.ref it)) Q E s)
  (eo:∀i h h',St i h->(∀b∈[it],∀o,h.get? b=uC o->h'.get? b=uC o)->St i h'):
  Turn P w K tg (Itp n f) [it] it (λi h=>i<=n/\St i h) where
 mem:=by simp
 obj:=λi h st b hb=>by
  have e:b=it:=by simpa using hb
  subst e;obtain⟨o,nm,vs,e,c,d,_⟩:=ho i h st.2;exact⟨o,e,λv z=>by rw[d]at z;cases z⟩
 keep:=λi h h' st k=>⟨st.1,eo i h h' st.2 k⟩
 item:=by
  intro X hP hw hK hc i pins s σ H E I hf st hg;subst hP hw hK;obtain⟨f0,f1,f2,f3,f4,f5⟩:=hf it (by simp)
  have hi:i<n:=hg;refine(W X.A (I.ok.hd hc)).item i s _ _ hi st.2 λv h' tk gh st' kk=>?_
  have I1:Inv X pins σ H {s with heap:=h',toks:=tk}:=I.turned (λb o hb e=>kk b o (by simpa using hb) e) f0 f1 f3 f4 f5
  obtain⟨o,nm,vs,e,c,d,hn⟩:=ho _ _ st';exact⟨_,rfl,zoG_ (s:={s with heap:=h',toks:=tk}) (n:=nm) e c d hn ⟨f i,H,I1,hv i v hi gh,⟨rfl,rfl⟩,⟨hi,st'⟩,λb hb=>(hf b hb).1⟩⟩
 done:=by
  intro X hP hw hK hc i pins s σ H E I hf st hg;subst hP hw hK;obtain⟨f0,f1,f2,f3,f4,f5⟩:=hf it (by simp)
  have hi:n<=i:=hg;have e:i=n:=r9 st.1 hi;subst e;exact(W X.A (I.ok.hd hc)).done s _ _ st.2 λh' tk kk=>⟨rfl,I.turned (λb o hb e=>kk b o (by simpa using hb) e) f0 f1 f3 f4 f5⟩
 self:=λA i s Q E st h=>dY A i s Q E st.2 h
def sgn (x:Str)(i:Nat):V:=.str ⟨#[x.cps.getD i 0]⟩
theorem zif_ {P:lF}{w:lW}{it:kz}{x:Str}{t:Tok}(A:lY)(hA:A.handled=uD):Walks P w A it [it] [it] x.cps.size (SignAt x) (λi h=>h.IsStrIter it (mj x) x t i):=by
 cases ha:x.cps.all (·<128)
 ·have e:mj x="str_iterator":=by simp[mj,ha]
  rw[e];exact Walks.strWide hA it x t
 ·have e:mj x="str_ascii_iterator":=by simp[mj,ha]
  rw[e];exact Walks.strAscii hA it x t
theorem zdV_ {x:Str}{i:Nat}{v:aU}(h:SignAt x i v):RelV (sgn x i) v:=by
 obtain⟨c,u,e,rfl⟩:=h;refine⟨u,?_⟩;have:x.cps.getD i 0=c:=by simp[mP,e]
 rw[this]
theorem zcG_ (x:Str):ownTups.contains (mj x)=uF:=by
 unfold mj;split<;>decide
theorem zjN_ {P:lF}{w:lW}{K:Fgg}{tg:k8}(it:kz)(x:Str)(t:Tok):Turn P w K tg (Itp x.cps.size (sgn x)) [it] it (λi h=>i<=x.cps.size/\h.IsStrIter it (mj x) x t i):=by
 refine zir_ (Pw:=SignAt x) (λA hA=>zif_ A hA) (λi v _ h=>zdV_ h) (λi h st=>?_) (λA i s Q E st h=>?_) (λi h h' st k=>?_)
 ·obtain⟨o,e,c,d⟩:=st
  exact⟨o,_,_,e,c,d,zcG_ x⟩
 ·cases ha:x.cps.all (·<128)
  ·have e:mj x="str_iterator":=by simp[mj,ha]
   rw[e]at st;exact wpAny_pyIter_striter_wide st h
  ·have e:mj x="str_ascii_iterator":=by simp[mj,ha]
   rw[e]at st;exact wpAny_pyIter_striter_ascii st h
 ·obtain⟨o,e,r⟩:=st
  exact⟨o,k it (by simp) o e,r⟩
section
end
theorem Inv.turnedL {X:Cx}{pins:Pnn}{σ:St}{H:Hp}{s:kn}{h':Heap}{t':Nat}{ch:List kz}(I:Inv X pins σ H s)(k:∀b o,b∉ch->s.heap.get? b=uC o->h'.get? b=uC o)
  (hf:∀b∈ch,FpOk X pins H b):Inv X pins σ H {s with heap:=h',toks:=t'}:=by
 have dN:∀b u,H b=uC u->b∉ch:=λb u e z=>by rw[(hf b z).1]at e;cases e
 refine I.step (g':=s.gens) (d':=s.drawn) (ch:=ch) (λb hb=>?_) (λb o _ _ hc e _=>k b o hc e) (λb o _ _ hc e _=>⟨o.slots,k b o hc e⟩) (λ_ _ _ _ n=>n)
  (λb o hc e=>⟨o,k b o hc e⟩) (λ_ _ e=>e) (λ_ _ _ e=>e) (λ_ _ _ e=>e) (λm hm=>?_) (λb u e=>?_) I.bare
 ·obtain⟨f0,f1,f2,f3,f4,f5⟩:=hf b hb
  exact⟨f3,f1,f4,f5⟩
 ·obtain⟨o,es,ep,ho,r⟩:=hm
  exact⟨o,es,ep,k _ o (λz=>(hf _ z).2.1 rfl) ho,r⟩
 ·refine(I.hok b u e).stay (λc v hc q=>k c v ?_ q) (λ_ q=>q) λ_ _ q=>q
  rcases hc with z |z
  ·rw[z];exact dN b u e
  ·exact dN c _ z
theorem zeS_ {X:Cx}{pins:Pnn}{σ:St}{H:Hp}{s:kn}{h1:Heap}{tk:Nat}{fh:Tok}{e it:kz}{i:Nat}{x:aU}{y:V}{St:Heap->Prop}{elts:List k8}{kk:Nat}{pos:Pos}{E:aU->kn->Prop}
  (I:Inv X pins σ H s) (hf:∀b∈[e,it],FpOk X pins H b) (he:e<s.heap.objs.size) (hit:it<s.heap.objs.size) (cC:e≠it) (bG:IsEnumOut h1 e it ((i:Int)+1) x s.heap.objs.size) (ry:RelV y x)
  (ht:h1.get? s.heap.objs.size=uC {cls:=.type "tuple",data:=.seq #[.int i fh,x]}) (hz:h1.objs.size=s.heap.objs.size+1) (hk:∀b o,b≠e->b≠it->s.heap.get? b=uC o->h1.get? b=uC o)
  (jM:∀h2,oB e h1 h2->St h2):
  lC (model X.prog X.w) X.A (letOwnedTupleGo (.Tuple elts kk pos) (.ref e) (.ref s.heap.objs.size)) (λ_ s2=>∃z H',Inv X pins σ H' s2/\RelV z (.ref s.heap.objs.size) /\
   (∃p,H p=uD/\z=.ref p/\H'=upd H p (.tup [.int i,y]))/\(IsEnum s2.heap e it ((i+1:Nat):Int) x/\St s2.heap)/\∀b∈[e,it],H' b=uD) E {s with heap:=h1,toks:=tk}:=by
 refine wpAny_letOwnedTupleGo_enum bG λh2 eG aQ=>?_
 replace aQ:oB e h1 h2:=aQ;have hp:H s.heap.objs.size=uD:=I.hok.fresh (kx _);have aZ:s.heap.objs.size≠e:=oE he;have jt:s.heap.objs.size≠it:=oE hit;have I1:Inv X pins σ (upd H s.heap.objs.size (.tup [.int i,y])) {s with heap:=s.heap.push {cls:=.type "tuple",data:=.seq #[.int i fh,x]},toks:=tk}:=by
  refine I.laid (λb u q=>kq _ q) (kx _) ⟨?_,[.int i fh,x],.cons ⟨_,rfl⟩ (.cons ry .nil),⟨_,ll _ rfl,rfl,_,rfl⟩⟩
  show 2<=kR
  decide
 have eF:∀b∈[e,it],FpOk X pins (upd H s.heap.objs.size (.tup [.int i,y])) b:=λb hb=>by
  obtain⟨f0,r⟩:=hf b hb;refine⟨?_,r⟩;rw[zc_ (by rcases k9.mp hb with rfl |hb;exact aZ.symm;rcases k9.mp hb with rfl |hb;exact jt.symm;cases hb)]
  exact f0
 have I2:Inv X pins σ (upd H s.heap.objs.size (.tup [.int i,y])) {s with heap:=h2,toks:=tk}:=by
  refine Inv.turnedL (s:={s with heap:=s.heap.push {cls:=.type "tuple",data:=.seq #[.int i fh,x]},toks:=tk}) (ch:=[e,it]) I1 (λb o hb q=>?_) eF
  have ib:b≠e:=λz=>hb (by simp[z])
  have iX:b≠it:=λz=>hb (by simp[z])
  refine(aQ.2 b ib).trans ?_;rcases qz q with⟨rfl,rfl⟩|q'
  ·exact ht
  ·exact hk b o ib iX q'
 refine⟨.ref s.heap.objs.size,_,I2,rfl,⟨s.heap.objs.size,hp,rfl,rfl⟩,⟨?_,jM h2 aQ⟩,λb hb=>(eF b hb).1⟩
 have:((i+1:Nat):Int)=(i:Int)+1:=by push_cast;rfl
 rw[this];exact eG
def Ite (K:Fgg)(l:kz):It:=
 ⟨λi H=>∃xs x,SqL K H l xs/\xs[i]?=uC x,λi H y H'=>∃p x,(∀xs,SqL K H l xs->xs[i]?=uC x)/\H p=uD/\y=.ref p/\H'=upd H p (.tup [.int i,x]),λi H=>∃xs,SqL K H l xs/\xs.length<=i⟩
theorem zgo_ {P:lF}{w:lW}{K:Fgg}{elts:List k8}{kk:Nat}{pos:Pos}(e it l:kz)(cC:e≠it):
  Turn P w K (.Tuple elts kk pos) (Ite K l) [e,it] e (λi h=>(∃old,IsEnum h e it (i:Nat) old)/\h.IsListIter it l i) where
 mem:=by simp
 obj:=λi h st b hb=>by
  obtain⟨⟨old,he⟩,o,ho,c,d⟩:=st;rcases k9.mp hb with rfl |hb
  ·exact⟨_,he,λv z=>by cases z⟩
  ·have e:b=it:=by simpa using hb
   subst e;exact⟨o,ho,λv z=>by rw[d]at z;cases z⟩
 keep:=λi h h' st k=>by
  obtain⟨⟨old,he⟩,hit⟩:=st;exact⟨⟨old,k e (by simp) _ he⟩,hit.at λo q=>k it (by simp) o q⟩
 item:=by
  intro X hP hw hK hc i pins s σ H E I hf st hg;subst hP hw hK;obtain⟨xs,x,hq,hx⟩:=hg;obtain⟨aa,rv,p,hz⟩:=I.list hq;obtain⟨u,hu,ru⟩:=rv.get hx;obtain⟨⟨old,he⟩,hit⟩:=st;refine wpAny_pyNext_enum_item he hit p.isList (x:=u) (by simpa using hu) cC λh1 bG c8 gj gd c7=>?_
  refine⟨_,rfl,?_⟩;have gG:e<s.heap.objs.size:=kJ he;have hil:it<s.heap.objs.size:=by obtain⟨o,ho,_⟩:=id hit;exact kJ ho
  refine thn (zeS_ (St:=λh2=>h2.IsListIter it l (i+1)) I hf gG hil cC bG ru gj gd c7 λh2 hs=>c8.extBut hs.extBut cC.symm) λ_ s2 q=>?_
  obtain⟨z,H',I2,rz,⟨p,hp,rfl,rfl⟩,⟨eG,hit2⟩,fr⟩:=q;exact⟨.ref p,_,I2,rz,⟨p,x,λys hy=>by rw[I.list_inj hy hq];exact hx,hp,rfl,rfl⟩,⟨⟨u,eG⟩,hit2⟩,fr⟩
 done:=by
  intro X hP hw hK hc i pins s σ H E I hf st hg;subst hP hw hK;obtain⟨xs,hq,hx⟩:=hg;obtain⟨aa,rv,p,hz⟩:=I.list hq;obtain⟨⟨old,he⟩,hit⟩:=st;have hl:=rv.length;obtain⟨f0,f1,f2,f3,f4,f5⟩:=hf it (by simp)
  exact wpAny_pyNext_enum_end (I.ok.hd hc) he hit p.isList (by simp;lia) λh' eb=>⟨rfl,I.turned (t':=s.toks) (λb o hb e=>eb b o hb e) f0 f1 f3 f4 f5⟩
 self:=λ_ _ _ _ _ st h=>by
  obtain⟨⟨old,he⟩,_⟩:=st;exact wpAny_pyIter_enum he h
theorem ze7_ {P:lF}{w:lW}{it:kz}{x:Str}{t:Tok}(A:lY)(hA:A.handled=uD):Draws P w A it [it] x.cps.size (λi v=>∃c u,x.cps[i]?=uC c/\v=.str ⟨#[c]⟩ u) (λi h=>h.IsStrIter it (mj x) x t i):=by
 cases ha:x.cps.all (·<128)
 ·have e:mj x="str_iterator":=by simp[mj,ha]
  rw[e];exact Draws.strWide hA it x t
 ·have e:mj x="str_ascii_iterator":=by simp[mj,ha]
  rw[e];exact Draws.strAscii hA it x t
def Ites (n:Nat)(f:Nat->V):It:=
 ⟨λi _=>i<n,λi H y H'=>∃p,H p=uD/\y=.ref p/\H'=upd H p (.tup [.int i,f i]),λi _=>n<=i⟩
theorem zhr_ {P:lF}{w:lW}{K:Fgg}{elts:List k8}{kk:Nat}{pos:Pos}(e it:kz)(x:Str)(t:Tok)(cC:e≠it):
  Turn P w K (.Tuple elts kk pos) (Ites x.cps.size (sgn x)) [e,it] e (λi h=>(∃old,IsEnum h e it (i:Nat) old)/\i<=x.cps.size/\h.IsStrIter it (mj x) x t i) where
 mem:=by simp
 obj:=λi h st b hb=>by
  obtain⟨⟨old,he⟩,_,o,ho,c,d⟩:=st;rcases k9.mp hb with rfl |hb
  ·exact⟨_,he,λv z=>by cases z⟩
  ·have e:b=it:=by simpa using hb
   subst e;exact⟨o,ho,λv z=>by rw[d]at z;cases z⟩
 keep:=λi h h' st k=>by
  obtain⟨⟨old,he⟩,hn,o,ho,r⟩:=st;exact⟨⟨old,k e (by simp) _ he⟩,hn,o,k it (by simp) o ho,r⟩
 item:=by
  intro X hP hw hK hc i pins s σ H E I hf st hg;subst hP hw hK;obtain⟨⟨old,he⟩,hn,hit⟩:=st;have hi:i<x.cps.size:=hg;refine wpAny_pyNext_enum_itemD (ze7_ X.A.in1 (I.ok.hd hc)) he hit hi cC (by simpa using cC) λu h1 tk hP bG c8 gj gd c7=>?_
  refine⟨_,rfl,?_⟩;have gG:e<s.heap.objs.size:=kJ he;have hil:it<s.heap.objs.size:=by obtain⟨o,ho,_⟩:=id hit;exact kJ ho
  have ru:RelV (sgn x i) u:=zdV_ hP;refine thn (zeS_ (St:=λh2=>h2.IsStrIter it (mj x) x t (i+1)) I hf gG hil cC bG ru gj gd c7 λh2 hs=>?_) λ_ s2 q=>?_
  ·obtain⟨o,ho,r⟩:=c8
   exact⟨o,(hs.2 it cC.symm).trans ho,r⟩
  ·obtain⟨z,H',I2,rz,⟨p,hp,rfl,rfl⟩,⟨eG,hit2⟩,fr⟩:=q
   exact⟨.ref p,_,I2,rz,⟨p,hp,rfl,rfl⟩,⟨⟨u,eG⟩,hi,hit2⟩,fr⟩
 done:=by
  intro X hP hw hK hc i pins s σ H E I hf st hg;subst hP hw hK;obtain⟨⟨old,he⟩,hn,hit⟩:=st;have hi:x.cps.size<=i:=hg;have ei:i=x.cps.size:=r9 hn hi;subst ei;obtain⟨f0,f1,f2,f3,f4,f5⟩:=hf it (by simp)
  exact wpAny_pyNext_enum_endD (ze7_ X.A.in1 (I.ok.hd hc)) he hit λh' eb=>⟨rfl,I.turned (t':=s.toks) (λb o hb e=>eb b o hb e) f0 f1 f3 f4 f5⟩
 self:=λ_ _ _ _ _ st h=>by
  obtain⟨⟨old,he⟩,_⟩:=st;exact wpAny_pyIter_enum he h
section
variable {prog:lF}{w:lW}{A:lY}{R:Result->kn->Prop}{s:kn}
theorem zfs_ {elt target iter:k8}{ifs:List k8}{scope:Scope}{pos:Pos}{it acc:aU}{env:Env}(I:Nat->kn->Prop)
  (turn:∀n s,I n s->lC (model prog w) A (pyNext it) (λr ab=>match r with
   |none=>R (.ok .next) ab
   | some v=>lC (model prog w) A (letOwnedTupleGo target it v) (λ_ aO=>lC (model prog w) A (assign target env v) (λ_ ay=>
     lC (model prog w) A (forIn ifs uE λc r=>if r=uE then do let ok <- isTrue c env (eval c env);pure (ForInStep.yield ok)else pure (ForInStep.yield r)) (λok bI=>
      if ok=uE then lC (model prog w) A (eval elt env) (λx dG=>
       lC (model prog w) A (call (.builtin "list.append") [acc,x]) (λ_ dF=>∃m,m<n/\I m dF) (λ_ _=>False) dG) (λ_ _=>False) bI
      else∃m,m<n/\I m bI) (λ_ _=>False) ay) (λ_ _=>False) aO) (λ_ _=>False) ab) (λ_ _=>False) s)
  (n:Nat) (h:I n s):
  codeAny (model prog w) A (.compLoop (.ListComp elt [⟨target,iter,ifs,0⟩] scope pos) 0 it acc env) R s:=by
 refine codeAny_loop rfl I (λn s hI=>?_) n h
 show lC _ A ((compTurn (.ListComp elt [⟨target,iter,ifs,0⟩] scope pos) 0 it acc env).onRaise (λx=>do noteFrame x env;theTreesLotGoes x)) _ _ s
 refine wpAny_noted ?_;rw[compTurn_list];refine kr (wpAny_standAt (kr (mF (turn n s hI) (λr ab aB=>?_) λ_ _ h'=>h'.elim)))
 cases r with
 |none=>exact lj aB
 |some v=>
  refine kr (mF aB (λ_ aO bR=>?_) λ_ _ h'=>h'.elim)
  refine kr (mF bR (λ_ ay bQ=>kr (mF bQ (λok bI dU=>?_) λ_ _ h'=>h'.elim)) λ_ _ h'=>h'.elim)
  cases ok with
  |false=>exact lj ⟨rfl,dU⟩
  |true=>
   exact kr (kr (mF dU (λx dG f9=>kr (mF f9 (λ_ dF f7=>lj (lj ⟨rfl,f7⟩)) λ_ _ h'=>h'.elim)) λ_ _ h'=>h'.elim))
end
noncomputable def closeL (cells:List (Str×kz)):List (Str×nA)->List (Str×kz)->Option (List (Str×kz))
 |[],acc=>uC acc
 |(n,k)::r,acc=>if(k == .free)=uE then(match cells.lookup n with |some c=>closeL cells r ((n,c)::acc)|none=>uD)else closeL cells r acc
theorem zb4_ {env:Env}{f:Str×nA->List (Str×kz)->Sem (ForInStep (List (Str×kz)))}
  (hf:∀n k cs,f (n,k) cs=if(k == NameKind.free)=uE then(do let c <- cellOf env n;pure (ForInStep.yield ((n,c)::cs)))else pure (ForInStep.yield cs)):
  ∀(names:List (Str×nA)) (acc cl:List (Str×kz)),closeL env.cells names acc=uC cl->(forIn names acc f:Sem (List (Str×kz)))=pure cl
 |[],acc,cl,h=>by cases h;rfl
 |(n,k)::r,acc,cl,h=>by
  rw[List.forIn_cons,hf];unfold closeL at h;by_cases hk:(k == NameKind.free)=uE
  ·rw[if_pos hk]at h
   rw[if_pos hk];cases hc:env.cells.lookup n with
   |none=>rw[hc]at h;cases h
   |some c=>
    rw[hc]at h;have e:cellOf env n=pure c:=by unfold cellOf;rw[hc]
    rw[e];simp only[pure_bind];exact zb4_ hf r _ cl h
  ·rw[if_neg hk]at h
   rw[if_neg hk];simp only[pure_bind];exact zb4_ hf r _ cl h
theorem zbL_ {env:Env}{scope:Scope}{cl:List (Str×kz)}(h:closeL env.cells scope.names []=uC cl):closureFor scope env=pure cl:=by
 unfold closureFor;dsimp only;rw[zb4_ (env:=env) (λn k cs=>rfl) scope.names [] cl h]
 rfl
theorem zaw_ {cells:List (Str×kz)}:∀(names:List (Str×nA)) (acc cl:List (Str×kz)),closeL cells names acc=uC cl->(∀x c,acc.lookup x=uC c->cells.lookup x=uC c) ->
  (∀x c,cl.lookup x=uC c->cells.lookup x=uC c)
 |[],acc,cl,h,ha=>by cases h;exact ha
 |(n,k)::r,acc,cl,h,ha=>by
  unfold closeL at h;by_cases hk:(k == NameKind.free)=uE
  ·rw[if_pos hk]at h
   cases hc:cells.lookup n with
   |none=>rw[hc]at h;cases h
   |some c=>
    rw[hc]at h;refine zaw_ r _ cl h λx c' e=>?_
    rw[ph]at e;cases hx:x == n with
    |true=>rw[hx]at e;cases e;rw[eq_of_beq hx];exact hc
    |false=>rw[hx]at e;exact ha x c' e
  ·rw[if_neg hk]at h
   exact zaw_ r _ cl h ha
theorem z0_ {cells:List (Str×kz)}:∀(names:List (Str×nA)) (acc cl:List (Str×kz)),closeL cells names acc=uC cl->∀x,((x,NameKind.free)∈names\/∃c,acc.lookup x=uC c)->∃c,cl.lookup x=uC c
 |[],acc,cl,h,x,hx=>by
  cases h;rcases hx with hx |hx
  ·cases hx
  ·exact hx
 |(n,k)::r,acc,cl,h,x,hx=>by
  unfold closeL at h;by_cases hk:(k == NameKind.free)=uE
  ·rw[if_pos hk]at h
   cases hc:cells.lookup n with
   |none=>rw[hc]at h;cases h
   |some c=>
    rw[hc]at h;refine z0_ r _ cl h x ?_;rcases hx with hx |⟨c',e⟩
    ·rcases k9.mp hx with e |hx
     ·cases e;exact .inr ⟨c,by rw[ph,beq_self_eq_true]⟩
     ·exact .inl hx
    ·refine .inr ?_
     rw[ph];cases hxn:x == n with
     |true=>exact⟨c,rfl⟩
     |false=>exact⟨c',e⟩
  ·rw[if_neg hk]at h
   refine z0_ r _ cl h x ?_;rcases hx with hx |hx
   ·rcases k9.mp hx with e |hx
    ·cases e;exact absurd rfl hk
    ·exact .inl hx
   ·exact .inr hx
theorem zaI_ {scope:Scope}{env:Env}{x:Str}{k:nA}(h:(relabel scope env).names.lookup x=uC k)(hk:k=.cell\/k=.free)(bu:∀y∈scope.names,y.2≠.cell):(x,NameKind.free)∈scope.names:=by
 have m:=l6 h;obtain⟨⟨n,k0⟩,hm,e⟩:=my.mp m;dsimp only at e;split at e
 ·rename_i hc
  cases e;have:k0=.free:=by
   simp only[kl,beq_iff_eq]at hc;exact hc.1.1
  subst this;exact hm
 ·cases e
  rcases hk with rfl |rfl
  ·exact absurd rfl (bu _ hm)
  ·exact hm
def cxComp (X:Cx)(scope:Scope)(cl:List (Str×kz))(C:kz)(N:List Str)(fp:List kz)(s2:kn)(H2:Hp):Cx where
 prog:=X.prog
 w:=X.w
 K:=X.K
 mg:=X.mg
 base:=X.base
 A:=X.A
 N:=N
 s₀:=s2
 H₀:=H2
 env:=compEnvC scope cl C X.env
 outer:=X.stack
 stack:=X.stack
 ex:=fp
 fn:=λ_=>uF
 calm:=X.calm
 pn:=[]
 xe:=λ_ _=>False
structure CScope (X:Cx)(scope:Scope)(cl:List (Str×kz))(lv:List Str)(fr:List (Str×Nat)):Prop where
 clos:closeL X.env.cells scope.names []=uC cl
 cell:∀y∈scope.names,y.2≠.cell
 kind:scope.kind=.function
 names:∀z∈scope.names,z.2=.local->scope.names.lookup z.1=uC .local
 fr:∀q∈fr,X.N[q.2]?=uC q.1/\(q.1,NameKind.free)∈scope.names/\(X.env.kindOf q.1=uC .cell\/X.env.kindOf q.1=uC .free) /\
  ((relabel scope X.env).names.lookup q.1=uC .cell\/(relabel scope X.env).names.lookup q.1=uC .free)
noncomputable def cN (lv:List Str)(fr:List (Str×Nat)):List Str:=lv++fr.map (·.1)
def cS (lv:List Str)(fr:List (Str×Nat))(σ:St):St:=lv.map (λ_=>uD)++fr.map λq=>(σ[q.2]?).join
theorem zkB_ {X:Cx}{pins:Pnn}{σ:St}{H2:Hp}{s2:kn}{scope:Scope}{cl:List (Str×kz)}{lv:List Str}{fr:List (Str×Nat)}{fp:List kz}{h4:Heap}{tk:Nat}{m:Str->Option aU}{n:Nat}
  (I:Inv X pins σ H2 s2) (S:CScope X scope cl lv fr) (hf:∀b∈fp,FpOk X pins H2 b) (aA:∀b∈fp,b<s2.heap.objs.size) (hC:h4.Ns (s2.heap.objs.size+1) m) (hD:h4.get? s2.heap.objs.size=uC {cls:=.type "list",data:=.seq #[] n})
  (hk:∀b o,s2.heap.get? b=uC o->h4.get? b=uC o):
  Inv (cxComp X scope cl (s2.heap.objs.size+1) (cN lv fr) fp s2 H2) [] (cS lv fr σ) (upd H2 s2.heap.objs.size (.lst [])) {s2 with heap:=h4,toks:=tk}:=by
 have aS:=zaw_ scope.names [] cl S.clos (λx c e=>by cases e)
 have bV:=z0_ scope.names [] cl S.clos;have fK:H2 s2.heap.objs.size=uD:=I.hok.fresh (kx _);have fM:H2 (s2.heap.objs.size+1)=uD:=I.hok.fresh (nR _);have jQ:s2.heap.objs.size+1≠s2.heap.objs.size:=oE (pd _);have jS:∀b∈fp,(b∈X.ex\/X.s₀.heap.objs.size<=b):=λb hb=>(hf b hb).2.2.2.1
 have dt:∀x c,cl.lookup x=uC c->c<s2.heap.objs.size:=λx c e=>by
  obtain⟨v,o,ho,_⟩:=I.cell x c (aS x c e);exact kJ ho
 refine⟨⟨I.ok.mod,S.kind,I.ok.glob,I.ok.blt,nR _,λx y c h1 h2=>I.ok.inj x y c (aS x c h1) (aS y c h2),λx hx=>?_,λx c c9=>(by cases c9),I.ok.hd,I.ok.frames,.inl rfl,λb hb=>?_,I.bs,mG I.ok.bsz I.sz,λb o e hb=>?_,λb hb z=>?_,I.stack,I.stkFree,I.tb⟩,
  rfl,I.bare,?_,⟨m,hC,λi x v h1 h2 h3=>?_⟩,λx c e=>?_,?_,λx c e=>?_,λp hp=>absurd (show p∈([]:Pnn)from hp) (by simp),?_,?_⟩
 ·-- has
  have fB:(relabel scope X.env).names.lookup x=uC .cell\/(relabel scope X.env).names.lookup x=uC .free:=hx;have hm:(x,NameKind.free)∈scope.names:=fB.elim (λz=>zaI_ z (.inl rfl) S.cell) λz=>zaI_ z (.inr rfl) S.cell
  exact bV x (.inl hm)
 ·-- exf
  obtain⟨f0,f1,f2,f3,f4,f5⟩:=hf b hb;refine⟨λz=>?_,λx c e=>f4 x c (aS x c e)⟩
  have z':b=s2.heap.objs.size+1:=z;have:=aA b hb;rw[z']at this;exact absurd this (Nat.not_lt.mpr (nR _))
 ·rcases jS b hb with z |z
  ·exact I.ok.noex b o e z
  ·exact absurd (lq (lq (kJ e) I.ok.bsz) z) (nW _)
 ·obtain⟨f0,f1,f2,_⟩:=hf b hb
  rcases k9.mp (I.stkSub b z)with q |q
  ·exact f1 q
  ·exact f2 q
 ·exact Un.laid hk (kx _) fK
 ·-- loc
  have h1':(lv++fr.map (·.1))[i]?=uC x:=h1;have aL:(lv.map (λ_=>uD)++fr.map λq=>(σ[q.2]?).join:St)[i]?=uC (uC v):=h2
  by_cases hi:i<lv.length
  ·rw[mx (by simpa using hi),kH]at aL
   cases hq:lv[i]? with
   |none=>rw[hq]at aL;cases aL
   |some z=>rw[hq]at aL;cases aL
  ·rw [mr (by simpa using hi),kH]at aL
   rw[mr (by lia),kH]at h1'
   simp only[ko]at aL;cases hq:fr[i-lv.length]? with
   |none=>rw[hq]at h1';cases h1'
   |some q=>
    rw[hq]at h1' aL;have e1:q.1=x:=lI h1';have e2:(σ[q.2]?).join=uC v:=lI aL;have e3:σ[q.2]?=uC (uC v):=by
     cases hz:σ[q.2]? with
     |none=>rw[hz]at e2;cases e2
     |some z=>rw[hz]at e2;exact congrArg uC e2
    obtain⟨g1,g2,g3,g4⟩:=S.fr q (mN hq);obtain⟨m0,hn0,c6⟩:=I.loc;have fP:Vis X.env.scope q.1:=by
     rcases g3 with g3 |g3
     ·exact .inr (.inl g3)
     ·exact .inr (.inr g3)
    obtain⟨u,r,l⟩:=c6 q.2 q.1 v g1 e3 fP;refine⟨u,r,.inr ⟨?_,?_⟩⟩
    ·rw[<- e1];exact g4
    ·rcases l with⟨lk,_⟩|⟨_,c,ec,ic⟩
     ·rcases g3 with g3 |g3<;>(rw[lk]at g3;cases g3)
     ·obtain⟨c',ec'⟩:=bV q.1 (.inl g2)
      have:c'=c:=by
       have:=aS q.1 c' ec';rw[ec]at this;exact(lI this).symm
      subst this;obtain⟨o,ho,hd⟩:=ic;exact⟨c',by rw[<- e1];exact ec',o,hk _ _ ho,hd⟩
 ·obtain⟨v,o,ho,hd⟩:=I.cell x c (aS x c e)
  exact⟨v,o,hk _ _ ho,hd⟩
 ·show upd H2 _ _ (s2.heap.objs.size+1)=uD
  rw[zc_ jQ];exact fM
 ·have:=dt x c e
  rw[zc_ (lB this)];exact I.freeC x c (aS x c e)
 ·exact I.hok.laid hk (kx _) ⟨l5 _,[],n,.nil,hD⟩
 ·show(cS lv fr σ).length=(cN lv fr).length
  simp[cS,cN]
def PIf (X:Cx)(ifs:List k8)(t:TT):Prop:=
 ∀(pins:Pnn) (s:kn) (σ:St) (H:Hp) (Q:Bool->Hp->Prop),Inv X pins σ H s->t σ H Q ->
  lC (model X.prog X.w) X.A (forIn ifs uE λc r=>if r=uE then do let ok <- isTrue c X.env (eval c X.env);pure (ForInStep.yield ok)else pure (ForInStep.yield r)) (TP X pins σ Q) X.xe s
def tTrue:TT:=λ_ H Q=>Q uE H
theorem zn6_ {X:Cx}:PIf X [] tTrue:=λpins s σ H Q I h=>wpAny_tests_nil ⟨H,I,h⟩
theorem zn5_ {X:Cx}{c:k8}{t:TT}(h:PT X c t):PIf X [c] t:=λpins s σ H Q I hw=>wpAny_tests_one (h pins s σ H Q I hw)
def tCompR (J:It)(g:TG)(tt:TT)(te:TE)(iP:St)(H1:Hp)(Q:VK):Prop:=
 ∀ D,H1 D=uD->∃W:Nat->Nat->List V->St->Hp->Prop,(∃m,W 0 m [] iP (upd H1 D (.lst [])))/\∀i m ys σ H,W i m ys σ H ->
  (J.stop i H/\Q (.ref D) H)\/(J.go i H/\∃N:List V->St->Hp->Prop,(∀cj ai H',N cj ai H'->∃m',m'<m/\W (i+1) m' cj ai H') /\
   ∀x H',J.yld i H x H'->g x σ H' λdu H2=>tt du H2 λb H3=>if b=uE then te du H3 λv H4=>H4 D=uC (.lst ys)/\ys.length<kR/\N (ys++[v]) du (upd H4 D (.lst (ys++[v])))else N ys du H3)
section
variable {X:Cx}{scope:Scope}{cl:List (Str×kz)}{lv:List Str}{fr:List (Str×Nat)}{elt tg iter:k8}{ifs:List k8}{pos:Pos}{g:TG}{tt:TT}{te:TE}
theorem zdP_ {pins:Pnn}{σ:St}{H2:Hp}{s2:kn}{it:kz}{fp:List kz}{tn:Nat->Heap->Prop}{J:It}{Q:VK}{E:aU->kn->Prop}{use:Option (aU->Sem Unit)}{Q':aU->kn->Prop}
  (I:Inv X pins σ H2 s2) (S:CScope X scope cl lv fr) (T:Turn X.prog X.w X.K tg J fp it tn) (st:tn 0 s2.heap) (hf:∀b∈fp,FpOk X pins H2 b) (hc:X.calm=uE)
  (hg:∀C fp s2 H2,PG (cxComp X scope cl C (cN lv fr) fp s2 H2) tg g) (ht:∀C fp s2 H2,PIf (cxComp X scope cl C (cN lv fr) fp s2 H2) ifs tt) (he:∀C fp s2 H2,PE (cxComp X scope cl C (cN lv fr) fp s2 H2) elt te)
  (hq:tCompR J g tt te (cS lv fr σ) H2 Q)
  (fin:∀D C oC H' s',Inv X (pins++[(C,oC)]) σ H' s'->(∀h:Heap,h.get? C=uC oC->∃m,h.Ns C m)->FpOk X pins H' C->Q (.ref D) H'->compPost (model X.prog X.w) X.A E use Q' (.ref D) C (.ok .next) s'):
  lC (model X.prog X.w) X.A (newList []) (λacc ay=>lC (model X.prog X.w) X.A (newFunctionEnv scope X.env.globals cl [] X.env.qual uD .none (uC X.env)) (λfb bI=>
   codeAny (model X.prog X.w) X.A (.compStart (.ListComp elt [⟨tg,iter,ifs,0⟩] scope pos) 0 (.ref it) acc {fb with scope:=relabel scope X.env}) (compPost (model X.prog X.w) X.A E use Q' acc fb.locals) bI) E ay) E s2:=by
 have aA:∀b∈fp,b<s2.heap.objs.size:=λb hb=>by
  obtain⟨o,ho,_⟩:=T.obj 0 _ st b hb;exact kJ ho
 refine wpAny_newList (wpAny_newFunctionEnv S.cell (by intro y hy;simp at hy) (λaB aY aP=>?_) S.kind)
 dsimp only at aY aP ⊢;have hsz:(s2.heap.push {cls:=.type "list",data:=.seq ([]:List aU).toArray}).objs.size=s2.heap.objs.size+1:=qw ..;rw[hsz]at aY aP ⊢;have old:∀b o,s2.heap.get? b=uC o->aB.get? b=uC o:=λb o e=>aP.extBut b o (lB (oy (kJ e))) (kq _ (kq _ e))
 have aD:aB.get? s2.heap.objs.size=uC {cls:=.type "list",data:=.seq #[]}:=aP.extBut _ _ (lB (pd _)) (kq _ (ll _ rfl));have I4:Inv (cxComp X scope cl (s2.heap.objs.size+1) (cN lv fr) fp s2 H2) [] (cS lv fr σ) (upd H2 s2.heap.objs.size (.lst [])) {s2 with heap:=aB,toks:=s2.toks+([]:List (Str×aU)).length}:=
  zkB_ I S hf aA aY aD old
 generalize aV:cxComp X scope cl (s2.heap.objs.size+1) (cN lv fr) fp s2 H2=X' at I4
 have eP:X'.prog=X.prog:=by rw[<- aV];rfl
 have ew:X'.w=X.w:=by rw[<- aV];rfl
 have eK:X'.K=X.K:=by rw[<- aV];rfl
 have eA:X'.A=X.A:=by rw[<- aV];rfl
 have ec:X'.calm=uE:=by rw[<- aV];exact hc
 have ex:X'.xe=λ_ _=>False:=by rw[<- aV];rfl
 have di:X'.env=compEnvC scope cl (s2.heap.objs.size+1) X.env:=by rw[<- aV];rfl
 have jC:PG X' tg g:=aV ▸ hg _ _ _ _;have i_:PIf X' ifs tt:=aV ▸ ht _ _ _ _;have jF:PE X' elt te:=aV ▸ he _ _ _ _;obtain⟨W,⟨m0,w0⟩,turn⟩:=hq s2.heap.objs.size (I.hok.fresh (kx _));have hJ:tn 0 aB:=T.keep _ _ _ st λb _ o e=>old b o e
 have f4:∀b∈fp,FpOk X' [] (upd H2 s2.heap.objs.size (.lst [])) b:=λb hb=>by
  obtain⟨f0,f1,f2,f3,f4,f5⟩:=hf b hb;have:=aA b hb;refine⟨?_,?_,?_,.inl ?_,?_,?_⟩
  ·rw[zc_ (lB this)];exact f0
  ·rw[di];exact lB (oy this)
  ·intro z
   have z':b∈frs X.stack:=by rw[<- aV]at z;exact z
   rcases k9.mp (I.stkSub b z')with q |q
   ·exact f1 q
   ·exact f2 q
  ·rw[<- aV];exact hb
  ·intro x c e
   rw[di]at e;exact f4 x c (zaw_ scope.names [] cl S.clos (λx c e=>by cases e) x c e)
  ·intro p hp
   rw[<- aV]at hp;exact absurd (show p∈([]:Pnn)from hp) (by simp)
 have aW:∀{H':Hp},(∀b∈fp,H' b=uD)->∀b∈fp,FpOk X' [] H' b:=λhn b hb=>⟨hn b hb,(f4 b hb).2⟩
 have loop:∀ay:kn,ay={s2 with heap:=aB,toks:=s2.toks+([]:List (Str×aU)).length} ->
   codeAny (model X.prog X.w) X.A (.compLoop (.ListComp elt [⟨tg,iter,ifs,0⟩] scope pos) 0 (.ref it) (.ref s2.heap.objs.size) (compEnvC scope cl (s2.heap.objs.size+1) X.env))
    (compPost (model X.prog X.w) X.A E use Q' (.ref s2.heap.objs.size) (s2.heap.objs.size+1)) ay:=by
  rintro ay rfl;refine zfs_ (λn s'=>∃i ys ai H',Inv X' [] ai H' s'/\tn i s'.heap/\(∀b∈fp,H' b=uD)/\W i n ys ai H') ?_ m0 ⟨0,[],_,_,I4,hJ,λb hb=>(f4 b hb).1,w0⟩
  rintro n s3 ⟨i,ys,bE,H3,I3,st3,fr3,w3⟩;rcases turn i n ys bE H3 w3 with⟨stop,qn⟩|⟨go,N,hN,step⟩
  ·have a0:=T.done X' eP ew eK ec i [] s3 bE H3 (λ_ _=>False) I3 (aW fr3) st3 stop
   rw[eA]at a0;refine thn a0 λr s4 af=>?_
   obtain⟨hr,I4'⟩:=af;subst hr;have un:Un (frs X.stack) fp H2 H3 s2.heap s4.heap:=by
    have:=I4'.base;rw[<- aV]at this;exact this
   have os:s4.os=s2.os:=by
    have:=I4'.os;rw[<- aV]at this;exact this
   have hok:HOk X.prog X.w H3 s4.heap:=by
    have:=I4'.hok;rw[<- aV]at this;exact this
   have J1:Inv X pins σ H3 s4:=I.call' os un hok I4'.bare λb hb=>by
    obtain⟨f0,f1,f2,f3,f4,f5⟩:=hf b hb;exact⟨f3,f1,f4,f5⟩
   obtain⟨m,hn,_⟩:=I4'.loc;have gu:s4.heap.Ns (s2.heap.objs.size+1) m:=by rw[di]at hn;exact hn
   have fM:H3 (s2.heap.objs.size+1)=uD:=by
    have:=I4'.free;rw[di]at this;exact this
   have fC:FpOk X pins H3 (s2.heap.objs.size+1):=I.fpOk (nR _) fM;obtain⟨oC,es,ep,hoC,hdC,rC⟩:=id gu;have J2:Inv X (pins++[(s2.heap.objs.size+1,oC)]) σ H3 s4:=J1.pins_of λp hp=>by
    rcases mU.mp hp with hp |hp
    ·exact J1.pin p (lE _ hp)
    ·have e:p=(s2.heap.objs.size+1,oC):=by simpa using hp
     subst e;exact⟨hoC,fM,fC.2.1,fC.2.2.1,λv z=>by rw[hdC]at z;cases z⟩
   exact fin _ _ oC H3 s4 J2 (λh e=>⟨m,oC,es,ep,e,hdC,rC⟩) fC qn
  ·have a0:=T.item X' eP ew eK ec i [] s3 bE H3 (λ_ _=>False) I3 (aW fr3) st3 go
   rw[eA]at a0;refine thn a0 λr s4 af=>?_
   obtain⟨u,hr,h4⟩:=af;subst hr;refine thn h4 λ_ s5 af=>?_
   obtain⟨x,H5,I5,r5,y5,st5,fr5⟩:=af;have gW:=I5.pinned (aW fr5) (T.obj _ _ st5);have a1:=jC _ s5 bE H5 x u _ gW r5 (step x H5 y5);rw[eP,ew,eA,di,ex]at a1;refine thn a1 λ_ s6 af=>?_
   obtain⟨bZ,H6,I6,q6⟩:=af;have a2:=i_ _ s6 bZ H6 _ I6 q6;rw[eP,ew,eA,di,ex]at a2;refine thn a2 λok s7 af=>?_
   obtain⟨H7,I7,q7⟩:=af;have again:∀{fc:List V}{H7:Hp}{s7:kn},Inv X' ([]++pinsAt fp s5.heap) bZ H7 s7->N fc bZ H7->∃m,m<n/\∃i ys ai H',Inv X' [] ai H' s7/\tn i s7.heap/\(∀b∈fp,H' b=uD)/\W i m ys ai H':=λ{fc H7 s7} I7 n7=>by
    obtain⟨m',hm,w7⟩:=hN fc bZ H7 n7;refine⟨m',hm,i+1,fc,bZ,H7,I7.unpinned,T.keep _ _ _ st5 λb hb o e=>(I7.pin (b,o) (lE _ (lE _ (za9_ hb e)))).1,λb hb=>?_,w7⟩
    obtain⟨o,e,d⟩:=T.obj _ _ st5 b hb;exact(I7.pin (b,o) (lE _ (lE _ (za9_ hb e)))).2.1
   cases ok with
   |false=>exact again I7 q7
   |true=>
    have a3:=jF _ s7 bZ H7 _ I7 q7;rw[eP,ew,eA,di,ex]at a3;refine thn a3 λy s8 af=>?_
    obtain⟨v,H8,I8,r8,hD8,hl8,n8⟩:=af;have a4:=zcM_ (X:=X') _ s8 bZ H8 (.ref s2.heap.objs.size) [v] (.ref s2.heap.objs.size) [y] (λ_ H9=>N (ys++[v]) bZ H9) I8 rfl (.cons r8 .nil) ⟨_,_,_,rfl,rfl,hD8,hl8,n8⟩
    rw[eP,ew,eA,ex]at a4;refine thn a4 λ_ s9 af=>?_
    obtain⟨v9,H9,I9,_,n9⟩:=af;exact again I9 n9
 exact codeAny_compStart_list (loop _ rfl) (T.self _ 0 _ _ _ hJ (loop _ rfl))
def tComp (lv:List Str)(fr:List (Str×Nat))(wi:TI)(g:TG)(tt:TT)(te:TE):TE:=λσ H Q=>wi σ H λJ H1=>tCompR J g tt te (cS lv fr σ) H1 Q
theorem znE_ {wi:TI}(hc:X.calm=uE)(S:CScope X scope cl lv fr)(hi:PI X tg iter wi)
  (hg:∀C fp s2 H2,PG (cxComp X scope cl C (cN lv fr) fp s2 H2) tg g) (ht:∀C fp s2 H2,PIf (cxComp X scope cl C (cN lv fr) fp s2 H2) ifs tt) (he:∀C fp s2 H2,PE (cxComp X scope cl C (cN lv fr) fp s2 H2) elt te)
  (hs:∀x,foldedSetIterable iter X.env x=pure x:=by intro _;rfl):PE X (.ListComp elt [⟨tg,iter,ifs,0⟩] scope pos) (tComp lv fr wi g tt te):=by
 intro pins s σ H Q I h;rw[eval_ListComp];refine wpAny_comprehension_free (use:=uD) rfl hs (zbL_ S.clos) S.kind S.names ?_;refine thn (hi pins s σ H _ I h) λv s1 h1=>thn h1 λfA s2 h2=>?_
 obtain⟨it,fp,tn,J,H2,e,I2,T,st2,f2,q⟩:=h2;subst e;refine zdP_ I2 S T st2 f2 hc hg ht he q λD C oC H' s' J1 gO fC qD=>?_
 have hp:=J1.pin (C,oC) (lE _ (lE _ (lQ.mpr rfl)));obtain⟨m,hm⟩:=gO s'.heap hp.1;refine⟨m,hm,λh' cU=>?_⟩
 exact⟨.ref D,H',J1.unpinned.turned (t':=s'.toks) (λb o hb e=>(cU.2 b hb).trans e) fC.1 fC.2.1 fC.2.2.2.1 fC.2.2.2.2.1 fC.2.2.2.2.2,rfl,qD⟩
theorem zf8_ {wi:TI}{j:Nat}{y:Str}{py dI:Pos}(hc:X.calm=uE)(S:CScope X scope cl lv fr)(hi:PI X tg iter wi)
  (hg:∀C fp s2 H2,PG (cxComp X scope cl C (cN lv fr) fp s2 H2) tg g) (ht:∀C fp s2 H2,PIf (cxComp X scope cl C (cN lv fr) fp s2 H2) ifs tt) (he:∀C fp s2 H2,PE (cxComp X scope cl C (cN lv fr) fp s2 H2) elt te)
  (hy:PG X (.Name y py) (gName j))
  (je:swapsWith (.ListComp elt [⟨tg,iter,ifs,0⟩] scope pos) (uC (.Name y py)) dI.line X.env=pure uE:=by rfl)
  (hs:∀x,foldedSetIterable iter X.env x=pure x:=by intro _;rfl):PS X (.Assign [.Name y py] (.ListComp elt [⟨tg,iter,ifs,0⟩] scope pos) dI) (tAsg (tComp lv fr wi g tt te) (gName j)):=by
 intro pins s σ H D I h;rw[exec_Assign_Name_used _ _ _ _ je];refine kr (wpAny_standAt (kr ?_));show lC _ X.A (do let _ <- comprehension (.ListComp elt [⟨tg,iter,ifs,0⟩] scope pos) scope X.env _ (newList []) uF (eval iter X.env) (uC (assign (.Name y py) X.env))) _ _ s
 refine kr (mF (wpAny_comprehension_free (use:=uC (assign (.Name y py) X.env)) (Q:=λ_ s'=>SP X pins D .next s') rfl hs (zbL_ S.clos) S.kind S.names ?_) (λ_ s' hq=>lj (lj hq)) λ_ _ e=>e)
 refine thn (hi pins s σ H _ I h) λv s1 h1=>thn h1 λfA s2 h2=>?_
 obtain⟨it,fp,tn,J,H2,e,I2,T,st2,f2,q⟩:=h2;subst e;refine zdP_ I2 S T st2 f2 hc hg ht he q λD' C oC H' s' J1 gO fC qD=>?_
 show lC _ X.A (assign (.Name y py) X.env (.ref D')) _ _ _
 refine thn (hy _ s' σ H' (.ref D') (.ref D') _ J1 rfl qD) λ_ s3 af=>?_
 obtain⟨bE,H3,I3,q3⟩:=af;have hp:=I3.pin (C,oC) (lE _ (lE _ (lQ.mpr rfl)));obtain⟨m,hm⟩:=gO s3.heap hp.1;refine⟨m,hm,λh' cU=>?_⟩
 have eZ:FpOk X pins H3 C:=⟨hp.2.1,fC.2⟩;exact⟨bE,H3,I3.unpinned.turned (t':=s3.toks) (λb o hb e=>(cU.2 b hb).trans e) eZ.1 eZ.2.1 eZ.2.2.2.1 eZ.2.2.2.2.1 eZ.2.2.2.2.2,q3⟩
end
noncomputable abbrev tx (l:List Nat):V:=.str ⟨l.toArray⟩
def br (b:Bool)(A B:Prop):Prop:=(b=uE->A)/\(b=uF->B)
theorem znI_ (a b:Str):a++b=⟨(a.cps.toList++b.cps.toList).toArray⟩:=by
 cases a;cases b;show Str.mk (_++_)=_
 simp
theorem zas_ (a:Str):a=⟨a.cps.toList.toArray⟩:=by cases a;simp
def cutL (l:List Nat)(lo hi:Option Int):List Nat:=(l.drop (HT.sIx l.length 0 lo)).take (HT.sIx l.length l.length hi-HT.sIx l.length 0 lo)
theorem zbY_ (lo hi:Option Int)(n:Nat):mQ lo hi 1 n=sliceRange ((HT.sIx n 0 lo:Nat):Int) ((HT.sIx n n hi:Nat):Int) 1:=by
 unfold mQ;simp only[show(1:Int) > 0 by decide,if_true]
 congr 1
 ·cases lo with
  |none=>simp[HT.sIx]
  |some i=>
   simp only[HT.sIx];by_cases h:i<0
   ·simp only[h,if_true]<;>lia
   ·simp only[h,if_false]<;>lia
 ·cases hi with
  |none=>simp[HT.sIx]
  |some i=>
   simp only[HT.sIx];by_cases h:i<0
   ·simp only[h,if_true]<;>lia
   ·simp only[h,if_false]<;>lia
theorem zge_ (x:Str)(lo hi:Option Int):(mQ lo hi 1 x.length).filterMap (x.cps[·]?)=cutL x.cps.toList lo hi:=by
 rw[zbY_,sliceRange_one,pick_run];unfold cutL m4;simp only[mm]
theorem zc4_ (l:List Nat)(lo hi:Option Int):(cutL l lo hi).length<=l.length:=by
 unfold cutL;rw[mq,mC];lia
theorem ziE_ {l:List Nat}{lo hi:Option Int}(h:(cutL l lo hi).length=l.length):cutL l lo hi=l:=by
 unfold cutL at h ⊢;rw[mq,mC]at h;have h1:HT.sIx l.length l.length hi<=l.length:=HT.sIx_le _ _ (kx _) _;by_cases hl:l.length=0
 ·have:l=[]:=l9.mp hl
  subst this;simp
 ·have h2:HT.sIx l.length 0 lo=0:=by lia
  rw[h2,qA,oj];lia
section
variable {X:Cx}
def rSlS:V->Option Int->Option Int->Hp->VK->Prop:=λx lo hi H Q=>match x with |.str z=>z.length<=kR/\Q (tx (cutL z.cps.toList lo hi)) H |_=>False
theorem zb5_ {v:aU}{o:Option Int}(p:IsPart v o):∃l:Option (Int×Tok),v=partValue l/\l.map (·.1)=o:=by
 cases p with
 |none=>exact⟨uD,rfl,rfl⟩
 |int i t=>exact⟨uC (i,t),rfl,rfl⟩
theorem ziB_:SlR X rSlS:=by
 intro pins s σ H x v vl vu lo hi sl Q I rx hs pl pu h;cases x with
 |str z=>
  obtain⟨hz,q⟩:=h;obtain⟨t,rfl⟩:=rx;obtain⟨l,rfl,rfl⟩:=zb5_ pl;obtain⟨u,rfl,rfl⟩:=zb5_ pu;refine⟨"str",_,F.slot_str_getitem.lookup,typeIs_str _ _ _,?_⟩;refine wpAny_getItem_str_slice (l:=l) (u:=u) (st:=uD) hs rfl ?_;unfold sliceMade;have e:slicePicked z l u uD=mQ (l.map (·.1)) (u.map (·.1)) 1 z.length:=rfl;rw[e];have hlen:(mQ (l.map (·.1)) (u.map (·.1)) 1 z.length).length=(cutL z.cps.toList (l.map (·.1)) (u.map (·.1))).length:=by
   rw[zbY_,sliceRange_one,ko,lZ];unfold cutL;rw[mq,mC];have h1:HT.sIx z.length z.length (u.map (·.1))<=z.length:=HT.sIx_le _ _ (kx _) _;have h2:z.cps.toList.length=z.length:=by simp[m4]
   rw[h2];lia
  split
  ·rename_i hc
   have aC:(cutL z.cps.toList (l.map (·.1)) (u.map (·.1))).length=z.cps.toList.length:=by
    rw[<- hlen]
    simpa [m4]using hc
   rw[ziE_ aC]at q;have q':Q (.str z) H:=by rw[zas_ z];exact q
   exact⟨.str z,H,I,⟨_,rfl⟩,q'⟩
  ·rw[zge_]
   have h3:=zc4_ z.cps.toList (l.map (·.1)) (u.map (·.1));have h2:z.cps.toList.length=z.length:=by simp[m4]
   refine⟨?_,tx (cutL z.cps.toList (l.map (·.1)) (u.map (·.1))),H,I.tok _,⟨_,rfl⟩,q⟩;show(cutL z.cps.toList (l.map (·.1)) (u.map (·.1))).toArray.size<=kR
   rw[ky];exact mG h3 (by rw[h2];exact hz)
 |_=>exact h.elim
end
def mVar (i:Nat):TE:=λσ H Q=>match σ[i]? with |some (uC v)=>Q v H |_=>False
section
variable {X:Cx}{a b c:k8}{ta tb tc:TE}{pos:Pos}
theorem zow_ (i:Nat){x:Str}{pos:Pos}(hN:X.N[i]?=uC x:=by rfl)(hv:Vis X.env.scope x:=by first |exact Or.inl rfl |exact Or.inr (Or.inl rfl)|exact Or.inr (Or.inr rfl))(hd:(x==("__debug__":Str))=uF:=by decide)
  (av:(x==("__classdict__":Str))=uF:=by decide):PE X (.Name x pos) (mVar i):=by
 intro pins s σ H Q I h;unfold mVar at h;cases e:σ[i]? with
 |none=>rw[e]at h;exact h.elim
 |some o=>
  rw[e]at h;cases o with
  |none=>exact h.elim
  |some v=>exact zoT_ hN hv hd av pins s σ H Q I ⟨v,e,h⟩
theorem zqH_ {x:Str}{l:List Nat}{j pos}(h:x=⟨l.toArray⟩:=by rfl):PE X (.Constant (.str x) j pos) (tC (tx l)):=h ▸ zpT_
def mAdd:R2:=λx y H Q=>match x,y with
 |.int i,.int j=>Q (.int (i+j)) H
 |.str a,.str b=>a.cps.toList.length+b.cps.toList.length<=kR/\Q (tx (a.cps.toList++b.cps.toList)) H
 |.ref a,.ref b=>∃xs zs,H a=uC (.lst xs)/\H b=uC (.lst zs)/\xs.length+zs.length<=kR/\∀p,H p=uD->Q (.ref p) (upd H p (.lst (xs++zs)))
 |_,_=>False
theorem zlN_:OpR X (nj .Add) mAdd:=by
 intro pins s σ H x y v u Q I rx ry h
 cases x<;>cases y<;>first
  |exact h.elim
  |exact zrp_ pins s σ H _ _ v u Q I rx ry ⟨_,_,rfl,rfl,h⟩
  |exact zhg_ pins s σ H _ _ v u Q I rx ry ⟨_,_,rfl,rfl,by simpa [m4]using h.1,by rw[znI_];exact h.2⟩
  |(obtain⟨xs,zs,h1,h2,h3,h4⟩:=h;exact zqo_ pins s σ H _ _ v u Q I rx ry ⟨_,_,xs,zs,rfl,rfl,h1,h2,h3,h4⟩)
def mI (C:Int->Int->Prop)(g:Int->Int->V):R2:=λx y H Q=>match x,y with |.int i,.int j=>C i j/\Q (g i j) H |_,_=>False
def mI0 (g:Int->Int->V):R2:=λx y H Q=>match x,y with |.int i,.int j=>Q (g i j) H |_,_=>False
theorem opM {f:aU->aU->Sem aU}{C:Int->Int->Prop}{g:Int->Int->V}(h:OpR X f (rI C g)):OpR X f (mI C g):=by
 intro pins s σ H x y v u Q I rx ry q;cases x<;>cases y<;>first |exact q.elim |exact h pins s σ H _ _ v u Q I rx ry ⟨_,_,rfl,rfl,q.1,q.2⟩
theorem opM0 {f:aU->aU->Sem aU}{g:Int->Int->V}(h:OpR X f (rI0 g)):OpR X f (mI0 g):=by
 intro pins s σ H x y v u Q I rx ry q;cases x<;>cases y<;>first |exact q.elim |exact h pins s σ H _ _ v u Q I rx ry ⟨_,_,rfl,rfl,q⟩
abbrev mSub:R2:=mI0 λi j=>.int (i-j)
abbrev mMod:R2:=mI (λ_ j=>0<j) λi j=>.int (i % j)
theorem zmA_:OpR X (nj .Sub) mSub:=opM0 zqu_
theorem znt_:OpR X (nj .Mod) mMod:=opM zrj_
abbrev mLt:R2:=mI0 λi j=>.bl (decide (i<j))
abbrev mLe:R2:=mI0 λi j=>.bl (decide (i<=j))
abbrev mGt:R2:=mI0 λi j=>.bl (decide (j<i))
abbrev mGe:R2:=mI0 λi j=>.bl (decide (j<=i))
theorem zoX_:OpR X (lp .Lt) mLt:=opM0 op_lt
theorem zqp_:OpR X (lp .LtE) mLe:=opM0 op_le
theorem zpv_:OpR X (lp .Gt) mGt:=opM0 op_gt
theorem zq6_:OpR X (lp .GtE) mGe:=opM0 op_ge
noncomputable def mIsB (x y:V):Option Bool:=match y with
 |.non=>uC (decide (x=.non))
 |.bl b=>(match x with |.bl a=>uC (decide (a=b))|_=>uD)
 |_=>uD
def mIs:R2:=λx y H Q=>match mIsB x y with |some b=>Q (.bl b) H |none=>False
def mIsNot:R2:=λx y H Q=>match mIsB x y with |some b=>Q (.bl (!b)) H |none=>False
theorem zj6_ {M:Model}{A:lY}{E:aU->kn->Prop}{s:kn}{a b:Bool}{Q:aU->kn->Prop}(h:Q (.bool (decide (a=b))) s):lC M A (lp .Is (.bool a) (.bool b)) Q E s:=by
 cases a<;>cases b<;>exact lj h
theorem zfq_ {M:Model}{A:lY}{E:aU->kn->Prop}{s:kn}{a b:Bool}{Q:aU->kn->Prop}(h:Q (.bool (!decide (a=b))) s):lC M A (lp .IsNot (.bool a) (.bool b)) Q E s:=by
 cases a<;>cases b<;>exact lj h
theorem zpg_:OpR X (lp .Is) mIs:=by
 intro pins s σ H x y v u Q I rx ry h;unfold mIs mIsB at h;cases y with
 |non=>exact zq1_ pins s σ H x _ v u Q I rx ry ⟨rfl,h⟩
 |bl b=>
  cases x with
  |bl a=>cases rx;cases ry;exact zj6_ ⟨.bl _,H,I,rfl,h⟩
  |_=>exact h.elim
 |_=>exact h.elim
theorem zhW_:OpR X (lp .IsNot) mIsNot:=by
 intro pins s σ H x y v u Q I rx ry h;unfold mIsNot mIsB at h;cases y with
 |non=>exact zoa_ pins s σ H x _ v u Q I rx ry ⟨rfl,h⟩
 |bl b=>
  cases x with
  |bl a=>cases rx;cases ry;exact zfq_ ⟨.bl _,H,I,rfl,h⟩
  |_=>exact h.elim
 |_=>exact h.elim
noncomputable def inS (l:List Nat)(t:List Nat):Bool:=match l with |[c]=>decide (c∈t)|_=>!(m8 ⟨t.toArray⟩ ⟨l.toArray⟩ 0 t.length 1).isEmpty
theorem ziX_ (a b:Str):(!(m8 b a 0 b.length 1).isEmpty)=inS a.cps.toList b.cps.toList:=by
 have e:b.length=b.cps.toList.length:=by simp[m4]
 unfold inS;split
 ·rename_i c hc
  have ea:a=⟨#[c]⟩:=by rw[zas_ a,hc]
  rw[ea];exact StrLaws.found_one b c
 ·rw[<- zas_,<- zas_,e]
def mIn (K:Fgg)(neg:Bool):R2:=λx y H Q=>match y with
 |.str b=>(match x with |.str a=>Q (.bl (if neg then !inS a.cps.toList b.cps.toList else inS a.cps.toList b.cps.toList)) H |_=>False)
 |.ref p=>∃xs,(SqL K H p xs\/SqT K H p xs)/\flatV x=uE/\xs.all flatV=uE/\Q (.bl (if neg then !inV x xs else inV x xs)) H
 |_=>False
theorem zp6_:OpR X (lp .In) (mIn X.K uF):=by
 intro pins s σ H x y v u Q I rx ry h;unfold mIn at h;cases y with
 |str b=>
  cases x with
  |str a=>exact ziL_ pins s σ H _ _ v u Q I rx ry ⟨_,_,rfl,rfl,by rw[ziX_];exact h⟩
  |_=>exact h.elim
 |ref p=>
  obtain⟨xs,h1,h2,h3,h4⟩:=h;exact ziG_ pins s σ H _ _ v u Q I rx ry ⟨_,xs,rfl,h1,h2,h3,h4⟩
 |_=>exact h.elim
theorem zhQ_:OpR X (lp .NotIn) (mIn X.K uE):=by
 intro pins s σ H x y v u Q I rx ry h;unfold mIn at h;cases y with
 |str b=>
  cases x with
  |str a=>exact zeu_ pins s σ H _ _ v u Q I rx ry ⟨_,_,rfl,rfl,by rw[ziX_];exact h⟩
  |_=>exact h.elim
 |ref p=>
  obtain⟨xs,h1,h2,h3,h4⟩:=h;exact zei_ pins s σ H _ _ v u Q I rx ry ⟨_,xs,rfl,h1,h2,h3,h4⟩
 |_=>exact h.elim
def mTest (t:TE):TT:=λσ H Q=>t σ H λx H'=>match x with |.bl k=>Q k H' |_=>False
def mAndV (ta tb:TE):TE:=λσ H Q=>ta σ H λx H1=>match x with |.bl c=>br c (tb σ H1 Q) (Q (.bl uF) H1)|_=>False
def mOrV (ta tb:TE):TE:=λσ H Q=>ta σ H λx H1=>match x with |.bl c=>br c (Q (.bl uE) H1) (tb σ H1 Q)|_=>False
def mNotV (ta:TE):TE:=λσ H Q=>ta σ H λx H1=>match x with |.bl c=>Q (.bl (!c)) H1 |_=>False
def mAnd (t u:TT):TT:=λσ H Q=>t σ H λc H1=>br c (u σ H1 Q) (Q uF H1)
def mOr (t u:TT):TT:=λσ H Q=>t σ H λc H1=>br c (Q uE H1) (u σ H1 Q)
variable {rest:List k8}{tA fj:TT}
theorem zi6_ (ha:PE X a ta)(hb:PE X (.BoolOp .And (b::rest) pos) tb):PE X (.BoolOp .And (a::b::rest) pos) (mAndV ta tb):=by
 intro pins s σ H Q I h;refine BoolOp_and (thn (ha pins s σ H _ I h) λv s1 af=>?_)
 obtain⟨x,H1,I1,r1,q1⟩:=af;cases x with
 |bl c=>
  cases r1;refine lR ?_;cases c with
  |true=>exact hb pins s1 σ H1 Q I1 (q1.1 rfl)
  |false=>exact⟨.bl uF,H1,I1,rfl,q1.2 rfl⟩
 |_=>exact q1.elim
theorem zot_ (ha:PE X a ta)(hb:PE X (.BoolOp .Or (b::rest) pos) tb):PE X (.BoolOp .Or (a::b::rest) pos) (mOrV ta tb):=by
 intro pins s σ H Q I h;refine BoolOp_or (thn (ha pins s σ H _ I h) λv s1 af=>?_)
 obtain⟨x,H1,I1,r1,q1⟩:=af;cases x with
 |bl c=>
  cases r1;refine lR ?_;cases c with
  |false=>exact hb pins s1 σ H1 Q I1 (q1.2 rfl)
  |true=>exact⟨.bl uE,H1,I1,rfl,q1.1 rfl⟩
 |_=>exact q1.elim
theorem zmK_ (ha:PE X a ta):PE X (.UnaryOp .Not a pos) (mNotV ta):=by
 intro pins s σ H Q I h;refine UnaryOp_ (thn (ha pins s σ H _ I h) λv s1 af=>?_)
 obtain⟨x,H1,I1,r1,q1⟩:=af;cases x with
 |bl c=>cases r1;exact not_of (lR ⟨.bl (!c),H1,I1,rfl,q1⟩)
 |_=>exact q1.elim
theorem zjC_ (ha:PT X a tA)(hb:PW X (.BoolOp .And (b::rest) pos) fj):PW X (.BoolOp .And (a::b::rest) pos) (mAnd tA fj):=by
 intro wh pins s σ H Q I h;refine isTrue_and (thn (ha pins s σ H _ I h) λc s1 af=>?_)
 obtain⟨H1,I1,q1⟩:=af;cases c with
 |true=>exact hb wh pins s1 σ H1 Q I1 (q1.1 rfl)
 |false=>exact⟨H1,I1,q1.2 rfl⟩
theorem zlU_ (ha:PT X a tA)(hb:PW X (.BoolOp .Or (b::rest) pos) fj):PW X (.BoolOp .Or (a::b::rest) pos) (mOr tA fj):=by
 intro wh pins s σ H Q I h;refine isTrue_or (thn (ha pins s σ H _ I h) λc s1 af=>?_)
 obtain⟨H1,I1,q1⟩:=af;cases c with
 |true=>exact⟨H1,I1,q1.1 rfl⟩
 |false=>exact hb wh pins s1 σ H1 Q I1 (q1.2 rfl)
theorem zmS_ {e:k8}{t:TE}(h:PE X e t)(he:∀whole,isTrue e X.env whole=(do let v <- whole;standAt e.pos;holding [v] (truthy v)):=by intro _;rfl):PT X e (mTest t):=by
 intro pins s σ H Q I hw;refine isTrue_plain (thn (h pins s σ H _ I hw) λv s1 af=>?_) (he _)
 obtain⟨x,H1,I1,r1,q1⟩:=af;cases x with
 |bl c=>cases r1;exact lR ⟨H1,I1,q1⟩
 |_=>exact q1.elim
theorem zl6_ {op:CmpOp}{r:R2}(ho:OpR X (lp op) r)(ha:PE X a ta)(hb:PE X b tb)(hm:behindInMarks op b=uF:=by first |exact nobehind _ (by decide) (by decide)|rfl):PT X (.Compare a [op] [b] pos) (mTest (tOp r ta tb)):=by
 intro pins s σ H Q I hw;refine wpAny_isTrue_Compare1 (binT ha hb I hw λv u s2 x y H2 I2 rx ry q=>?_) hm
 refine thn (ho pins s2 σ H2 x y v u _ I2 rx ry q) λc s3 af=>?_
 obtain⟨z,H3,I3,r3,q3⟩:=af;cases z with
 |bl k=>cases r3;exact lR ⟨H3,I3,q3⟩
 |_=>exact q3.elim
theorem zm3_ {op:CmpOp}{r:R2}(ho:OpR X (lp op) r)(ha:PE X a ta)(hb:PE X b tb)(hm:behindInMarks op b=uF:=by first |exact nobehind _ (by decide) (by decide)|rfl):PE X (.Compare a [op] [b] pos) (tOp r ta tb):=zmc_ ho ha hb hm
def mIf (t:TT)(ta tb:TE):TE:=λσ H Q=>t σ H λc H1=>br c (ta σ H1 Q) (tb σ H1 Q)
theorem zpy_ {c:k8}(hc:PT X c tA)(ha:PE X a ta)(hb:PE X b tb):PE X (.IfExp c a b pos) (mIf tA ta tb):=by
 intro pins s σ H Q I h;refine wpAny_IfExp (thn (hc pins s σ H _ I h) λd s1 af=>?_)
 obtain⟨H1,I1,q1⟩:=af;cases d with
 |true=>exact ha pins s1 σ H1 Q I1 (q1.1 rfl)
 |false=>exact hb pins s1 σ H1 Q I1 (q1.2 rfl)
def mIfS (c:TT)(t u:TS):TS:=λD σ H=>c σ H λb H1=>br b (t D σ H1) (u D σ H1)
theorem zkQ_ {c:k8}{a b:List lV}{tc:TT}{t u:TS}(hc:PT X c tc)(ha:PSs X a t)(hb:PSs X b u):PS X (.If c a b pos) (mIfS tc t u):=by
 intro pins s σ H D I h;refine wpAny_If (thn (hc pins s σ H _ I h) λd s1 af=>?_)
 obtain⟨H1,I1,q1⟩:=af;cases d with
 |true=>exact ha pins s1 σ H1 D I1 (q1.1 rfl)
 |false=>exact hb pins s1 σ H1 D I1 (q1.2 rfl)
def mChain (r r':R2)(ta tb tc:TE):TE:=λσ H Q=>ta σ H λx H1=>tb σ H1 λy H2=>r x y H2 λz H3=>match z with |.bl k=>br k (tc σ H3 λw H4=>r' y w H4 Q) (Q (.bl uF) H3)|_=>False
theorem zh0_ {op aG:CmpOp}{r r':R2}(ho:OpR X (lp op) r)(aI:OpR X (lp aG) r')(ha:PE X a ta)(hb:PE X b tb)(hc:PE X c tc)
  (hm:lastMarks [op,aG] [b,c]=uF:=by with_unfolding_all rfl):PE X (.Compare a [op,aG] [b,c] pos) (mChain r r' ta tb tc):=by
 intro pins s σ H Q I h;refine Compare_chain (thn (ha pins s σ H _ I h) λv s1 ⟨x,H1,I1,r1,q1⟩=>chain_link (thn (hb pins s1 σ H1 _ I1 q1) λu s2 ⟨y,H2,I2,r2,q2⟩=>
  thn (ho pins s2 σ H2 x y v u _ I2 r1 r2 q2) λd s3 ⟨z,H3,I3,r3,q3⟩=>?_)) hm
 cases z with
 |bl k=>
  cases r3;refine lR ?_;cases k with
  |false=>exact ite_ff ⟨.bl uF,H3,I3,rfl,q3.2 rfl⟩
  |true=>exact ite_tt (chain_last (thn (hc pins s3 σ H3 _ I3 (q3.1 rfl)) λw' s4 ⟨z',H4,I4,r4,q4⟩=>aI pins s4 σ H4 y z' u w' Q I4 r2 r4 q4))
 |_=>exact q3.elim
theorem zhH_ {op aG:CmpOp}{r r':R2}(ho:OpR X (lp op) r)(aI:OpR X (lp aG) r')(ha:PE X a ta)(hb:PE X b tb)(hc:PE X c tc)
  (hm:lastMarks [op,aG] [b,c]=uF:=by with_unfolding_all rfl):PT X (.Compare a [op,aG] [b,c] pos) (mTest (mChain r r' ta tb tc)):=by
 intro pins s σ H Q I h;refine isTrue_chain (thn (ha pins s σ H _ I h) λv s1 ⟨x,H1,I1,r1,q1⟩=>test_link (thn (hb pins s1 σ H1 _ I1 q1) λu s2 ⟨y,H2,I2,r2,q2⟩=>
  thn (ho pins s2 σ H2 x y v u _ I2 r1 r2 q2) λd s3 ⟨z,H3,I3,r3,q3⟩=>?_)) hm
 cases z with
 |bl k=>
  cases r3;refine lR ?_;cases k with
  |false=>exact ite_ff ⟨H3,I3,q3.2 rfl⟩
  |true=>
   refine ite_tt (test_last (thn (hc pins s3 σ H3 _ I3 (q3.1 rfl)) λw' s4 ⟨z',H4,I4,r4,q4⟩=>thn (aI pins s4 σ H4 y z' u w' _ I4 r2 r4 q4) λd' s5 af=>?_))
   obtain⟨z2,H5,I5,r5,q5⟩:=af;cases z2 with
   |bl k2=>cases r5;exact lR ⟨H5,I5,q5⟩
   |_=>exact q5.elim
 |_=>exact q3.elim
end
section
variable {X:Cx}{a b c e:k8}{ta:TE}{t:TA}
def mIx (K:Fgg):R2:=λx y H Q=>match y with
 |.int i=>(match x with
  |.ref p=>∃xs,(SqL K H p xs\/SqT K H p xs)/\(match atI xs i with |some v=>Q v H |none=>False)
  |.str z=>z.cps.toList.length<=kR/\(match atI z.cps.toList i with |some c=>Q (tx [c]) H |none=>False)
  |_=>False)
 |_=>False
theorem ix_M:IxR X (mIx X.K):=by
 intro value slice pins s σ H x y v u Q I rx ry h gp;unfold mIx at h;cases y with
 |int i=>
  cases x with
  |ref p=>
   obtain⟨xs,hs,h⟩:=h;cases ev:atI xs i with
   |none=>rw[ev]at h;exact h.elim
   |some w'=>
    rw[ev]at h;rcases hs with hs |hs
    ·exact znU_ value slice pins s σ H _ _ v u Q I rx ry ⟨p,xs,i,w',rfl,rfl,hs,ev,h⟩ gp
    ·exact zqn_ value slice pins s σ H _ _ v u Q I rx ry ⟨p,xs,i,w',rfl,rfl,hs,ev,h⟩ gp
  |str z=>
   obtain⟨hz,h⟩:=h;cases ev:atI z.cps.toList i with
   |none=>rw[ev]at h;exact h.elim
   |some w'=>
    rw[ev]at h;exact zrn_ value slice pins s σ H _ _ v u Q I rx ry ⟨z,i,w',rfl,rfl,by simpa [m4]using hz,ev,h⟩ gp
  |_=>exact h.elim
 |_=>exact h.elim
def mSl (K:Fgg):V->Option Int->Option Int->Hp->VK->Prop:=λx lo hi H Q=>match x with
 |.str z=>z.cps.toList.length<=kR/\Q (tx (cutL z.cps.toList lo hi)) H
 |.ref a=>∃xs,SqL K H a xs/\∀p,H p=uD->Q (.ref p) (upd H p (.lst (cutV xs lo hi)))
 |_=>False
theorem sl_M:SlR X (mSl X.K):=by
 intro pins s σ H x v vl vu lo hi sl Q I rx hs pl pu h;unfold mSl at h;cases x with
 |str z=>exact ziB_ pins s σ H _ v vl vu lo hi sl Q I rx hs pl pu ⟨by simpa [m4]using h.1,h.2⟩
 |ref p=>
  obtain⟨xs,h1,h2⟩:=h;exact zl0_ pins s σ H _ v vl vu lo hi sl Q I rx hs pl pu ⟨p,xs,rfl,h1,h2⟩
 |_=>exact h.elim
def mPart (t:TE):TO:=λσ H Q=>t σ H λx H1=>match x with |.int i=>Q (uC i) H1 |_=>False
theorem po_M (h:PE X e ta):PO X (uC e) (mPart ta):=by
 intro pins s σ H Q I hw;rw[evalPart_some];refine thn (h pins s σ H _ I hw) λu s1 af=>?_
 obtain⟨x,H1,I1,r1,q1⟩:=af;cases x with
 |int i=>obtain⟨t,rfl⟩:=r1;exact⟨uC i,H1,I1,.int i t,q1⟩
 |_=>exact q1.elim
def mLen (K:Fgg):List V->Hp->VK->Prop:=λxs H Q=>match xs with
 |[.str z]=>z.cps.toList.length<=kR/\Q (.int z.cps.toList.length) H
 |[.ref p]=>∃ys,(SqL K H p ys\/SqT K H p ys)/\Q (.int ys.length) H
 |_=>False
theorem zjI_ {K:Fgg}{xs:List V}{H:Hp}{Q:VK}(h:mLen K xs H Q):(∃z,xs=[.str z]/\z.cps.toList.length<=kR/\Q (.int z.cps.toList.length) H)\/∃p ys,xs=[.ref p]/\(SqL K H p ys\/SqT K H p ys)/\Q (.int ys.length) H:=by
 rcases xs with _ |⟨x,_ |⟨y,t⟩⟩
 ·exact lL h
 ·cases x with
  |str z=>exact .inl ⟨z,rfl,h⟩
  |ref p=>obtain⟨ys,h⟩:=h;exact .inr ⟨p,ys,rfl,h⟩
  |_=>exact lL h
 ·cases x<;>exact lL h
theorem ziJ_:CallR X (.builtin "len") (mLen X.K):=by
 intro pins s σ H xs us Q I r h;rcases zjI_ h with⟨z,rfl,h⟩|⟨p,ys,rfl,h1,h2⟩
 ·exact zep_ pins s σ H _ us Q I r ⟨_,rfl,by simpa [m4]using h.1,by simpa [m4]using h.2⟩
 ·exact zd1_ pins s σ H _ us Q I r ⟨_,ys,rfl,h1,h2⟩
def mTwo (g:Int->Int->Int):List V->Hp->VK->Prop:=λxs H Q=>match xs with |[.int i,.int j]=>Q (.int (g i j)) H |_=>False
theorem zj2_ {g:Int->Int->Int}{xs:List V}{H:Hp}{Q:VK}(h:mTwo g xs H Q):∃i j,xs=[.int i,.int j]/\Q (.int (g i j)) H:=by
 rcases xs with _ |⟨x,_ |⟨y,_ |⟨w,t⟩⟩⟩
 ·exact lL h
 ·cases x<;>exact lL h
 ·cases x with
  |int i=>cases y with
   |int j=>exact⟨i,j,rfl,h⟩
   |_=>exact lL h
  |_=>exact lL h
 ·cases x with
  |int i=>cases y<;>exact lL h
  |_=>exact lL h
theorem zii_ (hc:X.calm=uE):CallR X (.builtin "min") (mTwo min):=by
 intro pins s σ H xs us Q I r h;obtain⟨i,j,rfl,h⟩:=zj2_ h;refine ziN_ hc pins s σ H _ us Q I r ⟨i,j,rfl,?_⟩;have e:(if j<i then j else i)=min i j:=by split<;>lia
 rw[e];exact h
def tyS (K:Fgg)(H:Hp):V->String->Prop:=λx T=>match x with
 |.non=>T="NoneType" |.bl _=>T="bool" |.int _=>T="int" |.str _=>T="str"
 |.ref p=>(T="list" /\ ∃xs,H p=uC (.lst xs))\/(T="tuple" /\ ∃xs,H p=uC (.tup xs))
 |_=>False
theorem zpq_ {K:Fgg}{H:Hp}{x:V}{T:String}(h:tyS K H x T):TyOf K H x (.type T):=by
 unfold tyS at h;cases x with
 |non=>subst h;exact .non
 |bl b=>subst h;exact .bl b
 |int i=>subst h;exact .int i
 |str z=>subst h;exact .str z
 |ref p=>
  rcases h with⟨rfl,xs,h⟩|⟨rfl,xs,h⟩
  ·exact .lst h
  ·exact .tup h
 |_=>exact h.elim
noncomputable def isaB (T c:String):Option Bool:=
 if T=c then uC uE else if T="bool" /\ c="int" then uC uE
 else if(T="bool" \/ T="int" \/ T="str" \/ T="list" \/ T="tuple" \/ T="NoneType")/\(c="bool" \/ c="int" \/ c="str" \/ c="list" \/ c="tuple" \/ c="dict")then uC uF else uD
theorem znM_ {K:Fgg}{T c:String}{b:Bool}(h:isaB T c=uC b):uh K (.type T) (.type c)=uC b:=by
 unfold isaB at h;split at h
 ·rename_i e;subst e;cases h
  unfold uh;rw[if_pos (by simp)]
 ·split at h
  ·rename_i e;obtain⟨rfl,rfl⟩:=e;cases h;rfl
  ·split at h
   ·rename_i h1 h2 e
    cases h;obtain⟨e1,e2⟩:=e;rcases e1 with rfl |rfl |rfl |rfl |rfl |rfl<;>rcases e2 with rfl |rfl |rfl |rfl |rfl |rfl<;>first |rfl |exact absurd rfl h1 |exact absurd ⟨rfl,rfl⟩ h2
   ·cases h
noncomputable def findS (l:List Nat)(t:List Nat):Int:=Txt.find ⟨l.toArray⟩ ⟨t.toArray⟩
theorem zkL_ (l:List Nat)(c:Nat):findS l [c]=(match l.findIdx? (· == c)with |some i=>(i:Int)|none => -1):=by
 unfold findS;rcases find_whole ⟨l.toArray⟩ ⟨[c].toArray⟩with⟨h1,h2⟩|⟨i,h1,h2,h3⟩
 ·rw[h1]
  have:l.findIdx? (· == c)=uD:=by
   rw[List.findIdx?_eq_none_iff];intro x hx;obtain⟨j,hj⟩:=List.mem_iff_getElem?.mp hx;by_cases hxc:x=c
   ·subst hxc
    exact absurd ((pQ ⟨l.toArray⟩ x j).mpr (by simpa using hj)) (h2 j)
   ·simpa using hxc
  rw[this]
 ·rw[h1]
  have hi:l[i]?=uC c:=by simpa using(pQ ⟨l.toArray⟩ c i).mp h2
  have:l.findIdx? (· == c)=uC i:=by
   obtain⟨aA,hget⟩:=lg.mp hi;rw[List.findIdx?_eq_some_iff_getElem];refine⟨aA,by simp[hget],λj hj=>?_⟩
   have gz:j<l.length:=tE hj aA;have hn:=h3 j hj;intro hc;have aC:l[j]=c:=by simpa using hc
   exact hn ((pQ ⟨l.toArray⟩ c j).mpr (by simp[gz,aC]))
  rw[this]
def mIndex:V->List V->Hp->VK->Prop:=λx xs H Q=>match x,xs with |.str l,[.str t]=>findS l.cps.toList t.cps.toList ≠ -1/\Q (.int (findS l.cps.toList t.cps.toList)) H |_,_=>False
theorem zjV_:MtR X "str.index" mIndex:=by
 intro pins s σ H x xs v us Q I rx rv h;unfold mIndex at h;split at h
 ·rename_i l t
  obtain⟨k,rfl⟩:=rx;obtain⟨u,rfl,ru⟩:=rv.one;obtain⟨k',rfl⟩:=ru;have e:Txt.find l t=findS l.cps.toList t.cps.toList:=by unfold findS;rw[<- zas_,<- zas_]
  rw[<- e]at h;unfold Txt.find at h;cases ho:m8 l t 0 l.length 1 with
  |nil=>rw[ho]at h;exact absurd rfl h.1
  |cons i rest=>
   rw[ho]at h;exact SC.index ho ⟨.int _,H,I.tok _,⟨_,rfl⟩,h.2⟩
 ·exact h.elim
noncomputable def strsOf:List V->Option (List Str)
 |[]=>uC []
 |.str z::r=>(strsOf r).map (z::·)
 |_::_=>uD
theorem zg3_ {vs:List V}{zs:List Str}:strsOf vs=uC zs->vs=zs.map V.str:=by
 induction vs generalizing zs with
 |nil=>intro h;cases h;rfl
 |cons v r ih=>
  intro h;cases v with
  |str z=>
   unfold strsOf at h;cases e:strsOf r with
   |none=>rw[e]at h;cases h
   |some y=>rw[e]at h;cases h;rw[ih e];rfl
  |_=>cases h
noncomputable def joinS (sep:List Nat)(zs:List Str):List Nat:=(Txt.join ⟨sep.toArray⟩ zs).cps.toList
def mJoin (K:Fgg):V->List V->Hp->VK->Prop:=λx xs H Q=>match x,xs with
 |.str l,[.ref D]=>∃vs,(SqL K H D vs)/\(match strsOf vs with |some zs=>JoinOk l zs=uE/\Q (tx (joinS l.cps.toList zs)) H |none=>False)
 |_,_=>False
theorem zeM_:∀{zs:List Str}{us:List aU},Vals (zs.map V.str) us->∃l:List (Str×Tok),us=strValues l/\l.map (·.1)=zs
 |[],us,r=>by cases r;exact⟨[],rfl,rfl⟩
 |z::zs,us,r=>by
  cases r with
  |cons r rr=>
   obtain⟨t,rfl⟩:=r;obtain⟨l,rfl,hl⟩:=zeM_ rr;exact⟨(z,t)::l,rfl,by rw[kF,hl]⟩
theorem ziM_ {K:Fgg}{x:V}{xs:List V}{H:Hp}{Q:VK}(h:mJoin K x xs H Q):∃l D,x=.str l/\xs=[.ref D]/\∃vs,(SqL K H D vs)/\(match strsOf vs with |some zs=>JoinOk l zs=uE/\Q (tx (joinS l.cps.toList zs)) H |none=>False):=by
 cases x with
 |str l=>
  rcases xs with _ |⟨y,_ |⟨z,t⟩⟩
  ·exact lL h
  ·cases y with
   |ref t=>exact⟨l,t,rfl,rfl,h⟩
   |_=>exact lL h
  ·cases y<;>exact lL h
 |_=>exact lL h
theorem zlJ_:MtR X "str.join" (mJoin X.K):=by
 intro pins s σ H x xs v us Q I rx rv h;obtain⟨l,D,rfl,rfl,h⟩:=ziM_ h
 ·obtain⟨k,rfl⟩:=rx
  obtain⟨u,rfl,ru⟩:=rv.one;cases ru;obtain⟨vs,hs,h⟩:=h;cases ez:strsOf vs with
  |none=>rw[ez]at h;exact h.elim
  |some zs=>
   rw[ez]at h;have ev:=zg3_ ez;subst ev;obtain⟨aa,r,p,hz⟩:=I.list hs;obtain⟨lz,e1,e2⟩:=zeM_ r;subst e1;refine SC.join p.isList e2 h.1 λt' k'=>⟨tx (joinS l.cps.toList zs),H,I.tok _,⟨t',?_⟩,h.2⟩
   unfold joinS;rw[<- zas_,<- zas_]
end
theorem zj3_ (zs:List Str):joinS [] zs=(zs.map λz=>z.cps.toList).flatten:=by
 unfold joinS Txt.join uy;cases zs with
 |nil=>rfl
 |cons z r=>
  show((r.foldl (λacc p=>acc++#[]++p.cps) z.cps)).toList=_
  have:∀(acc:Array Nat),(r.foldl (λacc p=>acc++#[]++p.cps) acc).toList=acc.toList++(r.map λz=>z.cps.toList).flatten:=by
   induction r with
   |nil=>intro acc;simp
   |cons y r ih=>intro acc;rw[pB,ih];simp
  rw[this];simp
def Gd (P:lF)(w:lW)(K:Fgg)(mg:Str->Option aU)(base:Heap)(CX:CXT)(k:Nat)(x:Str)(ps:List Str)(sp:Sp):Prop:=
 ∃f fd,FnOk P w K mg base CX k f fd ps sp/\mg x=uC (.ref f)/\oe K (.ref f)=uE/\Binds K fd ps []
def Gc (mg:Str->Option aU)(x:Str)(v:V):Prop:=∃u,mg x=uC u/\RelV v u
abbrev Gb (mg:Str->Option aU)(x:Str):Prop:=mg x=uD
section
variable {X:Cx}{x:Str}{p pos:Pos}{e:k8}{es:List k8}{t:TA}{tg:k8}
theorem pe_gc {v:V}(h:Gc X.mg x v)(hg:Gl X x:=by rfl)(hd:(x==("__debug__":Str))=uF:=by decide):PE X (.Name x pos) (tC v):=by
 obtain⟨u,hm,r⟩:=h;exact zom_ hg hm r hd
theorem pe_ty (T:String)(hm:Gb X.mg x)(hg:Gl X x:=by rfl)(hv:nr x=uC (.type T):=by rfl)(hn:x ≠ "__name__":=by decide)(hd:(x==("__debug__":Str))=uF:=by decide):PE X (.Name x pos) (tC (.ty T)):=
 zoq_ hg hm hv rfl hn hd
theorem zlZ_ {id:String}{r:List V->Hp->VK->Prop}(hc:CallR X (.builtin id) r)(hm:Gb X.mg x)(ha:PA X (e::es) t)(hg:Gl X x:=by rfl)(hv:nr x=uC (.builtin id):=by rfl)(hn:x ≠ "__name__":=by decide)(a7:(x==("__debug__":Str))=uF:=by decide)
  (hs:lJ (e::es) X.env=(uF,eval e X.env)::lJ es X.env:=by rfl) (aT:(nX pos (lJ es X.env)).any (·.1)=uF:=by rfl):PE X (.Call (.Name x p) (e::es) [] pos) (tCB r t):=
 zkw_ hc hg hm hv ha hn a7 hs aT
theorem zro_ {o:k8}{to:TE}{name:Str}{id:String}{r:V->List V->Hp->VK->Prop}{apos ao:Pos}(slot:Slot "str" name id)(dX:typeOf (.builtin id)=pure (.type "method_descriptor"))(hm:MtR X id r)(ho:PE X o to)(ha:PA X (e::es) t)
  (h1:attributeBase o name X.env (eval o X.env)=eval o X.env:=by rfl) (h2:((((nX ao (lJ (e::es) X.env)).all λx=>!x.fst) && (qy ao (pv [] X.env)).all λx=>x.fst.isSome) && decide (((e::es).length+([]:List Keyword).length+if([]:List Keyword).isEmpty=uE then 0 else 1)<30))=uE:=by rfl)
  (h3:(apos.endLine == ao.line)=uE:=by rfl) (h4:lJ (e::es) X.env=(uF,eval e X.env)::lJ es X.env:=by rfl) (h5:((nX ao (lJ es X.env)).any λx=>x.fst)=uF:=by rfl):
  PE X (.Call (.Attribute o name apos) (e::es) [] ao) (tBM X.K "str" r to t):=zoz_ PySem.F.plainAttrs_str slot dX hm ho ha h1 h2 h3 h4 h5
def iAny (K:Fgg)(tl:TE):TI:=λσ H R=>tl σ H λx H1=>match x with
 |.str z=>R (Itp z.cps.toList.length (λi=>tx [z.cps.toList.getD i 0])) H1
 |.ref a=>((∃xs,SqL K H1 a xs)/\R (Itl K a) H1)\/((∃xs,SqT K H1 a xs)/\R (Itt K a) H1)
 |_=>False
theorem zm1_ (z:Str):sgn z=λi=>tx [z.cps.toList.getD i 0]:=by
 funext i;unfold sgn;simp[mP,kE]
theorem zoZ_ {l:k8}{tl:TE}(hl:PE X l tl):PI X tg l (iAny X.K tl):=by
 intro pins s σ H R I h;refine thn (hl pins s σ H _ I h) λv s1 af=>?_
 obtain⟨x,H1,I1,r1,q1⟩:=af;have pt:∀(v:V),PE X l (tC v)->PE X l (tC v):=λ_ h=>h
 cases x with
 |str z=>
  obtain⟨t,rfl⟩:=r1;refine wpAny_pyIter_strU ?_;have q:R (Itp z.cps.size (sgn z)) H1:=by
   have e:z.cps.toList.length=z.cps.size:=by simp
   rw[zm1_,<- e];exact q1
  refine⟨s1.heap.objs.size,[s1.heap.objs.size],_,_,H1,rfl,I1.kept (t':=s1.toks) λb o e=>kq _ e,zjN_ _ z t,⟨l5 _,⟨_,ll _ rfl,rfl,rfl⟩⟩,λb hb=>?_,q⟩
  have e:b=s1.heap.objs.size:=by simpa using hb
  subst e;exact I1.fpOk (kx _) (I1.hok.fresh (kx _))
 |ref a=>
  cases r1;rcases q1 with⟨⟨xs,hq⟩,q⟩|⟨⟨xs,hq⟩,q⟩
  ·obtain⟨aa,rv,p,hz⟩:=I1.list hq
   refine wpAny_pyIter_list p.isList ?_;refine⟨s1.heap.objs.size,[s1.heap.objs.size],_,_,H1,rfl,I1.kept (t':=s1.toks) λb o e=>kq _ e,zij_ a _,⟨_,ll _ rfl,rfl,rfl⟩,λb hb=>?_,q⟩
   have e:b=s1.heap.objs.size:=by simpa using hb
   subst e;exact I1.fpOk (kx _) (I1.hok.fresh (kx _))
  ·obtain⟨aa,rv,p,hz⟩:=I1.tuple hq
   refine wpAny_pyIter_tuple (show s1.heap.IsTuple a aa.toArray from p) ?_
   refine⟨s1.heap.objs.size,[s1.heap.objs.size],_,_,H1,rfl,I1.kept (t':=s1.toks) λb o e=>kq _ e,zfM_ a _,⟨_,ll _ rfl,rfl,rfl⟩,λb hb=>?_,q⟩
   have e:b=s1.heap.objs.size:=by simpa using hb
   subst e;exact I1.fpOk (kx _) (I1.hok.fresh (kx _))
 |_=>exact q1.elim
def mRng1 (ta:TA):TI:=λσ H R=>ta σ H λvs H1=>match vs with |[.int j] => -(2 ^ 62)<=j/\j<2 ^ 62/\R (Itr 0 j.toNat) H1 |_=>False
def mRng2 (ta:TA):TI:=λσ H R=>ta σ H λvs H1=>match vs with |[.int i,.int j]=>(-(2 ^ 62)<=i/\i<2 ^ 62 /\ -(2 ^ 62)<=j/\j<2 ^ 62)/\R (Itr i (j-i).toNat) H1 |_=>False
end
section
variable {X:Cx}{tg:k8}
theorem zlk_ {a:k8}{ta:TA}{p pos:Pos}(hm:Gb X.mg "range")(ha:PA X [a] ta)(hg:Gl X "range":=by rfl)(hs:lJ [a] X.env=[(uF,eval a X.env)]:=by rfl):PI X tg (.Call (.Name "range" p) [a] [] pos) (mRng1 ta):=by
 intro pins s σ H R I h;refine Call_ (zdB_ I hg hm boot_range (mO (thn (ha pos pins s σ H _ I h) λus s1 af=>?_) hs rfl))
 obtain⟨vs,H1,I1,r1,q1⟩:=af
 try dsimp only at q1
 split at q1
 ·obtain⟨q2,q3,q⟩:=q1
  cases r1 with
  |cons r rr=>
   cases rr;obtain⟨t,rfl⟩:=r;exact call_range_1 (zf2_ I1 (by lia) (by lia) q2 q3 (by simpa using q))
 ·exact q1.elim
theorem zkS_ {a b:k8}{ta:TA}{p pos:Pos}(hm:Gb X.mg "range")(ha:PA X [a,b] ta)(hg:Gl X "range":=by rfl)(hs:lJ [a,b] X.env=[(uF,eval a X.env),(uF,eval b X.env)]:=by rfl)(aQ:lJ [b] X.env=[(uF,eval b X.env)]:=by rfl):
  PI X tg (.Call (.Name "range" p) [a,b] [] pos) (mRng2 ta):=by
 intro pins s σ H R I h;refine Call_ (zdB_ I hg hm boot_range (mO (thn (ha pos pins s σ H _ I h) λus s1 af=>?_) (by rw[hs,aQ]) (by rw[aQ];rfl)))
 obtain⟨vs,H1,I1,r1,q1⟩:=af
 try dsimp only at q1
 split at q1
 ·obtain⟨⟨q1,q2,q3,q4⟩,q⟩:=q1
  cases r1 with
  |cons r rr=>
   cases rr with
   |cons r' rr=>
    cases rr;obtain⟨t,rfl⟩:=r;obtain⟨t',rfl⟩:=r';exact call_range_2 (zf2_ I1 q1 q2 q3 q4 q)
 ·exact q1.elim
variable {elts:List k8}{kk:Nat}{cO:Pos}
def iEnum (K:Fgg)(ta:TA):TI:=λσ H R=>ta σ H λvs H1=>match vs with
 |[.str z]=>R (Ites z.cps.toList.length (λi=>tx [z.cps.toList.getD i 0])) H1
 |[.ref a]=>(∃xs,SqL K H1 a xs)/\R (Ite K a) H1
 |_=>False
theorem znV_ {a:k8}{ta:TA}{p pos:Pos}(hm:Gb X.mg "enumerate")(ha:PA X [a] ta)(hg:Gl X "enumerate":=by rfl)(hs:lJ [a] X.env=[(uF,eval a X.env)]:=by rfl):
  PI X (.Tuple elts kk cO) (.Call (.Name "enumerate" p) [a] [] pos) (iEnum X.K ta):=by
 intro pins s σ H R I h;refine Call_ (zdB_ I hg hm (u:=.type "enumerate") (by rfl) (mO (thn (ha pos pins s σ H _ I h) λus s1 af=>?_) hs rfl))
 obtain⟨vs,H1,I1,r1,q1⟩:=af
 try dsimp only at q1
 split at q1
 ·rename_i z
  cases r1 with
  |cons r rr=>
   cases rr;obtain⟨t,rfl⟩:=r;refine call_enumerate_str λh' he hit hsz hk=>?_
   refine wpAny_pyIter_enum (s:={s1 with heap:=h'}) he ?_;have I2:Inv X pins σ H1 {s1 with heap:=h'}:=I1.kept (t':=s1.toks) hk;have q:R (Ites z.cps.size (sgn z)) H1:=by
    have e:z.cps.toList.length=z.cps.size:=by simp
    rw[zm1_,<- e];exact q1
   refine⟨s1.heap.objs.size+1,[s1.heap.objs.size+1,s1.heap.objs.size],_,_,H1,rfl,I2,zhr_ _ _ z t (by simp),⟨⟨_,he⟩,l5 _,hit⟩,λb hb=>?_,q⟩
   have c_:s1.heap.objs.size<=b:=by
    rcases k9.mp hb with rfl |hb
    ·exact nR _
    ·have e:b=s1.heap.objs.size:=by simpa using hb
     subst e;exact kx _
   exact I1.fpOk c_ (I1.hok.fresh c_)
 ·rename_i l
  obtain⟨⟨xs,hq⟩,q⟩:=q1;cases r1 with
  |cons r rr=>
   cases rr;cases r;obtain⟨aa,rv,p,hz⟩:=I1.list hq;refine call_enumerate_list p.isList λh' he hit hsz hk=>?_
   refine wpAny_pyIter_enum (s:={s1 with heap:=h'}) he ?_;have I2:Inv X pins σ H1 {s1 with heap:=h'}:=I1.kept (t':=s1.toks) hk;refine⟨s1.heap.objs.size+1,[s1.heap.objs.size+1,s1.heap.objs.size],_,_,H1,rfl,I2,zgo_ _ _ l (by simp),⟨⟨_,he⟩,hit⟩,λb hb=>?_,q⟩
   have c_:s1.heap.objs.size<=b:=by
    rcases k9.mp hb with rfl |hb
    ·exact nR _
    ·have e:b=s1.heap.objs.size:=by simpa using hb
     subst e;exact kx _
   exact I1.fpOk c_ (I1.hok.fresh c_)
 ·exact q1.elim
def gNilM:TGs:=λvs σ H Q=>match vs with |[]=>Q σ H |_=>False
def gConsM (t:TG)(u:TGs):TGs:=λvs σ H Q=>match vs with |v::r=>t v σ H λai H'=>u r ai H' Q |[]=>False
theorem zkj_:PGs X [] gNilM:=by
 intro pins s σ H vs us Q I r h;cases vs with
 |nil=>exact znR_ pins s σ H [] us Q I r ⟨rfl,h⟩
 |cons _ _=>exact h.elim
theorem zh9_ {e:k8}{es:List k8}{t:TG}{u:TGs}(h1:PG X e t)(h2:PGs X es u)
  (hs:(mZ (e::es) X.env).map (·.2)=assign e X.env::(mZ es X.env).map (·.2):=by rfl):PGs X (e::es) (gConsM t u):=by
 intro pins s σ H vs us Q I r h;cases vs with
 |nil=>exact h.elim
 |cons v vr=>exact zkb_ h1 h2 hs pins s σ H _ us Q I r ⟨v,vr,rfl,h⟩
def gTupM (K:Fgg)(n:Nat)(t:TGs):TG:=λv σ H Q=>match v with |.ref a=>∃xs,SqT K H a xs/\xs.length=n/\t xs σ H Q |_=>False
theorem zou_ {es:List k8}{k:Nat}{t:TGs}{n:Nat}{pos:Pos}(hc:X.calm=uE)(h:PGs X es t)
  (hn:(mZ es X.env).length=n:=by rfl) (gm:(mZ es X.env).findIdx? (·.1)=uD:=by rfl):PG X (.Tuple es k pos) (gTupM X.K n t):=by
 intro pins s σ H v u Q I r hw;cases v with
 |ref a=>
  obtain⟨xs,h1,h2,h3⟩:=hw;exact zoY_ hc h hn gm pins s σ H _ u Q I r ⟨a,xs,rfl,h1,h2,h3⟩
 |_=>exact hw.elim
def mNeg (ta:TE):TE:=λσ H Q=>ta σ H λx H1=>match x with |.int i=>Q (.int (-i)) H1 |_=>False
theorem zpr_ {a:k8}{ta:TE}{pos:Pos}(ha:PE X a ta):PE X (.UnaryOp .USub a pos) (mNeg ta):=by
 intro pins s σ H Q I h;refine UnaryOp_ (thn (ha pins s σ H _ I h) λv s1 af=>?_)
 obtain⟨x,H1,I1,r1,q1⟩:=af;cases x with
 |int i=>exact zqq_ pins s1 σ H1 _ v Q I1 r1 ⟨i,rfl,q1⟩
 |_=>exact q1.elim
end
theorem zV_ {H:Hp}{p:kz}(h:H p=uD)(o:HO):Same H (upd H p o):=λb u q=>by rw[zc_ (zd_ q h)];exact q
theorem zbi_ {n:Nat}(h:n<=100000):n<=kR:=by rw[sizeLine_eq];lia
theorem zeD_ {zs:List Str}{sep:Str}(h:zs.length*(sep.length+1)<=100000)(h1:∀z∈zs,z.length<=1):JoinOk sep zs=uE:=by
 unfold JoinOk;have key:∀(l:List Str) (acc:Nat),(∀z∈l,z.length<=1)->l.foldl (λx1 x2=>x1+x2.length+sep.length) acc<=acc+l.length*(sep.length+1):=by
  intro l;induction l with
  |nil=>intro acc _;simp
  |cons z r ih=>
   intro acc hz;rw[pB];have h2:=ih (acc+z.length+sep.length) λy hy=>hz y (lu _ hy)
   have h3:=hz z lA;rw[kZ,Nat.add_mul];omega
 have q:=key zs 0 h1;rw[List.foldl_toArray];unfold pF;simp only[pR,decide_eq_false_iff_not];have:zs.foldl (λx1 x2=>x1+x2.length+sep.length) 0<=100000:=by omega
 have hl:(100000:Nat)<=kR:=by rw[sizeLine_eq];omega
 omega
section
variable {X:Cx}
def mSet:TSet:=λo i v H Q=>match i with
 |.int k=>(match o with
  |.ref p=>∃xs,H p=uC (.lst xs)/\(match ixN xs.length k with |some j=>Q (upd H p (.lst (xs.set j v)))|none=>False)
  |_=>False)
 |_=>False
theorem set_M:PSet X mSet:=by
 intro pins s σ H o i v ov iv u Q I ro ri rv h;unfold mSet at h;cases i with
 |int k=>
  cases o with
  |ref p=>
   obtain⟨xs,h1,h⟩:=h;cases e:ixN xs.length k with
   |none=>rw[e]at h;exact h.elim
   |some j=>
    rw[e]at h;exact zkU_ pins s σ H _ _ v ov iv u Q I ro ri rv ⟨p,xs,k,j,rfl,rfl,h1,e,h⟩
  |_=>exact h.elim
 |_=>exact h.elim
noncomputable def strI (i:Int):List Nat:=(oF (toString i)).cps.toList
def mStr:List V->Hp->VK->Prop:=λxs H Q=>match xs with |[.int i]=>i.natAbs.log2<1920/\Q (tx (strI i)) H |_=>False
theorem ziy_:CallR X (.type "str") mStr:=by
 intro pins s σ H xs us Q I r h;unfold mStr at h;split at h
 ·rename_i i
  refine zex_ pins s σ H _ us Q I r ⟨i,rfl,h.1,?_⟩;have e:tx (strI i)=V.str (oF (toString i)):=by unfold strI tx;rw[<- zas_]
  rw[<- e];exact h.2
 ·exact h.elim
def mZfill:V->List V->Hp->VK->Prop:=λx xs H Q=>match x,xs with |.str l,[.int i]=>PadOk i=uE/\Q (tx (Txt.zfill l i).cps.toList) H |_,_=>False
theorem zka_:MtR X "str.zfill" mZfill:=by
 intro pins s σ H x xs v us Q I rx rv h;have hi:∃l i,x=.str l/\xs=[.int i]/\PadOk i=uE/\Q (tx (Txt.zfill l i).cps.toList) H:=by
  cases x with
  |str l=>
   rcases xs with _ |⟨y,_ |⟨z,t⟩⟩
   ·exact lL h
   ·cases y with
    |int t=>exact⟨l,t,rfl,rfl,h⟩
    |_=>exact lL h
   ·cases y<;>exact lL h
  |_=>exact lL h
 obtain⟨l,i,rfl,rfl,h⟩:=hi;obtain⟨k,rfl⟩:=rx;obtain⟨u,rfl,ru⟩:=rv.one;obtain⟨k',rfl⟩:=ru;exact SC.zfill h.1 λt' k=>⟨tx (Txt.zfill l i).cps.toList,H,I.tok _,⟨t',by rw[<- zas_]⟩,h.2⟩
variable {x:Str}{p pos:Pos}{e:k8}{es:List k8}{t:TA}
theorem zoF_ (T:String){r:List V->Hp->VK->Prop}(hc:CallR X (.type T) r)(hm:Gb X.mg x)(ha:PA X (e::es) t)(hg:Gl X x:=by rfl)(hv:nr x=uC (.type T):=by rfl)(hn:x ≠ "__name__":=by decide)(a7:(x==("__debug__":Str))=uF:=by decide)
  (hs:lJ (e::es) X.env=(uF,eval e X.env)::lJ es X.env:=by rfl) (aT:(nX pos (lJ es X.env)).any (·.1)=uF:=by rfl):PE X (.Call (.Name x p) (e::es) [] pos) (tCB r t):=
 zid_ hc hg hm hv ha hn a7 hs aT
end
theorem zft_ {i:Int}(h0 : -1000<=i)(h1:i<=1000):PadOk i=uE:=by
 unfold PadOk fitsSsize pF;have h3:(100000:Nat)<=kR:=by rw[sizeLine_eq];lia
 simp only[kl,pR,decide_eq_true_eq,decide_eq_false_iff_not,Bool.or_eq_false_iff];lia
noncomputable def digs:Nat->Nat->List Nat
 |0,_=>[]
 |w+1,n=>digs w (n / 10)++[48+n % 10]
theorem zcy_:∀(w n:Nat),(digs w n).length=w
 |0,_=>rfl
 |w+1,n=>by rw[digs,kX,zcy_ w];rfl
theorem ze0_:∀(w:Nat),digs w 0=kY w 48
 |0=>rfl
 |w+1=>by rw[digs,ze0_ w,List.replicate_succ']
theorem zeb_:∀(w n:Nat),digs w (n % 10 ^ w)=digs w n
 |0,_=>rfl
 |w+1,n=>by
  rw[digs,digs];have e1:n % 10 ^ (w+1) % 10=n % 10:=by
   rw[oV,Nat.mod_mul_left_mod]
  have e2:n % 10 ^ (w+1) / 10=n / 10 % 10 ^ w:=by
   rw[oV,Nat.mod_mul_left_div_self]
  rw[e1,e2,zeb_ w]
def dg (m:Nat):List Nat:=(qh 10 m).map Char.toNat
theorem zd6_ (m:Nat):strI (m:Int)=dg m:=W.KIN.signs_num m
theorem zdW_:∀d:Nat,d<10->(qM d).toNat=48+d:=by decide
theorem dg_lt {m:Nat}(h:m<10):dg m=[48+m]:=by
 unfold dg;rw[p5 h];show[(qM m).toNat]=_
 rw[zdW_ m h]
theorem dg_ge {m:Nat}(h:¬m<10):dg m=dg (m / 10)++[48+m % 10]:=by
 unfold dg;have hm:m % 10<10:=sy m (by decide)
 have t:qh 10 (m / 10)++qh 10 (m % 10)=qh 10 (10*(m / 10)+m % 10):=Nat.toDigits_append_toDigits (by decide) (by lia) hm
 rw[qo]at t;rw[<- t,mV,p5 hm];show _++[(qM (m % 10)).toNat]=_
 rw[zdW_ _ hm]
theorem zlF_:∀(w m:Nat),m<10 ^ (w+1)->(dg m).length<=w+1/\kY (w+1-(dg m).length) 48++dg m=digs (w+1) m
 |w,m,h=>by
  by_cases hm:m<10
  ·rw[dg_lt hm]
   refine⟨by show 1<=w+1;lia,?_⟩
   rw[digs,show m / 10=0 by lia,ze0_,show m % 10=m by lia]
   rfl
  ·cases w with
   |zero=>exact absurd h (by simpa using hm)
   |succ w=>
    have hd:m / 10<10 ^ (w+1):=by
     rw[o8 (by decide)]
     rw[oV]at h;exact h
    obtain⟨h1,h2⟩:=zlF_ w (m / 10) hd;rw[dg_ge hm];refine⟨by rw[kX];show _+1<=_;lia,?_⟩
    have e:digs (w+1+1) m=digs (w+1) (m / 10)++[48+m % 10]:=rfl;rw[e,<- h2,m9,kX];have e2:w+1+1-((dg (m / 10)).length+[48+m % 10].length)=w+1-(dg (m / 10)).length:=by
     show w+1+1-((dg (m / 10)).length+1)=_
     lia
    rw[e2]
theorem zm6_ (m:Nat):∃c r,dg m=c::r/\48<=c:=by
 induction m using Nat.strongRecOn with
 |_ m ih=>
  by_cases h:m<10
  ·exact⟨48+m,[],dg_lt h,by lia⟩
  ·obtain⟨c,r,e,hc⟩:=ih (m / 10) (by lia)
   exact⟨c,r++[48+m % 10],by rw[dg_ge h,e];rfl,hc⟩
theorem zcm_ {w m:Nat}(hw:1<=w)(h:m<10 ^ w):(Txt.zfill ⟨(dg m).toArray⟩ (w:Int)).cps.toList=digs w m:=by
 obtain⟨w',rfl⟩:∃w',w=w'+1:=⟨w-1,by lia⟩
 obtain⟨h1,h2⟩:=zlF_ w' m h;have hl:(⟨(dg m).toArray⟩:Str).length=(dg m).length:=by simp[m4]
 unfold Txt.zfill;rw[hl];by_cases he:((w'+1:Nat):Int)<=((dg m).length:Int)
 ·rw[if_pos he]
  have e:(dg m).length=w'+1:=by lia
  rw[<- h2,e,rj];simp
 ·rw[if_neg he]
  obtain⟨c,r,ec,hc⟩:=zm6_ m;have e:zfilled ⟨(dg m).toArray⟩ ((((w'+1:Nat):Int)).toNat-(dg m).length)=qV ⟨(dg m).toArray⟩ ((((w'+1:Nat):Int)).toNat-(dg m).length) 0 48:=by
   unfold zfilled;have e0:((⟨(dg m).toArray⟩:Str).cps)[0]?=uC c:=by rw[ec];simp
   rw[e0];split
   ·rename_i h';cases h';lia
   ·rename_i h';cases h';lia
   ·rfl
  rw[e];unfold qV;rw[<- h2];simp
theorem zb3_:∀(j n:Nat),digs (j+1) n=(48+n / 10 ^ j % 10)::digs j n
 |0,n=>by simp[digs]
 |j+1,n=>by
  have e:digs (j+1+1) n=digs (j+1) (n / 10)++[48+n % 10]:=rfl;rw[e,zb3_ j (n / 10),Nat.div_div_eq_div_mul];have e2:10*10 ^ j=10 ^ (j+1):=by rw[oV,rg]
  rw[e2];rfl
section
end
def DAt (dx:kz)(fs:List (Str×V))(h:Heap):Prop:=∃mA,h.Ns1 dx mA/\(∀f,RelO (fs.lookup f) (mA f))/\qb mA (fs.map (·.1))
abbrev XDO (dx:kz)(fs:List (Str×V)):HO:=.ext (DAt dx fs)
section
end
def gA (K:Fgg)(x:Str):kz:=match mY K lh x with |some (uC (.ref c))=>c |_=>0
theorem znK_ {K:Fgg}{x:Str}{c:kz}(h:mY K lh x=uC (uC (.ref c))):gA K x=c:=by unfold gA;rw[h]
section
end
end L2
namespace LX
open PySem PySem.W PySem.Calls PyProof.Rows Builtin Builtin.ObjectAttr Builtin.Getset_descriptor
section
end
end LX
namespace L2
open PySem PySem.Spec PyProof.Rows
section
variable {X:Cx}
def mAll (K:Fgg):List V->Hp->VK->Prop:=λxs H Q=>match xs with |[.ref p]=>∃bs:List Bool,SqL K H p (bs.map V.bl)/\Q (.bl (bs.all id)) H |_=>False
theorem zdD_:∀{bs:List Bool}{us:List aU},Vals (bs.map V.bl) us->us=bs.map oh
 |[],_,.nil=>rfl
 |b::bs,_,.cons r t=>by rw[zdD_ t];cases r;rfl
theorem zfj_ {P:lF}{w:lW}{A:lY}{bs:List Bool}:TruthOf P w A (λi v=>(bs.map oh).toArray[i]?=uC v) (λi=>bs.getD i uF):=by
 intro i v s Q E h q;have h':(bs.map oh)[i]?=uC v:=by simpa using h
 rw[kH]at h';cases e:bs[i]? with
 |none=>rw[e]at h';cases h'
 |some b=>
  rw[e]at h';cases h';have:bs.getD i uF=b:=by rw[kE,e];rfl
  have q:Q (bs.getD i uF) s:=q;rw[this]at q;exact lR q
theorem zc7_ (bs:List Bool):(lG bs.length).all (λi=>bs.getD i uF)=bs.all id:=by
 rw[ni,me,me];constructor
 ·intro h b hb
  obtain⟨i,hi,e⟩:=pG hb;have:=h i (lO.mpr hi);rw[kE,km hi]at this;rw[<- e];exact this
 ·intro h i hi
  have hi:=lO.mp hi;rw[kE,km hi];exact h _ (mD hi)
theorem zh8_ (hc:X.calm=uE):CallR X (.builtin "all") (mAll X.K):=by
 intro pins s σ H xs us Q I r h;unfold mAll at h;split at h
 ·rename_i p
  obtain⟨bs,hS,q⟩:=h;obtain⟨u,rfl,rx⟩:=vals1 r;cases rx;obtain⟨aa,rv,pl,hz⟩:=I.list hS;rw[zdD_ rv]at pl;have hp:=kJ pl.isList.choose_spec.1;have aZ:p≠s.heap.objs.size:=lB hp;refine call_all_walk (wpAny_pyIter_list pl.isList ⟨_,_,_,_,_,_,_,rfl,Walks.list (A:=X.A.in1) (I.ok.hd hc) _ p aZ (bs.map oh).toArray,⟨⟨_,ll _ rfl,rfl,rfl⟩,pl.isList.at λo e=>kq _ e⟩,zfj_,λh' tk kk=>?_⟩)
  refine⟨.bl (bs.all id),H,I.kept (t':=tk) λb o e=>kk b o (by simpa using lB (kJ e)) (kq _ e),?_,q⟩
  show oh _=_
  rw[ky,ko,zc7_]
 ·exact h.elim
def mRange:List V->Hp->VK->Prop:=λxs H Q=>match xs with
 |[.int j]=>∀p,H p=uD->Q (.ref p) (upd H p (.rng 0 j))
 |[.int i,.int j]=>∀p,H p=uD->Q (.ref p) (upd H p (.rng i j))
 |_=>False
theorem zfn_:CallR X (.type "range") mRange:=by
 intro pins s σ H xs us Q I r h;unfold mRange at h;split at h
 ·rename_i j
  obtain⟨u,rfl,t,rfl⟩:=vals1 r;refine call_range_1 ⟨.ref s.heap.objs.size,_,I.laid (o:=.rng 0 j) (λb ob q=>kq _ q) (kx _) ?_,rfl,h _ (I.hok.fresh (kx _))⟩
  exact⟨_,_,_,ll _ rfl⟩
 ·rename_i i j
  obtain⟨u,u',rfl,⟨t,rfl⟩,⟨t',rfl⟩⟩:=vals2 r;refine call_range_2 ⟨.ref s.heap.objs.size,_,I.laid (o:=.rng i j) (λb ob q=>kq _ q) (kx _) ?_,rfl,h _ (I.hok.fresh (kx _))⟩
  exact⟨_,_,_,ll _ rfl⟩
 ·exact h.elim
noncomputable def intsV (lo hi:Int):List V:=(lG (hi-lo).toNat).map λ(i:Nat)=>V.int (lo+i)
def mList (K:Fgg):List V->Hp->VK->Prop:=λxs H Q=>match xs with
 | [.ref p]=>(∃ys,(SqL K H p ys\/SqT K H p ys)/\∀l,H l=uD->Q (.ref l) (upd H l (.lst ys))) \/
   (∃lo hi,H p=uC (.rng lo hi)/\(-50000<=lo/\lo<=50000 /\ -50000<=hi/\hi<=50000)/\∀l,H l=uD->Q (.ref l) (upd H l (.lst (intsV lo hi))))
 |_=>False
theorem zjS_ {lo:Int}:∀{n:Nat}{us:List aU},us.length=n->(∀(j:Nat) (v:aU),us[j]?=uC v->∃t,v=pY (lo+j) t)->Vals ((lG n).map λ(i:Nat)=>V.int (lo+i)) us
 |n,us,hl,h=>by
  refine paired_of (by rw[ko,lZ,hl]) λj x u hx hu=>?_
  rw[kH]at hx;cases e:(lG n)[j]? with
  |none=>rw[e]at hx;cases hx
  |some i=>
   rw[e]at hx;cases hx;have:=lg.mp e;obtain⟨hj,ej⟩:=this;rw[qW]at ej;subst ej;exact h j u hu
 where paired_of:∀{xs:List V}{us:List aU},xs.length=us.length->(∀(j:Nat) x u,xs[j]?=uC x->us[j]?=uC u->RelV x u)->Vals xs us
 |[],[],_,_=>.nil
 |x::xs,u::us,hl,h=>.cons (h 0 x u rfl rfl) (paired_of (mK hl) λj x u a b=>h (j+1) x u a b)
theorem zdr_ (hc:X.calm=uE):CallR X (.type "list") (mList X.K):=by
 intro pins s σ H xs us Q I r h;have hv:∃p,xs=[.ref p]:=by
  rcases xs with _ |⟨y,_ |⟨z,t⟩⟩
  ·exact lL h
  ·cases y with
   |ref p=>exact⟨p,rfl⟩
   |_=>exact lL h
  ·cases y<;>exact lL h
 obtain⟨p,rfl⟩:=hv
 ·rcases h with⟨ys,hq,q⟩|⟨lo,hi,hp,⟨h1,h2,h3,h4⟩,q⟩
  ·exact zel_ pins s σ H _ us Q I r ⟨p,ys,rfl,hq,q⟩
  ·obtain⟨u,rfl,rx⟩:=vals1 r
   cases rx;obtain⟨t,u,v,e⟩:=I.hok p _ hp;have hn:pZ lo hi 1=(((hi-lo).toNat:Nat):Int):=by rw[rangeSize_one];split<;>lia
   refine call_list_range (I.ok.hd hc) e (small_one (by lia) (by lia) (by lia) (by lia)) hn (by lia) λh' tk acc c' kp e' af=>?_
   obtain⟨hs,eD⟩:=af;refine⟨.ref s.heap.objs.size,_,I.laid (o:=.lst (intsV lo hi)) (t':=tk) kp (kx _) ?_,rfl,q _ (I.hok.fresh (kx _))⟩;refine⟨?_,acc.toList,c',zjS_ (by simpa using hs) (λj v hv=>?_),by simpa using e'⟩
   ·unfold intsV;rw[ko,lZ];exact zbi_ (by lia)
   ·obtain⟨t,ht⟩:=eD j v (by simpa using hv)
    exact⟨t,by rw[ht];simp⟩
end
inductive EqD (K:Fgg) (H:Hp):Nat->V->V->Bool->Prop
 |flat {x y:V}(hx:flatV x=uE) (hy:flatV y=uE):EqD K H 0 x y (eqV x y)
 |lst {n:Nat}{p q:kz}{xs ys:List V}(e:Nat->Bool) (hp:SqL K H p xs) (hq:SqL K H q ys) (hl:xs.length=ys.length) (h:∀(i:Nat) x y,xs[i]?=uC x->ys[i]?=uC y->EqD K H n x y (e i)):EqD K H (n+1) (.ref p) (.ref q) ((lG xs.length).all e)
 |lstN {n:Nat}{p q:kz}{xs ys:List V}(hp:SqL K H p xs) (hq:SqL K H q ys) (hl:xs.length≠ys.length):EqD K H n (.ref p) (.ref q) uF
 |tup {n:Nat}{p q:kz}{xs ys:List V}(e:Nat->Bool) (hp:SqT K H p xs) (hq:SqT K H q ys) (h:∀(i:Nat) x y,xs[i]?=uC x->ys[i]?=uC y->EqD K H n x y (e i)):EqD K H (n+1) (.ref p) (.ref q) ((lG (min xs.length ys.length)).all e && xs.length == ys.length)
 |lt {n:Nat}{p q:kz}{xs ys:List V}(hp:SqL K H p xs) (hq:SqT K H q ys):EqD K H n (.ref p) (.ref q) uF
 |tl {n:Nat}{p q:kz}{xs ys:List V}(hp:SqT K H p xs) (hq:SqL K H q ys):EqD K H n (.ref p) (.ref q) uF
 |lf {n:Nat}{p:kz}{xs:List V}{y:V}(hp:SqL K H p xs) (hy:flatV y=uE):EqD K H n (.ref p) y uF
 |fl {n:Nat}{p:kz}{xs:List V}{y:V}(hp:SqL K H p xs) (hy:flatV y=uE):EqD K H n y (.ref p) uF
 |tf {n:Nat}{p:kz}{xs:List V}{y:V}(hp:SqT K H p xs) (hy:flatV y=uE):EqD K H n (.ref p) y uF
 |ft {n:Nat}{p:kz}{xs:List V}{y:V}(hp:SqT K H p xs) (hy:flatV y=uE):EqD K H n y (.ref p) uF
 |up {n:Nat}{x y:V}{b:Bool}(h:EqD K H n x y b):EqD K H (n+1) x y b
section
variable {X:Cx}{pins:Pnn}{σ:St}{H:Hp}{s:kn}
theorem zbC_ {xs:List V}{us:List aU}(r:Vals xs us){i:Nat}(h:i<us.toArray.size):∃x,xs[i]?=uC x/\RelV x us.toArray[i]:=by
 have hi:i<us.length:=by simpa using h
 have hl:=r.length;obtain⟨u,hu,ru⟩:=r.get (km (show i<xs.length by lia))
 refine⟨_,km (by lia),?_⟩
 rw[km hi]at hu;cases hu
 simpa using ru
theorem zg4_ (I:Inv X pins σ H s){n:Nat}{x y:V}{b:Bool}(h:EqD X.K H n x y b):x=y->b=uE:=by
 induction h with
 |flat hx hy=>
  rename_i x y
  rintro rfl;cases x<;>first |(cases hx;done)|(simp[eqV];done)|rfl
 |lst e hp hq hl h ih=>
  rename_i n p q xs ys
  intro e0;cases e0;have df:=I.list_inj hp hq;subst df;rw[me];intro i hi;have hi:=lO.mp hi;exact ih i _ _ (km hi) (km hi) rfl
 |lstN hp hq hl=>
  intro e0;cases e0;exact absurd (by rw[I.list_inj hp hq]) hl
 |tup e hp hq h ih=>
  rename_i n p q xs ys
  intro e0;cases e0;have df:=I.tuple_inj hp hq;subst df;rw[kl,me];refine⟨?_,by simp⟩
  intro i hi;have hi:=lO.mp hi;have hi:i<xs.length:=by lia
  exact ih i _ _ (km hi) (km hi) rfl
 |lt hp hq=>
  intro e0;cases e0;obtain⟨aa,r1,p1,z1⟩:=I.list hp;obtain⟨aj,r2,p2,z2⟩:=I.tuple hq;exact absurd rfl (qi p1.isList p2)
 |tl hp hq=>
  intro e0;cases e0;obtain⟨aa,r1,p1,z1⟩:=I.tuple hp;obtain⟨aj,r2,p2,z2⟩:=I.list hq;exact absurd rfl (qi p2.isList p1)
 |lf hp hy=>rintro rfl;cases hy
 |fl hp hy=>rintro rfl;cases hy
 |tf hp hy=>rintro rfl;cases hy
 |ft hp hy=>rintro rfl;cases hy
 |up h ih=>exact ih
theorem zdF_ (I:Inv X pins σ H s){n:Nat}{x y:V}{b:Bool}(h:EqD X.K H n x y b):∀(A:lY) (v u:aU),A.units+n<cLine->RelV x v->RelV y u ->
  qT A s v u b/\(∀p q,x=.ref p->y=.ref q->om A s v u b):=by
 induction h with
 |flat hx hy=>
  intro A v u _ rx ry;refine⟨zmz_ rx ry hx hy,λp q e _=>?_⟩
  subst e;cases hx
 |lst e hp hq hl h ih=>
  rename_i n p q xs ys
  intro A v u hu rx ry;cases rx;cases ry;obtain⟨aa,r1,p1,z1⟩:=I.list hp;obtain⟨aj,r2,p2,z2⟩:=I.list hq;have l1:=r1.length;have l2:=r2.length;have rc:om A s (.ref p) (.ref q) ((lG xs.length).all e):=by
   have:=SeqAt.RcAt.lists (A:=A) (e:=e) p1.isList p2.isList (by simp only[ky];lia) (by lia) (λj h1 h2=>by
    obtain⟨x,ex,rx⟩:=zbC_ r1 h1;obtain⟨y,ey,ry⟩:=zbC_ r2 h2;exact(ih j x y ex ey A.in1 _ _ (by show A.units+1+n<_;lia) rx ry).1)
   rw[ky,<- l1]at this;exact this
  refine⟨?_,λ_ _ _ _=>rc⟩
  by_cases hpq:p=q
  ·subst hpq
   have df:=I.list_inj hp hq;subst df;have:(lG xs.length).all e=uE:=by
    rw[me];intro i hi;have hi:=lO.mp hi;exact zg4_ I (h i _ _ (km hi) (km hi)) rfl
   rw[this];exact qm _
  ·exact .of_refs hpq rc
 |lstN hp hq hl=>
  rename_i n p q xs ys
  intro A v u hu rx ry;cases rx;cases ry;obtain⟨aa,r1,p1,z1⟩:=I.list hp;obtain⟨aj,r2,p2,z2⟩:=I.list hq;have l1:=r1.length;have l2:=r2.length;have rc:om A s (.ref p) (.ref q) uF:=SeqAt.RcAt.lists_lengths p1.isList p2.isList (by simp only[ky,bne_iff_ne,ne_eq];lia) (by lia)
  refine⟨.of_refs (λe=>?_) rc,λ_ _ _ _=>rc⟩
  subst e;exact hl (by rw[I.list_inj hp hq])
 |tup e hp hq h ih=>
  rename_i n p q xs ys
  intro A v u hu rx ry;cases rx;cases ry;obtain⟨aa,r1,p1,z1⟩:=I.tuple hp;obtain⟨aj,r2,p2,z2⟩:=I.tuple hq;have l1:=r1.length;have l2:=r2.length;have rc:om A s (.ref p) (.ref q) ((lG (min xs.length ys.length)).all e && xs.length == ys.length):=by
   have:=SeqAt.RcAt.tuples (A:=A) (e:=e) (show s.heap.IsTuple p aa.toArray from p1) (show s.heap.IsTuple q aj.toArray from p2) (by lia) (λj h1 h2=>by
    obtain⟨x,ex,rx⟩:=zbC_ r1 h1;obtain⟨y,ey,ry⟩:=zbC_ r2 h2;exact(ih j x y ex ey A.in1 _ _ (by show A.units+1+n<_;lia) rx ry).1)
   rw[ky,ky,<- l1,<- l2]at this;exact this
  refine⟨?_,λ_ _ _ _=>rc⟩
  by_cases hpq:p=q
  ·subst hpq
   have df:=I.tuple_inj hp hq;subst df;have:((lG (min xs.length xs.length)).all e && xs.length == xs.length)=uE:=by
    rw[kl,me];refine⟨?_,by simp⟩
    intro i hi;have hi:=lO.mp hi;have hi:i<xs.length:=by lia
    exact zg4_ I (h i _ _ (km hi) (km hi)) rfl
   rw[this];exact qm _
  ·exact .of_refs hpq rc
 |lt hp hq=>
  intro A v u hu rx ry;cases rx;cases ry;obtain⟨aa,r1,p1,z1⟩:=I.list hp;obtain⟨aj,r2,p2,z2⟩:=I.tuple hq;exact⟨.list_tuple p1.isList p2 (by lia),λ_ _ _ _=>.list_tuple p1.isList p2 (by lia)⟩
 |tl hp hq=>
  intro A v u hu rx ry;cases rx;cases ry;obtain⟨aa,r1,p1,z1⟩:=I.tuple hp;obtain⟨aj,r2,p2,z2⟩:=I.list hq;exact⟨.tuple_list p1 p2.isList (by lia),λ_ _ _ _=>.tuple_list p1 p2.isList (by lia)⟩
 |lf hp hy=>
  rename_i n p xs y
  intro A v u hu rx ry;cases rx;obtain⟨aa,r1,p1,z1⟩:=I.list hp;refine⟨?_,λ_ _ _ e=>by subst e;cases hy⟩
  cases y with
  |non=>cases ry;exact .list_none p1.isList (by lia)
  |bl b=>cases ry;exact .list_bool b p1.isList (by lia)
  |int b=>obtain⟨t,rfl⟩:=ry;exact .list_int b t p1.isList (by lia)
  |str b=>obtain⟨t,rfl⟩:=ry;exact .list_str b t p1.isList (by lia)
  |_=>cases hy
 |fl hp hy=>
  rename_i n p xs y
  intro A v u hu rx ry;cases ry;obtain⟨aa,r1,p1,z1⟩:=I.list hp;refine⟨?_,λ_ _ e _=>by subst e;cases hy⟩
  cases y with
  |non=>cases rx;exact .none_list p1.isList (by lia)
  |bl b=>cases rx;exact .bool_list b p1.isList (by lia)
  |int b=>obtain⟨t,rfl⟩:=rx;exact .int_list b t p1.isList (by lia)
  |str b=>obtain⟨t,rfl⟩:=rx;exact .str_list b t p1.isList (by lia)
  |_=>cases hy
 |tf hp hy=>
  rename_i n p xs y
  intro A v u hu rx ry;cases rx;obtain⟨aa,r1,p1,z1⟩:=I.tuple hp;refine⟨?_,λ_ _ _ e=>by subst e;cases hy⟩
  cases y with
  |non=>cases ry;exact .tuple_none p1 (by lia)
  |bl b=>cases ry;exact .tuple_bool b p1 (by lia)
  |int b=>obtain⟨t,rfl⟩:=ry;exact .tuple_int b t p1 (by lia)
  |str b=>obtain⟨t,rfl⟩:=ry;exact .tuple_str b t p1 (by lia)
  |_=>cases hy
 |ft hp hy=>
  rename_i n p xs y
  intro A v u hu rx ry;cases ry;obtain⟨aa,r1,p1,z1⟩:=I.tuple hp;refine⟨?_,λ_ _ e _=>by subst e;cases hy⟩
  cases y with
  |non=>cases rx;exact .none_tuple p1 (by lia)
  |bl b=>cases rx;exact .bool_tuple b p1 (by lia)
  |int b=>obtain⟨t,rfl⟩:=rx;exact .int_tuple b t p1 (by lia)
  |str b=>obtain⟨t,rfl⟩:=rx;exact .str_tuple b t p1 (by lia)
  |_=>cases hy
 |up h ih=>
  intro A v u hu rx ry;exact ih A v u (by lia) rx ry
theorem zhA_ (I:Inv X pins σ H s){n:Nat}{x y:V}{b:Bool}(h:EqD X.K H n x y b):∀(A:lY) (v u:aU),A.units+n<cLine->RelV x v->RelV y u->∀p q,x=.ref p->y=.ref q->oG A s v u (!b):=by
 induction h with
 |flat hx hy=>intro A v u _ rx ry p q e _;subst e;cases hx
 |lst e hp hq hl h ih=>
  rename_i n p q xs ys
  intro A v u hu rx ry _ _ _ _;cases rx;cases ry;obtain⟨aa,r1,p1,z1⟩:=I.list hp;obtain⟨aj,r2,p2,z2⟩:=I.list hq;have l1:=r1.length;have l2:=r2.length;have:=uv (A:=A) (e:=e) p1.isList p2.isList (by simp only[ky];lia) (by lia) (λj h1 h2=>by
   obtain⟨x,ex,rx⟩:=zbC_ r1 h1;obtain⟨y,ey,ry⟩:=zbC_ r2 h2;exact(zdF_ I (h j x y ex ey) A.in1 _ _ (by show A.units+1+n<_;lia) rx ry).1)
  rw[ky,<- l1]at this;exact this
 |lstN hp hq hl=>
  intro A v u hu rx ry _ _ _ _;cases rx;cases ry;obtain⟨aa,r1,p1,z1⟩:=I.list hp;obtain⟨aj,r2,p2,z2⟩:=I.list hq;have l1:=r1.length;have l2:=r2.length;exact sD p1.isList p2.isList (by simp only[ky,bne_iff_ne,ne_eq];lia) (by lia)
 |tup e hp hq h ih=>
  rename_i n p q xs ys
  intro A v u hu rx ry _ _ _ _;cases rx;cases ry;obtain⟨aa,r1,p1,z1⟩:=I.tuple hp;obtain⟨aj,r2,p2,z2⟩:=I.tuple hq;have l1:=r1.length;have l2:=r2.length;have:=ur (A:=A) (e:=e) (show s.heap.IsTuple p aa.toArray from p1) (show s.heap.IsTuple q aj.toArray from p2) (by lia) (λj h1 h2=>by
   obtain⟨x,ex,rx⟩:=zbC_ r1 h1;obtain⟨y,ey,ry⟩:=zbC_ r2 h2;exact(zdF_ I (h j x y ex ey) A.in1 _ _ (by show A.units+1+n<_;lia) rx ry).1)
  rw[ky,ky,<- l1,<- l2]at this;exact this
 |lt hp hq=>
  intro A v u hu rx ry _ _ _ _;cases rx;cases ry;obtain⟨aa,r1,p1,z1⟩:=I.list hp;obtain⟨aj,r2,p2,z2⟩:=I.tuple hq;exact .list_tuple p1.isList p2 (by lia)
 |tl hp hq=>
  intro A v u hu rx ry _ _ _ _;cases rx;cases ry;obtain⟨aa,r1,p1,z1⟩:=I.tuple hp;obtain⟨aj,r2,p2,z2⟩:=I.list hq;exact .tuple_list p1 p2.isList (by lia)
 |lf hp hy=>intro A v u hu rx ry _ _ _ e;subst e;cases hy
 |fl hp hy=>intro A v u hu rx ry _ _ e _;subst e;cases hy
 |tf hp hy=>intro A v u hu rx ry _ _ _ e;subst e;cases hy
 |ft hp hy=>intro A v u hu rx ry _ _ e _;subst e;cases hy
 |up h ih=>intro A v u hu rx ry;exact ih A v u (by lia) rx ry
end
end L2
namespace LX
open PySem Builtin Builtin.Str
section
end
end LX
namespace L2
open PySem PySem.Spec PyProof.Rows
section
variable {X:Cx}{a b c d:k8}{ta tb tc td:TE}{pos:Pos}
def mChain3 (r r' bc:R2)(ta tb tc td:TE):TE:=λσ H Q=>ta σ H λx H1=>tb σ H1 λy H2=>r x y H2 λz H3=>match z with
 |.bl k=>br k (tc σ H3 λw H4=>r' y w H4 λz' H5=>match z' with |.bl k'=>br k' (td σ H5 λw' H6=>bc w w' H6 Q) (Q (.bl uF) H5)|_=>False) (Q (.bl uF) H3)
 |_=>False
theorem zhx_ {op aG aF:CmpOp}{r r' bc:R2}(ho:OpR X (lp op) r)(aI:OpR X (lp aG) r')(bz:OpR X (lp aF) bc)(ha:PE X a ta)(hb:PE X b tb)(hc:PE X c tc)(hd:PE X d td)
  (hm:lastMarks [op,aG,aF] [b,c,d]=uF:=by with_unfolding_all rfl):PE X (.Compare a [op,aG,aF] [b,c,d] pos) (mChain3 r r' bc ta tb tc td):=by
 intro pins s σ H Q I h;refine Compare_chain (thn (ha pins s σ H _ I h) λv s1 ⟨x,H1,I1,r1,q1⟩=>chain_link (thn (hb pins s1 σ H1 _ I1 q1) λu s2 ⟨y,H2,I2,r2,q2⟩=>
  thn (ho pins s2 σ H2 x y v u _ I2 r1 r2 q2) λd s3 ⟨z,H3,I3,r3,q3⟩=>?_)) hm
 cases z with
 |bl k=>
  cases r3;refine lR ?_;cases k with
  |false=>exact ite_ff ⟨.bl uF,H3,I3,rfl,q3.2 rfl⟩
  |true=>
   refine ite_tt (chain_link (thn (hc pins s3 σ H3 _ I3 (q3.1 rfl)) λw' s4 ⟨z',H4,I4,r4,q4⟩=>thn (aI pins s4 σ H4 y z' u w' _ I4 r2 r4 q4) λd' s5 af=>?_))
   obtain⟨z2,H5,I5,r5,q5⟩:=af;cases z2 with
   |bl k2=>
    cases r5;refine lR ?_;cases k2 with
    |false=>exact ite_ff ⟨.bl uF,H5,I5,rfl,q5.2 rfl⟩
    |true=>exact ite_tt (chain_last (thn (hd pins s5 σ H5 _ I5 (q5.1 rfl)) λw2 s6 ⟨z3,H6,I6,r6,q6⟩=>bz pins s6 σ H6 z' z3 w' w2 Q I6 r4 r6 q6))
   |_=>exact q5.elim
 |_=>exact q3.elim
end
section
variable {κ:Type}[DecidableEq κ]
noncomputable def valV (kvs:List (κ×V))(k:κ):Option V:=(kvs.find? λkv=>decide (kv.1=k)).map (·.2)
noncomputable def putK (kvs:List (κ×V))(k:κ)(v:V):List (κ×V):=
 if(kvs.any λkv=>decide (kv.1=k))=uE then kvs.map (λkv=>if kv.1=k then(kv.1,v)else kv)else kvs++[(k,v)]
theorem zee_ {p:κ×V}{r:List (κ×V)}{k:κ}(e:p.1=k):valV (p::r) k=uC p.2:=by simp[valV,mW,e]
theorem zes_ {p:κ×V}{r:List (κ×V)}{k:κ}(e:¬p.1=k):valV (p::r) k=valV r k:=by simp[valV,mW,e]
theorem zhe_ (k:κ):∀kvs:List (κ×V),(kvs.any λkv=>decide (kv.1=k))=(valV kvs k).isSome
 |[]=>rfl
 |p::r=>by
  rw[ox];by_cases e:p.1=k
  ·simp only[zee_ e,decide_eq_true e,Bool.true_or,qX]
  ·rw[zes_ e,decide_eq_false e,sQ];exact zhe_ k r
theorem zaJ_ (kvs:List (κ×V))(k:κ)(v:V):(putK kvs k v).length<=kvs.length+1:=by
 unfold putK;split
 ·rw[ko];lia
 ·rw[kX,kZ,oQ];lia
theorem RelO.isSome_eq {o:Option V}{u:Option aU}(r:RelO o u):o.isSome=u.isSome:=by
 cases o with
 |none=>cases u with
  |none=>rfl
  |some _=>exact(show False from r).elim
 |some _=>cases u with
  |none=>exact(show False from r).elim
  |some _=>rfl
theorem KV.val {kvs:List (κ×V)}{vs:List (κ×aU)}(r:KV kvs vs)(k:κ):RelO (valV kvs k) (valueAt vs k):=by
 unfold KV at r;induction r with
 |nil=>exact mJ
 | @cons p q ps qs h t ih=>
  obtain⟨h1,h2⟩:=h;by_cases e:p.1=k
  ·have e':q.1=k:=h1.symm.trans e
   have b:valueAt (q::qs) k=uC q.2:=by simp[valueAt,mW,e']
   rw[zee_ e,b];exact h2
  ·have e':¬q.1=k:=λz=>e (h1.trans z)
   have b:valueAt (q::qs) k=valueAt qs k:=by simp[valueAt,mW,e']
   rw[zes_ e,b];exact ih
theorem KV.any {kvs:List (κ×V)}{vs:List (κ×aU)}(r:KV kvs vs)(k:κ):(kvs.any λkv=>decide (kv.1=k))=vs.any λkv=>decide (kv.1=k):=by
 unfold KV at r;induction r with
 |nil=>rfl
 |cons h t ih=>rw[ox,ox,ih,h.1]
theorem KV.repl {kvs:List (κ×V)}{vs:List (κ×aU)}(r:KV kvs vs)(k:κ){y:V}{u:aU}(ry:RelV y u):
  KV (kvs.map λkv=>if kv.1=k then(kv.1,y)else kv) (vs.map λkv=>if kv.1=k then(kv.1,u)else kv):=by
 unfold KV at r ⊢;induction r with
 |nil=>exact .nil
 | @cons p q ps qs h t ih=>
  rw[kF,kF];refine .cons ?_ ih;obtain⟨h1,h2⟩:=h;by_cases e:p.1=k
  ·rw[if_pos e,if_pos (h1.symm.trans e)];exact⟨h1,ry⟩
  ·rw[if_neg e,if_neg (λz=>e (h1.trans z))];exact⟨h1,h2⟩
theorem KV.put {kvs:List (κ×V)}{vs:List (κ×aU)}(r:KV kvs vs)(k:κ){y:V}{u:aU}(ry:RelV y u):KV (putK kvs k y) (stored vs k u):=by
 unfold putK stored;rw[r.any k];by_cases e:(vs.any λkv=>decide (kv.1=k))=uE
 ·rw[if_pos e,if_pos e];exact r.repl k ry
 ·rw[if_neg e,if_neg e];exact Paired.snoc r ⟨rfl,ry⟩
theorem KV.length {kvs:List (κ×V)}{vs:List (κ×aU)}(r:KV kvs vs):kvs.length=vs.length:=Paired.length r
end
theorem zkT_ {P:lF}{w:lW}{k:Key}{u:aU}(r:RelV (kV k) u):(mixKind P w).is k u=uE:=by
 cases k with
 |inl i=>obtain⟨t,e⟩:=(show∃t,u=pY i t from r);subst e;exact zfe_ P w i t
 |inr x=>obtain⟨t,e⟩:=(show∃t,u=oT x t from r);subst e;exact zfw_ P w x t
theorem zeX_ {P:lF}{w:lW}:∀{ks:List Key}{us:List aU},Vals (ks.map kV) us->ItemsAre (mixKind P w) ks us
 |[],_,r=>by rw[nu]at r;cases r;exact .nil
 |k::ks,_,r=>by
  rw[kF]at r;cases r with
  |cons h t=>exact .cons (zkT_ h) (zeX_ t)
abbrev KT (H:Hp):List (List Key×V)->List (List Key×kz×aU)->Prop:=Paired λp q=>p.1=q.1/\H q.2.1=uC (.tup (p.1.map kV))/\RelV p.2 q.2.2
theorem KT.val {H:Hp}{kvs:List (List Key×V)}{xs:List (List Key×kz×aU)}(r:KT H kvs xs)(k:List Key):RelO (valV kvs k) ((atKey xs k).map (·.2)):=by
 induction r with
 |nil=>exact mJ
 | @cons p q ps qs h t ih=>
  obtain⟨h1,_,h2⟩:=h;by_cases e:p.1=k
  ·have e':q.1=k:=h1.symm.trans e
   have b:atKey (q::qs) k=uC q.2:=by simp[atKey,mW,e']
   rw[zee_ e,b];exact h2
  ·have e':¬q.1=k:=λz=>e (h1.trans z)
   have b:atKey (q::qs) k=atKey qs k:=by simp[atKey,mW,e']
   rw[zes_ e,b];exact ih
theorem KT.repl {H:Hp}{kvs:List (List Key×V)}{xs:List (List Key×kz×aU)}(r:KT H kvs xs)(k:List Key){y:V}{u:aU}(ry:RelV y u):
  KT H (kvs.map λkv=>if kv.1=k then(kv.1,y)else kv) (xs.map (putAt k u)):=by
 induction r with
 |nil=>exact .nil
 | @cons p q ps qs h t ih=>
  rw[kF,kF];refine .cons ?_ ih;obtain⟨h1,h2,h3⟩:=h;unfold putAt;by_cases e:p.1=k
  ·rw[if_pos e,if_pos (h1.symm.trans e)];exact⟨h1,h2,ry⟩
  ·rw[if_neg e,if_neg (λz=>e (h1.trans z))];exact⟨h1,h2,h3⟩
theorem KT.put {H:Hp}{kvs:List (List Key×V)}{xs:List (List Key×kz×aU)}(r:KT H kvs xs)(k:List Key){b:kz}{y:V}{u:aU}(hb:H b=uC (.tup (k.map kV)))(ry:RelV y u):
  KT H (putK kvs k y) (storedH xs k b u):=by
 have e:(kvs.any λkv=>decide (kv.1=k))=(atKey xs k).isSome:=by
  rw[zhe_,(r.val k).isSome_eq,oW]
 unfold putK storedH;rw[e];by_cases q:(atKey xs k).isSome=uE
 ·rw[if_pos q,if_pos q];exact r.repl k ry
 ·rw[if_neg q,if_neg q];exact Paired.snoc r ⟨rfl,hb,ry⟩
theorem KT.keeps {H H':Hp}{kvs:List (List Key×V)}{xs:List (List Key×kz×aU)}(r:KT H kvs xs)(ht:∀b ys,H b=uC (.tup ys)->H' b=uC (.tup ys)):KT H' kvs xs:=
 Paired.mapP r λ_ _ z=>⟨z.1,ht _ _ z.2.1,z.2.2⟩
section
variable {P:lF}{w:lW}{H:Hp}{h:Heap}{a:kz}
theorem rd_of {u:HO}(ok:HOk P w H h)(e:Rd H a u):ObjOk P w H h a u:=e.ok ok
theorem zhM_ {kvs:List (Key×V)}(ok:HOk P w H h)(e:Rd H a (.dK kvs)):kvs.length<=kR/\(a == sysModules)=uF/\∃vs,KV kvs vs/\h.DictOf (mixKind P w) a vs:=
 show ObjOk P w H h a (.dK kvs)from rd_of ok e
theorem zlH_ {kvs:List (Key×V)}(ok:HOk P w H h)(e:H a=uC (.dK kvs)):kvs.length<=kR/\(a == sysModules)=uF/\∃vs,KV kvs vs/\h.DictOf (mixKind P w) a vs:=zhM_ ok (.inl e)
theorem zgO_ {ks:List Key}(ok:HOk P w H h)(e:H a=uC (.tup (ks.map kV))):(tupleKind (mixKind P w)).is h ks a:=by
 obtain⟨_,aa,r,o,h1,h2,n,h3⟩:=(show ObjOk P w H h a (.tup (ks.map kV))from ok a _ e)
 exact⟨o,aa.toArray,n,h1,h2,h3,by simpa using zeX_ r⟩
theorem zln_ {kvs:List (List Key×V)}(ok:HOk P w H h)(e:Rd H a (.dT kvs)):kvs.length<=kR/\(a == sysModules)=uF /\
  ∃xs,KT H kvs xs/\h.DictOfH (tupleKind (mixKind P w)) a xs:=by
 obtain⟨z,y,xs,r,o,es,ep,h1,h2,h3,h4,h5⟩:=(show ObjOk P w H h a (.dT kvs)from rd_of ok e)
 refine⟨z,y,xs,r,o,es,ep,h1,h2,h3,h4,λx hx=>?_,h5⟩
 have all:∀{l:List (List Key×V)}{m:List (List Key×kz×aU)},KT H l m->∀x∈m,(tupleKind (mixKind P w)).is h x.1 x.2.1:=by
  intro l m q;induction q with
  |nil=>intro x hx;exact nomatch hx
  | @cons p q ps qs hq t ih=>
   intro x hx;rcases k9.mp hx with e |hx
   ·subst e
    exact zgO_ ok (by rw[<- hq.1];exact hq.2.1)
   ·exact ih x hx
 exact all r x hx
theorem dt_of {kvs:List (List Key×V)}(ok:HOk P w H h)(e:H a=uC (.dT kvs)):kvs.length<=kR/\(a == sysModules)=uF /\
  ∃xs,KT H kvs xs/\h.DictOfH (tupleKind (mixKind P w)) a xs:=zln_ ok (.inl e)
end
def DGet (H:Hp)(a:kz)(y:V)(r:Option V):Prop:=
 (∃kvs k,Rd H a (.dK kvs)/\y=kV k/\r=valV kvs k)\/∃kvs k b,Rd H a (.dT kvs)/\y=.ref b/\H b=uC (.tup (k.map kV))/\r=valV kvs k
def DPut (H:Hp)(a:kz)(y v:V)(H':Hp):Prop:=
 (∃kvs k,H a=uC (.dK kvs)/\y=kV k/\kvs.length<kR/\H'=upd H a (.dK (putK kvs k v))) \/
 ∃kvs k b,H a=uC (.dT kvs)/\y=.ref b/\H b=uC (.tup (k.map kV))/\kvs.length<kR/\H'=upd H a (.dT (putK kvs k v))
theorem DGet.k {H:Hp}{a:kz}{kvs:List (Key×V)}{k:Key}(e:H a=uC (.dK kvs)):DGet H a (kV k) (valV kvs k):=.inl ⟨kvs,k,.inl e,rfl,rfl⟩
theorem DPut.k {H:Hp}{a:kz}{kvs:List (Key×V)}{k:Key}{v:V}(e:H a=uC (.dK kvs))(hl:kvs.length<kR):DPut H a (kV k) v (upd H a (.dK (putK kvs k v))):=.inl ⟨kvs,k,e,rfl,hl,rfl⟩
section
variable {X:Cx}{pins:Pnn}{σ:St}{H:Hp}{s:kn}{a:kz}{y v:V}{u r:aU}{o:Option V}{A:lY}{E:aU->kn->Prop}
theorem Inv.big (I:Inv X pins σ H s):sysModules<s.heap.objs.size:=by
 have h:lh<s.heap.objs.size:=(I.mod.glob.keeps I.bk).lt;exact tE (by decide) h
theorem ziQ_ {Q:aU->kn->Prop}(hu:A.units+1<cLine)(I:Inv X pins σ H s)(g:DGet H a y (uC v))(ry:RelV y u)(h:∀w' s',Inv X pins σ H s'->RelV v w'->Q w' s'):
  lC (model X.prog X.w) A (getItem (.ref a) u) Q E s:=by
 rcases g with⟨kvs,k,e,ey,l⟩|⟨kvs,k,b,e,ey,eb,l⟩
 ·subst ey
  obtain⟨z,hd,vs,rel,dd⟩:=zhM_ I.hok e;obtain⟨w',hw,bK⟩:=RelO.some_of (v:=v) (o:=valueAt vs k) (by rw[l];exact rel.val k)
  exact wpAny_getItem_of (zkT_ ry) dd.mapOf hw (h w' _ (I.tok _) bK)
 ·subst ey
  cases(show u=mw b from ry)
  obtain⟨z,hd,xs,rel,dd⟩:=zln_ I.hok e;obtain⟨w',hw,bK⟩:=RelO.some_of (v:=v) (o:=(atKey xs k).map (·.2)) (by rw[l];exact rel.val k)
  obtain⟨p,hp,bo⟩:=kQ.mp hw;refine wpAny_getItem_heap (tupleKind_room_in1 hu) (zgO_ I.hok eb) dd hp ?_;rw[bo];exact h w' _ (I.tok _) bK
theorem d_in {Q:aU->kn->Prop}(hu:A.units+1<cLine)(I:Inv X pins σ H s)(g:DGet H a y o)(ry:RelV y u)(h:∀s',Inv X pins σ H s'->Q (.bool o.isSome) s'):
  lC (model X.prog X.w) A (lp .In u (.ref a)) Q E s:=by
 rcases g with⟨kvs,k,e,ey,l⟩|⟨kvs,k,b,e,ey,eb,l⟩
 ·subst ey
  obtain⟨z,hd,vs,rel,dd⟩:=zhM_ I.hok e;refine wpAny_in_of (zkT_ ry) hd dd.mapOf ?_;rw[<- (rel.val k).isSome_eq,<- l];exact h _ (I.tok _)
 ·subst ey
  cases(show u=mw b from ry)
  obtain⟨z,hd,xs,rel,dd⟩:=zln_ I.hok e;refine wpAny_in_heap (tupleKind_room_in1 hu) (zgO_ I.hok eb) hd dd ?_;have q:=(rel.val k).isSome_eq;rw[oW]at q;rw[<- q,<- l];exact h _ (I.tok _)
theorem zlY_ {Q:aU->kn->Prop}(hu:A.units+1<cLine)(I:Inv X pins σ H s)(g:DGet H a y o)(ry:RelV y u)(h:∀s',Inv X pins σ H s'->Q (.bool (!o.isSome)) s'):
  lC (model X.prog X.w) A (lp .NotIn u (.ref a)) Q E s:=by
 rcases g with⟨kvs,k,e,ey,l⟩|⟨kvs,k,b,e,ey,eb,l⟩
 ·subst ey
  obtain⟨z,hd,vs,rel,dd⟩:=zhM_ I.hok e;refine wpAny_notIn_of (zkT_ ry) hd dd.mapOf ?_;rw[<- (rel.val k).isSome_eq,<- l];exact h _ (I.tok _)
 ·subst ey
  cases(show u=mw b from ry)
  obtain⟨z,hd,xs,rel,dd⟩:=zln_ I.hok e;refine wpAny_notIn_heap (tupleKind_room_in1 hu) (zgO_ I.hok eb) hd dd ?_;have q:=(rel.val k).isSome_eq;rw[oW]at q;rw[<- q,<- l];exact h _ (I.tok _)
theorem zeW_ {h':Heap}{t':Nat}{ob:HO}(I:Inv X pins σ H s)(mu:Mut (H a))(hs:oB a s.heap h')(he:∃q,h'.get? a=uC q)(new:ObjOk X.prog X.w (upd H a ob) h' a ob):
  Inv X pins σ (upd H a ob) {s with heap:=h',toks:=t'}:=
 I.write (x:=a) (e:=a) mu (.inl rfl) (λb q hb z=>(hs.2 b hb).trans z) he new
theorem zkY_ {P:lF}{w:lW}{H':Hp}{h':Heap}{kvs:List (Key×V)}{vs:List (Key×aU)}(z:kvs.length<=kR)(hd:(a == sysModules)=uF)(rel:KV kvs vs)(dd:h'.DictOf (mixKind P w) a vs):
  ObjOk P w H' h' a (.dK kvs):=⟨z,hd,vs,rel,dd⟩
theorem ziK_ {H':Hp}{Q:Unit->kn->Prop}(hu:A.units+1<cLine)(I:Inv X pins σ H s)(g:DPut H a y v H')(ry:RelV y u)(rv:RelV v r)(h:∀s',Inv X pins σ H' s'->Q () s'):
  lC (model X.prog X.w) A (setItem (.ref a) u r) Q E s:=by
 rcases g with⟨kvs,k,e,ey,l,eH⟩|⟨kvs,k,b,e,ey,eb,l,eH⟩
 ·subst ey eH
  obtain⟨z,hd,vs,rel,dd⟩:=zlH_ I.hok e;have hz:vs.length<=kR:=by rw[<- rel.length];exact z
  have hl:(putK kvs k v).length<=kR:=by have:=zaJ_ kvs k v;lia
  refine wpAny_setItem_pairs (hsz:=hz) (zkT_ ry) dd λh' cf hs=>h _ ?_
  have he:∃q,h'.get? a=uC q:=let⟨q,_,_,hq,_⟩:=cf;⟨q,hq⟩
  exact zeW_ I (by rw[e];exact mJ) hs he (zkY_ hl hd (rel.put k rv) cf)
 ·subst ey eH
  cases(show u=mw b from ry)
  obtain⟨z,hd,xs,rel,dd⟩:=dt_of I.hok e;have hz:xs.length<=kR:=by rw[<- Paired.length rel];exact z
  have hl:(putK kvs k v).length<=kR:=by have:=zaJ_ kvs k v;lia
  refine wpAny_setItem_heap (hsz:=hz) (tupleKind_room_in1 hu) (zgO_ I.hok eb) dd λh' cf hs=>h _ ?_
  obtain⟨q,es,ep,hq,h2,h3,h4,_,h5⟩:=cf;refine zeW_ I (by rw[e];exact mJ) hs ⟨q,hq⟩ ⟨hl,hd,_,(rel.put k eb rv).keeps λc ys ec=>?_,q,es,ep,hq,h2,h3,h4,h5⟩
  rw[zc_ (ne_of ec e (λz=>nomatch z))]
  exact ec
variable {kvs:List (Key×V)}
theorem d_len {Q:aU->kn->Prop}(I:Inv X pins σ H s)(e:Rd H a (.dK kvs))(h:∀t s',Inv X pins σ H s'->Q (.int kvs.length t) s'):lC (model X.prog X.w) A (call (.builtin "len") [.ref a]) Q E s:=by
 obtain⟨z,hd,vs,rel,dd⟩:=zhM_ I.hok e;refine call_len_dict hd dd (by rw[<- rel.length];rw[sizeLine_eq]at z;lia) ?_
 rw[<- rel.length];exact h _ _ (I.tok _)
end
def NoSl (i:k8):Prop:=∀ov iv,subscripted i uF ov iv=operate [ov,iv] (getItem ov iv)
theorem subD_of {prog:lF}{w:lW}{A:lY}{E:aU->kn->Prop}{s:kn}{env:Env}{value slice:k8}{pos:Pos}{T id:String}{Q:aU->kn->Prop}
  (hl:typeLookup (.type T) "__getitem__"=pure (uC (.builtin id))) (hs:NoSl slice)
  (h:lC (model prog w) A (eval value env) (λo ab=>lC (model prog w) A (eval slice env) (λi aO=>aO.TypeIs o T/\lC (model prog w) A (getItem o i) Q E aO) E ab) E s):
  lC (model prog w) A (eval (.Subscript value slice pos) env) Q E s:=by
 refine Subscript_ (mF h (λo ab aB=>mF aB (λi aO bR=>?_) λ_ _ x=>x) λ_ _ x=>x)
 obtain⟨hT,bR⟩:=bR;unfold subscriptTail;refine kr ?_;rw[getitemInPython_of_ne hT.not_modules];refine kr (wpAny_specialOf hT hl ?_);have fin:lC (model prog w) A (subscripted slice uF o i) (λr ay=>lC (model prog w) A (letTemporaryGo value o r>>=λ_=>pure r) Q E ay) E aO:=by
  rw[hs o i];exact wpAny_operating (mF bR (λr ay bQ=>kr (wpAny_letTemporaryGo (lj bQ))) λ_ _ x=>x)
 first
  |exact lj (kr fin)
  |exact kr (lj (kr fin))
  |exact kr fin
theorem zfu_ {X:Cx}{pins:Pnn}{σ:St}{H:Hp}{s:kn}{a:kz}{y:V}{o:Option V}(I:Inv X pins σ H s)(g:DGet H a y o):s.TypeIs (.ref a) "dict":=by
 rcases g with⟨kvs,k,e,_,_⟩|⟨kvs,k,b,e,_,_,_⟩
 ·obtain⟨_,_,vs,_,dd⟩:=zhM_ I.hok e
  exact dd.typeIs
 ·obtain⟨_,_,xs,_,dd⟩:=zln_ I.hok e
  exact dd.typeIs
section
end
theorem zfD_ {P:lF}{w:lW}{H:Hp}(h:Heap)(hb:sysModules<h.objs.size):ObjOk P w H (h.push {cls:=.type "dict",data:=.dict #[]}) h.objs.size (.dK []):=
 ⟨l5 _,beq_eq_false_iff_ne.mpr (oO (lB hb)),[],.nil,uB h⟩
def tDNewK:TE:=λ_ H Q=>∀p,H p=uD->Q (.ref p) (upd H p (.dK []))
section
variable {X:Cx}{pos:Pos}
theorem zkc_:PE X (.Dict [] [] pos) tDNewK:=λpins s σ H Q I h=>
 wpAny_Dict_empty ⟨.ref s.heap.objs.size,_,I.laid (a:=s.heap.objs.size) (o:=.dK []) (t':=s.toks) (λ_ _ q=>kq _ q) (kx _) (zfD_ s.heap I.big),rfl,h _ (I.hok.fresh (kx _))⟩
end
def tPairs:List (TE×TE)->St->Hp->(List (V×V)->Hp->Prop)->Prop
 |[],_,H,Q=>Q [] H
 |(tk,tv)::r,σ,H,Q=>tk σ H λx H1=>tv σ H1 λy H2=>tPairs r σ H2 λps H3=>Q ((x,y)::ps) H3
abbrev VV:List (V×V)->List (aU×aU)->Prop:=Paired λp q=>RelV p.1 q.1/\RelV p.2 q.2
def PPs (X:Cx)(pos:Pos)(keys:List (Option k8))(values:List k8)(trs:List (TE×TE)):Prop:=
 ∀(pins:Pnn) (s:kn) (σ:St) (H:Hp) (Q:List (V×V)->Hp->Prop),Inv X pins σ H s->tPairs trs σ H Q ->
  lC (model X.prog X.w) X.A (evalPairs (pairTrees keys values X.env pos)) (λvs s'=>∃ps H',Inv X pins σ H' s'/\VV ps vs/\Q ps H') X.xe s
theorem zi7_ {X:Cx}{pos:Pos}:PPs X pos [] [] []:=λpins s σ H Q I h=>pairTrees_nil_walk ⟨[],H,I,.nil,h⟩
theorem zey_ {X:Cx}{pos:Pos}{k v:k8}{ks:List (Option k8)}{vs:List k8}{tk tv:TE}{trs:List (TE×TE)}(hk:PE X k tk)(hv:PE X v tv)(hr:PPs X pos ks vs trs):
  PPs X pos (uC k::ks) (v::vs) ((tk,tv)::trs):=λpins s σ H Q I h=>
 pairTrees_cons_walk (thn (hk pins s σ H _ I h) λu s1 ⟨x,H1,I1,rx,q1⟩=>thn (hv pins s1 σ H1 _ I1 q1) λw2 s2 ⟨y,H2,I2,ry,q2⟩=>
  thn (hr pins s2 σ H2 _ I2 q2) λws s3 ⟨ps,H3,I3,rel,q3⟩=>⟨(x,y)::ps,H3,I3,.cons ⟨rx,ry⟩ rel,q3⟩)
def mergeK (kvs more:List (Key×V)):List (Key×V):=more.foldl (λacc kv=>putK acc kv.1 kv.2) kvs
theorem KV.merge:∀{more:List (Key×V)}{rs:List (Key×aU)}{kvs:List (Key×V)}{vs:List (Key×aU)},KV more rs->KV kvs vs->KV (mergeK kvs more) (merged vs rs):=by
 intro more rs kvs vs r;unfold KV at r;induction r generalizing kvs vs with
 |nil=>intro q;exact q
 | @cons p q ps qs h t ih=>
  intro r0;have e:KV (putK kvs p.1 p.2) (stored vs q.1 q.2):=by
   have:=r0.put p.1 h.2;rw[<- h.1];exact this
  exact ih e
theorem zbD_:∀(more kvs:List (Key×V)),(mergeK kvs more).length<=kvs.length+more.length
 |[],kvs=>by show kvs.length<=kvs.length+0;lia
 |p::r,kvs=>by
  have h1:=zbD_ r (putK kvs p.1 p.2);have h2:=zaJ_ kvs p.1 p.2;show(mergeK (putK kvs p.1 p.2) r).length<=_
  rw[kZ];lia
theorem zdk_ {P:lF}{w:lW}:∀{kvs:List (Key×V)}{ws:List (aU×aU)},VV (kvs.map λkv=>(kV kv.1,kv.2)) ws->∃rs,Carries (mixKind P w) ws rs/\KV kvs rs
 |[],_,r=>by rw[nu]at r;cases r;exact⟨[],mJ,.nil⟩
 |p::kvs,_,r=>by
  rw[kF]at r;cases r with
  | @cons a b as bs h t=>
   obtain⟨rs,c,q⟩:=zdk_ (P:=P) (w:=w) t;obtain⟨b1,b2⟩:=b;exact⟨(p.1,b2)::rs,⟨zkT_ h.1,rfl,c⟩,.cons ⟨rfl,h.2⟩ q⟩
def tDisp (trs:List (TE×TE)):TE:=λσ H Q=>∀p,H p=uD->tPairs trs σ (upd H p (.dK [])) λps H2=>H2 p=uC (.dK [])/\∃kvs:List (Key×V),ps=kvs.map (λkv=>(kV kv.1,kv.2))/\kvs.length<=15/\Q (.ref p) (upd H2 p (.dK (mergeK [] kvs)))
theorem ziY_ {X:Cx}{pos:Pos}{keys:List (Option k8)}{values:List k8}{trs:List (TE×TE)}(h:PPs X pos keys values trs)(bB:keys.all (·.isSome)=uE)(hl:keys.length=values.length)(h0:keys≠[])
  (gQ:keys.length<=15):PE X (.Dict keys values pos) (tDisp trs):=by
 intro pins s σ H Q I q;have hn:=I.hok.fresh (kx s.heap.objs.size);have I1:=I.laid (a:=s.heap.objs.size) (o:=.dK []) (h':=s.heap.push {cls:=.type "dict",data:=.dict #[]}) (t':=s.toks) (λ_ _ q=>kq _ q) (kx _) (zfD_ s.heap I.big)
 refine wpAny_Dict_walk (knd:=mixKind X.prog X.w) bB hl h0 gQ (thn (h pins _ σ _ _ I1 (q _ hn)) λws s2 af=>?_)
 obtain⟨ps,H2,I2,rel,e,kvs,ep,lk,q2⟩:=af;subst ep;obtain⟨rs,c,rk⟩:=zdk_ (P:=X.prog) (w:=X.w) rel;obtain⟨z,hd,vs0,r0,dd⟩:=zlH_ I2.hok e;cases r0;refine⟨rs,c,dd,λh' cf hs=>⟨.ref s.heap.objs.size,_,?_,rfl,q2⟩⟩
 have hz:(mergeK [] kvs).length<=kR:=by
  have h1:=zbD_ kvs [];rw[oQ]at h1;rw[sizeLine_eq];lia
 have he:∃q,h'.get? s.heap.objs.size=uC q:=let⟨q,_,_,hq,_⟩:=cf;⟨q,hq⟩
 exact zeW_ I2 (by rw[e];exact mJ) hs he (zkY_ hz hd (rk.merge .nil) cf)
structure M2 (X:Cx)(o:k8)(m:Str)(apos:Pos)(e f:k8)(ao:Pos):Prop where
 base:attributeBase o m X.env (eval o X.env)=eval o X.env
 few:((nX ao (lJ [e,f] X.env)).all (λx=>!x.1) && (qy ao (pv [] X.env)).all (λx=>x.1.isSome)
  && decide (([e,f]:List k8).length+([]:List Keyword).length+(if([]:List Keyword).isEmpty then 0 else 1)<30))=uE
 line:(apos.endLine == ao.line)=uE
 trees:nX ao (lJ [e,f] X.env)=[(uF,eval e X.env),(uF,eval f X.env)]
def IsD (H:Hp)(a:kz):Prop:=(∃kvs,Rd H a (.dK kvs))\/∃kvs,Rd H a (.dT kvs)
theorem zpa_ {X:Cx}{pins:Pnn}{σ:St}{H:Hp}{s:kn}{a:kz}(I:Inv X pins σ H s)(d:IsD H a):
  s.TypeIs (.ref a) "dict" /\ (∀b,mw a=.ref b->∃ob,s.heap.get? b=uC ob/\ob.dict=uD)/\(a==sysModules)=uF:=by
 rcases d with⟨kvs,e⟩|⟨kvs,e⟩
 ·obtain⟨_,hd,vs,_,dd⟩:=zhM_ I.hok e
  refine⟨dd.typeIs,λb q=>?_,hd⟩
  cases q;obtain⟨ob,_,_,h1,h2,_⟩:=dd;exact⟨ob,h1,h2.2.1⟩
 ·obtain⟨_,hd,xs,_,dd⟩:=zln_ I.hok e
  refine⟨dd.typeIs,λb q=>?_,hd⟩
  cases q;obtain⟨ob,_,_,h1,h2,_⟩:=dd;exact⟨ob,h1,h2.2.1⟩
section
end
section
namespace L2
open PySem PySem.Spec PyProof.Rows
section
end
section
variable {κ:Type}[DecidableEq κ]
end
end L2
end
section
end
def Itz (K:Fgg)(l m:kz):It:=
 ⟨λi H=>∃xs ys x y,SqL K H l xs/\SqL K H m ys/\xs[i]?=uC x/\ys[i]?=uC y,
  λi H v H'=>∃p x y,(∀xs,SqL K H l xs->xs[i]?=uC x)/\(∀ys,SqL K H m ys->ys[i]?=uC y)/\H p=uD/\v=.ref p/\H'=upd H p (.tup [x,y]),
  λi H=>∃xs ys,SqL K H l xs/\SqL K H m ys/\(xs.length<=i\/ys.length<=i)⟩
theorem zkZ_ {P:lF}{w:lW}{K:Fgg}{elts:List k8}{kk:Nat}{pos:Pos}(z TI TO i1 i2 l m:kz)(D:ZipApart z TI TO i1 i2 l m):
  Turn P w K (.Tuple elts kk pos) (Itz K l m) [z,TI,TO,i1,i2] z (λi h=>IsZip h z TI TO .none/\IsPair h TI (.ref i1) (.ref i2)/\(∃a b,IsPair h TO a b)/\h.IsListIter i1 l i/\h.IsListIter i2 m i) where
 mem:=by simp
 obj:=λi h st b hb=>by
  obtain⟨hz,bX,⟨a,c,b9⟩,⟨o1,d7,c1,d1⟩,⟨o2,bx,c2,d2⟩⟩:=st;rcases k9.mp hb with rfl |hb
  ·exact⟨_,hz,λv z=>by cases z⟩
  rcases k9.mp hb with rfl |hb
  ·exact⟨_,bX,λv z=>by cases z⟩
  rcases k9.mp hb with rfl |hb
  ·exact⟨_,b9,λv z=>by cases z⟩
  rcases k9.mp hb with rfl |hb
  ·exact⟨o1,d7,λv z=>by rw[d1]at z;cases z⟩
  ·have e:b=i2:=by simpa using hb
   subst e;exact⟨o2,bx,λv z=>by rw[d2]at z;cases z⟩
 keep:=λi h h' st k=>by
  obtain⟨hz,bX,⟨a,c,b9⟩,h1,h2⟩:=st;exact⟨k z (by simp) _ hz,k TI (by simp) _ bX,⟨a,c,k TO (by simp) _ b9⟩,h1.at λo q=>k i1 (by simp) o q,h2.at λo q=>k i2 (by simp) o q⟩
 item:=by
  intro X hP hw hK hc i pins s σ H E I hf st hg;subst hP hw hK;obtain⟨xs,ys,x,y,hq,hq2,hx,hy⟩:=hg;obtain⟨aa,rv,p,hz0⟩:=I.list hq;obtain⟨aj,rv2,p2,hz2⟩:=I.list hq2;obtain⟨u,hu,ru⟩:=rv.get hx;obtain⟨v,hv,bK⟩:=rv2.get hy;obtain⟨hz,bX,⟨a,c,b9⟩,h1,h2⟩:=st;have lt:∀{c o},s.heap.get? c=uC o->c<s.heap.objs.size:=λe=>kJ e
  have lz:=lt hz;have iZ:=lt bX;have iY:=lt b9;have l1:i1<s.heap.objs.size:=by obtain⟨o,e,_⟩:=id h1;exact lt e
  have l2:i2<s.heap.objs.size:=by obtain⟨o,e,_⟩:=id h2;exact lt e
  refine wpAny_pyNext_zip_item D hz bX b9 h1 h2 p.isList p2.isList (x:=u) (y:=v) (by simpa using hu) (by simpa using hv) λh3 z3 j6 f6 fZ iS j7 iA=>?_
  refine⟨_,rfl,?_⟩;refine wpAny_letOwnedTupleGo_zip z3 λh4 z4 cT=>?_
  replace cT:oB z h3 h4:=cT;have hp:H s.heap.objs.size=uD:=I.hok.fresh (kx _);have I1:Inv X pins σ (upd H s.heap.objs.size (.tup [x,y])) {s with heap:=s.heap.push {cls:=.type "tuple",data:=.seq #[u,v]},toks:=s.toks}:=by
   refine I.laid (λb u q=>kq _ q) (kx _) ⟨?_,[u,v],.cons ru (.cons bK .nil),⟨_,ll _ rfl,rfl,_,rfl⟩⟩
   show 2<=kR
   decide
  have aA:∀b∈[z,TI,TO,i1,i2],b<s.heap.objs.size:=λb hb=>by
   rcases k9.mp hb with rfl |hb
   ·exact lz
   rcases k9.mp hb with rfl |hb
   ·exact iZ
   rcases k9.mp hb with rfl |hb
   ·exact iY
   rcases k9.mp hb with rfl |hb
   ·exact l1
   ·have e:b=i2:=by simpa using hb
    rw[e];exact l2
  have eF:∀b∈[z,TI,TO,i1,i2],FpOk X pins (upd H s.heap.objs.size (.tup [x,y])) b:=λb hb=>by
   obtain⟨f0,r⟩:=hf b hb;refine⟨?_,r⟩;rw[zc_ (lB (aA b hb))];exact f0
  have I2:Inv X pins σ (upd H s.heap.objs.size (.tup [x,y])) {s with heap:=h4,toks:=s.toks}:=by
   refine Inv.turnedL (s:={s with heap:=s.heap.push {cls:=.type "tuple",data:=.seq #[u,v]},toks:=s.toks}) (ch:=[z,TI,TO,i1,i2]) I1 (λb o hb q=>?_) eF
   have n1:b≠z:=λe=>hb (by simp[e])
   have n2:b≠TO:=λe=>hb (by simp[e])
   have n3:b≠i1:=λe=>hb (by simp[e])
   have n4:b≠i2:=λe=>hb (by simp[e])
   refine(cT.2 b n1).trans ?_;rcases qz q with⟨rfl,rfl⟩|q'
   ·exact iS
   ·exact iA b o n1 n2 n3 n4 q'
  refine⟨.ref s.heap.objs.size,_,I2,rfl,⟨s.heap.objs.size,x,y,λzs cG=>by rw[I.list_inj cG hq];exact hx,λzs cG=>by rw[I.list_inj cG hq2];exact hy,hp,rfl,rfl⟩,⟨z4,?_,⟨u,v,?_⟩,?_,?_⟩,λb hb=>(eF b hb).1⟩
  ·exact(cT.2 TI D.TIz).trans (iA TI _ D.TIz D.TITO D.TIi1 D.TIi2 bX)
  ·exact(cT.2 TO D.TOz).trans j6
  ·exact f6.extBut cT.extBut D.i1z
  ·exact fZ.extBut cT.extBut D.i2z
 done:=by
  intro X hP hw hK hc i pins s σ H E I hf st hg;subst hP hw hK;obtain⟨xs,ys,hq,hq2,hx⟩:=hg;obtain⟨aa,rv,p,hz0⟩:=I.list hq;obtain⟨aj,rv2,p2,hz2⟩:=I.list hq2;obtain⟨hz,bX,⟨a,c,b9⟩,h1,h2⟩:=st;have hl:=rv.length;have fE:=rv2.length;refine wpAny_pyNext_zip_end (I.ok.hd hc) D hz bX b9 h1 h2 p.isList p2.isList ?_ λh' eb=>⟨rfl,?_⟩
  ·rcases hx with hx |hx
   ·exact .inl (by simp;lia)
   ·exact .inr (by simp;lia)
  ·refine Inv.turnedL (s:=s) (t':=s.toks) (ch:=[z,TI,TO,i1,i2]) I (λb o hb q=>eb b o (λe=>hb (by simp[e])) (λe=>hb (by simp[e])) (λe=>hb (by simp[e])) (λe=>hb (by simp[e])) q) hf
 self:=λ_ _ _ _ _ st h=>wpAny_pyIter_zip st.1 h
theorem zig_ {N l m:Nat}(hl:l<N)(hm:m<N):ZipApart (N+4) (N+2) (N+3) N (N+1) l m:=by
 constructor<;>(intro e;have e':(_:Nat)=_:=congrArg (λx:Nat=>x) e;lia)
section
end
def keyV:V->Option Key
 |.int i=>uC (.inl i)
 |.str z=>uC (.inr z)
 |_=>uD
theorem zm4_ {y:V}{k:Key}(h:keyV y=uC k):y=kV k:=by
 cases y<;>first |(cases h;rfl)|cases h
def atD (x y:V)(H:Hp)(R:kz->List (Key×V)->Key->Prop):Prop:=match x with
 |.ref a=>(match keyV y with |some k=>∃kvs,H a=uC (.dK kvs)/\R a kvs k |none=>False)
 |_=>False
theorem zhn_ {x y:V}{H:Hp}{R:kz->List (Key×V)->Key->Prop}(h:atD x y H R):∃a kvs k,x=.ref a/\y=kV k/\H a=uC (.dK kvs)/\R a kvs k:=by
 unfold atD at h;cases x with
 |ref a=>
  cases e:keyV y with
  |none=>rw[e]at h;exact h.elim
  |some k=>
   rw[e]at h;obtain⟨kvs,h1,h2⟩:=h;exact⟨a,kvs,k,rfl,zm4_ e,h1,h2⟩
 |_=>exact h.elim
section
variable {X:Cx}
def mLenD:List V->Hp->VK->Prop:=λxs H Q=>match xs with |[.ref a]=>∃kvs,H a=uC (.dK kvs)/\Q (.int kvs.length) H |_=>False
theorem zfL_:CallR X (.builtin "len") mLenD:=by
 intro pins s σ H xs us Q I r h;unfold mLenD at h;split at h
 ·rename_i a
  obtain⟨kvs,ha,q⟩:=h;obtain⟨u,rfl,ru⟩:=vals1 r;cases ru;exact d_len I (.inl ha) λt s' I'=>⟨.int kvs.length,H,I',⟨t,rfl⟩,q⟩
 ·exact h.elim
end
inductive Av where
 |i (n:Int)|p (a b:Int)
inductive Xc where
 |pl (c:String)|at(c:String) (as:List (Str×Av))
instance:Coe String Xc:=⟨Xc.pl⟩
inductive Mo (α:Type) where
 |ok (a:α)|ex (c:Xc)|no
namespace Mo
variable {α β γ:Type}
noncomputable def bind (x:Mo α)(f:α->Mo β):Mo β:=match x with |.ok a=>f a |.ex c=>.ex c |.no=>.no
theorem bind_assoc (x:Mo α)(f:α->Mo β)(g:β->Mo γ):(x.bind f).bind g=x.bind λa=>(f a).bind g:=by cases x<;>rfl
noncomputable def noex (x:Mo α):Mo α:=match x with |.ok a=>.ok a |_=>.no
noncomputable def lim (n:Nat)(k:Mo α):Mo α:=if n<=kR then k else .no
theorem lim_ok {n:Nat}{k:Mo α}(h:n<=100000):lim n k=k:=if_pos (zbi_ h)
noncomputable def grd (p:Prop)[Decidable p](k:Mo α):Mo α:=if p then k else .no
theorem grd_ok {p:Prop}[Decidable p]{k:Mo α}(h:p):grd p k=k:=if_pos h
noncomputable def opt (x:Option α):Mo α:=match x with |some a=>.ok a |none=>.no
end Mo
def un (F h:Hp):Hp:=λp=>match F p with |some o=>uC o |none=>h p
def Dj (F h:Hp):Prop:=∀p,F p=uD\/h p=uD
def Jn (h1 h2 h:Hp):Prop:=∀p,(h1 p=uD/\h p=h2 p)\/(h2 p=uD/\h p=h1 p)
def Ext (F H F' H':Hp):Prop:=Same F F'/\Same F' H'/\Same H H'/\∀p,F p=uD->F' p≠uD->H p=uD
theorem Ext.refl {F H:Hp}(h:Same F H):Ext F H F H:=⟨Same.refl _,h,Same.refl _,λp a b=>absurd a b⟩
theorem Ext.trans {F H F1 H1 F2 H2:Hp}(a:Ext F H F1 H1)(b:Ext F1 H1 F2 H2):Ext F H F2 H2:=by
 obtain⟨a1,a2,a3,a4⟩:=a;obtain⟨b1,b2,b3,b4⟩:=b;refine⟨a1.trans b1,b2,a3.trans b3,λp hp hq=>?_⟩
 cases e:F1 p with
 |none=>exact a3.free (b4 p e hq)
 |some o=>exact a4 p hp (by rw[e];exact sN _)
theorem Ext.heap {F H H':Hp}(h:Same F H)(g:Same H H'):Ext F H F H':=⟨Same.refl _,h.trans g,g,λp a b=>absurd a b⟩
theorem Ext.new {F H:Hp}(h:Same F H){p:kz}{o:HO}(hp:H p=uD):Ext F H (upd F p o) (upd H p o):=by
 refine⟨zV_ (h.free hp) _,λb u e=>?_,zV_ hp _,λq a b=>?_⟩
 ·unfold upd at e ⊢
  split
  ·rename_i z;rw[if_pos z]at e;exact e
  ·rename_i z;rw[if_neg z]at e;exact h _ _ e
 ·unfold upd at b
  split at b
  ·rename_i z;rw[z];exact hp
  ·exact absurd a b
structure Ty (α:Type) where
 R:α->V->Hp->Prop
 mono:∀{a v H H'},Same H H'->R a v H->R a v H'
def Tups (H H':Hp):Prop:=∀p xs,H p=uC (.tup xs)->H' p=uC (.tup xs)
theorem Same.tups {H H':Hp}(h:Same H H'):Tups H H':=λp xs e=>h _ _ e
abbrev tyInt:Ty Int:=⟨λa v _=>v=.int a,λ_ h=>h⟩
structure Cs (γ:Type) where
 R:γ->List V->Hp->Prop
 mono:∀{c vs H H'},Same H H'->R c vs H->R c vs H'
abbrev Prs {α:Type}(T:Ty α)(H:Hp)(xs:List α)(vs:List V):Prop:=Paired (λx v=>T.R x v H) xs vs
theorem zbZ_ {α β:Type}{R R':α->β->Prop}(h:∀a b,R a b->R' a b):∀{xs:List α}{ys:List β},Paired R xs ys->Paired R' xs ys
 |_,_,.nil=>.nil
 |_,_,.cons a t=>.cons (h _ _ a) (zbZ_ h t)
theorem Prs.mono {α:Type}{T:Ty α}{H H':Hp}{xs:List α}{vs:List V}(g:Same H H')(h:Prs T H xs vs):Prs T H' xs vs:=zbZ_ (λ_ _ r=>T.mono g r) h
noncomputable abbrev tyL {α:Type}(T:Ty α):Ty (List α):=⟨λxs v H=>∃p vs,v=.ref p/\H p=uC (.lst vs)/\Prs T H xs vs,λg ⟨p,vs,e,h,q⟩=>⟨p,vs,e,g _ _ h,q.mono g⟩⟩
structure Own (α:Type) where
 O:α->V->Hp->Hp->Prop
 fr:Ty α
 mono:∀{a v F F' h},Same F F'->O a v F h->O a v F' h
 frz:∀{a v F h},Dj F h->O a v F h->fr.R a v (un F h)
 notup:∀{a v F h},O a v F h->∀p xs,h p≠uC (.tup xs)
theorem zaa_ {F h:Hp}:Same F (un F h):=λp o e=>by unfold un;rw[e]
theorem zd5_ {F h:Hp}(d:Dj F h):Same h (un F h):=λp o e=>by
 unfold un;rcases d p with z |z
 ·rw[z];exact e
 ·rw[z]at e;cases e
def one (p:kz)(o:HO):Hp:=λq=>if q=p then uC o else uD
theorem zq_ {p:kz}{o:HO}:one p o p=uC o:=if_pos rfl
inductive Sl:Type 1 where
 |dead
 |fz {α:Type}(T:Ty α) (a:α)
 |ow {α:Type}(O:Own α) (a:α)
def Sl.P:Sl->Option V->Hp->Hp->Prop
 |.dead,_,_,_=>True
 |.fz T a,o,F,_=>∃v,o=uC v/\T.R a v F
 |.ow O a,o,F,h=>∃v,o=uC v/\O.O a v F h
def Sl.Z:Sl->Option V->Hp->Prop
 |.dead,_,_=>True
 |.fz T a,o,F=>∃v,o=uC v/\T.R a v F
 |.ow O a,o,F=>∃v,o=uC v/\O.fr.R a v F
def Hold:List Sl->St->Hp->Hp->Prop
 |[],[],_,_=>True
 |s::L,o::σ,F,h=>∃h1 h2,Jn h1 h2 h/\s.P o F h1/\Hold L σ F h2
 |_,_,_,_=>False
def HoldF (L:List Sl)(σ:St)(F:Hp):Prop:=∀(i:Nat) (s:Sl),L[i]?=uC s->s.Z (σ[i]?.join) F
theorem Sl.P.mono {s:Sl}{o:Option V}{F F' h:Hp}(g:Same F F')(q:s.P o F h):s.P o F' h:=by
 cases s with
 |dead=>exact q
 |fz T a=>obtain⟨v,e,r⟩:=q;exact⟨v,e,T.mono g r⟩
 |ow O a=>obtain⟨v,e,r⟩:=q;exact⟨v,e,O.mono g r⟩
theorem Sl.Z.mono {s:Sl}{o:Option V}{F F':Hp}(g:Same F F')(q:s.Z o F):s.Z o F':=by
 cases s with
 |dead=>exact q
 |fz T a=>obtain⟨v,e,r⟩:=q;exact⟨v,e,T.mono g r⟩
 |ow O a=>obtain⟨v,e,r⟩:=q;exact⟨v,e,O.fr.mono g r⟩
theorem HoldF.mono {L:List Sl}{σ:St}{F F':Hp}(g:Same F F')(q:HoldF L σ F):HoldF L σ F':=λi s e=>(q i s e).mono g
theorem Hold.mono:∀{L:List Sl}{σ:St}{F F' h:Hp},Same F F'->Hold L σ F h->Hold L σ F' h
 |[],[],_,_,_,_,q=>q
 |s::L,o::σ,F,F',h,g,q_=>by obtain⟨h1,h2,j,p,r⟩:=q_;exact⟨h1,h2,j,p.mono g,r.mono g⟩
 |[],_::_,_,_,_,_,q=>q.elim
 |_::_,[],_,_,_,_,q=>q.elim
theorem Jn.l {h1 h2 h:Hp}(j:Jn h1 h2 h):Same h1 h:=λp o e=>by
 rcases j p with⟨a,b⟩|⟨a,b⟩
 ·rw[a]at e;cases e
 ·rw[b];exact e
theorem Jn.r {h1 h2 h:Hp}(j:Jn h1 h2 h):Same h2 h:=λp o e=>by
 rcases j p with⟨a,b⟩|⟨a,b⟩
 ·rw[b];exact e
 ·rw[a]at e;cases e
theorem Jn.dj {h1 h2 h:Hp}(j:Jn h1 h2 h):Dj h1 h2:=λp=>by
 rcases j p with⟨a,b⟩|⟨a,b⟩
 ·exact .inl a
 ·exact .inr a
theorem zao_ {h1 h2:Hp}(d:Dj h1 h2):Jn h1 h2 (un h1 h2):=λp=>by
 unfold un;rcases d p with a |a
 ·rw[a];exact .inl ⟨rfl,rfl⟩
 ·refine .inr ⟨a,?_⟩
  cases h1 p with
  |none=>exact a
  |some o=>rfl
theorem Hold.at:∀{L:List Sl}{σ:St}{F h:Hp}(i:Nat) {s:Sl},Hold L σ F h->L[i]?=uC s ->
  ∃o h1 h2,σ[i]?=uC o/\Jn h1 h2 h/\s.P o F h1/\∀s' o' h1' h',Jn h1' h2 h'->s'.P o' F h1'->Hold (L.set i s') (σ.set i o') F h'
 |[],_,_,_,_,_,_,e=>by cases e
 |s::L,[],_,_,_,_,q,_=>q.elim
 |s::L,o::σ,F,h,0,t,q_,e=>by
  obtain⟨h1,h2,j,p,r⟩:=q_;cases e;exact⟨o,h1,h2,rfl,j,p,λs' o' h1' h' j' p'=>⟨h1',h2,j',p',r⟩⟩
 |s::L,o::σ,F,h,i+1,t,q_,e=>by
  obtain⟨h1,h2,j,p,r⟩:=q_;obtain⟨o1,k1,k2,e1,j1,p1,f⟩:=Hold.at i r (by simpa using e)
  have d1:Dj h1 k1:=λp=>by
   rcases j.dj p with a |a
   ·exact .inl a
   ·exact .inr (j1.l.free a)
  have d2:Dj h1 k2:=λp=>by
   rcases j.dj p with a |a
   ·exact .inl a
   ·exact .inr (j1.r.free a)
  refine⟨o1,k1,un h1 k2,by simpa using e1,λp=>?_,p1,λs' o' b7 h' j' p'=>?_⟩
  ·rcases j p with⟨a,b⟩|⟨a,b⟩
   ·rcases j1 p with⟨c,d⟩|⟨c,d⟩
    ·refine .inl ⟨c,?_⟩;unfold un;rw[a,b,d]
    ·refine .inr ⟨?_,by rw[b,d]⟩;unfold un;rw[a,c]
   ·refine .inl ⟨j1.l.free a,?_⟩
    have:k2 p=uD:=j1.r.free a;unfold un;rw[b];cases h1 p with
    |none=>rw[this]
    |some u=>rfl
  ·have dd:Dj b7 k2:=λp=>by
    rcases j' p with⟨a,b⟩|⟨a,b⟩
    ·exact .inl a
    ·right;unfold un at a
     cases z:h1 p with
     |none=>rw[z]at a;exact a
     |some u=>rw[z]at a;cases a
   refine⟨h1,un b7 k2,λp=>?_,p,f s' o' b7 _ (zao_ dd) p'⟩
   rcases j' p with⟨a,b⟩|⟨a,b⟩
   ·unfold un at b ⊢
    cases z:h1 p with
    |none=>rw[z]at b;exact .inl ⟨rfl,by rw[b,a]⟩
    |some u=>
     rw[z]at b;refine .inr ⟨?_,b⟩;rw[a];rcases d2 p with y |y
     ·rw[y]at z;cases z
     ·exact y
   ·unfold un at a
    cases z:h1 p with
    |some u=>rw[z]at a;cases a
    |none=>
     rw[z]at a;refine .inl ⟨rfl,?_⟩;unfold un;rw[b];cases b7 p with
     |none=>exact a.symm
     |some u=>rfl
theorem Hold.froz {L:List Sl}{σ:St}{F h:Hp}(d:Dj F h)(q:Hold L σ F h):HoldF L σ (un F h):=by
 intro i s e;obtain⟨o,h1,h2,e1,j,p,_⟩:=q.at i e;rw[e1];have d1:Dj F h1:=λp=>by
  rcases d p with a |a
  ·exact .inl a
  ·exact .inr (j.l.free a)
 cases s with
 |dead=>trivial
 |fz T a=>obtain⟨v,e2,r⟩:=p;exact⟨v,e2,T.mono zaa_ r⟩
 |ow O a=>
  obtain⟨v,e2,r⟩:=p;refine⟨v,e2,O.fr.mono (λp u z=>?_) (O.frz d1 r)⟩
  unfold un at z ⊢;cases y:F p with
  |some w=>rw[y]at z;exact z
  |none=>rw[y]at z;exact j.l _ _ z
end L2
namespace L2
open PySem PySem.Spec PyProof.Rows
def Av.R:Av->V->Hp->Prop
 |.i n,v,_=>v=.int n
 |.p a b,v,H=>∃q,v=.ref q/\H q=uC (.tup [.int a,.int b])
theorem Av.imm {x:Av}{v:V}{H H':Hp}(g:Tups H H')(h:x.R v H):x.R v H':=by
 cases x with
 |i n=>exact h
 |p a b=>obtain⟨q,e,z⟩:=h;exact⟨q,e,g _ _ z⟩
def AtR (as:List (Str×Av))(fs:List (Str×V))(F:Hp):Prop:=Paired (λa f=>a.1=f.1/\a.2.R f.2 F) as fs
theorem AtR.imm {as:List (Str×Av)}{fs:List (Str×V)}{H H':Hp}(g:Tups H H')(h:AtR as fs H):AtR as fs H':=zbZ_ (λ_ _ r=>⟨r.1,Av.imm g r.2⟩) h
def Tell (K:Fgg)(E:XK)(x:Xc)(H0 F H:Hp):Prop:=match x with
 |.pl c=>E (.ref (gA K c)) uD H
 |.at c as=>∀dx fs,H0 dx=uD->F dx=uC (XDO dx fs)->AtR as fs F->E (.ref (gA K c)) (uC dx) H
theorem Tell.up {K:Fgg}{E:XK}{x:Xc}{H0 H1 F H:Hp}(s:Same H0 H1)(h:Tell K E x H0 F H):Tell K E x H1 F H:=by
 cases x with
 |pl c=>exact h
 |«at» c as=>exact λdx fs e=>h dx fs (s.free e)
def After {α:Type}(K:Fgg)(r:Mo α)(E:XK)(F H:Hp)(k:α->Hp->Hp->Prop):Prop:=match r with
 |.ok a=>∀F' H',Ext F H F' H'->k a F' H'
 |.ex c=>∀F' H',Ext F H F' H'->Tell K E c H F' H'
 |.no=>False
section
variable {K:Fgg}{E:XK}{α β γ:Type}{F H:Hp}
theorem After.bind {r:Mo α}{f:α->Mo β}{k:β->Hp->Hp->Prop}(h:After K (r.bind f) E F H k):After K r E F H λa F1 H1=>After K (f a) E F1 H1 k:=by
 cases r with
 |ok a=>
  intro F1 H1 x;have h':After K (f a) E F H k:=h;cases e:f a with
  |ok b=>rw[e]at h';exact λF2 H2 y=>h' F2 H2 (x.trans y)
  |ex c=>rw[e]at h';exact λF2 H2 y=>(h' F2 H2 (x.trans y)).up x.2.2.1
  |no=>rw[e]at h';exact h'
 |ex c=>exact h
 |no=>exact h
theorem After.imp {r:Mo α}{k k':α->Hp->Hp->Prop}(h:After K r E F H k)(g:∀a F' H',Ext F H F' H'->k a F' H'->k' a F' H'):After K r E F H k':=by
 cases r with
 |ok a=>exact λF' H' x=>g a F' H' x (h F' H' x)
 |ex c=>exact h
 |no=>exact h
theorem After.ok {a:α}{k:α->Hp->Hp->Prop}(hs:Same F H)(h:After K (.ok a) E F H k):k a F H:=h F H (.refl hs)
theorem After.lim {n:Nat}{r:Mo α}{k:α->Hp->Hp->Prop}(h:After K (Mo.lim n r) E F H k):n<=kR/\After K r E F H k:=by
 unfold Mo.lim at h;split at h
 ·exact⟨by assumption,h⟩
 ·exact h.elim
theorem After.grd {p:Prop}[Decidable p]{r:Mo α}{k:α->Hp->Hp->Prop}(h:After K (Mo.grd p r) E F H k):p/\After K r E F H k:=by
 unfold Mo.grd at h;split at h
 ·exact⟨by assumption,h⟩
 ·exact h.elim
theorem After.opt {x:Option α}{k:α->Hp->Hp->Prop}(h:After K (Mo.opt x) E F H k):∃a,x=uC a/\After K (.ok a) E F H k:=by
 cases x with
 |none=>exact h.elim
 |some a=>exact⟨a,rfl,h⟩
def EvF (K:Fgg)(e:TE)(E:XK)(L:List Sl)(r:Mo α)(T:Ty α):Prop:=
 ∀σ F H (Q:VK),HoldF L σ F->Same F H->After K r E F H (λa F' H'=>∀v,T.R a v F'->Q v H')->e σ H Q
def OwnK (O:Own α)(H:Hp)(Q:VK)(a:α)(F' H':Hp):Prop:=∀v h,(∀p,h p≠uD->H p=uD)->Dj F' h->Same h H'->O.O a v F' h->Q v H'
def EvO (K:Fgg)(e:TE)(E:XK)(L:List Sl)(r:Mo α)(O:Own α):Prop:=
 ∀σ F H (Q:VK),HoldF L σ F->Same F H->After K r E F H (OwnK O H Q)->e σ H Q
def EvT (K:Fgg)(t:TT)(E:XK)(L:List Sl)(r:Mo Bool):Prop:=
 ∀σ F H (Q:Bool->Hp->Prop),HoldF L σ F->Same F H->After K r E F H (λb _ H'=>Q b H')->t σ H Q
def EvA (K:Fgg)(t:TA)(E:XK)(L:List Sl)(r:Mo γ)(C:Cs γ):Prop:=
 ∀σ F H (Q:List V->Hp->Prop),HoldF L σ F->Same F H->After K r E F H (λc F' H'=>∀vs,C.R c vs F'->Q vs H')->t σ H Q
variable {L:List Sl}{e e1 e2:TE}{T:Ty α}{r:Mo α}
theorem EvO.fr {O:Own α}(h:EvO K e E L r O):EvF K e E L r O.fr:=by
 intro σ F H Q hL hs q;refine h σ F H Q hL hs ?_;cases r with
 |ok a=>
  intro F' H' x v h' fresh d s o;refine q (un F' h') H' ⟨x.1.trans zaa_,λp o e=>?_,x.2.2.1,λp a b=>?_⟩ v (O.frz d o)
  ·unfold un at e
   cases z:F' p with
   |some w=>rw[z]at e;cases e;exact x.2.1 _ _ z
   |none=>rw[z]at e;exact s _ _ e
  ·unfold un at b
   cases z:F' p with
   |some w=>exact x.2.2.2 p a (by rw[z];exact sN _)
   |none=>rw[z]at b;exact fresh p b
 |ex c=>exact q
 |no=>exact q
def Op2O (K:Fgg)(m:R2)(E:XK)(T1:Ty α)(T2:Ty β)(g:α->β->Mo γ)(O:Own γ):Prop:=
 ∀a b x y F H (Q:VK),Same F H->T1.R a x F->T2.R b y F->After K (g a b) E F H (OwnK O H Q)->m x y H Q
theorem OwnK.back {O:Own α}{H H1:Hp}{Q:VK}{a:α}{F' H':Hp}(g:Same H H1)(h:OwnK O H Q a F' H'):OwnK O H1 Q a F' H':=
 λv k fresh d s o=>h v k (λp z=>g.free (fresh p z)) d s o
theorem zpW_ {m:R2}{T1:Ty α}{T2:Ty β}{O:Own γ}{g:α->β->Mo γ}{r1:Mo α}{r2:Mo β}(jq:Op2O K m E T1 T2 g O)(h1:EvF K e1 E L r1 T1)(h2:EvF K e2 E L r2 T2):
  EvO K (tOp m e1 e2) E L (r1.bind λa=>r2.bind λb=>g a b) O:=by
 intro σ F H Q hL hs q;refine h1 σ F H _ hL hs (q.bind.imp λa F1 H1 x1 k1 v1 aN=>?_)
 refine h2 σ F1 H1 _ (hL.mono x1.1) x1.2.1 (k1.bind.imp λb F2 H2 x2 k2 v2 cQ=>?_)
 exact jq a b v1 v2 F2 H2 Q x2.2.1 (T1.mono x2.1 aN) cQ (k2.imp λc F3 H3 x3 k3=>k3.back (x1.2.2.1.trans x2.2.2.1))
noncomputable instance (i j:Int):Decidable (CMul i j):=inferInstanceAs (Decidable (_\/_))
noncomputable instance (i j:Int):Decidable (CDiv i j):=inferInstanceAs (Decidable (_/\_))
noncomputable instance (i j:Int):Decidable (CPow i j):=inferInstanceAs (Decidable (_/\_/\_))
theorem Prs.append {xs ys:List α}{vs us:List V}(a:Prs T H xs vs)(b:Prs T H ys us):Prs T H (xs++ys) (vs++us):=by
 induction a with
 |nil=>exact b
 |cons r t ih=>exact .cons r ih
theorem Prs.len {xs:List α}{vs:List V}(a:Prs T H xs vs):xs.length=vs.length:=Paired.length a
theorem Prs.get {xs:List α}{vs:List V}(a:Prs T H xs vs)(i:Nat):(xs[i]?=uD/\vs[i]?=uD)\/∃x v,xs[i]?=uC x/\vs[i]?=uC v/\T.R x v H:=by
 induction a generalizing i with
 |nil=>exact .inl ⟨rfl,rfl⟩
 |cons r t ih=>
  cases i with
  |zero=>exact .inr ⟨_,_,rfl,rfl,r⟩
  |succ i=>simpa using ih i
theorem Prs.take {xs:List α}{vs:List V}(a:Prs T H xs vs)(n:Nat):Prs T H (xs.take n) (vs.take n):=by
 induction a generalizing n with
 |nil=>rw[qN,qN];exact .nil
 |cons r t ih=>
  cases n with
  |zero=>exact .nil
  |succ n=>exact .cons r (ih n)
theorem Prs.drop {xs:List α}{vs:List V}(a:Prs T H xs vs)(n:Nat):Prs T H (xs.drop n) (vs.drop n):=by
 induction a generalizing n with
 |nil=>rw[sS,sS];exact .nil
 |cons r t ih=>
  cases n with
  |zero=>exact .cons r t
  |succ n=>exact ih n
def BlO (K:Fgg)(m:List V->Hp->VK->Prop)(E:XK)(C:Cs γ)(g:γ->Mo α)(O:Own α):Prop:=
 ∀c vs F H (Q:VK),Same F H->C.R c vs F->After K (g c) E F H (OwnK O H Q)->m vs H Q
theorem zqT_ {m:List V->Hp->VK->Prop}{C:Cs γ}{g:γ->Mo α}{O:Own α}{ta:TA}{r:Mo γ}(hb:BlO K m E C g O)(h:EvA K ta E L r C):EvO K (tCB m ta) E L (r.bind g) O:=by
 intro σ F H Q hL hs q;exact h σ F H _ hL hs (q.bind.imp λc F1 H1 x1 k1 vs cy=>hb c vs F1 H1 Q x1.2.1 cy (k1.imp λa F2 H2 x2 k2=>k2.back x1.2.2.1))
theorem zmb_ {xs:List α}{vs:List V}(r:Prs T H xs vs){i:Int}{x:α}(e:atI xs i=uC x):∃v,atI vs i=uC v/\T.R x v H:=by
 unfold atI at e ⊢;rw[<- r.len];cases e1:ixN xs.length i with
 |none=>rw[e1]at e;cases e
 |some j=>
  rw[e1]at e;rcases r.get j with⟨a,b⟩|⟨y,v,a,b,c⟩
  ·have:xs[j]?=uC x:=e
   rw[a]at this;cases this
  ·have:xs[j]?=uC x:=e
   rw[a]at this;cases this;exact⟨v,b,c⟩
end
section
variable {K:Fgg}{E:XK}{α γ:Type}{F H:Hp}{L:List Sl}{e1 e2:TE}{T:Ty α}{r:Mo α}{t:TT}{b:Mo Bool}
theorem zpH_ {r1 r2:Mo α}{O:Own α}(ht:EvT K t E L b)(h1:EvO K e1 E L r1 O)(h2:EvO K e2 E L r2 O):EvO K (mIf t e1 e2) E L (b.bind λc=>if c then r1 else r2) O:=by
 intro σ F H Q hL hs q;refine ht σ F H _ hL hs (q.bind.imp λa F1 H1 x k=>⟨λc=>?_,λc=>?_⟩)
 ·rw[if_pos c]at k;exact h1 σ F1 H1 _ (hL.mono x.1) x.2.1 (k.imp λa F2 H2 y z=>z.back x.2.2.1)
 ·rw[if_neg (by rw[c];decide)]at k;exact h2 σ F1 H1 _ (hL.mono x.1) x.2.1 (k.imp λa F2 H2 y z=>z.back x.2.2.1)
theorem After.more {k:α->Hp->Hp->Prop}(h:After K r E F H k):After K r E F H λa F1 H1=>∀F2 H2,Ext F1 H1 F2 H2->k a F2 H2:=by
 cases r with
 |ok a=>exact λF1 H1 x F2 H2 y=>h F2 H2 (x.trans y)
 |ex c=>exact h
 |no=>exact h
def EvP (K:Fgg)(t:TO)(E:XK)(L:List Sl)(r:Mo (Option Int)):Prop:=
 ∀σ F H (Q:Option Int->Hp->Prop),HoldF L σ F->Same F H->After K r E F H (λb _ H'=>Q b H')->t σ H Q
theorem ep_no:EvP K tNoPart E L (.ok uD):=λσ F H Q hL hs q=>q.ok hs
def cutG (xs:List α)(lo hi:Option Int):List α:=(xs.drop (HT.sIx xs.length 0 lo)).take (HT.sIx xs.length xs.length hi-HT.sIx xs.length 0 lo)
theorem zly_ {xs:List α}{vs:List V}(q:Prs T H xs vs)(lo hi:Option Int):Prs T H (cutG xs lo hi) (cutV vs lo hi):=by
 unfold cutG cutV;rw[<- q.len];exact(q.drop _).take _
theorem EqD.le {H:Hp}{n m:Nat}{x y:V}{b:Bool}(h:EqD K H n x y b)(g:n<=m):EqD K H m x y b:=by
 induction g with
 |refl=>exact h
 |step _ ih=>exact .up ih
def MeO (K:Fgg)(m:V->List V->Hp->VK->Prop)(E:XK)(C:Cs γ)(g:List Nat->γ->Mo α)(O:Own α):Prop:=
 ∀l c vs F H (Q:VK),Same F H->C.R c vs F->After K (g l c) E F H (OwnK O H Q)->m (tx l) vs H Q
noncomputable def zfL (l:List Nat)(i:Int):List Nat:=(Txt.zfill ⟨l.toArray⟩ i).cps.toList
end
section
variable {K:Fgg}{E:XK}{α β:Type}{F H:Hp}{L:List Sl}{e:TE}{T:Ty α}{r:Mo α}
noncomputable def setL (L:List Sl)(ss:List (Nat×Sl)):List Sl:=ss.foldl (λL q=>L.set q.1 q.2) L
def setS (σ:St)(ss:List (Nat×Option V)):St:=ss.foldl (λL q=>L.set q.1 q.2) σ
inductive Plain (F:Hp):List (Nat×Sl)->List (Nat×Option V)->Prop
 |nil:Plain F [] []
 |cons {α:Type}{T:Ty α}{a:α}{i:Nat}{v:V}{ss vs} (h:T.R a v F) (t:Plain F ss vs):Plain F ((i,.fz T a)::ss) ((i,uC v)::vs)
def TgR (K:Fgg)(g:TG)(T:Ty α)(ss:α->List (Nat×Sl)):Prop:=
 ∀a v σ F H (Q:St->Hp->Prop),Same F H->T.R a v F->(∀vs,Plain F (ss a) vs->Q (setS σ vs) H)->g v σ H Q
theorem zfJ_ {σ:St}{i j:Nat}{o:Option V}(h:i<σ.length):((σ.set i o)[j]?).join=if i=j then o else(σ[j]?).join:=by
 rw[ng];split
 ·rename_i e;subst e;first |rfl |(rw[if_pos h];rfl)
 ·rfl
theorem zhP_ {σ:St}{i:Nat}{s:Sl}{o:Option V}(hl:L.length=σ.length)(h:HoldF L σ F)(hs:s.Z o F):HoldF (L.set i s) (σ.set i o) F:=by
 intro j t e;rw[ng]at e;split at e
 ·rename_i z;subst z
  split at e
  ·rename_i y;cases e
   rw[zfJ_ (by rw[<- hl];exact y),if_pos rfl];exact hs
  ·cases e
 ·rename_i z
  by_cases y:i<σ.length
  ·rw[zfJ_ y,if_neg z];exact h j t e
  ·rw[List.set_eq_of_length_le (by lia)];exact h j t e
theorem zff_ {ss:List (Nat×Sl)}{vs:List (Nat×Option V)}(p:Plain F ss vs):∀{L:List Sl}{σ:St},L.length=σ.length->HoldF L σ F->HoldF (setL L ss) (setS σ vs) F/\(setS σ vs).length=σ.length/\(setL L ss).length=L.length:=by
 induction p with
 |nil=>exact λhl h=>⟨h,rfl,rfl⟩
 |cons hv t ih=>
  rename_i T a i v ss vs
  intro L σ hl h;obtain⟨a1,b,c⟩:=ih (L:=L.set i (.fz T a)) (σ:=σ.set i (uC v)) (by rw[mM,mM];exact hl) (zhP_ (s:=.fz T a) hl h ⟨v,rfl,hv⟩)
  exact⟨a1,b.trans (by rw[mM]),c.trans (by rw[mM])⟩
def DeadAt (L:List Sl)(is:List Nat):Prop:=∀i∈is,∀s,L[i]?=uC s->s=.dead
theorem zkd_ {ss:List (Nat×Sl)}{vs:List (Nat×Option V)}(p:Plain F ss vs){j:Nat}:∀{σ:St},j∉ss.map (·.1)->(setS σ vs)[j]?=σ[j]?:=by
 induction p with
 |nil=>exact λ_=>rfl
 |cons hv t ih=>
  rename_i i v ss vs
  intro σ hj;have h1:i≠j:=λz=>hj (by rw[<- z];exact lA)
  have h2:=ih (σ:=σ.set i (uC v)) λz=>hj (lu _ z)
  exact h2.trans (lD h1)
structure Yl (K:Fgg)(J:It)(xs:List α)(T:Ty α)(F1:Hp):Prop where
 go:∀i H x,Same F1 H->xs[i]?=uC x->J.go i H/\∀v H',J.yld i H v H'->∀F,Same F1 F->Same F H->∃F',Ext F H F' H'/\T.R x v F'
 stop:∀H,Same F1 H->J.stop xs.length H
def EvI (K:Fgg)(wi:TI)(E:XK)(L:List Sl)(r:Mo (List α))(T:Ty α):Prop:=
 ∀σ F H (R:It->Hp->Prop),HoldF L σ F->Same F H->After K r E F H (λxs F' H'=>∀J,Yl K J xs T F'->R J H')->wi σ H R
noncomputable def rngI (lo:Int)(n:Nat):List Int:=(lG n).map λ(i:Nat)=>lo+i
theorem zqf_ {lo:Int}{n:Nat}{F1:Hp}:Yl K (Itr lo n) (rngI lo n) tyInt F1:=by
 refine⟨λi H x hH hx=>?_,λH hH=>?_⟩
 ·unfold rngI at hx
  rw[kH]at hx;cases e:(lG n)[i]? with
  |none=>rw[e]at hx;cases hx
  |some c=>
   rw[e]at hx;cases hx;obtain⟨hi,e⟩:=lg.mp e;rw[qW]at e;subst e;rw[lZ]at hi;refine⟨hi,?_⟩;rintro v H' ⟨rfl,rfl⟩ F _ hF;exact⟨F,.refl hF,rfl⟩
 ·show n<=_
  unfold rngI;rw[ko,lZ];exact kx _
noncomputable def enumL (xs:List α):List (Int×α):=(lG xs.length).zip xs |>.map λq=>((q.1:Int),q.2)
theorem zbQ_ (xs:List α)(i:Nat):(enumL xs)[i]?=(xs[i]?).map λx=>((i:Int),x):=by
 unfold enumL;rw[kH];cases e:xs[i]? with
 |none=>
  have:=pO.mp e;rw[nH (by rw[mn,lZ];lia)];rfl
 |some x=>
  have hi:=(lg.mp e).1;have:((lG xs.length).zip xs)[i]?=uC (i,x):=oI.mpr ⟨by rw[qJ hi],e⟩
  rw[this];rfl
theorem zy_ (xs:List α):(enumL xs).length=xs.length:=by unfold enumL;rw[ko,mn,lZ,nU]
def compM (f:α->Mo (Option β)):List α->List β->Mo (List β)
 |[],acc=>.ok acc
 |x::xs,acc=>(f x).bind λo=>match o with |none=>compM f xs acc |some y=>.lim (acc.length+1) (compM f xs (acc++[y]))
noncomputable def cL (lv:List Str)(fr:List (Str×Nat))(L:List Sl):List Sl:=lv.map (λ_=>Sl.dead)++fr.map λq=>(L[q.2]?).getD .dead
theorem zgV_ {lv:List Str}{fr:List (Str×Nat)}{σ:St}(h:HoldF L σ F):HoldF (cL lv fr L) (cS lv fr σ) F:=by
 intro i s e;unfold cL at e;unfold cS;by_cases hi:i<lv.length
 ·rw[mx (by rw[ko];exact hi),kH,km hi]at e
  cases e;trivial
 ·rw[mr (by rw[ko];lia),ko,kH]at e
  rw[mr (by rw[ko];lia),ko,kH]
  cases z:fr[i-lv.length]? with
  |none=>rw[z]at e;cases e
  |some q=>
   rw[z]at e;have e:(L[q.2]?).getD .dead=s:=by simpa using e
   show Sl.Z s (σ[q.2]?).join F
   cases y:L[q.2]? with
   |none=>rw[y]at e;rw[<- e];trivial
   |some t=>rw[y]at e;cases e;exact h _ _ y
theorem zk0_ {lv:List Str}{fr:List (Str×Nat)}{σ:St}:(cL lv fr L).length=(cS lv fr σ).length:=by unfold cL cS;simp
def cond1 (c:Mo Bool)(f:Mo β):Mo (Option β):=(c.bind λb=>if b then f.bind λy=>.ok (uC y)else .ok uD).noex
end
def Okk (F0 H0 F h H:Hp):Prop:=Ext F0 H0 F H/\Dj F h/\Same h H/\(∀p,h p≠uD->H0 p=uD)/\∀p xs,h p≠uC (.tup xs)
section
variable {K:Fgg}{E:XK}{α:Type}{F0 H0 F h H:Hp}{e:TE}{r:Mo α}{t:TS}
theorem Okk.thaw (ok:Okk F0 H0 F h H):Same (un F h) H:=λp o e=>by
 unfold un at e;cases z:F p with
 |some w=>rw[z]at e;cases e;exact ok.1.2.1 _ _ z
 |none=>rw[z]at e;exact ok.2.2.1 _ _ e
def less (G h:Hp):Hp:=λp=>match h p with |none=>G p |some _=>uD
theorem zaj_ {G h:Hp}{p:kz}(e:h p=uD):less G h p=G p:=by unfold less;rw[e]
theorem Okk.back (ok:Okk F0 H0 F h H){G' H':Hp}(x:Ext (un F h) H G' H'):Okk F0 H0 (less G' h) h H'/\Same F (less G' h)/\Tups G' (less G' h):=by
 obtain⟨o1,o2,o3,o4,o5⟩:=ok;have hs:Same F (less G' h):=λp o e=>by
  have hp:h p=uD:=by
   rcases o2 p with z |z
   ·rw[z]at e;cases e
   ·exact z
  rw[zaj_ hp];exact x.1 _ _ (zaa_ _ _ e)
 refine⟨⟨⟨o1.1.trans hs,λp o e=>?_,o1.2.2.1.trans x.2.2.1,λp a b=>?_⟩,λp=>?_,λp o e=>?_,o4,o5⟩,hs,λp xs e=>?_⟩
 ·unfold less at e
  split at e
  ·exact x.2.1 _ _ e
  ·cases e
 ·unfold less at b
  split at b
  ·rename_i z
   cases y:un F h p with
   |none=>exact o1.2.2.1.free (x.2.2.2 p y b)
   |some o=>
    unfold un at y;cases w:F p with
    |some _=>exact o1.2.2.2 p a (by rw[w];exact sN _)
    |none=>rw[w,z]at y;cases y
  ·exact absurd rfl b
 ·unfold less
  cases z:h p with
  |none=>exact .inr rfl
  |some o=>exact .inl rfl
 ·exact x.2.1 _ _ (x.1 _ _ (zd5_ o2 _ _ e))
 ·unfold less
  cases z:h p with
  |none=>exact e
  |some o=>
   have:=x.1 _ _ (zd5_ o2 _ _ z);rw[e]at this;cases this;exact absurd z (o5 p xs)
theorem Tell.back {x:Xc}(ok:Okk F0 H0 F h H){G' H':Hp}(y:Ext (un F h) H G' H')(t:Tell K E x H0 (less G' h) H'):Tell K E x H G' H':=by
 cases x with
 |pl c=>exact t
 |«at» c as=>
  refine λdx fs e q r=>t dx fs (ok.1.2.2.1.free e) ?_ (r.imm (ok.back y).2.2)
  rw[zaj_ (ok.2.2.1.free e)];exact q
theorem Okk.cold (ok:Okk F0 H0 F h H){F' H':Hp}(x:Ext F H F' H'):Okk F0 H0 F' h H':=by
 refine⟨ok.1.trans x,λp=>?_,ok.2.2.1.trans x.2.2.1,ok.2.2.2.1,ok.2.2.2.2⟩
 cases z:h p with
 |none=>exact .inr rfl
 |some o=>
  left;rcases ok.2.1 p with y |y
  ·cases w:F' p with
   |none=>rfl
   |some o'=>have:=x.2.2.2 p y (by rw[w];exact sN _);rw[ok.2.2.1 _ _ z]at this;cases this
  ·rw[y]at z;cases z
theorem zld_ {hn h:Hp}(hh:Same h H)(fresh:∀p,hn p≠uD->H p=uD):Dj hn h:=λp=>by
 cases z:hn p with
 |none=>exact .inl rfl
 |some w=>
  have:=fresh p (by rw[z];exact sN _)
  exact .inr (hh.free this)
theorem zli_ {α:Type}{l:List α}{i:Nat}{o:α}(h:l[i]?=uC o):l.set i o=l:=by
 obtain⟨hi,e⟩:=lg.mp h;rw[<- e];exact List.set_getElem_self hi
theorem Okk.rebase {F1 H1:Hp}(x:Ext F0 H0 F1 H1)(ok:Okk F0 H0 F h H)(s:Same F1 F):Okk F1 H0 F h H:=by
 obtain⟨o1,o2,o3,o4,o5⟩:=ok;refine⟨⟨s,o1.2.1,o1.2.2.1,λp a b=>o1.2.2.2 p (x.1.free a) b⟩,o2,o3,o4,o5⟩
theorem Okk.unbase {F1 H1:Hp}(x:Ext F0 H0 F1 H1)(ok:Okk F1 H0 F h H):Okk F0 H0 F h H:=by
 obtain⟨o1,o2,o3,o4,o5⟩:=ok;refine⟨⟨x.1.trans o1.1,o1.2.1,o1.2.2.1,λp a b=>?_⟩,o2,o3,o4,o5⟩
 cases z:F1 p with
 |none=>exact o1.2.2.2 p z b
 |some w=>exact x.2.2.2 p a (by rw[z];exact sN _)
variable {L:List Sl}
def CDivG (i j:Int):Prop:=0<j/\pC i j=uF
noncomputable instance (i j:Int):Decidable (CDivG i j):=inferInstanceAs (Decidable (_/\_))
noncomputable instance (i j:Int):Decidable (IntMulOk i j):=inferInstanceAs (Decidable (¬_))
abbrev mMulG:R2:=mI IntMulOk λi j=>.int (i*j)
abbrev mDivG:R2:=mI CDivG λi j=>.int (i / j)
theorem znv_ {X:Cx}:OpR X (nj .Mult) mMulG:=opM (opI λ_ _ _ _ _ _ _ hc q=>mul_int q hc)
theorem zl3_ {X:Cx}:OpR X (nj .FloorDiv) mDivG:=opM (opI λi j _ _ _ _ _ hc q=>by
 have h1:(0:Int)<j:=hc.1;exact floordiv_int (by lia) (by rw[Int.fdiv_eq_ediv_of_nonneg i (by lia)];exact q) (.inl hc.2))
theorem zmC_:EvT K tTrue E L (.ok uE):=λσ F H Q hL hs q=>q.ok hs
end
section
variable {α:Type}
open PySem PySem.Spec PyProof.Rows in
theorem zmJ_ {a j:Int}(h0:0<j)(h:j.natAbs.log2<9000):CDivG a j:=by
 refine⟨h0,?_⟩;unfold pC;simp only;rw[Bool.and_eq_false_iff];left;rw[decide_eq_false_iff_not];split<;>lia
theorem log2_lt {n k:Nat}(h:n<2 ^ k):n.log2<k\/n=0:=by
 by_cases hz:n=0
 ·exact .inr hz
 ·exact .inl ((Nat.log2_lt hz).mpr h)
theorem znn_ {a j:Int}(h0:0<j)(h:j<2 ^ 1000):CDivG a j:=by
 refine zmJ_ h0 ?_;have h1:j.natAbs<2 ^ 1000:=by
  have:((2:Int) ^ 1000)=((2 ^ 1000:Nat):Int):=by rw[Int.natCast_pow];rfl
  rw[this]at h;lia
 rcases log2_lt h1 with h |h
 ·lia
 ·rw[h];decide
open PySem PySem.Spec PyProof.Rows in
theorem zdC_ {i j:Int}(h : -(2 ^ 64)<i/\i<2 ^ 64 \/ -(2 ^ 64)<j/\j<2 ^ 64):IntMulOk i j:=CMul.ok h
theorem zkN_ (lo:Int)(n:Nat):(rngI lo n).length=n:=by unfold rngI;rw[ko,lZ]
theorem zkz_ {lo x:Int}{n:Nat}:x∈rngI lo n↔lo<=x/\x<lo+n:=by
 unfold rngI;simp only[my,lO];constructor
 ·rintro⟨a,h,rfl⟩;lia
 ·rintro⟨h1,h2⟩;exact⟨(x-lo).toNat,by lia,by lia⟩
theorem zfh_ {xs:List α}{k:Int}(h0:0<=k):atI xs k=xs[k.toNat]?:=by
 unfold atI ixN;rw[if_pos h0];split
 ·rfl
 ·rename_i h
  rw[nH (by omega)];rfl
theorem zgh_ {xs:List α}{k:Int}(h0:0<=k)(h1:k<xs.length):∃x,atI xs k=uC x/\x∈xs:=by
 rw[zfh_ h0,km (show k.toNat<xs.length by lia)]
 exact⟨_,rfl,mD _⟩
theorem zhz_ (xs:List α)(lo hi:Option Int):(cutG xs lo hi).length<=xs.length:=by
 unfold cutG;rw[mq,mC];lia
end
section
variable {F0 H0 F h H:Hp}
theorem zgQ_ {p:kz}{o':HO}{h1' hr h':Hp}(ok:Okk F0 H0 F h H)(hp:h p≠uD)(nt:∀xs,o'≠.tup xs)(h':Hp)(hh:∀q,h' q=if q=p then uC o' else h q):Okk F0 H0 F h' (upd H p o'):=by
 obtain⟨o1,o2,o3,o4,o5⟩:=ok;have Fp:F p=uD:=by
  rcases o2 p with z |z
  ·exact z
  ·exact absurd z hp
 have iN:H0 p=uD:=o4 p hp;refine⟨⟨o1.1,λq o z=>?_,λq o z=>?_,o1.2.2.2⟩,λq=>?_,λq o z=>?_,λq z=>?_,λq ys z=>?_⟩
 ·unfold upd;split
  ·rename_i w;rw[w,Fp]at z;cases z
  ·exact o1.2.1 _ _ z
 ·unfold upd;split
  ·rename_i w;rw[w,iN]at z;cases z
  ·exact o1.2.2.1 _ _ z
 ·rw[hh];split
  ·rename_i w;rw[w];exact .inl Fp
  ·exact o2 q
 ·rw[hh]at z;unfold upd
  split at z
  ·rename_i w;rw[if_pos w];exact z
  ·rename_i w;rw[if_neg w];exact o3 _ _ z
 ·rw[hh]at z;split at z
  ·rename_i w;rw[w];exact iN
  ·exact o4 q z
 ·rw[hh]at z;split at z
  ·exact nt ys (by injection z)
  ·exact o5 q ys z
variable {u:TS}
@[irreducible] def fuelW:Nat:=100000
def mLtS:R2:=λx y H Q=>match x,y with
 |.int i,.int j=>Q (.bl (decide (i<j))) H
 |.str i,.str j=>Q (.bl (decide (i.cps.toList<j.cps.toList))) H
 |_,_=>False
theorem zlQ_ {X:Cx}:OpR X (lp .Lt) mLtS:=by
 intro pins s σ H x y v u Q I rx ry h
 cases x<;>cases y<;>first
  |exact h.elim
  |exact op_lt pins s σ H _ _ v u Q I rx ry ⟨_,_,rfl,rfl,h⟩
  |exact zib_ pins s σ H _ _ v u Q I rx ry ⟨_,_,rfl,rfl,h⟩
end
open PySem.SeqAt
open PySem.AutoSeq1 (wpAny_loadPart')
open PySem.MeetsSeq PySem.MeetsSeq2 PySem.MeetsSeq3
theorem zgb_:entryFor table "list.__eq__.loop"=uC rm.«list.__eq__.loop»:=by kernel_rfl!
theorem zde_ (A:lY)(args:uw):A.under (Code.builtin "list.__eq__.loop" args)=A.in1:=by rfl
theorem zdj_ (args:uw):(Code.builtin "list.__eq__.loop" args).quiet=uE:=by first |kernel_rfl! |simp[Code.quiet]|(unfold Code.quiet;decide +kernel)
theorem zbW_:∀{vs:List aU}{ns:List Int},IntsAre vs ns->∀i:Nat,(vs[i]?=uD/\ns[i]?=uD)\/∃a t,vs[i]?=uC (.int a t)/\ns[i]?=uC a
 |_,_,.nil,i=>.inl ⟨rfl,rfl⟩
 |_,_,.cons a t h,0=>.inr ⟨a,t,rfl,rfl⟩
 |_,_,.cons a t h,i+1=>by simpa using zbW_ h i
theorem zbs_ {α:Type}{xs:List α}{i:Nat}{a:α}(h:xs[i]?=uC a):xs.drop i=a::xs.drop (i+1):=by
 obtain⟨hi,e⟩:=lg.mp h;rw[<- e];exact oJ hi
theorem zcF_ {α:Type}{xs:List α}{i:Nat}(h:xs[i]?=uD):xs.drop i=[]:=qj (pO.mp h)
theorem zeC_ (l b:kz)(items ah:Array aU)(n n2:Nat)(dd bY:Option kz)(sl bJ:Array (Option aU))(ns ms:List Int)(hi:IntsAre items.toList ns)(hj:IntsAre ah.toList ms):∀(k i:Nat),items.size-i=k->i<=items.size->i<=ah.size ->
  Meets (rm.«list.__eq__.loop» ⟨[.ref l,.ref b,rawInt (i:Nat),rawInt 0],[]⟩)
   (λ_ R s=>s.heap.get? l=uC {cls:=.type "list",dict:=dd,data:=.seq items n,slots:=sl}/\s.heap.get? b=uC {cls:=.type "list",dict:=bY,data:=.seq ah n2,slots:=bJ} /\
    R (.ok (.ret (.bool (HT.lexLt (ns.drop i) (ms.drop i))))) s):=by
 intro k;induction k with
 |zero=>
  intro i hk b1 b2 prog w A R s h;obtain⟨hl,hb,h⟩:=h
  wp_walk using wpAny_listItems hl rfl,wpAny_listItems hb rfl
  have e1:items[i]?=uD:=Array.getElem?_eq_none (by lia)
  have jW:ns[i]?=uD:=by
   rcases zbW_ hi i with⟨_,z⟩|⟨a,t,z,_⟩
   ·exact z
   ·rw[ml,e1]at z;cases z
  rw[pS,e1];rw[zcF_ jW]at h;rcases zbW_ hj i with⟨z1,z2⟩|⟨c,u,z1,z2⟩
  ·rw[ml]at z1
   rw[z1];rw[zcF_ z2]at h
   wp_walk using wpAny_listItems hl rfl,wpAny_listItems hb rfl
   show R (.ok (.ret (.bool (decide (items.size<ah.size))))) s
   have z1:=oA.mp z1;rw[decide_eq_false (by lia)];exact h
  ·rw[ml]at z1
   rw[z1];rw[zbs_ z2]at h
   wp_walk using wpAny_listItems hl rfl,wpAny_listItems hb rfl
   show R (.ok (.ret (.bool (decide (items.size<ah.size))))) s
   have z3:=(nC.mp z1).1;rw[decide_eq_true (by lia)];exact h
 |succ k ih=>
  intro i hk b1 b2 prog w A R s h;obtain⟨hl,hb,h⟩:=h
  wp_walk using wpAny_listItems hl rfl,wpAny_listItems hb rfl
  rw[pS];rcases zbW_ hi i with⟨z1,z2⟩|⟨a,t,z1,z2⟩
  ·rw[ml]at z1
   rw[oA]at z1;lia
  rw[ml]at z1;rw[z1];rw[zbs_ z2]at h;rcases zbW_ hj i with⟨y1,y2⟩|⟨c,u,y1,y2⟩
  ·rw[ml]at y1
   rw[y1];rw[zcF_ y2]at h
   wp_walk using wpAny_listItems hl rfl,wpAny_listItems hb rfl
   show R (.ok (.ret (.bool (decide (items.size<ah.size))))) s
   have z3:=(nC.mp z1).1;have y3:=oA.mp y1;rw[decide_eq_false (by lia)];exact h
  rw[ml]at y1;rw[y1];rw[zbs_ y2,HT.lexLt_cons]at h;obtain⟨e,he,hiff⟩:=HT.eqAt_int A.in1 s a t c u;refine kr (he prog w _ _ ?_);cases e with
  |true=>
   rw[if_pos (hiff.mp rfl)]at h
   wp_walk
   refine⟨zdj_ _,codeAny_builtin zgb_ ?_⟩;rw[zde_];have q1:=(nC.mp z1).1;have q2:=(nC.mp y1).1;exact ih (i+1) (by lia) (by lia) (by lia) prog w A R s ⟨hl,hb,h⟩
  |false=>
   rw[if_neg (λq=>absurd (hiff.mpr q) mh)]at h
   have jj:=HT.rcLt_int A.in1 s a t c u prog w
   wp_walk using wpAny_listItems hl rfl,wpAny_listItems hb rfl
   rw[z1,y1]
   wp_walk using jj
   exact h
theorem zb9_ (l b:kz)(items ah:Array aU)(n n2:Nat)(dd bY:Option kz)(sl bJ:Array (Option aU))(ns ms:List Int)(hi:IntsAre items.toList ns)(hj:IntsAre ah.toList ms):
  Meets (rm.«list.__lt__» ⟨[.ref l,.ref b],[]⟩)
   (λ_ R s=>s.heap.get? l=uC {cls:=.type "list",dict:=dd,data:=.seq items n,slots:=sl}/\s.heap.get? b=uC {cls:=.type "list",dict:=bY,data:=.seq ah n2,slots:=bJ} /\
    R (.ok (.ret (.bool (HT.lexLt ns ms)))) s):=by
 intro prog w A R s h;obtain⟨hl,hb,h⟩:=h;have f2:=AutoSeq1.sub_list_list
 wp_walk using wpAny_loadPart' hl,wpAny_loadPart' hb
 refine⟨zdj_ _,codeAny_builtin zgb_ ?_⟩;rw[zde_];exact zeC_ l b items ah n n2 dd bY sl bJ ns ms hi hj _ 0 rfl (l5 _) (l5 _) prog w A R s ⟨hl,hb,h⟩
theorem zfo_ {prog:lF}{w:lW}{A:lY}{E:aU->kn->Prop}{s:kn}{l b:kz}{items ah:Array aU}{ns ms:List Int}{Q:aU->kn->Prop}(hl:s.heap.IsList l items)(hb:s.heap.IsList b ah)(hi:IntsAre items.toList ns)(hj:IntsAre ah.toList ms)
  (hu:A.units<cLine) (h:Q (.bool (HT.lexLt ns ms)) s):lC (model prog w) A (lp .Lt (.ref l) (.ref b)) Q E s:=by
 obtain⟨⟨cls,dd,data,sl⟩,ho,hc,n,hd⟩:=id hl;obtain⟨⟨e_,bY,data2,bJ⟩,bx,a8,n2,hd2⟩:=id hb;simp only at hc hd a8 hd2;subst hc hd a8 hd2
 exact richCompare_meets_room (op:=.Lt) ⟨_,ho,rfl⟩ ⟨_,bx,rfl⟩ px qq (qk _ _) (zb9_ l b items ah n n2 dd bY sl bJ ns ms hi hj)
  ⟨ho,bx,show oh (HT.lexLt ns ms)≠Value.notImplemented/\Q (.bool (HT.lexLt ns ms)) s from⟨(λx=>nomatch x),h⟩⟩ hu
def mLtK (K:Fgg):R2:=λx y H Q=>match x,y with
 |.ref a,.ref b=>∃ns ms,SqL K H a (ns.map V.int)/\SqL K H b (ms.map V.int)/\Q (.bl (HT.lexLt ns ms)) H
 |_,_=>mLtS x y H Q
theorem zoN_ {X:Cx}(hu:X.A.units+60<cLine):OpR X (lp .Lt) (mLtK X.K):=by
 intro pins s σ H x y v u Q I rx ry h
 cases x<;>cases y<;>first
  |exact zlQ_ pins s σ H _ _ v u Q I rx ry h
  | (obtain⟨ns,ms,ha,hb,q⟩:=h
     cases rx;cases ry;obtain⟨aa,r1,p1,_⟩:=I.list ha;obtain⟨aj,r2,p2,_⟩:=I.list hb;have i1:IntsAre aa.toArray.toList ns:=zbU_ r1;have i2:IntsAre aj.toArray.toList ms:=zbU_ r2;exact zfo_ p1.isList p2.isList i1 i2 (by lia) ⟨.bl (HT.lexLt ns ms),H,I,rfl,q⟩)
section
variable {α:Type}
theorem znF_ {n d:Nat}{i:Int}(h:0<=i):HT.sIx n d (uC i)=min i.toNat n:=by
 unfold HT.sIx;simp only;split<;>lia
theorem zjy_ {xs:List α}{i:Int}(h:0<=i):cutG xs uD (uC i)=xs.take i.toNat:=by
 unfold cutG;rw[znF_ h,show HT.sIx xs.length 0 uD=0 from rfl,qA,tF,<- List.take_take,List.take_length]
theorem zeV_ {xs:List α}{i:Int}(h:0<=i):cutG xs (uC i) uD=xs.drop i.toNat:=by
 unfold cutG;rw[znF_ h,show HT.sIx xs.length xs.length uD=xs.length from rfl]
 by_cases hl:i.toNat<=xs.length
 ·rw[se hl,oj (by rw[mC];exact kx _)]
 ·rw[Nat.min_eq_right (by lia),p6,qj (by lia),qN]
theorem zfc_ {xs:List α}{q:Int×α}(h:q∈enumL xs):∃i:Nat,i<xs.length/\q.1=i/\xs[i]?=uC q.2:=by
 obtain⟨i,hi,e⟩:=qB.mp h;rw[zy_]at hi;have:=zbQ_ xs i;rw[km (by rw[zy_];exact hi),e]at this
 refine⟨i,hi,?_⟩;cases e2:xs[i]? with
 |none=>rw[e2]at this;cases this
 |some x=>rw[e2]at this;injection this with this;rw[this];exact⟨rfl,rfl⟩
end
noncomputable def repL {α:Type}(xs:List α)(n:Int):List α:=(kY n.toNat xs).flatten
def CRep (m:Nat)(n:Int):Prop:=0<=n/\n<=100000/\m<=100000/\m*n.toNat<=100000
noncomputable instance (m:Nat) (n:Int):Decidable (CRep m n):=inferInstanceAs (Decidable (_/\_))
def mMulX:R2:=λx y H Q=>match x,y with
 |.int i,.int j=>IntMulOk i j/\Q (.int (i*j)) H
 |.str z,.int n=>CRep z.cps.toList.length n/\Q (tx (repL z.cps.toList n)) H
 |.ref l,.int k=>∃xs,H l=uC (.lst xs)/\CRep xs.length k/\∀p,H p=uD->Q (.ref p) (upd H p (.lst (repL xs k)))
 |_,_=>False
theorem zjd_ (z:Array Nat)(n:Nat):(qg (λx1 x2=>x1++x2) #[] (kY n z)).toList=(kY n z.toList).flatten:=by
 have:∀(l:List (Array Nat)) (acc:Array Nat),(l.foldl (λx1 x2=>x1++x2) acc).toList=acc.toList++(l.map pH).flatten:=by
  intro l;induction l with
  |nil=>intro acc;simp
  |cons a l ih=>intro acc;rw[pB,ih];simp
 rw[this];simp
theorem zlW_ {X:Cx}:OpR X (nj .Mult) mMulX:=by
 intro pins s σ H x y v u Q I rx ry h
 cases x<;>cases y<;>first
  |exact h.elim
  |exact znv_ pins s σ H _ _ v u Q I rx ry h
  | (obtain⟨xs,hl,⟨c1,c2,c3,c4⟩,q⟩:=h
     exact zqM_ pins s σ H _ _ v u Q I rx ry ⟨_,_,xs,rfl,rfl,hl,by lia,by lia,zbi_ c4,q⟩)
  | (rename_i z n
     obtain⟨⟨c1,c2,c3,c4⟩,q⟩:=h;obtain⟨t,rfl⟩:=rx;obtain⟨t',rfl⟩:=ry;have hz:z.length=z.cps.toList.length:=by simp[m4]
     refine PySem.P.mul_str (by simp;lia) (λh1 h2=>?_) (λh1 h2=>?_) ?_
     ·rw[hz]
      have hn:0<n:=by lia
      have:(z.cps.toList.length:Int)*n<=2 ^ 63-1:=by
       have e:n=(n.toNat:Int):=by lia
       rw[e,<- Int.natCast_mul];lia
      have:=Int.le_ediv_of_mul_le hn this;lia
     ·unfold pF
      rw[hz];have:=zbi_ c4;exact decide_eq_false (by lia)
     ·by_cases h1:n<1
      ·rw[if_pos h1]
       have:n=0:=by lia
       subst this;exact⟨l5 _,tx [],H,I.tok _,⟨_,rfl⟩,q⟩
      ·rw [if_neg h1]
       by_cases h2:(n == 1 ||z.length == 0)=uE
       ·rw[if_pos h2]
        have e:repL z.cps.toList n=z.cps.toList:=by
         unfold repL;rw[nO]at h2;rcases h2 with h2 |h2
         ·have:n=1:=by simpa using h2
          subst this;simp
         ·have:z.cps.toList=[]:=l9.mp (by rw[<- hz];simpa using h2)
          rw[this];simp
        rw[e]at q;refine⟨tx z.cps.toList,H,I,⟨t,?_⟩,q⟩;show oT z t=oT ⟨z.cps.toList.toArray⟩ t
        rw[<- zas_]
       ·rw[if_neg h2]
        refine⟨?_,tx (repL z.cps.toList n),H,I.tok _,⟨s.toks,?_⟩,q⟩
        ·have e:(⟨qg (λx1 x2=>x1++x2) #[] (kY n.toNat z.cps)⟩:Str).length=(kY n.toNat z.cps.toList).flatten.length:=by
          rw[<- zjd_];simp[m4]
         rw[e,zi4_];exact zbi_ (by rw[rg];exact c4)
        show oT _ _=oT _ _
        congr 1;unfold repL;rw[<- zjd_])
section
variable {α:Type}{H:Hp}{T:Ty α}
theorem zoh_ {xs:List α}{vs:List V}(hr:Prs T H xs vs)(n:Int):Prs T H (repL xs n) (repL vs n):=by
 unfold repL;induction n.toNat with
 |zero=>exact .nil
 |succ m ih=>rw[mE,mE,nS,nS];exact hr.append ih
noncomputable def strsL (l:List (List Nat)):List Str:=l.map λz=>⟨z.toArray⟩
end
section
variable {κ:Type}
variable [DecidableEq κ]
end
section
variable {κ:Type}[DecidableEq κ]
end
section
end
theorem zgn_:∀(w m n:Nat),m<10 ^ w->n<10 ^ w->digs w m=digs w n->m=n
 |0,m,n,h1,h2,_=>by simp at h1 h2;lia
 |w+1,m,n,h1,h2,h=>by
  rw[zb3_,zb3_]at h;injection h with a b;have hm:m / 10 ^ w<10:=by rw[o8 (qC (by decide))];rw[oV]at h1;lia
  have hn:n / 10 ^ w<10:=by rw[o8 (qC (by decide))];rw[oV]at h2;lia
  rw[rJ hm,rJ hn]at a;have a':m / 10 ^ w=n / 10 ^ w:=by lia
  have b':digs w (m % 10 ^ w)=digs w (n % 10 ^ w):=by rw[zeb_,zeb_];exact b
  have:=zgn_ w (m % 10 ^ w) (n % 10 ^ w) (sy _ (qC (by decide))) (sy _ (qC (by decide))) b'
  rw[<- qo m (10 ^ w),<- qo n (10 ^ w),a',this]
section
end
end L2
namespace Att
open PySem PySem.W PySem.Calls PyProof.Rows
theorem zkm_ {ns:List Int}(h:WData.layableAll [WData.list (ns.map WData.int)]=uE):∀x∈ns,oM x<=1048576:=by
 intro x hx;have h1:=layableW_arg h _ (lQ.mpr rfl);have h2:=layableW_item h1 (.int x) (my.mpr ⟨x,hx,rfl⟩);exact PyData.bits_of_layable (layable_int h2)
theorem attach_callB {l:OpenLaw}{n:Nat}{q:lF}{loose:List Str}{XP:(Str->Option aU)->Heap->Prop}{YP:lW->Heap->Prop}{d:DefRec}
  (hn:l.most=uC n) (eJ:d.params.defaults=[])
  (call:∀(w:lW) (s₀ ab:kn) (mg mb:Str->Option aU) (fa:kz) (o:sX) (pm cd doc:aU) (a:kz) (vs:List aU) (ns:List Int),
   (∀x∈ns,oM x<=1048576) ->
   Ground q loose [] XP w s₀ mg mb ab.heap->YP w ab.heap ->
   ab.heap.get? fa=uC o->o.data=.func (docDef d.name d.params d.body d.scope pm cd doc)->ab.heap.CodeRec cd d.name->mg d.name=uC (.ref fa) ->
   ab.heap.get? a=uC {cls:=.type "list",data:=.seq vs.toArray}->IntsAre vs ns->ns.length<=n->ab.gens=#[] ->
   codeAny (model l.prog w) callerA (.call (.ref fa) ⟨[.ref a],[]⟩) (λr s'=>r=.ok (.ret (.bool uE))/\OldK ab.heap s'.heap/\s'.os=ab.os/\AllBare s'.gens) ab):
  WalkO q loose XP YP l.row.toRowW d [] (λf vs=>sG f vs):=by
 intro w s₀ ab mg mb G Y fa o pm cd doc dV kV ho hd av hD d8 hg args vals as cz gy ka gf iw;obtain rfl:dV=.none:=Dflts.none hD eJ;obtain rfl:kV=.none:=Dflts.noKw hD;obtain⟨a,vs,ns,rfl,rfl,cZ,hints,hlen⟩:=ziz_ hn cz gf;refine enter_call (codeAny_mono (call w s₀ ab mg mb fa o pm cd doc a vs ns (zkm_ gy) G Y ho (fd_plain hd) av d8 cZ hints hlen hg) λr s' hq=>?_)
 obtain⟨rfl,h2,h3,h4⟩:=hq;exact⟨.inl ⟨.bool uE,.bool uE,[],rfl,λ_=>rfl,.bool uE,zin_ l _,λ_=>⟨uz,λ_ hm=>(nomatch hm)⟩⟩,h2,h3,h4⟩
end Att
namespace L2
open PySem PySem.Spec PyProof.Rows
theorem zll_ {l:tj}{n k:Nat}{q:lF}{loose:List Str}{XP:(Str->Option aU)->Heap->Prop}{YP:lW->Heap->Prop}{d:DefRec}{K:Params->Fgg}{CX:lW->CXT}{sp:lW->Sp}{x:Str}
  (hn:l.most=uC n) (fD:n<=kR) (eJ:d.params.defaults=[]) (hr:Room k callerA) (bU:∀p,lamOk q (K p)=uE)
  (hY:∀(w:lW) (h:Heap),YP w h->(K w.params).In h)
  (F:∀(w:lW) (mg:Str->Option aU) (fa:kz) (h:Heap),(K w.params).In h->h.Ns lh mg->mg d.name=uC (.ref fa) ->
   ∃fd:mz,(∀(s:kn) (u:aU),BindsTo s fd ⟨[u],[]⟩ [(x,u)]) /\
    ∀base:Heap,(K w.params).In base->base.Ns lh mg->FnOk l.prog w (K w.params) mg base (CX w) k fa fd [x] (sp w))
  (dB:∀(w:lW) (H:Hp) (a:kz) (ns:List Int),ns.length<=n->(∀x∈ns,oM x<=1048576)->Only H->SqL (K w.params) H a (ns.map V.int)->sp w [.ref a] H (λv _=>v=.bl uE) λ_ _ _=>False)
  (gP:∀(w:lW) (H:Hp) (s:kn) (e:aU) (s':kn),CX w [] H s (λ_ _ _=>False) e s'->False):
  W.WalkO q loose XP YP l.row.toRowW d [] (λf vs=>sG f vs):=by
 refine Att.attach_callB hn eJ λw s₀ ab mg mb fa o pm cd doc a vs ns eO G Y ho hd av d8 cZ hints hlen hg=>?_
 have KX:=hY w _ Y;obtain⟨fd,hb,hF⟩:=F w mg fa _ KX G.T.g d8;exact zkH_ KX G.T.g G.T.b G.T.builtins G.T.nolimit G.T.bmain hg cZ hints (mG hlen fD) hr hF hb (λH hO hS=>dB w H a ns hlen eO hO hS) (λH e s'=>gP w H ab e s') (znb_ G.T KX (bU _))
abbrev BitsOk (ns:List Int):Prop:=∀x∈ns,oM x<=1048576
open PySem PySem.Spec PyProof.Rows PySem.W
section
variable {α β:Type}
def okT (lt:Nat->Nat->Bool)(n:Nat):KasT α->(α->Prop)->Prop
 |.ret a,P=>P a
 |.ask i j k,P=>i<n/\j<n/\okT lt n (k (lt i j)) P
variable {lt:Nat->Nat->Bool}{n:Nat}
theorem zby_ {f:α->KasT β}{P:β->Prop}:∀(t:KasT α),okT lt n t (λa=>okT lt n (f a) P)->okT lt n (t.bind f) P
 |.ret _,h=>h
 |.ask i j k,h=>⟨h.1,h.2.1,zby_ (k (lt i j)) h.2.2⟩
theorem zaZ_ {P Q:α->Prop}(hq:∀a,P a->Q a):∀(t:KasT α),okT lt n t P->okT lt n t Q
 |.ret _,h=>hq _ h
 |.ask i j k,h=>⟨h.1,h.2.1,zaZ_ hq (k (lt i j)) h.2.2⟩
theorem znZ_ {prog:lF}{w:lW}{A:lY}{κ:SortKind}{vs:List aU}{s:kn}{P:α->Prop}{Q:α->kn->Prop}
  (cm:∀i j (C:Bool->kn->Prop),i<n->j<n->C (lt i j) s->kas_ask prog w A κ vs i j C s) (hq:∀a,P a->Q a s):∀t:KasT α,okT lt n t P->t.kasWp (kas_ask prog w A κ vs) Q s
 |.ret a,h=>hq a h
 |.ask i j k,h=>cm i j (λb s'=>(k b).kasWp (kas_ask prog w A κ vs) Q s') h.1 h.2.1 (znZ_ cm hq (k (lt i j)) h.2.2)
structure WOr (lt:Nat->Nat->Bool):Prop where
 asym:∀{a b},lt a b=uE->lt b a=uF
 tr:∀{a b c},lt b a=uF->lt c b=uF->lt c a=uF
abbrev le (lt:Nat->Nat->Bool)(a b:Nat):Prop:=lt b a=uF
theorem WOr.refl (w:WOr lt)(a:Nat):le lt a a:=by
 cases h:lt a a with
 |false=>exact h
 |true=>exact w.asym h
abbrev Pm (p:Array Nat)(n:Nat):Prop:=p.toList.Perm (lG n)
theorem zbj_ {p:Array Nat}(h:Pm p n):p.size=n:=by have:=h.length_eq;rwa[lZ,mm]at this
theorem zhb_ {p:Array Nat}(h:Pm p n){i:Nat}(hi:i<n):p.getD i 0<n:=by
 have hs:=zbj_ h;have:p.getD i 0=p[i]'(by lia):=by simp[qY,hs,hi]
 rw[this];exact lO.mp (h.mem_iff.mp (by simp))
theorem zap_ {p q:Array Nat}{i j:Nat}(h:p[i]?=q[j]?):p.getD i 0=q.getD j 0:=by
 rw[mP,mP,h]
theorem zgW_ {p:Array Nat}(h:Pm p n)(i j:Nat):Pm (kas_rev p i j) n:=(pL.mp (mirror_perm p i j _)).trans h
theorem zb1_ {p:Array Nat}{i j:Nat}(hj:j<=p.size)(k:Nat):(kas_rev p i j).getD k 0=if i<=k/\k<j then p.getD (i+j-1-k) 0 else p.getD k 0:=by
 have:=getElem?_mirror_all (xs:=p) (i:=i) hj k;split
 ·rename_i q;rw[if_pos q]at this;exact zap_ this
 ·rename_i q;rw[if_neg q]at this;exact zap_ this
end
section
end
theorem zeQ_ {ys:List V}{us:List aU}(r:Vals ys us){i:Nat}(h:i<us.length):∃y,ys[i]?=uC y/\RelV y (us.getD i mR)/\y∈ys:=by
 have hl:=Vals.length r;have e:ys[i]?=uC ys[i]:=km (by omega)
 obtain⟨u,eu,ru⟩:=Vals.get r e;refine⟨_,e,?_,mD _⟩;rw[kE,eu];exact ru
theorem zhw_ {ys:List V}{us:List aU}(r:Vals ys us):∀(idx:List Nat),(∀i∈idx,i<us.length)->Vals (idx.map λi=>ys.getD i .non) (idx.map λi=>us.getD i mR)
 |[],_=>.nil
 |i::idx,h=>by
  obtain⟨y,e,ry,_⟩:=zeQ_ r (h i (lA ..));refine .cons ?_ (zhw_ r idx λj hj=>h j (lu _ hj))
  show RelV (ys.getD i V.non) _
  rw[kE,e];exact ry
section
variable {α:Type}
structure LOr (lt:α->α->Bool):Prop where
 asym:∀{a b},lt a b=uE->lt b a=uF
 tr:∀{a b c},lt b a=uF->lt c b=uF->lt c a=uF
 anti:∀{a b},lt a b=uF->lt b a=uF->a=b
noncomputable def srtL (lt:α->α->Bool)(xs:List α):List α:=xs.mergeSort (λa b=>!lt b a)
theorem zbN_ (lt:α->α->Bool)(xs:List α):(srtL lt xs).Perm xs:=List.mergeSort_perm _ _
theorem zcw_ {lt:α->α->Bool}(o:LOr lt)(xs:List α):(srtL lt xs).Pairwise λa b=>lt b a=uF:=by
 have:=List.pairwise_mergeSort (le:=λa b=>!lt b a) (λa b c h1 h2=>by simp only[pR]at *;exact o.tr h1 h2) (λa b=>by
  cases h:lt b a with
  |false=>simp
  |true=>simp[o.asym h]) xs
 exact this.imp (λh=>by simpa using h)
theorem zfZ_ {lt:α->α->Bool}(o:LOr lt):∀{ws ys:List α},ws.Perm ys->ws.Pairwise (λa b=>lt b a=uF)->ys.Pairwise (λa b=>lt b a=uF)->ws=ys
 |[],ys,hp,_,_=>by rw[List.Perm.nil_eq hp]
 |w::ws,[],hp,_,_=>by have:=hp.length_eq;simp at this
 |w::ws,y::ys,hp,h1,h2=>by
  obtain⟨a1,a2⟩:=qZ.mp h1;obtain⟨b1,b2⟩:=qZ.mp h2;have e:w=y:=by
   have m1:w∈y::ys:=hp.mem_iff.mp (lA ..);have m2:y∈w::ws:=hp.mem_iff.mpr (lA ..);rcases k9.mp m1 with e |m1
   ·exact e
   ·rcases k9.mp m2 with e |m2
    ·exact e.symm
    ·exact o.anti (b1 w m1) (a1 y m2)
  subst e;rw[zfZ_ o (List.Perm.cons_inv hp) a2 b2]
theorem zbP_ {lt:α->α->Bool}(o:LOr lt){ws xs:List α}(hp:ws.Perm xs)(hs:ws.Pairwise λa b=>lt b a=uF):ws=srtL lt xs:=
 zfZ_ o (hp.trans (zbN_ lt xs).symm) hs (zcw_ o xs)
noncomputable def ltI (a b:Int):Bool:=decide (a<b)
theorem znD_:LOr ltI:=by
 unfold ltI;refine⟨λh=>?_,λh h'=>?_,λh h'=>?_⟩<;>simp only[decide_eq_true_eq,decide_eq_false_iff_not]at*<;> lia
end
end L2
universe u
namespace L2
open PySem PySem.Spec PyProof.Rows
section
end
open PySem PySem.Spec PyProof.Rows PySem.W
section
variable {prog:lF}{w:lW}{A:lY}{E:aU->kn->Prop}{s:kn}{T:String}{rr dd:kz}{n:Nat}{PP:Nat->aU->Prop}{OK:Heap->Prop}
theorem zle_ {R:List aU->kn->Prop}(Kd:KdlSrc prog w T rr dd n PP OK)(hh:A.handled=uD)(hok:OK s.heap)(hn:n<=kR)
  (hR:∀(h':Heap) (tk:Nat) (acc:Array aU),s.heap.objs.size<h'.objs.size->(∀b o,s.heap.get? b=uC o->h'.get? b=uC o)->ItemsOf PP acc n->R acc.toList {s with heap:=h',toks:=tk}):
  lC (model prog w) A (collect (.ref rr)) R E s:=by
 obtain⟨lr,ld⟩:=Kd.there _ hok;unfold collect;refine kr (wpAny_runValue (codeAny_builtin entry_proto_collect' ?_));rw[Around.under_plainId PySem.F.plain_proto_collect _];show lC _ A.in1 (newList []>>=λl=>again (.builtin "list.__iadd__" ⟨[l,.ref rr],[]⟩)) _ _ s;refine kr (wpAny_newObj_type ?_)
 refine lj ⟨plainId_quiet p7 _,codeAny_builtin entry_list_iadd' ?_⟩;rw[Around.under_plainId p7 _];have h0:(s.heap.push {cls:=.type "list",data:=.seq ([]:List aU).toArray}).get? s.heap.objs.size=uC {cls:=.type "list",data:=.seq #[]}:=ll _ rfl;show lC _ A.in1 (sr (.ref s.heap.objs.size) (.ref rr) (.ref s.heap.objs.size)) _ _ _
 have key:=kdl_extend (A:=A) (s:={s with heap:=s.heap.push {cls:=.type "list",data:=.seq ([]:List aU).toArray}})
  (R:=λ(q:Result) (s':kn)=>∃(h':Heap) (tk:Nat) (acc:Array aU) (c:Nat),q=.ok (.ret (.ref s.heap.objs.size))/\s'={s with heap:=h',toks:=tk}/\(∀b o,s.heap.get? b=uC o->h'.get? b=uC o)/\h'.get? s.heap.objs.size=uC {cls:=.type "list",dict:=uD,data:=.seq acc c,slots:=#[]}/\ItemsOf PP acc n)
  Kd hh (Kd.keep _ _ hok λb _ o e=>kq _ e) s.heap.objs.size (oE lr) (oE ld) (.ref s.heap.objs.size) 0 h0
  (λh' tk acc c hk hS aD=>⟨h',tk,acc,c,rfl,rfl,λb o e=>hk b o (lB (kJ e)) (kq _ e),hS,aD⟩) hn
 refine mF key (λfin s' x=>?_) λe s' x=>?_
 ·cases fin with
  |done f=>
   obtain⟨h',tk,acc,c,e,rfl,hk,hS,aD⟩:=x;cases e;show lC _ A (load s.heap.objs.size>>=_) _ _ _
   exact kr (wpAny_load hS (lj (hR h' tk acc (kJ hS) hk aD)))
  |again c1=>
   refine⟨x.1,codeAny_mono x.2 λq s2 y=>?_⟩;obtain⟨h',tk,acc,c,rfl,rfl,hk,hS,aD⟩:=y
   show lC _ A (load s.heap.objs.size>>=_) _ _ _;exact kr (wpAny_load hS (lj (hR h' tk acc (kJ hS) hk aD)))
 ·obtain⟨_,_,_,_,e',_⟩:=x;cases e'
end
section
theorem is_kV {P:lF}{w:lW}{k:Key}{u:aU}(h:(mixKind P w).is k u=uE):RelV (kV k) u:=by
 rw[zgY_]at h;rcases zp_ h with⟨i,t,rfl,rfl⟩|⟨x,t,rfl,rfl⟩<;>exact⟨_,rfl⟩
end
section
variable {α:Type}
def OwAll (O:Own α)(F:Hp):List α->List V->Hp->Prop
 |[],[],h=>∀p,h p=uD
 |x::xs,v::vs,h=>∃h1 h2,Jn h1 h2 h/\O.O x v F h1/\OwAll O F xs vs h2
 |_,_,_=>False
variable {O:Own α}
theorem OwAll.mono:∀{xs:List α}{vs:List V}{F F' h:Hp},Same F F'->OwAll O F xs vs h->OwAll O F' xs vs h
 |[],[],_,_,_,_,q=>q
 |x::xs,v::vs,F,F',h,g,q_=>by obtain⟨h1,h2,j,o,r⟩:=q_;exact⟨h1,h2,j,O.mono g o,r.mono g⟩
 |[],_::_,_,_,_,_,q=>q.elim
 |_::_,[],_,_,_,_,q=>q.elim
theorem OwAll.notup:∀{xs:List α}{vs:List V}{F h:Hp},OwAll O F xs vs h->∀p ys,h p≠uC (.tup ys)
 |[],[],_,_,q,p,ys=>by rw[q p];exact λz=>by cases z
 |x::xs,v::vs,F,h,q_,p,ys=>by
  obtain⟨h1,h2,j,o,r⟩:=q_;rcases j p with⟨_,b⟩|⟨_,b⟩
  ·rw[b];exact r.notup p ys
  ·rw[b];exact O.notup o p ys
 |[],_::_,_,_,q,_,_=>q.elim
 |_::_,[],_,_,q,_,_=>q.elim
theorem OwAll.len:∀{xs:List α}{vs:List V}{F h:Hp},OwAll O F xs vs h->xs.length=vs.length
 |[],[],_,_,_=>rfl
 |x::xs,v::vs,F,h,q_=>by obtain⟨h1,h2,j,o,r⟩:=q_;rw[kZ,kZ,r.len]
 |[],_::_,_,_,q=>q.elim
 |_::_,[],_,_,q=>q.elim
theorem zhy_ {F h1 h:Hp}(d:Dj F h)(s:Same h1 h):Same (un F h1) (un F h):=λp o e=>by
 unfold un at e ⊢;cases z:F p with
 |some w=>rw[z]at e;exact e
 |none=>rw[z]at e;exact s _ _ e
theorem OwAll.prs:∀{xs:List α}{vs:List V}{F h G:Hp},Dj F h->Same (un F h) G->OwAll O F xs vs h->Prs O.fr G xs vs
 |[],[],_,_,_,_,_,_=>.nil
 |x::xs,v::vs,F,h,G,d,g,q_=>by
  obtain⟨h1,h2,j,o,r⟩:=q_;have d1:Dj F h1:=λp=>by
   rcases d p with z |z
   ·exact .inl z
   ·exact .inr (j.l.free z)
  have d2:Dj F h2:=λp=>by
   rcases d p with z |z
   ·exact .inl z
   ·exact .inr (j.r.free z)
  exact .cons (O.fr.mono ((zhy_ d j.l).trans g) (O.frz d1 o)) (r.prs d2 ((zhy_ d j.r).trans g))
 |[],_::_,_,_,_,_,_,q=>q.elim
 |_::_,[],_,_,_,_,_,q=>q.elim
theorem zac_ {h1 h2 h:Hp}(j:Jn h1 h2 h):Jn h2 h1 h:=λp=>by
 rcases j p with⟨a,b⟩|⟨a,b⟩
 ·exact .inr ⟨a,b⟩
 ·exact .inl ⟨a,b⟩
theorem zl_ {h1 h2 iI h3 h:Hp}(j:Jn h1 h2 iI)(k:Jn iI h3 h):∃iH,Jn h2 h3 iH/\Jn h1 iH h:=by
 have d:Dj h2 h3:=λp=>by
  rcases k.dj p with z |z
  ·exact .inl (j.r.free z)
  ·exact .inr z
 refine⟨un h2 h3,zao_ d,λp=>?_⟩
 unfold un;rcases k p with⟨a,b⟩|⟨a,b⟩
 ·refine .inl ⟨j.l.free a,?_⟩
  rw[j.r.free a];exact b
 ·rcases j p with⟨c,e⟩|⟨c,e⟩
  ·refine .inl ⟨c,?_⟩
   rw[b,e];cases z:h2 p with
   |none=>exact a.symm ▸ rfl
   |some w=>rfl
  ·refine .inr ⟨?_,by rw[b,e]⟩
   rw[c];exact a
theorem OwAll.snoc:∀{xs:List α}{vs:List V}{F h:Hp}{x:α}{v:V}{hn:Hp},OwAll O F xs vs h->O.O x v F hn->Dj h hn->OwAll O F (xs++[x]) (vs++[v]) (un h hn)
 |[],[],F,h,x,v,hn,q,o,d=>by
  refine⟨hn,λ_=>uD,λp=>.inr ⟨rfl,?_⟩,o,λ_=>rfl⟩
  unfold un;rw[q p]
 |y::xs,w::vs,F,h,x,v,hn,q_,o,d=>by
  obtain⟨h1,h2,j,o1,r⟩:=q_;obtain⟨m,jm,jh⟩:=zl_ j (zao_ d);have d2:Dj h2 hn:=jm.dj;have e:m=un h2 hn:=by
   funext p;unfold un;rcases jm p with⟨a,b⟩|⟨a,b⟩
   ·rw[a];exact b
   ·rw[b]
    cases z:h2 p with
    |none=>exact a.symm ▸ rfl
    |some w=>rfl
  rw[e]at jh;exact⟨h1,_,jh,o1,r.snoc o d2⟩
 |[],_::_,_,_,_,_,_,q,_,_=>q.elim
 |_::_,[],_,_,_,_,_,q,_,_=>q.elim
abbrev owLO (O:Own α):Own (List α):=⟨λxs v F h=>∃p vs h2,v=.ref p/\Jn (one p (.lst vs)) h2 h/\OwAll O F xs vs h2,tyL O.fr,λg ⟨p,vs,h2,e,j,q⟩=>⟨p,vs,h2,e,j,q.mono g⟩,
 λ{a v F h} d ⟨p,vs,h2,e,j,q⟩=>⟨p,vs,e,zd5_ d _ _ (j.l _ _ zq_),q.prs (λb=>by
  rcases d b with z |z
  ·exact .inl z
  ·exact .inr (j.r.free z)) (zhy_ d j.r)⟩,
 λ⟨p,vs,h2,e,j,q⟩ b xs y=>by
  rcases j b with⟨_,z⟩|⟨_,z⟩
  ·rw[z]at y;exact q.notup b xs y
  ·rw[z]at y;unfold one at y;split at y<;>cases y⟩
end
section
end
def mFld (C:kz)(te:TE)(f:Str):TE:=λσ H Q=>te σ H λx H1=>match x with
 |.ref a=>∃dx fs v,H1 a=uC (.ins C dx fs)/\fs.lookup f=uC v/\Q v H1
 |_=>False
def mSFld (C:kz)(te tv:TE)(f:Str):TS:=λD σ H=>tv σ H λy H1=>te σ H1 λx H2=>match x with
 |.ref a=>∃dx fs,H2 a=uC (.ins C dx fs)/\fs.length<1000/\D.nx σ (upd H2 a (.ins C dx (putF f y fs)))
 |_=>False
section
variable {X:Cx}{e value o:k8}{f x:Str}{pos pos':Pos}{ta tv:TE}{C:kz}
theorem zmZ_ (c:Cls X.K C)(n:NoAttr X.K C f)(he:PE X e ta)(hb:attributeBase e f X.env (eval e X.env)=eval e X.env:=by rfl):PE X (.Attribute e f pos) (mFld C ta f):=by
 intro pins s σ H Q I h;refine zmQ_ hb (thn (he pins s σ H _ I h) λu s1 af=>?_)
 obtain⟨x,H1,I1,rx,q1⟩:=af;cases x with
 |ref a=>
  obtain⟨dx,fs,v,ea,l,q⟩:=q1;obtain rfl:u=mw a:=rx;exact zgL_ I1 ea c n l λu' s2 I2 ru=>⟨v,H1,I2,ru,q⟩
 |_=>exact q1.elim
theorem zlO_ (c:Cls X.K C)(n:NoAttr X.K C f)(ha:PE X o ta)(hv:PE X value tv)(hs:swapsWith value (uC (.Attribute o f pos')) pos.line X.env=pure uF:=by rfl):PS X (.Assign [.Attribute o f pos'] value pos) (mSFld C ta tv f):=by
 intro pins s σ H D I h;refine plainObj_wpAny_Assign_Attribute (thn (hv pins s σ H _ I h) λu s1 ⟨y,H1,I1,ry,q⟩=>thn (ha pins s1 σ H1 _ I1 q) λov s2 af=>?_) hs
 obtain⟨x,H2,I2,rx,q2⟩:=af;cases x with
 |ref a=>
  obtain⟨dx,fs,ea,l,q3⟩:=q2;obtain rfl:ov=mw a:=rx;exact zgy_ I2 ea c n l ry λs3 I3=>⟨σ,_,I3,q3⟩
 |_=>exact q2.elim
end
theorem zfU_:∀{ns:List Str}{vs:List V}{f:Str}(v:V),f∉ns->vs.length=ns.length->putF f v (ns.zip vs)=(ns++[f]).zip (vs++[v])
 |[],[],f,v,_,_=>rfl
 |[],_::_,_,_,_,h=>by simp at h
 |_::_,[],_,_,_,h=>by simp at h
 |n::ns,w::vs,f,v,h,hl=>by
  have aZ:¬n=f:=λz=>h (z ▸ lA ..)
  rw[lM,putF,if_neg aZ,zfU_ v (λz=>h (lu _ z)) (by simpa using hl)];rfl
section
variable {α:Type}
theorem dj_l {F h1 h2 h:Hp}(d:Dj F h)(j:Jn h1 h2 h):Dj F h1:=λp=>by
 rcases d p with z |z
 ·exact .inl z
 ·exact .inr (j.l.free z)
theorem dj_r {F h1 h2 h:Hp}(d:Dj F h)(j:Jn h1 h2 h):Dj F h2:=λp=>by
 rcases d p with z |z
 ·exact .inl z
 ·exact .inr (j.r.free z)
def two (p dx:kz)(o:HO):Hp:=λq=>if q=p then uC o else if q=dx then uC (.own p)else uD
theorem zqP_ {p dx:kz}{o:HO}:two p dx o p=uC o:=if_pos rfl
noncomputable abbrev owAt (u:V)(O:Own α):Own α:=⟨λa v F h=>v=u/\O.O a v F h,O.fr,λg q=>⟨q.1,O.mono g q.2⟩,λd q=>O.frz d q.2,λq=>O.notup q.2⟩
theorem jn_re {b t m a h:Hp}(jm:Jn b t m)(j:Jn a m h):Jn t (un a b) h:=λq=>by
 rcases j q with⟨x,y⟩|⟨x,y⟩
 ·rcases jm q with⟨c,e⟩|⟨c,e⟩
  ·right
   refine⟨by unfold un;rw[x,c],by rw[y,e]⟩
  ·left
   refine⟨c,by unfold un;rw[x,y,e]⟩
 ·left
  refine⟨jm.r.free x,?_⟩;unfold un;rw[y];cases z:a q with
  |none=>exact(jm.l.free x).symm ▸ rfl
  |some w=>rfl
theorem dj_of {a b t m h:Hp}(jm:Jn b t m)(j:Jn a m h):Dj a b:=λq=>by
 rcases j.dj q with z |z
 ·exact .inl z
 ·exact .inr (jm.l.free z)
variable {F0 H0 F h H:Hp}
theorem zdt_ {k:Hp}(ok:Okk F0 H0 F h H)(s:Same k h):Okk F0 H0 F k H:=by
 refine⟨ok.1,λp=>?_,s.trans ok.2.2.1,λp z=>ok.2.2.2.1 p λy=>z (s.free y),λp xs z=>ok.2.2.2.2 p xs (s _ _ z)⟩
 rcases ok.2.1 p with z |z
 ·exact .inl z
 ·exact .inr (s.free z)
theorem zim_ {h:Hp}(p:kz)(z:h p≠uD):less H h p=uD:=by
 unfold less;cases y:h p with
 |none=>exact absurd y z
 |some w=>rfl
theorem znc_:Same (less H h) H:=λp o z=>by
 unfold less at z;split at z
 ·exact z
 ·cases z
theorem zbx_ (hs:Same F H)(dj:Dj F h)(hh:Same h H)(nt:∀p xs,h p≠uC (.tup xs)):Okk F (less H h) F h H:=by
 refine⟨⟨Same.refl _,hs,znc_,λp a b=>absurd a b⟩,dj,hh,λp z=>zim_ p z,nt⟩
end
section
variable {X:Cx}
def mTrL (K:Fgg)(t:TE):TT:=λσ H Q=>t σ H λx H'=>match x with
 |.bl k=>Q k H'
 |.ref a=>∃xs,SqL K H' a xs/\Q (!xs.isEmpty) H'
 |_=>False
theorem zpM_ {e:k8}{t:TE}(h:PE X e t)(he:∀whole,isTrue e X.env whole=(do let v <- whole;standAt e.pos;holding [v] (truthy v)):=by intro _;rfl):PT X e (mTrL X.K t):=by
 intro pins s σ H Q I hw;refine isTrue_plain (thn (h pins s σ H _ I hw) λv s1 af=>?_) (he _)
 obtain⟨x,H1,I1,r1,q1⟩:=af;cases x with
 |bl c=>cases r1;exact lR ⟨H1,I1,q1⟩
 |ref a=>
  cases r1;obtain⟨xs,hq,q⟩:=q1;obtain⟨aa,rv,p,hz⟩:=I1.list hq;have hl:=rv.length;refine wpAny_truthy_list p.isList (by rw[ky,<- hl];rw[sizeLine_eq]at hz;lia) ?_
  have e:aa.isEmpty=xs.isEmpty:=by cases rv<;>rfl
  refine⟨H1,I1.tok _,?_⟩
  simpa [e]using q
 |_=>exact q1.elim
end
section
variable {K:Fgg}{E:XK}{α β:Type}{F0 H0 F h:Hp}{L:List Sl}{e te:TE}{T:Ty α}{r:Mo α}{t:TS}{σ:St}{f m:Str}{i n w j:Nat}
theorem zlj_ {lv:List Str}{fr:List (Str×Nat)}{wi:TI}{g:TG}{tt:TT}{te:TE}{r:Mo (List α)}{ss:α->List (Nat×Sl)}{c:α->Mo Bool}{f:α->Mo β}{O':Own β}
  (hi:EvI K wi E L r T) (hg:TgR K g T ss) (hd:∀a,DeadAt (cL lv fr L) ((ss a).map (·.1))) (ht:∀a,EvT K tt E0 (setL (cL lv fr L) (ss a)) (c a)) (he:∀a,EvO K te E0 (setL (cL lv fr L) (ss a)) (f a) O'):
  EvO K (tComp lv fr wi g tt te) E L (r.bind λxs=>compM (λx=>cond1 (c x) (f x)) xs []) (owLO O'):=by
 intro σ F0 H0 Q hL hs q;refine hi σ F0 H0 _ hL hs (q.bind.imp λxs F1 H1 x1 k1 J Y D hD=>?_)
 have aw:=hL.mono x1.1
 refine⟨λi m ys ai H'=>m=xs.length-i/\i<=xs.length/\∃acc Fi hh,Ext F1 H1 Fi H'/\Fi D=uD/\hh D=uD/\H' D=uC (.lst ys)/\OwAll O' Fi acc ys hh/\Dj Fi hh/\Same hh H'/\(∀p,hh p≠uD->H1 p=uD)/\HoldF (cL lv fr L) ai F1/\ai.length=(cL lv fr L).length/\After K (compM (λx=>cond1 (c x) (f x)) (xs.drop i) acc) E F1 H1 (OwnK (owLO O') H0 Q),
  ⟨_,rfl,l5 _,[],F1,λ_=>uD,.heap x1.2.1 (zV_ hD _),x1.2.1.free hD,rfl,ze_,λ_=>rfl,λ_=>.inr rfl,(λp o z=>by cases z),λp z=>absurd rfl z,zgV_ aw,zk0_.symm,k1⟩,?_⟩
 rintro i m ys ai H' ⟨rfl,hi,acc,Fi,hh,xi,hDi,hDh,hy,hp,dj,sh,fresh,hσ,cA,A⟩;by_cases aA:i<xs.length
 ·right
  have ex:xs[i]?=uC xs[i]:=km aA;obtain⟨g1,g2⟩:=Y.go i H' xs[i] (xi.1.trans xi.2.1) ex;refine⟨g1,λcj cM fN=>i+1<=xs.length/\∃acc Fi hh,Ext F1 H1 Fi fN/\Fi D=uD/\hh D=uD/\fN D=uC (.lst cj)/\OwAll O' Fi acc cj hh/\Dj Fi hh/\Same hh fN/\(∀p,hh p≠uD->H1 p=uD)/\HoldF (cL lv fr L) cM F1/\cM.length=(cL lv fr L).length/\After K (compM (λx=>cond1 (c x) (f x)) (xs.drop (i+1)) acc) E F1 H1 (OwnK (owLO O') H0 Q),λcj cM fN z=>⟨xs.length-(i+1),by omega,rfl,z⟩,λv H2 i4=>?_⟩
  obtain⟨F2,x2,hv⟩:=g2 v H2 i4 Fi xi.1 xi.2.1;have keep:∀{Fa Ha Fb Hb:Hp},Ext Fa Ha Fb Hb->Fa D=uD->Ha D=uC (.lst ys)->Dj Fa hh->Same hh Ha->(Fb D=uD/\Hb D=uC (.lst ys))/\Dj Fb hh/\Same hh Hb:=by
   intro Fa Ha Fb Hb x h1 h2 h3 h4;refine⟨⟨?_,x.2.2.1 _ _ h2⟩,λp=>?_,h4.trans x.2.2.1⟩
   ·cases z:Fb D with
    |none=>rfl
    |some o=>have:=x.2.2.2 D h1 (by rw[z];exact sN _);rw[h2]at this;cases this
   ·cases y:hh p with
    |none=>exact .inr rfl
    |some w=>
     left;rcases h3 p with z |z
     ·cases zz:Fb p with
      |none=>rfl
      |some o=>have:=x.2.2.2 p z (by rw[zz];exact sN _);rw[h4 _ _ y]at this;cases this
     ·rw[z]at y;cases y
  obtain⟨⟨eX,hy2⟩,gU,sh2⟩:=keep x2 hDi hy dj sh;refine hg xs[i] v ai F2 H2 _ x2.2.1 hv λvs aT=>?_
  have f_:HoldF (cL lv fr L) ai F2:=hσ.mono (xi.1.trans x2.1);obtain⟨a1,a2,a3⟩:=zff_ aT cA.symm f_;have dW:HoldF (cL lv fr L) (setS ai vs) F1:=by
   have eL:=hd xs[i];refine λj s e=>?_
   by_cases hj:∃q∈(ss xs[i]).map (·.1),q=j
   ·obtain⟨q,hq,rfl⟩:=hj
    rw[eL q hq s e];trivial
   ·have:((setS ai vs)[j]?)=ai[j]?:=zkd_ aT (λhq=>hj ⟨j,hq,rfl⟩)
    rw[this];exact hσ j s e
  have eI:xs.drop i=xs[i]::xs.drop (i+1):=oJ aA;rw[eI]at A;unfold compM at A;cases ec:c xs[i]with
  |no=>unfold cond1 at A;rw[ec]at A;exact A.elim
  |ex cc=>unfold cond1 at A;rw[ec]at A;exact A.elim
  |ok bb=>
   refine ht xs[i] _ F2 H2 _ a1 x2.2.1 ?_;rw[ec];intro F3 H3 x3;obtain⟨⟨dE,hy3⟩,dj3,sh3⟩:=keep x3 eX hy2 gU sh2;have fO:=(xi.trans x2).trans x3;cases bb with
   |false=>
    rw[if_neg (by decide)]
    refine⟨aA,acc,F3,hh,fO,dE,hDh,hy3,hp.mono (x2.1.trans x3.1),dj3,sh3,fresh,dW,by rw[a2];exact cA,?_⟩
    unfold cond1 at A;rw[ec]at A;exact A
   |true=>
    rw[if_pos rfl];cases ef:f xs[i]with
    |no=>unfold cond1 at A;rw[ec,ef]at A;exact A.elim
    |ex cc=>unfold cond1 at A;rw[ec,ef]at A;exact A.elim
    |ok y=>
     unfold cond1 at A;rw[ec,ef]at A;have A':After K (Mo.lim (acc.length+1) (compM (λx=>cond1 (c x) (f x)) (xs.drop (i+1)) (acc++[y]))) E F1 H1 (OwnK (owLO O') H0 Q):=A
     obtain⟨hz,A'⟩:=A'.lim;refine he xs[i] _ F3 H3 _ (a1.mono x3.1) x3.2.1 ?_;rw[ef];intro F4 H4 x4 v4 hn gS gT iQ dA;obtain⟨⟨iG,hy4⟩,j4,sh4⟩:=keep x4 dE hy3 dj3 sh3;have hlen:=hp.len;have ir:hn D=uD:=by
      cases z:hn D with
      |none=>rfl
      |some w=>have:=gS D (by rw[z];exact sN _);rw[hy3]at this;cases this
     have jY:Dj hh hn:=λp=>by
      cases z:hn p with
      |none=>exact .inr rfl
      |some w=>exact .inl (sh3.free (gS p (by rw[z];exact sN _)))
     have ff:=fO.trans x4;refine⟨hy4,by omega,aA,acc++[y],F4,un hh hn,?_,iG,by unfold un;rw[hDh];exact ir,ze_,(hp.mono ((x2.1.trans x3.1).trans x4.1)).snoc dA jY,λp=>?_,λp o z=>?_,λp z=>?_,dW,by rw[a2];exact cA,A'⟩
     ·refine⟨ff.1,λb o z=>?_,λb o z=>?_,ff.2.2.2⟩
      ·unfold upd;split
       ·rename_i w;rw[w,iG]at z;cases z
       ·exact ff.2.1 _ _ z
      ·unfold upd;split
       ·rename_i w;rw[w,hD]at z;cases z
       ·exact ff.2.2.1 _ _ z
     ·unfold un
      cases z:hh p with
      |some w=>
       rcases j4 p with y |y
       ·exact .inl y
       ·rw[y]at z;cases z
      |none=>exact gT p
     ·have jl:p≠D:=λw=>by
       unfold un at z;rw[w,hDh,ir]at z;cases z
      unfold upd;rw[if_neg jl];unfold un at z;cases w:hh p with
      |some o'=>rw[w]at z;cases z;exact sh4 _ _ w
      |none=>rw[w]at z;exact iQ _ _ z
     ·unfold un at z
      cases w:hh p with
      |some o'=>exact fresh p (by rw[w];exact sN _)
      |none=>rw[w]at z;exact fO.2.2.1.free (gS p z)
 ·left
  have e:i=xs.length:=by omega
  subst e;refine⟨Y.stop H' (xi.1.trans xi.2.1),?_⟩;rw[p6]at A;have A':OwnK (owLO O') H0 Q acc Fi H':=A Fi H' xi;have dD:Dj (one D (.lst ys)) hh:=λp=>by
   unfold one;split
   ·rename_i w;rw[w];exact .inr hDh
   ·exact .inl rfl
  refine A' (.ref D) (un (one D (.lst ys)) hh) (λp z=>?_) (λp=>?_) (λp o z=>?_) ⟨D,ys,hh,rfl,zao_ dD,hp⟩
  ·unfold un one at z
   by_cases w:p=D
   ·rw[w];exact x1.2.2.1.free hD
   ·simp only[if_neg w]at z;exact x1.2.2.1.free (fresh p z)
  ·by_cases w:p=D
   ·rw[w];exact .inl hDi
   ·unfold un one;simp only[if_neg w];exact dj p
  ·unfold un one at z
   by_cases w:p=D
   ·simp only[if_pos w]at z;rw[w];cases z;exact hy
   ·simp only[if_neg w]at z;exact sh _ _ z
theorem jn_no {h1 h2 h:Hp}(j:Jn h1 h2 h)(n:∀p,h2 p=uD):h=h1:=funext λp=>by
 rcases j p with⟨a,b⟩|⟨_,b⟩
 ·rw[b,n,a]
 ·exact b
section
open PySem PySem.Spec PyProof.Rows PySem.W
end
theorem zY_ {α:Type}{us:List α}{n:Nat}(h:us.length=n+1):∃a t,us=a::t/\t.length=n:=by
 cases us with
 |nil=>cases h
 |cons a t=>exact⟨a,t,rfl,mK h⟩
theorem Fun.binds1 {x qual:Str}{st:lV}{f:kz}{fd:mz}{ps:List Str}(hp:ps.length=1)(F:Fun K x qual st f fd)(h:∀(kV doc pm:aU) (an:Option kz) (ae ct:aU) (ua:aU),bindArgs (W.fnOf x qual (defArgs st) (defBody st) (defScope st) .none kV doc pm an ae ct) ⟨[ua],[]⟩=pure (ps.zip [ua])):Binds K fd ps []:=by
 refine F.binds λkV doc pm an ae ct us hl=>?_
 have h0:=hl.trans hp;obtain⟨ua,t1,rfl,h1⟩:=zY_ h0;cases l9.mp h1;exact h kV doc pm an ae ct ua
theorem Fun.binds2 {x qual:Str}{st:lV}{f:kz}{fd:mz}{ps:List Str}(hp:ps.length=2)(F:Fun K x qual st f fd)(h:∀(kV doc pm:aU) (an:Option kz) (ae ct:aU) (ua ub:aU),bindArgs (W.fnOf x qual (defArgs st) (defBody st) (defScope st) .none kV doc pm an ae ct) ⟨[ua,ub],[]⟩=pure (ps.zip [ua,ub])):Binds K fd ps []:=by
 refine F.binds λkV doc pm an ae ct us hl=>?_
 have h0:=hl.trans hp;obtain⟨ua,t1,rfl,h1⟩:=zY_ h0;obtain⟨ub,t2,rfl,h2⟩:=zY_ h1;cases l9.mp h2;exact h kV doc pm an ae ct ua ub
theorem Fun.binds3 {x qual:Str}{st:lV}{f:kz}{fd:mz}{ps:List Str}(hp:ps.length=3)(F:Fun K x qual st f fd)(h:∀(kV doc pm:aU) (an:Option kz) (ae ct:aU) (ua ub uc:aU),bindArgs (W.fnOf x qual (defArgs st) (defBody st) (defScope st) .none kV doc pm an ae ct) ⟨[ua,ub,uc],[]⟩=pure (ps.zip [ua,ub,uc])):Binds K fd ps []:=by
 refine F.binds λkV doc pm an ae ct us hl=>?_
 have h0:=hl.trans hp;obtain⟨ua,t1,rfl,h1⟩:=zY_ h0;obtain⟨ub,t2,rfl,h2⟩:=zY_ h1;obtain⟨uc,t3,rfl,h3⟩:=zY_ h2;cases l9.mp h3;exact h kV doc pm an ae ct ua ub uc
theorem Fun.binds4 {x qual:Str}{st:lV}{f:kz}{fd:mz}{ps:List Str}(hp:ps.length=4)(F:Fun K x qual st f fd)(h:∀(kV doc pm:aU) (an:Option kz) (ae ct:aU) (ua ub uc ud:aU),bindArgs (W.fnOf x qual (defArgs st) (defBody st) (defScope st) .none kV doc pm an ae ct) ⟨[ua,ub,uc,ud],[]⟩=pure (ps.zip [ua,ub,uc,ud])):Binds K fd ps []:=by
 refine F.binds λkV doc pm an ae ct us hl=>?_
 have h0:=hl.trans hp;obtain⟨ua,t1,rfl,h1⟩:=zY_ h0;obtain⟨ub,t2,rfl,h2⟩:=zY_ h1;obtain⟨uc,t3,rfl,h3⟩:=zY_ h2;obtain⟨ud,t4,rfl,h4⟩:=zY_ h3;cases l9.mp h4;exact h kV doc pm an ae ct ua ub uc ud
end
section
end
section
variable {κ:Type}[DecidableEq κ]
end
section
end
def mSetD (td ty tz:TE):TE:=λσ H Q=>td σ H λx H1=>(match x with |.ref a=>∃kvs,H1 a=uC (.dK kvs)|_=>False)/\ty σ H1 λy H2=>tz σ H2 λz H3=>atD x y H3 λa kvs k=>
 match valV kvs k with |some v=>Q v H3 |none=>kvs.length<kR/\Q z (upd H3 a (.dK (putK kvs k z)))
section
variable {X:Cx}{o e f:k8}{apos ao:Pos}{td ty tz:TE}
theorem zk6_ (hu:X.A.units+60<cLine)(ho:PE X o td)(he:PE X e ty)(hf:PE X f tz)(m:M2 X o "setdefault" apos e f ao:=by exact⟨rfl,rfl,rfl,rfl⟩):PE X (.Call (.Attribute o "setdefault" apos) [e,f] [] ao) (mSetD td ty tz):=by
 intro pins s σ H Q I h;refine wpAny_Call_method m.base m.few m.line PySem.F.plainAttrs_dict pD PySem.F.type_dict_setdefault (thn (ho pins s σ H _ I h) λu s1 af=>?_)
 obtain⟨x,H1,I1,rx,hx,q1⟩:=af;cases x with
 |ref a=>
  obtain⟨fX,hd0⟩:=hx;obtain rfl:u=mw a:=rx;obtain⟨t1,t2,_⟩:=zpa_ I1 (.inl ⟨fX,.inl hd0⟩);refine⟨t1,t2,?_⟩;rw[m.trees];refine Calls.callWith_builtin rfl (Calls.evalArgs_plain (Calls.spliced_cons (thn (he pins s1 σ H1 _ I1 q1) λiv s2 ⟨y,H2,I2,ry,q2⟩=>
   Calls.spliced_cons (thn (hf pins s2 σ H2 _ I2 q2) λfv s3 ⟨z,H3,I3,rz,q3⟩=>Calls.spliced_nil ?_))))
  obtain⟨a',kvs,k,ea,rfl,hd,q⟩:=zhn_ q3;cases ea;obtain⟨hz,hsys,vs,rel,dd⟩:=zlH_ I3.hok hd;have i3:vs.length<=kR:=by rw[<- rel.length];exact hz
  have rk:=rel.val k;refine call_meetsIn pD dd.typeIs PySem.F.entry_dict_setdefault (PySem.F.args_dict_setdefault_3 _ _ _) (kt_meets_setdefault (mixKind X.prog X.w) a (zkT_ ry) hsys fv) ⟨vs,dd,i3,λv hv=>?_,λhn h' cf hs=>?_⟩
  ·rw[hv]at rk
   cases g:valV kvs k with
   |none=>rw[g]at rk;exact rk.elim
   |some v0=>rw[g]at rk q;exact⟨v0,H3,I3.tok _,rk,q⟩
  ·rw[hn]at rk
   cases g:valV kvs k with
   |some v0=>rw[g]at rk;exact rk.elim
   |none=>
    rw[g]at q;have hl:(putK kvs k z).length<=kR:=by have:=zaJ_ kvs k z;have:=q.1;lia
    have hq:∃q,h'.get? a=uC q:=let⟨q,_,_,hq,_⟩:=cf;⟨q,hq⟩
    exact⟨z,_,zeW_ I3 (by rw[hd];exact mJ) hs hq (zkY_ hl hsys (rel.put k rz) cf),rz,q.2⟩
 |_=>exact hx.elim
end
section
variable {κ:Type}[DecidableEq κ]
end
section
end
section
variable {κ:Type}
variable [DecidableEq κ]
end
section
variable {κ:Type}[DecidableEq κ]
end
section
end
def Fi (K:Fgg)(x q:Str)(st:lV)(f:kz):Prop:=∃(oc:aU) (od:Option kz) (kV doc pm:aU) (an:Option kz) (ae ct:aU) (aq:Array (Option aU)),
 K.lookup f=uC ⟨oc,od,.func (W.fnOf x q (defArgs st) (defBody st) (defScope st) .none kV doc pm an ae ct),aq⟩/\pq K ae q=uE/\oe K (.ref f)=uE
def Fg (K:Fgg)(x:Str)(st:lV):Prop:=∃f,mY K lh x=uC (uC (.ref f))/\Fi K x x st f
def Fm (K:Fgg)(c m q:Str)(st:lV):Prop:=∃cw f,mY K lh c=uC (uC (.ref cw))/\ny K (.ref cw) m=uC (uC (.ref f))/\tD K (.ref f)=uE/\Fi K m q st f
def Fc (K:Fgg)(c:Str):Prop:=∃cw,mY K lh c=uC (uC (.ref cw))/\qc K cw sZ=uE/\pP K cw=uE/\qv K cw=uE /\
 ny K (.ref cw) "__setattr__"=uC (uC (.builtin "object.__setattr__"))/\rE K cw=uE/\oe K (.ref cw)=uE
def Fa (K:Fgg)(c a:Str):Prop:=∃cw,mY K lh c=uC (uC (.ref cw))/\ny K (.ref cw) a=uC uD
def Fb (K:Fgg)(x:Str):Prop:=mY K lh x=uC uD
def Fv (K:Fgg)(x:Str)(v:V):Prop:=∃u,mY K lh x=uC (uC u)/\RelV v u
def Fk (K:Fgg)(x:Str):Prop:=∃c,mY K lh x=uC (uC (.ref c))
def Mgo (K:Fgg)(mg:Str->Option aU):Prop:=∃h:Heap,K.In h/\h.Ns lh mg
section
variable {P:lF}{w:lW}{K:Fgg}{mg:Str->Option aU}{base:Heap}{CX:CXT}{x q c m a:Str}{st:lV}{f:kz}{fd:mz}{ps:List Str}{k:Nat}{sp:Sp}{v:V}
theorem Fg.mk_ {oc:aU}{od:Option kz}{kV doc pm:aU}{an:Option kz}{ae ct:aU}{aq:Array (Option aU)}(h:mY K lh x=uC (uC (.ref f)))(l:K.lookup f=uC ⟨oc,od,.func (W.fnOf x x (defArgs st) (defBody st) (defScope st) .none kV doc pm an ae ct),aq⟩)(c:pq K ae x=uE)(k:oe K (.ref f)=uE):Fg K x st:=⟨f,h,oc,od,kV,doc,pm,an,ae,ct,aq,l,c,k⟩
theorem Fm.mk_ {cw:kz}{oc:aU}{od:Option kz}{kV doc pm:aU}{an:Option kz}{ae ct:aU}{aq:Array (Option aU)}(h:mY K lh c=uC (uC (.ref cw)))(h1:ny K (.ref cw) m=uC (uC (.ref f)))(h2:tD K (.ref f)=uE)(l:K.lookup f=uC ⟨oc,od,.func (W.fnOf m q (defArgs st) (defBody st) (defScope st) .none kV doc pm an ae ct),aq⟩)(h3:pq K ae q=uE)(k:oe K (.ref f)=uE):Fm K c m q st:=⟨cw,f,h,h1,h2,oc,od,kV,doc,pm,an,ae,ct,aq,l,h3,k⟩
theorem Fc.mk_ {cw:kz}(h:mY K lh c=uC (uC (.ref cw)))(h1:qc K cw sZ=uE)(h2:pP K cw=uE)(h3:qv K cw=uE)(h4:ny K (.ref cw) "__setattr__"=uC (uC (.builtin "object.__setattr__")))(h5:rE K cw=uE)(h6:oe K (.ref cw)=uE):Fc K c:=⟨cw,h,h1,h2,h3,h4,h5,h6⟩
theorem Fa.mk_ {cw:kz}(h:mY K lh c=uC (uC (.ref cw)))(h1:ny K (.ref cw) a=uC uD):Fa K c a:=⟨cw,h,h1⟩
theorem Fv.mk_ {u:aU}(h:mY K lh x=uC (uC u))(h1:RelV v u):Fv K x v:=⟨u,h,h1⟩
theorem Fk.mk_ {cw:kz}(h:mY K lh x=uC (uC (.ref cw))):Fk K x:=⟨cw,h⟩
theorem Fi.fun_ (h:Fi K x q st f):∃fd,Fun K x q st f fd:=by
 obtain⟨oc,od,kV,doc,pm,an,ae,ct,aq,l,c,k⟩:=h;exact⟨_,znk_ l c k⟩
theorem Mgo.gb (M:Mgo K mg)(h:Fb K x):Gb mg x:=by
 obtain⟨_,X,G⟩:=M;exact W.mg_none_of X G h
theorem Mgo.gv (M:Mgo K mg)(h:Fv K x v):Gc mg x v:=by
 obtain⟨_,X,G⟩:=M;obtain⟨u,e,r⟩:=h;exact⟨u,rp X G e,r⟩
theorem Mgo.gk (M:Mgo K mg)(h:Fk K x):mg x=uC (.ref (gA K x)):=by
 obtain⟨_,X,G⟩:=M;obtain⟨u,e⟩:=h;rw[znK_ e];exact rp X G e
theorem Mgo.gkc (M:Mgo K mg)(h:Fk K x):Gc mg x (.ref (gA K x)):=⟨_,M.gk h,rfl⟩
theorem Fc.cls (h:Fc K c):Cls K (gA K c):=by
 obtain⟨cw,e,h1,h2,h3,h4,_⟩:=h;rw[znK_ e];exact⟨h1,h2,h3,h4⟩
theorem Fa.no (h:Fa K c a):NoAttr K (gA K c) a:=by
 obtain⟨cw,e,h⟩:=h;rw[znK_ e];exact h
abbrev OkF (P:lF)(w:lW)(K:Fgg)(mg:Str->Option aU)(base:Heap)(CX:CXT)(k:Nat)(x q:Str)(st:lV)(ps:List Str)(sp:Sp):Prop:=∀f fd,Fun K x q st f fd->FnOk P w K mg base CX k f fd ps sp/\Binds K fd ps []
theorem zI_ (M:Mgo K mg)(F:Fg K x st)(h:OkF P w K mg base CX k x x st ps sp):Gd P w K mg base CX k x ps sp:=by
 obtain⟨_,X,G⟩:=M;obtain⟨f,e,i⟩:=F;obtain⟨fd,F⟩:=i.fun_;exact⟨f,fd,(h f fd F).1,rp X G e,F.kp,(h f fd F).2⟩
end
section
variable {K:Fgg}{x q:Str}{st:lV}{ps:List Str}
abbrev Bnd (K:Fgg)(x q:Str)(st:lV)(ps:List Str):Prop:=∀f fd,Fun K x q st f fd->Binds K fd ps []
variable {l:PySem.W.OpenLaw}{w:lW}{mg:Str->Option aU}{k:Nat}{sp:Sp}{fa:kz}
theorem okLaw (M:Mgo K mg)(F:Fg K "law" st)(gF:mg "law"=uC (.ref fa))(hb:∀(kV doc pm:aU) (an:Option kz) (ae ct:aU) (s:kn) (v:aU),bindArgs (W.fnOf "law" "law" (defArgs st) (defBody st) (defScope st) .none kV doc pm an ae ct) ⟨[v],[]⟩=pure [(x,v)])
  (h:∀(base:Heap) (f:kz) (fd:mz),Fun K "law" "law" st f fd->FnOk l.prog w K mg base CX0 k f fd [x] sp):
  ∃fd:mz,(∀(s:kn) (v:aU),BindsTo s fd ⟨[v],[]⟩ [(x,v)])/\∀base:Heap,K.In base->base.Ns lh mg->FnOk l.prog w K mg base CX0 k fa fd [x] sp:=by
 obtain⟨_,X,G⟩:=M;obtain⟨f,e,oc,od,kV,doc,pm,an,ae,ct,aq,l',c,kk⟩:=F;cases gF.symm.trans (rp X G e);exact⟨_,λs v=>.of_eq (hb kV doc pm an ae ct s v),λbase _ _=>h base _ _ (znk_ l' c kk)⟩
def spL (K:Fgg):Sp:=λvs H Q _=>∃(a:kz) (ns:List Int),vs=[.ref a]/\SqL K H a (ns.map V.int)/\ns.length<=63/\BitsOk ns/\∀H',Q (.bl uE) H'
end
abbrev zdZ_:=@PySem.F.slot_str_zfill
abbrev zd7_:=@PySem.F.type_str_zfill
abbrev zeg_:=@PySem.F.slot_str_index
abbrev zem_:=@PySem.F.type_str_index
abbrev zfv_:=@PySem.F.slot_str_join
abbrev zfx_:=@PySem.F.type_str_join
abbrev zdo_:=@PySem.F.plainAttrs_list
abbrev zbo_:=@PySem.F.slot_list_append
abbrev zbk_:=@PySem.F.type_list_append
abbrev za8_:=@PySem.F.slot_list_extend
abbrev zbl_:=@PySem.F.type_list_extend
section
end
def Fe1 (K:Fgg)(a:Str)(P:kz->Prop):Prop:=∃v,mY K lh a=uC (uC (.ref v))/\P v
theorem Fe1.mk_ {K:Fgg}{a:Str}{P:kz->Prop}{v:kz}(h:mY K lh a=uC (uC (.ref v)))(p:P v):Fe1 K a P:=⟨v,h,p⟩
def Fe2 (K:Fgg)(a b:Str)(P:kz->kz->Prop):Prop:=∃v w,mY K lh a=uC (uC (.ref v))/\mY K lh b=uC (uC (.ref w))/\P v w
theorem Fe2.mk_ {K:Fgg}{a b:Str}{P:kz->kz->Prop}{v w:kz}(h:mY K lh a=uC (uC (.ref v)))(h2:mY K lh b=uC (uC (.ref w)))(p:P v w):Fe2 K a b P:=⟨v,w,h,h2,p⟩
section
end
open PySem.SeqAt
open PySem.AutoSeq1 (wpAny_loadPart')
open PySem.MeetsSeq PySem.MeetsSeq2 PySem.MeetsSeq3
section
variable {X:Cx}{pins:Pnn}{σ:St}{H:Hp}{s:kn}{A:lY}
theorem zmm_ {x y:V}{v u:aU}(rx:RelV x v)(ry:RelV y u)(fx:flatV x=uE)(fy:flatV y=uE):om A s v u (eqV x y):=by
 cases x with
 |non=>
  cases rx;cases y with
  |non=>cases ry;exact SeqAt.RcAt.none_none
  |bl b=>cases ry;exact SeqAt.RcAt.none_bool _
  |int b=>obtain⟨t,rfl⟩:=ry;exact SeqAt.RcAt.none_int _ _
  |str b=>obtain⟨t,rfl⟩:=ry;exact SeqAt.RcAt.none_str _ _
  |_=>cases fy
 |bl a=>
  cases rx;cases y with
  |non=>cases ry;exact SeqAt.RcAt.bool_none _
  |bl b=>cases ry;exact SeqAt.RcAt.bool_bool _ _
  |int b=>obtain⟨t,rfl⟩:=ry;exact SeqAt.RcAt.bool_int _ _ _
  |str b=>obtain⟨t,rfl⟩:=ry;exact SeqAt.RcAt.bool_str _ _ _
  |_=>cases fy
 |int a=>
  obtain⟨t',rfl⟩:=rx;cases y with
  |non=>cases ry;exact SeqAt.RcAt.int_none _ _
  |bl b=>cases ry;exact SeqAt.RcAt.int_bool _ _ _
  |int b=>obtain⟨t,rfl⟩:=ry;exact SeqAt.RcAt.int_int _ _ _ _
  |str b=>obtain⟨t,rfl⟩:=ry;exact SeqAt.RcAt.int_str _ _ _ _
  |_=>cases fy
 |str a=>
  obtain⟨t',rfl⟩:=rx;cases y with
  |non=>cases ry;exact SeqAt.RcAt.str_none _ _
  |bl b=>cases ry;exact SeqAt.RcAt.str_bool _ _ _
  |int b=>obtain⟨t,rfl⟩:=ry;exact SeqAt.RcAt.str_int _ _ _ _
  |str b=>obtain⟨t,rfl⟩:=ry;exact SeqAt.RcAt.str_str _ _ _ _
  |_=>cases fy
 |_=>cases fx
theorem zj0_ {x y:V}{v u:aU}(rx:RelV x v)(ry:RelV y u)(fx:flatV x=uE)(fy:flatV y=uE):oG A s v u (!eqV x y):=by
 cases x with
 |non=>
  cases rx;cases y with
  |non=>cases ry;exact tG
  |bl b=>cases ry;exact tH _
  |int b=>obtain⟨t,rfl⟩:=ry;exact tT _ _
  |str b=>obtain⟨t,rfl⟩:=ry;exact tU _ _
  |_=>cases fy
 |bl a=>
  cases rx;cases y with
  |non=>cases ry;exact tI _
  |bl b=>cases ry;exact tJ _ _
  |int b=>obtain⟨t,rfl⟩:=ry;exact tV _ _ _
  |str b=>obtain⟨t,rfl⟩:=ry;exact tW _ _ _
  |_=>cases fy
 |int a=>
  obtain⟨t',rfl⟩:=rx;cases y with
  |non=>cases ry;exact tX _ _
  |bl b=>cases ry;exact tY _ _ _
  |int b=>obtain⟨t,rfl⟩:=ry;exact uj _ _ _ _
  |str b=>obtain⟨t,rfl⟩:=ry;exact uk _ _ _ _
  |_=>cases fy
 |str a=>
  obtain⟨t',rfl⟩:=rx;cases y with
  |non=>cases ry;exact tZ _ _
  |bl b=>cases ry;exact t5 _ _ _
  |int b=>obtain⟨t,rfl⟩:=ry;exact um _ _ _ _
  |str b=>obtain⟨t,rfl⟩:=ry;exact uo _ _ _ _
  |_=>cases fy
 |_=>cases fx
theorem rc_lf {p:kz}{aa:Array aU}{y:V}{u:aU}(hp:s.heap.IsList p aa)(ry:RelV y u)(fy:flatV y=uE)(hu:A.units<cLine):om A s (.ref p) u uF:=by
 cases y with
 |non=>cases ry;exact SeqAt.RcAt.list_none hp hu
 |bl b=>cases ry;exact SeqAt.RcAt.list_bool _ hp hu
 |int b=>obtain⟨t,rfl⟩:=ry;exact SeqAt.RcAt.list_int _ _ hp hu
 |str b=>obtain⟨t,rfl⟩:=ry;exact SeqAt.RcAt.list_str _ _ hp hu
 |_=>cases fy
theorem rc_lF {p:kz}{aa:Array aU}{y:V}{u:aU}(hp:s.heap.IsList p aa)(ry:RelV y u)(fy:flatV y=uE)(hu:A.units<cLine):om A s u (.ref p) uF:=by
 cases y with
 |non=>cases ry;exact SeqAt.RcAt.none_list hp hu
 |bl b=>cases ry;exact SeqAt.RcAt.bool_list _ hp hu
 |int b=>obtain⟨t,rfl⟩:=ry;exact SeqAt.RcAt.int_list _ _ hp hu
 |str b=>obtain⟨t,rfl⟩:=ry;exact SeqAt.RcAt.str_list _ _ hp hu
 |_=>cases fy
theorem rc_tf {p:kz}{aa:Array aU}{y:V}{u:aU}(hp:s.heap.IsTuple p aa)(ry:RelV y u)(fy:flatV y=uE)(hu:A.units<cLine):om A s (.ref p) u uF:=by
 cases y with
 |non=>cases ry;exact SeqAt.RcAt.tuple_none hp hu
 |bl b=>cases ry;exact SeqAt.RcAt.tuple_bool _ hp hu
 |int b=>obtain⟨t,rfl⟩:=ry;exact SeqAt.RcAt.tuple_int _ _ hp hu
 |str b=>obtain⟨t,rfl⟩:=ry;exact SeqAt.RcAt.tuple_str _ _ hp hu
 |_=>cases fy
theorem rc_tF {p:kz}{aa:Array aU}{y:V}{u:aU}(hp:s.heap.IsTuple p aa)(ry:RelV y u)(fy:flatV y=uE)(hu:A.units<cLine):om A s u (.ref p) uF:=by
 cases y with
 |non=>cases ry;exact SeqAt.RcAt.none_tuple hp hu
 |bl b=>cases ry;exact SeqAt.RcAt.bool_tuple _ hp hu
 |int b=>obtain⟨t,rfl⟩:=ry;exact SeqAt.RcAt.int_tuple _ _ hp hu
 |str b=>obtain⟨t,rfl⟩:=ry;exact SeqAt.RcAt.str_tuple _ _ hp hu
 |_=>cases fy
theorem zrm_ {p:kz}{aa:Array aU}{y:V}{u:aU}(hp:s.heap.IsList p aa)(ry:RelV y u)(fy:flatV y=uE)(hu:A.units<cLine):oG A s (.ref p) u uE:=by
 cases y with
 |non=>cases ry;exact tK hp hu
 |bl b=>cases ry;exact tL _ hp hu
 |int b=>obtain⟨t,rfl⟩:=ry;exact t6 _ _ hp hu
 |str b=>obtain⟨t,rfl⟩:=ry;exact t7 _ _ hp hu
 |_=>cases fy
theorem zq7_ {p:kz}{aa:Array aU}{y:V}{u:aU}(hp:s.heap.IsList p aa)(ry:RelV y u)(fy:flatV y=uE)(hu:A.units<cLine):oG A s u (.ref p) uE:=by
 cases y with
 |non=>cases ry;exact tM hp hu
 |bl b=>cases ry;exact tN _ hp hu
 |int b=>obtain⟨t,rfl⟩:=ry;exact t8 _ _ hp hu
 |str b=>obtain⟨t,rfl⟩:=ry;exact t9 _ _ hp hu
 |_=>cases fy
theorem zrf_ {p:kz}{aa:Array aU}{y:V}{u:aU}(hp:s.heap.IsTuple p aa)(ry:RelV y u)(fy:flatV y=uE)(hu:A.units<cLine):oG A s (.ref p) u uE:=by
 cases y with
 |non=>cases ry;exact tm hp hu
 |bl b=>cases ry;exact tq _ hp hu
 |int b=>obtain⟨t,rfl⟩:=ry;exact tO _ _ hp hu
 |str b=>obtain⟨t,rfl⟩:=ry;exact tP _ _ hp hu
 |_=>cases fy
theorem zoR_ {p:kz}{aa:Array aU}{y:V}{u:aU}(hp:s.heap.IsTuple p aa)(ry:RelV y u)(fy:flatV y=uE)(hu:A.units<cLine):oG A s u (.ref p) uE:=by
 cases y with
 |non=>cases ry;exact tu hp hu
 |bl b=>cases ry;exact tw _ hp hu
 |int b=>obtain⟨t,rfl⟩:=ry;exact tQ _ _ hp hu
 |str b=>obtain⟨t,rfl⟩:=ry;exact tR _ _ hp hu
 |_=>cases fy
theorem zlP_ (I:Inv X pins σ H s){n:Nat}{x y:V}{b:Bool}(h:EqD X.K H n x y b):∀(A:lY) (v u:aU),A.units+n<cLine->RelV x v->RelV y u->om A s v u b:=by
 induction h with
 |flat hx hy=>exact λA v u _ rx ry=>zmm_ rx ry hx hy
 |lst e hp hq hl h ih=>exact λA v u hu rx ry=>(zdF_ I (.lst e hp hq hl h) A v u hu rx ry).2 _ _ rfl rfl
 |lstN hp hq hl=>exact λA v u hu rx ry=>(zdF_ I (.lstN hp hq hl) A v u hu rx ry).2 _ _ rfl rfl
 |tup e hp hq h ih=>exact λA v u hu rx ry=>(zdF_ I (.tup e hp hq h) A v u hu rx ry).2 _ _ rfl rfl
 |lt hp hq=>exact λA v u hu rx ry=>(zdF_ I (.lt hp hq) A v u hu rx ry).2 _ _ rfl rfl
 |tl hp hq=>exact λA v u hu rx ry=>(zdF_ I (.tl hp hq) A v u hu rx ry).2 _ _ rfl rfl
 |lf hp hy=>intro A v u hu rx ry;cases rx;obtain⟨aa,_,p1,_⟩:=I.list hp;exact rc_lf p1.isList ry hy (by lia)
 |fl hp hy=>intro A v u hu rx ry;cases ry;obtain⟨aa,_,p1,_⟩:=I.list hp;exact rc_lF p1.isList rx hy (by lia)
 |tf hp hy=>intro A v u hu rx ry;cases rx;obtain⟨aa,_,p1,_⟩:=I.tuple hp;exact rc_tf p1 ry hy (by lia)
 |ft hp hy=>intro A v u hu rx ry;cases ry;obtain⟨aa,_,p1,_⟩:=I.tuple hp;exact rc_tF p1 rx hy (by lia)
 |up h ih=>exact λA v u hu rx ry=>ih A v u (by lia) rx ry
def mEqA (K:Fgg):R2:=λx y H Q=>∃n b,n<=50/\EqD K H n x y b/\Q (.bl b) H
theorem zpN_ (hu:X.A.units+60<cLine):OpR X (lp .Eq) (mEqA X.K):=by
 intro pins s σ H x y v u Q I rx ry h;obtain⟨n,b,hn,h,q⟩:=h;exact(zlP_ I h X.A v u (by lia) rx ry) X.prog X.w X.xe _ ⟨.bl b,H,I,rfl,q⟩
theorem zkM_ (I:Inv X pins σ H s){n:Nat}{x y:V}{b:Bool}(h:EqD X.K H n x y b):∀(A:lY) (v u:aU),A.units+n<cLine->RelV x v->RelV y u->oG A s v u (!b):=by
 induction h with
 |flat hx hy=>exact λA v u _ rx ry=>zj0_ rx ry hx hy
 |lst e hp hq hl h ih=>exact λA v u hu rx ry=>zhA_ I (.lst e hp hq hl h) A v u hu rx ry _ _ rfl rfl
 |lstN hp hq hl=>exact λA v u hu rx ry=>zhA_ I (.lstN hp hq hl) A v u hu rx ry _ _ rfl rfl
 |tup e hp hq h ih=>exact λA v u hu rx ry=>zhA_ I (.tup e hp hq h) A v u hu rx ry _ _ rfl rfl
 |lt hp hq=>exact λA v u hu rx ry=>zhA_ I (.lt hp hq) A v u hu rx ry _ _ rfl rfl
 |tl hp hq=>exact λA v u hu rx ry=>zhA_ I (.tl hp hq) A v u hu rx ry _ _ rfl rfl
 |lf hp hy=>intro A v u hu rx ry;cases rx;obtain⟨aa,_,p1,_⟩:=I.list hp;exact zrm_ p1.isList ry hy (by lia)
 |fl hp hy=>intro A v u hu rx ry;cases ry;obtain⟨aa,_,p1,_⟩:=I.list hp;exact zq7_ p1.isList rx hy (by lia)
 |tf hp hy=>intro A v u hu rx ry;cases rx;obtain⟨aa,_,p1,_⟩:=I.tuple hp;exact zrf_ p1 ry hy (by lia)
 |ft hp hy=>intro A v u hu rx ry;cases ry;obtain⟨aa,_,p1,_⟩:=I.tuple hp;exact zoR_ p1 rx hy (by lia)
 |up h ih=>exact λA v u hu rx ry=>ih A v u (by lia) rx ry
def mNeA (K:Fgg):R2:=λx y H Q=>∃n b,n<=50/\EqD K H n x y b/\Q (.bl (!b)) H
theorem zrs_ (hu:X.A.units+60<cLine):OpR X (lp .NotEq) (mNeA X.K):=by
 intro pins s σ H x y v u Q I rx ry h;obtain⟨n,b,hn,h,q⟩:=h;exact(zkM_ I h X.A v u (by lia) rx ry) X.prog X.w X.xe _ ⟨.bl (!b),H,I,rfl,q⟩
end
def Fs (K:Fgg)(c m q:Str)(st:lV):Prop:=∃cw f,mY K lh c=uC (uC (.ref cw))/\rT K (.ref cw) "__getattribute__"=uC (uC (.builtin "type.__getattribute__"))/\W.readsIn K cw (.type "type")=uE/\W.findCls K (.ref cw) (.type "type") m=uC (.val (.ref f))/\Fi K m q st f
section
variable {K:Fgg}{q c m:Str}{st:lV}{f:kz}
theorem Fs.mk_ {cw:kz}{oc:aU}{od:Option kz}{kV doc pm:aU}{an:Option kz}{ae ct:aU}{aq:Array (Option aU)}(h:mY K lh c=uC (uC (.ref cw)))(h1:rT K (.ref cw) "__getattribute__"=uC (uC (.builtin "type.__getattribute__")))(h2:W.readsIn K cw (.type "type")=uE)(h3:W.findCls K (.ref cw) (.type "type") m=uC (.val (.ref f)))
  (l:K.lookup f=uC ⟨oc,od,.func (W.fnOf m q (defArgs st) (defBody st) (defScope st) .none kV doc pm an ae ct),aq⟩) (hc:pq K ae q=uE) (hk:oe K (.ref f)=uE):Fs K c m q st:=⟨cw,f,h,h1,h2,h3,oc,od,kV,doc,pm,an,ae,ct,aq,l,hc,hk⟩
end
section
variable {κ:Type}
section
variable [DecidableEq κ]
end
end
section
end
noncomputable def Xc.c:Xc->String
 |.pl c=>c
 |.at c _=>c
section
end
structure FunD (K:Fgg)(T:kz)(x qual:Str)(st:lV)(f:kz)(fd:mz):Prop where
 ex:∃(oc:aU) (od:Option kz) (kV doc pm:aU) (an:Option kz) (ae ct:aU) (aq:Array (Option aU)),
  fd=W.fnOf x qual (defArgs st) (defBody st) (defScope st) (.ref T) kV doc pm an ae ct/\K.lookup f=uC ⟨oc,od,.func fd,aq⟩/\pq K ae qual=uE
 kp:oe K (.ref f)=uE
section
end
noncomputable def relB:V->aU->Bool
 |.non,.none=>uE
 |.int i,.int j _=>i == j
 |.bl a,.bool b=>a == b
 |_,_=>uF
def relsB:List V->List aU->Bool
 |[],[]=>uE
 |x::xs,v::vs=>relB x v && relsB xs vs
 |_,_=>uF
theorem zni_ {x:V}{v:aU}(h:relB x v=uE):RelV x v:=by
 unfold relB at h;split at h
 ·rfl
 ·exact⟨_,by rw[eq_of_beq h]⟩
 ·rw[eq_of_beq h];rfl
 ·cases h
theorem zfN_:∀{xs:List V}{vs:List aU},relsB xs vs=uE->Vals xs vs
 |[],[],_=>.nil
 |x::xs,v::vs,h=>by
  unfold relsB at h;obtain⟨a,b⟩:=lP.mp h;exact .cons (zni_ a) (zfN_ b)
 |[],_::_,h=>by cases h
 |_::_,[],h=>by cases h
def FmD (K:Fgg)(c m q:Str)(st:lV)(au:List V):Prop:=∃cw f T fd arr n oc od aq,mY K lh c=uC (uC (.ref cw))/\ny K (.ref cw) m=uC (uC (.ref f))/\tD K (.ref f)=uE/\FunD K T m q st f fd /\
 K.lookup T=uC ⟨oc,od,.seq arr n,aq⟩/\Vals au arr.toList
section
variable {P:lF}{w:lW}{K:Fgg}{mg:Str->Option aU}{base:Heap}{CX:CXT}{x q c m:Str}{st:lV}{f:kz}{fd:mz}{ps:List Str}{k:Nat}{sp:Sp}
theorem FmD.mk_ {cw T:kz}{oc dw:aU}{od fm:Option kz}{kV doc pm:aU}{an:Option kz}{ae ct:aU}{aq dJ:Array (Option aU)}{arr:Array aU}{n:Nat}{au:List V}(h:mY K lh c=uC (uC (.ref cw)))(h1:ny K (.ref cw) m=uC (uC (.ref f)))(h2:tD K (.ref f)=uE)
  (l:K.lookup f=uC ⟨oc,od,.func (W.fnOf m q (defArgs st) (defBody st) (defScope st) (.ref T) kV doc pm an ae ct),aq⟩) (c1:pq K ae q=uE) (k1:oe K (.ref f)=uE) (lT:K.lookup T=uC ⟨dw,fm,.seq arr n,dJ⟩) (hv:relsB au arr.toList=uE):FmD K c m q st au:=
 ⟨cw,f,T,_,arr,n,dw,fm,dJ,h,h1,h2,⟨⟨oc,od,kV,doc,pm,an,ae,ct,aq,rfl,l,c1⟩,k1⟩,lT,zfN_ hv⟩
def GkD (P:lF)(w:lW)(K:Fgg)(mg:Str->Option aU)(base:Heap)(CX:CXT)(k:Nat)(x:Str)(C:kz)(ps:List Str)(au:List V)(sp:Sp):Prop:=
 ∃f fd ds,FnOk P w K mg base CX k f fd ps sp/\Mk K C f/\mg x=uC (.ref C)/\Vals au ds/\Binds K fd ps ds
abbrev OkFD (P:lF)(w:lW)(K:Fgg)(mg:Str->Option aU)(base:Heap)(CX:CXT)(k:Nat)(x q:Str)(st:lV)(ps:List Str)(sp:Sp):Prop:=∀T f fd,FunD K T x q st f fd->FnOk P w K mg base CX k f fd ps sp
end
section
variable {X:Cx}{e:k8}{es:List k8}{x:Str}{p pos:Pos}{t:TA}{C:kz}{k:Nat}{ps:List Str}{sp:Sp}{E:XK}{CX:CXT}{au:List V}
theorem zjQ_ (G:GkD X.prog X.w X.K X.mg X.base CX k x C ps au sp)(hr:Room (k+1) X.A)(hx:Passes CX X E)(ha:PA X (e::es) t)(hg:Gl X x:=by rfl)(a7:(x==("__debug__":Str))=uF:=by decide)
  (he:lJ (e::es) X.env=(uF,eval e X.env)::lJ es X.env:=by rfl) (aT:(nX pos (lJ es X.env)).any (·.1)=uF:=by rfl):
  PE X (.Call (.Name x p) (e::es) [] pos) (tMake C sp au E t):=by
 obtain⟨f,fd,ds,F,M,hm,hd,hb⟩:=G;exact zmf_ M F hr hg hm hb hd hx ha a7 he aT
end
section
variable {P:lF}{w:lW}{K:Fgg}{mg:Str->Option aU}{base:Heap}{q c:Str}{st:lV}{ps:List Str}{k:Nat}
theorem zpJ_ {CX:CXT}{sp:Sp}{au:List V}(j:Nat)(M:Mgo K mg)(C:Fc K c)(F:FmD K c "__init__" q st au)(hb:∀T f fd arr n oc od aq,FunD K T "__init__" q st f fd->K.lookup T=uC ⟨oc,od,.seq arr n,aq⟩->arr.toList.length=au.length->Binds K fd ps (arr.toList.drop j))
  (h:OkFD P w K mg base CX k "__init__" q st ps sp):GkD P w K mg base CX k c (gA K c) ps (au.drop j) sp:=by
 obtain⟨cw,f,T,fd,arr,n,oc,od,aq,e,e2,e3,F,lT,hv⟩:=F;obtain⟨kj,e',_,_,_,_,h5,h6⟩:=C;cases e.symm.trans e';have hd:∀{xs:List V}{vs:List aU}(j:Nat),Vals xs vs->Vals (xs.drop j) (vs.drop j):=λ{xs vs} j r=>by
  induction j generalizing xs vs with
  |zero=>exact r
  |succ j ih=>cases r with |nil=>exact .nil |cons a t=>exact ih t
 exact⟨f,fd,arr.toList.drop j,h T f fd F,by rw[znK_ e];exact⟨h5,e2,e3,h6⟩,M.gk ⟨_,e⟩,hd j hv,hb T f fd arr n oc od aq F lT hv.length.symm⟩
theorem arr5 {arr:Array aU}(h:arr.toList.length=5):∃d0 d1 d2 d3 d4,arr=#[d0,d1,d2,d3,d4]:=by
 obtain⟨l⟩:=arr;obtain⟨d0,l,rfl⟩:=l4 h;obtain⟨d1,l,rfl⟩:=l4 (mK h);obtain⟨d2,l,rfl⟩:=l4 (mK (mK h));obtain⟨d3,l,rfl⟩:=l4 (mK (mK (mK h)));obtain⟨d4,rfl⟩:=mT.mp (mK (mK (mK (mK h))));exact⟨d0,d1,d2,d3,d4,rfl⟩
end
noncomputable def strsB:List (List Nat)->List aU->Bool
 |[],[]=>uE
 |x::xs,.str z _::vs=>z == ⟨x.toArray⟩ && strsB xs vs
 |_,_=>uF
theorem zfY_:∀{xs:List (List Nat)}{vs:List aU},strsB xs vs=uE->Vals (xs.map tx) vs
 |[],[],_=>.nil
 |x::xs,v::vs,h=>by
  unfold strsB at h;split at h
  ·rename_i e1 _;cases e1
  ·rename_i e1 e2
   cases e1;cases e2;obtain⟨a,b⟩:=lP.mp h;exact .cons ⟨_,by rw[eq_of_beq a]⟩ (zfY_ b)
  ·cases h
 |[],_::_,h=>by cases h
 |_::_,[],h=>by cases h
def FtT (K:Fgg)(x:Str)(xs:List (List Nat)):Prop:=∀H:Hp,SqT K H (gA K x) (xs.map tx)
theorem FtT.mk_ {K:Fgg}{x:Str}{xs:List (List Nat)}{a:kz}{od:Option kz}{aa:Array aU}{n:Nat}{aq:Array (Option aU)}(h:mY K lh x=uC (uC (.ref a)))(l:K.lookup a=uC ⟨.type "tuple",od,.seq aa n,aq⟩)(hv:strsB xs aa.toList=uE)(hs:aa.toList.length<=1000):FtT K x xs:=λH=>by
 rw[znK_ h];exact .inr ⟨_,aa,n,l,rfl,rfl,by rw[mm]at hs;exact mG hs (by rw[sizeLine_eq];decide),zfY_ hv⟩
section
end
instance:Inhabited V:=⟨.non⟩
section
variable {K:Fgg}{x q:Str}{st:lV}{ps:List Str}{f:kz}{fd:mz}
theorem zkD_ {T:kz}{oc:aU}{od:Option kz}{aq:Array (Option aU)}{d0 d1 d2 d3 d4:aU}{n:Nat}(hp:ps.length=10)(F:FunD K T x q st f fd)(lT:K.lookup T=uC ⟨oc,od,.seq #[d0,d1,d2,d3,d4] n,aq⟩)
  (h:∀(kV doc pm:aU) (an:Option kz) (ae ct:aU) (u0 u1 u2 u3 u4:aU) (s:kn),(∃o,s.heap.get? T=uC o/\o.data=.seq #[d0,d1,d2,d3,d4] n)->BindsTo s (W.fnOf x q (defArgs st) (defBody st) (defScope st) (.ref T) kV doc pm an ae ct) ⟨[u0,u1,u2,u3,u4],[]⟩ (ps.zip [u0,u1,u2,u3,u4,d0,d1,d2,d3,d4])):
  Binds K fd ps [d0,d1,d2,d3,d4]:=by
 obtain⟨oc,od,kV,doc,pm,an,ae,ct,aq,rfl,lk,av⟩:=F.ex;intro s us hK hl;rw[hp,kX]at hl;have hl:us.length=5:=by simpa using hl
 match us,hl with
 |[u0,u1,u2,u3,u4],_=>exact h kV doc pm an ae ct u0 u1 u2 u3 u4 s ⟨_,hK _ _ lT,rfl⟩
end
section
variable {lt:Nat->Nat->Bool}{n:Nat}
def sl (lt:Nat->Nat->Bool)(a b:Nat):Prop:=lt b a=uF/\(lt a b=uE\/a<b)
theorem WOr.st (w:WOr lt){a b c:Nat}(h:lt a b=uE)(g:lt c b=uF):lt a c=uE:=by
 cases e:lt a c with
 |true=>rfl
 |false=>rw[w.tr g e]at h;cases h
theorem WOr.st' (w:WOr lt){a b c:Nat}(h:lt a b=uE)(g:lt a c=uF):lt c b=uE:=by
 cases e:lt c b with
 |true=>rfl
 |false=>rw[w.tr e g]at h;cases h
theorem WOr.sl (w:WOr lt){a b:Nat}(h:lt a b=uE):sl lt a b:=⟨w.asym h,.inl h⟩
def Rest (p:Array Nat)(n m:Nat):Prop:=∀i,m<=i->i<n->p.getD i 0=i
theorem zpA_ {p:Array Nat}(h:Pm p n){i j:Nat}(hi:i<n)(hj:j<n)(e:p.getD i 0=p.getD j 0):i=j:=by
 have hs:=zbj_ h;have nd:p.toList.Nodup:=h.nodup_iff.mpr rL;have e':∀k (hk:k<n),p.getD k 0=p.toList[k]'(by rw[mm,hs];exact hk):=λk hk=>by simp[qY,hs,hk]
 rw[e' i hi,e' j hj]at e;exact(rD nd).mp e
theorem Rest.below {p:Array Nat}{m:Nat}(r:Rest p n m)(h:Pm p n){i:Nat}(hi:i<m)(hm:m<=n):p.getD i 0<m:=by
 have h1:=zhb_ h (show i<n by lia)
 cases Nat.lt_or_ge (p.getD i 0) m with
 |inl z=>exact z
 |inr z=>
  have:=r _ z h1;have:=zpA_ h (by lia) h1 this.symm
  lia
theorem Rest.mono {p:Array Nat}{m k:Nat}(r:Rest p n m)(h:m<=k):Rest p n k:=λi hi=>r i (by lia)
theorem Rest.rev {p:Array Nat}{m i j:Nat}(r:Rest p n m)(hp:Pm p n)(hj:j<=m)(hm:m<=n):Rest (kas_rev p i j) n m:=λk hk hn=>by
 have hs:=zbj_ hp;rw[zb1_ (by lia),if_neg (by lia)];exact r k hk hn
def As (lt:Nat->Nat->Bool)(p:Array Nat)(k:Nat):Prop:=∀i j,i<j->j<k->sl lt (p.getD i 0) (p.getD j 0)
def Ds (lt:Nat->Nat->Bool)(p:Array Nat)(k:Nat):Prop:=∀i j,i<j->j<k->sl lt (p.getD j 0) (p.getD i 0)
theorem zgj_ (w:WOr lt){p:Array Nat}(hp:Pm p n):∀(f m:Nat),1<=m->m+f<=n->As lt p m->Rest p n m->okT lt n (kas_asc p f m) (λr=>m<=r/\r<=m+f/\As lt p r/\(r<m+f->lt (p.getD r 0) (p.getD (r-1) 0)=uE))
 |0,m,h1,hm,ha,hr=>⟨kx _,kx _,ha,λh=>absurd h (nW _)⟩
 |f+1,m,h1,hm,ha,hr=>by
  refine⟨zhb_ hp (by lia),zhb_ hp (by lia),?_⟩
  show okT lt n (if lt (p.getD m 0) (p.getD (m-1) 0)=uE then KasT.ret m else kas_asc p f (m+1)) _
  cases h:lt (p.getD m 0) (p.getD (m-1) 0)with
  |true=>rw[if_pos rfl];exact⟨kx _,by lia,ha,λ_=>h⟩
  |false=>
   rw[if_neg (by decide)]
   refine zaZ_ (λr q=>⟨by lia,by lia,q.2.2.1,λz=>q.2.2.2 (by lia)⟩) _ (zgj_ w hp f (m+1) (by lia) (by lia) (λi j aJ hj=>?_) (hr.mono (by lia)))
   by_cases e:j<m
   ·exact ha i j aJ e
   ·obtain rfl:j=m:=by lia
    have l:=hr.below hp aJ (by lia)
    refine⟨?_,.inr (by rw[hr j (kx _) (by lia)];exact l)⟩
    by_cases e2:i=j-1
    ·rw[e2];exact h
    ·exact w.tr (ha i (j-1) (by lia) (by lia)).1 h
structure Dwn (lt:Nat->Nat->Bool)(n:Nat)(p:Array Nat)(m q:Nat):Prop where
 pm:Pm p n
 hq:q+1<=m
 hm:m<=n
 rest:Rest p n m
 a:∀i j,i<j->j<m-(q+1)->sl lt (p.getD j 0) (p.getD i 0)
 b:∀i j,i<m-(q+1)->m-(q+1)<=j->j<m->lt (p.getD j 0) (p.getD i 0)=uE
 c:∀i j,m-(q+1)<=i->i<j->j<m->p.getD i 0<p.getD j 0
 d:∀i j,m-(q+1)<=i->i<m->m-(q+1)<=j->j<m->lt (p.getD i 0) (p.getD j 0)=uF
theorem Dwn.ds0 (w:WOr lt){p:Array Nat}{m:Nat}(d:Dwn lt n p m 0):Ds lt p m:=λi j aJ hj=>by
 by_cases e:j<m-1
 ·exact d.a i j aJ e
 ·exact w.sl (d.b i j (by lia) (by lia) hj)
theorem Dwn.ds (w:WOr lt){p:Array Nat}{m q:Nat}(d:Dwn lt n p m q):Ds lt (kas_rev p (m-(q+1)) m) m:=λi j aJ hj=>by
 have hs:=zbj_ d.pm;have hq:=d.hq;have hm:=d.hm;rw[zb1_ (by lia),zb1_ (by lia)]
 by_cases a:m-(q+1)<=i
 ·rw[if_pos ⟨by lia,hj⟩,if_pos ⟨a,by lia⟩]
  exact⟨d.d _ _ (by lia) (by lia) (by lia) (by lia),.inr (d.c _ _ (by lia) (by lia) (by lia))⟩
 ·rw[if_neg (λz:m-(q+1)<=i/\_=>a z.1)]
  by_cases b:m-(q+1)<=j
  ·rw[if_pos ⟨b,hj⟩];exact w.sl (d.b _ _ (by lia) (by lia) (by lia))
  ·rw[if_neg (λz=>b z.1)];exact d.a _ _ aJ (by lia)
theorem Dwn.next (w:WOr lt){p:Array Nat}{m:Nat}(hp:Pm p n)(hm:m+1<=n)(hr:Rest p n m)(h1:1<=m)(ds:Ds lt p m)(hl:∀i,i<m->lt (p.getD m 0) (p.getD i 0)=uE):Dwn lt n p (m+1) 0 where
 pm:=hp
 hq:=by lia
 hm:=hm
 rest:=hr.mono (by lia)
 a:=λi j aJ hj=>ds i j aJ (by lia)
 b:=λi j hi hj fG=>by
  obtain rfl:j=m:=by lia
  exact hl i (by lia)
 c:=λi j h1 h2 h3=>by lia
 d:=λi j h1 h2 h3 h4=>by
  obtain rfl:j=m:=by lia
  obtain rfl:i=j:=by lia
  exact w.refl _
theorem zcD_ (w:WOr lt):∀(f:Nat) (p:Array Nat) (m q:Nat),Dwn lt n p m q->m+f<=n->okT lt n (kas_desc f p m q) (λr=>Dwn lt n r.1 r.2.1 r.2.2)
 |0,p,m,q,d,hm=>d
 |f+1,p,m,q,d,hm=>by
  have hp:=d.pm;have hs:=zbj_ hp;have hq:=d.hq;have up:∀i,i<m->lt (p.getD (m-1) 0) (p.getD i 0)=uE\/(m-(q+1)<=i/\lt (p.getD (m-1) 0) (p.getD i 0)=uF/\lt (p.getD i 0) (p.getD (m-1) 0)=uF):=λi hi=>by
   by_cases e:m-(q+1)<=i
   ·exact .inr ⟨e,d.d _ _ (by lia) (by lia) e hi,d.d _ _ e hi (by lia) (by lia)⟩
   ·exact .inl (d.b _ _ (by lia) (by lia) (by lia))
  refine⟨zhb_ hp (by lia),zhb_ hp (by lia),?_⟩
  cases h:lt (p.getD m 0) (p.getD (m-1) 0)with
  |true=>
   dsimp only;rw[if_pos rfl];have hl:∀i,i<m->lt (p.getD m 0) (p.getD i 0)=uE:=λi hi=>by
    rcases up i hi with z |⟨_,z,z'⟩
    ·exact w.st h (w.asym z)
    ·exact w.st h z'
   by_cases hq0:q > 0
   ·rw[if_pos hq0]
    refine zcD_ w f _ (m+1) 0 (.next w (zgW_ hp _ _) (by lia) (d.rest.rev hp (kx _) (by lia)) (by lia) (d.ds w) λi hi=>?_) (by lia)
    rw[zb1_ (by lia),zb1_ (by lia),if_neg (by lia)]
    split
    ·exact hl _ (by lia)
    ·exact hl _ hi
   ·rw[if_neg hq0]
    obtain rfl:q=0:=by lia
    exact zcD_ w f p (m+1) 0 (.next w hp (by lia) d.rest (by lia) (d.ds0 w) hl) (by lia)
  |false=>
   dsimp only;rw[if_neg (by decide)]
   refine⟨zhb_ hp (by lia),zhb_ hp (by lia),?_⟩
   cases h2:lt (p.getD (m-1) 0) (p.getD m 0)with
   |true=>dsimp only;rw[if_pos rfl];exact d
   |false=>
    dsimp only;rw[if_neg (by decide)]
    have em:m+1-(q+1+1)=m-(q+1):=by lia
    refine zcD_ w f p (m+1) (q+1) ⟨hp,by lia,by lia,d.rest.mono (by lia),?_,?_,?_,?_⟩ (by lia)
    ·rw[em];exact d.a
    ·rw[em]
     intro i j hi hj fG;by_cases e:j<m
     ·exact d.b i j hi hj e
     ·obtain rfl:j=m:=by lia
      exact w.st' (d.b i (j-1) hi (by lia) (by lia)) h2
    ·rw[em]
     intro i j hi aJ hj;by_cases e:j<m
     ·exact d.c i j hi aJ e
     ·obtain rfl:j=m:=by lia
      rw[d.rest j (kx _) (by lia)]
      exact d.rest.below hp aJ (by lia)
    ·rw[em]
     have al:∀i,m-(q+1)<=i->i<m+1->lt (p.getD i 0) (p.getD (m-1) 0)=uF/\lt (p.getD (m-1) 0) (p.getD i 0)=uF:=λi h1 aL=>by
      by_cases e:i<m
      ·exact⟨d.d _ _ h1 e (by lia) (by lia),d.d _ _ (by lia) (by lia) h1 e⟩
      ·obtain rfl:i=m:=by lia
       exact⟨h,h2⟩
     intro i j h1 h2 h3 h4;exact w.tr (al j h3 h4).2 (al i h1 h2).1
abbrev SGot (lt:Nat->Nat->Bool)(n:Nat)(r:Nat×Array Nat):Prop:=Pm r.2 n/\r.1<=n/\As lt r.2 r.1/\Rest r.2 n r.1
theorem zeH_ (w:WOr lt){p:Array Nat}{m:Nat}(hp:Pm p n)(h1:1<=m)(hm:m<=n)(hd:Ds lt p m)(hr:Rest p n m):okT lt n (kas_tail3 m n p) (SGot lt n):=by
 have hsz:=zbj_ hp;have cW:Rest (kas_rev p 0 m) n m:=hr.rev hp (kx _) hm;refine zby_ _ (zaZ_ (λr q=>?_) _ (zgj_ w (zgW_ hp 0 m) (n-m) m h1 (by lia) (λi j aJ hj=>?_) cW))
 ·exact⟨zgW_ hp 0 m,by show r<=n;lia,q.2.2.1,cW.mono q.1⟩
 ·rw[zb1_ (by lia),zb1_ (by lia),if_pos (by lia),if_pos (by lia)]
  exact hd _ _ (by lia) (by lia)
theorem zb6_ (w:WOr lt){p:Array Nat}{m:Nat}(d:Dwn lt n p (m+1) 0):okT lt n (kas_descPart m n p) (SGot lt n):=by
 have:=d.hm;refine zby_ _ (zaZ_ (λr q=>?_) _ (zcD_ w (n-(m+1)) p (m+1) 0 d (by lia)))
 have h1:=q.hq;by_cases z:r.2.2 > 0
 ·rw[if_pos z]
  exact zeH_ w (zgW_ q.pm _ _) (by lia) q.hm (q.ds w) (q.rest.rev q.pm (kx _) q.hm)
 ·rw[if_neg z]
  obtain⟨p',m',q'⟩:=r;obtain rfl:q'=0:=by have:¬q' > 0:=z;lia
  exact zeH_ w q.pm (by have:0+1<=m':=h1;show 1<=m';lia) q.hm (q.ds0 w) q.rest
theorem zhU_ (w:WOr lt){p:Array Nat}(hp:Pm p n)(hr:Rest p n 0)(hn:1<=n):okT lt n (kas_count n p) (SGot lt n):=by
 have hsz:=zbj_ hp;refine zby_ _ (zaZ_ (λm q=>?_) _ (zgj_ w hp (n-1) 1 (kx _) (by lia) (λi j aJ hj=>by lia) (hr.mono (by lia))))
 obtain⟨q1,q2,q3,q4⟩:=q;have cW:=hr.mono (l5 m);by_cases e:m=n
 ·rw[if_pos (by simp[e])];exact⟨hp,by show m<=n;lia,q3,cW⟩
 ·rw [if_neg (by simp[e])]
  have hl:=q4 (by lia)
  by_cases z:m > 1
  ·rw[if_pos z]
   refine⟨zhb_ hp (by lia),zhb_ hp (by lia),?_⟩
   cases c:lt (p.getD 0 0) (p.getD (m-1) 0)with
   |true=>dsimp only;rw[if_pos rfl];exact⟨hp,by show m<=n;lia,q3,cW⟩
   |false=>
    dsimp only;rw[if_neg (by decide)]
    have dR:∀a b,a<=b->b<m->lt (p.getD b 0) (p.getD a 0)=uF:=λa b h1 h2=>by
     by_cases e:a=b
     ·rw[e];exact w.refl _
     ·exact(q3 a b (by lia) h2).1
    have bB:∀a b,a<m->b<m->lt (p.getD b 0) (p.getD a 0)=uF:=λa b ha hb=>w.tr (w.tr (dR a (m-1) (by lia) (by lia)) c) (dR 0 b (by lia) hb)
    refine zb6_ w (.next w (zgW_ hp 0 m) (by lia) (cW.rev hp (kx _) (by lia)) (by lia) (λi j aJ hj=>?_) λi hi=>?_)
    ·rw[zb1_ (by lia),zb1_ (by lia),if_pos (by lia),if_pos (by lia)]
     refine⟨bB _ _ (by lia) (by lia),.inr ?_⟩
     rw[hr _ (l5 _) (by lia),hr _ (l5 _) (by lia)]
     lia
    ·rw[zb1_ (by lia),zb1_ (by lia),if_neg (by lia),if_pos (by lia)]
     exact w.st hl (bB _ _ (by lia) (by lia))
  ·rw[if_neg z]
   obtain rfl:m=1:=by lia
   refine zb6_ w (.next w hp (by lia) cW (by lia) (λi j aJ hj=>by lia) λi hi=>?_)
   obtain rfl:i=0:=by lia
   exact hl
theorem zc1_ (w:WOr lt){p:Array Nat}{k:Nat}(hp:Pm p n)(hk:k<n)(ha:As lt p k):∀(f l r:Nat),l<=r->r<=k->r-l<=f->(∀i,i<l->lt (p.getD k 0) (p.getD i 0)=uF)->(∀i,r<=i->i<k->lt (p.getD k 0) (p.getD i 0)=uE) ->
  okT lt n (kas_place p k f l r) (λm=>m<=k/\(∀i,i<m->lt (p.getD k 0) (p.getD i 0)=uF)/\∀i,m<=i->i<k->lt (p.getD k 0) (p.getD i 0)=uE)
 |0,l,r,h1,h2,h3,h4,h5=>⟨by show l<=k;lia,h4,λi a b=>h5 i (by lia) b⟩
 |f+1,l,r,h1,h2,h3,h4,h5=>by
  have dR:∀a b,a<=b->b<k->lt (p.getD b 0) (p.getD a 0)=uF:=λa b h1 h2=>by
   by_cases e:a=b
   ·rw[e];exact w.refl _
   ·exact(ha a b (by lia) h2).1
  unfold kas_place;by_cases e:l ≥ r
  ·rw[if_pos e];exact⟨by show l<=k;lia,h4,λi a b=>h5 i (by lia) b⟩
  ·rw[if_neg e]
   refine⟨zhb_ hp hk,zhb_ hp (by lia),?_⟩
   cases c:lt (p.getD k 0) (p.getD ((l+r) / 2) 0)with
   |true=>
    dsimp only;rw[if_pos rfl];refine zc1_ w hp hk ha f l ((l+r) / 2) (by lia) (by lia) (by lia) h4 λi a b=>?_
    exact w.st c (dR _ _ a b)
   |false=>
    dsimp only;rw[if_neg (by decide)]
    refine zc1_ w hp hk ha f ((l+r) / 2+1) r (by lia) h2 (by lia) (λi hi=>?_) h5
    exact w.tr (dR i ((l+r) / 2) (by lia) (by lia)) c
theorem ziW_ (w:WOr lt):∀(f:Nat) (p:Array Nat) (k:Nat),Pm p n->k+f=n->As lt p k->Rest p n k->okT lt n (kas_bin f p k) (λr=>Pm r n/\As lt r n)
 |0,p,k,hp,hk,ha,hr=>⟨hp,(show k=n by lia) ▸ ha⟩
 |f+1,p,k,hp,hk,ha,hr=>by
  have hsz:=zbj_ hp;refine zby_ _ (zaZ_ (λl q=>?_) _ (zc1_ w hp (by lia) ha k 0 k (by lia) (kx _) (by lia) (λi hi=>absurd hi (by lia)) λi a b=>absurd b (by lia)))
  obtain⟨q1,q2,q3⟩:=q;have hb:∀i,(bubble p k (k-l)).getD i 0=if i=l then p.getD k 0 else if l<i/\i<=k then p.getD (i-1) 0 else p.getD i 0:=λi=>by
   have:=getElem?_bubble (xs:=p) (src:=k) (by lia) (k-l) (by lia) i
   rw[show k-(k-l)=l by lia]at this
   split
   ·rename_i z;rw[if_pos z]at this;exact zap_ this
   ·rename_i z
    rw[if_neg z]at this;split
    ·rename_i y;rw[if_pos y]at this;exact zap_ this
    ·rename_i y;rw[if_neg y]at this;exact zap_ this
  refine ziW_ w f _ (k+1) ((pL.mp (bubble_perm p k _)).trans hp) (by lia) (λi j aJ hj=>?_) λi hi eD=>?_
  ·rw [hb,hb]
   by_cases e1:i=l
   ·rw[if_pos e1,if_neg (by lia),if_pos (by lia)];exact w.sl (q3 _ (by lia) (by lia))
   ·rw[if_neg e1]
    by_cases e2:j=l
    ·rw[if_pos e2,if_neg (by lia)]
     refine⟨q2 _ (by lia),.inr ?_⟩
     rw[hr k (kx _) (by lia)]
     exact hr.below hp (by lia) (by lia)
    ·rw[if_neg e2]
     by_cases e3:l<i
     ·rw[if_pos (by lia),if_pos (by lia)];exact ha _ _ (by lia) (by lia)
     ·rw[if_neg (by lia)]
      by_cases e4:l<j
      ·rw[if_pos (by lia)];exact ha _ _ (by lia) (by lia)
      ·rw[if_neg (by lia)];exact ha _ _ aJ (by lia)
  ·rw[hb,if_neg (by lia),if_neg (by lia)];exact hr i (by lia) eD
theorem zkX_ (w:WOr lt)(hn:1<=n):okT lt n (kas_sort n) (λr=>Pm r n/\As lt r n):=by
 have h0:Pm (rq (lG n)) n:=by simp[Pm]
 have hr:Rest (rq (lG n)) n 0:=λi _ hi=>by simp[qY,hi]
 refine zby_ _ (zaZ_ (λr q=>?_) _ (zhU_ w h0 hr hn))
 obtain⟨q1,q2,q3,q4⟩:=q;by_cases e:r.1<n
 ·rw[if_pos e]
  refine ziW_ w _ _ _ q1 (by lia) ?_ (q4.mono (Nat.le_max_left _ _))
  by_cases e1:r.1=0
  ·rw[e1];exact λi j aJ hj=>by lia
  ·rw[Nat.max_eq_left (by lia)];exact q3
 ·rw[if_neg e]
  obtain e:r.1=n:=by lia
  rw[e]at q3;exact⟨q1,q3⟩
end
def cxLam (X:Cx)(A:lY)(qual:Str)(scope:Scope)(cl:List (Str×kz))(f:kz)(ae:aU)(N:List Str)(s2:kn)(H2:Hp):Cx where
 prog:=X.prog
 w:=X.w
 K:=X.K
 mg:=X.mg
 base:=X.base
 A:=A.deeper (W.envX qual scope s2.heap.objs.size f ae cl)
 N:=N
 s₀:=s2
 H₀:=H2
 env:=W.envX qual scope s2.heap.objs.size f ae cl
 outer:=X.stack
 stack:=W.envX qual scope s2.heap.objs.size f ae cl::X.stack
 ex:=[]
 fn:=λ_=>uF
 calm:=uE
 pn:=[]
 xe:=λ_ _=>False
structure LScope (X:Cx)(scope:Scope)(cl:List (Str×kz))(p:Str)(fr:List (Str×Nat)):Prop where
 clos:closeL X.env.cells scope.names []=uC cl
 cell:∀y∈scope.names,y.2≠.cell
 kind:scope.kind=.function
 co:scope.isCoroutine=uF
 gen:scope.isGenerator=uF
 loc:scope.names.lookup p=uC .local
 fr:∀q∈fr,X.N[q.2]?=uC q.1/\scope.names.lookup q.1=uC .free/\(X.env.kindOf q.1=uC .cell\/X.env.kindOf q.1=uC .free)
def lS (fr:List (Str×Nat))(σ:St):St:=fr.map λq=>(σ[q.2]?).join
section
variable {X:Cx}{pins:Pnn}{σ:St}{H:Hp}{s:kn}{A:lY}{scope:Scope}{cl:List (Str×kz)}{p:Str}{fr:List (Str×Nat)}{qual name:Str}{f c':kz}{ae pm aE:aU}{params:Arguments}{body:k8}{x:V}{u:aU}{te:TE}
theorem znj_ {h1:Heap}{tk:Nat}(I:Inv X pins σ H s)(S:LScope X scope cl p fr)(hA:A.frames=uC X.stack)(hh:A.handled=uD)(rx:RelV x u)
  (cI:h1.Ns s.heap.objs.size (λy=>[(p,u)].reverse.lookup y)) (hk:∀b o,s.heap.get? b=uC o->h1.get? b=uC o):
  Inv (cxLam X A qual scope cl f ae (p::fr.map (·.1)) s H) [] (uC x::lS fr σ) H {s with heap:=h1,toks:=tk}:=by
 have aS:=zaw_ scope.names [] cl S.clos (λx c e=>by cases e)
 have bV:=z0_ scope.names [] cl S.clos;have cq:∀b:kz,b∉(cxLam X A qual scope cl f ae (p::fr.map (·.1)) s H).ex:=λb z=>absurd (show b∈([]:List kz)from z) (by simp)
 refine⟨⟨I.ok.mod,S.kind,rfl,rfl,kx _,λy z c h1 h2=>I.ok.inj y z c (aS y c h1) (aS z c h2),λy hy=>?_,λy c c9=>(by cases c9),λ_=>hh,Around.frames_deeper hA,.inr ⟨rfl,rfl⟩,λb z=>absurd z (cq b),I.bs,mG I.ok.bsz I.sz,λb _ _=>cq b,λb z=>absurd z (cq b),I.stack,I.stkFree,I.tb⟩,
  rfl,I.bare,Un.kept hk,⟨_,cI,λi y v h1 h2 h3=>?_⟩,λy c e=>?_,I.hok.fresh (kx _),λy c e=>I.freeC y c (aS y c e),λp hp=>absurd (show p∈([]:Pnn)from hp) (by simp),I.hok.kept hk,?_⟩
 ·rcases(show scope.names.lookup y=uC .cell\/scope.names.lookup y=uC .free from hy)with z |z
  ·exact absurd rfl (S.cell _ (l6 z))
  ·exact bV y (.inl (l6 z))
 ·cases i with
  |zero=>
   have e1:p=y:=lI h1;have e2:x=v:=lI (lI h2);subst e1 e2;exact⟨u,rx,.inl ⟨S.loc,by simp⟩⟩
  |succ i=>
   have h1':(fr.map (·.1))[i]?=uC y:=h1;have aL:(fr.map λq=>(σ[q.2]?).join)[i]?=uC (uC v):=h2
   rw[kH]at h1' aL;cases hq:fr[i]? with
   |none=>rw[hq]at h1';cases h1'
   |some q=>
    rw[hq]at h1' aL;have e1:q.1=y:=lI h1';have e2:(σ[q.2]?).join=uC v:=lI aL;have e3:σ[q.2]?=uC (uC v):=by
     cases hz:σ[q.2]? with
     |none=>rw[hz]at e2;cases e2
     |some z=>rw[hz]at e2;exact congrArg uC e2
    obtain⟨g1,g2,g3⟩:=S.fr q (mN hq);obtain⟨m0,hn0,c6⟩:=I.loc;have fP:Vis X.env.scope q.1:=by
     rcases g3 with g3 |g3
     ·exact .inr (.inl g3)
     ·exact .inr (.inr g3)
    obtain⟨u,r,l⟩:=c6 q.2 q.1 v g1 e3 fP;refine⟨u,r,.inr ⟨.inr (by rw[<- e1];exact g2),?_⟩⟩
    rcases l with⟨lk,_⟩|⟨_,c,ec,ic⟩
    ·rcases g3 with g3 |g3<;>(rw[lk]at g3;cases g3)
    ·obtain⟨c',ec'⟩:=bV q.1 (.inl (l6 g2))
     have:c'=c:=by
      have:=aS q.1 c' ec';rw[ec]at this;exact(lI this).symm
     subst this;obtain⟨o,ho,hd⟩:=ic;exact⟨c',by rw[<- e1];exact ec',o,hk _ _ ho,hd⟩
 ·obtain⟨v,o,ho,hd⟩:=I.cell y c (aS y c e)
  exact⟨v,o,hk _ _ ho,hd⟩
 ·show _=(p::fr.map (·.1)).length
  unfold lS;simp
def LEnd (X:Cx)(H:Hp)(s:kn)(Q:VK)(ku:aU)(s':kn):Prop:=∃k H',s'.os=s.os/\AllBare s'.gens/\Un (frs X.stack) [] H H' s.heap s'.heap/\HOk X.prog X.w H' s'.heap/\RelV k ku/\Q k H'
theorem zkv_ {Q:VK}(I:Inv X pins σ H s)(S:LScope X scope cl p fr)(hA:A.frames=uC X.stack)(hh:A.handled=uD)(aH:A.depth<recursionLimit)
  {o:sX}(ho:s.heap.get? f=uC o) (cY:o.data=.func (pM name qual params body scope cl pm (.ref c') aE)) (av:s.heap.CodeRec (.ref c') qual)
  (hb:bindArgs (pM name qual params body scope cl pm (.ref c') aE) ⟨[u],[]⟩=pure [(p,u)]) (rx:RelV x u)
  (he:∀f ae s2 H2,PE (cxLam X A qual scope cl f ae (p::fr.map (·.1)) s2 H2) body te) (q:te (uC x::lS fr σ) H Q):
  lC (model X.prog X.w) A (call (.ref f) [u]) (LEnd X H s Q) (λ_ _=>False) s:=by
 refine wpAny_call (W.kla_callFunE aH ho cY S.co S.gen rfl av ?_);rw[hb];refine lj (wpAny_newFunctionEnv S.cell (λy hy=>?_) (λaB cI ji=>?_) S.kind)
 ·have e:y=(p,u):=by simpa using hy
  subst e;exact S.loc
 ·have hk:∀b o,s.heap.get? b=uC o->aB.get? b=uC o:=λb o e=>ji.extBut b o (lB (kJ e)) (kq _ e)
  refine⟨I.nolimit.keeps hk,W.kla_codeExpr ?_⟩;have J:Inv (cxLam X A qual scope cl f (.ref c') (p::fr.map (·.1)) s H) [] (uC x::lS fr σ) H {s with heap:=aB,toks:=s.toks+[(p,u)].length}:=znj_ I S hA hh rx cI hk;exact mF (he f (.ref c') s H [] _ _ H Q J q) (λv s' ⟨k,H',J',r,q'⟩=>⟨k,H',J'.os,J'.bare,J'.base,J'.hok,r,q'⟩) λ_ _ z=>z.elim
end
def KeysAt (K:Fgg)(H:Hp):List V->List (List Int)->Prop:=Paired λk ns=>∃a,k=.ref a/\SqL K H a (ns.map V.int)
abbrev ltKs (ak:List (List Int))(i j:Nat):Bool:=HT.lexLt (ak.getD i []) (ak.getD j [])
def SrtS (lt:Nat->Nat->Bool)(n:Nat)(p:List Nat):Prop:=p.Perm (lG n)/\p.Pairwise (sl lt)
def mSrt (K:Fgg)(xs:List V)(b:V)(H:Hp)(Q:VK):Prop:=
 ∃kS ks ak,b=.ref kS/\H kS=uC (.lst ks)/\ks.length=xs.length/\KeysAt K H ks ak /\
  ∀idx,SrtS (ltKs ak) xs.length idx->∀l,H l=uD->Q (.ref l) (upd (upd H kS (.lst [])) l (.lst (idx.map λi=>xs.getD i .non)))
def LamUp (H H2:Hp):Prop:=H2=H\/∃c o,H c=uD/\H2=upd H c o
def tSrt (K:Fgg)(fr:List (Str×Nat))(i:Nat)(te:TE):TE:=λσ H Q=>∃p xs,σ[i]?=uC (uC (.ref p))/\SqL K H p xs/\xs.length<64 /\
 ∀H2,LamUp H H2->tCompR (Itp xs.length λj=>xs.getD j .non) (gName 0) tTrue te (uD::lS fr σ) H2 λb H3=>mSrt K xs b H3 Q
theorem zhf_:∀{a b:List Int},HT.lexLt a b=uE->HT.lexLt b a=uF
 |[],[],h=>by cases h
 |[],_::_,_=>rfl
 |_::_,[],h=>by cases h
 |x::a,y::b,h=>by
  rw[HT.lexLt_cons]at h ⊢;by_cases e:x=y
  ·rw[if_pos e]at h;rw[if_pos e.symm];exact zhf_ h
  ·rw[if_neg e]at h;rw[if_neg (oO e)]
   have:=of_decide_eq_true h;exact decide_eq_false (by lia)
theorem zl1_:∀{a b c:List Int},HT.lexLt b a=uF->HT.lexLt c b=uF->HT.lexLt c a=uF
 |[],_,[],_,_=>rfl
 |[],_,_::_,_,_=>rfl
 |_::_,[],_,h,_=>by cases h
 |_::_,_::_,[],_,g=>by cases g
 |x::a,y::b,z::c,h,g=>by
  rw[HT.lexLt_cons]at h g ⊢;by_cases e:y=x
  ·rw[if_pos e]at h
   by_cases e2:z=y
   ·rw[if_pos e2]at g;rw[if_pos (e2.trans e)];exact zl1_ h g
   ·rw[if_neg e2]at g;rw[if_neg (λz'=>e2 (z'.trans e.symm))];rw[<- e];exact g
  ·rw[if_neg e]at h
   have h':=of_decide_eq_false h;by_cases e2:z=y
   ·rw[if_neg (λz'=>e (e2.symm.trans z'))];rw[e2];exact h
   ·rw[if_neg e2]at g
    have g':=of_decide_eq_false g;rw[if_neg (by lia)];exact decide_eq_false (by lia)
theorem zgf_ (ak:List (List Int)):WOr (ltKs ak):=⟨λh=>zhf_ h,λh g=>zl1_ h g⟩
def cdB (K:Fgg)(c P:kz):Bool:=match K.lookup c with
 |some ⟨.type T,_,.fields vs,_⟩=>T=="code" && vs[11]?==uC (.ref P) && (match vs.getD 18 .none,vs.getD 7 .none,vs.getD 9 .none,vs.getD 10 .none with |.str _ _,.int _ _,.bool _,.int _ _=>uE |_,_,_,_=>uF) && c != P
 |_=>uF
theorem cd_hd {K:Fgg}{h:Heap}{c P:kz}(X:K.In h)(e:cdB K c P=uE):CodeHd h c P:=by
 unfold cdB at e;split at e
 ·rename_i T od vs sl lk
  simp only[kl]at e;obtain⟨⟨⟨e1,e2⟩,e3⟩,e4⟩:=e;have e2:vs[11]?=uC (.ref P):=eq_of_beq e2;split at e3
  ·rename_i z1 z2 z3 z4
   exact⟨_,vs,_,_,_,_,_,_,_,X _ _ lk,by rw[eq_of_beq e1],rfl,e2,by rw[mP,e2];rfl,z1,z2,z3,z4,bne_iff_ne.mp e4⟩
  ·cases e3
 ·cases e
section
variable {X:Cx}{pins:Pnn}{σ:St}{H:Hp}{s:kn}{scope:Scope}{cl:List (Str×kz)}{p:Str}{fr:List (Str×Nat)}{qual name:Str}{f c':kz}{ae pm aE:aU}{params:Arguments}{body:k8}{x:V}{u:aU}{te:TE}{xs:List V}
theorem zgm_ {K:Fgg}:∀{ks:List V}{ak:List (List Int)},KeysAt K H ks ak->∀i,i<ks.length->∃a,ks.getD i .non=.ref a/\SqL K H a ((ak.getD i []).map V.int)
 |_,_,.nil,i,h=>by simp at h
 |_,_,.cons q_ r,0,h=>by obtain⟨a,e,q⟩:=q_;exact⟨a,e,q⟩
 |_,_,.cons _ r,i+1,h=>zgm_ r i (by simpa using h)
theorem zob_ {A:lY}{E:aU->kn->Prop}{l b:kz}{items ah:Array aU}{ns ms:List Int}{Q:Bool->kn->Prop}(hl:s.heap.IsList l items)(hb:s.heap.IsList b ah)(hi:IntsAre items.toList ns)(hj:IntsAre ah.toList ms)
  (hu:A.units<cLine) (h:Q (HT.lexLt ns ms) s):lC (model X.prog X.w) A (oneLt' uE (.ref l) (.ref b)) Q E s:=by
 obtain⟨⟨cls,dd,data,sl⟩,ho,hc,n,hd⟩:=id hl;obtain⟨⟨e_,bY,data2,bJ⟩,bx,a8,n2,hd2⟩:=id hb;simp only at hc hd a8 hd2;subst hc hd a8 hd2;rw[oneLt'_eq];simp only[if_true];refine kr (wpAny_cRoomFor hu ?_);refine kr (wpAny_callSpecialIfBound?_slot ⟨_,ho,rfl⟩ px (call_meets px ⟨_,ho,rfl⟩ qq (qk _ _) (zb9_ l b items ah n n2 dd bY sl bJ ns ms hi hj) ⟨ho,bx,?_⟩));exact lR h
theorem Un.lay {fs ex:List kz}{H H1:Hp}{h h1 h2:Heap}{a:kz}{o:HO}(u:Un fs ex H H1 h h1)(ha:h.objs.size<=a)(hn:H a=uD)(k:∀b o,b≠a->h1.get? b=uC o->h2.get? b=uC o):Un fs ex H (upd H1 a o) h h2 where
 keep:=λb ob q n hb hx=>k b ob (lB (lq (kJ q) ha)) (u.keep b ob q n hb hx)
 slot:=λb ob q n hb hx=>let⟨sl,e⟩:=u.slot b ob q n hb hx;⟨sl,k b _ (lB (lq (kJ q) ha)) e⟩
 free:=λb ob q n hx=>by rw[zc_ (lB (lq (kJ q) ha))];exact u.free b ob q n hx
 there:=λb ob q hx=>let⟨o',e⟩:=u.there b ob q hx;⟨o',k b _ (lB (lq (kJ q) ha)) e⟩
 tups:=λb xs q=>by rw[zc_ (zd_ q hn)];exact u.tups b xs q
 frzs:=λb ob v q=>by rw[zc_ (zd_ q hn)];exact u.frzs b ob v q
 tbls:=λb p' q' q=>by rw[zc_ (zd_ q hn)];exact u.tbls b p' q' q
theorem HOk.lay {P:lF}{w:lW}{H:Hp}{h h':Heap}{a:kz}{o:HO}(x:HOk P w H h)(hn:H a=uD)(k:∀b u,b≠a->h.get? b=uC u->h'.get? b=uC u)(new:ObjOk P w (upd H a o) h' a o):HOk P w (upd H a o) h':=λb u e=>by
 by_cases hb:b=a
 ·subst hb;rw[ze_]at e;cases e;exact new
 ·rw[zc_ hb]at e
  refine(x b u e).stay (λc v hc q=>k c v ?_ q) (λc q=>by rw[zc_ (zd_ q hn)];exact q) (λc xs q=>by rw[zc_ (zd_ q hn)];exact q) λc ob q=>by rw[zc_ (zd_ q hn)];exact q
  rcases hc with rfl |hc
  ·exact hb
  ·exact zd_ hc hn
theorem zme_ {lt:Nat->Nat->Bool}{n:Nat}{p:Array Nat}(h:Pm p n/\As lt p n):SrtS lt n p.toList:=by
 refine⟨h.1,mL.mpr λi j hi hj aJ=>?_⟩
 have hs:=zbj_ h.1;rw[mm]at hi hj;have:=h.2 i j aJ (by lia)
 have e:∀k (hk:k<p.size),p.getD k 0=p.toList[k]'(by simpa using hk):=λk hk=>by simp[qY,hk]
 rwa[e i hi,e j hj]at this
theorem zgE_ {Q:VK}{o oc:sX}{P D:kz}{a_:Array aU}{ct:Tok}{vs:List aU}{hA:Heap}{E:aU->kn->Prop}(I:Inv X pins σ H s)(S:LScope X scope cl p fr)(hh:X.A.handled=uD)(aH:X.A.depth<recursionLimit)(hu:X.A.units+10<cLine)
  (ho:s.heap.get? f=uC o) (cY:o.data=.func (sJ name qual params body scope cl pm (.ref c') aE)) (hf:H f=uD) (aC:H c'=uC (.frz oc (.own P))) (av:oc.data=.fields a_) (cJ:a_[1]?=uC (.str qual ct))
  (hb:∀u,bindArgs (sJ name qual params body scope cl pm (.ref c') aE) ⟨[u],[]⟩=pure [(p,u)])
  (he:∀f ae s2 H2,PE (cxLam X X.A.in1.in1 qual scope cl f ae (p::fr.map (·.1)) s2 H2) body te)
  (rv:Vals xs vs) (de:xs.length<64) (dS:∀b o,s.heap.get? b=uC o->hA.get? b=uC o) (hD:hA.get? D=uC (seqObj "list" vs.toArray 0)) (fJ:s.heap.objs.size<=D)
  (q:tCompR (Itp xs.length λj=>xs.getD j .non) (gName 0) tTrue te (uD::lS fr σ) H λb H3=>mSrt X.K xs b H3 Q):
  lC (model X.prog X.w) X.A.in1.in1 (ksk_tree D (.ref f) uF) (λfin s'=>fin=.done (.ret .none)/\∃H',Inv X pins σ H' s'/\Q (.ref D) H') E {s with heap:=hA}:=by
 have hlen:=rv.length;have ki:s.heap.objs.size<=hA.objs.size:=mG fJ (nQ (kJ hD));have s1:=oN hA D (lH λ_=>(#[]:Array aU))
 obtain⟨e1,d7⟩:∃e1,(hA.update D (lH λ_=>(#[]:Array aU))).get? D=uC (seqObj "list" #[] e1):=⟨_,get?_update_seq hD λ_=>#[]⟩
 have nD:∀b o,s.heap.get? b=uC o->b≠D:=λb o e=>lB (lq (kJ e) fJ)
 unfold ksk_tree;refine kr (listItems_at hD rfl ?_);refine kr (listUpdate_at hD rfl ?_ (by rw[ky,sizeLine_eq];lia) (l5 _))
 refine kr (seqEpoch_at (s:={s with heap:=hA.update D (lH λ_=>(#[]:Array aU))}) d7 rfl ?_)
 refine kr (wpAny_newTuple ?_ (by show vs.length<=_;rw[sizeLine_eq];lia))
 refine kr (wpAny_newList ?_ (l5 _));refine wpAny_holding ?_;have dC:((hA.update D (lH λ_=>(#[]:Array aU))).push (seqObj "tuple" vs.toArray 0)).objs.size=hA.objs.size+1:=by rw[size_push',rM]
 show lC (model X.prog X.w) X.A.in1.in1 (ksk_rest D (.ref f) uF vs.toArray e1 (.ref ((hA.update D (lH λ_=>(#[]:Array aU))).push (seqObj "tuple" vs.toArray 0)).objs.size)) _ E {s with heap:=((hA.update D (lH λ_=>(#[]:Array aU))).push (seqObj "tuple" vs.toArray 0)).push (seqObj "list" #[] 0)}
 have bp:(((hA.update D (lH λ_=>(#[]:Array aU))).push (seqObj "tuple" vs.toArray 0)).push (seqObj "list" #[] 0)).get? ((hA.update D (lH λ_=>(#[]:Array aU))).push (seqObj "tuple" vs.toArray 0)).objs.size=uC (seqObj "list" #[] 0):=ll _ rfl
 have bh:∀b o,s.heap.get? b=uC o->(((hA.update D (lH λ_=>(#[]:Array aU))).push (seqObj "tuple" vs.toArray 0)).push (seqObj "list" #[] 0)).get? b=uC o:=λb o e=>kq _ (kq _ ((s1.2 b (nD b o e)).trans (dS b o e)))
 have eX:(((hA.update D (lH λ_=>(#[]:Array aU))).push (seqObj "tuple" vs.toArray 0)).push (seqObj "list" #[] 0)).get? D=uC (seqObj "list" #[] e1):=kq _ (kq _ d7)
 rw[dC]at bp ⊢
 generalize kf:((hA.update D (lH λ_=>(#[]:Array aU))).push (seqObj "tuple" vs.toArray 0)).push (seqObj "list" #[] 0)=h2 at bp bh eX ⊢
 have fL:D≠hA.objs.size+1:=lB (oy (kJ hD));have d9:s.heap.objs.size<=hA.objs.size+1:=by lia
 generalize hA.objs.size+1=kS at bp fL d9 ⊢
 have fF:H kS=uD:=I.hok.fresh d9;have fK:H D=uD:=I.hok.fresh fJ;have I2:Inv X pins σ (upd H kS (.lst [])) {s with heap:=h2}:=I.laid (t':=s.toks) bh d9 ⟨l5 _,[],0,.nil,bp⟩;obtain⟨W,⟨m0,w0⟩,turn⟩:=q kS fF;have iV:f≠kS:=lB (lq (kJ ho) d9);have bx:h2.get? f=uC o:=bh _ _ ho;have jD:upd H kS (.lst []) f=uD:=by rw[zc_ iV];exact hf
 have a8:upd H kS (.lst []) c'=uC (.frz oc (.own P)):=by rw[zc_ (zd_ aC fF)];exact aC
 have eW:upd H kS (.lst []) D=uD:=by rw[zc_ fL];exact fK
 have jP:D∉frs X.stack:=λz=>by
  have:=(I.stack.mem z);obtain⟨_,o',e',_⟩:=this;exact nD _ _ e' rfl
 unfold ksk_rest;refine kr (wpAny_rule ?_)
 first
  |rw[List.forIn_toArray]
  |(rw[<- Array.forIn_toList];simp only[List.toList_toArray])
 refine kr (ksk_fold (λj s'=>∃H' ys m τ,s'.os=s.os/\AllBare s'.gens/\Un (frs X.stack) [] (upd H kS (.lst [])) H' h2 s'.heap/\HOk X.prog X.w H' s'.heap/\W j m ys (τ::lS fr σ) H') vs 0 {s with heap:=h2}
  ⟨_,[],m0,uD,rfl,I2.bare,Un.refl,I2.hok,w0⟩ ?step ?done)
 case step=>
  rintro j v s' hx ⟨H',ys,m,τ,os,bare,un,hok,w1⟩;simp only[rA]at w1 ⊢;have hj:j<vs.length:=(lg.mp hx).1;have J:Inv X pins σ H' s':=I2.call' (s':=s') os un hok bare (λb z=>absurd z (by simp))
  rcases turn j m ys _ H' w1 with⟨st,_⟩|⟨go,N,hN,step⟩
  ·exact absurd (show xs.length<=j from st) (by lia)
  ·obtain⟨xv,ev,rx⟩:∃xv,xs.getD j .non=xv/\RelV xv v:=by
    have fG:j<xs.length:=by lia
    obtain⟨u,e1,e2⟩:=rv.get (km fG);rw[hx]at e1;cases e1;exact⟨_,rfl,by rw[kE,km fG];exact e2⟩
   have dH:=step xv H' ⟨rfl,ev.symm⟩;have q1:te (uC xv::lS fr σ) H' λk H4=>H4 kS=uC (.lst ys)/\ys.length<kR/\N (ys++[k]) (uC xv::lS fr σ) (upd H4 kS (.lst (ys++[k]))):=by
    have z:=dH;simp only[gName,tTrue,oq,if_true]at z;exact z
   obtain⟨sl,aI⟩:=un.any bx jD (by simp)
   have jG:s'.heap.CodeRec (.ref c') qual:=by
    obtain⟨e',_⟩:=hok c' _ (un.frzs _ _ _ a8);exact⟨c',oc,a_,ct,rfl,e',av,cJ⟩
   refine kr (wpAny_attempt (mF (zkv_ (A:=X.A.in1.in1) J S J.ok.frames hh aH aI cY jG (hb v) rx he q1) (λku s4 jE=>?_) λ_ _ hF=>hF.elim))
   obtain⟨k,H4,os4,bare4,un4,hok4,rk,hk4,hl4,n4⟩:=jE;dsimp only;obtain⟨z,aa,n,ri,ek⟩:=hok4 kS _ hk4;have sb:=oN s4.heap kS (lH (·.push ku));obtain⟨c2,hc2'⟩:∃c2,(s4.heap.update kS (lH (·.push ku))).get? kS=uC (seqObj "list" (aa.toArray.push ku) c2):=⟨_,get?_update_seq (c:="list") ek (·.push ku)⟩;have kp:∀b u,b≠kS->s4.heap.get? b=uC u->(s4.heap.update kS (lH (·.push ku))).get? b=uC u:=λb u hb e=>(sb.2 b hb).trans e
   have hil:aa.toArray.size=ys.length:=by rw[ky,ri.length]
   refine kr (listUpdate_at ek rfl ?_ (by rw[hil];lia) (by show(aa.toArray.push ku).size<=_;rw[Array.size_push,hil];lia))
   obtain⟨m',hm',w'⟩:=hN _ _ _ n4;have mu:Mut (H4 kS):=by rw[hk4];exact mJ
   refine lj ⟨rfl,_,_,m',uC xv,os4.trans os,bare4,un.trans (un4.trans (Un.write mu (.inl rfl) kp ⟨_,hc2'⟩)),?_,w'⟩;refine hok4.write mu (.inl rfl) kp ⟨_,hc2'⟩ ⟨by rw[kX,nG];lia,aa++[ku],c2,ri.append (.cons rk .nil),?_⟩
   rw[hc2'];simp
 case done=>
  rintro s' ⟨H',ys,m,τ,os,bare,un,hok,w1⟩;rw[rA]at w1;rcases turn _ m ys _ H' w1 with⟨_,kS',ks,ak,ekS,hk,iz,hka,fin⟩|⟨go,_⟩
  rotate_left
  ·exact absurd (show vs.length<xs.length from go) (by lia)
  cases ekS;obtain⟨z,aa,n,ri,ek⟩:=hok kS _ hk;have hil:aa.length=vs.length:=by rw[<- ri.length];lia
  have dc:s'.heap.get? D=uC (seqObj "list" #[] e1):=un.keep _ _ eX eW jP (by simp)
  refine kr (listItems_at ek rfl ?_)
  have tl:∀(st:SortSt) (idx:List Nat),(arrOf st).map (·.2)=(idx.map λi=>vs.getD i mR).toArray->failedOf st=uD->SrtS (ltKs ak) xs.length idx ->
    lC (model X.prog X.w) X.A.in1.in1 (ksk_tail D uF e1 (.ref kS) st) (λfin s'=>fin=.done (.ret .none)/\∃H',Inv X pins σ H' s'/\Q (.ref D) H') E s':=by
   intro st idx gN eE bA;have fH:∀j∈idx,j<xs.length:=λj hj=>lO.mp (bA.1.mem_iff.mp hj)
   have ip:idx.length=xs.length:=by rw[bA.1.length_eq,lZ]
   have sk:=oN s'.heap kS (lH λ_=>(#[]:Array aU))
   obtain⟨c2,hk2⟩:∃c2,(s'.heap.update kS (lH λ_=>(#[]:Array aU))).get? kS=uC (seqObj "list" #[] c2):=⟨_,get?_update_seq (c:="list") ek λ_=>#[]⟩
   have dE:(s'.heap.update kS (lH λ_=>(#[]:Array aU))).get? D=uC (seqObj "list" #[] e1):=(sk.2 D fL).trans dc
   unfold ksk_tail;dsimp only;rw[gN,eE];refine kr (listUpdate_at ek rfl ?_ (by rw[ky,hil,sizeLine_eq];lia) (l5 _))
   refine kr (wpAny_letGo ?_);refine kr (seqEpoch_at (s:={s' with heap:=s'.heap.update kS (lH λ_=>(#[]:Array aU))}) dE rfl ?_)
   refine kr (listUpdate_at (s:={s' with heap:=s'.heap.update kS (lH λ_=>(#[]:Array aU))}) dE rfl ?_ (l5 _) (by
    simp only[pN,if_false,ky,ko];rw[ip,sizeLine_eq];lia))
   simp only[bne_self_eq_false,pN,if_false];have sd:=oN (s'.heap.update kS (lH λ_=>(#[]:Array aU))) D (lH λ_=>(idx.map λi=>vs.getD i mR).toArray)
   obtain⟨c3,hd2⟩:∃c3,((s'.heap.update kS (lH λ_=>(#[]:Array aU))).update D (lH λ_=>(idx.map λi=>vs.getD i mR).toArray)).get? D=uC (seqObj "list" (idx.map λi=>vs.getD i mR).toArray c3):=⟨_,get?_update_seq dE λ_=>(idx.map λi=>vs.getD i mR).toArray⟩
   have mu:Mut (H' kS):=by rw[hk];exact mJ
   have k1:∀b u,b≠kS->s'.heap.get? b=uC u->(s'.heap.update kS (lH λ_=>(#[]:Array aU))).get? b=uC u:=λb u hb e=>(sk.2 b hb).trans e
   have k2:∀b u,b≠D->(s'.heap.update kS (lH λ_=>(#[]:Array aU))).get? b=uC u->((s'.heap.update kS (lH λ_=>(#[]:Array aU))).update D (lH λ_=>(idx.map λi=>vs.getD i mR).toArray)).get? b=uC u:=λb u hb e=>(sd.2 b hb).trans e
   have eV:H' D=uD:=un.free _ _ eX eW (by simp)
   have u1:Un (frs X.stack) [] H (upd H' kS (.lst [])) s.heap (s'.heap.update kS (lH λ_=>(#[]:Array aU))):=(Un.laid bh d9 fF).trans (un.trans (Un.write mu (.inl rfl) k1 ⟨_,hk2⟩))
   have o1:HOk X.prog X.w (upd H' kS (.lst [])) (s'.heap.update kS (lH λ_=>(#[]:Array aU))):=hok.write mu (.inl rfl) k1 ⟨_,hk2⟩ ⟨l5 _,[],c2,.nil,hk2⟩
   have o2:=o1.lay (a:=D) (o:=.lst (idx.map λi=>xs.getD i .non)) (by rw[zc_ fL];exact eV) k2 ⟨by rw[ko,ip,sizeLine_eq];lia,_,c3,zhw_ rv idx (λj hj=>by rw[<- hlen];exact fH j hj),hd2⟩
   exact lj ⟨rfl,_,I.call' (s':={s' with heap:=(s'.heap.update kS (lH λ_=>(#[]:Array aU))).update D (lH λ_=>(idx.map λi=>vs.getD i mR).toArray)}) os (u1.lay fJ fK k2) o2 bare (λb z=>absurd z (by simp)),fin idx bA D eV⟩
  have J:Inv X pins σ H' s':=I2.call' (s':=s') os un hok bare (λb z=>absurd z (by simp))
  have bO:∀i,i<vs.length->∃a bP,aa.getD i mR=.ref a/\IntsAre (rq bP).toList (ak.getD i [])/\PlainL s'.heap a bP.toArray:=λi hi=>by
   obtain⟨a,e,sq⟩:=zgm_ hka i (by lia)
   obtain⟨bP,rK,pK,_⟩:=J.list sq;obtain⟨y,ey,ry,_⟩:=zeQ_ ri (show i<aa.length by lia)
   rw[kE,ey]at e;cases e;exact⟨a,bP,ry,zbU_ rK,pK⟩
  unfold ksk_end;simp only[pN,if_false];by_cases aL:vs.toArray.size<2
  ·rw[if_pos aL,if_pos aL]
   refine kr (lj ?_);rw[StateT.run_pure];refine kr (lj ?_);rw[ky]at aL;refine tl _ (lG vs.length) ?_ rfl ⟨by rw[hlen],?_⟩
   ·apply Array.toList_inj.mp
    show((aa.toArray.zip vs.toArray).map (·.2)).toList=(lG vs.length).map λi=>vs.getD i mR
    rw[Array.toList_map,Array.toList_zip];show(aa.zip vs).map (·.2)=_
    rw[p8 (by lia)]
    apply oX;intro i;by_cases hi:i<vs.length
    ·simp[hi]
    ·simp[nH,hi,pf hi]
   ·rcases(show vs.length=0\/vs.length=1 by lia)with e |e
    ·rw[e];exact .nil
    ·rw[e];exact List.pairwise_singleton _ _
  ·rw[if_neg aL,if_neg aL]
   rw[ky]at aL;refine kr (kas_kind (vs:=aa) (T:=.type "list") (by lia) (λv hv=>?_) rfl rfl ?_)
   ·obtain⟨i,hi,rfl⟩:=pG hv
    obtain⟨a,bP,e,_,pK⟩:=bO i (by lia)
    rw[kE,km hi]at e;have e:aa[i]=.ref a:=e;rw[e];obtain⟨o',hoK,hcK,_⟩:=pK.isList;exact hcK ▸ (Looks.ld hoK).andThen .now
   ·refine kr (mF (kat_run (ks:=aa) (vs:=vs) (Q:=λst' cp=>cp=s'/\∃p:Array Nat,p.size=vs.length/\arrOf st'=p.map (kas_item (aa.toArray.zip vs.toArray))/\failedOf st'=uD/\(Pm p vs.length/\As (ltKs ak) p vs.length)) (G:=λp cp=>cp=s'/\(Pm p vs.length/\As (ltKs ak) p vs.length))
     hil (by lia) (by lia) (λp' st' cp a1 a2 a3 a4=>⟨a4.1,p',a1,a2,a3,a4.2⟩) (znZ_ (P:=λr=>Pm r vs.length/\As (ltKs ak) r vs.length) (λi j C hi hj hC=>?_) (λp hp=>⟨rfl,hp⟩) _ (zkX_ (zgf_ ak) (by lia)))) ?_ λ_ _ e=>e)
    ·obtain⟨a,k1,ea,i1,p1⟩:=bO i hi
     obtain⟨b,k2,eb,i2,p2⟩:=bO j hj;unfold kas_ask;rw[keyLt'_oneType,ea,eb];exact zob_ (X:=X) p1.isList p2.isList i1 i2 (by show X.A.units+1+1<_;lia) hC
    ·rintro⟨⟨⟩,st'⟩ cp ⟨rfl,p,hp,gN,hf',hpp⟩
     exact tl st' p.toList (kat_snds hil gN) hf' (by rw[hlen];exact zme_ hpp)
theorem zhv_ {Q:VK}{o oc:sX}{P l:kz}{a_:Array aU}{ct:Tok}(I:Inv X pins σ H s)(S:LScope X scope cl p fr)(hh:X.A.handled=uD)(aH:X.A.depth<recursionLimit)(hu:X.A.units+10<cLine)
  (ho:s.heap.get? f=uC o) (cY:o.data=.func (pM name qual params body scope cl pm (.ref c') aE)) (hf:H f=uD) (aC:H c'=uC (.frz oc (.own P))) (av:oc.data=.fields a_) (cJ:a_[1]?=uC (.str qual ct))
  (hb:∀u,bindArgs (pM name qual params body scope cl pm (.ref c') aE) ⟨[u],[]⟩=pure [(p,u)])
  (he:∀f ae s2 H2,PE (cxLam X X.A.in1.in1 qual scope cl f ae (p::fr.map (·.1)) s2 H2) body te)
  (hl:SqL X.K H l xs) (de:xs.length<64)
  (q:tCompR (Itp xs.length λj=>xs.getD j .non) (gName 0) tTrue te (uD::lS fr σ) H λb H3=>mSrt X.K xs b H3 Q):
  lC (model X.prog X.w) X.A (call (.builtin "sorted") [.ref l] [(oF "key",.ref f)]) (EP X pins σ Q) X.xe s:=by
 obtain⟨vs,rv,pl,hz⟩:=I.list hl;have hlen:=rv.length;refine call_function_entry_kw kind_sorted plain_sorted entry_sorted (ksk_s1 _ _) ?_;unfold rm.«sorted»;refine kr (m:=checkCount "sorted" 1 1 _) (lj ?_);refine kr (collect_list pl.isList ?_ (by rw[sizeLine_eq];lia))
 refine kr (wpAny_newList ?_ (by rw[sizeLine_eq];lia))
 have hsz:((s.heap.push (seqObj "list" #[] 0)).update s.heap.objs.size (lH (·++vs.toArray))).objs.size=s.heap.objs.size+1:=by
  rw[rM,size_push']
 have cH:(((s.heap.push (seqObj "list" #[] 0)).update s.heap.objs.size (lH (·++vs.toArray))).push (seqObj "list" vs.toArray 0)).get? (s.heap.objs.size+1)=uC (seqObj "list" vs.toArray 0):=by
  rw[<- hsz];exact ll _ rfl
 have keep:∀b o,s.heap.get? b=uC o->(((s.heap.push (seqObj "list" #[] 0)).update s.heap.objs.size (lH (·++vs.toArray))).push (seqObj "list" vs.toArray 0)).get? b=uC o:=λb o q=>by
  have aA:b<s.heap.objs.size:=kJ q;rw[rB _ _ _ (by rw[hsz];exact lB (oy aA)),Heap.get?_update_ne _ _ _ _ (lB aA),rB _ _ _ (lB aA)]
  exact q
 show lC _ _ _ _ _ {s with heap:=((s.heap.push (seqObj "list" #[] 0)).update s.heap.objs.size (lH (·++vs.toArray))).push (seqObj "list" vs.toArray 0)}
 rw[hsz];refine kr (wpAny_holding (wpAny_call_entry_kw slot_list_sort ⟨_,cH,rfl⟩ entry_list_sort ?body (ksk_l1 _ _)))
 case body=>
  show lC (model X.prog X.w) X.A.in1.in1 (rm.«list.sort» ⟨[.ref (s.heap.objs.size+1)],[(oF "key",.ref f)]⟩) _ _ _
  rw[ksk_t1];refine mF (zgE_ I S hh aH hu ho cY hf aC av cJ hb he rv de keep cH (nR _) q) (λfin s' ⟨e,H',I',q'⟩=>⟨_,e,?_⟩) λ_ _ z=>z
  exact lj ⟨_,rfl,.ref (s.heap.objs.size+1),H',I',rfl,q'⟩
theorem zjZ_ {Q:aU->kn->Prop}{E:aU->kn->Prop}{A:lY}{c P:kz}{pos:Pos}{fl:Nat}(I:Inv X pins σ H s)(S:LScope X scope cl p fr)(bt:X.env.code=.ref c)(C:CodeHd X.base c P)(hP:H P=uC (.tbl pos qual))
  (h:∀f c' aE oc a_ ct H2 s2 o,Inv X pins σ H2 s2->LamUp H H2->s2.heap.get? f=uC o->o.data=.func (pM name qual params body scope cl ((X.mg "__name__").getD .none) (.ref c') aE)->H2 f=uD ->
   H2 c'=uC (.frz oc (.own P))->oc.data=.fields a_->a_[1]?=uC (.str qual ct)->Q (.ref f) s2):
  lC (model X.prog X.w) A (makeFunction name qual params (.expr body) scope X.env [] [] [] pos fl) Q E s:=by
 obtain⟨ps,hp,ht,hq⟩:=I.hok P _ hP;have CH:CodeHd s.heap c P:=C.keeps I.bk;have gB:s.heap.Ns lh X.mg:=I.ok.mod.glob.keeps I.bk;obtain⟨bm,ob,b1,b2,b3,b4,b5,b6⟩:=I.ok.mod.bm;have jz:lh≠P:=λz=>by
  obtain⟨o,es,ep,e,hd,_⟩:=gB;rw[z,hp]at e;cases e;cases hd
 have iB:bm≠P:=λz=>by
  have e:=I.bk _ _ b3;rw[z,hp]at e;cases e;cases b4
 have iC:bm≠lh:=λz=>by
  obtain⟨o,es,ep,e,hd,_⟩:=I.ok.mod.glob;rw[z,e]at b3;cases b3;rw[hd]at b6;cases b6
 cases hf:codeAmong pos ps.toList with
 |some cv=>
  obtain⟨c',oc,a_,ct,rfl,q1,q2,q3⟩:=hq cv hf;refine kla_makeFunctionHit (zbL_ S.clos) I.ok.glob gB bt CH hp ht hf ⟨bm,ob,b1,b2,iC,iB,I.bk _ _ b3,b4,b5,b6⟩ λaE h' tk hk hsz=>?_
  have kp:∀b u,s.heap.get? b=uC u->(h'.push {cls:=.type "function",data:=.func (pM name qual params body scope cl ((X.mg "__name__").getD .none) (.ref c') aE)}).get? b=uC u:=λb u e=>kq _ (hk b u e)
  exact h h'.objs.size c' aE oc a_ ct H _ _ (I.kept (t':=tk) kp) (.inl rfl) (ll _ rfl) rfl (I.hok.fresh hsz) q1 q2 q3
 |none=>
  refine kla_makeFunction (zbL_ S.clos) I.ok.glob gB bt CH hp ht hf jz ⟨bm,ob,b1,b2,iC,iB,I.bk _ _ b3,b4,b5,b6⟩ λc' aE h' tk hx gC aA gq i9=>?_
  obtain⟨c₂,oc,a_,ct,e2,hoc,q2,q3⟩:=gq;cases e2;have gI:H c'=uD:=I.hok.fresh gC;have kg:P≠c':=zd_ hP gI;have kp:∀b u,b≠P->s.heap.get? b=uC u->(h'.push (kla_obj name qual params body scope cl ((X.mg "__name__").getD .none) c' aE)).get? b=uC u:=λb u hb e=>kq _ (hx b u hb e)
  have nP:∀b,H b=uD->b≠P:=λb n z=>by rw[z,hP]at n;cases n
  have nc:∀b u,H b=uC u->b≠c':=λb u e=>zd_ e gI
  have iD:(h'.push (kla_obj name qual params body scope cl ((X.mg "__name__").getD .none) c' aE)).get? P=uC (tabObj (ps++#[rawInt pos.line,rawInt pos.col,.ref c'])):=kq _ i9;have tl:(ps++#[rawInt pos.line,rawInt pos.col,.ref c']).toList=ps.toList++[rawInt pos.line,rawInt pos.col,.ref c']:=by simp
  have u:Un X.fs [] H (upd H c' (.frz oc (.own P))) s.heap (h'.push (kla_obj name qual params body scope cl ((X.mg "__name__").getD .none) c' aE)):=by
   refine⟨λb o q n _ _=>kp b o (nP b n) q,λb o q n _ _=>⟨o.slots,kp b o (nP b n) q⟩,λb o q n _=>?_,λb o q _=>?_,λb xs q=>?_,λb o v q=>?_,λb p' q' q=>?_⟩
   ·rw[zc_ (lB (lq (kJ q) gC))];exact n
   ·by_cases hb:b=P
    ·rw[hb];exact⟨_,iD⟩
    ·exact⟨o,kp b o hb q⟩
   ·rw[zc_ (nc b _ q)];exact q
   ·rw[zc_ (nc b _ q)];exact q
   ·rw[zc_ (nc b _ q)];exact q
  have hok:HOk X.prog X.w (upd H c' (.frz oc (.own P))) (h'.push (kla_obj name qual params body scope cl ((X.mg "__name__").getD .none) c' aE)):=λb v e=>by
   by_cases hb:b=c'
   ·subst hb
    rw[ze_]at e;cases e;have z:=kq (kla_obj name qual params body scope cl ((X.mg "__name__").getD .none) b aE) hoc;exact⟨z,_,z⟩
   ·rw[zc_ hb]at e
    by_cases hbP':b=P
    ·subst hbP'
     rw[hP]at e;cases e;refine⟨_,iD,?_,λcv cJ=>?_⟩
     ·rw[tl];exact TriplesOk_snoc _ _ _ _ ht
     ·rw[tl,codeAmong_snoc _ ht hf]at cJ
      cases cJ;exact⟨c',oc,a_,ct,rfl,ze_,q2,q3⟩
    ·refine(I.hok b v e).stay (λd w hd q=>kp d w ?_ q) (λd q=>by rw[zc_ (nc d _ q)];exact q) (λd xs q=>by rw[zc_ (nc d _ q)];exact q) λd ob q=>by rw[zc_ (nc d _ q)];exact q
     rcases hd with rfl |hd
     ·exact hbP'
     ·rintro rfl
      rw[hP]at hd;cases hd
  refine h h'.objs.size c' aE oc a_ ct _ _ _ (I.un (t':=tk) u hok) (.inr ⟨c',_,gI,rfl⟩) (ll _ rfl) rfl ?_ ze_ q2 q3;rw[zc_ (oE aA)];exact I.hok.fresh (mG gC (nQ aA))
theorem LamUp.same {H H2:Hp}(h:LamUp H H2):Same H H2:=λb o e=>by
 rcases h with rfl |⟨c,o',hn,rfl⟩
 ·exact e
 ·rw[zc_ (zd_ e hn)];exact e
theorem zjU_ {i:Nat}{y:Str}{p0 p1 cP bM pos:Pos}{c P:kz}(S:LScope X scope cl p fr)(hh:X.A.handled=uD)(aH:X.A.depth<recursionLimit)(hu:X.A.units+10<cLine)
  (bt:X.env.code=.ref c) (C:cdB X.K c P=uE) (bU:lamK X.K=uC (P,bM,X.env.qual ++ "<lambda>")) (hm:X.mg "sorted"=uD) (hg:Gl X "sorted") (hy:PE X (.Name y p1) (mVar i)) (hd:defaultsOf params X.env=([],[]))
  (hb:∀pm c' aE u,bindArgs (pM "<lambda>" (X.env.qual ++ "<lambda>") params body scope cl pm (.ref c') aE) ⟨[u],[]⟩=pure [(p,u)])
  (he:∀f ae s2 H2,PE (cxLam X X.A.in1.in1 (X.env.qual ++ "<lambda>") scope cl f ae (p::fr.map (·.1)) s2 H2) body te):
  PE X (.Call (.Name "sorted" p0) [.Name y p1] [⟨uC "key",.Lambda params body scope bM,cP⟩] pos) (tSrt X.K fr i te):=by
 intro pins s σ H Q I h;obtain⟨a,xs,hσ,hl,de,q⟩:=h;refine nz (zdB_ (u:=.builtin "sorted") I hg hm rfl ?_);refine callWith_kw ?_;have pa:PA X [.Name y p1] (tCons (mVar i) tNil):=zbH_ hy zfA_;refine thn (pa pos pins s σ H (λvs H1=>vs=[V.ref a]/\H1=H) I ?_) λus s1 ⟨vs,H1,I1,r1,e1,e2⟩=>?_
 ·show mVar i σ H _
  unfold mVar;rw[hσ];exact⟨rfl,rfl⟩
 ·subst e1 e2
  obtain⟨u,rfl,ru⟩:=vals1 r1;cases ru;refine kws_cons (kla_eval hd (zjZ_ I1 S bt (cd_hd I1.mod.kin C) (I1.tb _ _ _ bU) λf c' aE oc a_ ct H2 s2 o I2 up ho cY hf aC av cJ=>kws_nil ?_))
  have fE:SqL X.K H2 a xs:=up.same.seq hl;exact zhv_ I2 S hh aH hu ho cY hf aC av cJ (hb _ _ _) he fE de (q H2 up)
end
def Fl (K:Fgg)(pos:Pos):Prop:=∃c P,so K "put_in_order"=uC (c,P)/\cdB K c P=uE/\lamK K=uC (P,pos,oF "put_in_order" ++ ".<locals>." ++ "<lambda>")
theorem Fl.mk_ {K:Fgg}{pos:Pos}{f c P:kz}{oc:aU}{od fT:Option kz}{fd:mz}{vs:Array aU}{aq fS:Array (Option aU)}{a1:k8}{a2:List k8}{a3:Option Str}{a4 a5 a6:Pos}{b1:Arguments}{b2:k8}{b3:Scope}
  (h:mY K lh "put_in_order"=uC (uC (.ref f))) (l:K.lookup f=uC ⟨oc,od,.func fd,aq⟩) (e1:fd.code=.ref c) (l2:K.lookup c=uC ⟨.type "code",fT,.fields vs,fS⟩) (e2:vs[11]?=uC (.ref P))
  (e3:(match vs.getD 18 .none,vs.getD 7 .none,vs.getD 9 .none,vs.getD 10 .none with |.str _ _,.int _ _,.bool _,.int _ _=>uE |_,_,_,_=>uF)=uE) (e4:(c != P)=uE) (e5:fd.qualname="put_in_order")
  (e6:fd.body=.stmts [.Return (uC (.Call a1 a2 [⟨a3,.Lambda b1 b2 b3 pos,a4⟩] a5)) a6]):Fl K pos:=by
 have t:so K "put_in_order"=uC (c,P):=by
  unfold so;rw[h];dsimp only;rw[l];dsimp only;rw[e1];dsimp only;rw[l2];dsimp only;rw[e2]
 refine⟨c,P,t,?_,?_⟩
 ·unfold cdB
  rw[l2];dsimp only;rw[e2,e3,e4];simp
 ·unfold lamK
  rw[h];dsimp only;rw[l];dsimp only;rw[e6,t,e5]
def lamPos (st:lV):Pos:=match defBody st with
 |[.Return (uC (.Call _ _ [⟨_,.Lambda _ _ _ pos,_⟩] _)) _]=>pos
 |_=>⟨0,0,0,0⟩
def EqL (K:Fgg)(H:Hp)(n:Nat):List V->List V->List Bool->Prop
 |[],[],[]=>True
 |x::xs,y::ys,b::bs=>EqD K H n x y b/\EqL K H n xs ys bs
 |_,_,_=>False
def mNeDL (K:Fgg):R2:=λx y H Q=>match x,y with
 |.ref p,.ref q=>∃(ks:List Key) (xs ys:List V) (bs:List Bool),H p=uC (.dK (ks.zip xs))/\H q=uC (.dK (ks.zip ys))/\ks.Nodup/\ks.length=xs.length/\ks.length=ys.length/\EqL K H 12 xs ys bs/\Q (.bl (!(bs.all id))) H
 |_,_=>False
theorem zmd_ {k:Key}{y:V}:∀{ks:List Key}{ys:List V}{i:Nat},ks.Nodup->ks[i]?=uC k->ys[i]?=uC y->valV (ks.zip ys) k=uC y
 |[],_,_,_,h,_=>by simp at h
 |_::_,[],_,_,_,h=>by simp at h
 |k0::ks,y0::ys,0,_,h,g=>by simp at h g;subst h g;simp[valV]
 |k0::ks,y0::ys,i+1,nd,h,g=>by
  obtain⟨n1,n2⟩:=ot.mp nd;have h':ks[i]?=uC k:=by simpa using h
  have ne:¬k0=k:=λz=>n1 (z ▸ mN h')
  have:=zmd_ (i:=i) n2 h' (by simpa using g)
  unfold valV at this ⊢;rw[lM,nv (by simpa using ne)];exact this
section
variable {X:Cx}{pins:Pnn}{σ:St}{H:Hp}{s:kn}
theorem zdz_ {A:lY}{kb:List (Key×V)}{vb:List (Key×aU)}(I:Inv X pins σ H s)(rb:KV kb vb)(hu:A.units+12<cLine):∀{ks:List Key}{xs ys:List V}{bs:List Bool}{va:List (Key×aU)},KV (ks.zip xs) va->ks.length=xs.length->EqL X.K H 12 xs ys bs ->
  (∀(i:Nat) k y,ks[i]?=uC k->ys[i]?=uC y->valV kb k=uC y)->W.KeqHits A s vb va (bs.all id)
 |[],xs,ys,bs,va,r,hl,e,hv=>by
  cases xs with
  |cons=>cases hl
  |nil=>
   cases ys with
   |cons=>exact e.elim
   |nil=>
    cases bs with
    |cons=>exact e.elim
    |nil=>unfold KV at r;cases r;exact .nil
 |k::ks,[],_,_,_,_,hl,_,_=>by cases hl
 |k::ks,x::xs,ys,bs,va,r,hl,e,hv=>by
  cases ys with
  |nil=>exact e.elim
  |cons y ys=>
   cases bs with
   |nil=>exact e.elim
   |cons b bs=>
    unfold KV at r;rw[lM]at r;cases r with
    | @cons _ w _ _ h t=>
     obtain⟨kw,vw⟩:=w;obtain⟨rfl,h2⟩:k=kw/\RelV x vw:=h;have g:=hv 0 k y rfl rfl;have rk:=rb.val k;rw[g]at rk;cases g2:valueAt vb k with
     |none=>rw[g2]at rk;exact rk.elim
     |some u=>
      rw[g2]at rk;rw[mi];exact .hit g2 (zdF_ I e.1 A _ _ hu h2 rk).1 (zdz_ I rb hu t (by simpa using hl) e.2 λi k' y' h1 h2=>hv (i+1) k' y' (by simpa using h1) (by simpa using h2))
theorem zmV_ (hu:X.A.units+60<cLine):OpR X (lp .NotEq) (mNeDL X.K):=by
 intro pins s σ H x y v u Q I rx ry h;unfold mNeDL at h;split at h
 ·cases rx;cases ry
  obtain⟨ks,xs,ys,bs,hp,hq,nd,lx,ly,e,h⟩:=h;obtain⟨_,la,va,ra,da⟩:=zlH_ I.hok hp;obtain⟨_,lb,vb,rb,db⟩:=zlH_ I.hok hq;refine W.keq_ne la lb da db (by lia) (λ_=>zdz_ I rb (by show X.A.units+1+12<_;lia) ra lx e λi k y h1 h2=>zmd_ nd h1 h2) ?_
  have el:va.length=vb.length:=by rw[<- ra.length,<- rb.length,mn,mn,<- lx,<- ly]
  rw[el,beq_self_eq_true,Bool.true_and];exact⟨.bl _,H,I,rfl,h⟩
 ·exact h.elim
end
end L2
namespace VI
open PySem PySem.Spec PyProof.Rows L2
inductive Nd where
 |tup |lst |dct (ks:List Key)|obj (c:Str) (ns:List Str)|scr |ktup
 deriving DecidableEq
inductive D where
 |non |bl (b:Bool)|int (i:Int)|str (l:List Nat)|nd (k:Nd) (ds:List D)|fz (d:D)|pin (v:V)|gone
def SqU (K:lK)(a:kz)(xs:List V):Prop:=∃(o:sX) (aa:Array aU) (n:Nat),K.lookup a=uC o/\o.cls=.type "tuple" /\ o.data=.seq aa n/\aa.size<=kR/\Vals xs aa.toList
def NdR (K:lK)(k:Nd)(p:kz)(us:List V)(H:Hp):Prop:=match k with
 |.tup=>H p=uC (.tup us)
 |.lst=>H p=uC (.lst us)
 |.scr=>SqL K H p us
 |.ktup=>SqU K p us
 |.dct ks=>H p=uC (.dK (ks.zip us))/\ks.length=us.length/\ks.Nodup
 |.obj c ns=>∃dx,H p=uC (.ins (gA K c) dx (ns.zip us))/\ns.length=us.length
theorem NdR.mono {K:lK}{k:Nd}{p:kz}{us:List V}{H H':Hp}(g:Same H H')(h:NdR K k p us H):NdR K k p us H':=by
 cases k with
 |tup=>exact g _ _ h
 |lst=>exact g _ _ h
 |scr=>exact g.seq h
 |ktup=>exact h
 |dct ks=>exact⟨g _ _ h.1,h.2⟩
 |obj c ns=>obtain⟨dx,e,l⟩:=h;exact⟨dx,g _ _ e,l⟩
mutual
def DR (K:lK):D->V->Hp->Prop
 |.non,v,_=>v=.non
 |.bl b,v,_=>v=.bl b
 |.int i,v,_=>v=.int i
 |.str l,v,_=>v=tx l
 |.nd k ds,v,H=>∃p us,v=.ref p/\NdR K k p us H/\DRs K ds us H
 |.fz d,v,H=>DR K d v H
 |.pin u,v,_=>v=u
 |.gone,_,_=>True
def DRs (K:lK):List D->List V->Hp->Prop
 |[],us,_=>us=[]
 |d::ds,us,H=>∃v vs,us=v::vs/\DR K d v H/\DRs K ds vs H
end
theorem DR.mono {K:lK}{H H':Hp}(g:Same H H'):∀{d:D}{v:V},DR K d v H->DR K d v H'
 |.non,_,h=>by unfold DR at h ⊢;exact h
 |.bl _,_,h=>by unfold DR at h ⊢;exact h
 |.int _,_,h=>by unfold DR at h ⊢;exact h
 |.str _,_,h=>by unfold DR at h ⊢;exact h
 |.pin _,_,h=>by unfold DR at h ⊢;exact h
 |.gone,_,h=>by unfold DR at h ⊢;exact h
 |.fz d,_,h=>by unfold DR at h ⊢;exact DR.mono g h
 |.nd k ds,_,h=>by unfold DR at h ⊢;obtain⟨p,us,e,n,r⟩:=h;exact⟨p,us,e,n.mono g,go r⟩
where go:∀{ds:List D}{us:List V},DRs K ds us H->DRs K ds us H'
 |[],_,h=>by unfold DRs at h ⊢;exact h
 |d::ds,_,h=>by unfold DRs at h ⊢;obtain⟨v,vs,e,a,r⟩:=h;exact⟨v,vs,e,DR.mono g a,go r⟩
theorem DRs.mono {K:lK}{H H':Hp}(g:Same H H'){ds:List D}{us:List V}(h:DRs K ds us H):DRs K ds us H':=DR.mono.go g h
theorem DRs.prs {K:lK}{H:Hp}:∀{ds:List D}{us:List V},DRs K ds us H↔Paired (λd v=>DR K d v H) ds us
 |[],us=>⟨λh=>by unfold DRs at h;subst h;exact .nil,λh=>by cases h;unfold DRs;rfl⟩
 |d::ds,us=>⟨λh=>by unfold DRs at h;obtain⟨v,vs,rfl,a,r⟩:=h;exact .cons a (DRs.prs.mp r),λh=>by
  cases h with |cons a r=>unfold DRs;exact⟨_,_,rfl,a,DRs.prs.mpr r⟩⟩
mutual
noncomputable def D.imm:D->Bool
 |.nd .tup ds=>D.imms ds
 |.nd .ktup ds=>D.imms ds
 |.nd _ _=>uF
 |.fz d=>d.imm
 |.pin _=>uF
 |.gone=>uF
 |_=>uE
noncomputable def D.imms:List D->Bool
 |[]=>uE
 |d::ds=>d.imm && D.imms ds
end
mutual
def D.new:D->Bool
 |.nd _ ds=>D.news ds
 |.fz d=>d.imm
 |.pin _=>uF
 |.gone=>uF
 |_=>uE
def D.news:List D->Bool
 |[]=>uE
 |d::ds=>d.new && D.news ds
end
def Cell (K:lK)(k:Nd)(p:kz)(us:List V)(F h:Hp):Prop:=match k with
 |.tup=>F p=uC (.tup us)/\∀q,h q=uD
 |.scr=>False
 |.ktup=>SqU K p us/\∀q,h q=uD
 |.lst=>h=one p (.lst us)
 |.dct ks=>h=one p (.dK (ks.zip us))/\ks.length=us.length/\ks.Nodup
 |.obj c ns=>∃dx,dx≠p/\h=two p dx (.ins (gA K c) dx (ns.zip us))/\ns.length=us.length
mutual
def OD (K:lK):D->V->Hp->Hp->Prop
 |.nd k ds,v,F,h=>∃p us h0 h2,v=.ref p/\Cell K k p us F h0/\Jn h0 h2 h/\ODs K ds us F h2
 |d,v,F,h=>(∀p,h p=uD)/\DR K d v F
def ODs (K:lK):List D->List V->Hp->Hp->Prop
 |[],us,_,h=>us=[]/\∀p,h p=uD
 |d::ds,us,F,h=>∃v vs h1 h2,us=v::vs/\Jn h1 h2 h/\OD K d v F h1/\ODs K ds vs F h2
end
section
variable {K:l8}{F F' h h1 h2 H:Hp}{d:D}{ds:List D}{v:V}{us:List V}{k:Nd}{p:kz}
theorem zb_ {p q:kz}{o:HO}:one p o q=if q=p then uC o else uD:=rfl
theorem Cell.mono (g:Tups F F')(c:Cell K k p us F h):Cell K k p us F' h:=by
 cases k with
 |tup=>exact⟨g _ _ c.1,c.2⟩
 |lst=>exact c
 |scr=>exact c
 |ktup=>exact c
 |dct ks=>exact c
 |obj c' ns=>exact c
theorem Cell.notup (c:Cell K k p us F h)(q:kz)(xs:List V):h q≠uC (.tup xs):=by
 cases k with
 |tup=>rw[c.2];exact λz=>by cases z
 |ktup=>rw[c.2];exact λz=>by cases z
 |scr=>exact lL c
 |lst=>rw[show h=_ from c,zb_];split<;>exact λz=>by cases z
 |dct ks=>rw[c.1,zb_];split<;>exact λz=>by cases z
 |obj c' ns=>
  obtain⟨dx,n,e,l⟩:=c;rw[e];unfold two;split
  ·exact λz=>by cases z
  ·split<;>exact λz=>by cases z
theorem Cell.nd (c:Cell K k p us F h)(g:Same F H)(g':Same h H):NdR K k p us H:=by
 cases k with
 |tup=>exact g _ _ c.1
 |ktup=>exact c.1
 |scr=>exact lL c
 |lst=>exact g' _ _ (by rw[show h=_ from c];exact zq_)
 |dct ks=>exact⟨g' _ _ (by rw[c.1];exact zq_),c.2⟩
 |obj c' ns=>obtain⟨dx,n,e,l⟩:=c;exact⟨dx,g' _ _ (by rw[e];exact zqP_),l⟩
theorem OD.mono (g:Same F F'):∀{d:D}{v:V}{h:Hp},OD K d v F h->OD K d v F' h
 |.nd k ds,_,_,q=>by unfold OD at q ⊢;obtain⟨p,us,h0,h2,e,c,j,r⟩:=q;exact⟨p,us,h0,h2,e,c.mono g.tups,j,go r⟩
 |.non,_,_,q=>by unfold OD at q ⊢;exact⟨q.1,q.2.mono g⟩
 |.bl _,_,_,q=>by unfold OD at q ⊢;exact⟨q.1,q.2.mono g⟩
 |.int _,_,_,q=>by unfold OD at q ⊢;exact⟨q.1,q.2.mono g⟩
 |.str _,_,_,q=>by unfold OD at q ⊢;exact⟨q.1,q.2.mono g⟩
 |.fz _,_,_,q=>by unfold OD at q ⊢;exact⟨q.1,q.2.mono g⟩
 |.pin _,_,_,q=>by unfold OD at q ⊢;exact⟨q.1,q.2.mono g⟩
 |.gone,_,_,q=>by unfold OD at q ⊢;exact⟨q.1,q.2.mono g⟩
where go:∀{ds:List D}{us:List V}{h:Hp},ODs K ds us F h->ODs K ds us F' h
 |[],_,_,q=>by unfold ODs at q ⊢;exact q
 |d::ds,_,_,q=>by unfold ODs at q ⊢;obtain⟨v,vs,h1,h2,e,j,a,r⟩:=q;exact⟨v,vs,h1,h2,e,j,OD.mono g a,go r⟩
theorem OD.notup:∀{d:D}{v:V}{h:Hp},OD K d v F h->∀p xs,h p≠uC (.tup xs)
 |.nd k ds,_,_,q,p,xs=>by
  unfold OD at q;obtain⟨_,us,h0,h2,e,c,j,r⟩:=q;rcases j p with⟨_,y⟩|⟨_,y⟩
  ·rw[y];exact go r p xs
  ·rw[y];exact c.notup p xs
 |.non,_,_,q,p,xs=>by unfold OD at q;rw[q.1];exact λz=>by cases z
 |.bl _,_,_,q,p,xs=>by unfold OD at q;rw[q.1];exact λz=>by cases z
 |.int _,_,_,q,p,xs=>by unfold OD at q;rw[q.1];exact λz=>by cases z
 |.str _,_,_,q,p,xs=>by unfold OD at q;rw[q.1];exact λz=>by cases z
 |.fz _,_,_,q,p,xs=>by unfold OD at q;rw[q.1];exact λz=>by cases z
 |.pin _,_,_,q,p,xs=>by unfold OD at q;rw[q.1];exact λz=>by cases z
 |.gone,_,_,q,p,xs=>by unfold OD at q;rw[q.1];exact λz=>by cases z
where go:∀{ds:List D}{us:List V}{h:Hp},ODs K ds us F h->∀p xs,h p≠uC (.tup xs)
 |[],_,_,q,p,xs=>by unfold ODs at q;rw[q.2];exact λz=>by cases z
 |d::ds,_,_,q,p,xs=>by
  unfold ODs at q;obtain⟨v,vs,h1,h2,e,j,a,r⟩:=q;rcases j p with⟨_,y⟩|⟨_,y⟩
  ·rw[y];exact go r p xs
  ·rw[y];exact OD.notup a p xs
theorem OD.view (g:Same F H):∀{d:D}{v:V}{h:Hp},Same h H->OD K d v F h->DR K d v H
 |.nd k ds,_,_,g',q=>by
  unfold OD at q;unfold DR;obtain⟨p,us,h0,h2,e,c,j,r⟩:=q;exact⟨p,us,e,c.nd g (j.l.trans g'),go (j.r.trans g') r⟩
 |.non,_,_,_,q=>by unfold OD at q;exact q.2.mono g
 |.bl _,_,_,_,q=>by unfold OD at q;exact q.2.mono g
 |.int _,_,_,_,q=>by unfold OD at q;exact q.2.mono g
 |.str _,_,_,_,q=>by unfold OD at q;exact q.2.mono g
 |.fz _,_,_,_,q=>by unfold OD at q;exact q.2.mono g
 |.pin _,_,_,_,q=>by unfold OD at q;exact q.2.mono g
 |.gone,_,_,_,q=>by unfold OD at q;exact q.2.mono g
where go:∀{ds:List D}{us:List V}{h:Hp},Same h H->ODs K ds us F h->DRs K ds us H
 |[],_,_,_,q=>by unfold ODs at q;unfold DRs;exact q.1
 |d::ds,_,_,g',q=>by
  unfold ODs at q;unfold DRs;obtain⟨v,vs,h1,h2,e,j,a,r⟩:=q;exact⟨v,vs,e,OD.view g (j.l.trans g') a,go (j.r.trans g') r⟩
theorem DR.imm (g:Tups F F'):∀{d:D}{v:V},d.imm=uE->DR K d v F->DR K d v F'
 |.nd .tup ds,_,z,q=>by unfold D.imm at z;unfold DR at q ⊢;obtain⟨p,us,e,n,r⟩:=q;exact⟨p,us,e,g _ _ n,go z r⟩
 |.nd .ktup ds,_,z,q=>by unfold D.imm at z;unfold DR at q ⊢;obtain⟨p,us,e,n,r⟩:=q;exact⟨p,us,e,n,go z r⟩
 |.nd .scr _,_,z,_=>by simp[D.imm]at z
 |.nd .lst _,_,z,_=>by simp[D.imm]at z
 |.nd (.dct _) _,_,z,_=>by simp[D.imm]at z
 |.nd (.obj _ _) _,_,z,_=>by simp[D.imm]at z
 |.non,_,_,q=>by unfold DR at q ⊢;exact q
 |.bl _,_,_,q=>by unfold DR at q ⊢;exact q
 |.int _,_,_,q=>by unfold DR at q ⊢;exact q
 |.str _,_,_,q=>by unfold DR at q ⊢;exact q
 |.fz d,_,z,q=>by unfold D.imm at z;unfold DR at q ⊢;exact DR.imm g z q
 |.pin _,_,z,_=>by simp[D.imm]at z
 |.gone,_,z,_=>by simp[D.imm]at z
where go:∀{ds:List D}{us:List V},D.imms ds=uE->DRs K ds us F->DRs K ds us F'
 |[],_,_,q=>by unfold DRs at q ⊢;exact q
 |d::ds,_,z,q=>by
  unfold D.imms at z;obtain⟨z1,z2⟩:=lP.mp z;unfold DRs at q ⊢;obtain⟨v,vs,e,a,r⟩:=q;exact⟨v,vs,e,DR.imm g z1 a,go z2 r⟩
theorem OD.of_imm (hn:∀p,h p=uD):∀{d:D}{v:V},d.imm=uE->DR K d v F->OD K d v F h
 |.nd .tup ds,_,z,q=>by
  unfold D.imm at z;unfold DR at q;unfold OD;obtain⟨p,us,e,n,r⟩:=q;exact⟨p,us,h,h,e,⟨n,hn⟩,λq=>.inl ⟨hn q,rfl⟩,go z r⟩
 |.nd .ktup ds,_,z,q=>by
  unfold D.imm at z;unfold DR at q;unfold OD;obtain⟨p,us,e,n,r⟩:=q;exact⟨p,us,h,h,e,⟨n,hn⟩,λq=>.inl ⟨hn q,rfl⟩,go z r⟩
 |.nd .scr _,_,z,_=>by simp[D.imm]at z
 |.nd .lst _,_,z,_=>by simp[D.imm]at z
 |.nd (.dct _) _,_,z,_=>by simp[D.imm]at z
 |.nd (.obj _ _) _,_,z,_=>by simp[D.imm]at z
 |.non,_,_,q=>by unfold OD;exact⟨hn,q⟩
 |.bl _,_,_,q=>by unfold OD;exact⟨hn,q⟩
 |.int _,_,_,q=>by unfold OD;exact⟨hn,q⟩
 |.str _,_,_,q=>by unfold OD;exact⟨hn,q⟩
 |.fz d,_,_,q=>by unfold OD;exact⟨hn,q⟩
 |.pin _,_,z,_=>by simp[D.imm]at z
 |.gone,_,z,_=>by simp[D.imm]at z
where go:∀{ds:List D}{us:List V},D.imms ds=uE->DRs K ds us F->ODs K ds us F h
 |[],_,_,q=>by unfold DRs at q;unfold ODs;exact⟨q,hn⟩
 |d::ds,_,z,q=>by
  unfold D.imms at z;obtain⟨z1,z2⟩:=lP.mp z;unfold DRs at q;unfold ODs;obtain⟨v,vs,e,a,r⟩:=q;exact⟨v,vs,h,h,e,λq=>.inl ⟨hn q,rfl⟩,OD.of_imm hn z1 a,go z2 r⟩
theorem OD.newImm (g:Tups F F'):∀{d:D}{v:V}{h:Hp},d.new=uE->OD K d v F h->OD K d v F' h
 |.nd k ds,_,_,z,q=>by unfold D.new at z;unfold OD at q ⊢;obtain⟨p,us,h0,h2,e,c,j,r⟩:=q;exact⟨p,us,h0,h2,e,c.mono g,j,go z r⟩
 |.non,_,_,_,q=>by unfold OD at q ⊢;exact⟨q.1,q.2.imm g rfl⟩
 |.bl _,_,_,_,q=>by unfold OD at q ⊢;exact⟨q.1,q.2.imm g rfl⟩
 |.int _,_,_,_,q=>by unfold OD at q ⊢;exact⟨q.1,q.2.imm g rfl⟩
 |.str _,_,_,_,q=>by unfold OD at q ⊢;exact⟨q.1,q.2.imm g rfl⟩
 |.fz d,_,_,z,q=>by unfold D.new at z;unfold OD at q ⊢;exact⟨q.1,q.2.imm g (by unfold D.imm;exact z)⟩
 |.pin _,_,_,z,_=>by simp[D.new]at z
 |.gone,_,_,z,_=>by simp[D.new]at z
where go:∀{ds:List D}{us:List V}{h:Hp},D.news ds=uE->ODs K ds us F h->ODs K ds us F' h
 |[],_,_,_,q=>by unfold ODs at q ⊢;exact q
 |d::ds,_,_,z,q=>by
  unfold D.news at z;obtain⟨z1,z2⟩:=lP.mp z;unfold ODs at q ⊢;obtain⟨v,vs,h1,h2,e,j,a,r⟩:=q;exact⟨v,vs,h1,h2,e,j,OD.newImm g z1 a,go z2 r⟩
end
abbrev tyD (K:lK):Ty D:=⟨DR K,λg h=>h.mono g⟩
abbrev owD (K:lK):Own D:=⟨OD K,tyD K,λg h=>h.mono g,λd h=>OD.view zaa_ (zd5_ d) h,λh=>h.notup⟩
noncomputable abbrev Env:=List (Option D)
def slot (K:lK):Option D->Sl
 |none=>.dead
 |some d=>.ow (owD K) d
abbrev Lof (K:lK)(env:Env):List Sl:=env.map (slot K)
noncomputable def D.un:D->D
 |.fz d=>d.un
 |d=>d
def D.vw (d:D):D:=if d.imm then d else match d with |.fz _=>d |_=>.fz d
section
variable {K:l8}{E:XK}{F h h1 h2 H:Hp}{d:D}{ds:List D}{v:V}{us:List V}{k:Nd}{p:kz}{Q:VK}
theorem DR.un:∀{d:D},DR K d v H->DR K d.un v H
 |.fz d,q=>by unfold DR at q;unfold D.un;exact DR.un q
 |.non,q=>q
 |.bl _,q=>q
 |.int _,q=>q
 |.str _,q=>q
 |.nd _ _,q=>q
 |.pin _,q=>q
 |.gone,q=>q
theorem DR.int {i:Int}(h:DR K (.int i) v H):v=.int i:=by unfold DR at h;exact h
theorem DR.str {l:List Nat}(h:DR K (.str l) v H):v=tx l:=by unfold DR at h;exact h
theorem DR.bl {b:Bool}(h:DR K (.bl b) v H):v=.bl b:=by unfold DR at h;exact h
theorem DR.non (h:DR K .non v H):v=.non:=by unfold DR at h;exact h
theorem DR.nd (h:DR K (.nd k ds) v H):∃p us,v=.ref p/\NdR K k p us H/\DRs K ds us H:=by unfold DR at h;exact h
theorem OD.vw (hn:∀p,h p=uD)(r:DR K d v F):OD K d.vw v F h:=by
 unfold D.vw;split
 ·exact OD.of_imm hn (by assumption) r
 ·split
  ·unfold OD;exact⟨hn,r⟩
  ·unfold OD;exact⟨hn,by unfold DR;exact r⟩
theorem ODs.vw (hn:∀p,h p=uD):∀{ds:List D}{us:List V},DRs K ds us F->ODs K (ds.map D.vw) us F h
 |[],_,q=>by unfold DRs at q;unfold ODs;exact⟨q,hn⟩
 |d::ds,_,q=>by
  unfold DRs at q;obtain⟨v,vs,e,a,r⟩:=q;rw[kF];unfold ODs;exact⟨v,vs,h,h,e,λq=>.inl ⟨hn q,rfl⟩,OD.vw hn a,ODs.vw hn r⟩
theorem DRs.len (h:DRs K ds us H):ds.length=us.length:=Paired.length (DRs.prs.mp h)
theorem DRs.get (h:DRs K ds us H)(i:Nat):(ds[i]?=uD/\us[i]?=uD)\/∃d v,ds[i]?=uC d/\us[i]?=uC v/\DR K d v H:=Prs.get (T:=tyD K) (DRs.prs.mp h) i
theorem DRs.app {es:List D}{ws:List V}(a:DRs K ds us H)(b:DRs K es ws H):DRs K (ds++es) (us++ws) H:=DRs.prs.mpr (Prs.append (T:=tyD K) (DRs.prs.mp a) (DRs.prs.mp b))
theorem DRs.atI (h:DRs K ds us H){i:Int}{d:D}(e:atI ds i=uC d):∃v,L2.atI us i=uC v/\DR K d v H:=zmb_ (T:=tyD K) (DRs.prs.mp h) e
theorem gotV (q:After K (.ok d.vw) E F H (OwnK (owD K) H Q))(hs:Same F H)(r:DR K d v F):Q v H:=
 q.ok hs v (λ_=>uD) (λp z=>absurd rfl z) (λp=>.inr rfl) (λp o z=>by cases z) (OD.vw (λ_=>rfl) r)
theorem got (q:After K (.ok d) E F H (OwnK (owD K) H Q))(hs:Same F H)(r:DR K d v F)(i:d.imm=uE:=by rfl):Q v H:=
 q.ok hs v (λ_=>uD) (λp z=>absurd rfl z) (λp=>.inr rfl) (λp o z=>by cases z) (OD.of_imm (λ_=>rfl) i r)
theorem gotI {i:Int}(q:After K (.ok (.int i)) E F H (OwnK (owD K) H Q))(hs:Same F H):Q (.int i) H:=got q hs (by unfold DR;rfl)
theorem gotS {i:List Nat}(q:After K (.ok (.str i)) E F H (OwnK (owD K) H Q))(hs:Same F H):Q (tx i) H:=got q hs (by unfold DR;rfl)
theorem gotB {i:Bool}(q:After K (.ok (.bl i)) E F H (OwnK (owD K) H Q))(hs:Same F H):Q (.bl i) H:=got q hs (by unfold DR;rfl)
theorem gotN (q:After K (.ok .non) E F H (OwnK (owD K) H Q))(hs:Same F H):Q .non H:=got q hs (by unfold DR;rfl)
theorem no_r {h:Hp}(z:Hp)(hz:∀p,z p=uD):Jn h z h:=λp=>.inr ⟨hz p,rfl⟩
theorem newL (q:After K (.ok (.nd .lst (ds.map .vw))) E F H (OwnK (owD K) H Q))(hs:Same F H)(hp:H p=uD)(r:DRs K ds us F):Q (.ref p) (upd H p (.lst us)):=by
 refine q F _ (.heap hs (zV_ hp _)) (.ref p) (one p (.lst us)) (λb z=>?_) (λb=>?_) (λb o z=>?_) ?_
 ·rw[zb_]at z;split at z
  ·rename_i e;rw[e];exact hp
  ·exact absurd rfl z
 ·rw[zb_];split
  ·rename_i e;rw[e];exact .inl (hs.free hp)
  ·exact .inr rfl
 ·rw[zb_]at z;split at z
  ·rename_i e;rw[e];cases z;exact ze_
  ·cases z
 ·show OD K _ _ _ _
  unfold OD;exact⟨p,us,_,λ_=>uD,rfl,rfl,no_r _ λ_=>rfl,ODs.vw (λ_=>rfl) r⟩
def addD (a b:D):Mo D:=match a.un,b.un with
 |.int i,.int j=>.ok (.int (i+j))
 |.str x,.str y=>.lim (x.length+y.length) (.ok (.str (x++y)))
 |.nd .lst xs,.nd .lst ys=>.lim (xs.length+ys.length) (.ok (.nd .lst ((xs++ys).map .vw)))
 |_,_=>.no
abbrev Op2D (K:lK)(m:R2)(E:XK)(g:D->D->Mo D):Prop:=Op2O K m E (tyD K) (tyD K) g (owD K)
theorem zpB_:Op2D K mAdd E addD:=by
 intro a b x y F H Q hs ha hb q;have ha:=DR.un ha;have hb:=DR.un hb;unfold addD at q;split at q
 ·rename_i e1 e2;rw[e1]at ha;rw[e2]at hb;cases ha.int;cases hb.int;exact gotI q hs
 ·rename_i e1 e2;rw[e1]at ha;rw[e2]at hb;cases ha.str;cases hb.str
  obtain⟨c,q⟩:=q.lim;exact⟨c,gotS q hs⟩
 ·rename_i e1 e2;rw[e1]at ha;rw[e2]at hb
  obtain⟨p,us,rfl,n,r⟩:=ha.nd;obtain⟨p2,ws,rfl,n2,r2⟩:=hb.nd;obtain⟨c,q⟩:=q.lim;exact⟨us,ws,hs _ _ n,hs _ _ n2,by rw[<- r.len,<- r2.len];exact c,λl hl=>newL q hs hl (r.app r2)⟩
 ·exact q.elim
def i2D (g:Int->Int->Mo D)(a b:D):Mo D:=match a.un,b.un with |.int i,.int j=>g i j |_,_=>.no
theorem zmT_ {g:Int->Int->V}{f:Int->Int->D}(h:∀i j F,DR K (f i j) (g i j) F)(im:∀i j,(f i j).imm=uE):Op2D K (mI0 g) E (i2D λi j=>.ok (f i j)):=by
 intro a b x y F H Q hs ha hb q;have ha:=DR.un ha;have hb:=DR.un hb;unfold i2D at q;split at q
 ·rename_i e1 e2;rw[e1]at ha;rw[e2]at hb;cases ha.int;cases hb.int;exact got q hs (h _ _ _) (im _ _)
 ·exact q.elim
theorem od_i {C:Int->Int->Prop}[∀i j,Decidable (C i j)]{g:Int->Int->V}{f:Int->Int->D}(h:∀i j F,DR K (f i j) (g i j) F)(im:∀i j,(f i j).imm=uE):Op2D K (mI C g) E (i2D λi j=>.grd (C i j) (.ok (f i j))):=by
 intro a b x y F H Q hs ha hb q;have ha:=DR.un ha;have hb:=DR.un hb;unfold i2D at q;split at q
 ·rename_i e1 e2;rw[e1]at ha;rw[e2]at hb;cases ha.int;cases hb.int
  obtain⟨c,q⟩:=q.grd;exact⟨c,got q hs (h _ _ _) (im _ _)⟩
 ·exact q.elim
abbrev subD:=i2D λi j=>.ok (.int (i-j))
abbrev modD:=i2D λi j=>.grd (0<j) (.ok (.int (i % j)))
abbrev divD:=i2D λi j=>.grd (CDivG i j) (.ok (.int (i / j)))
theorem zph_:Op2D K mSub E subD:=zmT_ (λ_ _ _=>by unfold DR;rfl) λ_ _=>rfl
theorem zqD_:Op2D K mMod E modD:=od_i (C:=λ_ j=>0<j) (λ_ _ _=>by unfold DR;rfl) λ_ _=>rfl
theorem zq2_:Op2D K mDivG E divD:=od_i (λ_ _ _=>by unfold DR;rfl) λ_ _=>rfl
abbrev leD:=i2D λi j=>.ok (.bl (decide (i<=j)))
abbrev gtD:=i2D λi j=>.ok (.bl (decide (j<i)))
abbrev geD:=i2D λi j=>.ok (.bl (decide (j<=i)))
abbrev ltD:=i2D λi j=>.ok (.bl (decide (i<j)))
theorem od_le:Op2D K mLe E leD:=zmT_ (λ_ _ _=>by unfold DR;rfl) λ_ _=>rfl
theorem od_gt:Op2D K mGt E gtD:=zmT_ (λ_ _ _=>by unfold DR;rfl) λ_ _=>rfl
theorem od_ge:Op2D K mGe E geD:=zmT_ (λ_ _ _=>by unfold DR;rfl) λ_ _=>rfl
theorem od_lt:Op2D K mLt E ltD:=zmT_ (λ_ _ _=>by unfold DR;rfl) λ_ _=>rfl
def mulD (a b:D):Mo D:=match a.un,b.un with
 |.int i,.int j=>.grd (IntMulOk i j) (.ok (.int (i*j)))
 |.str x,.int n=>.grd (CRep x.length n) (.ok (.str (repL x n)))
 |.nd .lst xs,.int n=>.grd (CRep xs.length n) (.ok (.nd .lst ((repL xs n).map .vw)))
 |_,_=>.no
theorem DRs.rep (r:DRs K ds us H)(n:Int):DRs K (repL ds n) (repL us n) H:=DRs.prs.mpr (zoh_ (T:=tyD K) (DRs.prs.mp r) n)
theorem DRs.cut (r:DRs K ds us H)(lo hi:Option Int):DRs K (cutG ds lo hi) (cutV us lo hi) H:=DRs.prs.mpr (zly_ (T:=tyD K) (DRs.prs.mp r) lo hi)
theorem zpw_:Op2D K mMulX E mulD:=by
 intro a b x y F H Q hs ha hb q;have ha:=DR.un ha;have hb:=DR.un hb;unfold mulD at q;split at q
 ·rename_i e1 e2;rw[e1]at ha;rw[e2]at hb;cases ha.int;cases hb.int
  obtain⟨c,q⟩:=q.grd;exact⟨c,gotI q hs⟩
 ·rename_i e1 e2;rw[e1]at ha;rw[e2]at hb;cases ha.str;cases hb.int
  obtain⟨c,q⟩:=q.grd;exact⟨c,gotS q hs⟩
 ·rename_i e1 e2;rw[e1]at ha;rw[e2]at hb
  obtain⟨p,us,rfl,n,r⟩:=ha.nd;cases hb.int;obtain⟨c,q⟩:=q.grd;exact⟨us,hs _ _ n,by rw[<- r.len];exact c,λl hl=>newL q hs hl (r.rep _)⟩
 ·exact q.elim
def ixD (a b:D):Mo D:=match a.un,b.un with
 |.nd .lst xs,.int i=>.opt ((atI xs i).map .vw)
 |.nd .tup xs,.int i=>.opt ((atI xs i).map .vw)
 |.nd .scr xs,.int i=>.opt ((atI xs i).map .vw)
 |.nd .ktup xs,.int i=>.opt ((atI xs i).map .vw)
 |.str l,.int i=>.lim l.length (.opt ((atI l i).map λc=>.str [c]))
 |_,_=>.no
theorem zhF_ {ds:List D}{i:Int}(hs:Same F H)(n:SqL K H p us\/SqT K H p us)(r:DRs K ds us F)(q:After K (.opt ((atI ds i).map .vw)) E F H (OwnK (owD K) H Q)):mIx K (.ref p) (.int i) H Q:=by
 obtain⟨d,e,q⟩:=q.opt;obtain⟨d',e',rfl⟩:=kQ.mp e;obtain⟨v,e2,rv⟩:=r.atI e';refine⟨us,n,?_⟩;rw[e2];exact gotV q hs rv
theorem od_ix:Op2D K (mIx K) E ixD:=by
 intro a b x y F H Q hs ha hb q;have ha:=DR.un ha;have hb:=DR.un hb;unfold ixD at q;split at q
 ·rename_i e1 e2;rw[e1]at ha;rw[e2]at hb;obtain⟨p,us,rfl,n,r⟩:=ha.nd;cases hb.int;exact zhF_ hs (.inl (.of (hs _ _ n))) r q
 ·rename_i e1 e2;rw[e1]at ha;rw[e2]at hb;obtain⟨p,us,rfl,n,r⟩:=ha.nd;cases hb.int;exact zhF_ hs (.inr (.of (hs _ _ n))) r q
 ·rename_i e1 e2;rw[e1]at ha;rw[e2]at hb;obtain⟨p,us,rfl,n,r⟩:=ha.nd;cases hb.int;exact zhF_ hs (.inl (hs.seq n)) r q
 ·rename_i e1 e2;rw[e1]at ha;rw[e2]at hb;obtain⟨p,us,rfl,n,r⟩:=ha.nd;cases hb.int;exact zhF_ hs (.inr (.inr n)) r q
 ·rename_i l i e1 e2;rw[e1]at ha;rw[e2]at hb;cases ha.str;cases hb.int
  obtain⟨z,q⟩:=q.lim;obtain⟨d,e,q⟩:=q.opt;obtain⟨c,e',rfl⟩:=kQ.mp e;refine⟨z,?_⟩;show(match atI l i with |some c=>Q (tx [c]) H |none=>False)
  rw[e'];exact gotS q hs
 ·exact q.elim
def keyD (d:D):Option Key:=match d.un with
 |.int i=>uC (.inl i)
 |.str l=>uC (.inr ⟨l.toArray⟩)
 |_=>uD
theorem zlo_ {k:Key}(e:keyD d=uC k)(h:DR K d v H):keyV v=uC k/\v=kV k:=by
 have h:=DR.un h;unfold keyD at e;cases hd:d.un with
 |int i=>rw[hd]at e h;cases e;cases h.int;exact⟨rfl,rfl⟩
 |str l=>rw[hd]at e h;cases e;cases h.str;exact⟨rfl,rfl⟩
 |_=>rw[hd]at e;cases e
def valD (ks:List Key)(ds:List D)(k:Key):Option D:=((ks.zip ds).find? λq=>decide (q.1=k)).map (·.2)
theorem zqS_ {k:Key}:∀{ks:List Key}{ds:List D}{us:List V},DRs K ds us H->(valD ks ds k=uD/\valV (ks.zip us) k=uD)\/∃d v,valD ks ds k=uC d/\valV (ks.zip us) k=uC v/\DR K d v H
 |[],ds,us,h=>.inl ⟨rfl,rfl⟩
 |k0::ks,[],us,h=>by unfold DRs at h;subst h;exact .inl ⟨rfl,rfl⟩
 |k0::ks,d::ds,us,h=>by
  unfold DRs at h;obtain⟨v,vs,rfl,a,r⟩:=h;by_cases e:k0=k
  ·subst e
   exact .inr ⟨d,v,by simp[valD],by simp[valV],a⟩
  ·rcases zqS_ (k:=k) (ks:=ks) r with⟨h1,h2⟩|⟨d',v',h1,h2,h3⟩
   ·exact .inl ⟨by unfold valD at h1 ⊢;rw[lM,nv (by simpa using e)];exact h1,by unfold valV at h2 ⊢;rw[lM,nv (by simpa using e)];exact h2⟩
   ·exact .inr ⟨d',v',by unfold valD at h1 ⊢;rw[lM,nv (by simpa using e)];exact h1,by unfold valV at h2 ⊢;rw[lM,nv (by simpa using e)];exact h2,h3⟩
def dgetD (a b:D):Mo D:=match a.un,keyD b with
 |.nd (.dct ks) ds,uC k=>.opt ((valD ks ds k).map .vw)
 |_,_=>.no
def dinD (neg:Bool)(b a:D):Mo D:=match a.un,keyD b with
 |.nd (.dct ks) ds,uC k=>.ok (.bl (if neg then !(valD ks ds k).isSome else(valD ks ds k).isSome))
 |_,_=>.no
theorem zev_ {x y:V}{R:kz->List (Key×V)->Key->Prop}{kvs:List (Key×V)}{k:Key}(hx:x=.ref p)(hy:keyV y=uC k)(h:H p=uC (.dK kvs))(r:R p kvs k):atD x y H R:=by
 subst hx;unfold atD;dsimp only;rw[hy];exact⟨kvs,h,r⟩
section
variable {t t1 t2:TE}{r r1 r2:Mo D}{env:Env}
abbrev EvX (K:lK)(t:TE)(E:XK)(env:Env)(r:Mo D):Prop:=EvO K t E (Lof K env) r (owD K)
abbrev EvV (K:lK)(t:TE)(E:XK)(env:Env)(r:Mo D):Prop:=EvF K t E (Lof K env) r (tyD K)
theorem ex_v (h:EvX K t E env r):EvV K t E env r:=h.fr
theorem ex_op {m:R2}{g:D->D->Mo D}(o:Op2D K m E g)(h1:EvX K t1 E env r1)(h2:EvX K t2 E env r2):EvX K (tOp m t1 t2) E env (r1.bind λa=>r2.bind λb=>g a b):=zpW_ o (ex_v h1) (ex_v h2)
def getE (env:Env)(i:Nat):Mo D:=match env[i]? with |some (uC d)=>.ok d.vw |_=>.no
theorem zm0_ (i:Nat):EvX K (mVar i) E env (getE env i):=by
 intro σ F H Q hL hs q;unfold getE at q;split at q
 ·rename_i d e
  obtain⟨v,ev,rv⟩:=hL i (slot K (uC d)) (by rw[kH,e];rfl)
  unfold mVar;cases z:σ[i]? with
  |none=>rw[z]at ev;cases ev
  |some o=>rw[z]at ev;cases(show o=uC v from ev);exact gotV q hs rv
 ·exact q.elim
theorem ex_c {d:D}{v:V}(h:∀F,DR K d v F)(i:d.imm=uE:=by rfl):EvX K (tC v) E env (.ok d):=λσ F H Q hL hs q=>got q hs (h F) i
def blD (d:D):Mo Bool:=match d.un with |.bl b=>.ok b |_=>.no
theorem zg7_ (h:EvX K t E env r):EvT K (mTest t) E (Lof K env) (r.bind blD):=by
 intro σ F H Q hL hs q;refine ex_v h σ F H _ hL hs (q.bind.imp λa F1 H1 x1 k1 v1 aN=>?_)
 have ha:=DR.un aN;unfold blD at k1;split at k1
 ·rename_i b e;rw[e]at ha;cases ha.bl;exact k1.ok x1.2.1
 ·exact k1.elim
theorem zpx_ (h:EvX K t E env r):EvX K (mNotV t) E env (r.bind λa=>(blD a).bind λb=>.ok (.bl (!b))):=by
 intro σ F H Q hL hs q;refine ex_v h σ F H _ hL hs (q.bind.imp λa F1 H1 x1 k1 v1 aN=>?_)
 have ha:=DR.un aN;unfold blD at k1;split at k1
 ·rename_i b e;rw[e]at ha;cases ha.bl
  exact gotB (k1.imp λa F3 H3 x3 k3=>k3.back x1.2.2.1) x1.2.1
 ·exact k1.elim
def andD (a:D)(r:Mo D):Mo D:=(blD a).bind λb=>if b then r else .ok (.bl uF)
def orD (a:D)(r:Mo D):Mo D:=(blD a).bind λb=>if b then .ok (.bl uE)else r
theorem zqN_ (h1:EvX K t1 E env r1)(h2:EvX K t2 E env r2):EvX K (mAndV t1 t2) E env (r1.bind λa=>andD a r2):=by
 intro σ F H Q hL hs q;refine ex_v h1 σ F H _ hL hs (q.bind.imp λa F1 H1 x1 k1 v1 aN=>?_)
 have ha:=DR.un aN;unfold andD blD at k1;split at k1
 ·rename_i b e;rw[e]at ha;cases ha.bl
  refine⟨λz=>?_,λz=>?_⟩
  ·subst z;exact h2 σ F1 H1 _ (hL.mono x1.1) x1.2.1 (After.imp (show After K r2 E F1 H1 _ from k1) λa F3 H3 x3 k3=>k3.back x1.2.2.1)
  ·subst z;exact gotB (After.imp (show After K (.ok (D.bl uF)) E F1 H1 (OwnK (owD K) H Q)from k1) λa F3 H3 x3 k3=>k3.back x1.2.2.1) x1.2.1
 ·exact k1.elim
theorem ex_or (h1:EvX K t1 E env r1)(h2:EvX K t2 E env r2):EvX K (mOrV t1 t2) E env (r1.bind λa=>orD a r2):=by
 intro σ F H Q hL hs q;refine ex_v h1 σ F H _ hL hs (q.bind.imp λa F1 H1 x1 k1 v1 aN=>?_)
 have ha:=DR.un aN;unfold orD blD at k1;split at k1
 ·rename_i b e;rw[e]at ha;cases ha.bl
  refine⟨λz=>?_,λz=>?_⟩
  ·subst z;exact gotB (After.imp (show After K (.ok (D.bl uE)) E F1 H1 (OwnK (owD K) H Q)from k1) λa F3 H3 x3 k3=>k3.back x1.2.2.1) x1.2.1
  ·subst z;exact h2 σ F1 H1 _ (hL.mono x1.1) x1.2.1 (After.imp (show After K r2 E F1 H1 _ from k1) λa F3 H3 x3 k3=>k3.back x1.2.2.1)
 ·exact k1.elim
theorem ex_if {tt:TT}{b:Mo Bool}(ht:EvT K tt E (Lof K env) b)(h1:EvX K t1 E env r1)(h2:EvX K t2 E env r2):EvX K (mIf tt t1 t2) E env (b.bind λc=>if c then r1 else r2):=zpH_ ht h1 h2
def negD (a:D):Mo D:=match a.un with |.int i=>.ok (.int (-i))|_=>.no
theorem zpX_ (h:EvX K t E env r):EvX K (mNeg t) E env (r.bind negD):=by
 intro σ F H Q hL hs q;refine ex_v h σ F H _ hL hs (q.bind.imp λa F1 H1 x1 k1 v1 aN=>?_)
 have ha:=DR.un aN;unfold negD at k1;split at k1
 ·rename_i b e;rw[e]at ha;cases ha.int
  exact gotI (k1.imp λa F3 H3 x3 k3=>k3.back x1.2.2.1) x1.2.1
 ·exact k1.elim
end
end
section
variable {K:l8}{E:XK}{F F' h h1 h2 H H':Hp}{d:D}{ds:List D}{v:V}{us:List V}{k:Nd}{p:kz}{Q:VK}{env:Env}{t:TE}{r r1 r2:Mo D}{ta:TA}{ra:Mo (List D)}
def allT (f:D->D->Option Bool):List D->List D->Option Bool
 |a::as,b::bs=>(f a b).bind λx=>(allT f as bs).map λy=>x && y
 |_,_=>uC uE
def D.flat?:D->Option V
 |.non=>uC .non
 |.bl b=>uC (.bl b)
 |.int i=>uC (.int i)
 |.str l=>uC (tx l)
 |_=>uD
noncomputable def sqT:D->Option (Bool×List D)
 |.nd .lst xs=>uC (uE,xs)|.nd .tup xs=>uC (uF,xs)|_=>uD
def eqS (f:D->D->Option Bool)(a b:D):Option Bool:=match sqT a with
 |none=>(match sqT b with |none=>a.flat?.bind λx=>b.flat?.map λy=>eqV x y |some _=>a.flat?.map λ_=>uF)
 |some (k,xs)=>(match sqT b with
  |none=>b.flat?.map λ_=>uF
  |some (k',ys)=>bif k == k' then(bif k then(if xs.length=ys.length then allT f xs ys else uC uF)else(allT f xs ys).map λb=>b && xs.length == ys.length)else uC uF)
def eqT:Nat->D->D->Option Bool
 |0,a,b=>a.un.flat?.bind λx=>b.un.flat?.map λy=>eqV x y
 |n+1,a,b=>eqS (eqT n) a.un b.un
theorem zpF_ {k:Bool}{xs:List D}(e:sqT d=uC (k,xs))(h:DR K d v H):∃p us,v=.ref p/\DRs K xs us H/\H p=uC (bif k then .lst us else .tup us):=by
 cases d with
 |nd k ds=>
  obtain⟨p,us,rfl,m,r⟩:=h.nd;cases k with
  |lst=>cases e;exact⟨p,us,rfl,r,m⟩
  |tup=>cases e;exact⟨p,us,rfl,r,m⟩
  |_=>cases e
 |_=>cases e
theorem zdX_ {x:V}(e:d.flat?=uC x)(h:DR K d v H):v=x/\flatV x=uE:=by
 cases d with
 |non=>cases e;exact⟨h.non,rfl⟩
 |bl=>cases e;exact⟨h.bl,rfl⟩
 |int=>cases e;exact⟨h.int,rfl⟩
 |str=>cases e;exact⟨h.str,rfl⟩
 |_=>cases e
theorem zjP_ {f:D->D->Option Bool}:∀{xs ys:List D}{b:Bool},allT f xs ys=uC b->∃e:Nat->Bool,(∀(i:Nat) x y,xs[i]?=uC x->ys[i]?=uC y->f x y=uC (e i))/\b=(lG (min xs.length ys.length)).all e
 |[],_,_,h=>by cases h;exact⟨λ_=>uE,λi x y hx=>by simp at hx,by simp⟩
 |_::_,[],_,h=>by cases h;exact⟨λ_=>uE,λi x y hx hy=>by simp at hy,by simp⟩
 |x::xs,y::ys,b,h=>by
  unfold allT at h;obtain⟨c,hc,h⟩:=kP.mp h;obtain⟨c',aC,rfl⟩:=kQ.mp h;obtain⟨e,h1,h2⟩:=zjP_ aC;refine⟨λi=>match i with |0=>c |i+1=>e i,λi u w hu hw=>?_,?_⟩
  ·cases i with
   |zero=>simp at hu hw;subst hu hw;exact hc
   |succ i=>exact h1 i u w (by simpa using hu) (by simpa using hw)
  ·rw[h2,kZ,kZ,Nat.succ_min_succ,List.range_succ_eq_map,mi,tS];rfl
theorem zoO_:∀{n:Nat}{a b:D}{x y:V}{c:Bool},eqT n a b=uC c->DR K a x H->DR K b y H->EqD K H n x y c:=by
 intro n;induction n with
 |zero=>
  intro a b x y c h ha hb;unfold eqT at h;obtain⟨x',hx,h⟩:=kP.mp h;obtain⟨y',hy,rfl⟩:=kQ.mp h;obtain⟨rfl,f1⟩:=zdX_ hx (DR.un ha);obtain⟨rfl,f2⟩:=zdX_ hy (DR.un hb);exact .flat f1 f2
 |succ n ih=>
  intro a b x y c h ha hb;have ha:=DR.un ha;have hb:=DR.un hb;have sub:∀{xs ys:List D}{us ws:List V}{e:Nat->Bool},DRs K xs us H->DRs K ys ws H->(∀(i:Nat) x y,xs[i]?=uC x->ys[i]?=uC y->eqT n x y=uC (e i))->∀(i:Nat) u w,us[i]?=uC u->ws[i]?=uC w->EqD K H n u w (e i):=λr r2 g i u w hu hw=>by
   rcases r.get i with⟨_,z⟩|⟨d,v,e1,e2,e3⟩
   ·rw[z]at hu;cases hu
   rcases r2.get i with⟨_,z⟩|⟨d',v',g1,g2,g3⟩
   ·rw[z]at hw;cases hw
   rw[e2]at hu;rw[g2]at hw;cases hu;cases hw;exact ih (g i _ _ e1 g1) e3 g3
  have fl:∀{a b:D},DR K a x H->DR K b y H->(a.flat?.bind λx=>b.flat?.map λy=>eqV x y)=uC c->EqD K H (n+1) x y c:=λha hb h=>by
   obtain⟨x',hx,h⟩:=kP.mp h;obtain⟨y',hy,rfl⟩:=kQ.mp h;obtain⟨rfl,f1⟩:=zdX_ hx ha;obtain⟨rfl,f2⟩:=zdX_ hy hb;exact(EqD.flat f1 f2).le (l5 _)
  have h:eqS (eqT n) a.un b.un=uC c:=h;unfold eqS at h;cases ea:sqT a.un with
  |none=>
   rw[ea]at h;cases eb:sqT b.un with
   |none=>rw[eb]at h;exact fl ha hb h
   |some q=>
    rw[eb]at h;obtain⟨y',hy,rfl⟩:=kQ.mp h;obtain⟨rfl,f2⟩:=zdX_ hy ha;obtain⟨p,us,rfl,r,m⟩:=zpF_ (k:=q.1) (xs:=q.2) eb hb;cases z:q.1<;>rw[z]at m
    ·exact .ft (.of m) f2
    ·exact .fl (.of m) f2
  |some q=>
   rw[ea]at h;obtain⟨p,us,rfl,r1,n1⟩:=zpF_ (k:=q.1) (xs:=q.2) ea ha;obtain⟨k,xs⟩:=q;cases eb:sqT b.un with
   |none=>
    rw[eb]at h;obtain⟨y',hy,rfl⟩:=kQ.mp h;obtain⟨rfl,f2⟩:=zdX_ hy hb;cases k
    ·exact .tf (.of n1) f2
    ·exact .lf (.of n1) f2
   |some q=>
    rw[eb]at h;obtain⟨q',ws,rfl,r2,n2⟩:=zpF_ (k:=q.1) (xs:=q.2) eb hb;obtain⟨k',ys⟩:=q;cases k<;>cases k'
    ·obtain⟨c',hc,rfl⟩:=kQ.mp (show(allT (eqT n) xs ys).map _=_ from h)
     obtain⟨e,g1,rfl⟩:=zjP_ hc;rw[r1.len,r2.len];exact .tup e (.of n1) (.of n2) (sub r1 r2 g1)
    ·cases h;exact .tl (.of n1) (.of n2)
    ·cases h;exact .lt (.of n1) (.of n2)
    ·have h:(if xs.length=ys.length then allT (eqT n) xs ys else uC uF)=uC c:=h
     split at h
     ·rename_i hl
      obtain⟨e,g1,rfl⟩:=zjP_ h;rw[<- hl,nU,r1.len];exact .lst e (.of n1) (.of n2) (by rw[<- r1.len,<- r2.len,hl]) (sub r1 r2 g1)
     ·rename_i hl;cases h;exact .lstN (.of n1) (.of n2) (by rw[<- r1.len,<- r2.len];exact hl)
def eqD (neg:Bool)(a b:D):Mo D:=(Mo.opt (eqT 12 a b)).bind λc=>.ok (.bl (if neg then !c else c))
theorem od_eq:Op2D K (mEqA K) E (eqD uF):=by
 intro a b x y F H Q hs ha hb q;unfold eqD at q;cases e:eqT 12 a b with
 |none=>rw[e]at q;exact q.elim
 |some c=>rw[e]at q;exact⟨12,c,by decide,zoO_ e ((tyD K).mono hs ha) ((tyD K).mono hs hb),gotB q hs⟩
theorem od_ne:Op2D K (mNeA K) E (eqD uE):=by
 intro a b x y F H Q hs ha hb q;unfold eqD at q;cases e:eqT 12 a b with
 |none=>rw[e]at q;exact q.elim
 |some c=>rw[e]at q;exact⟨12,c,by decide,zoO_ e ((tyD K).mono hs ha) ((tyD K).mono hs hb),gotB q hs⟩
theorem un_fz:∀(d:D) {x:D},d.un≠.fz x
 |.fz d,x=>by unfold D.un;exact un_fz d
 |.non,_=>λz=>by cases z
 |.bl _,_=>λz=>by cases z
 |.int _,_=>λz=>by cases z
 |.str _,_=>λz=>by cases z
 |.nd _ _,_=>λz=>by cases z
 |.pin _,_=>λz=>by cases z
 |.gone,_=>λz=>by cases z
def isD (neg:Bool)(a b:D):Mo D:=match b with
 |.non=>(match a.un with |.pin _=>.no |.gone=>.no |.non=>.ok (.bl (!neg))|_=>.ok (.bl neg))
 |_=>.no
theorem znS_ (ha:DR K d v H){neg:Bool}{b:D}{c:Mo Unit}(hc:isD neg d .non=.ok b):b=.bl (if neg then !decide (v=.non)else decide (v=.non)):=by
 have ha:=DR.un ha;unfold isD at hc;cases z:d.un with
 |non=>rw[z]at ha hc;cases ha.non;cases hc;cases neg<;>rfl
 |bl=>rw[z]at ha hc;cases ha.bl;cases hc;cases neg<;>rfl
 |int=>rw[z]at ha hc;cases ha.int;cases hc;cases neg<;>rfl
 |str=>rw[z]at ha hc;cases ha.str;cases hc;cases neg<;>rfl
 |nd=>rw[z]at ha hc;obtain⟨_,_,rfl,_⟩:=ha.nd;cases hc;cases neg<;>rfl
 |fz=>exact absurd z (un_fz d)
 |pin=>rw[z]at hc;cases hc
 |gone=>rw[z]at hc;cases hc
theorem zi0_ {neg:Bool}{a b:D}{k:D->Hp->Hp->Prop}(q:After K (isD neg a b) E F H k):b=.non/\∃c,isD neg a .non=.ok c/\After K (.ok c) E F H k:=by
 unfold isD at q ⊢;split at q
 ·refine⟨rfl,?_⟩
  split at q
  ·exact q.elim
  ·exact q.elim
  ·exact⟨_,rfl,q⟩
  ·exact⟨_,rfl,q⟩
 ·exact q.elim
theorem od_is:Op2D K mIs E (isD uF):=by
 intro a b x y F H Q hs ha hb q;obtain⟨rfl,c,e,q⟩:=zi0_ q;cases DR.non (K:=K) (H:=F) hb;cases znS_ (c:=.no) ha e;exact gotB q hs
theorem zp7_:Op2D K mIsNot E (isD uE):=by
 intro a b x y F H Q hs ha hb q;obtain⟨rfl,c,e,q⟩:=zi0_ q;cases DR.non (K:=K) (H:=F) hb;cases znS_ (c:=.no) ha e;exact gotB q hs
def flats:List D->Option (List V)
 |[]=>uC []
 |d::ds=>d.un.flat?.bind λx=>(flats ds).map λxs=>x::xs
theorem zjj_:∀{ds:List D}{xs us:List V},flats ds=uC xs->DRs K ds us H->us=xs/\xs.all flatV=uE
 |[],_,_,e,h=>by cases e;unfold DRs at h;exact⟨h,rfl⟩
 |d::ds,_,_,e,h=>by
  unfold flats at e;unfold DRs at h;obtain⟨x,ex,e⟩:=kP.mp e;obtain⟨xs,exs,rfl⟩:=kQ.mp e;obtain⟨v,vs,rfl,a,r⟩:=h;obtain⟨rfl,f1⟩:=zdX_ ex (DR.un a);obtain⟨rfl,f2⟩:=zjj_ exs r;exact⟨rfl,by rw[mi,f1,f2];rfl⟩
def inSeq (neg:Bool)(a:D)(ys:List D):Mo D:=(Mo.opt (a.un.flat?.bind λx=>(flats ys).map λzs=>inV x zs)).bind λc=>.ok (.bl (if neg then !c else c))
def inD (neg:Bool)(a b:D):Mo D:=match b.un with
 |.str t=>(match a.un with |.str l=>.ok (.bl (if neg then !inS l t else inS l t))|_=>.no)
 |.nd .lst ys=>inSeq neg a ys
 |.nd .tup ys=>inSeq neg a ys
 |.nd .ktup ys=>inSeq neg a ys
 |_=>.no
theorem zkg_ {neg:Bool}{a:D}{ys:List D}{x:V}(hs:Same F H)(ha:DR K a x F)(n:SqL K H p us\/SqT K H p us)(r:DRs K ys us F)(q:After K (inSeq neg a ys) E F H (OwnK (owD K) H Q)):mIn K neg x (.ref p) H Q:=by
 unfold inSeq at q;cases e:(a.un.flat?.bind λx=>(flats ys).map λzs=>inV x zs)with
 |none=>rw[e]at q;exact q.elim
 |some c=>
  rw[e]at q;obtain⟨x',ex,e⟩:=kP.mp e;obtain⟨zs,ez,rfl⟩:=kQ.mp e;obtain⟨rfl,f1⟩:=zdX_ ex (DR.un ha);obtain⟨rfl,f2⟩:=zjj_ ez r;exact⟨us,n,f1,f2,gotB q hs⟩
theorem od_in {neg:Bool}:Op2D K (mIn K neg) E (inD neg):=by
 intro a b x y F H Q hs ha hb q;have hb:=DR.un hb;unfold inD at q;split at q
 ·rename_i l e;rw[e]at hb;cases hb.str
  have ha:=DR.un ha;split at q
  ·rename_i e;rw[e]at ha;cases ha.str;exact gotB q hs
  ·exact q.elim
 ·rename_i e;rw[e]at hb;obtain⟨p,us,rfl,n,r⟩:=hb.nd;exact zkg_ hs ha (.inl (.of (hs _ _ n))) r q
 ·rename_i e;rw[e]at hb;obtain⟨p,us,rfl,n,r⟩:=hb.nd;exact zkg_ hs ha (.inr (.of (hs _ _ n))) r q
 ·rename_i e;rw[e]at hb;obtain⟨p,us,rfl,n,r⟩:=hb.nd;exact zkg_ hs ha (.inr (.inr n)) r q
 ·exact q.elim
def intD (d:D):Mo Int:=match d.un with |.int i=>.ok i |_=>.no
theorem ep_x (hx:EvX K t E env r):EvP K (mPart t) E (Lof K env) (r.bind λd=>(intD d).bind λi=>.ok (uC i)):=by
 intro σ F H Q hL hs q;refine ex_v hx σ F H _ hL hs (q.bind.imp λa F1 H1 x1 k1 v1 aN=>?_)
 have ha:=DR.un aN;unfold intD at k1;split at k1
 ·rename_i i e;rw[e]at ha;cases ha.int;exact k1.ok x1.2.1
 ·exact k1.elim
def slD (a:D)(lo hi:Option Int):Mo D:=match a.un with
 |.str l=>.lim l.length (.ok (.str (cutG l lo hi)))
 |.nd .lst xs=>.ok (.nd .lst ((cutG xs lo hi).map .vw))
 |.nd .scr xs=>.ok (.nd .lst ((cutG xs lo hi).map .vw))
 |_=>.no
def OwnKs (K:lK)(H:Hp)(Q:List V->Hp->Prop)(ds:List D)(F' H':Hp):Prop:=∀vs h,(∀p,h p≠uD->H p=uD)->Dj F' h->Same h H'->ODs K ds vs F' h->Q vs H'
def EvAs (K:lK)(t:TA)(E:XK)(env:Env)(r:Mo (List D)):Prop:=∀σ F H (Q:List V->Hp->Prop),HoldF (Lof K env) σ F->Same F H->After K r E F H (OwnKs K H Q)->t σ H Q
abbrev csD (K:lK):Cs (List D):=⟨DRs K,λg h=>h.mono g⟩
theorem zgl_:EvAs K tNil E env (.ok []):=λσ F H Q hL hs q=>q.ok hs [] (λ_=>uD) (λp z=>absurd rfl z) (λp=>.inr rfl) (λp o z=>by cases z) (by unfold ODs;exact⟨rfl,λ_=>rfl⟩)
theorem zlC_ (x:Ext F H F' H')(d:Dj F h)(s:Same h H):Dj F' h:=λp=>by
 cases z:h p with
 |none=>exact .inr rfl
 |some o=>
  left;rcases d p with y |y
  ·cases w:F' p with
   |none=>rfl
   |some o'=>have:=x.2.2.2 p y (by rw[w];exact sN _);rw[s _ _ z]at this;cases this
  ·rw[y]at z;cases z
theorem zaW_ (h1:EvX K t E env r)(h2:EvAs K ta E env ra):EvAs K (tCons t ta) E env (r.bind λa=>ra.bind λas=>.ok (a::as)):=by
 intro σ F H Q hL hs q;refine h1 σ F H _ hL hs (q.bind.imp λa F1 H1 x1 k1 v k b_ dq s1 o1=>?_)
 refine h2 σ F1 H1 _ (hL.mono x1.1) x1.2.1 (k1.bind.imp λas F2 H2 x2 k2 vs k' eY gU s2 o2=>?_)
 have d1:Dj k k':=λp=>by
  cases z:k p with
  |none=>exact .inl rfl
  |some o=>
   right;cases y:k' p with
   |none=>rfl
   |some o'=>have:=eY p (by rw[y];exact sN _);rw[s1 _ _ z]at this;cases this
 refine k2.ok x2.2.1 (v::vs) (un k k') (λp z=>?_) (λp=>?_) (λp o z=>?_) ?_
 ·unfold un at z
  cases y:k p with
  |some o=>exact b_ p (by rw[y];exact sN _)
  |none=>rw[y]at z;exact x1.2.2.1.free (eY p z)
 ·unfold un
  cases y:k p with
  |some o=>
   rcases zlC_ x2 dq s1 p with w |w
   ·exact .inl w
   ·rw[y]at w;cases w
  |none=>exact gU p
 ·unfold un at z
  cases y:k p with
  |some o'=>rw[y]at z;cases z;exact x2.2.2.1 _ _ (s1 _ _ y)
  |none=>rw[y]at z;exact s2 _ _ z
 ·unfold ODs
  exact⟨v,vs,k,k',rfl,zao_ d1,o1.mono x2.1,o2⟩
theorem zgG_ (h:EvAs K ta E env ra):EvA K ta E (Lof K env) ra (csD K):=by
 intro σ F H Q hL hs q;refine h σ F H Q hL hs ?_;cases ra with
 |ok a=>
  intro F' H' x vs h' fresh d s o;refine q (un F' h') H' ⟨x.1.trans zaa_,λp o e=>?_,x.2.2.1,λp a b=>?_⟩ vs (OD.view.go zaa_ (zd5_ d) o)
  ·unfold un at e
   cases z:F' p with
   |some w=>rw[z]at e;cases e;exact x.2.1 _ _ z
   |none=>rw[z]at e;exact s _ _ e
  ·unfold un at b
   cases z:F' p with
   |some w=>exact x.2.2.2 p a (by rw[z];exact sN _)
   |none=>rw[z]at b;exact fresh p b
 |ex c=>exact q
 |no=>exact q
theorem ODs.len:∀{ds:List D}{us:List V}{h:Hp},ODs K ds us F h->ds.length=us.length
 |[],_,_,q=>by unfold ODs at q;rw[q.1];rfl
 |d::ds,_,_,q=>by unfold ODs at q;obtain⟨v,vs,h1,h2,rfl,j,a,r⟩:=q;rw[kZ,kZ,ODs.len r]
theorem zre_ (h:EvAs K ta E env ra):EvX K (tTup ta) E env (ra.bind λds=>.lim ds.length (.ok (.nd .tup ds))):=by
 intro σ F H Q hL hs q;refine h σ F H _ hL hs (q.bind.imp λds F1 H1 x1 k1 vs k b_ dq s1 o1=>?_)
 obtain⟨c,k1⟩:=k1.lim;rw[ODs.len o1]at c;refine⟨c,λp hp=>?_⟩
 have nk:k p=uD:=by
  cases z:k p with
  |none=>rfl
  |some o=>rw[s1 _ _ z]at hp;cases hp
 have y:=Ext.new x1.2.1 (o:=.tup vs) hp;refine k1 _ _ y (.ref p) k b_ (zlC_ y dq s1) (s1.trans (zV_ hp _)) ?_;show OD K _ _ _ _
 unfold OD;exact⟨p,vs,λ_=>uD,k,rfl,⟨ze_,λ_=>rfl⟩,λq=>.inl ⟨rfl,rfl⟩,OD.mono.go y.1 o1⟩
theorem zrh_ (h:EvAs K ta E env ra):EvX K (tLst ta) E env (ra.bind λds=>.lim ds.length (.ok (.nd .lst ds))):=by
 intro σ F H Q hL hs q;refine h σ F H _ hL hs (q.bind.imp λds F1 H1 x1 k1 vs k b_ dq s1 o1=>?_)
 obtain⟨c,k1⟩:=k1.lim;rw[ODs.len o1]at c;refine⟨c,λp hp=>?_⟩
 have nk:k p=uD:=by
  cases z:k p with
  |none=>rfl
  |some o=>rw[s1 _ _ z]at hp;cases hp
 have d1:Dj (one p (.lst vs)) k:=λq=>by
  rw[zb_];split
  ·rename_i e;rw[e];exact .inr nk
  ·exact .inl rfl
 refine k1 F1 _ (.heap x1.2.1 (zV_ hp _)) (.ref p) (un (one p (.lst vs)) k) (λq z=>?_) (λq=>?_) (λq o z=>?_) ?_
 ·unfold un at z;rw[zb_]at z
  by_cases e:q=p
  ·subst e;exact x1.2.2.1.free hp
  ·rw[if_neg e]at z;exact b_ q z
 ·unfold un;rw[zb_]
  by_cases e:q=p
  ·subst e;exact .inl (x1.2.1.free hp)
  ·rw[if_neg e];exact dq q
 ·unfold un at z;rw[zb_]at z
  by_cases e:q=p
  ·subst e;rw[if_pos rfl]at z;cases z;exact ze_
  ·rw[if_neg e]at z;rw[zc_ e];exact s1 _ _ z
 ·show OD K _ _ _ _
  unfold OD;exact⟨p,vs,_,k,rfl,rfl,zao_ d1,o1⟩
abbrev BlD (K:lK)(m:List V->Hp->VK->Prop)(E:XK)(g:List D->Mo D):Prop:=BlO K m E (csD K) g (owD K)
theorem ex_cb {m:List V->Hp->VK->Prop}{g:List D->Mo D}(o:BlD K m E g)(h:EvAs K ta E env ra):EvX K (tCB m ta) E env (ra.bind g):=zqT_ o (zgG_ h)
theorem DRs.one (h:DRs K [d] us H):∃v,us=[v]/\DR K d v H:=by
 unfold DRs at h;obtain⟨v,vs,rfl,a,r⟩:=h;unfold DRs at r;subst r;exact⟨v,rfl,a⟩
theorem DRs.two {d':D}(h:DRs K [d,d'] us H):∃v v',us=[v,v']/\DR K d v H/\DR K d' v' H:=by
 unfold DRs at h;obtain⟨v,vs,rfl,a,r⟩:=h;obtain⟨v',rfl,b⟩:=DRs.one r;exact⟨v,v',rfl,a,b⟩
def on1 (f:D->Mo D)(ds:List D):Mo D:=match ds with |[d]=>f d.un |_=>.no
def on2 (f:D->D->Mo D)(ds:List D):Mo D:=match ds with |[d,e]=>f d.un e.un |_=>.no
theorem zfy_ {m:List V->Hp->VK->Prop}{f:D->Mo D}(h:∀d v F H (Q:VK),Same F H->DR K d v F->After K (f d) E F H (OwnK (owD K) H Q)->m [v] H Q):BlD K m E (on1 f):=by
 intro ds vs F H Q hs hd q;unfold on1 at q;split at q
 ·obtain⟨v,rfl,a⟩:=DRs.one hd;exact h _ _ F H Q hs (DR.un a) q
 ·exact q.elim
theorem zqg_ {m:List V->Hp->VK->Prop}{f:D->D->Mo D}(h:∀d e v w F H (Q:VK),Same F H->DR K d v F->DR K e w F->After K (f d e) E F H (OwnK (owD K) H Q)->m [v,w] H Q):BlD K m E (on2 f):=by
 intro ds vs F H Q hs hd q;unfold on2 at q;split at q
 ·obtain⟨v,w,rfl,a,b⟩:=DRs.two hd;exact h _ _ _ _ F H Q hs (DR.un a) (DR.un b) q
 ·exact q.elim
def lenD:List D->Mo D:=on1 λd=>match d with
 |.str l=>.lim l.length (.ok (.int l.length))
 |.nd .lst xs=>.ok (.int xs.length)
 |.nd .tup xs=>.ok (.int xs.length)
 |.nd .scr xs=>.ok (.int xs.length)
 |.nd .ktup xs=>.ok (.int xs.length)
 |_=>.no
theorem zo2_:BlD K (mLen K) E lenD:=zfy_ λd v F H Q hs hd q=>by
 split at q
 ·cases hd.str;obtain⟨c,q⟩:=q.lim;exact⟨c,gotI q hs⟩
 ·obtain⟨p,us,rfl,n,r⟩:=hd.nd;exact⟨us,.inl (.of (hs _ _ n)),by rw[<- r.len];exact gotI q hs⟩
 ·obtain⟨p,us,rfl,n,r⟩:=hd.nd;exact⟨us,.inr (.of (hs _ _ n)),by rw[<- r.len];exact gotI q hs⟩
 ·obtain⟨p,us,rfl,n,r⟩:=hd.nd;exact⟨us,.inl (hs.seq n),by rw[<- r.len];exact gotI q hs⟩
 ·obtain⟨p,us,rfl,n,r⟩:=hd.nd;exact⟨us,.inr (.inr n),by rw[<- r.len];exact gotI q hs⟩
 ·exact q.elim
def dlenD:List D->Mo D:=on1 λd=>match d with |.nd (.dct ks) xs=>.ok (.int xs.length)|_=>.no
theorem zmx_:BlD K mLenD E dlenD:=zfy_ λd v F H Q hs hd q=>by
 split at q
 ·rename_i ks xs
  obtain⟨p,us,rfl,n,r⟩:=hd.nd;refine⟨_,hs _ _ n.1,?_⟩;rw[show(ks.zip us).length=xs.length from by rw[mn,n.2.1,nU,r.len]]
  exact gotI q hs
 ·exact q.elim
def minD:List D->Mo D:=on2 λa b=>match a,b with |.int i,.int j=>.ok (.int (min i j))|_,_=>.no
theorem zqZ_:BlD K (mTwo min) E minD:=zqg_ λd e v w F H Q hs hd he q=>by
 split at q
 ·cases hd.int;cases he.int;exact gotI q hs
 ·exact q.elim
def strD:List D->Mo D:=on1 λd=>match d with |.int i=>.grd (i.natAbs.log2<1920) (.ok (.str (strI i)))|_=>.no
theorem zpf_:BlD K mStr E strD:=zfy_ λd v F H Q hs hd q=>by
 split at q
 ·cases hd.int;obtain⟨c,q⟩:=q.grd;exact⟨c,gotS q hs⟩
 ·exact q.elim
abbrev MeD (K:lK)(m:V->List V->Hp->VK->Prop)(E:XK)(g:List Nat->List D->Mo D):Prop:=MeO K m E (csD K) g (owD K)
def strOf (d:D):Mo (List Nat):=match d.un with |.str l=>.ok l |_=>.no
theorem ex_me {m:V->List V->Hp->VK->Prop}{g:List Nat->List D->Mo D}(o:MeD K m E g)(h0:EvX K t E env r)(h:EvAs K ta E env ra):EvX K (tBM K "str" m t ta) E env (r.bind λd=>(strOf d).bind λl=>ra.bind λc=>g l c):=by
 intro σ F H Q hL hs q;refine ex_v h0 σ F H _ hL hs (q.bind.imp λd F1 H1 x1 k1 v hv=>?_)
 have ha:=DR.un hv;unfold strOf at k1;split at k1
 ·rename_i l e;rw[e]at ha;cases ha.str
  refine⟨?_,?_⟩
  ·exact rfl
  ·refine zgG_ h σ F1 H1 _ (hL.mono x1.1) x1.2.1 (After.imp (After.bind (show After K (ra.bind λc=>g l c) E F1 H1 _ from k1)) λc F2 H2 x2 k2 vs cy=>?_)
   exact o l c vs F2 H2 Q x2.2.1 cy (k2.imp λa F3 H3 x3 k3=>k3.back (x1.2.2.1.trans x2.2.2.1))
 ·exact k1.elim
end
noncomputable def Nd.own:Nd->Bool
 |.scr=>uF |.ktup=>uF |_=>uE
def D.at:D->List Nat->Option D
 |d,[]=>uC d
 |.nd k ds,i::js=>bif k.own then ds[i]?.bind λd=>d.at js else uD
 |_,_=>uD
theorem zbf_ {k:Nd}{ds:List D}{j:Nat}{js:List Nat}:(D.nd k ds).at (j::js)=bif k.own then ds[j]?.bind λd=>d.at js else uD:=by rw[D.at]
def kidsO:HO->List V
 |.tup us=>us |.lst us=>us |.dK kvs=>kvs.map (·.2)|.ins _ _ fs=>fs.map (·.2)|_=>[]
def vAt (H:Hp):V->List Nat->Option V
 |v,[]=>uC v
 |v,j::js=>(match v with |.ref p=>(H p).bind λo=>(kidsO o)[j]? |_=>uD).bind λw=>vAt H w js
noncomputable def D.put:D->List Nat->D->D
 |_,[],x=>x
 |.nd k ds,i::js,x=>(match ds[i]? with |some d=>.nd k (ds.set i (d.put js x))|none=>.nd k ds)
 |d,_,_=>d
section
variable {K:l8}{F F' h h1 h2 H H':Hp}{d:D}{ds:List D}{v:V}{us:List V}{k:Nd}{p:kz}
theorem ODs.focus:∀{ds:List D}{us:List V}{h:Hp}{i:Nat}{c:D},ODs K ds us F h->ds[i]?=uC c ->
  ∃u h1 h2,us[i]?=uC u/\Jn h1 h2 h/\OD K c u F h1/\∀c' F' u' h1' h',Same F F'->OD K c' u' F' h1'->Jn h1' h2 h'->ODs K (ds.set i c') (us.set i u') F' h'
 |[],_,_,_,_,_,e=>by simp at e
 |d::ds,_,h,0,c,q,e=>by
  unfold ODs at q;obtain⟨v,vs,h1,h2,rfl,j,a,r⟩:=q;simp at e;subst e;refine⟨v,h1,h2,rfl,j,a,λc' F' u' h1' h' g o j'=>?_⟩
  rw[oq,oq];unfold ODs;exact⟨u',vs,h1',h2,rfl,j',o,OD.mono.go g r⟩
 |d::ds,_,h,i+1,c,q,e=>by
  unfold ODs at q;obtain⟨v,vs,h1,h2,rfl,j,a,r⟩:=q;obtain⟨u,k1,k2,e1,j1,o1,f⟩:=ODs.focus r (by simpa using e)
  obtain⟨m,jm,jh⟩:=zl_ j1 (zac_ j);refine⟨u,k1,m,by simpa using e1,jh,o1,λc' F' u' b7 h' g o' j'=>?_⟩
  rw[oS,oS];unfold ODs;exact⟨v,vs.set i u',h1,un b7 k2,rfl,jn_re jm j',a.mono g,f c' F' u' b7 _ g o' (zao_ (dj_of jm j'))⟩
theorem zdb_ {α:Type}{l:List α}{i:Nat}{x:α}(h:l[i]?=uC x):l.set i x=l:=zli_ h
theorem Cell.same (g:Same F F')(c:Cell K k p us F h):Cell K k p us F' h:=c.mono g.tups
theorem zjK_ {k:Nd}(hk:k.own=uE)(n:NdR K k p us H):∃o,H p=uC o/\kidsO o=us:=by
 cases k with
 |tup=>exact⟨_,n,rfl⟩
 |lst=>exact⟨_,n,rfl⟩
 |dct ks=>exact⟨_,n.1,p8 (qd n.2.1.symm)⟩
 |obj c ns=>obtain⟨dx,e,l⟩:=n;exact⟨_,e,p8 (qd l.symm)⟩
 |_=>cases hk
theorem zbT_ (g:Same H H'):∀{js:List Nat}{v u:V},vAt H v js=uC u->vAt H' v js=uC u
 |[],_,_,h=>h
 |j::js,v,u,h=>by
  unfold vAt at h ⊢;obtain⟨w,hw,h2⟩:=kP.mp h;clear h;cases v with
  |ref p=>
   obtain⟨o,ho,hw⟩:=kP.mp hw;dsimp only;rw[g _ _ ho];exact kP.mpr ⟨w,hw,zbT_ g h2⟩
  |_=>cases hw
theorem zgv_ {k:Nd}{j:Nat}{js:List Nat}{w u:V}(hk:k.own=uE)(n:NdR K k p us H)(hw:us[j]?=uC w)(h:vAt H w js=uC u):vAt H (.ref p) (j::js)=uC u:=by
 obtain⟨o,ho,e⟩:=zjK_ hk n;unfold vAt;dsimp only;rw[ho];exact kP.mpr ⟨w,by rw[<- e]at hw;exact hw,h⟩
theorem zer_ {k:Nd}{j:Nat}{w:V}(hk:k.own=uE)(n:NdR K k p us H)(hw:us[j]?=uC w):∀{js:List Nat}{v:V},vAt H v js=uC (.ref p)->vAt H v (js++[j])=uC w
 |[],_,h=>by cases h;exact zgv_ hk n hw rfl
 |i::js,v,h=>by
  rw[mf];unfold vAt at h ⊢;obtain⟨x,hx,h⟩:=kP.mp h;exact kP.mpr ⟨x,hx,zer_ hk n hw h⟩
theorem OD.focus:∀{js:List Nat}{d:D}{v:V}{h:Hp}{c:D},OD K d v F h->d.at js=uC c ->
  ∃u h1 h2,(∀H,Same F H->Same h H->vAt H v js=uC u)/\Jn h1 h2 h/\OD K c u F h1/\∀c' F' h1' h',Same F F'->OD K c' u F' h1'->Jn h1' h2 h'->OD K (d.put js c') v F' h'
 |[],d,v,h,c,q,e=>by
  unfold D.at at e;cases e;refine⟨v,h,λ_=>uD,λH _ _=>rfl,λp=>.inr ⟨rfl,rfl⟩,q,λc' F' h1' h' g o j=>?_⟩
  unfold D.put;have:h'=h1':=by
   funext p;rcases j p with⟨a,b⟩|⟨a,b⟩
   ·rw[a,b]
   ·exact b
  rw[this];exact o
 |i::js,.nd k ds,v,h,c,q,e=>by
  rw[zbf_]at e;cases hk:k.own with
  |false=>rw[hk]at e;cases e
  |true=>
  rw[hk,cond_true]at e;obtain⟨d',e1,e2⟩:=kP.mp e;unfold OD at q;obtain⟨p,us,h0,hr,rfl,cl,j,r⟩:=q;obtain⟨u1,k1,k2,eu,jk,o1,f⟩:=ODs.focus r e1;obtain⟨u,m1,m2,vp,jm,o2,g⟩:=OD.focus o1 e2;obtain⟨a,ja,jb⟩:=zl_ jm jk;obtain⟨b,jc,jd⟩:=zl_ jb (zac_ j);refine⟨u,m1,b,λH s1 s2=>zgv_ hk (cl.nd s1 (j.l.trans s2)) eu (vp H s1 (jk.l.trans (j.r.trans s2))),jd,o2,λc' F' h1' h' s o' j'=>?_⟩
  unfold D.put;rw[e1];dsimp only;unfold OD;have d1:Dj h1' a:=λq=>by
   rcases j'.dj q with z |z
   ·exact .inl z
   ·exact .inr (jc.l.free z)
  have d2:Dj h1' m2:=λq=>by
   rcases d1 q with z |z
   ·exact .inl z
   ·exact .inr (ja.l.free z)
  have jx:Jn (un h1' m2) k2 (un h1' a):=λq=>by
   unfold un;rcases ja q with⟨z,w⟩|⟨z,w⟩
   ·rw[z]
    cases y:h1' q with
    |none=>left;exact⟨rfl,w⟩
    |some o=>
     right;rcases d1 q with t |t
     ·rw[t]at y;cases y
     ·rw[w]at t;exact⟨t,rfl⟩
   ·right
    refine⟨z,?_⟩;cases y:h1' q with
    |none=>exact w
    |some o=>rfl
  have on:=g c' F' h1' (un h1' m2) s o' (zao_ d2);have rn:=f _ F' u1 _ (un h1' a) s on jx;rw[zdb_ eu]at rn;refine⟨p,us,h0,un h1' a,rfl,cl.same s,?_,rn⟩;intro q;unfold un;rcases j' q with⟨z,w⟩|⟨z,w⟩
  ·rw[z,w]
   rcases jc q with⟨y,t⟩|⟨y,t⟩
   ·right;exact⟨y,t⟩
   ·left;exact⟨y,t⟩
  ·rw[w]
   have z0:h0 q=uD:=jc.r.free z;left;refine⟨z0,?_⟩;cases y:h1' q with
   |none=>exact(jc.l.free z).symm
   |some o=>rfl
 |_::_,.non,_,_,_,_,e=>by simp[D.at]at e
 |_::_,.bl _,_,_,_,_,e=>by simp[D.at]at e
 |_::_,.int _,_,_,_,_,e=>by simp[D.at]at e
 |_::_,.str _,_,_,_,_,e=>by simp[D.at]at e
 |_::_,.fz _,_,_,_,_,e=>by simp[D.at]at e
 |_::_,.pin _,_,_,_,_,e=>by simp[D.at]at e
 |_::_,.gone,_,_,_,_,e=>by simp[D.at]at e
theorem Hold.atG:∀{L:List Sl}{σ:L2.St}{h:Hp}{i:Nat}{s:Sl},Hold L σ F h->L[i]?=uC s ->
  ∃o h1 h2,σ[i]?=uC o/\Jn h1 h2 h/\s.P o F h1/\∀s' o' F' h1' h',Same F F'->s'.P o' F' h1'->Jn h1' h2 h'->Hold (L.set i s') (σ.set i o') F' h'
 |[],_,_,_,_,_,e=>by simp at e
 |s::L,[],_,_,_,q,_=>q.elim
 |s::L,o::σ,h,0,t,q_,e=>by
  obtain⟨h1,h2,j,p,r⟩:=q_;simp at e;subst e;exact⟨o,h1,h2,rfl,j,p,λs' o' F' h1' h' g p' j'=>⟨h1',h2,j',p',r.mono g⟩⟩
 |s::L,o::σ,h,i+1,t,q_,e=>by
  obtain⟨h1,h2,j,p,r⟩:=q_;obtain⟨o1,k1,k2,e1,j1,p1,f⟩:=Hold.atG r (by simpa using e)
  obtain⟨m,jm,jh⟩:=zl_ j1 (zac_ j);exact⟨o1,k1,m,by simpa using e1,jh,p1,λs' o' F' b7 h' g aK j'=>⟨h1,un b7 k2,jn_re jm j',p.mono g,f s' o' F' b7 _ g aK (zao_ (dj_of jm j'))⟩⟩
theorem Hold.more:∀{L:List Sl}{σ:L2.St}{h g h':Hp},Hold L σ F h->Jn g h h'->Hold L σ F h'
 |[],[],_,_,_,_,_=>trivial
 |s::L,[],_,_,_,q,_=>q.elim
 |[],_::_,_,_,_,q,_=>q.elim
 |s::L,o::σ,h,g,h',q_,j'=>by
  obtain⟨h1,h2,j,p,r⟩:=q_;obtain⟨m,jm,jh⟩:=zl_ j (zac_ j');exact⟨h1,m,jh,p,Hold.more r (zac_ jm)⟩
noncomputable abbrev Ws:=Nat->Option V
def slotW (K:lK)(w:Option V)(o:Option D):Sl:=match o with
 |none=>.dead
 |some d=>(match w with |none=>.ow (owD K) d |some u=>.ow (owAt u (owD K)) d)
abbrev LofW (K:lK)(ws:Ws)(env:Env):List Sl:=env.mapIdx λi o=>slotW K (ws i) o
variable {ws:Ws}{env:Env}{σ:L2.St}{i:Nat}{js:List Nat}{c:D}
theorem zbu_ {o:Option D}(ho:env[i]?=uC o):(LofW K ws env)[i]?=uC (slotW K (ws i) o):=by
 rw[pz,ho];rfl
theorem zcQ_ {o:Option D}:(LofW K ws env).set i (slotW K (ws i) o)=LofW K ws (env.set i o):=by
 refine oX λj=>?_
 rw[ng,pz,pz,ng,List.length_mapIdx];by_cases e:i=j
 ·subst e;rw[if_pos rfl,if_pos rfl];split<;>rfl
 ·rw[if_neg e,if_neg e]
theorem znP_ {w:Option V}{o:Option D}{x:Option V}(h:(slotW K w o).Z x F):(slot K o).Z x F:=by
 cases o with
 |none=>trivial
 |some d=>cases w with |none=>exact h |some u=>exact h
theorem zcu_ (h:HoldF (LofW K ws env) σ F):HoldF (Lof K env) σ F:=by
 intro i s e;rw[kH]at e;cases z:env[i]? with
 |none=>rw[z]at e;cases e
 |some o=>
  rw[z]at e;cases e;exact znP_ (h i _ (zbu_ z))
theorem zdU_ {w:Option V}{d:D}{x:Option V}(h:(slotW K w (uC d)).P x F h1):∃v,x=uC v/\(∀u,w=uC u->v=u)/\OD K d v F h1:=by
 cases w with
 |none=>obtain⟨v,e,o⟩:=h;exact⟨v,e,(λu z=>by cases z),o⟩
 |some u=>obtain⟨v,e,z,o⟩:=h;exact⟨v,e,(λu' y=>by cases y;exact z),o⟩
theorem zcH_ {w:Option V}{d:D}{v:V}(hw:∀u,w=uC u->v=u)(o:OD K d v F h1):(slotW K w (uC d)).P (uC v) F h1:=by
 cases w with
 |none=>exact⟨v,rfl,o⟩
 |some u=>exact⟨v,rfl,hw u rfl,o⟩
theorem zcd_ (hL:Hold (LofW K ws env) σ F h)(hi:env[i]?=uC (uC d))(hc:d.at js=uC c):
  ∃v u h1 h2,σ[i]?=uC (uC v)/\(∀H,Same F H->Same h H->vAt H v js=uC u)/\Jn h1 h2 h/\OD K c u F h1/\∀c' F' h1' h',Same F F'->OD K c' u F' h1'->Jn h1' h2 h'->Hold (LofW K ws (env.set i (uC (d.put js c')))) σ F' h':=by
 obtain⟨o,k1,k2,e1,j,pp,f⟩:=Hold.atG hL (zbu_ hi);obtain⟨v,rfl,hv,od⟩:=zdU_ pp;obtain⟨u,m1,m2,vp,jm,o1,g⟩:=od.focus hc;obtain⟨a,ja,jb⟩:=zl_ jm j;refine⟨v,u,m1,a,e1,(λH s1 s2=>vp H s1 (j.l.trans s2)),jb,o1,λc' F' h1' h' s o' j'=>?_⟩
 have d1:Dj h1' m2:=λq=>by
  rcases j'.dj q with z |z
  ·exact .inl z
  ·exact .inr (ja.l.free z)
 have:=f (slotW K (ws i) (uC (d.put js c'))) (uC v) F' (un h1' m2) h' s (zcH_ hv (g c' F' h1' _ s o' (zao_ d1))) ?_
 ·rw[zcQ_,zdb_ e1]at this;exact this
 ·intro q
  unfold un;rcases j' q with⟨z,w⟩|⟨z,w⟩
  ·rw[z,w]
   rcases ja q with⟨y,t⟩|⟨y,t⟩
   ·left;exact⟨y,t⟩
   ·right;exact⟨y,t⟩
  ·rw[w]
   have z0:k2 q=uD:=ja.r.free z;right;refine⟨z0,?_⟩;cases y:h1' q with
   |none=>exact(ja.l.free z).symm
   |some o=>rfl
end
inductive Mr (s α:Type) where
 |ok (a:α) (t:s)|ex (c:Xc) (t:s)|no
noncomputable abbrev Fn:=List D->Mr (List D) D
def Fn.val (f:Fn)(ds:List D):Mo D:=match f ds with |.ok d _=>.ok d |.ex c _=>.ex c |.no=>.no
section
variable {K:l8}{E:XK}{F F' F0 H0 h h1 h2 H H':Hp}{d:D}{ds:List D}{v:V}{us vs:List V}{k:Nd}{p:kz}{Q:VK}{env:Env}{t:TE}{r:Mo D}{ta:TA}{ra:Mo (List D)}{f:Fn}
def FinC (K:lK)(r:Mr (List D) D)(E:XK)(F0 H0:Hp)(vs:List V)(Q:VK):Prop:=match r with
 |.ok d ds=>∀v F h H hr h2,Okk F0 H0 F h H->Jn hr h2 h->OD K d v F hr->ODs K ds vs F h2->Q v H
 |.ex c ds=>∀F h H,Okk F0 H0 F h H->ODs K ds vs F h->Tell K E c H0 F H
 |.no=>False
def CtG (K:lK)(f:Fn):Sp:=λvs H Q E=>∃F h ds,Same F H/\Dj F h/\Same h H/\ODs K ds vs F h/\FinC K (f ds) E F (less H h) vs Q
theorem zmq_ (hn:∀p,h p=uD):less H h=H:=funext λp=>zaj_ (hn p)
theorem zgI_ (hs:Same F H)(hd:DRs K ds vs F)(q:After K (f.val (ds.map D.vw)) E F H (OwnK (owD K) H Q)):CtG K f vs H Q E:=by
 refine⟨F,λ_=>uD,ds.map D.vw,hs,λ_=>.inr rfl,(λp o z=>by cases z),ODs.vw (λ_=>rfl) hd,?_⟩
 rw[zmq_ λ_=>rfl]
 unfold Fn.val at q;cases e:f (ds.map D.vw)with
 |no=>rw[e]at q;exact q
 |ok d ds'=>
  rw[e]at q;intro v F' h' H' hr h2 ok j o _;refine q F' H' ok.1 v hr (λp z=>ok.2.2.2.1 p ?_) (dj_l ok.2.1 j) (j.l.trans ok.2.2.1) o
  cases y:hr p with
  |none=>exact absurd y z
  |some w=>rw[j.l _ _ y];exact sN _
 |ex c ds'=>rw[e]at q;exact λF' h' H' ok _=>q F' H' ok.1
theorem zne_ (h:EvAs K ta E env ra):EvX K (tCall (CtG K f) [] E ta) E env (ra.bind λds=>f.val (ds.map D.vw)):=by
 intro σ F H Q hL hs q;refine zgG_ h σ F H _ hL hs (q.bind.imp λds F1 H1 x1 k1 vs cy=>?_)
 rw[nL];exact zgI_ x1.2.1 cy (k1.imp λr F2 H2 x2 k2=>k2.back x1.2.2.1)
theorem zcV_:∀{ns:List Str}{us:List V}{f:Str}{v:V},us[ns.idxOf f]?=uC v->ns.length=us.length->(ns.zip us).lookup f=uC v
 |[],us,f,v,h,l=>by cases us with |nil=>simp at h |cons=>simp at l
 |n::ns,[],f,v,h,l=>by simp at l
 |n::ns,u::us,f,v,h,l=>by
  rw[lM,ph];by_cases e:n=f
  ·subst e;simp at h;simp[h]
  ·rw[si,show(n == f)=uF from beq_eq_false_iff_ne.mpr e,cond_false,nh]at h
   rw[show(f == n)=uF from beq_eq_false_iff_ne.mpr λz=>e z.symm]
   exact zcV_ h (by simpa using l)
def tFld (K:lK)(cs:List Str)(t:TE)(f:Str):TE:=λσ H Q=>∃c∈cs,mFld (gA K c) t f σ H Q
def fldD (cs:List Str)(f:Str)(d:D):Mo D:=match d.un with
 |.nd (.obj c ns) ds=>if c∈cs then .opt ((ds[ns.idxOf f]?).map .vw)else .no
 |_=>.no
theorem zoS_ {cs:List Str}{f:Str}(h0:cs≠[])(hx:EvX K t E env r):EvX K (tFld K cs t f) E env (r.bind (fldD cs f)):=by
 intro σ F H Q hL hs q;have main:∀c∈cs,(∀d,r=.ok d->∃ns ds,d.un=.nd (.obj c ns) ds)->tFld K cs t f σ H Q:=λc hc hd=>⟨c,hc,by
  refine ex_v hx σ F H _ hL hs ?_;cases e:r with
  |no=>rw[e]at q;exact q
  |ex x=>rw[e]at q;exact q
  |ok d=>
   obtain⟨ns,ds,e2⟩:=hd d e;rw[e]at q;intro F1 H1 x1 v hv;have hv:=DR.un hv;rw[e2]at hv;obtain⟨p,us,rfl,⟨dx,hp,l⟩,rs⟩:=hv.nd;have q:After K (fldD cs f d) E F H _:=q;unfold fldD at q;rw[e2]at q;dsimp only at q;rw[if_pos hc]at q;obtain⟨d',e3,q⟩:=q.opt;obtain⟨d0,e4,rfl⟩:=kQ.mp e3;rcases rs.get (ns.idxOf f)with⟨z,_⟩|⟨d1,w,g1,g2,g3⟩
   ·rw[z]at e4;cases e4
   ·rw[g1]at e4;cases e4
    refine⟨dx,_,w,x1.2.1 _ _ hp,zcV_ g2 l,?_⟩;exact gotV (E:=E) (λF2 H2 x2=>(q F2 H2 (x1.trans x2)).back x1.2.2.1) x1.2.1 g3⟩
 cases e:r with
 |no=>rw[e]at q;exact q.elim
 |ok d=>
  rw[e]at q;have q':After K (fldD cs f d) E F H (OwnK (owD K) H Q):=q;unfold fldD at q';split at q'
  ·rename_i c ns ds e2
   by_cases hc:c∈cs
   ·exact main c hc λd' z=>by rw[e]at z;cases z;exact⟨ns,ds,e2⟩
   ·rw[if_neg hc]at q';exact q'.elim
  ·exact q'.elim
 |ex x=>
  cases cs with
  |nil=>exact absurd rfl h0
  |cons c cs=>exact main c (lA ..) λd' z=>by rw[e]at z;cases z
def walkD (d:D):Mo (List D):=match d.un with
 |.str l=>.ok (l.map λc=>.str [c])
 |.nd .lst xs=>.ok xs
 |.nd .tup xs=>.ok xs
 |.nd .scr xs=>.ok xs
 |.nd .ktup xs=>.ok xs
 |_=>.no
theorem yl_L {F1:Hp}(hl:SqL K F1 p us)(r:DRs K ds us F1):Yl K (Itl K p) ds (tyD K) F1:=by
 refine⟨λi H x hH hx=>?_,λH hH=>⟨us,hH.seq hl,by rw[r.len];exact kx _⟩⟩
 rcases r.get i with⟨a,_⟩|⟨y,u,a,b,c⟩
 ·rw[a]at hx;cases hx
 ·rw[a]at hx;cases hx
  refine⟨⟨us,u,hH.seq hl,b⟩,?_⟩;rintro v H' ⟨rfl,z⟩ F hF bD;have e:=z us (hH.seq hl);rw[b]at e;cases e;exact⟨F,.refl bD,(tyD K).mono hF c⟩
theorem yl_T {F1:Hp}(hl:∀H,Same F1 H->SqT K H p us)(r:DRs K ds us F1):Yl K (Itt K p) ds (tyD K) F1:=by
 refine⟨λi H x hH hx=>?_,λH hH=>⟨us,hl H hH,by rw[r.len];exact kx _⟩⟩
 rcases r.get i with⟨a,_⟩|⟨y,u,a,b,c⟩
 ·rw[a]at hx;cases hx
 ·rw[a]at hx;cases hx
  refine⟨⟨us,u,hl H hH,b⟩,?_⟩;rintro v H' ⟨rfl,z⟩ F hF bD;have e:=z us (hl _ hH);rw[b]at e;cases e;exact⟨F,.refl bD,(tyD K).mono hF c⟩
def iAnyW (K:lK)(vs:List V)(σ:L2.St)(H1:Hp)(R:It->Hp->Prop):Prop:=match vs with |[x]=>iAny K (tC x) σ H1 R |_=>False
def WkW (K:lK)(E:XK)(wi:List V->L2.St->Hp->(It->Hp->Prop)->Prop)(g:List D->Mo (List D)):Prop:=
 ∀ds vs σ F1 H1 R,Same F1 H1->DRs K ds vs F1->After K (g ds) E F1 H1 (λxs F' H'=>∀J,Yl K J xs (tyD K) F'->R J H')->wi vs σ H1 R
theorem ei_w {wi:List V->L2.St->Hp->(It->Hp->Prop)->Prop}{g:List D->Mo (List D)}(w:WkW K E wi g)(hx:EvAs K ta E env ra):EvI K (λσ H R=>ta σ H λvs H1=>wi vs σ H1 R) E (Lof K env) (ra.bind g) (tyD K):=by
 intro σ F H R hL hs q;exact zgG_ hx σ F H _ hL hs (q.bind.imp λds F1 H1 x1 k1 vs hv=>w ds vs σ F1 H1 R x1.2.1 hv k1)
def walkA (ds:List D):Mo (List D):=match ds with |[d]=>walkD d |_=>.no
theorem w_any:WkW K E (iAnyW K) walkA:=by
 intro ds vs σ F1 H1 R x1 hv k1;unfold walkA at k1;split at k1
 rotate_left
 ·exact k1.elim
 obtain⟨v,rfl,aN⟩:=DRs.one hv;have ha:=DR.un aN;unfold walkD at k1;split at k1
 ·rename_i l e;rw[e]at ha;cases ha.str
  refine k1.ok x1 _ ⟨λi H x hH hx=>?_,λH hH=>?_⟩
  ·rw[kH]at hx
   cases e:l[i]? with
   |none=>rw[e]at hx;cases hx
   |some c=>
    rw[e]at hx;cases hx;have hi:=(lg.mp e).1;refine⟨hi,?_⟩;rintro v H' ⟨rfl,rfl⟩ F _ hF;refine⟨F,.refl hF,?_⟩;show DR K (.str [c]) (tx [l.getD i 0]) F
    rw[kE,e];unfold DR;rfl
  ·show l.length<=_
   rw[ko];exact kx _
 ·rename_i e;rw[e]at ha;obtain⟨p,us,rfl,n,r⟩:=ha.nd
  exact .inl ⟨⟨us,.of (x1 _ _ n)⟩,k1.ok x1 _ (yl_L (.of n) r)⟩
 ·rename_i e;rw[e]at ha;obtain⟨p,us,rfl,n,r⟩:=ha.nd
  exact .inr ⟨⟨us,.of (x1 _ _ n)⟩,k1.ok x1 _ (yl_T (λH hH=>.of (hH _ _ n)) r)⟩
 ·rename_i e;rw[e]at ha;obtain⟨p,us,rfl,n,r⟩:=ha.nd
  exact .inl ⟨⟨us,x1.seq n⟩,k1.ok x1 _ (yl_L n r)⟩
 ·rename_i e;rw[e]at ha;obtain⟨p,us,rfl,n,r⟩:=ha.nd
  exact .inr ⟨⟨us,.inr n⟩,k1.ok x1 _ (yl_T (λH hH=>.inr n) r)⟩
 ·exact k1.elim
theorem zi1_ {lo:Int}{n:Nat}{F1:Hp}:Yl K (Itr lo n) ((rngI lo n).map D.int) (tyD K) F1:=by
 have y:=zqf_ (K:=K) (lo:=lo) (n:=n) (F1:=F1);refine⟨λi H x hH hx=>?_,λH hH=>by rw[ko];exact y.stop H hH⟩
 rw[kH]at hx;obtain⟨a,ha,rfl⟩:=kQ.mp hx;obtain⟨g,z⟩:=y.go i H a hH ha;refine⟨g,λv H' q F hF bD=>?_⟩
 obtain⟨F',x',e⟩:=z v H' q F hF bD;exact⟨F',x',by show DR K _ _ _;unfold DR;exact e⟩
def rng1D (ds:List D):Mo (List D):=match ds with
 |[d]=>(intD d).bind λj=>.grd (-(2 ^ 62)<=j/\j<2 ^ 62) (.ok ((rngI 0 j.toNat).map .int))
 |_=>.no
def rng2D (ds:List D):Mo (List D):=match ds with
 |[c,d]=>(intD c).bind λi=>(intD d).bind λj=>.grd (-(2 ^ 62)<=i/\i<2 ^ 62 /\ -(2 ^ 62)<=j/\j<2 ^ 62) (.ok ((rngI i (j-i).toNat).map .int))
 |_=>.no
theorem zdp_ {α:Type}{k:Int->Mo α}{kk:α->Hp->Hp->Prop}(q:After K ((intD d).bind k) E F H kk)(hd:DR K d v H'):∃i,v=.int i/\After K (k i) E F H kk:=by
 have hd:=DR.un hd;unfold intD at q;split at q
 ·rename_i i e;rw[e]at hd;exact⟨i,hd.int,q⟩
 ·exact q.elim
theorem w_rg1:WkW K E (λvs _ H1 R=>match vs with |[.int j] => -(2 ^ 62)<=j/\j<2 ^ 62/\R (Itr 0 j.toNat) H1 |_=>False) rng1D:=by
 intro ds vs σ F1 H1 R x1 hv k1;unfold rng1D at k1;split at k1
 ·obtain⟨v,rfl,a⟩:=DRs.one hv
  obtain⟨i,rfl,k1⟩:=zdp_ k1 a;obtain⟨z,k1⟩:=k1.grd;exact⟨z.1,z.2,k1.ok x1 _ zi1_⟩
 ·exact k1.elim
theorem w_rg2:WkW K E (λvs _ H1 R=>match vs with |[.int i,.int j]=>(-(2 ^ 62)<=i/\i<2 ^ 62 /\ -(2 ^ 62)<=j/\j<2 ^ 62)/\R (Itr i (j-i).toNat) H1 |_=>False) rng2D:=by
 intro ds vs σ F1 H1 R x1 hv k1;unfold rng2D at k1;split at k1
 ·obtain⟨v,v',rfl,a,b⟩:=DRs.two hv
  obtain⟨i,rfl,k1⟩:=zdp_ k1 a;obtain⟨j,rfl,k1⟩:=zdp_ k1 b;obtain⟨z,k1⟩:=k1.grd;exact⟨z,k1.ok x1 _ zi1_⟩
 ·exact k1.elim
def enumD (ds:List D):Mo (List D):=match ds with
 |[d]=>(match d.un with
  |.nd .lst xs=>.ok ((enumL xs).map λq=>.nd .tup [.int q.1,q.2])
  |.str l=>.ok ((enumL l).map λq=>.nd .tup [.int q.1,.str [q.2]])
  |_=>.no)
 |_=>.no
theorem w_en:WkW K E (λvs _ H1 R=>match vs with |[.str z]=>R (Ites z.cps.toList.length (λi=>tx [z.cps.toList.getD i 0])) H1 |[.ref a]=>(∃xs,SqL K H1 a xs)/\R (Ite K a) H1 |_=>False) enumD:=by
 intro ds vs σ F1 H1 R x1 hv k1;unfold enumD at k1;split at k1
 ·rename_i d
  obtain⟨v,rfl,a⟩:=DRs.one hv;have a:=DR.un a;split at k1
  ·rename_i xs e;rw[e]at a;obtain⟨p,us,rfl,n,r⟩:=a.nd
   refine⟨⟨us,.of (x1 _ _ n)⟩,k1.ok x1 _ ⟨λi H x hH hx=>?_,λH hH=>?_⟩⟩
   ·rw[kH,zbQ_]at hx
    rcases r.get i with⟨a,_⟩|⟨y,u,a,b,c⟩
    ·rw[a]at hx;cases hx
    ·rw[a]at hx;cases hx
     refine⟨⟨us,u,.of (hH _ _ n),b⟩,?_⟩;rintro v H' ⟨p2,w,z,bo,rfl,rfl⟩ F hF bD;have e:=z us (.of (hH _ _ n));rw[b]at e;cases e;have x:=Ext.new (o:=.tup [.int i,u]) bD bo;refine⟨_,x,?_⟩;show DR K _ _ _
     unfold DR;refine⟨p2,_,rfl,ze_,?_⟩;unfold DRs;refine⟨_,_,rfl,by unfold DR;rfl,?_⟩
     unfold DRs;exact⟨u,[],rfl,c.mono (hF.trans x.1),by unfold DRs;rfl⟩
   ·refine⟨us,.of (hH _ _ n),?_⟩
    rw[ko,zy_,r.len];exact kx _
  ·rename_i l e;rw[e]at a;cases a.str
   refine k1.ok x1 _ ⟨λi H x hH hx=>?_,λH hH=>?_⟩
   ·rw[kH,zbQ_]at hx
    cases e:l[i]? with
    |none=>rw[e]at hx;cases hx
    |some c=>
     rw[e]at hx;cases hx;have hi:=(lg.mp e).1;refine⟨hi,?_⟩;rintro v H' ⟨p2,bo,rfl,rfl⟩ F hF bD;have x:=Ext.new (o:=.tup [.int i,tx [l.getD i 0]]) bD bo;refine⟨_,x,?_⟩;show DR K _ _ _
     unfold DR;refine⟨p2,_,rfl,ze_,?_⟩;unfold DRs;refine⟨_,_,rfl,by unfold DR;rfl,?_⟩
     unfold DRs;refine⟨_,[],rfl,?_,by unfold DRs;rfl⟩
     rw[kE,e];unfold DR;rfl
   ·show l.length<=_
    rw[ko,zy_];exact kx _
  ·exact k1.elim
 ·exact k1.elim
structure Tg where
 tup:Bool
 is:List Nat
def tgD (g:Tg)(d:D):Option (List D):=if g.tup then(match d.un with |.nd .tup ds=>if ds.length=g.is.length then uC ds else uD |_=>uD)else if g.is.length=1 then uC [d]else uD
def tgS:List Nat->TGs
 |[]=>gNilM
 |i::is=>gConsM (gName i) (tgS is)
def tgT (K:lK)(g:Tg):TG:=if g.tup then gTupM K g.is.length (tgS g.is)else gName (g.is.headD 0)
def tyTg (K:lK)(g:Tg):Ty (List D):=⟨λds v F=>ds.length=g.is.length/\if g.tup then∃p us,v=.ref p/\F p=uC (.tup us)/\DRs K ds us F else DRs K ds [v] F,
 λ{ds v H H'} s q=>⟨q.1,by
  have q:=q.2;split at q
  ·rename_i e;rw[if_pos e];obtain⟨p,us,e1,e2,e3⟩:=q;exact⟨p,us,e1,s _ _ e2,e3.mono s⟩
  ·rename_i e;rw[if_neg e];exact q.mono s⟩⟩
def ssT (K:lK)(is:List Nat)(ds:List D):List (Nat×Sl):=is.zip (ds.map λd=>.fz (tyD K) d)
theorem tgs_R:∀{is:List Nat}{ds:List D}{us:List V}{σ:L2.St}{F H:Hp}{Q:L2.St->Hp->Prop},ds.length=is.length->DRs K ds us F->(∀vs,Plain F (ssT K is ds) vs->Q (setS σ vs) H)->tgS is us σ H Q
 |[],[],us,σ,F,H,Q,_,r,q=>by unfold DRs at r;subst r;exact q [] .nil
 |i::is,d::ds,us,σ,F,H,Q,l,r,q=>by
  unfold DRs at r;obtain⟨v,vs,rfl,a,r⟩:=r;exact tgs_R (σ:=σ.set i (uC v)) (by simpa using l) r λws hw=>q ((i,uC v)::ws) (.cons a hw)
 |[],_::_,_,_,_,_,_,l,_,_=>by simp at l
 |_::_,[],_,_,_,_,_,l,_,_=>by simp at l
theorem tg_R (g:Tg):TgR K (tgT K g) (tyTg K g) (ssT K g.is):=by
 rintro ds v σ F H Q hs ⟨hl,hd⟩ q;unfold tgT;split at hd
 ·rename_i e;rw[if_pos e]
  obtain⟨p,us,rfl,hp,r⟩:=hd;exact⟨us,.of (hs _ _ hp),by rw[<- r.len,hl],tgs_R hl r q⟩
 ·rename_i e;rw[if_neg e]
  match h:g.is,ds,hl,hd,q with
  |[i],[d],_,hd,q=>
   obtain⟨_,e,a⟩:=DRs.one hd;cases e;exact q [(i,uC v)] (.cons a .nil)
  |[],ds,hl,hd,_=>rw[l9.mp hl]at hd;unfold DRs at hd;cases hd
  |_::_::_,d::e::ds,_,hd,_=>unfold DRs at hd;obtain⟨_,_,z,_,r⟩:=hd;cases z;unfold DRs at r;obtain⟨_,_,z,_⟩:=r;cases z
def tgsD (g:Tg):List D->Option (List (List D))
 |[]=>uC []
 |d::ds=>(tgD g d).bind λx=>(tgsD g ds).map λxs=>x::xs
theorem tgD_R {g:Tg}{x:List D}(e:tgD g d=uC x)(h:DR K d v F):(tyTg K g).R x v F:=by
 unfold tgD at e;split at e
 ·rename_i z
  have h:=DR.un h;split at e
  ·rename_i ds e2
   rw[e2]at h;obtain⟨p,us,rfl,n,r⟩:=h.nd;split at e
   ·rename_i l;cases e;exact⟨l,by rw[if_pos z];exact⟨p,us,rfl,n,r⟩⟩
   ·cases e
  ·cases e
 ·rename_i z
  split at e
  ·rename_i l;cases e;exact⟨l.symm,by rw[if_neg z];unfold DRs;exact⟨v,[],rfl,h,by unfold DRs;rfl⟩⟩
  ·cases e
theorem zeq_ {g:Tg}:∀{ds:List D}{xs:List (List D)},tgsD g ds=uC xs->xs.length=ds.length/\∀(i:Nat) x,xs[i]?=uC x->∃d,ds[i]?=uC d/\tgD g d=uC x
 |[],_,e=>by cases e;exact⟨rfl,λi x h=>by simp at h⟩
 |d::ds,_,e=>by
  unfold tgsD at e;obtain⟨x,e1,e⟩:=kP.mp e;obtain⟨xs,e2,rfl⟩:=kQ.mp e;obtain⟨l,f⟩:=zeq_ e2;refine⟨by rw[kZ,kZ,l],λi y h=>?_⟩
  cases i with
  |zero=>simp at h;subst h;exact⟨d,rfl,e1⟩
  |succ i=>exact f i y (by simpa using h)
theorem ei_tg {wi:TI}{L:List Sl}{rs:Mo (List D)}(g:Tg)(h:EvI K wi E L rs (tyD K)):EvI K wi E L (rs.bind λl=>.opt (tgsD g l)) (tyTg K g):=by
 intro σ F H R hL hs q;refine h σ F H _ hL hs (q.bind.imp λds F1 H1 x1 k1 J Y=>?_)
 obtain⟨xs,e,k1⟩:=k1.opt;obtain⟨l,f⟩:=zeq_ e;refine k1.ok x1.2.1 J ⟨λi H x hH hx=>?_,λH hH=>by rw[l];exact Y.stop H hH⟩
 obtain⟨d,hd,e2⟩:=f i x hx;obtain⟨g1,z⟩:=Y.go i H d hH hd;refine⟨g1,λv H' q F hF bD=>?_⟩
 obtain⟨F',x',hv⟩:=z v H' q F hF bD;exact⟨F',x',tgD_R e2 hv⟩
def setE (env:Env):List Nat->List D->Env
 |i::is,d::ds=>setE (env.set i (uC d.vw)) is ds
 |_,_=>env
def cE (lv:List Str)(fr:List (Str×Nat))(env:Env):Env:=lv.map (λ_=>uD)++fr.map λq=>(env[q.2]?).join
theorem cL_eq {lv:List Str}{fr:List (Str×Nat)}:cL lv fr (Lof K env)=Lof K (cE lv fr env):=by
 unfold cL cE;show _=List.map (slot K) (_++_)
 rw[mV,lX,lX];congr 1;refine nq λq _=>?_
 simp only[Function.comp,kH];cases env[q.2]? with
 |none=>rfl
 |some o=>rfl
def LeZ (L L':List Sl):Prop:=∀(i:Nat) s',L'[i]?=uC s'->∃s,L[i]?=uC s/\∀o F,s.Z o F->s'.Z o F
theorem LeZ.hold {L L':List Sl}{σ:L2.St}(z:LeZ L L')(h:HoldF L σ F):HoldF L' σ F:=λi s' e=>by
 obtain⟨s,e1,e2⟩:=z i s' e;exact e2 _ _ (h i s e1)
theorem zjw_:∀{is:List Nat}{ds:List D}{L:List Sl}{env:Env},LeZ L (Lof K env)->LeZ (setL L (ssT K is ds)) (Lof K (setE env is ds))
 |[],_,_,_,z=>z
 |_::_,[],_,_,z=>z
 |i::is,d::ds,L,env,z=>by
  refine zjw_ (is:=is) (ds:=ds) (L:=L.set i (.fz (tyD K) d)) (env:=env.set i (uC d.vw)) ?_;intro j s' e;rw[kH,ng]at e;by_cases hj:i=j
  ·subst hj
   rw[if_pos rfl]at e;by_cases hl:i<env.length
   ·rw[if_pos hl]at e
    cases e;obtain⟨s,e1,_⟩:=z i _ (by rw[kH,km hl];rfl)
    refine⟨.fz (tyD K) d,by rw[mS (lg.mp e1).1],?_⟩
    rintro o F ⟨v,e2,hv⟩;refine⟨v,e2,?_⟩;show DR K d.vw v F
    unfold D.vw;split
    ·exact hv
    ·split
     ·exact hv
     ·unfold DR;exact hv
   ·rw[if_neg hl]at e;cases e
  ·rw[if_neg hj]at e
   obtain⟨s,e1,e2⟩:=z j s' (by rw[kH];exact e)
   exact⟨s,by rw[lD hj];exact e1,e2⟩
theorem zjX_ {L:List Sl}:LeZ L L:=λi s e=>⟨s,e,λ_ _ h=>h⟩
theorem zpu_ (h:(owLO (owD K)).O ds v F h1):OD K (.nd .lst ds) v F h1:=by
 obtain⟨p,vs,h2,rfl,j,q⟩:=h;unfold OD;have go:∀{ds:List D}{vs:List V}{h:Hp},OwAll (owD K) F ds vs h->ODs K ds vs F h:=λ{ds}=>by
  induction ds with
  |nil=>intro vs h q;cases vs with |nil=>unfold ODs;exact⟨rfl,q⟩|cons=>exact q.elim
  |cons d ds ih=>intro vs h q;cases vs with |nil=>exact q.elim |cons v vs=>obtain⟨h1,h2,j,a,r⟩:=q;unfold ODs;exact⟨v,vs,h1,h2,rfl,j,a,ih r⟩
 exact⟨p,vs,_,h2,rfl,rfl,j,go q⟩
theorem zjq_ {lv:List Str}{fr:List (Str×Nat)}{wi:TI}{g:Tg}{tt:TT}{te:TE}{rs:Mo (List D)}{c:List D->Mo Bool}{f:List D->Mo D}(hi:EvI K wi E (Lof K env) rs (tyD K))(hg:∀i∈g.is,i<lv.length)
  (ht:∀a,EvT K tt E0 (Lof K (setE (cE lv fr env) g.is a)) (c a)) (he:∀a,EvX K te E0 (setE (cE lv fr env) g.is a) (f a)):
  EvX K (tComp lv fr wi (tgT K g) tt te) E env ((rs.bind λl=>.opt (tgsD g l)).bind λxs=>(compM (λx=>cond1 (c x) (f x)) xs []).bind λys=>.ok (.nd .lst ys)):=by
 have z:∀a,LeZ (setL (cL lv fr (Lof K env)) (ssT K g.is a)) (Lof K (setE (cE lv fr env) g.is a)):=λa=>zjw_ (by rw[cL_eq];exact zjX_)
 have dead:∀a,DeadAt (cL lv fr (Lof K env)) ((ssT K g.is a).map (·.1)):=λa i hi s e=>by
  have:i∈g.is:=by
   obtain⟨q,hq,rfl⟩:=my.mp hi;exact(nM hq).1
  have hl:=hg i this;unfold cL at e;rw[mx (by rw[ko];exact hl),kH,km hl]at e
  cases e;rfl
 have:=zlj_ (lv:=lv) (fr:=fr) (ei_tg g hi) (tg_R g) dead (λa σ F H Q hL hs q=>ht a σ F H Q ((z a).hold hL) hs q) (λa σ F H Q hL hs q=>he a σ F H Q ((z a).hold hL) hs q)
 intro σ F H Q hL hs q;refine this σ F H Q hL hs ?_;have e:∀(m:Mo (List (List D))),(m.bind λxs=>(compM (λx=>cond1 (c x) (f x)) xs []).bind λys=>.ok (D.nd .lst ys))=(m.bind λxs=>compM (λx=>cond1 (c x) (f x)) xs []).bind λys=>.ok (.nd .lst ys):=λm=>(Mo.bind_assoc _ _ _).symm
 rw[e]at q;exact q.bind.imp λys F1 H1 x1 k1 v k b_ dj s o=>k1.ok x1.2.1 v k b_ dj s (zpu_ o)
end
def rDGet:R2:=λx y H Q=>atD x y H λ_ kvs k=>∃v,valV kvs k=uC v/\Q v H
def rDIn (neg:Bool):R2:=λy x H Q=>atD x y H λ_ kvs k=>Q (.bl (if neg then !(valV kvs k).isSome else(valV kvs k).isSome)) H
def rIxA (K:lK):R2:=λx y H Q=>mIx K x y H Q\/rDGet x y H Q
def rInA (K:lK)(neg:Bool):R2:=λx y H Q=>mIn K neg x y H Q\/rDIn neg x y H Q
def mLenA (K:lK):List V->Hp->VK->Prop:=λvs H Q=>mLen K vs H Q\/mLenD vs H Q
section
variable {X:Cx}
theorem zk9_ (hu:X.A.units+60<cLine):IxR X rDGet:=by
 intro value slice pins s σ H x y v u Q I rx ry h hs;obtain⟨a,kvs,k,rfl,rfl,hd,w,hw,q⟩:=zhn_ h;obtain rfl:v=mw a:=rx;have g:DGet H a (kV k) (uC w):=by rw[<- hw];exact DGet.k hd
 have hT:=zfu_ I g;unfold subscriptTail;refine kr ?_;rw[getitemInPython_of_ne hT.not_modules];refine kr (wpAny_specialOf hT PySem.F.slot_dict_getitem.lookup ?_);have fin:lC (model X.prog X.w) X.A (subscripted slice uF (.ref a) u) (λr ay=>lC (model X.prog X.w) X.A (letTemporaryGo value (.ref a) r>>=λ_=>pure r) (EP X pins σ Q) X.xe ay) X.xe s:=by
  rw[hs];exact wpAny_operating (mF (ziQ_ (Q:=EP X pins σ Q) (by lia) I g ry λw' s3 I3 bK=>⟨w,H,I3,bK,q⟩) (λr ay bQ=>kr (wpAny_letTemporaryGo (lj bQ))) λ_ _ x=>x)
 first
  |exact lj (kr fin)
  |exact kr (lj (kr fin))
  |exact kr fin
theorem ix_A (hu:X.A.units+60<cLine):IxR X (rIxA X.K):=λvalue slice pins s σ H x y v u Q I rx ry h hs=>by
 rcases h with h |h
 ·exact ix_M value slice pins s σ H x y v u Q I rx ry h hs
 ·exact zk9_ hu value slice pins s σ H x y v u Q I rx ry h hs
theorem zqe_ (hu:X.A.units+60<cLine):OpR X (lp .In) (rInA X.K uF):=λpins s σ H x y v u Q I rx ry h=>by
 rcases h with h |h
 ·exact zp6_ pins s σ H x y v u Q I rx ry h
 ·obtain⟨a,kvs,k,rfl,rfl,hd,q⟩:=zhn_ h
  cases ry;exact d_in (by lia) I (DGet.k (k:=k) hd) rx λs3 I3=>⟨.bl (valV kvs k).isSome,H,I3,rfl,q⟩
theorem zhV_ (hu:X.A.units+60<cLine):OpR X (lp .NotIn) (rInA X.K uE):=λpins s σ H x y v u Q I rx ry h=>by
 rcases h with h |h
 ·exact zhQ_ pins s σ H x y v u Q I rx ry h
 ·obtain⟨a,kvs,k,rfl,rfl,hd,q⟩:=zhn_ h
  cases ry;exact zlY_ (by lia) I (DGet.k (k:=k) hd) rx λs3 I3=>⟨.bl (!(valV kvs k).isSome),H,I3,rfl,q⟩
theorem zhZ_:CallR X (.builtin "len") (mLenA X.K):=λpins s σ H xs us Q I r h=>by
 rcases h with h |h
 ·exact ziJ_ pins s σ H xs us Q I r h
 ·exact zfL_ pins s σ H xs us Q I r h
end
section
variable {K:l8}{E:XK}{F F' h h1 h2 H H':Hp}{d:D}{ds:List D}{v:V}{us vs:List V}{k:Nd}{p:kz}{Q:VK}{env:Env}{t:TE}{r r1 r2:Mo D}{ta:TA}{ra:Mo (List D)}{f:Fn}
def isDct (d:D):Bool:=match d.un with |.nd (.dct _) _=>uE |_=>uF
def ixA (a b:D):Mo D:=if isDct a then dgetD a b else ixD a b
theorem znp_:Op2D K rDGet E dgetD:=by
 intro a b x y F H Q hs ha hb q;have ha:=DR.un ha;unfold dgetD at q;split at q
 ·rename_i ks ds k e1 e2
  rw[e1]at ha;obtain⟨p,us,rfl,n,r⟩:=ha.nd;obtain⟨d,e,q⟩:=q.opt;obtain⟨d0,e',rfl⟩:=kQ.mp e;rcases zqS_ (k:=k) (ks:=ks) r with⟨h1,h2⟩|⟨d',v',g1,g2,g3⟩
  ·rw[h1]at e';cases e'
  ·rw[g1]at e';cases e'
   exact zev_ rfl (zlo_ e2 hb).1 (hs _ _ n.1) ⟨v',g2,gotV q hs g3⟩
 ·exact q.elim
theorem zqI_:Op2D K (rIxA K) E ixA:=by
 intro a b x y F H Q hs ha hb q;unfold ixA at q;split at q
 ·exact .inr (znp_ a b x y F H Q hs ha hb q)
 ·exact .inl (od_ix a b x y F H Q hs ha hb q)
def inA (neg:Bool)(a b:D):Mo D:=if isDct b then dinD neg a b else inD neg a b
theorem zrl_ {neg:Bool}:Op2D K (rDIn neg) E (dinD neg):=by
 intro a b x y F H Q hs ha hb q;have hb:=DR.un hb;unfold dinD at q;split at q
 ·rename_i ks ds k e1 e2
  rw[e1]at hb;obtain⟨p,us,rfl,n,r⟩:=hb.nd;refine zev_ rfl (zlo_ e2 ha).1 (hs _ _ n.1) ?_;have e:(valV (ks.zip us) k).isSome=(valD ks ds k).isSome:=by
   rcases zqS_ (k:=k) (ks:=ks) r with⟨h1,h2⟩|⟨d',v',g1,g2,g3⟩
   ·rw[h1,h2];rfl
   ·rw[g1,g2];rfl
  rw[e];exact gotB q hs
 ·exact q.elim
theorem zlz_ {neg:Bool}:Op2D K (rInA K neg) E (inA neg):=by
 intro a b x y F H Q hs ha hb q;unfold inA at q;split at q
 ·exact .inr (zrl_ a b x y F H Q hs ha hb q)
 ·exact .inl (od_in a b x y F H Q hs ha hb q)
def lenA (ds:List D):Mo D:=match ds with |[d]=>if isDct d then dlenD ds else lenD ds |_=>.no
theorem zmB_:BlD K (mLenA K) E lenA:=by
 intro ds vs F H Q hs hd q;unfold lenA at q;split at q
 ·split at q
  ·exact .inr (zmx_ _ vs F H Q hs hd q)
  ·exact .inl (zo2_ _ vs F H Q hs hd q)
 ·exact q.elim
def makeD (f:Fn)(c:Str)(ds:List D):Mo D:=match f (.nd (.obj c []) []::ds.map .vw)with
 |.ok .non (o::_)=>.ok o
 |.ex x _=>.ex x
 |_=>.no
theorem zal_ {p dx q:kz}{o:HO}:two p dx o q=if q=p then uC o else if q=dx then uC (.own p)else uD:=rfl
theorem zi9_:∀{ds es:List D}{vs us:List V}{F:Hp},DRs K ds vs F->DRs K es us F->DRs K (ds++es) (vs++us) F
 |[],_,_,_,_,h,g=>by unfold DRs at h;subst h;exact g
 |d::ds,_,_,_,_,h,g=>by unfold DRs at h;obtain⟨v,vs,rfl,a,r⟩:=h;rw[mf,mf];unfold DRs;exact⟨v,_,rfl,a,zi9_ r g⟩
theorem zqw_ {c:Str}{dv:List D}{au:List V}(hx:EvAs K ta E env ra)(gH:∀F,DRs K dv au F):EvX K (tMake (gA K c) (CtG K f) au E ta) E env (ra.bind λds=>makeD f c (ds++dv)):=by
 intro σ F H Q hL hs q;refine zgG_ hx σ F H _ hL hs (q.bind.imp λds F1 H1 x1 k1 vs cy=>?_)
 intro x dx nx dy ne;have cy:=zi9_ cy (gH F1);have k1:=k1.imp λa F3 H3 x3 k3=>k3.back x1.2.2.1
 have sm:Same H1 (upd (upd H1 dx (.own x)) x (.ins (gA K c) dx [])):=(zV_ dy _).trans (zV_ (by rw[zc_ λz=>ne z.symm];exact nx) _)
 have eh:less (upd (upd H1 dx (.own x)) x (.ins (gA K c) dx [])) (two x dx (.ins (gA K c) dx []))=H1:=funext λp=>by
  unfold less;rw[zal_];by_cases e:p=x
  ·subst e;rw[if_pos rfl];exact nx.symm
  ·rw[if_neg e]
   by_cases e2:p=dx
   ·subst e2;rw[if_pos rfl];exact dy.symm
   ·rw[if_neg e2,zc_ e,zc_ e2]
 refine⟨F1,two x dx (.ins (gA K c) dx []),.nd (.obj c []) []::(ds++dv).map .vw,x1.2.1.trans sm,λp=>?_,λp o z=>?_,?_,?_⟩
 ·rw[zal_]
  by_cases e:p=x
  ·subst e;exact .inl (x1.2.1.free nx)
  ·rw[if_neg e]
   by_cases e2:p=dx
   ·subst e2;exact .inl (x1.2.1.free dy)
   ·rw[if_neg e2];exact .inr rfl
 ·rw[zal_]at z
  by_cases e:p=x
  ·subst e;rw[if_pos rfl]at z;cases z;exact ze_
  ·rw[if_neg e]at z
   by_cases e2:p=dx
   ·subst e2;rw[if_pos rfl]at z;cases z;rw[zc_ e];exact ze_
   ·rw[if_neg e2]at z;cases z
 ·unfold ODs
  refine⟨.ref x,_,_,λ_=>uD,rfl,no_r _ λ_=>rfl,?_,ODs.vw (λ_=>rfl) cy⟩
  unfold OD;exact⟨x,[],_,λ_=>uD,rfl,⟨dx,ne,rfl,rfl⟩,no_r _ λ_=>rfl,by unfold ODs;exact⟨rfl,λ_=>rfl⟩⟩
 ·rw [eh]
  unfold makeD at k1;cases e:f (.nd (.obj c []) []::(ds++dv).map .vw)with
  |no=>rw[e]at k1;exact k1
  |ex x ds'=>rw[e]at k1;exact λF' h' H' ok _=>k1 F' H' ok.1
  |ok d ds'=>
   rw[e]at k1;intro v F' h' H' hr h2 ok j od os;split at k1
   ·rename_i o tl ee
    cases ee;refine⟨?_,?_⟩
    ·unfold OD at od;exact od.2.non
    ·unfold ODs at os
     obtain⟨w,ws,m1,m2,e3,jm,oo,_⟩:=os;cases e3;have s1:Same m1 h':=jm.l.trans j.r;refine k1 F' H' ok.1 (.ref x) m1 (λp z=>ok.2.2.2.1 p ?_) (dj_l (dj_r ok.2.1 j) jm) (s1.trans ok.2.2.1) oo
     cases y:m1 p with
     |none=>exact absurd y z
     |some w=>rw[s1 _ _ y];exact sN _
   ·rename_i ee;cases ee
   ·exact k1.elim
def strsD:List D->Option (List (List Nat))
 |[]=>uC []
 |d::ds=>(match d.un with |.str l=>uC l |_=>uD).bind λx=>(strsD ds).map λxs=>x::xs
theorem zhY_:∀{ds:List D}{xs:List (List Nat)}{us:List V},strsD ds=uC xs->DRs K ds us H->us=xs.map tx
 |[],_,_,e,h=>by cases e;unfold DRs at h;exact h
 |d::ds,_,_,e,h=>by
  unfold strsD at e;unfold DRs at h;obtain⟨x,ex,e⟩:=kP.mp e;obtain⟨xs,exs,rfl⟩:=kQ.mp e;obtain⟨v,vs,rfl,a,r⟩:=h;have a:=DR.un a;split at ex
  ·rename_i e2;cases ex;rw[e2]at a;cases a.str;rw[zhY_ exs r];rfl
  ·cases ex
def joinD (l:List Nat)(ds:List D):Mo D:=match ds with
 |[d]=>(match d.un with |.nd .lst xs=>(Mo.opt (strsD xs)).bind λls=>.grd (JoinOk ⟨l.toArray⟩ (strsL ls)=uE) (.ok (.str (joinS l (strsL ls))))|_=>.no)
 |_=>.no
theorem zhS_:∀ls:List (List Nat),strsOf (ls.map tx)=uC (strsL ls):=λls=>strsOf_of' ls
 where strsOf_of':∀ls:List (List Nat),strsOf (ls.map tx)=uC (strsL ls)
 |[]=>rfl
 |l::ls=>by show(strsOf (ls.map tx)).map _=_;rw[strsOf_of' ls];rfl
theorem zmp_:MeD K (mJoin K) E joinD:=by
 intro l ds vs F H Q hs hd q;unfold joinD at q;split at q
 ·obtain⟨v,rfl,a⟩:=DRs.one hd
  have a:=DR.un a;split at q
  ·rename_i xs e;rw[e]at a;obtain⟨p,us,rfl,n,r⟩:=a.nd
   cases e3:strsD xs with
   |none=>rw[e3]at q;exact q.elim
   |some ls=>
    rw[e3]at q;obtain⟨z,q⟩:=After.grd (show After K (Mo.grd _ _) E F H _ from q)
    refine⟨us,.of (hs _ _ n),?_⟩;rw[zhY_ e3 r,zhS_];exact⟨z,gotS q hs⟩
  ·exact q.elim
 ·exact q.elim
theorem zjl_:∀ls:List (List Nat),DRs K (ls.map .str) (ls.map tx) F
 |[]=>by unfold DRs;rfl
 |l::ls=>by rw[kF,kF];unfold DRs;exact⟨_,_,rfl,by unfold DR;rfl,zjl_ ls⟩
def me1 (g:List Nat->List Nat->Mo D)(l:List Nat)(ds:List D):Mo D:=match ds with |[d]=>(match d.un with |.str c=>g l c |_=>.no)|_=>.no
def me1I (g:List Nat->Int->Mo D)(l:List Nat)(ds:List D):Mo D:=match ds with |[d]=>(match d.un with |.int c=>g l c |_=>.no)|_=>.no
theorem zq8_ {m:V->List V->Hp->VK->Prop}{g:List Nat->List Nat->Mo D}(hm:∀l c F H (Q:VK),Same F H->After K (g l c) E F H (OwnK (owD K) H Q)->m (tx l) [tx c] H Q):MeD K m E (me1 g):=by
 intro l ds vs F H Q hs hd q;unfold me1 at q;split at q
 ·obtain⟨v,rfl,a⟩:=DRs.one hd
  have a:=DR.un a;split at q
  ·rename_i c e;rw[e]at a;cases a.str;exact hm l c F H Q hs q
  ·exact q.elim
 ·exact q.elim
theorem zmo_ {m:V->List V->Hp->VK->Prop}{g:List Nat->Int->Mo D}(hm:∀l c F H (Q:VK),Same F H->After K (g l c) E F H (OwnK (owD K) H Q)->m (tx l) [.int c] H Q):MeD K m E (me1I g):=by
 intro l ds vs F H Q hs hd q;unfold me1I at q;split at q
 ·obtain⟨v,rfl,a⟩:=DRs.one hd
  have a:=DR.un a;split at q
  ·rename_i c e;rw[e]at a;cases a.int;exact hm l c F H Q hs q
  ·exact q.elim
 ·exact q.elim
abbrev indexD:=me1 λl c=>.grd (findS l c ≠ -1) (.ok (.int (findS l c)))
abbrev zfillD:=me1I λl i=>.grd (PadOk i=uE) (.ok (.str (zfL l i)))
theorem zj4_:MeD K mIndex E indexD:=zq8_ λl c F H Q hs q=>by obtain⟨z,q⟩:=q.grd;exact⟨z,gotI q hs⟩
theorem zkx_:MeD K mZfill E zfillD:=zmo_ λl c F H Q hs q=>by obtain⟨z,q⟩:=q.grd;exact⟨z,gotS q hs⟩
noncomputable def tnD:D->Option String
 |.int _=>uC "int" |.bl _=>uC "bool" |.str _=>uC "str" |.non=>uC "NoneType" |.nd .lst _=>uC "list" |.nd .tup _=>uC "tuple" |_=>uD
def isaD (n:String)(d:D):Mo D:=.opt (((tnD d.un).bind λT=>isaB T n).map .bl)
theorem tnD_S {T:String}(h:tnD d=uC T)(a:DR K d v F)(hs:Same F H):tyS K H v T:=by
 cases d with
 |int=>cases h;cases a.int;rfl
 |bl=>cases h;cases a.bl;rfl
 |str=>cases h;cases a.str;rfl
 |non=>cases h;cases a.non;rfl
 |nd k ds=>
  obtain⟨p,us,rfl,m,_⟩:=a.nd;cases k with
  |lst=>cases h;exact .inl ⟨rfl,us,hs _ _ m⟩
  |tup=>cases h;exact .inr ⟨rfl,us,hs _ _ m⟩
  |_=>cases h
 |_=>cases h
def mIsaV (K:lK):List V->Hp->VK->Prop:=λxs H Q=>∃x c T b,xs=[x,.ty c]/\tyS K H x T/\isaB T c=uC b/\Q (.bl b) H
theorem zh2_ {X:Cx}:CallR X (.builtin "isinstance") (mIsaV X.K):=by
 rintro pins s σ H xs us Q I r ⟨x,c,T,b,rfl,ht,eb,hq⟩;obtain⟨u,w',rfl,r1,r2⟩:=vals2 r;cases r2;exact ziu_ I r1 (zpq_ ht) (znM_ eb) λtk=>⟨.bl b,H,I.tok tk,rfl,hq⟩
theorem zri_ (n:String)(hx:EvX K t E env r):EvX K (tCB (mIsaV K) (tCons t (tCons (tC (.ty n)) tNil))) E env (r.bind (isaD n)):=by
 intro σ F H Q hL hs q;refine ex_v hx σ F H _ hL hs (q.bind.imp λd F1 H1 x1 k1 v hv=>?_)
 have k1:=k1.imp λa F3 H3 x3 k3=>k3.back x1.2.2.1
 obtain⟨w,e,k1⟩:=k1.opt;obtain⟨b,e0,rfl⟩:=kQ.mp e;obtain⟨T,e1,e2⟩:=kP.mp e0;exact⟨v,n,T,b,rfl,tnD_S e1 (DR.un hv) x1.2.1,e2,gotB k1 x1.2.1⟩
def blsD:List D->Option (List Bool)
 |[]=>uC []
 |d::ds=>match d.un,blsD ds with |.bl b,uC bs=>uC (b::bs)|_,_=>uD
theorem zon_:∀{ds:List D}{us:List V}{bs:List Bool}{F:Hp},blsD ds=uC bs->DRs K ds us F->us=bs.map V.bl
 |[],us,bs,F,h,r=>by unfold DRs at r;subst r;cases h;rfl
 |d::ds,us,bs,F,h,r=>by
  unfold DRs at r;obtain⟨v,vs,rfl,a,r⟩:=r;unfold blsD at h;split at h
  ·rename_i b j5 e1 e2
   cases h;have a:=DR.un a;rw[e1]at a;cases a.bl;rw[zon_ e2 r];rfl
  ·cases h
def allD:List D->Mo D:=on1 λd=>match d with |.nd .lst ds=>(match blsD ds with |some bs=>.ok (.bl (bs.all id))|none=>.no)|_=>.no
theorem zq3_:BlD K (mAll K) E allD:=zfy_ λd v F H Q hs hd q=>by
 split at q
 ·obtain⟨p,us,rfl,n,r⟩:=hd.nd
  split at q
  ·rename_i bs e
   refine⟨bs,?_,gotB q hs⟩;rw[<- zon_ e r];exact .of (hs _ _ n)
  ·exact q.elim
 ·exact q.elim
theorem zng_:EvX K tDNewK E env (.ok (.nd (.dct []) [])):=by
 intro σ F H Q hL hs q p hp;refine q F _ (.heap hs (zV_ hp _)) (.ref p) (one p (.dK [])) (λb z=>?_) (λb=>?_) (λb o z=>?_) ?_
 ·rw[zb_]at z;split at z
  ·rename_i e;rw[e];exact hp
  ·exact absurd rfl z
 ·rw[zb_];split
  ·rename_i e;rw[e];exact .inl (hs.free hp)
  ·exact .inr rfl
 ·rw[zb_]at z;split at z
  ·rename_i e;rw[e];cases z;exact ze_
  ·cases z
 ·show OD K _ _ _ _
  unfold OD;exact⟨p,[],_,λ_=>uD,rfl,⟨rfl,rfl,List.nodup_nil⟩,no_r _ λ_=>rfl,by unfold ODs;exact⟨rfl,λ_=>rfl⟩⟩
def revD (ds:List D):Mo (List D):=match ds with
 |[d]=>(match d.un with |.nd .lst xs=>.ok xs.reverse |_=>.no)
 |_=>.no
def zipD (ds:List D):Mo (List D):=match ds with
 |[d,e]=>(match d.un,e.un with
  |.nd .lst xs,.nd .lst ys=>.ok ((xs.zip ys).map λq=>.nd .tup [q.1,q.2])
  |_,_=>.no)
 |_=>.no
theorem w_zip:WkW K E (λvs _ H1 R=>match vs with
  |[.ref a,.ref b]=>(∃xs,SqL K H1 a xs)/\(∃ys,SqL K H1 b ys)/\R (Itz K a b) H1
  |_=>False) zipD:=by
 intro ds vs σ F1 H1 R x1 hv k1;unfold zipD at k1;split at k1
 ·obtain⟨v,v2,rfl,a,a2⟩:=DRs.two hv
  have a:=DR.un a;have a2:=DR.un a2;split at k1
  ·rename_i l1 l2 e1 e2
   rw[e1]at a;rw[e2]at a2;obtain⟨p,us,rfl,hp,hr⟩:=a.nd;obtain⟨p2,us2,rfl,bo,cV⟩:=a2.nd;refine⟨⟨us,.of (x1 _ _ hp)⟩,⟨us2,.of (x1 _ _ bo)⟩,k1.ok x1 _ ⟨λi H x hH hx=>?_,λH hH=>?_⟩⟩
   ·rw[kH]at hx
    cases ez:(l1.zip l2)[i]? with
    |none=>rw[ez]at hx;cases hx
    |some q=>
    rw[ez]at hx;cases hx;obtain⟨dz,hx2⟩:=oI.mp (show(l1.zip l2)[i]?=uC (q.1,q.2)from ez)
    rcases hr.get i with⟨a,_⟩|⟨y,u,a,b,c⟩
    ·rw[a]at dz;cases dz
    rcases cV.get i with⟨a',_⟩|⟨y',u',a',b',c'⟩
    ·rw[a']at hx2;cases hx2
    rw[a]at dz;rw[a']at hx2;injection dz with dz;injection hx2 with hx2;refine⟨⟨us,us2,u,u',.of (hH _ _ hp),.of (hH _ _ bo),b,b'⟩,?_⟩;rintro v H' ⟨p3,w,w',z,z',hp3,rfl,rfl⟩ F hF bD;have e:=z us (.of (hH _ _ hp));have e':=z' us2 (.of (hH _ _ bo));rw[b]at e;cases e;rw[b']at e';cases e';have x':=Ext.new (o:=.tup [u,u']) bD hp3;refine⟨_,x',?_⟩;show DR K _ _ _
    unfold DR;refine⟨p3,_,rfl,ze_,?_⟩;unfold DRs;refine⟨_,_,rfl,by rw[<- dz];exact DR.mono (hF.trans x'.1) c,?_⟩
    unfold DRs;exact⟨_,_,rfl,by rw[<- hx2];exact DR.mono (hF.trans x'.1) c',by unfold DRs;rfl⟩
   ·refine⟨us,us2,.of (hH _ _ hp),.of (hH _ _ bo),?_⟩
    rw[ko,mn,hr.len,cV.len];lia
  ·exact k1.elim
 ·exact k1.elim
theorem newTp (q:After K (.ok (.nd .tup (ds.map .vw))) E F H (OwnK (owD K) H Q))(hs:Same F H)(hp:H p=uD)(r:DRs K ds us F):Q (.ref p) (upd H p (.tup us)):=by
 have x:=Ext.new (o:=.tup us) hs hp;refine q _ _ x (.ref p) (λ_=>uD) (λb z=>absurd rfl z) (λ_=>.inr rfl) (λb o z=>by cases z) ?_
 show OD K _ _ _ _
 unfold OD;exact⟨p,us,λ_=>uD,λ_=>uD,rfl,⟨ze_,λ_=>rfl⟩,no_r _ λ_=>rfl,ODs.vw (λ_=>rfl) (r.mono x.1)⟩
def mSlA (K:lK):V->Option Int->Option Int->Hp->VK->Prop:=λx lo hi H Q=>mSl K x lo hi H Q\/rSlT K x lo hi H Q
theorem sl_A {X:Cx}:SlR X (mSlA X.K):=SlR.or sl_M zpd_
def slA (a:D)(lo hi:Option Int):Mo D:=match a.un with
 |.nd .tup xs=>if HT.sIx xs.length 0 lo=0/\HT.sIx xs.length xs.length hi=xs.length then .no else .ok (.nd .tup ((cutG xs lo hi).map .vw))
 |_=>slD a lo hi
theorem zpO_ {tl th:TO}{rl rh:Mo (Option Int)}(h0:EvX K t E env r)(hl:EvP K tl E (Lof K env) rl)(hh:EvP K th E (Lof K env) rh):EvX K (tSl (mSlA K) t tl th) E env (r.bind λl=>rl.bind λa=>rh.bind λb=>slA l a b):=by
 intro σ F H Q hL hs q;refine ex_v h0 σ F H _ hL hs (q.bind.imp λl F1 H1 x1 k1 v hv=>?_)
 refine hl σ F1 H1 _ (hL.mono x1.1) x1.2.1 (k1.bind.imp λlo F2 H2 x2 k2=>?_)
 refine hh σ F2 H2 _ (hL.mono (x1.1.trans x2.1)) x2.2.1 (k2.bind.imp λhi F3 H3 x3 k3=>?_)
 have ha:=DR.un ((tyD K).mono (x2.1.trans x3.1) hv);have k3:=k3.imp λc F4 H4 x4 k4=>k4.back (x1.2.2.1.trans (x2.2.2.1.trans x3.2.2.1))
 unfold slA at k3;split at k3
 ·rename_i xs e;rw[e]at ha;obtain⟨p,us,rfl,n,r⟩:=ha.nd
  split at k3
  ·exact k3.elim
  ·rename_i hn
   exact .inr ⟨p,us,rfl,.of (x3.2.1 _ _ n),by rw[<- r.len];exact hn,λp hp=>newTp k3 x3.2.1 hp (r.cut lo hi)⟩
 ·refine .inl ?_
  unfold slD at k3;split at k3
  ·rename_i l e;rw[e]at ha;cases ha.str
   obtain⟨c,k3⟩:=k3.lim;exact⟨c,gotS k3 x3.2.1⟩
  ·rename_i e;rw[e]at ha;obtain⟨p,us,rfl,n,r⟩:=ha.nd
   exact⟨us,.of (x3.2.1 _ _ n),λp hp=>newL k3 x3.2.1 hp (r.cut lo hi)⟩
  ·rename_i e;rw[e]at ha;obtain⟨p,us,rfl,n,r⟩:=ha.nd
   exact⟨us,x3.2.1.seq n,λp hp=>newL k3 x3.2.1 hp (r.cut lo hi)⟩
  ·exact k3.elim
def mAddA (K:lK):R2:=λx y H Q=>mAdd x y H Q\/rCatT K x y H Q
theorem zof_ {X:Cx}:OpR X (nj .Add) (mAddA X.K):=λpins s σ H x y v u Q I rx ry h=>by
 rcases h with h |h
 ·exact zlN_ pins s σ H x y v u Q I rx ry h
 ·exact zos_ pins s σ H x y v u Q I rx ry h
def addA (a b:D):Mo D:=match a.un,b.un with
 |.nd .tup xs,.nd .tup ys=>if xs=[]\/ys=[]then .no else .lim (xs.length+ys.length) (.ok (.nd .tup ((xs++ys).map .vw)))
 |_,_=>addD a b
noncomputable instance (l:List D):Decidable (l=[]):=match l with |[]=>.isTrue rfl |_::_=>.isFalse λh=>by cases h
theorem zl8_:Op2D K (mAddA K) E addA:=by
 intro a b x y F H Q hs ha hb q;unfold addA at q;split at q
 ·rename_i xs ys e1 e2
  have ha:=DR.un ha;have hb:=DR.un hb;rw[e1]at ha;rw[e2]at hb;obtain⟨p,us,rfl,n,r⟩:=ha.nd;obtain⟨p2,ws,rfl,n2,r2⟩:=hb.nd;split at q
  ·exact q.elim
  ·rename_i hn
   obtain⟨c,q⟩:=q.lim;have h1:us≠[]:=λz=>hn (.inl (l9.mp (by rw[r.len,z];rfl)))
   have h2:ws≠[]:=λz=>hn (.inr (l9.mp (by rw[r2.len,z];rfl)))
   exact .inr ⟨p,p2,us,ws,rfl,rfl,.of (hs _ _ n),.of (hs _ _ n2),h1,by rw[<- r.len,<- r2.len];exact c,λz=>absurd z h2,λ_ l hl=>newTp q hs hl (r.app r2)⟩
 ·exact .inl (zpB_ a b x y F H Q hs ha hb q)
def rvD (a:D):Mo D:=match a.un with
 |.nd .lst xs=>.ok (.nd .lst (xs.reverse.map .vw))
 |_=>.no
theorem zbR_:∀(ns:List Int) {H:Hp},DRs K (ns.map D.int) (ns.map V.int) H
 |[],_=>by unfold DRs;rfl
 |n::ns,H=>by rw[kF,kF];unfold DRs;exact⟨_,_,rfl,by unfold DR;rfl,zbR_ ns⟩
def lrD (a b:D):Mo D:=(intD a).bind λi=>(intD b).bind λj=>.grd (-50000<=i/\i<=50000 /\ -50000<=j/\j<=50000) (.ok (.nd .lst (((rngI i (j-i).toNat).map D.int).map .vw)))
theorem ex_lr {gZ gY:TE}{hX hW:Mo D}(h1:EvX K gZ E env hX)(h2:EvX K gY E env hW):EvX K (tCB (mList K) (tCons (tCB mRange (tCons gZ (tCons gY tNil))) tNil)) E env (hX.bind λx=>hW.bind λy=>lrD x y):=by
 intro σ F H Q hL hs q;refine ex_v h1 σ F H _ hL hs (q.bind.imp λa F1 H1 x1 k1 v hv=>?_)
 refine ex_v h2 σ F1 H1 _ (hL.mono x1.1) x1.2.1 (k1.bind.imp λb F2 H2 x2 k2 w hw=>?_)
 have k2:=k2.imp λc F4 H4 x4 k4=>k4.back (x1.2.2.1.trans x2.2.2.1)
 unfold lrD at k2;obtain⟨i,rfl,k2⟩:=zdp_ k2 ((tyD K).mono x2.1 hv);obtain⟨j,rfl,k2⟩:=zdp_ k2 hw;obtain⟨c,k2⟩:=k2.grd;intro p hp;have x:=Ext.new (o:=.rng i j) x2.2.1 hp;have e:intsV i j=(rngI i (j-i).toNat).map V.int:=by unfold intsV rngI;simp
 refine .inr ⟨i,j,ze_,c,λl hl=>?_⟩
 rw[e];refine newL (E:=E) (ds:=(rngI i (j-i).toNat).map D.int) (F:=upd F2 p (.rng i j)) (H:=upd H2 p (.rng i j)) (λF' H' y=>OwnK.back x.2.2.1 (k2 F' H' (x.trans y))) x.2.1 hl (zbR_ _)
def intsD:List D->Option (List Int)
 |[]=>uC []
 |d::ds=>match d.un,intsD ds with |.int i,uC is=>uC (i::is)|_,_=>uD
def keysI:List Key->Option (List Int)
 |[]=>uC []
 |.inl i::ks=>(keysI ks).map (i::·)
 |_=>uD
theorem zdi_:∀{ds:List D}{us:List V}{is:List Int}{F:Hp},intsD ds=uC is->DRs K ds us F->Prs tyInt F is us
 |[],us,is,F,h,r=>by unfold DRs at r;subst r;cases h;exact .nil
 |d::ds,us,is,F,h,r=>by
  unfold DRs at r;obtain⟨v,vs,rfl,a,r⟩:=r;unfold intsD at h;split at h
  ·rename_i b j5 e1 e2
   cases h;have a:=DR.un a;rw[e1]at a;exact .cons a.int (zdi_ e2 r)
  ·cases h
def srtI (is:List Int):Mo D:=.grd (is.length<64) (.ok (.nd .lst ((srtL ltI is).map .int)))
def mListA (K:lK):List V->Hp->VK->Prop:=λxs H Q=>mList K xs H Q\/match xs with
 |[.ref p]=>∃kvs,H p=uC (.dK kvs)/\kvs.length<=kR/\∀l,H l=uD->Q (.ref l) (upd H l (.lst (kvs.map λq=>kV q.1)))
 |_=>False
theorem zmt_:∀(a:List (Key×V)) (b:List (Key×aU)) (i:Nat) q k' x,KV a b->a[i]?=uC q->b[i]?=uC (k',x)->q.1=k':=by
 intro a b i q k' x fI;unfold KV at fI;induction fI generalizing i with
 |nil=>intro e;simp at e
 |cons r t ih=>
  intro e1 e2;cases i with
  |zero=>simp at e1 e2;subst e1;have:=r.1;rw[e2]at this;exact this
  |succ i=>exact ih i (by simpa using e1) (by simpa using e2)
theorem zc3_:∀(ks:List (Key×V)) (us:List aU),ks.length=us.length->(∀(i:Nat) (q:Key×V) (u:aU),ks[i]?=uC q->us[i]?=uC u->RelV (kV q.1) u)->Vals (ks.map λq=>kV q.1) us
 |[],us,hl,_=>by cases us with |nil=>exact .nil |cons _ _=>simp at hl
 |q::ks,us,hl,hh=>by
  cases us with
  |nil=>simp at hl
  |cons u us=>exact .cons (hh 0 q u rfl rfl) (zc3_ ks us (by simpa using hl) λi q' u' e1 e2=>hh (i+1) q' u' (by simpa using e1) (by simpa using e2))
theorem zgU_ {X:Cx}(hc:X.calm=uE):CallR X (.type "list") (mListA X.K):=by
 intro pins s σ H xs us Q I r h;rcases h with h |h
 ·exact zdr_ hc pins s σ H xs us Q I r h
 ·split at h
  ·rename_i p
   obtain⟨kvs,hp,hl,q⟩:=h;obtain⟨u,rfl,rx⟩:=vals1 r;cases rx;obtain⟨z,hd,vs,rel,dd⟩:=zhM_ I.hok (.inl hp);obtain⟨ep,hat⟩:=dd.dictAt;have cA:kvs.length=vs.length:=rel.length;refine W.kdl_call (W.kdl_dict (knd:=mixKind X.prog X.w) (kvs:=vs) (ep:=ep) hd) (I.ok.hd hc) hat (by rw[<- cA];exact hl) λh' tk acc c kp ho aD=>?_
   refine⟨.ref s.heap.objs.size,_,I.laid (o:=.lst (kvs.map λq=>kV q.1)) (t':=tk) kp (kx _) ⟨by rw[ko];exact hl,acc.toList,c,?_,by simpa using ho⟩,rfl,q _ (I.hok.fresh (kx _))⟩
   have cB:acc.toList.length=kvs.length:=by rw[mm,cA];exact aD.1
   refine zc3_ kvs acc.toList cB.symm λi q u e1 e2=>?_
   obtain⟨k',x,ek,bq⟩:=aD.2 i u (by rw[<- ml];exact e2)
   rw[zmt_ kvs vs i q k' x rel e1 ek];exact is_kV bq
  ·exact h.elim
def kD:Key->D
 |.inl i=>.int i
 |.inr s=>.str s.cps.toList
theorem zhp_:∀(ks:List Key) (us:List V) {H:Hp},ks.length=us.length->DRs K (ks.map kD) ((ks.zip us).map λq=>kV q.1) H
 |[],us,_,_=>by unfold DRs;rfl
 |k::ks,[],_,hl=>by cases hl
 |k::ks,u::us,H,hl=>by
  rw[lM,kF,kF];unfold DRs;refine⟨_,_,rfl,?_,zhp_ ks us (by simpa using hl)⟩
  cases k with
  |inl i=>unfold kD DR;rfl
  |inr s=>unfold kD DR;rfl
def listA:List D->Mo D:=on1 λd=>match d with
 |.nd .lst xs=>.ok (.nd .lst (xs.map .vw))
 |.nd .tup xs=>.ok (.nd .lst (xs.map .vw))
 |.nd .scr xs=>.ok (.nd .lst (xs.map .vw))
 |.nd (.dct ks) _=>.lim ks.length (.ok (.nd .lst ((ks.map kD).map .vw)))
 |_=>.no
theorem zjM_:BlD K (mListA K) E listA:=zfy_ λd v F H Q hs hd q=>by
 split at q
 ·obtain⟨p,us,rfl,n,r⟩:=hd.nd;exact .inl (.inl ⟨us,.inl (.of (hs _ _ n)),λl hl=>newL q hs hl r⟩)
 ·obtain⟨p,us,rfl,n,r⟩:=hd.nd;exact .inl (.inl ⟨us,.inr (.of (hs _ _ n)),λl hl=>newL q hs hl r⟩)
 ·obtain⟨p,us,rfl,n,r⟩:=hd.nd;exact .inl (.inl ⟨us,.inl (hs.seq n),λl hl=>newL q hs hl r⟩)
 ·obtain⟨p,us,rfl,n,r⟩:=hd.nd
  obtain⟨c,q⟩:=q.lim;refine .inr ⟨_,hs _ _ n.1,by rw[mn,n.2.1,nU,<- n.2.1];exact c,λl hl=>newL q hs hl (zhp_ _ _ n.2.1)⟩
 ·exact q.elim
def mSortI (K:lK):List V->Hp->VK->Prop:=λxs H Q=>match xs with
 |[.ref p]=>∃ns:List Int,(SqL K H p (ns.map .int)\/∃kvs,H p=uC (.dK kvs)/\(kvs.map λq=>kV q.1)=ns.map .int)/\ns.length<64/\∀aX:List Int,aX.Perm ns->aX.Pairwise (·<=·)->∀l,H l=uD->Q (.ref l) (upd H l (.lst (aX.map .int)))
 |_=>False
theorem zcZ_:∀{vs:List aU}{ns:List Int},IntsAre vs ns->Vals (ns.map .int) vs
 |_,_,.nil=>.nil
 |_,_,.cons _ _ h=>.cons ⟨_,rfl⟩ (zcZ_ h)
theorem zaL_:∀{ns:List Int}{vs:List aU},Vals (ns.map .int) vs->IntsAre vs ns
 |[],_,r=>by cases r;exact .nil
 |n::ns,_,r=>by cases r with |cons a r=>obtain⟨t,rfl⟩:=a;exact .cons n t (zaL_ r)
theorem zgM_ {X:Cx}(hc:X.calm=uE):CallR X (.builtin "sorted") (mSortI X.K):=by
 intro pins s σ H xs us Q I r h;unfold mSortI at h;split at h
 rotate_left
 ·exact h.elim
 rename_i p
 obtain⟨ns,hp,de,q⟩:=h;obtain⟨u,rfl,rx⟩:=vals1 r;cases rx;rcases hp with hp |⟨kvs,hp,hk⟩
 ·obtain⟨aa,rv,pl,hz⟩:=I.list hp
  have hn:=rv.length;rw[ko]at hn;refine sorted_ints pl.isList (zaL_ rv) (by lia) λout aX a1 a2 a3=>?_
  obtain⟨e,he⟩:=sortedAll_at s.heap aa out;exact⟨.ref (s.heap.objs.size+1),_,I.laid (o:=.lst (aX.map .int)) (t':=s.toks) (λ_ _=>sortedAll_old) (nR _) ⟨by rw[ko,a2.length_eq];exact zbi_ (by lia),out.toList,e,zcZ_ a1,by simpa using he⟩,rfl,q aX a2 a3 _ (I.hok.fresh (nR _))⟩
 ·obtain⟨z,hd,vs,rel,dd⟩:=zhM_ I.hok (.inl hp)
  obtain⟨ep,hat⟩:=dd.dictAt;have cA:kvs.length=vs.length:=rel.length;have fF:kvs.length=ns.length:=by have:=congrArg qx hk;simpa using this
  refine Calls.call_function_entry kind_sorted plain_sorted entry_sorted (args_sorted1 _) ?_;unfold rm.«sorted»;refine kr (m:=checkCount "sorted" 1 1 _) (lj ?_);refine kr (zle_ (W.kdl_dict (knd:=mixKind X.prog X.w) (kvs:=vs) (ep:=ep) hd) (I.ok.hd hc) hat (by rw[<- cA,sizeLine_eq];lia) λh1 tk acc hsz k1 aD=>?_)
  have cB:acc.toList.length=kvs.length:=by rw[mm,cA];exact aD.1
  have rv:Vals (ns.map .int) acc.toList:=by
   rw[<- hk];refine zc3_ kvs acc.toList cB.symm λi q u e1 e2=>?_
   obtain⟨k',x,ek,bq⟩:=aD.2 i u (by rw[<- ml];exact e2)
   rw[zmt_ kvs vs i q k' x rel e1 ek];exact is_kV bq
  refine kr (wpAny_newList ?_ (by rw[sizeLine_eq];lia))
  have cH:(h1.push (seqObj "list" acc.toList.toArray 0)).get? h1.objs.size=uC (seqObj "list" acc.toList.toArray 0):=ll _ rfl;show lC _ _ _ _ _ {s with heap:=h1.push (seqObj "list" acc.toList.toArray 0),toks:=tk}
  refine kr (wpAny_holding (wpAny_call_entry slot_list_sort ⟨_,cH,rfl⟩ entry_list_sort (list_sort_tree cH (zaL_ rv) (by lia) λout aX a1 a2 a3=>⟨_,rfl,?_⟩) (args_list_sort _)))
  obtain⟨e,he⟩:=sortedHeap_at (out:=out) cH;have kp:∀b o,s.heap.get? b=uC o->(sortedHeap (h1.push (seqObj "list" acc.toList.toArray 0)) h1.objs.size acc.toList out).get? b=uC o:=λb o z=>by
   have hb:=kJ (k1 b o z);rw[sortedHeap_old (lB hb) (by rw[size_push'];exact oy hb)]
   exact kq _ (k1 b o z)
  exact lj ⟨_,rfl,.ref h1.objs.size,_,I.laid (o:=.lst (aX.map .int)) (t':=tk) kp (nQ hsz) ⟨by rw[ko,a2.length_eq];exact zbi_ (by lia),out.toList,e,zcZ_ a1,by simpa using he⟩,rfl,q aX a2 a3 _ (I.hok.fresh (nQ hsz))⟩
def sortI:List D->Mo D:=on1 λd=>match d with
 |.nd .lst ds=>(match intsD ds with |some is=>srtI is |none=>.no)
 |.nd (.dct ks) _=>(match keysI ks with |some is=>srtI is |none=>.no)
 |_=>.no
end
section
variable {K:l8}{E:XK}{F H:Hp}{env:Env}
def intLs:List D->Option (List (List Int))
 |[]=>uC []
 |d::ds=>(match d with |.nd .lst es=>intsD es |_=>uD).bind λis=>(intLs ds).map λr=>is::r
def ltQ (ak:List (List Int))(i j:Nat):Bool:=ltKs ak i j ||(!ltKs ak j i && decide (i<j))
def srtQ (ak:List (List Int))(n:Nat):List Nat:=srtL (ltQ ak) (lG n)
theorem zfm_ {ak:List (List Int)}{i j:Nat}:ltQ ak i j=uF↔ltKs ak i j=uF/\(ltKs ak j i=uE\/j<=i):=by
 unfold ltQ;cases ltKs ak i j<;>cases ltKs ak j i<;>simp
theorem lo_q (ak:List (List Int)):LOr (ltQ ak):=by
 have w:=zgf_ ak;refine⟨λ{a b} h=>?_,λ{a b c} h g=>?_,λ{a b} h g=>?_⟩
 ·rw[zfm_]
  unfold ltQ at h;cases e:ltKs ak a b with
  |true=>exact⟨w.asym e,.inl rfl⟩
  |false=>
   rw[e]at h;cases e2:ltKs ak b a with
   |true=>rw[e2]at h;simp at h
   |false=>rw[e2]at h;simp at h;exact⟨rfl,.inr (by lia)⟩
 ·rw[zfm_]at h g ⊢
  refine⟨w.tr h.1 g.1,?_⟩;rcases h.2 with h2 |h2
  ·exact .inl (w.st h2 g.1)
  ·rcases g.2 with g2 |g2
   ·exact .inl (w.st' g2 h.1)
   ·exact .inr (by lia)
 ·rw[zfm_]at h g
  rcases h.2 with h2 |h2
  ·rw[g.1]at h2;cases h2
  ·rcases g.2 with g2 |g2
   ·rw[h.1]at g2;cases g2
   ·lia
theorem zmh_ {ak:List (List Int)}{n:Nat}{idx:List Nat}(h:SrtS (ltKs ak) n idx):idx=srtQ ak n:=
 zbP_ (lo_q ak) h.1 (h.2.imp λ{a b} z=>zfm_.mpr ⟨z.1,z.2.imp id nQ⟩)
def strL (d:D):Mo (List (List Nat)):=match d.un with |.nd .lst ds=>.opt (strsD ds)|_=>.no
def srtK (ls:List (List Nat))(ks:List D):Mo D:=match intLs ks with |some ak=>.grd (ks.length=ls.length) (.ok (.nd .lst ((srtQ ak ls.length).map λi=>.str (ls.getD i []))))|none=>.no
theorem zc6_:∀{is:List Int}{us:List V},Prs tyInt F is us->us=is.map .int
 |_,_,.nil=>rfl
 |_,_,.cons a r=>by cases a;rw[kF,<- zc6_ r]
theorem zhC_:∀{ks:List D}{us:List V}{ak:List (List Int)}{h:Hp},intLs ks=uC ak->Same h H->Same F H->ODs K ks us F h->KeysAt K H us ak
 |[],us,ak,h,e,s,s',q=>by unfold ODs at q;cases e;rw[q.1];exact .nil
 |d::ks,us,ak,h,e,s,s',q=>by
  unfold intLs at e;obtain⟨is,e1,e2⟩:=kP.mp e;obtain⟨r,e3,rfl⟩:=kQ.mp e2;unfold ODs at q;obtain⟨v,vs,h1,h2,rfl,j,o,q⟩:=q;refine .cons ?_ (zhC_ e3 (j.r.trans s) s' q);cases d with
  |nd k es=>
   cases k with
   |lst=>
    obtain⟨p,us,rfl,n,r⟩:=(o.view s' (j.l.trans s)).nd;refine⟨p,rfl,.inl (.inl ?_)⟩;rw[<- zc6_ (zdi_ e1 r)];exact n
   |_=>cases e1
  |_=>cases e1
theorem zjA_:∀(ls:List (List Nat)) {h:Hp},(∀p,h p=uD)->ODs K (ls.map .str) (ls.map tx) F h
 |[],h,n=>by unfold ODs;exact⟨rfl,n⟩
 |l::ls,h,n=>by
  rw[kF,kF];unfold ODs;refine⟨_,_,h,λ_=>uD,rfl,no_r _ λ_=>rfl,?_,zjA_ ls λ_=>rfl⟩
  unfold OD DR;exact⟨n,rfl⟩
theorem zpC_ (ls:List (List Nat)):Yl K (Itp ls.length λj=>(ls.map tx).getD j .non) (ls.map .str) (tyD K) F:=by
 refine⟨λi H x _ e=>?_,λH _=>by show ls.length<=_;rw[ko];exact kx _⟩
 rw[kH]at e;obtain⟨l,e',rfl⟩:=kQ.mp e;refine⟨(lg.mp e').1,?_⟩;rintro v H' ⟨rfl,rfl⟩ F' _ s;refine⟨F',Ext.refl s,?_⟩;show DR K (D.str l) ((ls.map tx).getD i .non) F'
 rw[kE,kH,e'];unfold DR;rfl
theorem zi5_:∀(ls:List (List Nat)),tgsD ⟨uF,[0]⟩ (ls.map D.str)=uC (ls.map λl=>[D.str l])
 |[]=>rfl
 |l::ls=>by rw[kF];unfold tgsD;rw[zi5_ ls];rfl
theorem zo9_ {p:Str}{fr:List (Str×Nat)}{i:Nat}{te:TE}{f:List D->Mo D}(he:∀a,EvX K te E0 (setE (cE [p] fr env) [0] a) (f a)):
  EvX K (tSrt K fr i te) E env ((getE env i).bind λd=>(strL d).bind λls=>.grd (ls.length<64) ((compM (λx=>cond1 (.ok uE) (f x)) (ls.map λl=>[D.str l]) []).bind λks=>srtK ls ks)):=by
 intro σ F H Q hL hs q;have key:mVar i σ H λv H1=>∃a xs,v=.ref a/\SqL K H1 a xs/\xs.length<64/\∀H2,LamUp H1 H2->tCompR (Itp xs.length λj=>xs.getD j .non) (gName 0) tTrue te (uD::lS fr σ) H2 λb H3=>mSrt K xs b H3 Q:=by
  refine ex_v (zm0_ i) σ F H _ hL hs (q.bind.imp λd F1 H1 x1 k1 v hv=>?_)
  have hd:=DR.un hv;unfold strL at k1;split at k1
  rotate_left
  ·exact k1.elim
  rename_i ds e
  rw[e]at hd;obtain⟨a,us,rfl,n,r⟩:=hd.nd;cases e2:strsD ds with
  |none=>rw[e2]at k1;exact k1.elim
  |some ls=>
   rw[e2]at k1;obtain⟨de,k1⟩:=After.grd (show After K (.grd (ls.length<64) ((compM (λx=>cond1 (.ok uE) (f x)) (ls.map λl=>[D.str l]) []).bind λks=>srtK ls ks)) E F1 H1 _ from k1)
   rw[zhY_ e2 r]at n;refine⟨a,ls.map tx,rfl,.inl (.inl (x1.2.1 _ _ n)),by rw[ko];exact de,λH2 up=>?_⟩
   have cD:Same H1 H2:=up.same
   have c:=zjq_ (K:=K) (E:=E) (env:=env) (lv:=[p]) (fr:=fr) (wi:=λ_ H R=>R (Itp ls.length λj=>(ls.map tx).getD j .non) H) (g:=⟨uF,[0]⟩) (tt:=tTrue) (te:=te) (rs:=.ok (ls.map .str)) (c:=λ_=>.ok uE) (f:=f)
    (λσ F H R _ s q=>q F H (Ext.refl s) _ (zpC_ ls)) (by intro i hi;simp at hi;subst hi;exact Nat.zero_lt_one) (λa σ F H Q _ s q=>q F H (Ext.refl s)) he
   rw[ko];refine(show tComp [p] fr (λ_ H R=>R (Itp ls.length λj=>(ls.map tx).getD j .non) H) (tgT K ⟨uF,[0]⟩) tTrue te σ H2 (λb H3=>mSrt K (ls.map tx) b H3 Q)from c σ F1 H2 _ (hL.mono x1.1) (x1.2.1.trans cD) ?_)
   show After K ((Mo.opt (tgsD ⟨uF,[0]⟩ (ls.map D.str))).bind _) E F1 H2 _
   rw[zi5_];show After K ((compM (λx=>cond1 (.ok uE) (f x)) (ls.map λl=>[D.str l]) []).bind λys=>.ok (D.nd .lst ys)) E F1 H2 _
   cases e3:compM (λx=>cond1 (.ok uE) (f x)) (ls.map λl=>[D.str l]) []with
   |no=>rw[e3]at k1;exact k1
   |ex c=>rw[e3]at k1;exact λF' H' x=>(k1 F' H' ⟨x.1,x.2.1,cD.trans x.2.2.1,λp a b=>cD.free (x.2.2.2 p a b)⟩).up cD
   |ok ks=>
    rw[e3]at k1;have k1:After K (srtK ls ks) E F1 H1 (OwnK (owD K) H Q):=k1;unfold srtK at k1;split at k1
    rotate_left
    ·exact k1.elim
    rename_i ak e4
    obtain⟨iz,k1⟩:=After.grd k1;intro F' H' x v h jR dj sh o;have o:OD K (.nd .lst ks) v F' h:=o;unfold OD at o;obtain⟨kS,bF,h0,h2,rfl,cl,j,os⟩:=o;have dC:h kS=uC (.lst bF):=j.l _ _ (by rw[show h0=_ from cl];exact zq_)
    have n2:H2 kS=uD:=jR _ (by rw[dC];exact sN _)
    have nF:F' kS=uD:=by
     rcases dj kS with z |z
     ·exact z
     ·rw[dC]at z;cases z
    refine⟨kS,bF,ak,rfl,sh _ _ dC,by rw[ko,<- os.len];exact iz,zhC_ e4 (j.r.trans sh) x.2.1 os,λidx bA l hl=>?_⟩
    rw[ko]at bA;rw[zmh_ bA];have nl:l≠kS:=λz=>by rw[z,sh _ _ dC]at hl;cases hl
    have s1:∀{G:Hp},Same G H'->G kS=uD->Same G (upd (upd H' kS (.lst [])) l (.lst ((srtQ ak ls.length).map λi=>(ls.map tx).getD i .non))):=λ{G} g gn b o e=>by
     have hb:b≠kS:=zd_ e gn;have jI:b≠l:=λz=>by have:=g _ _ e;rw[z,hl]at this;cases this
     rw[zc_ jI,zc_ hb];exact g _ _ e
    have e5:((srtQ ak ls.length).map λi=>(ls.map tx).getD i .non)=((srtQ ak ls.length).map λi=>ls.getD i []).map tx:=by
     rw[lX];refine nq λi hi=>?_
     have eD:i<ls.length:=lO.mp ((zbN_ _ _).mem_iff.mp hi);simp[kE,eD]
    refine k1 F' _ ⟨x.1,s1 x.2.1 nF,s1 (cD.trans x.2.2.1) (cD.free n2),λp a b=>cD.free (x.2.2.2 p a b)⟩ (.ref l) (one l (.lst ((srtQ ak ls.length).map λi=>(ls.map tx).getD i .non))) (λp hp=>?_) (λp=>?_) (λp o e=>?_) ?_
    ·by_cases z:p=l
     ·rw[z];exact(x1.2.2.1.trans (cD.trans x.2.2.1)).free hl
     ·exact absurd (by rw[zb_,if_neg z]) hp
    ·by_cases z:p=l
     ·rw[z];exact .inl (x.2.1.free hl)
     ·exact .inr (by rw[zb_,if_neg z])
    ·rw[zb_]at e
     split at e
     ·rename_i z;rw[z,ze_];exact e
     ·cases e
    ·show OD K _ _ _ _
     unfold OD;refine⟨l,_,_,λ_=>uD,rfl,rfl,no_r _ (λ_=>rfl),?_⟩
     rw[e5];have:=zjA_ (K:=K) (F:=F') ((srtQ ak ls.length).map λi=>ls.getD i []) (h:=λ_=>uD) (λ_=>rfl)
     rw[lX]at this;exact this
 unfold mVar at key;split at key
 ·rename_i v hv
  obtain⟨a,xs,rfl,h1,h2,h3⟩:=key;exact⟨a,xs,hv,h1,h2,h3⟩
 ·exact key.elim
def taP:List (TE×TE)->TA
 |[]=>tNil
 |(k,v)::r=>tCons k (tCons v (taP r))
def prU:List V->List (V×V)
 |k::v::r=>(k,v)::prU r
 |_=>[]
theorem tp_eq:∀(trs:List (TE×TE)) (σ:L2.St) (H:Hp) (Q:List (V×V)->Hp->Prop),taP trs σ H (λvs H'=>Q (prU vs) H')=tPairs trs σ H Q
 |[],_,_,_=>rfl
 |(k,v)::r,σ,H,Q=>congrArg (k σ H) (funext λx=>funext λH1=>congrArg (v σ H1) (funext λy=>funext λH2=>tp_eq r σ H2 λps H3=>Q ((x,y)::ps) H3))
def prD:List D->Option (List Key×List D)
 |[]=>uC ([],[])
 |[_]=>uD
 |k::d::r=>(keyD k).bind λk=>(prD r).map λq=>(k::q.1,d::q.2)
def dspD (ds:List D):Mo D:=(Mo.opt (prD ds)).bind λq=>.grd (q.1.Nodup/\q.1.length<=15) (.ok (.nd (.dct q.1) q.2))
theorem zpL_ {d:D}{v:V}{h:Hp}{k:Key}(e:keyD d=uC k)(o:OD K d v F h):(∀p,h p=uD)/\v=kV k:=by
 cases d with
 |nd=>cases e
 |_=>unfold OD at o;exact⟨o.1,(zlo_ e o.2).2⟩
theorem zmO_:∀{ds:List D}{vs:List V}{h:Hp}{ks:List Key}{es:List D},prD ds=uC (ks,es)->ODs K ds vs F h->∃us,prU vs=(ks.zip us).map (λkv=>(kV kv.1,kv.2))/\ks.length=us.length/\ODs K es us F h
 |[],vs,h,ks,es,e,o=>by
  cases e;have o':=o;unfold ODs at o';rw[o'.1]at o ⊢;exact⟨[],rfl,rfl,o⟩
 |[_],_,_,_,_,e,_=>by cases e
 |k::d::r,vs,h,ks,es,e,o=>by
  unfold prD at e;obtain⟨k',e1,e⟩:=kP.mp e;obtain⟨q,e2,e3⟩:=kQ.mp e;cases e3;unfold ODs at o;obtain⟨v,vs,h1,h2,rfl,j,ok,o⟩:=o;obtain⟨n1,rfl⟩:=zpL_ e1 ok;cases jn_no (zac_ j) n1;unfold ODs at o;obtain⟨v,vs,m1,m2,rfl,jm,od,o⟩:=o;obtain⟨us,p1,p2,p3⟩:=zmO_ (ks:=q.1) (es:=q.2) e2 o;refine⟨v::us,?_,by simpa using p2,?_⟩
  ·show(_,_)::prU vs=_
   rw[p1];rfl
  ·unfold ODs;exact⟨v,us,m1,m2,rfl,jm,od,p3⟩
theorem zf6_:∀(kvs acc:List (Key×V)),((acc++kvs).map (·.1)).Nodup->mergeK acc kvs=acc++kvs
 |[],acc,_=>by rw[nL];rfl
 |(k,v)::r,acc,h=>by
  show mergeK (putK acc k v) r=_
  have hk:(acc.any λkv=>decide (kv.1=k))=uF:=by
   rw[rf];intro x hx z;rw[mV,pT]at h;exact h.2.2 _ (List.mem_map_of_mem hx) k (by simp) (of_decide_eq_true z)
  have e:putK acc k v=acc++[(k,v)]:=by unfold putK;rw[hk];rfl
  rw[e,zf6_ r (acc++[(k,v)]) (by rw[m9];exact h),m9];rfl
theorem zjn_ {trs:List (TE×TE)}{ra:Mo (List D)}(h:EvAs K (taP trs) E env ra):EvX K (tDisp trs) E env (ra.bind dspD):=by
 intro σ F H Q hL hs q p hp;have sn:=zV_ (H:=H) hp (.dK []);have x0:Ext F H F (upd H p (.dK [])):=.heap hs sn;rw[<- tp_eq];refine h σ F (upd H p (.dK [])) _ hL x0.2.1 ?_;cases e:ra with
 |no=>rw[e]at q;exact q
 |ex c=>rw[e]at q;exact λF' H' x=>(q F' H' (x0.trans x)).up x0.2.2.1
 |ok ds=>
  rw[e]at q;have q:After K (dspD ds) E F H (OwnK (owD K) H Q):=q;unfold dspD at q;cases e2:prD ds with
  |none=>rw[e2]at q;exact q.elim
  |some r=>
   obtain⟨ks,es⟩:=r;rw[e2]at q;obtain⟨⟨nd,gQ⟩,q⟩:=After.grd (show After K (.grd (ks.Nodup/\ks.length<=15) (.ok (D.nd (.dct ks) es))) E F H (OwnK (owD K) H Q)from q)
   intro F2 H2 x2 vs k b_ dq s1 o1;obtain⟨us,p1,p2,o2⟩:=zmO_ e2 o1;have bo:H2 p=uC (.dK []):=x2.2.2.1 _ _ ze_;have hF:F p=uD:=hs.free hp;have iF:F2 p=uD:=by
    cases y:F2 p with
    |none=>rfl
    |some o'=>
     have:=x2.2.2.2 p hF (by rw[y];exact sN _)
     rw[ze_]at this;cases this
   have nk:k p=uD:=by
    cases z:k p with
    |none=>rfl
    |some o=>have:=b_ p (by rw[z];exact sN _);rw[ze_]at this;cases this
   refine⟨bo,ks.zip us,p1,by rw[mn,<- p2,nU];exact gQ,?_⟩
   have em:((ks.zip us).map (·.1))=ks:=List.map_fst_zip (by lia)
   rw[zf6_ _ [] (by rw[mB,em];exact nd),mB]
   have ne:∀{G:Hp}{b:kz}{o:HO},G p=uD->G b=uC o->b≠p:=λg z e=>by rw[e,g]at z;cases z
   have xx:Ext F H F2 (upd H2 p (.dK (ks.zip us))):=⟨x2.1,λb o z=>by rw[zc_ (ne iF z)];exact x2.2.1 _ _ z,λb o z=>by rw[zc_ (ne hp z)];exact x2.2.2.1 _ _ (sn _ _ z),λb a1 a2=>sn.free (x2.2.2.2 b a1 a2)⟩
   have d1:Dj (one p (.dK (ks.zip us))) k:=λq=>by
    rw[zb_];split
    ·rename_i e;rw[e];exact .inr nk
    ·exact .inl rfl
   refine q F2 _ xx (.ref p) (un (one p (.dK (ks.zip us))) k) (λq z=>?_) (λq=>?_) (λq o z=>?_) ?_
   ·unfold un at z;rw[zb_]at z
    by_cases e:q=p
    ·subst e;exact hp
    ·rw[if_neg e]at z;exact sn.free (b_ q z)
   ·unfold un;rw[zb_]
    by_cases e:q=p
    ·subst e;exact .inl iF
    ·rw[if_neg e];exact dq q
   ·unfold un at z;rw[zb_]at z
    by_cases e:q=p
    ·subst e;rw[if_pos rfl]at z;cases z;exact ze_
    ·rw[if_neg e]at z;rw[zc_ e];exact s1 _ _ z
   ·show OD K _ _ _ _
    unfold OD;exact⟨p,us,_,k,rfl,⟨rfl,p2,nd⟩,zao_ d1,o2⟩
def eqsD:List D->List D->Option (List Bool)
 |[],[]=>uC []
 |d::ds,e::es=>(eqT 12 d e).bind λc=>(eqsD ds es).map λr=>c::r
 |_,_=>uD
def nedD (a b:D):Mo D:=match a.un,b.un with
 |.nd (.dct ks) ds,.nd (.dct ie) es=>.grd (ks=ie) ((Mo.opt (eqsD ds es)).bind λbs=>.ok (.bl (!(bs.all id))))
 |_,_=>.no
theorem eqs_L:∀{ds es:List D}{us ws:List V}{bs:List Bool},eqsD ds es=uC bs->DRs K ds us H->DRs K es ws H->EqL K H 12 us ws bs
 |[],[],us,ws,bs,e,h,g=>by unfold DRs at h g;subst h g;cases e;exact mJ
 |[],_::_,_,_,_,e,_,_=>by cases e
 |_::_,[],_,_,_,e,_,_=>by cases e
 |d::ds,e::es,us,ws,bs,h,g,g'=>by
  unfold eqsD at h;obtain⟨c,e1,h⟩:=kP.mp h;obtain⟨r,e2,rfl⟩:=kQ.mp h;unfold DRs at g g';obtain⟨v,vs,rfl,a,q⟩:=g;obtain⟨v',ba,rfl,a',q'⟩:=g';exact⟨zoO_ e1 a a',eqs_L e2 q q'⟩
theorem zpV_:Op2D K (mNeDL K) E nedD:=by
 intro a b x y F H Q hs h1 h2 k;have d1:=DR.un (K:=K) h1;have d2:=DR.un (K:=K) h2;unfold nedD at k;split at k
 ·rename_i ks ds ie es e1 e2
  rw[e1]at d1;rw[e2]at d2;obtain⟨eq,k'⟩:=After.grd k;subst eq;obtain⟨p,us,rfl,n,r⟩:=d1.nd;obtain⟨p',bF,rfl,n',r'⟩:=d2.nd;obtain⟨bs,e3,k''⟩:=After.opt k'.bind;refine⟨ks,us,bF,bs,hs _ _ n.1,hs _ _ n'.1,n.2.2,n.2.1,n'.2.1,eqs_L e3 (r.mono hs) (r'.mono hs),?_⟩;have k3:After K (.ok (D.bl (!(bs.all id)))) E F H (OwnK (owD K) H Q):=k'' F H (Ext.refl hs);exact k3 F H (Ext.refl hs) _ (λ_=>uD) (λp z=>absurd rfl z) (λp=>.inr rfl) (λp o z=>by cases z) (by show OD K _ _ _ _;unfold OD DR;exact⟨λ_=>rfl,rfl⟩)
 ·exact k.elim
theorem zjD_ {x:V}:∀{d:D},d.un.flat?=uC x->DR K d x F
 |.fz d,e=>by unfold DR;exact zjD_ (d:=d) e
 |.non,e=>by cases e;unfold DR;rfl
 |.bl _,e=>by cases e;unfold DR;rfl
 |.int _,e=>by cases e;unfold DR;rfl
 |.str _,e=>by cases e;unfold DR;rfl
 |.nd _ _,e=>by cases e
 |.pin _,e=>by cases e
 |.gone,e=>by cases e
theorem zgw_:∀{dv:List D}{au:List V},flats dv=uC au->DRs K dv au F
 |[],_,e=>by cases e;unfold DRs;rfl
 |d::dv,_,e=>by
  unfold flats at e;obtain⟨x,e1,e⟩:=kP.mp e;obtain⟨xs,e2,rfl⟩:=kQ.mp e;unfold DRs;exact⟨x,xs,rfl,zjD_ e1,zgw_ e2⟩
theorem ex_no {t:TE}:EvX K t E env .no:=λ_ _ _ _ _ _ q=>q.elim
end
section
variable {X:Cx}
def mTxt (f:List Nat->List Nat->Bool):R2:=λx y H Q=>∃i j,x=.str i/\y=.str j/\Q (.bl (f i.cps.toList j.cps.toList)) H
theorem zpI_:OpR X (lp .Gt) (mTxt λi j=>decide (j<i)):=by
 intro pins s σ H x y v u Q I rx ry h;obtain⟨i,j,rfl,rfl,q⟩:=h;obtain⟨t,rfl⟩:=rx;obtain⟨t',rfl⟩:=ry;exact P.gt_str (zfB_ I q rfl)
def mLI (K:lK):V->List V->Hp->VK->Prop:=λx xs H Q=>∃(p:kz) (ls:List (List Nat)) (z:List Nat),x=.ref p/\xs=[tx z]/\SqL K H p (ls.map tx)/\z∈ls/\Q (.int (ls.idxOf z:Nat)) H
theorem zeZ_:∀{ls:List (List Nat)}{us:List aU},Vals (ls.map tx) us->StrsAre us (ls.map λl=>⟨l.toArray⟩)
 |[],_,.nil=>.nil
 |l::ls,_,.cons r h=>by obtain⟨t,rfl⟩:=r;exact .cons _ t (zeZ_ h)
theorem zew_ (k:List Nat):∀{ls:List (List Nat)}{us:List aU},Vals (ls.map tx) us->∀j (h:j<us.length) (h':j<ls.length),isStrOf ⟨k.toArray⟩ us[j]=(ls[j] == k)
 |l::ls,_,.cons r h,0,_,_=>by
  obtain⟨t,rfl⟩:=r;show((⟨l.toArray⟩:Str) == ⟨k.toArray⟩)=(l == k)
  rw[ni,beq_iff_eq,beq_iff_eq];exact⟨λz=>by injection z with z;exact congrArg pH z,λz=>by rw[z]⟩
 |l::ls,_,.cons r h,j+1,a,b=>zew_ k h j (ql a) (ql b)
theorem mt_li:MtR X "list.index" (mLI X.K):=by
 intro pins s σ H x xs v us Q I rx rv h;obtain⟨p,ls,z,rfl,rfl,hl,hz,q⟩:=h;cases rx;obtain⟨u,rfl,ru⟩:=rv.one;obtain⟨t,rfl⟩:=ru;obtain⟨aa,r,⟨⟨cls,dd,data,sl⟩,n,e,e1,e2,e3⟩,hn⟩:=I.list hl;simp only at e1 e2 e3;subst e1 e2 e3;have hlen:ls.length=aa.length:=by rw[<- r.length,ko]
 have hj:ls.idxOf z<ls.length:=m6.mpr hz;rw[ko,sizeLine_eq]at hn
 refine call_meets p9 ⟨_,e,rfl⟩ PySem.F.entry_list_index (PySem.F.args_list_index_2 _ _)
  (SeqAt.list_indexAt p aa.toArray n _ _ (.str ⟨z.toArray⟩ t) (isStrOf ⟨z.toArray⟩) (ls.idxOf z) (by simpa using hlen ▸ hj) (by lia) ?_ ?_) ⟨e,λy hy=>(eq_isStrOf _ t (zeZ_ r) y (by simpa using hy)).at _ _,⟨.int _,H,I.tok _,⟨_,rfl⟩,q⟩⟩
 ·show isStrOf _ aa[ls.idxOf z]=uE
  rw[zew_ z r _ (by lia) hj]
  simpa using nE hj
 ·intro j jy aA
  show isStrOf _ aa[j]=uF
  rw[zew_ z r j (by simpa using jy) (by lia)]
  exact List.not_of_lt_findIdx (p:=(· == z)) aA
variable {K:l8}{E:XK}{F H:Hp}{d:D}{Q:VK}{env:Env}{t1 t2:TE}{r1 r2:Mo D}
def txtD (f:List Nat->List Nat->Bool)(a b:D):Mo D:=(strOf a).bind λi=>(strOf b).bind λj=>.ok (.bl (f i j))
theorem zjJ_ {l:List Nat}{v:V}(e:strOf d=.ok l)(h:DR K d v F):v=tx l:=by
 have h:=DR.un h;unfold strOf at e;split at e
 ·rename_i l' e';cases e;rw[e']at h;exact h.str
 ·cases e
theorem zbA_ (d:D):strOf d=.no\/∃l,strOf d=.ok l:=by unfold strOf;split<;>simp
theorem zqa_ {f:List Nat->List Nat->Bool}:Op2D K (mTxt f) E (txtD f):=by
 intro a b x y F H Q hs ha hb q;unfold txtD at q;rcases zbA_ a with e |⟨l,e⟩
 ·rw[e]at q;exact q.elim
 rcases zbA_ b with e' |⟨l',e'⟩
 ·rw[e,e']at q;exact q.elim
 rw[e,e']at q;exact⟨_,_,zjJ_ e ha,zjJ_ e' hb,gotB q hs⟩
def ltLD (a b:D):Mo D:=match a.un,b.un with
 |.nd .lst xs,.nd .lst ys=>(Mo.opt (intsD xs)).bind λis=>(Mo.opt (intsD ys)).bind λjs=>.ok (.bl (HT.lexLt is js))
 |_,_=>.no
theorem zqr_:Op2D K (mLtK K) E ltLD:=by
 intro a b x y F H Q hs ha hb q;have ha:=DR.un ha;have hb:=DR.un hb;unfold ltLD at q;split at q
 ·rename_i e1 e2;rw[e1]at ha;rw[e2]at hb
  obtain⟨p,us,rfl,n,r⟩:=ha.nd;obtain⟨p2,ws,rfl,n2,r2⟩:=hb.nd;obtain⟨is,i1,q⟩:=After.opt q.bind;obtain⟨js,i2,q⟩:=After.opt (After.bind (q F H (Ext.refl hs)));rw[zc6_ (zdi_ i1 r)]at n;rw[zc6_ (zdi_ i2 r2)]at n2;exact⟨is,js,.of (hs _ _ n),.of (hs _ _ n2),gotB (q F H (Ext.refl hs)) hs⟩
 ·exact q.elim
def liD (ls:List (List Nat))(b:D):Mo D:=(strOf b).bind λz=>.grd (z∈ls) (.ok (.int (ls.idxOf z:Nat)))
theorem ex_li (h1:EvX K t1 E env r1)(h2:EvX K t2 E env r2):EvX K (tBM K "list" (mLI K) t1 (tCons t2 tNil)) E env (r1.bind λa=>(strL a).bind λls=>r2.bind (liD ls)):=by
 intro σ F H Q hL hs q;refine ex_v h1 σ F H _ hL hs (q.bind.imp λd F1 H1 x1 k1 v hv=>?_)
 have hd:=DR.un hv;unfold strL at k1;split at k1
 rotate_left
 ·exact k1.elim
 rename_i ds e
 rw[e]at hd;obtain⟨a,us,rfl,n,r⟩:=hd.nd;cases e2:strsD ds with
 |none=>rw[e2]at k1;exact k1.elim
 |some ls=>
  rw[e2]at k1;rw[zhY_ e2 r]at n;refine⟨.inl ⟨rfl,_,SqL.of (x1.2.1 _ _ n)⟩,?_⟩;refine ex_v h2 σ F1 H1 _ (hL.mono x1.1) x1.2.1 (After.imp (After.bind (show After K (r2.bind (liD ls)) E F1 H1 (OwnK (owD K) H Q)from k1)) λb F2 H2 x2 k2 w hw=>?_)
  unfold liD at k2;rcases zbA_ b with e' |⟨l',e'⟩
  ·rw[e']at k2;exact k2.elim
  ·rw[e']at k2
   obtain⟨c,k3⟩:=After.grd (show After K (.grd (l'∈ls) (.ok (D.int (ls.idxOf l':Nat)))) E F2 H2 (OwnK (owD K) H Q)from k2)
   exact⟨a,ls,l',rfl,by rw[zjJ_ e' hw],SqL.of (x2.2.1 _ _ (x2.1 _ _ n)),c,gotI (k3.imp λa F3 H3 x3 k3=>k3.back (x1.2.2.1.trans x2.2.2.1)) x2.2.1⟩
end
section
variable {K:l8}{E:XK}
theorem zma_ {X:Cx}{elts:List k8}{kk:Nat}{cO:Pos}{a b:k8}{ta:TA}{p pos:Pos}(hm:Gb X.mg "zip")(ha:PA X [a,b] ta)(hg:Gl X "zip")(hs:lJ [a,b] X.env=[(uF,eval a X.env),(uF,eval b X.env)])(aQ:lJ [b] X.env=[(uF,eval b X.env)]):
  PI X (.Tuple elts kk cO) (.Call (.Name "zip" p) [a,b] [] pos) (λσ H R=>ta σ H λvs H1=>match vs with
   |[.ref a,.ref b]=>(∃xs,SqL X.K H1 a xs)/\(∃ys,SqL X.K H1 b ys)/\R (Itz X.K a b) H1
   |_=>False):=by
 intro pins s σ H R I h;refine Call_ (zdB_ I hg hm (u:=.type "zip") (by rfl) (mO (thn (ha pos pins s σ H _ I h) λus s1 af=>?_) (by rw[hs,aQ]) (by rw[aQ];rfl)))
 obtain⟨vs,H1,I1,r1,q1⟩:=af
 try dsimp only at q1
 have lo:∀b∈[s1.heap.objs.size+4,s1.heap.objs.size+2,s1.heap.objs.size+3,s1.heap.objs.size,s1.heap.objs.size+1],s1.heap.objs.size<=b:=λb hb=>by
  simp only[k9,rN,or_false]at hb;rcases hb with rfl |rfl |rfl |rfl |rfl<;>first |exact rO _ _ |exact kx _
 split at q1
 ·rename_i l m
  obtain⟨⟨xs,hq⟩,⟨ys,hq2⟩,q⟩:=q1;obtain⟨w1,w2,rfl,r,r'⟩:=vals2 r1;cases r;cases r';obtain⟨aa,rv,p1,hz⟩:=I1.list hq;obtain⟨aj,rv2,p2,hz2⟩:=I1.list hq2;refine call_zip_2 p1.isList p2.isList λh' il bX b9 h1 h2 hsz hk=>?_
  refine wpAny_pyIter_zip (s:={s1 with heap:=h'}) il ?_;have I2:Inv X pins σ H1 {s1 with heap:=h'}:=I1.kept (t':=s1.toks) hk;have la:l<s1.heap.objs.size:=by obtain⟨o,e,_⟩:=p1.isList;exact kJ e
  have lb:m<s1.heap.objs.size:=by obtain⟨o,e,_⟩:=p2.isList;exact kJ e
  refine⟨s1.heap.objs.size+4,[s1.heap.objs.size+4,s1.heap.objs.size+2,s1.heap.objs.size+3,s1.heap.objs.size,s1.heap.objs.size+1],_,_,H1,rfl,I2,zkZ_ _ _ _ _ _ l m (zig_ la lb),⟨il,bX,⟨_,_,b9⟩,h1,h2⟩,λb hb=>?_,q⟩
  exact I1.fpOk (lo b hb) (I1.hok.fresh (lo b hb))
 ·exact q1.elim
theorem znJ_:∀{is:List Int}{us:List V},Prs tyInt F is us->us=is.map .int
 |_,_,.nil=>rfl
 |_,_,.cons a r=>by cases a;rw[kF,<- znJ_ r]
theorem zjv_:∀{ks:List Key}{is:List Int}{us:List V},keysI ks=uC is->ks.length=us.length->((ks.zip us).map λq=>kV q.1)=is.map .int
 |[],is,us,h,e=>by cases h;rfl
 |.inl i::ks,is,[],h,e=>by cases e
 |.inl i::ks,is,u::us,h,e=>by
  unfold keysI at h;obtain⟨j9,h',rfl⟩:=kQ.mp h;rw[lM,kF,kF,zjv_ h' (by simpa using e)];rfl
 |.inr _::_,_,_,h,_=>by cases h
theorem zn9_ {ns aX:List Int}(p:aX.Perm ns)(s:aX.Pairwise (·<=·)):aX=srtL ltI ns:=zbP_ znD_ p (s.imp λ{a b} h=>by show decide _=uF;exact decide_eq_false (by lia))
theorem zjh_ (l:List Int):(l.map D.int).map D.vw=l.map D.int:=by rw[lX];rfl
theorem zkO_:BlD K (mSortI K) E sortI:=zfy_ λd v F H Q hs hd q=>by
 split at q
 ·obtain⟨p,us,rfl,n,r⟩:=hd.nd
  split at q
  rotate_left
  ·exact q.elim
  rename_i is e
  unfold srtI at q;obtain⟨c,q⟩:=q.grd;refine⟨is,.inl ?_,c,λaX hp cU l hl=>?_⟩
  ·rw[<- znJ_ (zdi_ e r)];exact .of (hs _ _ n)
  ·rw[zn9_ hp cU];exact newL (by rw[zjh_];exact q) hs hl (zbR_ _)
 ·obtain⟨p,us,rfl,n,r⟩:=hd.nd
  split at q
  rotate_left
  ·exact q.elim
  rename_i is e
  unfold srtI at q;obtain⟨c,q⟩:=q.grd;refine⟨is,.inr ⟨_,hs _ _ n.1,zjv_ e n.2.1⟩,c,λaX hp cU l hl=>?_⟩
  rw[zn9_ hp cU];exact newL (by rw[zjh_];exact q) hs hl (zbR_ _)
 ·exact q.elim
end
structure Gi where
 cs:List Str
 kt:List (Str×List (List Nat)):=[]
structure Gi.Ok (G:Gi)(K:lK):Prop where
 cs:G.cs≠[]
 kt:∀q∈G.kt,SqU K (gA K q.1) (q.2.map tx)
inductive Bo where
 |add |sub |mul |mod |div |lt |le |gt |ge |eq |ne |is |isn |inn |nin |ix |ned |gtT |ltL
inductive Bf where
 |len |list |min |str |all |sorted
inductive Sm where
 |join |index |zfill
inductive Ik where
 |any |r1 |r2 |en |zip
inductive X where
 |v (i:Nat)|k (d:D)|g (x:Str) (d:D)
 |gt (x:Str) (ls:List (List Nat))
 |bin (o:Bo) (a b:X)|ch (o o':Bo) (a b c:X)
 |and (a b:X)|or (a b:X)|not (a:X)|neg (a:X)|ifx (c a b:X)
 |sl (a:X) (lo hi:Option X)
 |tup (as:List X)|lst (as:List X)
 |fld (a:X) (f:Str)
 |call (f:Fn) (x:Str) (as:List X)
 |bf (o:Bf) (as:List X)
 |sm (o:Sm) (a:X) (as:List X)
 |comp (lv:List Str) (fr:List (Str×Nat)) (ik:Ik) (src:List X) (tg:Tg) (c:Option X) (e:X)
 |lr (a b:X)
 |srt (p:Str) (fr:List (Str×Nat)) (i:Nat) (e:X)
 |mkd (f:Fn) (c:Str) (as:List X) (dv:List D)
 |ds1 (k v:X)|ds2 (k v l w:X)
 |li (a b:X)
 |isa (a:X) (n:String)|dct0 |ch3 (o o' aK:Bo) (a b c d:X)
def Bo.r (K:lK):Bo->R2
 |.add=>mAddA K |.sub=>mSub |.mul=>mMulX |.mod=>mMod |.div=>mDivG
 |.lt=>mLt |.le=>mLe |.gt=>mGt |.ge=>mGe |.eq=>mEqA K |.ne=>mNeA K |.is=>mIs |.isn=>mIsNot
 |.inn=>rInA K uF |.nin=>rInA K uE |.ix=>rIxA K |.ned=>mNeDL K |.gtT=>mTxt λi j=>decide (j<i)|.ltL=>mLtK K
def Bo.f:Bo->D->D->Mo D
 |.add=>addA |.sub=>subD |.mul=>mulD |.mod=>modD |.div=>divD
 |.lt=>ltD |.le=>leD |.gt=>gtD |.ge=>geD |.eq=>eqD uF |.ne=>eqD uE |.is=>isD uF |.isn=>isD uE
 |.inn=>inA uF |.nin=>inA uE |.ix=>ixA |.ned=>nedD |.gtT=>txtD λi j=>decide (j<i)|.ltL=>ltLD
def Bf.r (K:lK):Bf->List V->Hp->VK->Prop
 |.len=>mLenA K |.list=>mListA K |.min=>mTwo Min.min |.str=>mStr |.all=>mAll K |.sorted=>mSortI K
def Bf.f:Bf->List D->Mo D
 |.len=>lenA |.list=>listA |.min=>minD |.str=>strD |.all=>allD |.sorted=>sortI
def Sm.r (K:lK):Sm->V->List V->Hp->VK->Prop
 |.join=>mJoin K |.index=>mIndex |.zfill=>mZfill
def Sm.f:Sm->List Nat->List D->Mo D
 |.join=>joinD |.index=>indexD |.zfill=>zfillD
def Ik.w (K:lK):Ik->List V->L2.St->Hp->(It->Hp->Prop)->Prop
 |.any=>iAnyW K
 |.r1=>λvs _ H1 R=>match vs with |[.int j] => -(2 ^ 62)<=j/\j<2 ^ 62/\R (Itr 0 j.toNat) H1 |_=>False
 |.r2=>λvs _ H1 R=>match vs with |[.int i,.int j]=>(-(2 ^ 62)<=i/\i<2 ^ 62 /\ -(2 ^ 62)<=j/\j<2 ^ 62)/\R (Itr i (j-i).toNat) H1 |_=>False
 |.en=>λvs _ H1 R=>match vs with |[.str z]=>R (Ites z.cps.toList.length (λi=>tx [z.cps.toList.getD i 0])) H1 |[.ref a]=>(∃xs,SqL K H1 a xs)/\R (Ite K a) H1 |_=>False
 |.zip=>λvs _ H1 R=>match vs with
  |[.ref a,.ref b]=>(∃xs,SqL K H1 a xs)/\(∃ys,SqL K H1 b ys)/\R (Itz K a b) H1
  |_=>False
def Ik.t (K:lK)(o:Ik)(ta:TA):TI:=λσ H R=>ta σ H λvs H1=>o.w K vs σ H1 R
def Ik.f:Ik->List D->Mo (List D)
 |.any=>walkA |.r1=>rng1D |.r2=>rng2D |.en=>enumD |.zip=>zipD
theorem ik_w {K:lK}{E:XK}(o:Ik):WkW K E (o.w K) o.f:=by
 cases o with
 |any=>exact w_any
 |r1=>exact w_rg1
 |r2=>exact w_rg2
 |en=>exact w_en
 |zip=>exact w_zip
theorem ik_ok {K:lK}{E:XK}{env:Env}{ta:TA}{ra:Mo (List D)}(o:Ik)(h:EvAs K ta E env ra):EvI K (o.t K ta) E (Lof K env) (ra.bind o.f) (tyD K):=ei_w (ik_w o) h
section
variable (K:l8)(G:Gi)
mutual
def X.den:XK->X->TE
 |_,.v i=>mVar i
 |_,.k d=>tC (d.flat?.getD .non)
 |_,.g _ d=>tC (d.flat?.getD .non)
 |_,.gt x _=>tC (.ref (gA K x))
 |E,.bin o a b=>tOp (o.r K) (a.den E) (b.den E)
 |E,.ch o o' a b c=>mChain (o.r K) (o'.r K) (a.den E) (b.den E) (c.den E)
 |E,.and a b=>mAndV (a.den E) (b.den E)
 |E,.or a b=>mOrV (a.den E) (b.den E)
 |E,.not a=>mNotV (a.den E)
 |E,.neg a=>mNeg (a.den E)
 |E,.ifx c a b=>mIf (mTest (c.den E)) (a.den E) (b.den E)
 |E,.sl a lo hi=>tSl (mSlA K) (a.den E) (X.denO E lo) (X.denO E hi)
 |E,.tup as=>tTup (X.dens E as)
 |E,.lst as=>tLst (X.dens E as)
 |E,.fld a f=>tFld K G.cs (a.den E) f
 |E,.call f _ as=>tCall (CtG K f) [] E (X.dens E as)
 |E,.bf o as=>tCB (o.r K) (X.dens E as)
 |E,.sm o a as=>tBM K "str" (o.r K) (a.den E) (X.dens E as)
 |E,.comp lv fr ik src tg c e=>tComp lv fr (ik.t K (X.dens E src)) (tgT K tg) (X.denT E0 c) (e.den E0)
 |E,.lr a b=>tCB (mList K) (tCons (tCB mRange (tCons (a.den E) (tCons (b.den E) tNil))) tNil)
 |_,.srt _ fr i e=>tSrt K fr i (e.den E0)
 |E,.mkd f c as dv=>tMake (gA K c) (CtG K f) ((flats dv).getD []) E (X.dens E as)
 |E,.ds1 a0 b0=>tDisp [(a0.den E,b0.den E)]
 |E,.ds2 a0 b0 c0 d0=>tDisp [(a0.den E,b0.den E),(c0.den E,d0.den E)]
 |E,.li a b=>tBM K "list" (mLI K) (a.den E) (tCons (b.den E) tNil)
 |E,.isa a n=>tCB (mIsaV K) (tCons (a.den E) (tCons (tC (.ty n)) tNil))
 |_,.dct0=>tDNewK
 |E,.ch3 o o' aK a b c d=>mChain3 (o.r K) (o'.r K) (aK.r K) (a.den E) (b.den E) (c.den E) (d.den E)
def X.dens:XK->List X->TA
 |_,[]=>tNil
 |E,a::as=>tCons (a.den E) (X.dens E as)
def X.denO:XK->Option X->TO
 |_,uD=>tNoPart
 |E,uC a=>mPart (a.den E)
def X.denT:XK->Option X->TT
 |_,uD=>tTrue
 |E,uC a=>mTest (a.den E)
end
end
def chD (o o':Bo)(x y:D)(r:Mo D):Mo D:=(o.f x y).bind λz=>(blD z).bind λb=>if b then r.bind λw=>o'.f y w else .ok (.bl uF)
def ch3D (o o' aK:Bo)(x y:D)(r s:Mo D):Mo D:=(o.f x y).bind λz=>(blD z).bind λb=>if b then r.bind λw=>chD o' aK y w s else .ok (.bl uF)
section
variable (G:Gi)
mutual
def X.ev:Env->X->Mo D
 |env,.v i=>getE env i
 |_,.k d=>if d.flat?.isSome then .ok d else .no
 |_,.g _ d=>if d.flat?.isSome then .ok d else .no
 |_,.gt x ls=>if(x,ls)∈G.kt then .ok (.nd .ktup (ls.map .str))else .no
 |env,.bin o a b=>(a.ev env).bind λx=>(b.ev env).bind λy=>o.f x y
 |env,.ch o o' a b c=>(a.ev env).bind λx=>(b.ev env).bind λy=>chD o o' x y (c.ev env)
 |env,.and a b=>(a.ev env).bind λx=>andD x (b.ev env)
 |env,.or a b=>(a.ev env).bind λx=>orD x (b.ev env)
 |env,.not a=>(a.ev env).bind λx=>(blD x).bind λb=>.ok (.bl (!b))
 |env,.neg a=>(a.ev env).bind negD
 |env,.ifx c a b=>((c.ev env).bind blD).bind λt=>if t then a.ev env else b.ev env
 |env,.sl a lo hi=>(a.ev env).bind λx=>(X.evO env lo).bind λl=>(X.evO env hi).bind λh=>slA x l h
 |env,.tup as=>(X.evs env as).bind λds=>.lim ds.length (.ok (.nd .tup ds))
 |env,.lst as=>(X.evs env as).bind λds=>.lim ds.length (.ok (.nd .lst ds))
 |env,.fld a f=>(a.ev env).bind (fldD G.cs f)
 |env,.call f _ as=>(X.evs env as).bind λds=>f.val (ds.map .vw)
 |env,.bf o as=>(X.evs env as).bind o.f
 |env,.sm o a as=>(a.ev env).bind λd=>(strOf d).bind λl=>(X.evs env as).bind λc=>o.f l c
 |env,.comp lv fr ik src tg c e=>if tg.is.all (·<lv.length)then(((X.evs env src).bind ik.f).bind λl=>.opt (tgsD tg l)).bind λxs=>(compM (λx=>cond1 (X.evT (setE (cE lv fr env) tg.is x) c) (e.ev (setE (cE lv fr env) tg.is x))) xs []).bind λys=>.ok (.nd .lst ys)else .no
 |env,.lr a b=>(a.ev env).bind λx=>(b.ev env).bind λy=>lrD x y
 |env,.srt p fr i e=>(getE env i).bind λd=>(strL d).bind λls=>.grd (ls.length<64) ((compM (λx=>cond1 (.ok uE) (e.ev (setE (cE [p] fr env) [0] x))) (ls.map λl=>[D.str l]) []).bind λks=>srtK ls ks)
 |env,.mkd f c as dv=>if(flats dv).isSome then(X.evs env as).bind λds=>makeD f c (ds++dv)else .no
 |env,.ds1 a0 b0=>(a0.ev env).bind λa=>(b0.ev env).bind λb=>dspD [a,b]
 |env,.ds2 a0 b0 c0 d0=>(a0.ev env).bind λa=>(b0.ev env).bind λb=>(c0.ev env).bind λc=>(d0.ev env).bind λd=>dspD [a,b,c,d]
 |env,.li a b=>(a.ev env).bind λx=>(strL x).bind λls=>(b.ev env).bind (liD ls)
 |env,.isa a n=>(a.ev env).bind (isaD n)
 |_,.dct0=>.ok (.nd (.dct []) [])
 |env,.ch3 o o' aK a b c d=>(a.ev env).bind λx=>(b.ev env).bind λy=>ch3D o o' aK x y (c.ev env) (d.ev env)
def X.evs:Env->List X->Mo (List D)
 |_,[]=>.ok []
 |env,a::as=>(a.ev env).bind λd=>(X.evs env as).bind λds=>.ok (d::ds)
def X.evO:Env->Option X->Mo (Option Int)
 |_,uD=>.ok uD
 |env,uC a=>(a.ev env).bind λd=>(intD d).bind λi=>.ok (uC i)
def X.evT:Env->Option X->Mo Bool
 |_,uD=>.ok uE
 |env,uC a=>(a.ev env).bind blD
end
end
section
variable {K:l8}{E:XK}{env:Env}{G:Gi}
theorem zjY_ (o:Bo):Op2D K (o.r K) E o.f:=by
 cases o with
 |add=>exact zl8_
 |sub=>exact zph_
 |mul=>exact zpw_
 |mod=>exact zqD_
 |div=>exact zq2_
 |lt=>exact od_lt
 |le=>exact od_le
 |gt=>exact od_gt
 |ge=>exact od_ge
 |eq=>exact od_eq
 |ne=>exact od_ne
 |is=>exact od_is
 |isn=>exact zp7_
 |inn=>exact zlz_
 |nin=>exact zlz_
 |ix=>exact zqI_
 |ned=>exact zpV_
 |gtT=>exact zqa_
 |ltL=>exact zqr_
theorem bf_ok (o:Bf):BlD K (o.r K) E o.f:=by
 cases o with
 |len=>exact zmB_
 |list=>exact zjM_
 |min=>exact zqZ_
 |str=>exact zpf_
 |all=>exact zq3_
 |sorted=>exact zkO_
theorem sm_ok (o:Sm):MeD K (o.r K) E o.f:=by
 cases o with
 |join=>exact zmp_
 |index=>exact zj4_
 |zfill=>exact zkx_
theorem zj7_ {α:Type}{O:Own α}{m:Mo α}{F H:Hp}{Q:VK}(q:After K m E F H (λc F' H'=>∀v,O.fr.R c v F'->Q v H')):After K m E F H (OwnK O H Q):=by
 cases m with
 |no=>exact q
 |ex c=>exact q
 |ok a=>
  intro F' H' x v h' fresh d s o;refine q (un F' h') H' ⟨x.1.trans zaa_,λp o e=>?_,x.2.2.1,λp a b=>?_⟩ v (O.frz d o)
  ·unfold un at e
   cases z:F' p with
   |some w=>rw[z]at e;cases e;exact x.2.1 _ _ z
   |none=>rw[z]at e;exact s _ _ e
  ·unfold un at b
   cases z:F' p with
   |some w=>exact x.2.2.2 p a (by rw[z];exact sN _)
   |none=>rw[z]at b;exact fresh p b
theorem ex_ch {o o':Bo}{t1 t2 t3:TE}{r1 r2 r3:Mo D}(h1:EvX K t1 E env r1)(h2:EvX K t2 E env r2)(h3:EvX K t3 E env r3):EvX K (mChain (o.r K) (o'.r K) t1 t2 t3) E env (r1.bind λx=>r2.bind λy=>chD o o' x y r3):=by
 intro σ F H Q hL hs q;refine ex_v h1 σ F H _ hL hs (q.bind.imp λa F1 H1 x1 k1 v1 aN=>?_)
 refine ex_v h2 σ F1 H1 _ (hL.mono x1.1) x1.2.1 (k1.bind.imp λb F2 H2 x2 k2 v2 cQ=>?_)
 refine zjY_ o a b v1 v2 F2 H2 _ x2.2.1 ((tyD K).mono x2.1 aN) cQ (zj7_ (k2.bind.imp λz F3 H3 x3 k3 w hw=>?_))
 have hz:=DR.un hw;unfold blD at k3;split at k3
 ·rename_i c e
  rw[e]at hz;cases hz.bl;refine⟨λz=>?_,λz=>?_⟩
  ·subst z
   refine ex_v h3 σ F3 H3 _ (hL.mono (x1.1.trans (x2.1.trans x3.1))) x3.2.1 (After.imp (After.bind (show After K (r3.bind λw=>o'.f b w) E F3 H3 _ from k3)) λw F4 H4 x4 k4 v4 dA=>?_)
   exact zjY_ o' b w v2 v4 F4 H4 Q x4.2.1 ((tyD K).mono (x3.1.trans x4.1) cQ) dA (k4.imp λa F5 H5 x5 k5=>k5.back (x1.2.2.1.trans (x2.2.2.1.trans (x3.2.2.1.trans x4.2.2.1))))
  ·subst z
   exact gotB (After.imp (show After K (.ok (D.bl uF)) E F3 H3 (OwnK (owD K) H Q)from k3) λa F5 H5 x5 k5=>k5.back (x1.2.2.1.trans (x2.2.2.1.trans x3.2.2.1))) x3.2.1
 ·exact k3.elim
theorem zpK_ {o o' aK:Bo}{t1 t2 t3 t4:TE}{r1 r2 r3 r4:Mo D}(h1:EvX K t1 E env r1)(h2:EvX K t2 E env r2)(h3:EvX K t3 E env r3)(h4:EvX K t4 E env r4):EvX K (mChain3 (o.r K) (o'.r K) (aK.r K) t1 t2 t3 t4) E env (r1.bind λx=>r2.bind λy=>ch3D o o' aK x y r3 r4):=by
 intro σ F H Q hL hs q;refine ex_v h1 σ F H _ hL hs (q.bind.imp λa F1 H1 x1 k1 v1 aN=>?_)
 refine ex_v h2 σ F1 H1 _ (hL.mono x1.1) x1.2.1 (k1.bind.imp λb F2 H2 x2 k2 v2 cQ=>?_)
 refine zjY_ o a b v1 v2 F2 H2 _ x2.2.1 ((tyD K).mono x2.1 aN) cQ (zj7_ (k2.bind.imp λz F3 H3 x3 k3 w hw=>?_))
 have hz:=DR.un hw;unfold blD at k3;split at k3
 ·rename_i c e
  rw[e]at hz;cases hz.bl;refine⟨λz=>?_,λz=>?_⟩
  ·subst z
   refine ex_v h3 σ F3 H3 _ (hL.mono (x1.1.trans (x2.1.trans x3.1))) x3.2.1 (After.imp (After.bind (show After K (r3.bind λw=>chD o' aK b w r4) E F3 H3 _ from k3)) λw F4 H4 x4 k4 v4 dA=>?_)
   refine zjY_ o' b w v2 v4 F4 H4 _ x4.2.1 ((tyD K).mono (x3.1.trans x4.1) cQ) dA (zj7_ ((After.bind (show After K ((o'.f b w).bind _) E F4 H4 _ from k4)).imp λz5 F5 H5 x5 k5 w5 i6=>?_))
   have ig:=DR.un i6;unfold blD at k5;split at k5
   ·rename_i c5 e5
    rw[e5]at ig;cases ig.bl;refine⟨λz=>?_,λz=>?_⟩
    ·subst z
     refine ex_v h4 σ F5 H5 _ (hL.mono (x1.1.trans (x2.1.trans (x3.1.trans (x4.1.trans x5.1))))) x5.2.1 (After.imp (After.bind (show After K (r4.bind λw'=>aK.f w w') E F5 H5 _ from k5)) λw' F6 H6 x6 k6 v6 i7=>?_)
     exact zjY_ aK w w' v4 v6 F6 H6 Q x6.2.1 ((tyD K).mono (x5.1.trans x6.1) dA) i7 (k6.imp λa F7 H7 x7 k7=>k7.back (x1.2.2.1.trans (x2.2.2.1.trans (x3.2.2.1.trans (x4.2.2.1.trans (x5.2.2.1.trans x6.2.2.1))))))
    ·subst z
     exact gotB (After.imp (show After K (.ok (D.bl uF)) E F5 H5 (OwnK (owD K) H Q)from k5) λa F7 H7 x7 k7=>k7.back (x1.2.2.1.trans (x2.2.2.1.trans (x3.2.2.1.trans (x4.2.2.1.trans x5.2.2.1))))) x5.2.1
   ·exact k5.elim
  ·subst z
   exact gotB (After.imp (show After K (.ok (D.bl uF)) E F3 H3 (OwnK (owD K) H Q)from k3) λa F5 H5 x5 k5=>k5.back (x1.2.2.1.trans (x2.2.2.1.trans x3.2.2.1))) x3.2.1
 ·exact k3.elim
theorem ex_k {d:D}(i:Str):EvX K (tC (d.flat?.getD .non)) E env (if d.flat?.isSome then .ok d else .no):=by
 cases e:d.flat? with
 |none=>exact λσ F H Q hL hs q=>q.elim
 |some v=>
  intro σ F H Q hL hs q;have q:After K (.ok d) E F H (OwnK (owD K) H Q):=q;show Q v H
  cases d with
  |non=>cases e;exact gotN q hs
  |bl=>cases e;exact gotB q hs
  |int=>cases e;exact gotI q hs
  |str=>cases e;exact gotS q hs
  |_=>cases e
theorem zfE_:∀ls:List (List Nat),D.imms (ls.map .str)=uE
 |[]=>rfl
 |l::ls=>by rw[kF];unfold D.imms;rw[zfE_ ls];rfl
mutual
theorem X.sound (g0:G.Ok K):∀(x:X) (E:XK) (env:Env),EvX K (x.den K G E) E env (x.ev G env)
 |.v i,E,env=>zm0_ i
 |.k d,E,env=>ex_k ""
 |.g x d,E,env=>ex_k x
 |.gt x ls,E,env=>by
  show EvX K _ E env (if _ then _ else _)
  by_cases h:(x,ls)∈G.kt
  ·rw[if_pos h]
   exact ex_c (λF=>by unfold DR;exact⟨_,_,rfl,g0.kt _ h,zjl_ ls⟩) (by unfold D.imm;exact zfE_ ls)
  ·rw[if_neg h];exact λσ F H Q hL hs q=>q.elim
 |.bin o a b,E,env=>ex_op (zjY_ o) (X.sound g0 a E env) (X.sound g0 b E env)
 |.ch o o' a b c,E,env=>ex_ch (X.sound g0 a E env) (X.sound g0 b E env) (X.sound g0 c E env)
 |.and a b,E,env=>zqN_ (X.sound g0 a E env) (X.sound g0 b E env)
 |.or a b,E,env=>ex_or (X.sound g0 a E env) (X.sound g0 b E env)
 |.not a,E,env=>zpx_ (X.sound g0 a E env)
 |.neg a,E,env=>zpX_ (X.sound g0 a E env)
 |.ifx c a b,E,env=>ex_if (zg7_ (X.sound g0 c E env)) (X.sound g0 a E env) (X.sound g0 b E env)
 |.sl a lo hi,E,env=>zpO_ (X.sound g0 a E env) (X.soundO g0 lo E env) (X.soundO g0 hi E env)
 |.tup as,E,env=>zre_ (X.sounds g0 as E env)
 |.lst as,E,env=>zrh_ (X.sounds g0 as E env)
 |.fld a f,E,env=>zoS_ g0.cs (X.sound g0 a E env)
 |.call f x as,E,env=>zne_ (X.sounds g0 as E env)
 |.bf o as,E,env=>ex_cb (bf_ok o) (X.sounds g0 as E env)
 |.sm o a as,E,env=>ex_me (sm_ok o) (X.sound g0 a E env) (X.sounds g0 as E env)
 |.comp lv fr ik src tg c e,E,env=>by
  show EvX K _ E env (if _ then _ else _)
  split
  ·rename_i h
   exact zjq_ (ik_ok ik (X.sounds g0 src E env)) (λi hi=>by simpa using me.mp h i hi) (λa=>X.soundT g0 c E0 _) (λa=>X.sound g0 e E0 _)
  ·exact λσ F H Q hL hs q=>q.elim
 |.lr a b,E,env=>ex_lr (X.sound g0 a E env) (X.sound g0 b E env)
 |.li a b,E,env=>ex_li (X.sound g0 a E env) (X.sound g0 b E env)
 |.isa a n,E,env=>zri_ n (X.sound g0 a E env)
 |.srt p fr i e,E,env=>zo9_ λa=>X.sound g0 e E0 _
 |.mkd f c as dv,E,env=>by
  show EvX K (tMake (gA K c) (CtG K f) ((flats dv).getD []) E _) E env (if(flats dv).isSome then _ else _)
  cases e:flats dv with
  |none=>exact ex_no
  |some au=>exact zqw_ (X.sounds g0 as E env) λF=>zgw_ e
 |.ds1 a0 b0,E,env=>by
  have:=zjn_ (trs:=[(_,_)]) (zaW_ (X.sound g0 a0 E env) (zaW_ (X.sound g0 b0 E env) zgl_));simp only[Mo.bind_assoc]at this;exact this
 |.ds2 a0 b0 c0 d0,E,env=>by
  have:=zjn_ (trs:=[(_,_),(_,_)]) (zaW_ (X.sound g0 a0 E env) (zaW_ (X.sound g0 b0 E env) (zaW_ (X.sound g0 c0 E env) (zaW_ (X.sound g0 d0 E env) zgl_))));simp only[Mo.bind_assoc]at this;exact this
 |.dct0,E,env=>zng_
 |.ch3 o o' aK a b c d,E,env=>zpK_ (X.sound g0 a E env) (X.sound g0 b E env) (X.sound g0 c E env) (X.sound g0 d E env)
theorem X.sounds (g0:G.Ok K):∀(as:List X) (E:XK) (env:Env),EvAs K (X.dens K G E as) E env (X.evs G env as)
 |[],E,env=>zgl_
 |a::as,E,env=>zaW_ (X.sound g0 a E env) (X.sounds g0 as E env)
theorem X.soundO (g0:G.Ok K):∀(a:Option X) (E:XK) (env:Env),EvP K (X.denO K G E a) E (Lof K env) (X.evO G env a)
 |none,E,env=>ep_no
 |some a,E,env=>ep_x (X.sound g0 a E env)
theorem X.soundT (g0:G.Ok K):∀(a:Option X) (E:XK) (env:Env),EvT K (X.denT K G E a) E (Lof K env) (X.evT G env a)
 |none,E,env=>zmC_
 |some a,E,env=>zg7_ (X.sound g0 a E env)
end
end
mutual
def X.uses:X->List Nat
 |.v i=>[i]
 |.k _=>[]
 |.g _ _=>[]
 |.gt _ _=>[]
 |.bin _ a b=>a.uses++b.uses
 |.ch _ _ a b c=>a.uses++b.uses++c.uses
 |.and a b=>a.uses++b.uses
 |.or a b=>a.uses++b.uses
 |.not a=>a.uses
 |.neg a=>a.uses
 |.ifx c a b=>c.uses++a.uses++b.uses
 |.sl a lo hi=>a.uses++X.usesO lo++X.usesO hi
 |.tup as=>X.usesL as
 |.lst as=>X.usesL as
 |.fld a _=>a.uses
 |.call _ _ as=>X.usesL as
 |.bf _ as=>X.usesL as
 |.sm _ a as=>a.uses++X.usesL as
 |.comp _ fr _ src _ _ _=>X.usesL src++fr.map (·.2)
 |.lr a b=>a.uses++b.uses
 |.li a b=>a.uses++b.uses
 |.isa a _=>a.uses
 |.srt _ fr i _=>i::fr.map (·.2)
 |.mkd _ _ as _=>X.usesL as
 |.ds1 a0 b0=>a0.uses++b0.uses
 |.ds2 a0 b0 c0 d0=>a0.uses++(b0.uses++(c0.uses++d0.uses))
 |.dct0=>[]
 |.ch3 _ _ _ a b c d=>(a.uses++b.uses)++(c.uses++d.uses)
def X.usesL:List X->List Nat
 |[]=>[]
 |a::as=>a.uses++X.usesL as
def X.usesO:Option X->List Nat
 |none=>[]
 |some a=>a.uses
end
def Alike (is:List Nat)(e e':Env):Prop:=∀i∈is,getE e i=getE e' i
theorem Alike.l {is js:List Nat}{e e':Env}(h:Alike (is++js) e e'):Alike is e e':=λi hi=>h i (oz _ hi)
theorem Alike.r {is js:List Nat}{e e':Env}(h:Alike (is++js) e e'):Alike js e e':=λi hi=>h i (lE _ hi)
section
variable {G:Gi}
theorem ziT_ {lv:List Str}{fr:List (Str×Nat)}{e e':Env}(h:Alike (fr.map (·.2)) e e')(j:Nat):getE (cE lv fr e) j=getE (cE lv fr e') j:=by
 unfold cE;by_cases hj:j<lv.length
 ·unfold getE
  rw[mx (by rw[ko];exact hj),mx (by rw[ko];exact hj)]
 ·have hj:=pf hj
  have key:∀e:Env,getE (lv.map (λ_=>uD)++fr.map λq=>(e[q.2]?).join) j=match fr[j-lv.length]? with |some q=>getE e q.2 |none=>.no:=λe=>by
   unfold getE;rw[mr (by rw[ko];exact hj),ko,kH]
   cases fr[j-lv.length]? with
   |none=>rfl
   |some q=>
    rw[Option.map_some];dsimp only;cases e[q.2]? with |none=>rfl |some o=>cases o<;>rfl
  rw[key,key];cases z:fr[j-lv.length]? with
  |none=>rfl
  |some q=>exact h q.2 (my.mpr ⟨q,mN z,rfl⟩)
theorem zlf_ {e e':Env}{i:Nat}{o:Option D}(hl:e.length=e'.length)(h:∀j,getE e j=getE e' j)(j:Nat):getE (e.set i o) j=getE (e'.set i o) j:=by
 by_cases hj:i=j
 ·subst hj
  unfold getE;rw[ng,ng,if_pos rfl,if_pos rfl,hl]
 ·have:=h j
  unfold getE at this ⊢;rw[lD hj,lD hj];exact this
theorem zcX_:∀{is:List Nat}{ds:List D}{e e':Env},e.length=e'.length->(∀j,getE e j=getE e' j)->∀j,getE (setE e is ds) j=getE (setE e' is ds) j
 |[],_,_,_,_,h=>h
 |_::_,[],_,_,_,h=>h
 |i::is,d::ds,e,e',hl,h=>λj=>zcX_ (is:=is) (ds:=ds) (e:=e.set i (uC d.vw)) (e':=e'.set i (uC d.vw)) (by rw[mM,mM,hl]) (zlf_ hl h) j
theorem zlq_ {lv:List Str}{fr:List (Str×Nat)}{e e':Env}:(cE lv fr e).length=(cE lv fr e').length:=by unfold cE;simp
mutual
theorem X.ev_uses:∀(x:X) {e e':Env},Alike x.uses e e'->x.ev G e=x.ev G e'
 |.v i,e,e',h=>h i (List.mem_singleton_self _)
 |.k d,e,e',h=>rfl
 |.g x d,e,e',h=>rfl
 |.gt x ls,e,e',h=>rfl
 |.bin o a b,e,e',h=>by show Mo.bind _ _=Mo.bind _ _;rw[X.ev_uses a h.l,X.ev_uses b h.r]
 |.ch o o' a b c,e,e',h=>by show Mo.bind _ _=Mo.bind _ _;rw[X.ev_uses a h.l.l,X.ev_uses b h.l.r,X.ev_uses c h.r]
 |.and a b,e,e',h=>by show Mo.bind _ _=Mo.bind _ _;rw[X.ev_uses a h.l,X.ev_uses b h.r]
 |.or a b,e,e',h=>by show Mo.bind _ _=Mo.bind _ _;rw[X.ev_uses a h.l,X.ev_uses b h.r]
 |.not a,e,e',h=>by show Mo.bind _ _=Mo.bind _ _;rw[X.ev_uses a h]
 |.neg a,e,e',h=>by show Mo.bind _ _=Mo.bind _ _;rw[X.ev_uses a h]
 |.ifx c a b,e,e',h=>by show Mo.bind _ _=Mo.bind _ _;rw[X.ev_uses c h.l.l,X.ev_uses a h.l.r,X.ev_uses b h.r]
 |.sl a lo hi,e,e',h=>by show Mo.bind _ _=Mo.bind _ _;rw[X.ev_uses a h.l.l,X.evO_uses lo h.l.r,X.evO_uses hi h.r]
 |.tup as,e,e',h=>by show Mo.bind _ _=Mo.bind _ _;rw[X.evs_uses as h]
 |.lst as,e,e',h=>by show Mo.bind _ _=Mo.bind _ _;rw[X.evs_uses as h]
 |.fld a f,e,e',h=>by show Mo.bind _ _=Mo.bind _ _;rw[X.ev_uses a h]
 |.call f x as,e,e',h=>by show Mo.bind _ _=Mo.bind _ _;rw[X.evs_uses as h]
 |.bf o as,e,e',h=>by show Mo.bind _ _=Mo.bind _ _;rw[X.evs_uses as h]
 |.sm o a as,e,e',h=>by show Mo.bind _ _=Mo.bind _ _;rw[X.ev_uses a h.l,X.evs_uses as h.r]
 |.comp lv fr ik src tg c x,e,e',h=>by
  show(if _ then Mo.bind _ _ else _)=(if _ then Mo.bind _ _ else _)
  rw[X.evs_uses src h.l];have g:∀ds j,getE (setE (cE lv fr e) tg.is ds) j=getE (setE (cE lv fr e') tg.is ds) j:=λds=>zcX_ zlq_ (ziT_ h.r)
  have g1:∀ds,X.evT G (setE (cE lv fr e) tg.is ds) c=X.evT G (setE (cE lv fr e') tg.is ds) c:=λds=>X.evT_uses c λi _=>g ds i
  have g2:∀ds,x.ev G (setE (cE lv fr e) tg.is ds)=x.ev G (setE (cE lv fr e') tg.is ds):=λds=>X.ev_uses x λi _=>g ds i
  have g3:(λds=>cond1 (X.evT G (setE (cE lv fr e) tg.is ds) c) (x.ev G (setE (cE lv fr e) tg.is ds)))=λds=>cond1 (X.evT G (setE (cE lv fr e') tg.is ds) c) (x.ev G (setE (cE lv fr e') tg.is ds)):=funext λds=>by rw[g1,g2]
  rw[g3]
 |.lr a b,e,e',h=>by show Mo.bind _ _=Mo.bind _ _;rw[X.ev_uses a h.l,X.ev_uses b h.r]
 |.li a b,e,e',h=>by show Mo.bind _ _=Mo.bind _ _;rw[X.ev_uses a h.l,X.ev_uses b h.r]
 |.isa a n,e,e',h=>by show Mo.bind _ _=Mo.bind _ _;rw[X.ev_uses a h]
 |.srt p fr i x,e,e',h=>by
  show Mo.bind _ _=Mo.bind _ _
  rw[h i (lA ..)];have g:∀ds j,getE (setE (cE [p] fr e) [0] ds) j=getE (setE (cE [p] fr e') [0] ds) j:=λds=>zcX_ zlq_ (ziT_ λi hi=>h i (lu _ hi))
  have g3:(λds=>cond1 (.ok uE) (x.ev G (setE (cE [p] fr e) [0] ds)))=λds=>cond1 (.ok uE) (x.ev G (setE (cE [p] fr e') [0] ds)):=funext λds=>by rw[X.ev_uses x λi _=>g ds i]
  rw[g3]
 |.mkd f c as dv,e,e',h=>by show(if _ then Mo.bind _ _ else _)=(if _ then Mo.bind _ _ else _);rw[X.evs_uses as h]
 |.ds1 a0 b0,e,e',h=>by show Mo.bind _ _=Mo.bind _ _;rw[X.ev_uses a0 h.l,X.ev_uses b0 h.r]
 |.ds2 a0 b0 c0 d0,e,e',h=>by show Mo.bind _ _=Mo.bind _ _;rw[X.ev_uses a0 h.l,X.ev_uses b0 h.r.l,X.ev_uses c0 h.r.r.l,X.ev_uses d0 h.r.r.r]
 |.dct0,e,e',h=>rfl
 |.ch3 o o' aK a b c d,e,e',h=>by show Mo.bind _ _=Mo.bind _ _;rw[X.ev_uses a h.l.l,X.ev_uses b h.l.r,X.ev_uses c h.r.l,X.ev_uses d h.r.r]
theorem X.evs_uses:∀(as:List X) {e e':Env},Alike (X.usesL as) e e'->X.evs G e as=X.evs G e' as
 |[],e,e',h=>rfl
 |a::as,e,e',h=>by show Mo.bind _ _=Mo.bind _ _;rw[X.ev_uses a h.l,X.evs_uses as h.r]
theorem X.evO_uses:∀(a:Option X) {e e':Env},Alike (X.usesO a) e e'->X.evO G e a=X.evO G e' a
 |none,e,e',h=>rfl
 |some a,e,e',h=>by show Mo.bind _ _=Mo.bind _ _;rw[X.ev_uses a h]
theorem X.evT_uses:∀(a:Option X) {e e':Env},Alike (X.usesO a) e e'->X.evT G e a=X.evT G e' a
 |none,e,e',h=>rfl
 |some a,e,e',h=>by show Mo.bind _ _=Mo.bind _ _;rw[X.ev_uses a h]
end
end
mutual
noncomputable def D.cold:D->Bool
 |.nd .tup ds=>D.colds ds
 |.nd .ktup ds=>D.colds ds
 |.nd _ _=>uF
 |_=>uE
noncomputable def D.colds:List D->Bool
 |[]=>uE
 |d::ds=>d.cold && D.colds ds
end
section
variable {K:l8}{E:XK}{F F' F0 F1 F2 H0 h h1 h2 h3 k H H' H1 H2:Hp}{d:D}{ds:List D}{v:V}{us vs:List V}{p:kz}{Q:VK}{env:Env}{t:TE}{ws:Ws}{σ:L2.St}{G:Gi}
theorem OD.cold:∀{d:D}{v:V}{h:Hp},d.cold=uE->OD K d v F h->(∀p,h p=uD)/\DR K d v F
 |.nd .tup ds,_,h,z,q=>by
  unfold D.cold at z;unfold OD at q;obtain⟨p,us,h0,h2,e,c,j,r⟩:=q;obtain⟨n,r⟩:=go z r;refine⟨λp=>?_,by unfold DR;exact⟨p,us,e,c.1,r⟩⟩
  rcases j p with⟨_,y⟩|⟨_,y⟩
  ·rw[y,n]
  ·rw[y,c.2]
 |.nd .ktup ds,_,h,z,q=>by
  unfold D.cold at z;unfold OD at q;obtain⟨p,us,h0,h2,e,c,j,r⟩:=q;obtain⟨n,r⟩:=go z r;refine⟨λp=>?_,by unfold DR;exact⟨p,us,e,c.1,r⟩⟩
  rcases j p with⟨_,y⟩|⟨_,y⟩
  ·rw[y,n]
  ·rw[y,c.2]
 |.nd .lst _,_,_,z,_=>by simp[D.cold]at z
 |.nd .scr _,_,_,z,_=>by simp[D.cold]at z
 |.nd (.dct _) _,_,_,z,_=>by simp[D.cold]at z
 |.nd (.obj _ _) _,_,_,z,_=>by simp[D.cold]at z
 |.non,_,_,_,q=>by unfold OD at q;exact q
 |.bl _,_,_,_,q=>by unfold OD at q;exact q
 |.int _,_,_,_,q=>by unfold OD at q;exact q
 |.str _,_,_,_,q=>by unfold OD at q;exact q
 |.fz _,_,_,_,q=>by unfold OD at q;exact q
 |.pin _,_,_,_,q=>by unfold OD at q;exact q
 |.gone,_,_,_,q=>by unfold OD at q;exact q
where go:∀{ds:List D}{us:List V}{h:Hp},D.colds ds=uE->ODs K ds us F h->(∀p,h p=uD)/\DRs K ds us F
 |[],_,_,_,q=>by unfold ODs at q;exact⟨q.2,by unfold DRs;exact q.1⟩
 |d::ds,_,h,z,q=>by
  unfold D.colds at z;obtain⟨z1,z2⟩:=lP.mp z;unfold ODs at q;obtain⟨v,vs,h1,h2,e,j,a,r⟩:=q;obtain⟨n1,a⟩:=OD.cold z1 a;obtain⟨n2,r⟩:=go z2 r;refine⟨λp=>?_,by unfold DRs;exact⟨v,vs,e,a,r⟩⟩
  rcases j p with⟨_,y⟩|⟨_,y⟩
  ·rw[y,n2]
  ·rw[y,n1]
theorem zfO_:∀{d:D},d.imm=uE->d.cold=uE
 |.nd .tup ds,z=>by unfold D.imm at z;unfold D.cold;exact go z
 |.nd .ktup ds,z=>by unfold D.imm at z;unfold D.cold;exact go z
 |.nd .lst _,z=>by simp[D.imm]at z
 |.nd .scr _,z=>by simp[D.imm]at z
 |.nd (.dct _) _,z=>by simp[D.imm]at z
 |.nd (.obj _ _) _,z=>by simp[D.imm]at z
 |.non,_=>rfl
 |.bl _,_=>rfl
 |.int _,_=>rfl
 |.str _,_=>rfl
 |.fz _,_=>rfl
 |.pin _,_=>rfl
 |.gone,_=>rfl
where go:∀{ds:List D},D.imms ds=uE->D.colds ds=uE
 |[],_=>rfl
 |d::ds,z=>by
  unfold D.imms at z;obtain⟨z1,z2⟩:=lP.mp z;unfold D.colds;rw[zfO_ z1,go z2];rfl
theorem zna_ (d:D):d.vw.cold=uE:=by
 unfold D.vw;split
 ·exact zfO_ (by assumption)
 ·split<;>rfl
theorem vw_vw (d:D):d.vw.vw=d.vw:=by
 unfold D.vw;by_cases h:d.imm=uE
 ·rw[if_pos h,if_pos h]
 ·rw[if_neg h]
  cases d with
  |fz d=>dsimp only;rw[if_neg h]
  |_=>dsimp only;rw[if_neg (by unfold D.imm;exact h)]
theorem zaH_ (ok:Okk F0 H0 F1 h H1)(j:Jn k h2 h)(az:Okk F1 (less H1 h2) F2 h3 H2):Same F1 F2/\Dj k h3/\Okk F0 H0 F2 (un k h3) H2:=by
 obtain⟨x,d,s,fr,nt⟩:=ok;obtain⟨x2,d2,s2,eY,nt2⟩:=az;have kh:∀p,k p≠uD->(less H1 h2) p≠uD:=λp z=>by
  cases y:k p with
  |none=>exact absurd y z
  |some o=>
   have n2:h2 p=uD:=by
    rcases j.dj p with w |w
    ·rw[w]at y;cases y
    ·exact w
   rw[zaj_ n2,s _ _ (j.l _ _ y)];exact sN _
 have dk:Dj k h3:=λp=>by
  cases y:k p with
  |none=>exact .inl rfl
  |some o=>
   right;cases w:h3 p with
   |none=>rfl
   |some o'=>exact absurd (eY p (by rw[w];exact sN _)) (kh p (by rw[y];exact sN _))
 have gR:Same H0 (less H1 h2):=λp o e=>by
  have n2:h2 p=uD:=by
   cases w:h2 p with
   |none=>rfl
   |some o'=>have:=fr p (by rw[j.r _ _ w];exact sN _);rw[this]at e;cases e
  rw[zaj_ n2];exact x.2.2.1 _ _ e
 refine⟨x2.1,dk,⟨x.1.trans x2.1,x2.2.1,gR.trans x2.2.2.1,λp a b=>?_⟩,λp=>?_,λp o e=>?_,λp z=>?_,λp xs e=>?_⟩
 ·cases y:F1 p with
  |some o=>exact x.2.2.2 p a (by rw[y];exact sN _)
  |none=>exact gR.free (x2.2.2.2 p y b)
 ·unfold un
  cases y:k p with
  |none=>exact d2 p
  |some o=>
   left;cases w:F2 p with
   |none=>rfl
   |some o'=>
    have n1:F1 p=uD:=by
     rcases d p with z |z
     ·exact z
     ·rw[j.l _ _ y]at z;cases z
    exact absurd (x2.2.2.2 p n1 (by rw[w];exact sN _)) (kh p (by rw[y];exact sN _))
 ·unfold un at e
  cases y:k p with
  |none=>rw[y]at e;exact s2 _ _ e
  |some o'=>
   rw[y]at e;cases e;refine x2.2.2.1 _ _ ?_;have n2:h2 p=uD:=by
    rcases j.dj p with w |w
    ·rw[w]at y;cases y
    ·exact w
   rw[zaj_ n2];exact s _ _ (j.l _ _ y)
 ·unfold un at z
  cases y:k p with
  |none=>rw[y]at z;exact gR.free (eY p z)
  |some o=>exact fr p (by rw[j.l _ _ y];exact sN _)
 ·unfold un at e
  cases y:k p with
  |none=>rw[y]at e;exact nt2 p xs e
  |some o=>rw[y]at e;cases e;exact nt p xs (j.l _ _ y)
theorem zgd_ (ok:Okk F0 H0 F1 h H1)(j:Jn k h2 h):Okk F1 (less H1 h2) F1 h2 H1:=
 zbx_ ok.1.2.1 (dj_r ok.2.1 j) (j.r.trans ok.2.2.1) λp xs e=>ok.2.2.2.2 p xs (j.r _ _ e)
theorem zb2_ {c:Xc}(ok:Okk F0 H0 F1 h H1)(j:Jn k h2 h)(t:Tell K E c H0 F2 H2):Tell K E c (less H1 h2) F2 H2:=by
 refine t.up λp o e=>?_
 have n2:h2 p=uD:=by
  cases w:h2 p with
  |none=>rfl
  |some o'=>have:=ok.2.2.2.1 p (by rw[j.r _ _ w];exact sN _);rw[this]at e;cases e
 rw[zaj_ n2];exact ok.1.2.2.1 _ _ e
def frz1 (env:Env)(i:Nat):Env:=match env[i]? with |some (uC d)=>env.set i (uC d.vw)|_=>env
def frzE (env:Env)(is:List Nat):Env:=is.foldl frz1 env
theorem ziq_ {i:Nat}(hL:Hold (LofW K ws env) σ F h)(ok:Okk F0 H0 F h H):∃F' h',Hold (LofW K ws (frz1 env i)) σ F' h'/\Okk F0 H0 F' h' H:=by
 unfold frz1;split
 ·rename_i d hi
  obtain⟨o,k1,k2,e1,j,pp,f⟩:=Hold.atG hL (zbu_ hi);obtain⟨v,rfl,hv,od⟩:=zdU_ pp;obtain⟨o1,o2,o3,o4,o5⟩:=ok;have d1:DR K d v (un F k1):=OD.view zaa_ (zd5_ (dj_l o2 j)) od;refine⟨un F k1,k2,?_,⟨o1.1.trans zaa_,λp o e=>?_,o1.2.2.1,λp a b=>?_⟩,λp=>?_,j.r.trans o3,λp z=>?_,λp xs e=>o5 p xs (j.r _ _ e)⟩
  ·have:=f (slotW K (ws i) (uC d.vw)) (uC v) (un F k1) (λ_=>uD) k2 zaa_ (zcH_ hv (OD.vw (λ_=>rfl) d1)) λp=>.inl ⟨rfl,rfl⟩
   rw[zcQ_,zdb_ e1]at this;exact this
  ·unfold un at e
   cases z:F p with
   |some w=>rw[z]at e;cases e;exact o1.2.1 _ _ z
   |none=>rw[z]at e;exact o3 _ _ (j.l _ _ e)
  ·unfold un at b
   cases z:F p with
   |some w=>exact o1.2.2.2 p a (by rw[z];exact sN _)
   |none=>
    rw[z]at b;cases y:k1 p with
    |none=>exact absurd y b
    |some w=>exact o4 p (by rw[j.l _ _ y];exact sN _)
  ·unfold un
   cases z:F p with
   |some w=>
    rcases dj_r o2 j p with y |y
    ·rw[y]at z;cases z
    ·exact .inr y
   |none=>exact j.dj p
  ·cases y:k2 p with
   |none=>exact absurd y z
   |some w=>exact o4 p (by rw[j.r _ _ y];exact sN _)
 ·exact⟨F,h,hL,ok⟩
theorem zgR_:∀(is:List Nat) {env:Env}{F h:Hp},Hold (LofW K ws env) σ F h->Okk F0 H0 F h H->∃F' h',Hold (LofW K ws (frzE env is)) σ F' h'/\Okk F0 H0 F' h' H
 |[],env,F,h,hL,ok=>⟨F,h,hL,ok⟩
 |i::is,env,F,h,hL,ok=>by
  obtain⟨F1,h1,a,b⟩:=ziq_ (i:=i) hL ok;exact zgR_ is a b
theorem zis_ (env:Env)(i j:Nat):getE (frz1 env i) j=getE env j:=by
 unfold frz1;split
 ·rename_i d hi
  unfold getE;by_cases e:i=j
  ·subst e;rw[mS (lg.mp hi).1,hi];dsimp only;rw[vw_vw]
  ·rw[lD e]
 ·rfl
theorem zfP_:∀(is:List Nat) (env:Env) (j:Nat),getE (frzE env is) j=getE env j
 |[],_,_=>rfl
 |i::is,env,j=>(zfP_ is (frz1 env i) j).trans (zis_ env i j)
def coldE (env:Env):Env:=env.map λo=>o.bind λd=>if d.cold then uC d else uD
def Cold (env:Env)(i:Nat):Prop:=∀d,env[i]?=uC (uC d)->d.cold=uE
theorem zeR_ {env:Env}{i j:Nat}(h:i=j\/Cold env j):Cold (frz1 env i) j:=by
 unfold frz1;split
 ·rename_i d hi
  intro d' e;by_cases z:i=j
  ·subst z;rw[mS (lg.mp hi).1]at e;cases e;exact zna_ d
  ·rw[lD z]at e
   rcases h with h |h
   ·exact absurd h z
   ·exact h d' e
 ·rename_i hi
  rcases h with h |h
  ·subst h;exact λd e=>absurd e (hi d)
  ·exact h
theorem zf0_:∀(is:List Nat) {env:Env}{j:Nat},(j∈is\/Cold env j)->Cold (frzE env is) j
 |[],env,j,h=>by rcases h with h |h;exact absurd h (by simp);exact h
 |i::is,env,j,h=>zf0_ is (by
  rcases h with h |h
  ·rcases k9.mp h with h |h
   ·exact .inr (zeR_ (.inl h.symm))
   ·exact .inl h
  ·exact .inr (zeR_ (.inr h)))
theorem zgN_ {i:Nat}(h:Cold env i):getE (coldE env) i=getE env i:=by
 unfold getE coldE;rw[kH];cases z:env[i]? with
 |none=>rfl
 |some o=>
  cases o with
  |none=>rfl
  |some d=>
   have:=h d z;simp[this]
theorem zhm_ (hL:Hold (LofW K ws env) σ F h):HoldF (Lof K (coldE env)) σ F:=by
 intro i s e;unfold coldE at e;rw[kH,kH]at e;cases z:env[i]? with
 |none=>rw[z]at e;cases e
 |some o=>
  rw[z]at e;cases e;cases o with
  |none=>trivial
  |some d=>
   by_cases c:d.cold=uE
   ·simp only[Option.bind,c,if_true]
    obtain⟨o,k1,k2,e1,j,pp,f⟩:=Hold.atG hL (zbu_ z);obtain⟨v,rfl,hv,od⟩:=zdU_ pp;rw[e1];exact⟨v,rfl,(OD.cold c od).2⟩
   ·simp only[Option.bind,c]
    trivial
def FinE (K:lK)(r:Mr Env D)(E:XK)(ws:Ws)(σ:L2.St)(F0 H0:Hp)(Q:VK):Prop:=match r with
 |.ok d env=>∀v F hr h2 h H,Hold (LofW K ws env) σ F h2->OD K d v F hr->Jn hr h2 h->Okk F0 H0 F h H->Q v H
 |.ex c env=>∀F h H,Hold (LofW K ws env) σ F h->Okk F0 H0 F h H->Tell K E c H0 F H
 |.no=>False
def EvE (K:lK)(t:TE)(E:XK)(ws:Ws)(env:Env)(r:Mr Env D):Prop:=
 ∀F0 H0 σ F h H (Q:VK),Hold (LofW K ws env) σ F h->Okk F0 H0 F h H->FinE K r E ws σ F0 H0 Q->t σ H Q
def FinK (K:lK)(r:Mr Env D)(E:XK)(ws:Ws)(σ:L2.St)(F0 H0 Hs:Hp)(Q:VK):Prop:=match r with
 |.ok d env=>∀v F hr h2 h H,Hold (LofW K ws env) σ F h2->OD K d v F hr->Jn hr h2 h->Okk F0 H0 F h H->Same Hs H->Q v H
 |.ex c env=>∀F h H,Hold (LofW K ws env) σ F h->Okk F0 H0 F h H->Tell K E c H0 F H
 |.no=>False
def EvK (K:lK)(t:TE)(E:XK)(ws:Ws)(env:Env)(r:Mr Env D):Prop:=
 ∀F0 H0 σ F h H (Q:VK),Hold (LofW K ws env) σ F h->Okk F0 H0 F h H->FinK K r E ws σ F0 H0 H Q->t σ H Q
theorem EvK.e {r:Mr Env D}(h:EvK K t E ws env r):EvE K t E ws env r:=λF0 H0 σ F hh H Q hL ok fin=>h F0 H0 σ F hh H Q hL ok (by
 cases r with
 |no=>exact fin
 |ex c e=>exact fin
 |ok d e=>exact λv F hr h2 h H' a b c d _=>fin v F hr h2 h H' a b c d)
def stX (G:Gi)(env:Env)(x:X):Mr Env D:=match x.ev G env with
 |.ok d=>if d.new then .ok d env else .ok d (frzE env x.uses)
 |.ex c=>.ex c env
 |.no=>.no
theorem ek_x (g0:G.Ok K)(x:X):EvK K (x.den K G E) E ws env (stX G env x):=by
 intro F0 H0 σ F h H Q hL ok fin;unfold stX at fin;cases e:x.ev G env with
 |no=>rw[e]at fin;exact fin.elim
 |ex c=>
  rw[e]at fin;refine X.sound g0 x E env σ (un F h) H _ (zcu_ (hL.froz ok.2.1)) ok.thaw ?_;rw[e];exact λF' H' y=>(fin _ _ _ (hL.mono (ok.back y).2.1) (ok.back y).1).back ok y
 |ok d=>
  rw[e]at fin;have fin:FinK K (if d.new then .ok d env else .ok d (frzE env x.uses)) E ws σ F0 H0 H Q:=fin
  by_cases dn:d.new=uE
  ·rw[if_pos dn]at fin
   refine X.sound g0 x E env σ (un F h) H _ (zcu_ (hL.froz ok.2.1)) ok.thaw ?_;rw[e];intro F' H' y v hn fresh dj hs o;obtain⟨o1,hsF,ht⟩:=ok.back y;have j3:Dj (less F' h) hn:=λp=>by
    unfold less;cases z:h p with
    |none=>exact dj p
    |some w=>exact .inl rfl
   have dh:Dj hn h:=zld_ ok.2.2.1 fresh;refine fin v (less F' h) hn h (un hn h) H' (hL.mono hsF) (OD.newImm ht dn o) (zao_ dh) ⟨o1.1,λp=>?_,λp o e=>?_,λp z=>?_,λp xs z=>?_⟩ y.2.2.1
   ·unfold un
    cases z:hn p with
    |some w=>
     rcases j3 p with y |y
     ·exact .inl y
     ·rw[y]at z;cases z
    |none=>exact o1.2.1 p
   ·unfold un at e
    cases z:hn p with
    |some w=>rw[z]at e;cases e;exact hs _ _ z
    |none=>rw[z]at e;exact o1.2.2.1 _ _ e
   ·unfold un at z
    cases y:hn p with
    |some w=>exact ok.1.2.2.1.free (fresh p (by rw[y];exact sN _))
    |none=>rw[y]at z;exact ok.2.2.2.1 p z
   ·unfold un at z
    cases y:hn p with
    |some w=>rw[y]at z;cases z;exact OD.notup o p xs y
    |none=>rw[y]at z;exact ok.2.2.2.2 p xs z
  ·rw[if_neg dn]at fin
   obtain⟨F1,hh,aw,ax⟩:=zgR_ x.uses hL ok;have al:Alike x.uses (coldE (frzE env x.uses)) env:=λi hi=>(zgN_ (zf0_ x.uses (.inl hi))).trans (zfP_ _ _ _)
   refine X.sound g0 x E (coldE (frzE env x.uses)) σ F1 H _ (zhm_ aw) ax.1.2.1 ?_;rw[X.ev_uses x al,e];intro F' H' y v hn fresh dj hs o;have o1:=ax.cold y;have dh:Dj hn hh:=zld_ ax.2.2.1 fresh;refine fin v F' hn hh (un hn hh) H' (aw.mono y.1) o (zao_ dh) ⟨o1.1,λp=>?_,λp o e=>?_,λp z=>?_,λp xs z=>?_⟩ y.2.2.1
   ·unfold un
    cases z:hn p with
    |some w=>
     rcases dj p with y |y
     ·exact .inl y
     ·rw[y]at z;cases z
    |none=>exact o1.2.1 p
   ·unfold un at e
    cases z:hn p with
    |some w=>rw[z]at e;cases e;exact hs _ _ z
    |none=>rw[z]at e;exact o1.2.2.1 _ _ e
   ·unfold un at z
    cases y:hn p with
    |some w=>exact ax.1.2.2.1.free (fresh p (by rw[y];exact sN _))
    |none=>rw[y]at z;exact ax.2.2.2.1 p z
   ·unfold un at z
    cases y:hn p with
    |some w=>rw[y]at z;cases z;exact OD.notup o p xs y
    |none=>rw[y]at z;exact ax.2.2.2.2 p xs z
theorem ee_x (g0:G.Ok K)(x:X):EvE K (x.den K G E) E ws env (stX G env x):=(ek_x g0 x).e
end
noncomputable def apartL:List Nat->List Nat->Bool
 |j::js,i::is=>j != i ||apartL js is
 |_,_=>uF
theorem zv_ {k:Nd}{ds:List D}{j:Nat}{js:List Nat}{a c:D}(e:ds[j]?=uC c):(D.nd k ds).put (j::js) a=.nd k (ds.set j (c.put js a)):=by rw[D.put,e]
theorem zA_ {k:Nd}{ds:List D}{j:Nat}{js:List Nat}{a:D}(e:ds[j]?=uD):(D.nd k ds).put (j::js) a=.nd k ds:=by rw[D.put,e]
theorem zbw_ {d a:D}{js:List Nat}(h:∀k ds,d≠.nd k ds)(hj:js≠[]):d.put js a=d:=by
 cases js with
 |nil=>exact absurd rfl hj
 |cons j js=>cases d with |nd k ds=>exact absurd rfl (h k ds)|_=>simp[D.put]
theorem zjp_ {d:D}{js:List Nat}(h:∀k ds,d≠.nd k ds)(hj:js≠[]):d.at js=uD:=by
 cases js with
 |nil=>exact absurd rfl hj
 |cons j js=>cases d with |nd k ds=>exact absurd rfl (h k ds)|_=>simp[D.at]
theorem zol_ (d:D):(∃k ds,d=.nd k ds)\/∀k ds,d≠.nd k ds:=by
 cases d with
 |nd k ds=>exact .inl ⟨k,ds,rfl⟩
 |_=>exact .inr λk ds z=>by cases z
theorem zaP_ {α:Type}{l:List α}{j:Nat}{c x:α}(e:l[j]?=uC c):(l.set j x)[j]?=uC x:=mS (lg.mp e).1
theorem zjG_:∀(js:List Nat) (d a b:D),(d.put js a).put js b=d.put js b
 |[],d,a,b=>by rw[D.put,D.put]
 |j::js,d,a,b=>by
  rcases zol_ d with⟨k,ds,rfl⟩|h
  ·cases e:ds[j]? with
   |none=>rw[zA_ e,zA_ e]
   |some c=>rw[zv_ e,zv_ e,zv_ (zaP_ e),oY,zjG_ js c a b]
  ·rw[zbw_ h (by simp),zbw_ h (by simp)]
theorem zgg_:∀(js is:List Nat) (d a b:D),apartL js is=uE->(d.put js a).put is b=(d.put is b).put js a
 |[],_,_,_,_,h=>by cases h
 |_::_,[],_,_,_,h=>by cases h
 |j::js,i::is,d,a,b,h=>by
  rcases zol_ d with⟨k,ds,rfl⟩|hd
  ·by_cases ij:j=i
   ·subst ij
    cases e:ds[j]? with
    |none=>rw[zA_ e,zA_ e,zA_ e]
    |some c=>rw[zv_ e,zv_ e,zv_ (zaP_ e),zv_ (zaP_ e),oY,oY,zgg_ js is c a b (by simpa [apartL]using h)]
   ·cases e:ds[j]? with
    |none=>
     cases e2:ds[i]? with
     |none=>rw[zA_ e,zA_ e2,zA_ e]
     |some c2=>rw[zA_ e,zv_ e2,zA_ (by rw[lD (λz=>ij z.symm)];exact e)]
    |some c=>
     cases e2:ds[i]? with
     |none=>rw[zv_ e,zA_ e2,zv_ e,zA_ (by rw[lD ij];exact e2)]
     |some c2=>rw[zv_ e,zv_ e2,zv_ (by rw[lD ij];exact e2),zv_ (by rw[lD (λz=>ij z.symm)];exact e),sU _ _ ij]
  ·rw[zbw_ hd (by simp),zbw_ hd (by simp),zbw_ hd (by simp)]
theorem znz_:∀(js:List Nat) (d a x:D),d.at js=uC x->(d.put js a).at js=uC a
 |[],d,a,x,h=>by rw[D.put,D.at]
 |j::js,d,a,x,h=>by
  rcases zol_ d with⟨k,ds,rfl⟩|hd
  ·cases hk:k.own with
   |false=>rw[zbf_,hk]at h;cases h
   |true=>
    rw[zbf_,hk,cond_true]at h;obtain⟨c,e,h⟩:=kP.mp h;rw[zv_ e,zbf_,hk,cond_true,zaP_ e];exact znz_ js c a x h
  ·rw[zjp_ hd (by simp)]at h;cases h
theorem zhi_:∀(js is:List Nat) (d a:D),apartL js is=uE->(d.put js a).at is=d.at is
 |[],_,_,_,h=>by cases h
 |_::_,[],_,_,h=>by cases h
 |j::js,i::is,d,a,h=>by
  rcases zol_ d with⟨k,ds,rfl⟩|hd
  ·cases e:ds[j]? with
   |none=>rw[zA_ e]
   |some c=>
    rw[zv_ e,zbf_,zbf_];congr 1;by_cases ij:j=i
    ·subst ij
     rw[zaP_ e,e];exact zhi_ js is c a (by simpa [apartL]using h)
    ·rw[lD ij]
  ·rw[zbw_ hd (by simp)]
theorem zct_:∀{js is:List Nat},apartL js is=uE->apartL is js=uE
 |[],_,h=>by cases h
 |_::_,[],h=>by cases h
 |j::js,i::is,h=>by
  unfold apartL at h ⊢;rw[nO]at h ⊢;rcases h with h |h
  ·left;simpa [bne_iff_ne,ne_comm]using h
  ·right;exact zct_ h
noncomputable abbrev Pl:=Nat×List Nat
def apart (q q':Pl):Bool:=q.1 != q'.1 ||apartL q.2 q'.2
def atE (env:Env)(q:Pl):Option D:=match env[q.1]? with |some (uC d)=>d.at q.2 |_=>uD
def putE (env:Env)(q:Pl)(c:D):Env:=match env[q.1]? with |some (uC d)=>env.set q.1 (uC (d.put q.2 c))|_=>env
theorem zh_ {env:Env}{q:Pl}{c d:D}(e:env[q.1]?=uC (uC d)):putE env q c=env.set q.1 (uC (d.put q.2 c)):=by unfold putE;rw[e]
theorem z5_ {env:Env}{q:Pl}{c:D}(e:∀d,env[q.1]?≠uC (uC d)):putE env q c=env:=by
 unfold putE;split
 ·rename_i d z;exact absurd z (e d)
 ·rfl
theorem zfi_ (env:Env)(i:Nat):(∃d,env[i]?=uC (uC d))\/∀d,env[i]?≠uC (uC d):=by
 cases env[i]? with
 |none=>exact .inr λd z=>by cases z
 |some o=>cases o with |none=>exact .inr λd z=>by cases z |some d=>exact .inl ⟨d,rfl⟩
theorem ziC_ (env:Env)(q:Pl)(a b:D):putE (putE env q a) q b=putE env q b:=by
 rcases zfi_ env q.1 with⟨d,e⟩|e
 ·rw[zh_ e,zh_ e,zh_ (zaP_ e),oY,zjG_]
 ·rw[z5_ e]
theorem zfd_ {env:Env}{q:Pl}{c:D}{i:Nat}(h:q.1≠i):(putE env q c)[i]?=env[i]?:=by
 rcases zfi_ env q.1 with⟨d,e⟩|e
 ·rw[zh_ e,lD h]
 ·rw[z5_ e]
theorem zZ_ {env:Env}{q:Pl}{d:D}(e:env[q.1]?=uC (uC d)):atE env q=d.at q.2:=by unfold atE;rw[e]
theorem zeI_ {env:Env}{q q':Pl}{c:D}(h:apart q q'=uE):atE (putE env q c) q'=atE env q':=by
 unfold apart at h;by_cases e:q.1=q'.1
 ·have h:apartL q.2 q'.2=uE:=by simpa [e]using h
  rcases zfi_ env q.1 with⟨d,z⟩|z
  ·rw[zh_ z,zZ_ (d:=d.put q.2 c) (by rw[<- e];exact zaP_ z),zZ_ (d:=d) (by rw[<- e];exact z)]
   exact zhi_ _ _ d c h
  ·rw[z5_ z]
 ·unfold atE;rw[zfd_ e]
theorem zny_ {env:Env}{q:Pl}{a x:D}(h:atE env q=uC x):atE (putE env q a) q=uC a:=by
 rcases zfi_ env q.1 with⟨d,z⟩|z
 ·rw[zZ_ z]at h
  rw[zh_ z,zZ_ (d:=d.put q.2 a) (zaP_ z)];exact znz_ _ d a x h
 ·unfold atE at h
  split at h
  ·rename_i d e;exact absurd e (z d)
  ·cases h
theorem ziD_ {env:Env}{q q':Pl}{a b:D}(h:apart q q'=uE):putE (putE env q a) q' b=putE (putE env q' b) q a:=by
 unfold apart at h;by_cases e:q.1=q'.1
 ·have h:apartL q.2 q'.2=uE:=by simpa [e]using h
  rcases zfi_ env q.1 with⟨d,z⟩|z
  ·have z':env[q'.1]?=uC (uC d):=by rw[<- e];exact z
   rw[zh_ z,zh_ z',zh_ (d:=d.put q.2 a) (by rw[<- e];exact zaP_ z),zh_ (d:=d.put q'.2 b) (by rw[e];exact zaP_ z'),<- e,oY,oY,zgg_ _ _ d a b h]
  ·have z':∀d,env[q'.1]?≠uC (uC d):=by rw[<- e];exact z
   rw[z5_ z,z5_ z',z5_ z]
 ·rcases zfi_ env q.1 with⟨d,z⟩|z
  ·rcases zfi_ env q'.1 with⟨d2,z2⟩|z2
   ·rw[zh_ z,zh_ z2,zh_ (d:=d2) (by rw[lD e];exact z2),zh_ (d:=d) (by rw[lD (λy=>e y.symm)];exact z),sU _ _ e]
   ·rw[z5_ z2,zh_ z,z5_ (by rw[lD e];exact z2)]
  ·rcases zfi_ env q'.1 with⟨d2,z2⟩|z2
   ·rw[z5_ z,zh_ z2,z5_ (by rw[lD (λy=>e y.symm)];exact z)]
   ·rw[z5_ z,z5_ z2,z5_ z]
section
variable {K:l8}{E:XK}{F F' F1 F2 h k H H' H1 H2:Hp}{d c:D}{ds:List D}{v u:V}{us:List V}{p:kz}{Q:VK}{env:Env}{t:TE}{σ:L2.St}{G:Gi}{q:Pl}
inductive Pt where
 |v (i:Nat)|f (p:Pt) (n:Str)|s (p:Pt) (x:X)
def Pt.x:Pt->X
 |.v i=>.v i
 |.f p n=>.fld p.x n
 |.s p y=>.bin .ix p.x y
def kIx:List Key->Key->Nat
 |[],_=>0
 |k0::ks,k=>if k0=k then 0 else kIx ks k+1
def stepF (cs:List Str)(n:Str)(c:D):Option Nat:=match c with
 |.nd (.obj c ns) ds=>if c∈cs/\ns.idxOf n<ds.length then uC (ns.idxOf n)else uD
 |_=>uD
def stepS (c d:D):Option Nat:=match c with
 |.nd .lst ds=>(match d.un with |.int i=>(ixN ds.length i).bind λj=>if j<ds.length then uC j else uD |_=>uD)
 |.nd .tup ds=>(match d.un with |.int i=>(ixN ds.length i).bind λj=>if j<ds.length then uC j else uD |_=>uD)
 |.nd (.dct ks) ds=>(keyD d).bind λk=>if kIx ks k<ks.length/\ks.length=ds.length then uC (kIx ks k)else uD
 |_=>uD
def Pt.ev (G:Gi)(env:Env):Pt->Mo Pl
 |.v i=>if(atE env (i,[])).isSome then .ok (i,[])else .no
 |.f p n=>(p.ev G env).bind λq=>.opt ((atE env q).bind λc=>(stepF G.cs n c).map λj=>(q.1,q.2++[j]))
 |.s p x=>(p.ev G env).bind λq=>(x.ev G env).bind λd=>.opt ((atE env q).bind λc=>(stepS c d).map λj=>(q.1,q.2++[j]))
def EvPa (K:lK)(t:TE)(E:XK)(env:Env)(r:Mo Pl):Prop:=∀σ F H (Q:VK),HoldF (Lof K env) σ F->Same F H ->
 (match r with
  |.ok q=>∀F' H' v u c,Ext F H F' H'->σ[q.1]?=uC (uC v)->vAt H' v q.2=uC u->atE env q=uC c->DR K c u H'->Q u H'
  |.ex c=>∀F' H',Ext F H F' H'->Tell K E c H F' H'
  |.no=>False)->t σ H Q
theorem zgJ_:∀{ks:List Key}{us:List V}{k:Key}{w:V},us[kIx ks k]?=uC w->kIx ks k<ks.length->valV (ks.zip us) k=uC w
 |[],_,_,_,_,h=>by simp at h
 |k0::ks,[],k,w,h,_=>by simp at h
 |k0::ks,u::us,k,w,h,hl=>by
  unfold valV;rw[lM,mW];unfold kIx at h hl;by_cases e:k0=k
  ·rw[if_pos e]at h;simp at h;subst h
   rw[show decide ((k0,u).1=k)=uE from decide_eq_true e];rfl
  ·rw[if_neg e,nh]at h
   rw[if_neg e]at hl;rw[show decide ((k0,u).1=k)=uF from decide_eq_false e]
   exact zgJ_ h (by simpa using hl)
theorem zi8_ {k:Nd}{ds:List D}{j:Nat}{c:D}(hk:k.own=uE)(hc:ds[j]?=uC c):∀{js:List Nat}{d:D},d.at js=uC (.nd k ds)->d.at (js++[j])=uC c
 |[],d,h=>by rw[D.at]at h;cases h;rw[mB,zbf_,hk,cond_true,hc];show D.at _ []=_;rw[D.at]
 |i::js,d,h=>by
  rcases zol_ d with⟨k',ds',rfl⟩|hd
  ·rw[zbf_]at h
   cases bq:k'.own with
   |false=>rw[bq]at h;cases h
   |true=>
    rw[bq,cond_true]at h;obtain⟨c',e,h⟩:=kP.mp h;rw[mf,zbf_,bq,cond_true,e];exact zi8_ hk hc h
  ·rw[zjp_ hd (by simp)]at h;cases h
theorem zgA_ {env:Env}{q0:Pl}{k:Nd}{ds:List D}{j:Nat}{c:D}(hk:k.own=uE)(hc:ds[j]?=uC c)(h:atE env q0=uC (.nd k ds)):atE env (q0.1,q0.2++[j])=uC c:=by
 rcases zfi_ env q0.1 with⟨d,hd⟩|hd
 ·rw[zZ_ hd]at h
  rw[zZ_ (q:=(q0.1,q0.2++[j])) hd];exact zi8_ hk hc h
 ·unfold atE at h;split at h
  ·rename_i d z;exact absurd z (hd d)
  ·cases h
theorem hL_at {i:Nat}{d:D}(hL:HoldF (Lof K env) σ F)(hd:env[i]?=uC (uC d)):∃v,σ[i]?=uC (uC v)/\DR K d v F:=by
 obtain⟨v,ev,rv⟩:=hL i (slot K (uC d)) (by rw[kH,hd];rfl)
 refine⟨v,?_,rv⟩;cases z:σ[i]? with
 |none=>rw[z]at ev;cases ev
 |some o=>rw[z]at ev;cases(show o=uC v from ev);rfl
theorem Pt.sound (g0:G.Ok K):∀(p:Pt) (E:XK) (env:Env),EvPa K (p.x.den K G E) E env (p.ev G env)
 |.v i,E,env=>by
  intro σ F H Q hL hs q;unfold Pt.ev at q;rcases zfi_ env i with⟨d,hd⟩|hd
  ·have ha:atE env (i,[])=uC d:=by rw[zZ_ (q:=(i,[])) hd];show d.at []=_;rw[D.at]
   rw[ha]at q;obtain⟨v,hv,rv⟩:=hL_at hL hd;show mVar i σ H Q
   unfold mVar;rw[hv];exact q F H v v d (.refl hs) hv rfl ha (rv.mono hs)
  ·rw[show atE env (i,[])=uD from by
    unfold atE;split
    ·rename_i d z;exact absurd z (hd d)
    ·rfl]at q
   exact q.elim
 |.f p n,E,env=>by
  intro σ F H Q hL hs q;unfold Pt.ev at q;cases e:p.ev G env with
  |no=>rw[e]at q;exact q.elim
  |ex c=>
   rw[e]at q;cases hcs:G.cs with
   |nil=>exact absurd hcs g0.cs
   |cons c0 cs=>exact⟨c0,by rw[hcs];exact lA ..,Pt.sound g0 p E env σ F H _ hL hs (by rw[e];exact q)⟩
  |ok q0=>
   rw[e]at q;dsimp only[Mo.bind]at q;cases e1:atE env q0 with
   |none=>rw[e1]at q;exact q.elim
   |some c=>
    rw[e1]at q;cases e2:stepF G.cs n c with
    |none=>rw[show(Option.bind (uC c) λc=>(stepF G.cs n c).map λj=>(q0.1,q0.2++[j]))=uD from by simp[e2]]at q;exact q.elim
    |some j=>
     rw[show(Option.bind (uC c) λc=>(stepF G.cs n c).map λj=>(q0.1,q0.2++[j]))=uC (q0.1,q0.2++[j])from by simp[e2]]at q
     unfold stepF at e2;split at e2
     ·rename_i cn ns ds
      split at e2
      ·rename_i hz
       cases e2;refine⟨cn,hz.1,Pt.sound g0 p E env σ F H _ hL hs ?_⟩;rw[e];intro F1 H1 v u c' x1 hv hu hc hr;rw[e1]at hc;cases hc;obtain⟨p',us,rfl,nd,r⟩:=hr.nd;rcases r.get (ns.idxOf n)with⟨z,_⟩|⟨d',w,g4,g5,g6⟩
       ·rw[km hz.2]at z;cases z
       have iW:=nd;obtain⟨dx,g3,gl⟩:=nd;exact⟨dx,_,w,g3,zcV_ g5 gl,q F1 H1 v w d' x1 hv (zer_ rfl iW g5 hu) (zgA_ rfl g4 e1) g6⟩
      ·cases e2
     ·cases e2
 |.s p x,E,env=>by
  intro σ F H Q hL hs q;unfold Pt.ev at q;cases e:p.ev G env with
  |no=>rw[e]at q;exact q.elim
  |ex c=>rw[e]at q;exact Pt.sound g0 p E env σ F H _ hL hs (by rw[e];exact q)
  |ok q0=>
   rw[e]at q;refine Pt.sound g0 p E env σ F H _ hL hs ?_;rw[e];intro F1 H1 v u c x1 hv hu hc hr;dsimp only[Mo.bind]at q;cases ex:x.ev G env with
   |no=>rw[ex]at q;exact q.elim
   |ex c=>
    rw[ex]at q;refine X.sound g0 x E env σ F1 H1 _ (hL.mono x1.1) x1.2.1 ?_;rw[ex];exact λF2 H2 x2=>(q F2 H2 (x1.trans x2)).up x1.2.2.1
   |ok d0=>
    rw[ex]at q;dsimp only at q;rw[hc]at q;cases e2:stepS c d0 with
    |none=>rw[show(Option.bind (uC c) λc=>(stepS c d0).map λj=>(q0.1,q0.2++[j]))=uD from by simp[e2]]at q;exact q.elim
    |some j=>
     rw[show(Option.bind (uC c) λc=>(stepS c d0).map λj=>(q0.1,q0.2++[j]))=uC (q0.1,q0.2++[j])from by simp[e2]]at q
     refine ex_v (X.sound g0 x E env) σ F1 H1 _ (hL.mono x1.1) x1.2.1 ?_;rw[ex];intro F2 H2 x2 y hy;have cG:=DR.un hy;have cV:=hr.mono x2.2.2.1;have fin:∀{k:Nd}{ds:List D}{p':kz}{us:List V},k.own=uE->c=.nd k ds->u=.ref p'->NdR K k p' us H2->DRs K ds us H2->j<ds.length->∃w,us[j]?=uC w/\Q w H2:=λ{k ds p' us} hk ec eu nd r hj=>by
      subst ec;subst eu;rcases r.get j with⟨z,_⟩|⟨d',w,g4,g5,g6⟩
      ·rw[km hj]at z;cases z
      exact⟨w,g5,q F2 H2 v w d' (x1.trans x2) hv (zer_ hk nd g5 (zbT_ x2.2.2.1 hu)) (zgA_ hk g4 hc) g6⟩
     unfold stepS at e2;split at e2
     ·split at e2
      ·rename_i i ei
       rw[ei]at cG;cases cG.int;obtain⟨j',ej,e2⟩:=kP.mp e2;split at e2
       ·rename_i hj
        cases e2;obtain⟨p',us,rfl,nd,r⟩:=cV.nd;obtain⟨w,g5,fin⟩:=fin rfl rfl rfl nd r hj;refine .inl ⟨us,.inl (.of nd),?_⟩;rw[show atI us i=uC w from by unfold atI;rw[<- r.len,ej];exact g5];exact fin
       ·cases e2
      ·cases e2
     ·split at e2
      ·rename_i i ei
       rw[ei]at cG;cases cG.int;obtain⟨j',ej,e2⟩:=kP.mp e2;split at e2
       ·rename_i hj
        cases e2;obtain⟨p',us,rfl,nd,r⟩:=cV.nd;obtain⟨w,g5,fin⟩:=fin rfl rfl rfl nd r hj;refine .inl ⟨us,.inr (.of nd),?_⟩;rw[show atI us i=uC w from by unfold atI;rw[<- r.len,ej];exact g5];exact fin
       ·cases e2
      ·cases e2
     ·rename_i ks ds
      obtain⟨k,ek,e2⟩:=kP.mp e2;split at e2
      ·rename_i hz
       cases e2;obtain⟨p',us,rfl,nd,r⟩:=cV.nd;obtain⟨w,g5,fin⟩:=fin rfl rfl rfl nd r (by rw[<- hz.2];exact hz.1)
       exact .inr (zev_ rfl (zlo_ ek hy).1 nd.1 ⟨w,zgJ_ g5 hz.1,fin⟩)
      ·cases e2
     ·cases e2
end
def Mr.bind {s α β:Type}(m:Mr s α)(k:α->s->Mr s β):Mr s β:=match m with |.ok a t=>k a t |.ex c t=>.ex c t |.no=>.no
inductive A where
 |x (x:X)|l (p:Pt)
def A.t:A->X
 |.x y=>y
 |.l p=>p.x
inductive Ag where
 |d (d:D)|l (q:Pl)
def evG (G:Gi):Env->List A->Mr Env (List Ag)
 |env,[]=>.ok [] env
 |env,.x x::as=>(stX G env x).bind λd e=>(evG G e as).bind λgs e'=>.ok (.d d::gs) e'
 |env,.l p::as=>match p.ev G env with
  |.ok q=>(evG G env as).bind λgs e'=>.ok (.l q::gs) e'
  |.ex c=>.ex c env
  |.no=>.no
section
variable {K:l8}{E:XK}{F F' F0 F1 F2 H0 h h1 h2 H H' H1 H2:Hp}{d c:D}{ds:List D}{v u:V}{vs:List V}{p:kz}{Q:VK}{env:Env}{t:TE}{ws:Ws}{σ:L2.St}{G:Gi}{q:Pl}{ta:TA}{f:Fn}
def AgR (K:lK)(σ:L2.St)(F H:Hp):List Ag->List V->Hp->Prop
 |[],vs,h=>vs=[]/\∀p,h p=uD
 |.d d::gs,vs,h=>∃v ba h1 h2,vs=v::ba/\Jn h1 h2 h/\OD K d v F h1/\AgR K σ F H gs ba h2
 |.l q::gs,vs,h=>∃u v ba,vs=u::ba/\σ[q.1]?=uC (uC v)/\vAt H v q.2=uC u/\AgR K σ F H gs ba h
def FinG (K:lK)(r:Mr Env (List Ag))(E:XK)(ws:Ws)(σ:L2.St)(F0 H0 Hs:Hp)(Q:List V->Hp->Prop):Prop:=match r with
 |.ok gs env=>∀vs F hA hE h H,Hold (LofW K ws env) σ F hE->AgR K σ F H gs vs hA->Jn hA hE h->Okk F0 H0 F h H->Same Hs H->Q vs H
 |.ex c env=>∀F h H,Hold (LofW K ws env) σ F h->Okk F0 H0 F h H->Tell K E c H0 F H
 |.no=>False
def EvG (K:lK)(t:TA)(E:XK)(ws:Ws)(env:Env)(r:Mr Env (List Ag)):Prop:=
 ∀F0 H0 σ F h H (Q:List V->Hp->Prop),Hold (LofW K ws env) σ F h->Okk F0 H0 F h H->FinG K r E ws σ F0 H0 H Q->t σ H Q
theorem no_l (z:Hp)(hz:∀p,z p=uD):Jn z h h:=λp=>.inl ⟨hz p,rfl⟩
theorem zoD_ {a b c:Hp}(d1:Dj a b)(d2:Dj a c)(d3:Dj b c):Jn (un a b) c (un a (un b c)):=λp=>by
 unfold un;cases x:a p with
 |some o=>
  right;rcases d2 p with y |y
  ·rw[y]at x;cases x
  ·exact⟨y,rfl⟩
 |none=>
  cases y:b p with
  |some o=>
   right;rcases d3 p with z |z
   ·rw[z]at y;cases y
   ·exact⟨z,rfl⟩
  |none=>left;exact⟨rfl,rfl⟩
theorem zco_ (j:Jn h1 h2 h):h=un h1 h2:=funext λp=>by
 unfold un;rcases j p with⟨a,b⟩|⟨a,b⟩
 ·rw[a,b]
 ·rw[b]
  cases h1 p with
  |none=>exact a.symm
  |some o=>rfl
theorem zrr_:EvG K tNil E ws env (.ok [] env):=λF0 H0 σ F h H Q hL ok fin=>fin [] F (λ_=>uD) h h H hL ⟨rfl,λ_=>rfl⟩ (no_l _ λ_=>rfl) ok (Same.refl _)
theorem eg_x {r:Mr Env D}{g:Env->Mr Env (List Ag)}(he:EvK K t E ws env r)(hg:∀e,EvG K ta E ws e (g e)):EvG K (tCons t ta) E ws env (r.bind λd e=>(g e).bind λgs e'=>.ok (.d d::gs) e'):=by
 intro F0 H0 σ F h H Q hL ok fin;refine he F0 H0 σ F h H _ hL ok ?_;cases r with
 |no=>exact fin
 |ex c e=>exact fin
 |ok d e=>
  intro v F1 hr hE h' H1 aw od j ax iR;have o2:=zgd_ ax j;refine hg e F1 (less H1 hE) σ F1 hE H1 _ aw o2 ?_;dsimp only[Mr.bind]at fin;cases e2:g e with
  |no=>rw[e2]at fin;exact fin
  |ex c e'=>
   rw[e2]at fin;intro F2 h2 H2 bC az;obtain⟨s,dk,bg⟩:=zaH_ ax j az;refine zb2_ ax j (fin F2 (un hr h2) H2 (Hold.more bC (zao_ dk)) bg)
  |ok gs e'=>
   rw[e2]at fin;intro vs F2 hA eU h2 H2 bC ag j2 az fk;obtain⟨s,dk,bg⟩:=zaH_ ax j az;have eh:=zco_ j2;subst eh;have d1:Dj hr hA:=λp=>by rcases dk p with z |z;exact .inl z;exact .inr ((zao_ j2.dj).l.free z)
   have d2:Dj hr eU:=λp=>by rcases dk p with z |z;exact .inl z;exact .inr ((zao_ j2.dj).r.free z)
   exact fin (v::vs) F2 (un hr hA) eU _ H2 bC ⟨v,vs,hr,hA,rfl,zao_ d1,od.mono s,ag⟩ (zoD_ d1 d2 j2.dj) bg (iR.trans fk)
theorem eg_l (g0:G.Ok K){pt:Pt}{r:Mr Env (List Ag)}(hg:EvG K ta E ws env r):EvG K (tCons (pt.x.den K G E) ta) E ws env (match pt.ev G env with |.ok q=>r.bind λgs e'=>.ok (.l q::gs) e' |.ex c=>.ex c env |.no=>.no):=by
 intro F0 H0 σ F h H Q hL ok fin;refine Pt.sound g0 pt E env σ (un F h) H _ (zcu_ (hL.froz ok.2.1)) ok.thaw ?_;cases e:pt.ev G env with
 |no=>rw[e]at fin;exact fin
 |ex c=>
  rw[e]at fin;exact λF' H' y=>(fin _ _ _ (hL.mono (ok.back y).2.1) (ok.back y).1).back ok y
 |ok q=>
  rw[e]at fin;intro F1 H1 v u c x1 hv hu _ _;obtain⟨o1,hsF,ht⟩:=ok.back x1;refine hg F0 H0 σ _ h H1 _ (hL.mono hsF) o1 ?_;cases r with
  |no=>exact fin
  |ex c e'=>exact fin
  |ok gs e'=>exact λvs F2 hA eU h2 H2 bC ag j2 az fk=>fin (u::vs) F2 hA eU h2 H2 bC ⟨u,v,vs,rfl,hv,zbT_ fk hu,ag⟩ j2 az (x1.2.2.1.trans fk)
theorem zdN_ (g0:G.Ok K):∀(as:List A) (env:Env),EvG K (X.dens K G E (as.map A.t)) E ws env (evG G env as)
 |[],env=>zrr_
 |.x x::as,env=>eg_x (ek_x g0 x) λe=>zdN_ g0 as e
 |.l p::as,env=>eg_l g0 (zdN_ g0 as env)
def resolve (env:Env):List Ag->Option (List D)
 |[]=>uC []
 |.d d::gs=>(resolve env gs).map λds=>d::ds
 |.l q::gs=>(atE env q).bind λc=>(resolve env gs).map λds=>c::ds
def apartOf (q:Pl):List Ag->Bool
 |[]=>uE
 |.d _::gs=>apartOf q gs
 |.l q'::gs=>apart q q' && apartOf q gs
def apartAll:List Ag->Bool
 |[]=>uE
 |.d _::gs=>apartAll gs
 |.l q::gs=>apartOf q gs && apartAll gs
def restE (env:Env):List Ag->List D->Env
 |.d _::gs,_::ds=>restE env gs ds
 |.l q::gs,d::ds=>putE (restE env gs ds) q d
 |_,_=>env
theorem zbv_ {c:D}:∀{gs:List Ag},apartOf q gs=uE->resolve (putE env q c) gs=resolve env gs
 |[],_=>rfl
 |.d d::gs,h=>by unfold apartOf at h;unfold resolve;rw[zbv_ h]
 |.l q'::gs,h=>by
  unfold apartOf at h;obtain⟨h1,h2⟩:=lP.mp h;unfold resolve;rw[zbv_ h2,zeI_ h1]
theorem zej_ {c:D}:∀{gs:List Ag}{ds:List D},apartOf q gs=uE->restE (putE env q c) gs ds=putE (restE env gs ds) q c
 |[],_,_=>by unfold restE;rfl
 |.d d::gs,[],_=>by unfold restE;rfl
 |.l q'::gs,[],_=>by unfold restE;rfl
 |.d d::gs,_::ds,h=>by unfold apartOf at h;unfold restE;exact zej_ h
 |.l q'::gs,d::ds,h=>by
  unfold apartOf at h;obtain⟨h1,h2⟩:=lP.mp h;unfold restE;rw[zej_ h2,ziD_ h1]
theorem zgS_:∀{gs:List Ag}{ds:List D},apartOf q gs=uE->atE (restE env gs ds) q=atE env q
 |[],_,_=>by unfold restE;rfl
 |.d d::gs,[],_=>by unfold restE;rfl
 |.l q'::gs,[],_=>by unfold restE;rfl
 |.d d::gs,_::ds,h=>by unfold apartOf at h;unfold restE;exact zgS_ h
 |.l q'::gs,d::ds,h=>by
  unfold apartOf at h;obtain⟨h1,h2⟩:=lP.mp h;unfold restE;have h1':apart q' q=uE:=by
   unfold apart at h1 ⊢;rw[nO]at h1 ⊢;rcases h1 with h1 |h1
   ·left;simpa [bne_iff_ne,ne_comm]using h1
   ·right;exact zct_ h1
  rw[zeI_ h1',zgS_ h2]
theorem lend:∀{gs:List Ag}{env:Env}{ds:List D}{vs:List V}{hA hE h:Hp},resolve env gs=uC ds->apartAll gs=uE->AgR K σ F H gs vs hA->Hold (LofW K ws env) σ F hE->Jn hA hE h->Same F H->Same h H ->
  ∃hD hR,Jn hD hR h/\ODs K ds vs F hD/\ds.length=gs.length/\∀ds' F' dc h',Same F F'->ODs K ds' vs F' dc->Jn dc hR h'->Hold (LofW K ws (restE env gs ds')) σ F' h'
 |[],env,ds,vs,hA,hE,h,e,_,ag,hL,j,sF,sH=>by
  unfold resolve at e;cases e;obtain⟨rfl,n⟩:=ag;refine⟨hA,hE,j,by unfold ODs;exact⟨rfl,n⟩,rfl,λds' F' dc h' s os j'=>?_⟩
  unfold restE;exact Hold.more (hL.mono s) j'
 |.d d::gs,env,ds,vs,hA,hE,h,e,ap,ag,hL,j,sF,sH=>by
  unfold resolve at e;obtain⟨ds1,e1,rfl⟩:=kQ.mp e;obtain⟨v,ba,h1,h2,rfl,j1,od,ag⟩:=ag;obtain⟨m,jm,jh⟩:=zl_ j1 j;obtain⟨hD,hR,jd,os,ln,f⟩:=lend e1 (by unfold apartAll at ap;exact ap) ag hL jm sF (jh.r.trans sH)
  obtain⟨a,ja,jb⟩:=zl_ (zac_ jh |> λz=>z |> zac_) (show Jn h (λ_=>uD) h from λp=>.inr ⟨rfl,rfl⟩)
  have dd:Dj h1 hD:=λp=>by rcases jh.dj p with z |z;exact .inl z;exact .inr (jd.l.free z)
  have dr:Dj h1 hR:=λp=>by rcases jh.dj p with z |z;exact .inl z;exact .inr (jd.r.free z)
  refine⟨un h1 hD,hR,?_,by unfold ODs;exact⟨v,ba,h1,hD,rfl,zao_ dd,od,os⟩,by rw[kZ,kZ,ln],λds' F' dc h' s aM j'=>?_⟩
  ·have:=zoD_ dd dr jd.dj
   rw[<- zco_ jd,<- zco_ jh]at this;exact this
  ·cases ds' with
   |nil=>unfold ODs at aM;cases aM.1
   |cons d' ds'=>
    unfold ODs at aM;obtain⟨v',vs2,m1,m2,ee,jm2,_,aM⟩:=aM;cases ee;obtain⟨b,jb1,jb2⟩:=zl_ jm2 j';unfold restE;exact Hold.more (f ds' F' m2 b s aM jb1) jb2
 |.l q::gs,env,ds,vs,hA,hE,h,e,ap,ag,hL,j,sF,sH=>by
  unfold resolve at e;obtain⟨c,ec,e⟩:=kP.mp e;obtain⟨ds1,e1,rfl⟩:=kQ.mp e;obtain⟨u,v,ba,rfl,ev,vp,ag⟩:=ag;unfold apartAll at ap;obtain⟨gV,ap2⟩:=lP.mp ap;rcases zfi_ env q.1 with⟨d0,hd⟩|hd
  rotate_left
  ·unfold atE at ec;split at ec
   ·rename_i d z;exact absurd z (hd d)
   ·cases ec
  have hc:d0.at q.2=uC c:=by rw[<- zZ_ hd];exact ec
  obtain⟨v',u',k1,k2,ev',vp',jk,oc,g⟩:=zcd_ hL hd hc;rw[ev]at ev';cases ev';have jO:Same hE H:=j.r.trans sH;have eu:u'=u:=lI ((vp' H sF jO).symm.trans vp);subst eu;have hp:putE env q (.pin u')=env.set q.1 (uC (d0.put q.2 (.pin u'))):=zh_ hd;have aw:Hold (LofW K ws (putE env q (.pin u'))) σ F k2:=by
   rw[hp];exact g (.pin u') F (λ_=>uD) k2 (Same.refl _) (by unfold OD;exact⟨λ_=>rfl,by unfold DR;rfl⟩) (no_l _ λ_=>rfl)
  obtain⟨m,jm,jh⟩:=zl_ jk (zac_ j);have jA:Jn hA k2 m:=zac_ jm;obtain⟨hD,hR,jd,os,ln,f⟩:=lend (gs:=gs) (env:=putE env q (.pin u')) (by rw[zbv_ gV];exact e1) ap2 ag aw jA sF (jh.r.trans sH)
  have dd:Dj k1 hD:=λp=>by rcases jh.dj p with z |z;exact .inl z;exact .inr (jd.l.free z)
  have dr:Dj k1 hR:=λp=>by rcases jh.dj p with z |z;exact .inl z;exact .inr (jd.r.free z)
  refine⟨un k1 hD,hR,?_,by unfold ODs;exact⟨u',ba,k1,hD,rfl,zao_ dd,oc,os⟩,by rw[kZ,kZ,ln],λds' F' dc h' s aM j'=>?_⟩
  ·have:=zoD_ dd dr jd.dj
   rw[<- zco_ jd,<- zco_ jh]at this;exact this
  ·cases ds' with
   |nil=>unfold ODs at aM;cases aM.1
   |cons d' ds'=>
    unfold ODs at aM;obtain⟨w,vs2,m1,m2,ee,jm2,fT,aM⟩:=aM;cases ee;obtain⟨b,jb1,jb2⟩:=zl_ jm2 j';have h2:=f ds' F' m2 b s aM jb1;have ea:atE (restE (putE env q (.pin u')) gs ds') q=uC (.pin u'):=by rw[zgS_ gV];exact zny_ ec
    rcases zfi_ (restE (putE env q (.pin u')) gs ds') q.1 with⟨d2,hd2⟩|hd2
    rotate_left
    ·unfold atE at ea;split at ea
     ·rename_i d z;exact absurd z (hd2 d)
     ·cases ea
    have a8:d2.at q.2=uC (.pin u'):=by rw[<- zZ_ hd2];exact ea
    obtain⟨v3,u3,n1,n2,_,_,jn,on,g2⟩:=zcd_ h2 hd2 a8;unfold OD at on;obtain⟨nn,on⟩:=on;unfold DR at on;subst on;have en:b=n2:=by rw[zco_ jn];funext p;unfold un;rw[nn p]
    subst en;have:=g2 d' F' m1 h' (Same.refl _) fT jb2;unfold restE;rw[show putE (restE env gs ds') q d'=putE (restE (putE env q (.pin u3)) gs ds') q d' from by rw[zej_ gV,ziC_],zh_ hd2]
    exact this
def callG (f:Fn)(gs:List Ag)(env:Env):Mr Env D:=match resolve env gs with
 | some ds=>if apartAll gs then(match f ds with
   |.ok d ds'=>.ok d (restE env gs ds')
   |.ex c ds'=>.ex c (restE env gs ds')
   |.no=>.no)else .no
 |none=>.no
def CtX (K:lK)(f:Fn)(ds:List D)(vs:List V)(H:Hp)(Q:VK)(E:XK):Prop:=∃F h,Same F H/\Dj F h/\Same h H/\ODs K ds vs F h/\FinC K (f ds) E F (less H h) vs Q
theorem CtX.g {ds:List D}(h:CtX K f ds vs H Q E):CtG K f vs H Q E:=by obtain⟨F,h,a⟩:=h;exact⟨F,h,ds,a⟩
theorem zgT_ {gs:List Ag}{hA hE:Hp}(hL:Hold (LofW K ws env) σ F hE)(ag:AgR K σ F H gs vs hA)(j:Jn hA hE h)(ok:Okk F0 H0 F h H)(fin:FinE K (callG f gs env) E ws σ F0 H0 Q):∃ds,resolve env gs=uC ds/\CtX K f ds vs H Q E:=by
 unfold callG at fin;cases er:resolve env gs with
 |none=>rw[er]at fin;exact fin.elim
 |some ds=>
  rw[er]at fin;dsimp only at fin;by_cases ap:apartAll gs=uE
  rotate_left
  ·rw[if_neg ap]at fin;exact fin.elim
  rw[if_pos ap]at fin;obtain⟨hD,hR,jd,os,ln,g⟩:=lend er ap ag hL j ok.1.2.1 ok.2.2.1;have fY:=zac_ jd;refine⟨ds,rfl,F,hD,ok.1.2.1,dj_l ok.2.1 jd,jd.l.trans ok.2.2.1,os,?_⟩;cases ef:f ds with
  |no=>rw[ef]at fin;exact fin
  |ex c ds'=>
   rw[ef]at fin;intro F2 h2 H2 az os2;obtain⟨s,dk,bg⟩:=zaH_ ok fY az;exact zb2_ ok fY (fin F2 (un hR h2) H2 (g ds' F2 h2 _ s os2 (zac_ (zao_ dk))) bg)
  |ok d ds'=>
   rw[ef]at fin;intro v F2 h2 H2 hr hm az j2 od os2;obtain⟨s,dk,bg⟩:=zaH_ ok fY az;have d1:Dj hR hr:=λp=>by rcases dk p with z |z;exact .inl z;exact .inr (j2.l.free z)
   have d2:Dj hR hm:=λp=>by rcases dk p with z |z;exact .inl z;exact .inr (j2.r.free z)
   have dm:Dj hm hR:=λp=>(d2 p).symm
   refine fin v F2 hr (un hm hR) (un hR h2) H2 (g ds' F2 hm _ s os2 (zao_ dm)) od ?_ bg;rw[zco_ j2];intro p;unfold un;cases x:hr p with
   |some o=>
    right;rcases j2.dj p with z |z
    ·rw[z]at x;cases x
    ·rcases d1 p with y |y
     ·rw[z,y];exact⟨rfl,rfl⟩
     ·rw[y]at x;cases x
   |none=>
    left;refine⟨rfl,?_⟩;cases y:hR p with
    |some o=>
     rcases d2 p with z |z
     ·rw[z]at y;cases y
     ·rw[z]
    |none=>cases hm p<;>rfl
theorem zc0_ {gs:List Ag}{hA hE:Hp}(hL:Hold (LofW K ws env) σ F hE)(ag:AgR K σ F H gs vs hA)(j:Jn hA hE h)(ok:Okk F0 H0 F h H)(fin:FinE K (callG f gs env) E ws σ F0 H0 Q):CtG K f vs H Q E:=by
 obtain⟨ds,_,c⟩:=zgT_ hL ag j ok fin;exact c.g
theorem zn0_ {r:Mr Env (List Ag)}(hg:EvG K ta E ws env r):EvE K (tCall (CtG K f) [] E ta) E ws env (r.bind (callG f)):=by
 intro F0 H0 σ F h H Q hL ok fin;refine hg F0 H0 σ F h H _ hL ok ?_;cases r with
 |no=>exact fin
 |ex c e=>exact fin
 |ok gs e=>
  intro vs F1 hA hE h1 H1 aw ag j ax _;rw[nL];exact zc0_ aw ag j ax fin
end
inductive Fl where
 |nx |rt (d:D)|ct |bk
section
variable {K:l8}{E:XK}{F F' F0 F1 F2 H0 h h1 h2 H H' H1 H2:Hp}{d c:D}{ds:List D}{v u:V}{vs:List V}{p:kz}{env:Env}{t:TE}{ws:Ws}{σ:L2.St}{q:Pl}{ta:TA}{f:Fn}{s s1 s2:TS}{i:Nat}
def FinS (K:lK)(r:Mr Env Fl)(E:XK)(ws:Ws)(F0 H0:Hp)(N:Ends):Prop:=match r with
 |.ok .nx env=>∀σ F h H,Hold (LofW K ws env) σ F h->Okk F0 H0 F h H->N.nx σ H
 |.ok .ct env=>∀σ F h H,Hold (LofW K ws env) σ F h->Okk F0 H0 F h H->N.ct σ H
 |.ok .bk env=>∀σ F h H,Hold (LofW K ws env) σ F h->Okk F0 H0 F h H->N.bk σ H
 |.ok (.rt d) env=>∀v σ F hr h2 h H,Hold (LofW K ws env) σ F h2->OD K d v F hr->Jn hr h2 h->Okk F0 H0 F h H->N.rt v H
 |.ex c env=>∀σ F h H,Hold (LofW K ws env) σ F h->Okk F0 H0 F h H->Tell K E c H0 F H
 |.no=>False
def EvS (K:lK)(t:TS)(E:XK)(ws:Ws)(env:Env)(r:Mr Env Fl):Prop:=
 ∀F0 H0 σ F h H (N:Ends),Hold (LofW K ws env) σ F h->Okk F0 H0 F h H->FinS K r E ws F0 H0 N->t N σ H
theorem zjf_:EvS K tNext E ws env (.ok .nx env):=λF0 H0 σ F h H N hL ok fin=>fin σ F h H hL ok
theorem zmR_:EvS K tCont E ws env (.ok .ct env):=λF0 H0 σ F h H N hL ok fin=>fin σ F h H hL ok
def seqM (r:Mr Env Fl)(g:Env->Mr Env Fl):Mr Env Fl:=r.bind λo e=>match o with |.nx=>g e |_=>.ok o e
theorem zlr_ {r:Mr Env Fl}{g:Env->Mr Env Fl}(dZ:EvS K s1 E ws env r)(aQ:∀e,EvS K s2 E ws e (g e)):EvS K (tSeq s1 s2) E ws env (seqM r g):=by
 intro F0 H0 σ F h H N hL ok fin;refine dZ F0 H0 σ F h H {N with nx:=s2 N} hL ok ?_;cases r with
 |no=>exact fin
 |ex c e=>exact fin
 |ok o e=>
  cases o with
  |nx=>exact λσ F h H hL ok=>aQ e F0 H0 σ F h H N hL ok fin
  |rt d=>exact fin
  |ct=>exact fin
  |bk=>exact fin
theorem zgz_ {hr hE:Hp}(hw:ws i=uD)(hi:i<env.length)(hL:Hold (LofW K ws env) σ F hE)(od:OD K d v F hr)(j:Jn hr hE h):Hold (LofW K ws (env.set i (uC d))) (σ.set i (uC v)) F h:=by
 obtain⟨o,k1,k2,e1,jk,pp,g⟩:=Hold.atG hL (zbu_ (km hi));have d1:Dj hr k2:=λp=>by rcases j.dj p with z |z;exact .inl z;exact .inr (jk.r.free z)
 have:=g (slotW K (ws i) (uC d)) (uC v) F hr (un hr k2) (Same.refl _) (zcH_ (λu z=>by rw[hw]at z;cases z) od) (zao_ d1)
 rw[zcQ_]at this;refine Hold.more this (g:=k1) ?_;rw[zco_ j,zco_ jk];intro p;unfold un;cases x:hr p with
 |some o=>
  left;refine⟨?_,rfl⟩;rcases j.dj p with z |z
  ·rw[z]at x;cases x
  ·exact jk.l.free z
 |none=>
  cases y:k1 p with
  |some o=>
   right;refine⟨?_,rfl⟩;rcases jk.dj p with z |z
   ·rw[z]at y;cases y
   ·exact z
  |none=>left;exact⟨rfl,rfl⟩
def asgM (pn:Nat->Bool)(i:Nat)(r:Mr Env D):Mr Env Fl:=r.bind λd e=>if pn i=uF/\i<e.length then .ok .nx (e.set i (uC d))else .no
theorem zpP_ {pn:Nat->Bool}{r:Mr Env D}(hp:∀i,pn i=uF->ws i=uD)(he:EvE K t E ws env r):EvS K (tAsg t (gName i)) E ws env (asgM pn i r):=by
 intro F0 H0 σ F h H N hL ok fin;refine he F0 H0 σ F h H _ hL ok ?_;cases r with
 |no=>exact fin
 |ex c e=>exact λF h H hL ok=>fin σ F h H hL ok
 |ok d e=>
  have fin:FinS K (if pn i=uF/\i<e.length then .ok .nx (e.set i (uC d))else .no) E ws F0 H0 N:=fin
  split at fin
  ·rename_i z
   exact λv F1 hr hE h1 H1 aw od j ax=>fin _ F1 h1 H1 (zgz_ (hp i z.1) z.2 aw od j) ax
  ·exact fin.elim
def dropM (r:Mr Env D):Mr Env Fl:=r.bind λ_ e=>.ok .nx e
theorem zod_ {r:Mr Env D}(he:EvE K t E ws env r):EvS K (tDrop t) E ws env (dropM r):=by
 intro F0 H0 σ F h H N hL ok fin;refine he F0 H0 σ F h H _ hL ok ?_;cases r with
 |no=>exact fin
 |ex c e=>exact λF h H hL ok=>fin σ F h H hL ok
 |ok d e=>exact λv F1 hr hE h1 H1 aw od j ax=>fin σ F1 h1 H1 (Hold.more aw j) ax
def retM (r:Mr Env D):Mr Env Fl:=r.bind λd e=>.ok (.rt d) e
theorem zpz_ {r:Mr Env D}(he:EvE K t E ws env r):EvS K (tRet t) E ws env (retM r):=by
 intro F0 H0 σ F h H N hL ok fin;refine he F0 H0 σ F h H _ hL ok ?_;cases r with
 |no=>exact fin
 |ex c e=>exact λF h H hL ok=>fin σ F h H hL ok
 |ok d e=>exact λv F1 hr hE h1 H1 aw od j ax=>fin v σ F1 hr hE h1 H1 aw od j ax
theorem znr_:EvS K tRetN E ws env (.ok (.rt .non) env):=λF0 H0 σ F h H N hL ok fin=>
 fin .non σ F (λ_=>uD) h h H hL (by unfold OD;exact⟨λ_=>rfl,by unfold DR;rfl⟩) (no_l _ λ_=>rfl) ok
def ifM (env:Env)(b:Mo Bool)(r1 r2:Mr Env Fl):Mr Env Fl:=match b with
 |.ok c=>if c then r1 else r2
 |.ex c=>.ex c env
 |.no=>.no
theorem es_if {tt:TT}{b:Mo Bool}{r1 r2:Mr Env Fl}(hc:EvT K tt E (Lof K env) b)(dZ:EvS K s1 E ws env r1)(aQ:EvS K s2 E ws env r2):EvS K (mIfS tt s1 s2) E ws env (ifM env b r1 r2):=by
 intro F0 H0 σ F h H N hL ok fin;refine hc σ (un F h) H _ (zcu_ (hL.froz ok.2.1)) ok.thaw ?_;cases b with
 |no=>exact fin
 |ex c=>exact λF' H' y=>(fin σ _ _ _ (hL.mono (ok.back y).2.1) (ok.back y).1).back ok y
 |ok c=>
  intro F' H' y;obtain⟨o,hsF,ht⟩:=ok.back y;refine⟨λz=>?_,λz=>?_⟩
  ·subst z;exact dZ F0 H0 σ _ h H' N (hL.mono hsF) o fin
  ·subst z;exact aQ F0 H0 σ _ h H' N (hL.mono hsF) o fin
def forM (step:Env->List D->Mr Env Fl):List (List D)->Env->Mr Env Fl
 |[],e=>.ok .nx e
 |x::xs,e=>(step e x).bind λo e'=>match o with |.nx=>forM step xs e' |.ct=>forM step xs e' |.bk=>.ok .nx e' |.rt d=>.ok (.rt d) e'
def setG (pn:Nat->Bool):Env->List Nat->List D->Option Env
 |e,i::is,d::ds=>if pn i=uF/\i<e.length then setG pn (e.set i (uC d.vw)) is ds else uD
 |e,[],[]=>uC e
 |_,_,_=>uD
theorem ze4_ {pn:Nat->Bool}(hp:∀i,pn i=uF->ws i=uD):∀{is:List Nat}{ds:List D}{env e:Env}{σ:L2.St}{vs:List (Nat×Option V)},setG pn env is ds=uC e->Plain F (ssT K is ds) vs->Hold (LofW K ws env) σ F h->Hold (LofW K ws e) (setS σ vs) F h
 |[],[],env,e,σ,vs,z,pl,hL=>by unfold setG at z;cases z;cases pl;exact hL
 |i::is,d::ds,env,e,σ,vs,z,pl,hL=>by
  unfold setG at z;split at z
  ·rename_i y
   cases pl with
   |cons hv pl=>
    refine ze4_ hp (is:=is) (ds:=ds) (σ:=σ.set i (uC _)) z pl ?_;exact zgz_ (hp i y.1) y.2 hL (OD.vw (h:=λ_=>uD) (λ_=>rfl) hv) (no_l _ λ_=>rfl)
  ·cases z
 |[],_::_,_,_,_,_,z,_,_=>by unfold setG at z;cases z
 |_::_,[],_,_,_,_,z,_,_=>by unfold setG at z;cases z
theorem zjB_ {hr hE:Hp}(od:ODs K ds vs F hr)(j:Jn hr hE h)(ok:Okk F0 H0 F h H):DRs K ds vs (un F hr)/\Same F (un F hr)/\Okk F0 H0 (un F hr) hE H:=by
 obtain⟨o1,o2,o3,o4,o5⟩:=ok;refine⟨OD.view.go zaa_ (zd5_ (dj_l o2 j)) od,zaa_,⟨o1.1.trans zaa_,λp o e=>?_,o1.2.2.1,λp a b=>?_⟩,λp=>?_,j.r.trans o3,λp z=>?_,λp xs e=>o5 p xs (j.r _ _ e)⟩
 ·unfold un at e
  cases z:F p with
  |some w=>rw[z]at e;cases e;exact o1.2.1 _ _ z
  |none=>rw[z]at e;exact o3 _ _ (j.l _ _ e)
 ·unfold un at b
  cases z:F p with
  |some w=>exact o1.2.2.2 p a (by rw[z];exact sN _)
  |none=>
   rw[z]at b;cases y:hr p with
   |none=>exact absurd y b
   |some w=>exact o4 p (by rw[j.l _ _ y];exact sN _)
 ·unfold un
  cases z:F p with
  |some w=>
   rcases dj_r o2 j p with y |y
   ·rw[y]at z;cases z
   ·exact .inr y
  |none=>exact j.dj p
 ·cases y:hE p with
  |none=>exact absurd y z
  |some w=>exact o4 p (by rw[j.r _ _ y];exact sN _)
noncomputable def dsOf:List Ag->Option (List D)
 |[]=>uC []
 |.d d::gs=>(dsOf gs).map λds=>d::ds
 |.l _::_=>uD
theorem ag_ds:∀{gs:List Ag}{ds:List D}{vs:List V}{h:Hp},dsOf gs=uC ds->AgR K σ F H gs vs h->ODs K ds vs F h
 |[],_,_,_,e,r=>by unfold dsOf at e;cases e;unfold ODs;exact r
 |.d d::gs,_,_,_,e,q_=>by
  obtain⟨v,ba,h1,h2,e1,j,o,r⟩:=q_;unfold dsOf at e;obtain⟨ds,e2,rfl⟩:=kQ.mp e;unfold ODs;exact⟨v,ba,h1,h2,e1,j,o,ag_ds e2 r⟩
 |.l _::_,_,_,_,e,_=>by unfold dsOf at e;cases e
def forS (pn:Nat->Bool)(ik:Ik)(g:Tg)(r:Mr Env (List Ag))(body:Env->Mr Env Fl):Mr Env Fl:=r.bind λgs e=>match dsOf gs with
 |some ds=>(match ik.f ds with
  |.ok items=>(match tgsD g items with
   |some xs=>forM (λe x=>match setG pn e g.is x with |some e'=>body e' |none=>.no) xs e
   |none=>.no)
  |_=>.no)
 |none=>.no
theorem zqd_ {pn:Nat->Bool}{ik:Ik}{g:Tg}{r:Mr Env (List Ag)}{body:Env->Mr Env Fl}(hp:∀i,pn i=uF->ws i=uD)(hg:EvG K ta E ws env r)(hb:∀e,EvS K s E ws e (body e)):EvS K (tFor (ik.t K ta) (tgT K g) s) E ws env (forS pn ik g r body):=by
 intro F0 H0 σ F h H N hL ok fin;refine hg F0 H0 σ F h H _ hL ok ?_;cases r with
 |no=>exact fin
 |ex c e=>exact λF h H hL ok=>fin σ F h H hL ok
 |ok gs e=>
  intro vs F1 hA hE h1 H1 aw ag j ax _
  have fin:FinS K (match dsOf gs with
   |some ds=>(match ik.f ds with
    |.ok items=>(match tgsD g items with
     |some xs=>forM (λe x=>match setG pn e g.is x with |some e'=>body e' |none=>.no) xs e
     |none=>.no)
    |_=>.no)
   |none=>.no) E ws F0 H0 N:=fin
  cases e1:dsOf gs with
  |none=>rw[e1]at fin;exact fin.elim
  |some ds=>
   rw[e1]at fin;dsimp only at fin;obtain⟨dr,sF,az⟩:=zjB_ (ag_ds e1 ag) j ax;cases e2:ik.f ds with
   |no=>rw[e2]at fin;exact fin.elim
   |ex c=>rw[e2]at fin;exact fin.elim
   |ok items=>
    rw[e2]at fin;dsimp only at fin;cases e3:tgsD g items with
    |none=>rw[e3]at fin;exact fin.elim
    |some xs=>
     rw[e3]at fin;dsimp only at fin;refine ik_w (E:=E) ik ds vs σ (un F1 hA) H1 _ az.1.2.1 dr ?_;rw[e2];intro F2 H2 x2 J Y;have bg:=az.cold x2;obtain⟨l,gx⟩:=zeq_ e3;have xx:Ext F0 H0 F2 H2:=bg.1
     refine⟨λn m σ H=>m=xs.length-n/\n<=xs.length/\∃e F h,Hold (LofW K ws e) σ F h/\Okk F2 H0 F h H/\FinS K (forM (λe x=>match setG pn e g.is x with |some e'=>body e' |none=>.no) (xs.drop n) e) E ws F0 H0 N,
      ⟨_,rfl,l5 _,e,F2,hE,aw.mono (sF.trans x2.1),bg.rebase xx (Same.refl _),fin⟩,?_⟩
     rintro n m σ H ⟨rfl,hn,e,F,h,hL,ok,fin⟩;have s1:Same F2 H:=ok.1.1.trans ok.1.2.1;by_cases aA:n<xs.length
     ·right
      obtain⟨d,hd,td⟩:=gx n xs[n] (km aA);obtain⟨g1,g2⟩:=Y.go n H d s1 hd;refine⟨g1,λai H'=>n+1<=xs.length/\∃e F h,Hold (LofW K ws e) ai F h/\Okk F2 H0 F h H'/\FinS K (forM (λe x=>match setG pn e g.is x with |some e'=>body e' |none=>.no) (xs.drop (n+1)) e) E ws F0 H0 N,λai H' z=>⟨xs.length-(n+1),by lia,rfl,z⟩,λv H3 hy=>?_⟩
      obtain⟨F3,x3,hv⟩:=g2 v H3 hy F ok.1.1 ok.1.2.1;refine tg_R g xs[n] v σ F3 H3 _ x3.2.1 (tgD_R td hv) λvs pl=>?_
      rw[oJ aA]at fin;unfold forM at fin;cases es:setG pn e g.is xs[n]with
      |none=>rw[es]at fin;exact fin.elim
      |some e'=>
       rw[es]at fin;refine hb e' F2 H0 _ F3 h H3 _ (ze4_ hp es pl (hL.mono x3.1)) (ok.cold x3) ?_;dsimp only[Mr.bind]at fin;cases eb:body e' with
       |no=>rw[eb]at fin;exact fin
       |ex c e2=>rw[eb]at fin;exact λσ F h H hL ok=>fin σ F h H hL (ok.unbase xx)
       |ok o e2=>
        rw[eb]at fin;cases o with
        |nx=>exact λai F' h' H' eS bL=>⟨aA,e2,F',h',eS,bL,fin⟩
        |ct=>exact λai F' h' H' eS bL=>⟨aA,e2,F',h',eS,bL,fin⟩
        |bk=>exact λai F' h' H' eS bL=>fin ai F' h' H' eS (bL.unbase xx)
        |rt a=>exact λv σ F hr h2 h H a1 a2 a3 ok=>fin v σ F hr h2 h H a1 a2 a3 (ok.unbase xx)
     ·left
      have en:n=xs.length:=by lia
      subst en;rw[p6]at fin;exact⟨by rw[l];exact Y.stop H s1,fin σ F h H hL (ok.unbase xx)⟩
theorem zik_:∀{gs:List Ag}{vs:List V}{h:Hp},AgR K σ F H gs vs h->vs.length=gs.length
 |[],_,_,r=>by rw[r.1];rfl
 |.d d::gs,_,_,r=>by obtain⟨v,ba,h1,h2,e,j,o,r⟩:=r;rw[e,kZ,kZ,zik_ r]
 |.l q::gs,_,_,r=>by obtain⟨u,v,ba,e,e1,f,r⟩:=r;rw[e,kZ,kZ,zik_ r]
variable {h3 k:Hp}{us:List V}{Q:VK}{G:Gi}
theorem ODs.snoc:∀{ds:List D}{us:List V}{h1 h:Hp},ODs K ds us F h1->OD K d v F h2->Jn h1 h2 h->ODs K (ds++[d]) (us++[v]) F h
 |[],_,h1,h,q,o,j=>by
  unfold ODs at q;rw[q.1,mB,mB];have:h=h2:=by rw[zco_ j];funext p;unfold un;rw[q.2 p]
  subst this;unfold ODs;exact⟨v,[],h,λ_=>uD,rfl,no_r _ λ_=>rfl,o,by unfold ODs;exact⟨rfl,λ_=>rfl⟩⟩
 |e::es,_,h1,h,q,o,j=>by
  unfold ODs at q;obtain⟨w,ws,k1,k2,rfl,jk,a,r⟩:=q;obtain⟨m,jm,jh⟩:=zl_ jk j;rw[mf,mf];unfold ODs;exact⟨w,ws++[v],k1,m,rfl,jh,a,ODs.snoc r o jm⟩
theorem ODs.app:∀{ds es:List D}{us ws:List V}{h1 h2 h:Hp},ODs K ds us F h1->ODs K es ws F h2->Jn h1 h2 h->ODs K (ds++es) (us++ws) F h
 |[],es,_,ws,h1,h2,h,q,o,j=>by
  unfold ODs at q;rw[q.1,mB,mB];have:h=h2:=by rw[zco_ j];funext p;unfold un;rw[q.2 p]
  subst this;exact o
 |e::ds,es,_,ws,h1,h2,h,q,o,j=>by
  unfold ODs at q;obtain⟨w,ws',k1,k2,rfl,jk,a,r⟩:=q;obtain⟨m,jm,jh⟩:=zl_ jk j;rw[mf,mf];unfold ODs;exact⟨w,ws'++ws,k1,m,rfl,jh,a,ODs.app r o jm⟩
theorem zea_ {o o':HO}{hc ha k:Hp}{ds':List D}(hs:Same F H)(dj:Dj F h)(sh:Same h H)(nt:∀p xs,h p≠uC (.tup xs))(jh:Jn (one p o) k h)(n':∀xs,o'≠.tup xs){d:D}{v:V}{hr h2:Hp}(jk:Jn hr h2 (un (one p o') k))
  (od:OD K d v F hr) (os:ODs K ds' vs F h2) (fin:∀v F' h' H' hr h2,Okk F (less H h) F' h' H'->Jn hr h2 h'->OD K d v F' hr->ODs K ds' vs F' h2->Q v H'):Q v (upd H p o'):=by
 have ok:=zbx_ hs dj sh nt;have hp:h p≠uD:=by rw[jh.l _ _ zq_];exact sN _
 have bL:=zgQ_ (h1':=h) (hr:=h) (h':=h) ok hp n' (un (one p o') k) λq=>by
  unfold un;rw[zb_];by_cases e:q=p
  ·rw[if_pos e,if_pos e]
  ·rw[if_neg e,if_neg e]
   rcases jh q with⟨_,b⟩|⟨a,b⟩
   ·exact b.symm
   ·rw[a,b,zb_,if_neg e]
 exact fin v F _ _ hr h2 bL jk od os
def BmOk (K:lK)(r:V->List V->Hp->VK->Prop)(f:Fn):Prop:=∀x xs H Q E,CtG K f (x::xs) H Q E->r x xs H Q
def appendF:Fn:=λds=>match ds with
 |[.nd .lst xs,d]=>if xs.length<kR then .ok .non [.nd .lst (xs++[d]),.gone]else .no
 |_=>.no
theorem zfC_ (os:ODs K ds vs F h):∀p xs,h p≠uC (.tup xs):=OD.notup.go os
theorem zaN_ {h:Hp}(hn:∀p,h p=uD):OD K .gone v F h:=by unfold OD;exact⟨hn,by unfold DR;trivial⟩
theorem zcK_ {h:Hp}(hn:∀p,h p=uD):OD K .non .non F h:=by unfold OD;exact⟨hn,by unfold DR;rfl⟩
theorem ziI_:BmOk K rAppend appendF:=by
 rintro x xs H Q E ⟨F,h,ds,hs,dj,sh,os,fin⟩;have nt:=zfC_ os;unfold appendF at fin;split at fin
 ·rename_i ys d
  split at fin
  ·rename_i hl
   unfold ODs at os;obtain⟨w,ws,m1,m2,e1,jm,o1,os⟩:=os;cases e1;unfold ODs at os;obtain⟨y,ws2,n1,n2,e2,jn,o2,os⟩:=os;cases e2;unfold ODs at os;obtain⟨rfl,nn⟩:=os;unfold OD at o1;obtain⟨p,us,h0,hc,rfl,cl,jc,oc⟩:=o1;have e0:h0=one p (.lst us):=cl;subst e0;have em:m2=n1:=by rw[zco_ jn];funext q;unfold un;cases z:n1 q with |none=>exact nn q |some o=>rfl
   subst em;obtain⟨a,ja,jb⟩:=zl_ jc jm;have hp:H p=uC (.lst us):=sh _ _ (jb.l _ _ zq_);refine⟨p,us,y,rfl,rfl,hp,by rw[<- ODs.len oc];exact hl,?_⟩
   have d1:Dj (one p (.lst (us++[y]))) a:=λq=>by
    rw[zb_];split
    ·rename_i e;subst e;right;exact(by rcases jb.dj q with z |z;rw[zq_]at z;cases z;exact z)
    ·exact .inl rfl
   refine zea_ (vs:=[.ref p,y]) (ds':=[.nd .lst (ys++[d]),.gone]) (hr:=λ_=>uD) (h2:=un (one p (.lst (us++[y]))) a) (hc:=h) (ha:=h) hs dj sh nt jb (λxs z=>by cases z) (no_l _ λ_=>rfl) (zcK_ λ_=>rfl) ?_ fin
   unfold ODs;refine⟨.ref p,[y],_,λ_=>uD,rfl,no_r _ λ_=>rfl,?_,?_⟩
   ·unfold OD
    exact⟨p,us++[y],_,a,rfl,rfl,zao_ d1,ODs.snoc oc o2 ja⟩
   ·unfold ODs
    exact⟨y,[],λ_=>uD,λ_=>uD,rfl,no_r _ λ_=>rfl,zaN_ λ_=>rfl,by unfold ODs;exact⟨rfl,λ_=>rfl⟩⟩
  ·exact fin.elim
 ·exact fin.elim
theorem recv1 {k:Nd}{ys args:List D}{x:V}{xs:List V}(os:ODs K (.nd k ys::args) (x::xs) F h):∃p us h0 hc ha a,x=.ref p/\Cell K k p us F h0/\Jn h0 a h/\Jn hc ha a/\ODs K ys us F hc/\ODs K args xs F ha:=by
 unfold ODs at os;obtain⟨w,ws,m1,m2,e1,jm,o1,os⟩:=os;cases e1;unfold OD at o1;obtain⟨p,us,h0,hc,rfl,cl,jc,oc⟩:=o1;obtain⟨a,ja,jb⟩:=zl_ jc jm;exact⟨p,us,h0,hc,m2,a,rfl,cl,jb,ja,oc,os⟩
theorem zfg_ {o o':HO}{a:Hp}(jb:Jn (one p o) a h):Dj (one p o') a:=λq=>by
 rw[zb_];split
 ·rename_i e;subst e;right;rcases jb.dj q with z |z
  ·rw[zq_]at z;cases z
  ·exact z
 ·exact .inl rfl
theorem recv2 {cj cK:List D}{bF:List V}{xs:List V}{a b aC:Hp}(d1:Dj (one p (.lst bF)) a)(jc:Jn aC b a)(oc:ODs K cj bF F aC)(oa:ODs K cK xs F b):ODs K (.nd .lst cj::cK) (.ref p::xs) F (un (one p (.lst bF)) a):=by
 have d2:Dj (one p (.lst bF)) aC:=λq=>by rcases d1 q with z |z;exact .inl z;exact .inr (jc.l.free z)
 have d3:Dj (one p (.lst bF)) b:=λq=>by rcases d1 q with z |z;exact .inl z;exact .inr (jc.r.free z)
 unfold ODs;refine⟨.ref p,xs,un (one p (.lst bF)) aC,b,rfl,?_,?_,oa⟩
 ·have:=zoD_ d2 d3 jc.dj
  rw[<- zco_ jc]at this;exact this
 ·unfold OD
  exact⟨p,bF,_,aC,rfl,rfl,zao_ d2,oc⟩
theorem zhN_ {y:V}:ODs K [.gone] [y] F (λ_=>uD):=by
 unfold ODs;exact⟨y,[],λ_=>uD,λ_=>uD,rfl,no_r _ λ_=>rfl,zaN_ λ_=>rfl,by unfold ODs;exact⟨rfl,λ_=>rfl⟩⟩
theorem ze3_:∀{ds:List D}{us:List V},ds.length=us.length->ODs K (ds.map λ_=>.gone) us F (λ_=>uD)
 |[],[],_=>by rw[nu];unfold ODs;exact⟨rfl,λ_=>rfl⟩
 |d::ds,u::us,l=>by rw[kF];unfold ODs;exact⟨u,us,λ_=>uD,λ_=>uD,rfl,no_r _ λ_=>rfl,zaN_ λ_=>rfl,ze3_ (by simpa using l)⟩
 |[],_::_,l=>by simp at l
 |_::_,[],l=>by simp at l
theorem zcJ_:ODs K [] [] F (λ_=>uD):=by unfold ODs;exact⟨rfl,λ_=>rfl⟩
theorem zeL_ {y:V}(h1:ODs K [d] [y] F h):OD K d y F h:=by
 unfold ODs at h1;obtain⟨v,vs,m1,m2,e,j,o,r⟩:=h1;cases e;unfold ODs at r;have:h=m1:=by rw[zco_ j];funext q;unfold un;cases z:m1 q with |none=>exact r.2 q |some o=>rfl
 rw[this];exact o
theorem zgK_ {xs:List V}(h1:ODs K [d] xs F h):∃y,xs=[y]:=mT.mp (ODs.len h1).symm
theorem len2_ {l:List V}(h:l.length=2):∃a b,l=[a,b]:=by
 obtain⟨a,t,rfl⟩:=l4 h;obtain⟨b,rfl⟩:=mT.mp (mK h);exact⟨a,b,rfl⟩
theorem len3_ {l:List V}(h:l.length=3):∃a b c,l=[a,b,c]:=by
 obtain⟨a,t,rfl⟩:=l4 h;obtain⟨b,c,rfl⟩:=len2_ (mK h);exact⟨a,b,c,rfl⟩
def extendF:Fn:=λds=>match ds with
 |[.nd .lst xs,.nd .lst ys]=>if xs.length+ys.length<=kR then .ok .non [.nd .lst (xs++ys),.nd .lst (ys.map λ_=>.gone)]else .no
 |[.nd .lst xs,.fz d]=>(match d.un with |.nd .lst ys=>if xs.length+ys.length<=kR then .ok .non [.nd .lst (xs++ys.map .vw),.gone]else .no |_=>.no)
 |_=>.no
theorem zit_:BmOk K rExtend extendF:=by
 rintro x xs H Q E ⟨F,h,ds,hs,dj,sh,os,fin⟩;have nt:=zfC_ os;unfold extendF at fin;split at fin
 ·rename_i ys zs
  split at fin
  ·rename_i hl
   obtain⟨p,us,h0,hc,ha,a,rfl,cl,jb,ja,oc,oa⟩:=recv1 os;have e0:h0=one p (.lst us):=cl;subst e0;obtain⟨y,rfl⟩:=zgK_ oa;have o2:=zeL_ oa;unfold OD at o2;obtain⟨p2,us2,h2,a8,rfl,cl2,jc2,dw⟩:=o2;have e2:h2=one p2 (.lst us2):=cl2;subst e2;have hp:H p=uC (.lst us):=sh _ _ (jb.l _ _ zq_);have bo:H p2=uC (.lst us2):=sh _ _ (jb.r _ _ (ja.r _ _ (jc2.l _ _ zq_)));refine⟨p,p2,us,us2,rfl,rfl,hp,bo,by rw[<- ODs.len oc,<- ODs.len dw];exact hl,?_⟩
   obtain⟨m,jm,jh⟩:=zl_ (zac_ jc2) (zac_ ja);obtain⟨m3,jm3,jh3⟩:=zl_ jm (zac_ jh);have iU:=ODs.app oc dw jm3;have jg:Jn m3 (one p2 (.lst us2)) a:=zac_ jh3;refine zea_ (vs:=[.ref p,.ref p2]) (ds':=[.nd .lst (ys++zs),.nd .lst (zs.map λ_=>.gone)]) (hr:=λ_=>uD) (h2:=un (one p (.lst (us++us2))) a) (hc:=h) (ha:=h) hs dj sh nt jb (λxs z=>by cases z) (no_l _ λ_=>rfl) (zcK_ λ_=>rfl) (recv2 (zfg_ jb) jg iU ?_) fin
   unfold ODs;refine⟨.ref p2,[],_,λ_=>uD,rfl,no_r _ λ_=>rfl,?_,zcJ_⟩
   unfold OD;exact⟨p2,us2,_,λ_=>uD,rfl,rfl,no_r _ λ_=>rfl,ze3_ (ODs.len dw)⟩
  ·exact fin.elim
 ·rename_i ys d
  split at fin
  ·rename_i zs e
   split at fin
   ·rename_i hl
    obtain⟨p,us,h0,hc,ha,a,rfl,cl,jb,ja,oc,oa⟩:=recv1 os;have e0:h0=one p (.lst us):=cl;subst e0;obtain⟨y,rfl⟩:=zgK_ oa;have o2:=zeL_ oa;unfold OD at o2;obtain⟨n2,r2⟩:=o2;have r2:=DR.un r2;rw[show(D.fz d).un=d.un from by rw[D.un],e]at r2
    obtain⟨p2,us2,rfl,n,r⟩:=r2.nd;have hp:H p=uC (.lst us):=sh _ _ (jb.l _ _ zq_);refine⟨p,p2,us,us2,rfl,rfl,hp,hs _ _ n,by rw[<- ODs.len oc,<- r.len];exact hl,?_⟩
    have ea:a=hc:=by rw[zco_ ja];funext q;unfold un;cases z:hc q with |none=>exact n2 q |some o=>rfl
    subst ea;exact zea_ (vs:=[.ref p,.ref p2]) (ds':=[.nd .lst (ys++zs.map D.vw),.gone]) (hr:=λ_=>uD) (h2:=un (one p (.lst (us++us2))) a) (hc:=h) (ha:=h) hs dj sh nt jb (λxs z=>by cases z) (no_l _ λ_=>rfl) (zcK_ λ_=>rfl) (recv2 (zfg_ jb) (no_r _ λ_=>rfl) (ODs.app oc (ODs.vw (h:=λ_=>uD) (λ_=>rfl) r) (no_r _ λ_=>rfl)) zhN_) fin
   ·exact fin.elim
  ·exact fin.elim
 ·exact fin.elim
theorem recvV {v0 d0:D}{args:List D}{x y:V}{xs:List V}(os:ODs K (v0::d0::args) (x::y::xs) F h):∃h1 h2 h3 a,Jn h1 a h/\Jn h2 h3 a/\OD K v0 x F h1/\OD K d0 y F h2/\ODs K args xs F h3:=by
 unfold ODs at os;obtain⟨w,ws,m1,m2,e1,jm,o1,os⟩:=os;cases e1;unfold ODs at os;obtain⟨w2,ws2,n1,n2,e2,jn,o2,os⟩:=os;cases e2;exact⟨m1,n1,n2,m2,jm,jn,o1,o2,os⟩
def rSetD:TSet:=λo i v H Q=>atD o i H λa kvs k=>kvs.length<kR/\Q (upd H a (.dK (putK kvs k v)))
def rSetA:TSet:=λo i v H Q=>mSet o i v H Q\/rSetD o i v H Q
theorem set_A {X:Cx}(hu:X.A.units+60<cLine):PSet X rSetA:=by
 intro pins s σ H o i v ov iv u Q I ro ri rv h;rcases h with h |h
 ·exact set_M pins s σ H o i v ov iv u Q I ro ri rv h
 ·obtain⟨a,kvs,k,rfl,rfl,hd,hl,q⟩:=zhn_ h
  cases ro;exact ziK_ (by lia) I (DPut.k hd hl) ri rv λs4 I4=>⟨_,I4,q⟩
def setIF:Fn:=λds=>match ds with
 |[v,.nd .lst xs,.int i]=>(match ixN xs.length i with |some j=>.ok .non [.gone,.nd .lst (xs.set j v),.int i]|none=>.no)
 |[v,.nd (.dct ks) xs,k]=>(match keyD k with
  |some k'=>if kIx ks k'<ks.length/\xs.length<kR then .ok .non [.gone,.nd (.dct ks) (xs.set (kIx ks k') v),k]else if xs.length<kR/\¬kIx ks k'<ks.length then .ok .non [.gone,.nd (.dct (ks++[k'])) (xs++[v]),k]else .no
  |none=>.no)
 |_=>.no
theorem ze2_ {o o':HO}{k m:Hp}{ds':List D}(hs:Same F H)(dj:Dj F h)(sh:Same h H)(nt:∀p xs,h p≠uC (.tup xs))(jh:Jn (one p o) k h)(n':∀xs,o'≠.tup xs)(sm:Same m (un (one p o') k)){d:D}{v:V}{hr h2:Hp}(jk:Jn hr h2 m)
  (od:OD K d v F hr) (os:ODs K ds' vs F h2) (fin:∀v F' h' H' hr h2,Okk F (less H h) F' h' H'->Jn hr h2 h'->OD K d v F' hr->ODs K ds' vs F' h2->Q v H'):Q v (upd H p o'):=by
 have ok:=zbx_ hs dj sh nt;have hp:h p≠uD:=by rw[jh.l _ _ zq_];exact sN _
 have bL:=zgQ_ (h1':=h) (hr:=h) (h':=h) ok hp n' (un (one p o') k) λq=>by
  unfold un;rw[zb_];by_cases e:q=p
  ·rw[if_pos e,if_pos e]
  ·rw[if_neg e,if_neg e]
   rcases jh q with⟨_,b⟩|⟨a,b⟩
   ·exact b.symm
   ·rw[a,b,zb_,if_neg e]
 exact fin v F _ _ hr h2 (zdt_ bL sm) jk od os
theorem zeB_:∀{ks:List Key}{k:Key},kIx ks k<ks.length↔k∈ks
 |[],k=>by simp[kIx]
 |k0::ks,k=>by
  unfold kIx;by_cases e:k0=k
  ·subst e;simp
  ·rw[if_neg e,kZ,Nat.succ_lt_succ_iff,zeB_,k9]
   exact⟨.inr,λz=>by rcases z with z |z;exact absurd z.symm e;exact z⟩
theorem zmu_:∀{ks:List Key}{us:List V}{k:Key}{v:V},k∈ks->ks.Nodup->ks.length=us.length->putK (ks.zip us) k v=ks.zip (us.set (kIx ks k) v):=λ{ks us k v} hk nd hl=>by
 have ha:((ks.zip us).any λkv=>decide (kv.1=k))=uE:=by
  rw[qa];obtain⟨i,hi,e⟩:=pG hk;exact⟨(ks[i],us[i]'(by lia)),mN (i:=i) (by rw[oI];exact⟨by rw[km hi],by rw[km]⟩),by simpa using e⟩
 unfold putK;rw[if_pos ha];clear ha;induction ks generalizing us with
 |nil=>simp at hk
 |cons k0 ks ih=>
  cases us with
  |nil=>simp at hl
  |cons u us=>
   obtain⟨n1,n2⟩:=ot.mp nd;rw[lM,kF];unfold kIx;by_cases e:k0=k
   ·subst e
    rw[if_pos rfl,if_pos rfl,oq,lM];congr 1;have:∀q∈ks.zip us,(if q.1=k0 then(q.1,v)else q)=q:=λq hq=>by
     have h1:=(nM (a:=q.1) (b:=q.2) hq).1;rw[if_neg (show¬q.1=k0 from λz=>n1 (z ▸ h1))]
    exact(nq this).trans (rW _)
   ·rw[if_neg e,if_neg e,oS,lM]
    congr 1;exact ih (by rcases k9.mp hk with z |z;exact absurd z.symm e;exact z) n2 (by simpa using hl)
theorem zg1_ {ks:List Key}{us:List V}{k:Key}{v:V}(hk:k∉ks)(hl:ks.length=us.length):putK (ks.zip us) k v=(ks++[k]).zip (us++[v]):=by
 have ha:¬((ks.zip us).any λkv=>decide (kv.1=k))=uE:=by
  rw[qa];rintro⟨q,hq,e⟩;exact hk (by have:=(nM hq).1;simp at e;rw[<- e];exact this)
 unfold putK;rw[if_neg ha,List.zip_append hl];rfl
theorem zkF_ {k:Nd}{ys:List D}(o:OD K (.nd k ys) v F h):∃p us h0 hc,v=.ref p/\Cell K k p us F h0/\Jn h0 hc h/\ODs K ys us F hc:=by unfold OD at o;exact o
theorem ods3 {a b c:D}{x y z:V}{h1 h2 h3 m:Hp}(o1:OD K a x F h1)(o2:OD K b y F h2)(o3:OD K c z F h3)(j1:Jn h2 h3 m)(j2:Jn h1 m h):ODs K [a,b,c] [x,y,z] F h:=by
 unfold ODs;refine⟨x,[y,z],h1,m,rfl,j2,o1,?_⟩;unfold ODs;refine⟨y,[z],h2,h3,rfl,j1,o2,?_⟩;unfold ODs;exact⟨z,[],h3,λ_=>uD,rfl,no_r _ λ_=>rfl,o3,zcJ_⟩
theorem zoJ_ {x o i:V}{QQ:Hp->Prop}(h0:CtG K setIF [x,o,i] H (λv H'=>v=.non->QQ H') E):rSetA o i x H QQ:=by
 obtain⟨F,h,ds,hs,dj,sh,os,fin⟩:=h0;have nt:=zfC_ os;unfold setIF at fin;split at fin
 ·rename_i v0 ys j0
  obtain⟨h1,h2,h3,a,ja,jb,ov,orr,oi⟩:=recvV os;have oi:=zeL_ oi;unfold OD at oi;obtain⟨n3,r3⟩:=oi;cases r3.int;obtain⟨p,us,c0,hc,rfl,cl,jc,oc⟩:=zkF_ orr;have e0:c0=one p (.lst us):=cl;subst e0;have ea:a=h2:=by rw[zco_ jb];funext q;unfold un;cases z:h2 q with |none=>exact n3 q |some o=>rfl
  subst ea;cases ej:ixN ys.length j0 with
  |none=>rw[ej]at fin;exact fin.elim
  |some j=>
   rw[ej]at fin;dsimp only at fin;have gz:=(zfF_ ej).2.1;obtain⟨u,k1,k2,eu,jk,ow,g⟩:=ODs.focus oc (km gz);obtain⟨m,jm,jh⟩:=zl_ jc (zac_ ja);have d1:Dj h1 hc:=λq=>(jm.dj q).symm
   have d2:Dj h1 k2:=λq=>by rcases d1 q with z |z;exact .inl z;exact .inr (jk.r.free z)
   have on:=g v0 F x h1 (un h1 k2) (Same.refl _) ov (zao_ d2);have hp:H p=uC (.lst us):=sh _ _ (jh.l _ _ zq_);have sm:Same (un h1 k2) m:=λq o e=>by
    unfold un at e;cases z:h1 q with
    |some w=>rw[z]at e;cases e;exact jm.r _ _ z
    |none=>rw[z]at e;exact jm.l _ _ (jk.r _ _ e)
   have dp:Dj (one p (.lst (us.set j x))) (un h1 k2):=λq=>by
    rcases zfg_ (o':=.lst (us.set j x)) jh q with z |z
    ·exact .inl z
    ·exact .inr (sm.free z)
   refine .inl ⟨us,hp,?_⟩;rw[<- ODs.len oc,ej];refine ze2_ (vs:=[x,.ref p,.int j0]) (m:=un (one p (.lst (us.set j x))) (un h1 k2)) (d:=.non) (v:=.non) (Q:=λv H'=>v=.non->QQ H') (hr:=λ_=>uD) hs dj sh nt jh (λxs z=>by cases z) (λq o e=>?_) (no_l _ λ_=>rfl) (zcK_ λ_=>rfl) (ods3 (zaN_ λ_=>rfl) ?_ (by unfold OD;exact⟨λ_=>rfl,by unfold DR;rfl⟩) (no_r _ λ_=>rfl) (no_l _ λ_=>rfl)) fin rfl
   ·unfold un at e ⊢
    cases z:one p (.lst (us.set j x)) q with
    |some w=>rw[z]at e;exact e
    |none=>rw[z]at e;exact sm _ _ e
   ·unfold OD
    exact⟨p,us.set j x,_,un h1 k2,rfl,rfl,zao_ dp,on⟩
 ·rename_i v0 ks ys key
  obtain⟨h1,h2,h3,a,ja,jb,ov,orr,oi⟩:=recvV os;have oi:=zeL_ oi;obtain⟨p,us,c0,hc,rfl,cl,jc,oc⟩:=zkF_ orr;obtain⟨e0,el,nd⟩:=cl;subst e0;cases ek:keyD key with
  |none=>rw[ek]at fin;exact fin.elim
  |some k'=>
   rw[ek]at fin;dsimp only at fin;have ck:(∀q,h3 q=uD)/\DR K key i F:=by
    have:∀{d:D}{k:Key},keyD d=uC k->d.cold=uE:=λ{d}=>by
     cases d with
     |nd=>intro k e;cases e
     |_=>intro k e;rfl
    exact OD.cold (this ek) oi
   obtain⟨n3,r3⟩:=ck;have kv:=zlo_ ek r3;have ea:a=h2:=by rw[zco_ jb];funext q;unfold un;cases z:h2 q with |none=>exact n3 q |some o=>rfl
   subst ea;obtain⟨m,jm,jh⟩:=zl_ jc (zac_ ja);have hp:H p=uC (.dK (ks.zip us)):=sh _ _ (jh.l _ _ zq_);have d1:Dj h1 hc:=λq=>(jm.dj q).symm
   split at fin
   ·rename_i eB
    obtain⟨hk,c6⟩:=eB;have hj:kIx ks k'<ys.length:=by rw[ODs.len oc,<- el];exact hk
    obtain⟨u,k1,k2,eu,jk,ow,g⟩:=ODs.focus oc (km hj);have d2:Dj h1 k2:=λq=>by rcases d1 q with z |z;exact .inl z;exact .inr (jk.r.free z)
    have on:=g v0 F x h1 (un h1 k2) (Same.refl _) ov (zao_ d2);have sm:Same (un h1 k2) m:=λq o e=>by
     unfold un at e;cases z:h1 q with
     |some w=>rw[z]at e;cases e;exact jm.r _ _ z
     |none=>rw[z]at e;exact jm.l _ _ (jk.r _ _ e)
    have dp:Dj (one p (.dK (ks.zip (us.set (kIx ks k') x)))) (un h1 k2):=λq=>by
     rcases zfg_ (o':=.dK (ks.zip (us.set (kIx ks k') x))) jh q with z |z
     ·exact .inl z
     ·exact .inr (sm.free z)
    refine .inr (zev_ rfl kv.1 hp ⟨?_,?_⟩)
    ·rw[mn,el,nU,<- ODs.len oc];exact c6
    ·rw[zmu_ (zeB_.mp hk) nd el]
     refine ze2_ (vs:=[x,.ref p,i]) (m:=un (one p (.dK (ks.zip (us.set (kIx ks k') x)))) (un h1 k2)) (d:=.non) (v:=.non) (Q:=λv H'=>v=.non->QQ H') (hr:=λ_=>uD) hs dj sh nt jh (λxs z=>by cases z) (λq o e=>?_) (no_l _ λ_=>rfl) (zcK_ λ_=>rfl) (ods3 (zaN_ λ_=>rfl) ?_ oi (λq=>.inr ⟨n3 q,rfl⟩) (no_l _ λ_=>rfl)) fin rfl
     ·unfold un at e ⊢
      cases z:one p (.dK (ks.zip (us.set (kIx ks k') x))) q with
      |some w=>rw[z]at e;exact e
      |none=>rw[z]at e;exact sm _ _ e
     ·unfold OD
      exact⟨p,us.set (kIx ks k') x,_,un h1 k2,rfl,⟨rfl,by rw[mM];exact el,nd⟩,zao_ dp,on⟩
   ·split at fin
    ·rename_i c6
     obtain⟨hl,hk⟩:=c6;have bq:k'∉ks:=λz=>hk (zeB_.mpr z)
     refine .inr (zev_ rfl kv.1 hp ⟨by rw[mn,el,nU,<- ODs.len oc];exact hl,?_⟩)
     rw[zg1_ bq el];have on:=ODs.snoc oc ov jm;have dp:=zfg_ (o':=.dK ((ks++[k']).zip (us++[x]))) jh;refine ze2_ (vs:=[x,.ref p,i]) (m:=un (one p (.dK ((ks++[k']).zip (us++[x])))) m) (d:=.non) (v:=.non) (Q:=λv H'=>v=.non->QQ H') (hr:=λ_=>uD) hs dj sh nt jh (λxs z=>by cases z) (Same.refl _) (no_l _ λ_=>rfl) (zcK_ λ_=>rfl) (ods3 (zaN_ λ_=>rfl) ?_ oi (λq=>.inr ⟨n3 q,rfl⟩) (no_l _ λ_=>rfl)) fin rfl
     unfold OD;exact⟨p,us++[x],_,m,rfl,⟨rfl,by simp[el],pT.mpr ⟨nd,by simp,by rintro a ha b hb rfl;simp at hb;subst hb;exact bq ha⟩⟩,zao_ dp,on⟩
    ·exact fin.elim
 ·exact fin.elim
theorem zf4_ {dx:kz}{o o':HO}{k m:Hp}{ds':List D}(hs:Same F H)(dj:Dj F h)(sh:Same h H)(nt:∀p xs,h p≠uC (.tup xs))(jh:Jn (two p dx o) k h)(n':∀xs,o'≠.tup xs)(sm:Same m (un (two p dx o') k)){d:D}{v:V}{hr h2:Hp}(jk:Jn hr h2 m)
  (od:OD K d v F hr) (os:ODs K ds' vs F h2) (fin:∀v F' h' H' hr h2,Okk F (less H h) F' h' H'->Jn hr h2 h'->OD K d v F' hr->ODs K ds' vs F' h2->Q v H'):Q v (upd H p o'):=by
 have ok:=zbx_ hs dj sh nt;have hp:h p≠uD:=by rw[jh.l _ _ zqP_];exact sN _
 have bL:=zgQ_ (h1':=h) (hr:=h) (h':=h) ok hp n' (un (two p dx o') k) λq=>by
  unfold un;rw[zal_];by_cases e:q=p
  ·rw[if_pos e,if_pos e]
  ·rw[if_neg e,if_neg e]
   rcases jh q with⟨a,b⟩|⟨a,b⟩
   ·rw[zal_,if_neg e]at a
    rw[b];split at a
    ·cases a
    ·rename_i z;rw[if_neg z]
   ·rw[a,b,zal_,if_neg e];split<;>(rename_i z;exact z.symm)
 exact fin v F _ _ hr h2 (zdt_ bL sm) jk od os
theorem zju_:∀{ns:List Str}{us:List V}{f:Str}{v:V},f∈ns->ns.length=us.length->putF f v (ns.zip us)=ns.zip (us.set (ns.idxOf f) v)
 |[],_,_,_,h,_=>by simp at h
 |n::ns,[],_,_,_,l=>by simp at l
 |n::ns,u::us,f,v,h,l=>by
  rw[lM,putF];by_cases e:n=f
  ·subst e;rw[if_pos rfl];simp
  ·rw[if_neg e,zju_ (by rcases k9.mp h with z |z;exact absurd z.symm e;exact z) (by simpa using l),si,show(n == f)=uF from beq_eq_false_iff_ne.mpr e,cond_false,oS,lM]
def setFF (f:Str):Fn:=λds=>match ds with
 |[v,.nd (.obj c ns) xs]=>if ns.length<1000 then(if f∈ns then .ok .non [.gone,.nd (.obj c ns) (xs.set (ns.idxOf f) v)]else .ok .non [.gone,.nd (.obj c (ns++[f])) (xs++[v])])else .no
 |_=>.no
theorem zl2_ {dx:kz}{o o':HO}{a:Hp}(jb:Jn (two p dx o) a h):Dj (two p dx o') a:=λq=>by
 rcases jb.dj q with z |z
 ·left
  rw[zal_]at z ⊢;split at z
  ·cases z
  ·rename_i e;rw[if_neg e];exact z
 ·exact .inr z
theorem ods2 {a b:D}{x y:V}{h1 h2:Hp}(o1:OD K a x F h1)(o2:OD K b y F h2)(j2:Jn h1 h2 h):ODs K [a,b] [x,y] F h:=by
 unfold ODs;refine⟨x,[y],h1,h2,rfl,j2,o1,?_⟩;unfold ODs;exact⟨y,[],h2,λ_=>uD,rfl,no_r _ λ_=>rfl,o2,zcJ_⟩
theorem zlM_ {x o:V}{n:Str}{v0:D}{c':Str}{ns:List Str}{ys:List D}{QQ:Hp->Prop}(h0:CtX K (setFF n) [v0,.nd (.obj c' ns) ys] [x,o] H (λv H'=>v=.non->QQ H') E):
  ∃a,o=.ref a/\∃dx fs,H a=uC (.ins (gA K c') dx fs)/\fs.length<1000/\QQ (upd H a (.ins (gA K c') dx (putF n x fs))):=by
 obtain⟨F,h,hs,dj,sh,os,fin⟩:=h0;have nt:=zfC_ os;unfold setFF at fin;dsimp only at fin
 ·split at fin
  ·rename_i hl
   obtain⟨h1,h2,h3,a,ja,jb,ov,orr,oi⟩:=recvV os;obtain⟨p,us,c0,hcc,rfl,cl,jc,oc⟩:=zkF_ orr;obtain⟨dx,dy,e0,el⟩:=cl;subst e0;unfold ODs at oi;have ea:a=h2:=by rw[zco_ jb];funext q;unfold un;cases z:h2 q with |none=>exact oi.2 q |some o=>rfl
   subst ea;obtain⟨m,jm,jh⟩:=zl_ jc (zac_ ja);have hp:H p=uC (.ins (gA K c') dx (ns.zip us)):=sh _ _ (jh.l _ _ zqP_);have d1:Dj h1 hcc:=λq=>(jm.dj q).symm
   refine⟨p,rfl,dx,ns.zip us,hp,by rw[mn,el,nU,<- el];exact hl,?_⟩
   split at fin
   ·rename_i hn
    have hj:ns.idxOf n<ys.length:=by rw[ODs.len oc,<- el];exact m6.mpr hn
    obtain⟨u,k1,k2,eu,jk,ow,g⟩:=ODs.focus oc (km hj);have d2:Dj h1 k2:=λq=>by rcases d1 q with z |z;exact .inl z;exact .inr (jk.r.free z)
    have on:=g v0 F x h1 (un h1 k2) (Same.refl _) ov (zao_ d2);have sm:Same (un h1 k2) m:=λq o e=>by
     unfold un at e;cases z:h1 q with
     |some w=>rw[z]at e;cases e;exact jm.r _ _ z
     |none=>rw[z]at e;exact jm.l _ _ (jk.r _ _ e)
    have dp:Dj (two p dx (.ins (gA K c') dx (ns.zip (us.set (ns.idxOf n) x)))) (un h1 k2):=λq=>by
     rcases zl2_ (o':=.ins (gA K c') dx (ns.zip (us.set (ns.idxOf n) x))) jh q with z |z
     ·exact .inl z
     ·exact .inr (sm.free z)
    rw[zju_ hn el];refine zf4_ (vs:=[x,.ref p]) (m:=un (two p dx (.ins (gA K c') dx (ns.zip (us.set (ns.idxOf n) x)))) (un h1 k2)) (d:=.non) (v:=.non) (Q:=λv H'=>v=.non->QQ H') (hr:=λ_=>uD) hs dj sh nt jh (λxs z=>by cases z) (λq o e=>?_) (no_l _ λ_=>rfl) (zcK_ λ_=>rfl) (ods2 (zaN_ λ_=>rfl) ?_ (no_l _ λ_=>rfl)) fin rfl
    ·unfold un at e ⊢
     cases z:two p dx (.ins (gA K c') dx (ns.zip (us.set (ns.idxOf n) x))) q with
     |some w=>rw[z]at e;exact e
     |none=>rw[z]at e;exact sm _ _ e
    ·unfold OD
     exact⟨p,us.set (ns.idxOf n) x,_,un h1 k2,rfl,⟨dx,dy,rfl,by rw[mM];exact el⟩,zao_ dp,on⟩
   ·rename_i hn
    rw[zfU_ x hn el.symm];have on:=ODs.snoc oc ov jm;have dp:=zl2_ (o':=.ins (gA K c') dx ((ns++[n]).zip (us++[x]))) jh;refine zf4_ (vs:=[x,.ref p]) (m:=un (two p dx (.ins (gA K c') dx ((ns++[n]).zip (us++[x])))) m) (d:=.non) (v:=.non) (Q:=λv H'=>v=.non->QQ H') (hr:=λ_=>uD) hs dj sh nt jh (λxs z=>by cases z) (Same.refl _) (no_l _ λ_=>rfl) (zcK_ λ_=>rfl) (ods2 (zaN_ λ_=>rfl) ?_ (no_l _ λ_=>rfl)) fin rfl
    unfold OD;exact⟨p,us++[x],_,m,rfl,⟨dx,dy,rfl,by simp[el]⟩,zao_ dp,on⟩
  ·exact fin.elim
def tSFldA (K:lK)(cs:List Str)(t tv:TE)(f:Str):TS:=λN σ H=>∃c∈cs,mSFld (gA K c) t tv f N σ H
def clsAt (env:Env)(q:Pl):Option Str:=match atE env q with |some (.nd (.obj c _) _)=>uC c |_=>uD
def setFM (G:Gi)(n:Str)(p:Pt)(x:X)(env:Env):Mr Env Fl:=(evG G env [.x x,.l p]).bind λgs e=>match gs with
 |[g,.l q]=>(match clsAt e q with |some c=>if c∈G.cs then dropM (callG (setFF n) [g,.l q] e)else .no |none=>.no)
 |_=>.no
theorem zmn_ (g0:G.Ok K)(n:Str)(pt:Pt)(x:X):EvS K (tSFldA K G.cs (pt.x.den K G E) (x.den K G E) n) E ws env (setFM G n pt x env):=by
 intro F0 H0 σ F h H N hL ok fin;unfold setFM at fin;have main:∀c∈G.cs,(∀gs e,evG G env [.x x,.l pt]=.ok gs e->∃g q,gs=[g,.l q]/\clsAt e q=uC c)->tSFldA K G.cs (pt.x.den K G E) (x.den K G E) n N σ H:=λc hc hg=>⟨c,hc,by
  have:=zdN_ (K:=K) (E:=E) (ws:=ws) g0 [.x x,.l pt] env;rw[show X.dens K G E ([A.x x,.l pt].map A.t)=tCons (x.den K G E) (tCons (pt.x.den K G E) tNil)from rfl]at this
  have key:FinG K (evG G env [.x x,.l pt]) E ws σ F0 H0 H (λvs H2=>match vs with |[y,.ref a]=>∃dx fs,H2 a=uC (.ins (gA K c) dx fs)/\fs.length<1000/\N.nx σ (upd H2 a (.ins (gA K c) dx (putF n y fs)))|_=>False):=by
   cases e:evG G env [.x x,.l pt]with
   |no=>rw[e]at fin;exact fin
   |ex c e'=>rw[e]at fin;exact λF h H hL ok=>fin σ F h H hL ok
   |ok gs e'=>
    rw[e]at fin;obtain⟨g,q,rfl,ecl⟩:=hg gs e' e;dsimp only[Mr.bind]at fin;rw[ecl]at fin;dsimp only at fin;rw[if_pos hc]at fin;intro vs F1 hA hE h1 H1 aw ag j ax _;have fe:FinE K (callG (setFF n) [g,.l q] e') E ws σ F0 H0 (λv H'=>v=.non->N.nx σ H'):=by
     cases ec:callG (setFF n) [g,.l q] e' with
     |no=>rw[ec]at fin;exact fin
     |ex c e2=>rw[ec]at fin;exact λF h H hL ok=>fin σ F h H hL ok
     |ok d e2=>rw[ec]at fin;exact λv F hr h2 h H hL od j ok _=>fin σ F h H (Hold.more hL j) ok
    obtain⟨ds,er,cx⟩:=zgT_ aw ag j ax fe;have hlen:=zik_ ag;obtain⟨y,o,rfl⟩:=len2_ hlen;unfold clsAt at ecl;split at ecl
    ·rename_i c1 ns ys ea
     cases ecl;have ed:∃v0,ds=[v0,.nd (.obj c ns) ys]:=by
      cases g with
      |d v0=>simp[resolve,ea]at er;exact⟨v0,er.symm⟩
      |l q'=>
       cases eq':atE e' q' with
       |none=>simp[resolve,eq']at er
       |some v0=>simp[resolve,ea,eq']at er;exact⟨v0,er.symm⟩
     obtain⟨v0,rfl⟩:=ed;obtain⟨a,rfl,r⟩:=zlM_ cx;exact r
    ·cases ecl
  ·-- the same,read as an assignment
   have z:=this F0 H0 σ F h H _ hL ok key;unfold mSFld;unfold tCons tNil at z;have e:(λ(y:V) (H1:Hp)=>(pt.x.den K G E) σ H1 λo H2=>(match([y,o]:List V)with |[y,.ref a]=>∃dx fs,H2 a=uC (.ins (gA K c) dx fs)/\fs.length<1000/\N.nx σ (upd H2 a (.ins (gA K c) dx (putF n y fs)))|_=>False))=λy H1=>(pt.x.den K G E) σ H1 λo H2=>(match o with |.ref a=>∃dx fs,H2 a=uC (.ins (gA K c) dx fs)/\fs.length<1000/\N.nx σ (upd H2 a (.ins (gA K c) dx (putF n y fs)))|_=>False):=by
    funext y H1;congr 1;funext o H2;cases o<;>rfl
   have z2:=z;rw[e]at z2;exact z2⟩
 cases e:evG G env [.x x,.l pt]with
 |no=>rw[e]at fin;exact fin.elim
 |ex c e'=>
  cases hcs:G.cs with
  |nil=>exact absurd hcs g0.cs
  |cons c0 cs=>
   have:=main c0 (by rw[hcs];exact lA ..) λgs e2 z=>by rw[e]at z;cases z
   rw[hcs]at this;exact this
 |ok gs e'=>
  rw[e]at fin;dsimp only[Mr.bind]at fin;split at fin
  ·rename_i g q
   cases ec:clsAt e' q with
   |none=>rw[ec]at fin;exact fin.elim
   |some c=>
    rw[ec]at fin;dsimp only at fin;by_cases hc:c∈G.cs
    ·exact main c hc λgs e2 z=>by rw[e]at z;cases z;exact⟨g,q,rfl,ec⟩
    ·rw[if_neg hc]at fin;exact fin.elim
  ·exact fin.elim
def setIM (G:Gi)(p:Pt)(k x:X)(env:Env):Mr Env Fl:=dropM ((evG G env [.x x,.l p,.x k]).bind (callG setIF))
theorem zoj_ (g0:G.Ok K)(pt:Pt)(k x:X):EvS K (tAsg (x.den K G E) (gSub (pt.x.den K G E) (k.den K G E) rSetA)) E ws env (setIM G pt k x env):=by
 intro F0 H0 σ F h H N hL ok fin;unfold setIM at fin;have:=zdN_ (K:=K) (E:=E) (ws:=ws) g0 [.x x,.l pt,.x k] env;rw[show X.dens K G E ([A.x x,.l pt,.x k].map A.t)=tCons (x.den K G E) (tCons (pt.x.den K G E) (tCons (k.den K G E) tNil))from rfl]at this
 refine this F0 H0 σ F h H (λvs H2=>match vs with |[y,o,i]=>rSetA o i y H2 (N.nx σ)|_=>False) hL ok ?_
 cases e:evG G env [.x x,.l pt,.x k]with
 |no=>rw[e]at fin;exact fin
 |ex c e'=>rw[e]at fin;exact λF h H hL ok=>fin σ F h H hL ok
 |ok gs e'=>
  rw[e]at fin;intro vs F1 hA hE h1 H1 aw ag j ax _;have fin:FinS K (dropM (callG setIF gs e')) E ws F0 H0 N:=fin;have fe:FinE K (callG setIF gs e') E ws σ F0 H0 (λv H'=>v=.non->N.nx σ H'):=by
   cases ec:callG setIF gs e' with
   |no=>rw[ec]at fin;exact fin
   |ex c e2=>rw[ec]at fin;exact λF h H hL ok=>fin σ F h H hL ok
   |ok d e2=>rw[ec]at fin;exact λv F hr h2 h H hL od j ok _=>fin σ F h H (Hold.more hL j) ok
  have cx:=zc0_ aw ag j ax fe;have hlen:=zik_ ag;have jB:gs.length=3:=by
   have:∀{as:List A}{env e:Env}{gs:List Ag},evG G env as=.ok gs e->gs.length=as.length:=λ{as}=>by
    induction as with
    |nil=>intro env e gs h;unfold evG at h;cases h;rfl
    |cons a as ih=>
     intro env e gs h;cases a with
     |x y=>
      unfold evG at h;cases e1:stX G env y with
      |no=>rw[e1]at h;cases h
      |ex c t=>rw[e1]at h;cases h
      |ok d t=>
       rw[e1]at h;dsimp only[Mr.bind]at h;cases e2:evG G t as with
       |no=>rw[e2]at h;cases h
       |ex c t=>rw[e2]at h;cases h
       |ok gs' t'=>rw[e2]at h;cases h;rw[kZ,kZ,ih e2]
     |l p=>
      unfold evG at h;split at h
      ·cases e2:evG G env as with
       |no=>rw[e2]at h;cases h
       |ex c t=>rw[e2]at h;cases h
       |ok gs' t'=>rw[e2]at h;cases h;rw[kZ,kZ,ih e2]
      ·cases h
      ·cases h
   exact this e
  rw[jB]at hlen;obtain⟨y,o,i,rfl⟩:=len3_ hlen;exact zoJ_ cx
theorem zdR_ (g0:G.Ok K){pt:Pt}(hL:Hold (LofW K ws env) σ F h)(ok:Okk F0 H0 F h H)(e:pt.ev G env=.ok q)(hc:atE env q=uC c)
  (hk:∀u F1 H1 k1 v,Okk F0 H0 F1 h H1->Hold (LofW K ws env) σ F1 h->Same k1 h->OD K c u F1 k1->σ[q.1]?=uC (uC v)->vAt H1 v q.2=uC u->Q u H1):pt.x.den K G E σ H Q:=by
 refine Pt.sound g0 pt E env σ (un F h) H _ (zcu_ (hL.froz ok.2.1)) ok.thaw ?_;rw[e];intro F1 H1 v u c' x1 hv hu _ _;obtain⟨o1,hsF,ht⟩:=ok.back x1;rcases zfi_ env q.1 with⟨d,hd⟩|hd
 ·rw[zZ_ hd]at hc
  obtain⟨v',u',k1,k2,ev,vp,j,oc,_⟩:=zcd_ hL hd hc;rw[hv]at ev;cases ev;cases lI ((zbT_ x1.2.2.1 (vp H ok.1.2.1 ok.2.2.1)).symm.trans hu);exact hk u _ H1 k1 v o1 (hL.mono hsF) j.l (oc.mono hsF) hv hu
 ·unfold atE at hc;split at hc
  ·rename_i d z;exact absurd z (hd d)
  ·cases hc
theorem pt_ex (g0:G.Ok K){pt:Pt}{x:Xc}(hL:Hold (LofW K ws env) σ F h)(ok:Okk F0 H0 F h H)(e:pt.ev G env=.ex x)(fin:∀F h H,Hold (LofW K ws env) σ F h->Okk F0 H0 F h H->Tell K E x H0 F H):pt.x.den K G E σ H Q:=by
 refine Pt.sound g0 pt E env σ (un F h) H _ (zcu_ (hL.froz ok.2.1)) ok.thaw ?_;rw[e];exact λF' H' y=>(fin _ _ _ (hL.mono (ok.back y).2.1) (ok.back y).1).back ok y
def lentG (G:Gi)(env:Env)(p:Pt)(as:List A)(ok:D->Bool)(k:Pl->List Ag->Env->Mr Env D):Mr Env D:=match p.ev G env with
 |.ok q=>(match atE env q with |some c=>if ok c then(evG G env as).bind (k q)else .no |none=>.no)
 |.ex c=>.ex c env
 |.no=>.no
theorem zje_ {gs:List Ag}{v:V}{hA:Hp}(ev:σ[q.1]?=uC (uC v))(vp:vAt H1 v q.2=uC u)(sm:Same H1 H2)(ag:AgR K σ F2 H2 gs vs hA):AgR K σ F2 H2 (.l q::gs) (u::vs) hA:=⟨u,v,vs,rfl,ev,zbT_ sm vp,ag⟩
def isK (T:String)(c:D):Bool:=match c with |.nd .lst _=>T=="list" |.nd (.dct _) _=>T=="dict" |_=>uF
theorem zpl_ {T:String}(h0:isK T c=uE)(oc:OD K c u F k)(sF:Same F H)(sk:Same k H):tyV K T u H:=by
 unfold isK at h0;split at h0
 ·obtain⟨p,us,c0,hc,rfl,cl,jc,_⟩:=zkF_ oc
  have e0:c0=one p (.lst us):=cl;subst e0;have:T="list":=by simpa using h0
  exact .inl ⟨this,us,.of (sk _ _ (jc.l _ _ zq_))⟩
 ·obtain⟨p,us,c0,hc,rfl,cl,jc,_⟩:=zkF_ oc
  obtain⟨e0,_⟩:=cl;subst e0;have:T="dict":=by simpa using h0
  exact .inr (.inr (.inl ⟨this,.inl ⟨_,sk _ _ (jc.l _ _ zq_)⟩⟩))
 ·cases h0
theorem ee_bm (g0:G.Ok K){T:String}{r:V->List V->Hp->VK->Prop}(b:BmOk K r f)(pt:Pt)(as:List A):EvE K (tBM K T r (pt.x.den K G E) (X.dens K G E (as.map A.t))) E ws env (lentG G env pt as (isK T) λq gs e=>callG f (.l q::gs) e):=by
 intro F0 H0 σ F h H Q hL ok fin;unfold lentG at fin;cases e:pt.ev G env with
 |no=>rw[e]at fin;exact fin.elim
 |ex c=>rw[e]at fin;exact pt_ex g0 hL ok e fin
 |ok q=>
  rw[e]at fin;dsimp only at fin;cases hc:atE env q with
  |none=>rw[hc]at fin;exact fin.elim
  |some c=>
   rw[hc]at fin;dsimp only at fin;by_cases hk:isK T c=uE
   rotate_left
   ·rw[if_neg hk]at fin;exact fin.elim
   rw[if_pos hk]at fin;refine zdR_ g0 hL ok e hc λu F1 H1 k1 v o1 aw sk oc ev vp=>⟨zpl_ hk oc o1.1.2.1 (sk.trans o1.2.2.1),?_⟩
   refine zdN_ (K:=K) (E:=E) (ws:=ws) g0 as env F0 H0 σ F1 h H1 _ aw o1 ?_;cases eg:evG G env as with
   |no=>rw[eg]at fin;exact fin
   |ex x e'=>rw[eg]at fin;exact fin
   |ok gs e'=>
    rw[eg]at fin;intro vs F2 hA hE h2 H2 bC ag j az sm;exact b u vs H2 Q E (zc0_ bC (zje_ ev vp sm ag) j az fin)
theorem zpt_ (g0:G.Ok K){T:String}{r:V->List V->Hp->VK->Prop}(b:BmOk K r f)(pt:Pt):EvE K (tBM0 K T r (pt.x.den K G E)) E ws env (lentG G env pt [] (isK T) λq gs e=>callG f (.l q::gs) e):=by
 intro F0 H0 σ F h H Q hL ok fin;have:=ee_bm (ws:=ws) (env:=env) (E:=E) g0 (T:=T) b pt [] F0 H0 σ F h H Q hL ok fin;exact this
def setdF:Fn:=λds=>match ds with
 | [.nd (.dct ks) ys,key,v]=>if v.cold then(match keyD key with
   |some k'=>if kIx ks k'<ks.length then(match ys[kIx ks k']? with |some y=>if y.cold then .ok y [.nd (.dct ks) ys,key,v]else .no |none=>.no)
    else if ys.length<kR then .ok v [.nd (.dct (ks++[k'])) (ys++[v]),key,v]else .no
   |none=>.no)else .no
 |_=>.no
def rSetd:V->List V->Hp->VK->Prop:=λx xs H Q=>match xs with
 |[y,z]=>atD x y H λa kvs k=>match valV kvs k with |some v=>Q v H |none=>kvs.length<kR/\Q z (upd H a (.dK (putK kvs k z)))
 |_=>False
theorem zk2_ {ks:List Key}{us:List V}{k:Key}(hk:k∉ks):valV (ks.zip us) k=uD:=by
 unfold valV;rw[List.find?_eq_none.mpr]
 ·rfl
 ·intro q hq z
  exact hk (by have:=(nM (a:=q.1) (b:=q.2) hq).1;simp at z;rw[<- z];exact this)
theorem zk8_:∀{d:D}{k:Key},keyD d=uC k->d.cold=uE:=λ{d}=>by
 cases d with
 |nd=>intro k e;cases e
 |_=>intro k e;rfl
theorem znY_:BmOk K rSetd setdF:=by
 rintro x xs H Q E ⟨F,h,ds,hs,dj,sh,os,fin⟩;have nt:=zfC_ os;have iT:=os;unfold setdF at fin;split at fin
 ·rename_i ks ys key v0
  split at fin
  rotate_left
  ·exact fin.elim
  rename_i hc
  unfold ODs at os;obtain⟨xr,vs1,hA,hB,e1,jA,oR,os1⟩:=os;unfold ODs at os1;obtain⟨xk,vs2,hK,hV,e2,jK,oK,os2⟩:=os1;unfold ODs at os2;obtain⟨xz,vs3,hZ,hN,e3,jZ,oZ,os3⟩:=os2;unfold ODs at os3;obtain⟨e4,nN⟩:=os3;cases e1;subst e2;subst e3;subst e4;obtain⟨nZ,rZ⟩:=OD.cold hc oZ;cases ek:keyD key with
  |none=>rw[ek]at fin;exact fin.elim
  |some k'=>
   rw[ek]at fin;dsimp only at fin;obtain⟨nK,rK⟩:=OD.cold (zk8_ ek) oK;have kv:=zlo_ ek rK;obtain⟨p,us,c0,aC,rfl,cl,jc,oc⟩:=zkF_ oR;obtain⟨e0,el,nd⟩:=cl;subst e0;have nV:∀q,hV q=uD:=λq=>by rw[zco_ jZ];unfold un;rw[nZ q];exact nN q
   have nB:∀q,hB q=uD:=λq=>by rw[zco_ jK];unfold un;rw[nK q];exact nV q
   have eh:h=hA:=by rw[zco_ jA];funext q;unfold un;cases z:hA q with |none=>exact nB q |some o=>rfl
   subst eh;have hp:H p=uC (.dK (ks.zip us)):=sh _ _ (jc.l _ _ zq_);have zK:hK=λ_=>uD:=funext nK
   have zZ:hZ=λ_=>uD:=funext nZ
   split at fin
   ·rename_i hk
    cases ey:ys[kIx ks k']? with
    |none=>rw[ey]at fin;exact fin.elim
    |some y=>
     rw[ey]at fin;dsimp only at fin;split at fin
     rotate_left
     ·exact fin.elim
     rename_i hy
     obtain⟨u,k1,k2,eu,jk,ow,g⟩:=ODs.focus oc ey;obtain⟨n1,r1⟩:=OD.cold hy ow;unfold rSetd;refine zev_ rfl kv.1 hp ?_;rw[zgJ_ eu hk];have:k1=λ_=>uD:=funext n1
     rw[this]at ow;exact fin u F h H (λ_=>uD) h (zbx_ hs dj sh nt) (no_l _ λ_=>rfl) ow iT
   ·rename_i hk
    split at fin
    rotate_left
    ·exact fin.elim
    rename_i hl
    have bq:k'∉ks:=λz=>hk (zeB_.mpr z)
    unfold rSetd;refine zev_ rfl kv.1 hp ?_;rw[zk2_ bq];refine⟨by rw[mn,el,nU,<- ODs.len oc];exact hl,?_⟩
    rw[zg1_ bq el];have on:=ODs.snoc oc oZ (no_r _ nZ);have dp:=zfg_ (o':=.dK ((ks++[k']).zip (us++[xz]))) jc;rw[zK]at oK;rw[zZ]at oZ;have o1:OD K (.nd (.dct (ks++[k'])) (ys++[v0])) (.ref p) F (un (one p (.dK ((ks++[k']).zip (us++[xz])))) aC):=by
     unfold OD;exact⟨p,us++[xz],_,aC,rfl,⟨rfl,by simp[el],pT.mpr ⟨nd,by simp,by rintro a ha b hb rfl;simp at hb;subst hb;exact bq ha⟩⟩,zao_ dp,on⟩
    exact ze2_ (vs:=[.ref p,xk,xz]) (m:=un (one p (.dK ((ks++[k']).zip (us++[xz])))) aC) (d:=v0) (v:=xz) (Q:=Q) (hr:=λ_=>uD) hs dj sh nt jc (λxs z=>by cases z) (Same.refl _) (no_l _ λ_=>rfl) oZ (ods3 o1 oK oZ (no_l _ λ_=>rfl) (no_r _ λ_=>rfl)) fin
 ·exact fin.elim
theorem zov_ (g0:G.Ok K)(pt:Pt)(k v:X):EvE K (mSetD (pt.x.den K G E) (k.den K G E) (v.den K G E)) E ws env (lentG G env pt [.x k,.x v] (isK "dict") λq gs e=>callG setdF (.l q::gs) e):=by
 intro F0 H0 σ F h H Q hL ok fin;unfold lentG at fin;cases e:pt.ev G env with
 |no=>rw[e]at fin;exact fin.elim
 |ex c=>rw[e]at fin;exact pt_ex g0 hL ok e fin
 |ok q=>
  rw[e]at fin;dsimp only at fin;cases hc:atE env q with
  |none=>rw[hc]at fin;exact fin.elim
  |some c=>
   rw[hc]at fin;dsimp only at fin;by_cases hk:isK "dict" c=uE
   rotate_left
   ·rw[if_neg hk]at fin;exact fin.elim
   rw[if_pos hk]at fin;refine zdR_ g0 hL ok e hc λu F1 H1 k1 v0 o1 aw sk oc ev vp=>⟨?_,?_⟩
   ·unfold isK at hk
    split at hk
    ·cases hk
    ·obtain⟨p,us,c0,hc,rfl,cl,jc,_⟩:=zkF_ oc
     obtain⟨e0,_⟩:=cl;subst e0;exact⟨_,(sk.trans o1.2.2.1) _ _ (jc.l _ _ zq_)⟩
    ·cases hk
   ·have key:=zdN_ (K:=K) (E:=E) (ws:=ws) g0 [.x k,.x v] env F0 H0 σ F1 h H1 (λvs H2=>rSetd u vs H2 Q) aw o1
    rw[show X.dens K G E ([A.x k,.x v].map A.t)=tCons (k.den K G E) (tCons (v.den K G E) tNil)from rfl]at key
    refine key ?_;cases eg:evG G env [.x k,.x v]with
    |no=>rw[eg]at fin;exact fin
    |ex x e'=>rw[eg]at fin;exact fin
    |ok gs e'=>
     rw[eg]at fin;intro vs F2 hA hE h2 H2 bC ag j az sm;exact znY_ u vs H2 Q E (zc0_ bC (zje_ ev vp sm ag) j az fin)
end
inductive Bm where
 |append |extend
noncomputable def Bm.ty:Bm->String
 |_ => "list"
def Bm.r:Bm->V->List V->Hp->VK->Prop
 |.append=>rAppend |.extend=>rExtend
def Bm.f:Bm->Fn
 |.append=>appendF |.extend=>extendF
theorem bm_ok {K:lK}(o:Bm):BmOk K o.r o.f:=by
 cases o with
 |append=>exact ziI_
 |extend=>exact zit_
inductive Y where
 |pu (x:X)|mv (i:Nat)
 |call (f:Fn) (x:Str) (as:List A)
 |bm (o:Bm) (p:Pt) (as:List A)
 |bin (o:Bo) (y z:Y)
 |sd (p:Pt) (k v:X)
 |not (y:Y)
inductive S where
 |asg (i:Nat) (y:Y)
 |setF (p:Pt) (n:Str) (x:X)|setI (p:Pt) (k x:X)
 |ex (y:Y)|ret (y:Y)|retN
 |if_ (c:X) (a b:List S)|ifY (c:Y) (a b:List S)|ifL (c:X) (a b:List S)
 |for_ (ik:Ik) (src:List X) (tg:Tg) (b:List S)
 |pass |cont |never
 |try0 (b a9:List S)
section
variable (K:l8)(G:Gi)
def Y.den (E:XK):Y->TE
 |.pu x=>x.den K G E
 |.mv i=>mVar i
 |.call f _ as=>tCall (CtG K f) [] E (X.dens K G E (as.map A.t))
 |.bm o p as=>(match as with |[]=>tBM0 K o.ty o.r (p.x.den K G E)|_=>tBM K o.ty o.r (p.x.den K G E) (X.dens K G E (as.map A.t)))
 |.bin o y z=>tOp (o.r K) (y.den E) (z.den E)
 |.sd p k v=>mSetD (p.x.den K G E) (k.den K G E) (v.den K G E)
 |.not y=>mNotV (y.den E)
mutual
def S.den (E:XK):S->TS
 |.asg i y=>tAsg (y.den K G E) (gName i)
 |.setF p n x=>tSFldA K G.cs (p.x.den K G E) (x.den K G E) n
 |.setI p k x=>tAsg (x.den K G E) (gSub (p.x.den K G E) (k.den K G E) rSetA)
 |.ex y=>tDrop (y.den K G E)
 |.ret y=>tRet (y.den K G E)
 |.retN=>tRetN
 |.if_ c a b=>mIfS (mTest (c.den K G E)) (S.dens E a) (S.dens E b)
 |.ifY c a b=>mIfS (mTest (c.den K G E)) (S.dens E a) (S.dens E b)
 |.ifL c a b=>mIfS (mTrL K (c.den K G E)) (S.dens E a) (S.dens E b)
 |.for_ ik src tg b=>tFor (ik.t K (X.dens K G E src)) (tgT K tg) (S.dens E b)
 |.pass=>tNext
 |.cont=>tCont
 |.never=>tNever
 |.try0 b a9=>tSeq (S.dens E0 b) (S.dens E a9)
def S.dens (E:XK):List S->TS
 |[]=>tNext
 |s::ss=>tSeq (s.den E) (S.dens E ss)
end
end
def trD (d:D):Mo Bool:=match d.un with |.bl b=>.ok b |.nd .lst xs=>.ok (!xs.isEmpty)|_=>.no
theorem zo1_ {K:lK}{E:XK}{env:Env}{t:TE}{r:Mo D}(h:EvX K t E env r):EvT K (mTrL K t) E (Lof K env) (r.bind trD):=by
 intro σ F H Q hL hs q;refine ex_v h σ F H _ hL hs (q.bind.imp λa F1 H1 x1 k1 v1 aN=>?_)
 have ha:=DR.un aN;unfold trD at k1;split at k1
 ·rename_i b e;rw[e]at ha;cases ha.bl;exact k1.ok x1.2.1
 ·rename_i xs e;rw[e]at ha;obtain⟨p,us,rfl,n,r⟩:=ha.nd
  refine⟨us,.of (x1.2.1 _ _ n),?_⟩;rw[show us.isEmpty=xs.isEmpty from by have:=r.len;cases us<;>cases xs<;>first |rfl |cases this]
  exact k1.ok x1.2.1
 ·exact k1.elim
def moTo {α:Type}(m:Mo α)(e:Env):Mr Env α:=match m with |.ok a=>.ok a e |.ex c=>.ex c e |.no=>.no
def noEx (r:Mr Env Fl):Mr Env Fl:=match r with |.ex _ _=>.no |r=>r
section
variable (G:Gi)
def mvM (env:Env)(i:Nat):Mr Env D:=match env[i]? with |some (uC d)=>.ok d (env.set i uD)|_=>.no
def Y.ev:Y->Env->Mr Env D
 |.pu x,env=>stX G env x
 |.mv i,env=>mvM env i
 |.call f _ as,env=>(evG G env as).bind (callG f)
 |.bm o p as,env=>lentG G env p as (isK o.ty) λq gs e=>callG o.f (.l q::gs) e
 |.bin o y z,env=>(y.ev env).bind λd e=>(z.ev e).bind λd2 e2=>moTo (o.f d d2) e2
 |.sd p k v,env=>lentG G env p [.x k,.x v] (isK "dict") λq gs e=>callG setdF (.l q::gs) e
 |.not y,env=>(y.ev env).bind λd e=>moTo ((blD d).bind λb=>.ok (.bl (!b))) e
mutual
def S.run:(Nat->Bool)->S->Env->Mr Env Fl
 |pn,.asg i y,env=>asgM pn i (y.ev G env)
 |pn,.setF p n x,env=>setFM G n p x env
 |pn,.setI p k x,env=>setIM G p k x env
 |pn,.ex y,env=>dropM (y.ev G env)
 |pn,.ret y,env=>retM (y.ev G env)
 |pn,.retN,env=>.ok (.rt .non) env
 |pn,.if_ c a b,env=>ifM env ((c.ev G env).bind blD) (S.runs pn a env) (S.runs pn b env)
 |pn,.ifY c a b,env=>(c.ev G env).bind λd e=>ifM e (blD d) (S.runs pn a e) (S.runs pn b e)
 |pn,.ifL c a b,env=>ifM env ((c.ev G env).bind trD) (S.runs pn a env) (S.runs pn b env)
 |pn,.for_ ik src tg b,env=>forS pn ik tg (evG G env (src.map .x)) (λe=>S.runs pn b e)
 |pn,.pass,env=>.ok .nx env
 |pn,.cont,env=>.ok .ct env
 |pn,.never,env=>.no
 |pn,.try0 b a9,env=>seqM (noEx (S.runs pn b env)) λe=>S.runs pn a9 e
def S.runs:(Nat->Bool)->List S->Env->Mr Env Fl
 |pn,[],env=>.ok .nx env
 |pn,s::ss,env=>seqM (S.run pn s env) (λe=>S.runs pn ss e)
end
end
section
variable {K:l8}{E:XK}{F F0 H0 h H:Hp}{env:Env}{t:TE}{ws:Ws}{G:Gi}{i:Nat}{pn:Nat->Bool}{s1 s2:TS}
theorem ee_mv:EvE K (mVar i) E ws env (mvM env i):=by
 intro F0 H0 σ F h H Q hL ok fin;unfold mvM at fin;split at fin
 ·rename_i d hd
  obtain⟨o,k1,k2,e1,j,pp,g⟩:=Hold.atG hL (zbu_ hd);obtain⟨v,rfl,hv,od⟩:=zdU_ pp;unfold mVar;rw[e1];refine fin v F k1 k2 h H ?_ od j ok;have:=g (slotW K (ws i) uD) (uC v) F (λ_=>uD) k2 (Same.refl _) trivial (no_l _ λ_=>rfl)
  rw[zcQ_,zdb_ e1]at this;exact this
 ·exact fin.elim
theorem zjm_ {m:Mo D}{e:Env}{σ:L2.St}{Q:VK}{hE:Hp}(hL:Hold (LofW K ws e) σ F hE)(ok:Okk F0 H0 F hE H)(fin:FinE K (moTo m e) E ws σ F0 H0 Q):After K m E F H (OwnK (owD K) H Q):=by
 cases m with
 |no=>exact fin
 |ex c=>exact λF' H' x=>Tell.up ok.1.2.2.1 (fin F' hE H' (hL.mono x.1) (ok.cold x))
 |ok d=>
  intro F' H' x v hn fresh dj s o;have o1:=ok.cold x;have dh:Dj hn hE:=zld_ ok.2.2.1 fresh;refine fin v F' hn hE (un hn hE) H' (hL.mono x.1) o (zao_ dh) ⟨o1.1,λp=>?_,λp o e=>?_,λp z=>?_,λp xs z=>?_⟩
  ·unfold un
   cases z:hn p with
   |some w=>
    rcases dj p with y |y
    ·exact .inl y
    ·rw[y]at z;cases z
   |none=>exact o1.2.1 p
  ·unfold un at e
   cases z:hn p with
   |some w=>rw[z]at e;cases e;exact s _ _ z
   |none=>rw[z]at e;exact o1.2.2.1 _ _ e
  ·unfold un at z
   cases y:hn p with
   |some w=>exact ok.1.2.2.1.free (fresh p (by rw[y];exact sN _))
   |none=>rw[y]at z;exact ok.2.2.2.1 p z
  ·unfold un at z
   cases y:hn p with
   |some w=>rw[y]at z;cases z;exact OD.notup o p xs y
   |none=>rw[y]at z;exact ok.2.2.2.2 p xs z
theorem zih_ {d:D}{v:V}{hr hE:Hp}(od:OD K d v F hr)(j:Jn hr hE h)(ok:Okk F0 H0 F h H):DR K d v (un F hr)/\Same F (un F hr)/\Okk F0 H0 (un F hr) hE H:=by
 obtain⟨a,b,c⟩:=zjB_ (ds:=[d]) (vs:=[v]) (by unfold ODs;exact⟨v,[],hr,λ_=>uD,rfl,no_r _ λ_=>rfl,od,zcJ_⟩) j ok
 obtain⟨v',e,r⟩:=DRs.one a;cases e;exact⟨r,b,c⟩
theorem zoL_ {o:Bo}{r:Mr Env D}{g:Env->Mr Env D}{t2:TE}(h1:EvE K t E ws env r)(h2:∀e,EvE K t2 E ws e (g e)):EvE K (tOp (o.r K) t t2) E ws env (r.bind λd e=>(g e).bind λd2 e2=>moTo (o.f d d2) e2):=by
 intro F0 H0 σ F h H Q hL ok fin;refine h1 F0 H0 σ F h H _ hL ok ?_;cases r with
 |no=>exact fin
 |ex c e=>exact fin
 |ok d e=>
  intro v F1 hr hE h' H1 aw od j ax;obtain⟨dr,sF,az⟩:=zih_ od j ax;have fw:Jn (λ_=>uD) hE hE:=no_l _ λ_=>rfl
  have ob:=zgd_ az fw;have gX:∀x:Hp,un (λ_=>uD) x=x:=λx=>rfl
  refine h2 e _ (less H1 hE) σ _ hE H1 _ (aw.mono sF) ob ?_;dsimp only[Mr.bind]at fin;cases e2:g e with
  |no=>rw[e2]at fin;exact fin
  |ex c e'=>
   rw[e2]at fin;intro F2 h2 H2 bC bg;obtain⟨s,_,ok4⟩:=zaH_ az fw bg;rw[gX]at ok4;exact zb2_ az fw (fin F2 h2 H2 bC ok4)
  |ok d2 e'=>
   rw[e2]at fin;intro v2 F2 cV eU aL H2 bC fm j2 bg;obtain⟨s,_,ok4⟩:=zaH_ az fw bg;rw[gX]at ok4;obtain⟨jX,sF2,ok5⟩:=zih_ fm j2 ok4;exact zjY_ o d d2 v v2 _ H2 Q ok5.1.2.1 (dr.mono (s.trans sF2)) jX (zjm_ (bC.mono sF2) ok5 fin)
theorem zpk_ {r:Mr Env D}(h1:EvE K t E ws env r):EvE K (mNotV t) E ws env (r.bind λd e=>moTo ((blD d).bind λb=>.ok (.bl (!b))) e):=by
 intro F0 H0 σ F h H Q hL ok fin;refine h1 F0 H0 σ F h H _ hL ok ?_;cases r with
 |no=>exact fin
 |ex c e=>exact fin
 |ok d e=>
  intro v F1 hr hE h' H1 aw od j ax;obtain⟨dr,sF,az⟩:=zih_ od j ax;have k1:=zjm_ (m:=(blD d).bind λb=>.ok (.bl (!b))) (aw.mono sF) az fin
  have ha:=DR.un dr;unfold blD at k1;split at k1
  ·rename_i b e2;rw[e2]at ha;cases ha.bl;exact gotB k1 az.1.2.1
  ·exact k1.elim
theorem Y.sound (g0:G.Ok K):∀(y:Y) (env:Env),EvE K (y.den K G E) E ws env (y.ev G env)
 |.pu x,env=>ee_x g0 x
 |.mv i,env=>ee_mv
 |.call f x as,env=>zn0_ (zdN_ g0 as env)
 |.bm o p as,env=>by
  cases as with
  |nil=>exact zpt_ g0 (bm_ok o) p
  |cons a as=>exact ee_bm g0 (bm_ok o) p (a::as)
 |.bin o y z,env=>zoL_ (Y.sound g0 y env) λe=>Y.sound g0 z e
 |.sd p k v,env=>zov_ g0 p k v
 |.not y,env=>zpk_ (Y.sound g0 y env)
theorem zpD_ {r:Mr Env D}{g1 g2:Env->Mr Env Fl}(he:EvE K t E ws env r)(dZ:∀e,EvS K s1 E ws e (g1 e))(aQ:∀e,EvS K s2 E ws e (g2 e)):EvS K (mIfS (mTest t) s1 s2) E ws env (r.bind λd e=>ifM e (blD d) (g1 e) (g2 e)):=by
 intro F0 H0 σ F h H N hL ok fin;refine he F0 H0 σ F h H _ hL ok ?_;cases r with
 |no=>exact fin
 |ex c e=>exact λF h H hL ok=>fin σ F h H hL ok
 |ok d e=>
  intro v F1 hr hE h1 H1 aw od j ax;obtain⟨dr,sF,az⟩:=zih_ od j ax;have ha:=DR.un dr;have fin:FinS K (ifM e (blD d) (g1 e) (g2 e)) E ws F0 H0 N:=fin;unfold blD at fin;split at fin
  ·rename_i b e2
   rw[e2]at ha;cases ha.bl;refine⟨λz=>?_,λz=>?_⟩
   ·subst z;exact dZ e F0 H0 σ _ hE H1 N (aw.mono sF) az fin
   ·subst z;exact aQ e F0 H0 σ _ hE H1 N (aw.mono sF) az fin
  ·exact fin.elim
theorem znq_ {t:TS}{r:Mr Env Fl}(h:EvS K t E0 ws env r):EvS K t E ws env (noEx r):=by
 intro F0 H0 σ F h0 H N hL ok fin;refine h F0 H0 σ F h0 H N hL ok ?_;cases r with
 |no=>exact fin
 |ex c e=>exact fin.elim
 |ok a e=>cases a<;>exact fin
theorem map_x (as:List X):(as.map A.x).map A.t=as:=by
 rw[lX];exact(nq λa _=>rfl).trans (rW _)
mutual
theorem S.sound (g0:G.Ok K):∀(s:S) {pn:Nat->Bool}{ws:Ws}(hp:∀i,pn i=uF->ws i=uD) {E:XK}(env:Env),EvS K (s.den K G E) E ws env (S.run G pn s env)
 |.asg i y,pn,ws,hp,E,env=>zpP_ hp (Y.sound g0 y env)
 |.setF p n x,pn,ws,hp,E,env=>zmn_ g0 n p x
 |.setI p k x,pn,ws,hp,E,env=>zoj_ g0 p k x
 |.ex y,pn,ws,hp,E,env=>zod_ (Y.sound g0 y env)
 |.ret y,pn,ws,hp,E,env=>zpz_ (Y.sound g0 y env)
 |.retN,pn,ws,hp,E,env=>znr_
 |.if_ c a b,pn,ws,hp,E,env=>es_if (zg7_ (X.sound g0 c E env)) (S.sounds g0 a hp env) (S.sounds g0 b hp env)
 |.ifL c a b,pn,ws,hp,E,env=>es_if (zo1_ (X.sound g0 c E env)) (S.sounds g0 a hp env) (S.sounds g0 b hp env)
 |.ifY c a b,pn,ws,hp,E,env=>zpD_ (Y.sound g0 c env) (λe=>S.sounds g0 a hp e) λe=>S.sounds g0 b hp e
 |.for_ ik src tg b,pn,ws,hp,E,env=>by
  have:=zdN_ (K:=K) (E:=E) (ws:=ws) g0 (src.map .x) env;rw[map_x]at this;exact zqd_ hp this λe=>S.sounds g0 b hp e
 |.pass,pn,ws,hp,E,env=>zjf_
 |.cont,pn,ws,hp,E,env=>zmR_
 |.never,pn,ws,hp,E,env=>λF0 H0 σ F h H N hL ok fin=>fin.elim
 |.try0 b a9,pn,ws,hp,E,env=>by
  show EvS K (tSeq (S.dens K G E0 b) (S.dens K G E a9)) E ws env (seqM (noEx (S.runs G pn b env)) λe=>S.runs G pn a9 e)
  exact zlr_ (znq_ (S.sounds g0 b hp env)) λe=>S.sounds g0 a9 hp e
theorem S.sounds (g0:G.Ok K):∀(ss:List S) {pn:Nat->Bool}{ws:Ws}(hp:∀i,pn i=uF->ws i=uD) {E:XK}(env:Env),EvS K (S.dens K G E ss) E ws env (S.runs G pn ss env)
 |[],pn,ws,hp,E,env=>zjf_
 |s::ss,pn,ws,hp,E,env=>zlr_ (S.sound g0 s hp env) λe=>S.sounds g0 ss hp e
end
end
def pins (ds:List D)(i:Nat):Bool:=match ds[i]? with |some d=>!d.cold |none=>uF
def outs:List D->Env->List D
 |[],_=>[]
 |d::ds,o::env=>(if d.cold then d else match o with |some d'=>d' |none=>.gone)::outs ds env
 |d::ds,[]=>(if d.cold then d else .gone)::outs ds []
def fnOf (G:Gi)(n m:Nat)(body:List S):Fn:=λds=>if ds.length=n then(match S.runs G (pins ds) body (ds.map uC++kY m uD)with
 |.ok (.rt d) env=>.ok d (outs ds env)
 |.ok .nx env=>.ok .non (outs ds env)
 |.ex c env=>.ex c (outs ds env)
 |_=>.no)else .no
section
variable {K:l8}{E:XK}{F F' h H:Hp}{env:Env}{ws:Ws}{G:Gi}{σ:L2.St}
theorem zbO_ {o:Option D}:LofW K ws (o::env)=slotW K (ws 0) o::LofW K (λi=>ws (i+1)) env:=by
 show List.mapIdx _ _=_
 rw[List.mapIdx_cons]
theorem zdS_:∀(m:Nat) {ws:Ws}{h:Hp},Hold (LofW K ws (kY m uD)) (kY m uD) F h
 |0,ws,h=>trivial
 |m+1,ws,h=>by
  rw[mE,mE,zbO_];exact⟨λ_=>uD,h,no_l _ λ_=>rfl,trivial,zdS_ m⟩
def wsOf (ds:List D)(vs:List V):Ws:=λi=>if pins ds i then vs[i]? else uD
theorem zeN_ (m:Nat):∀{ds:List D}{vs:List V}{h:Hp}{ws:Ws},(∀(i:Nat) u,ws i=uC u->vs[i]?=uC u)->ODs K ds vs F h->Hold (LofW K ws (ds.map uC++kY m uD)) (vs.map uC++kY m uD) F h
 |[],_,h,ws,hw,q=>by
  unfold ODs at q;rw[q.1];exact zdS_ m
 |d::ds,_,h,ws,hw,q=>by
  unfold ODs at q;obtain⟨v,vs,h1,h2,rfl,j,o,r⟩:=q;rw[kF,kF,mf,mf,zbO_];exact⟨h1,h2,j,zcH_ (λu z=>by have:=hw 0 u z;simpa using this) o,zeN_ m (λi u z=>by have:=hw (i+1) u z;simpa using this) r⟩
theorem zbm_:∀{ds:List D}{vs:List V}{env:Env}{σ:L2.St}{h h0:Hp}{ws:Ws},(∀(i:Nat) d,ds[i]?=uC d->d.cold=uF->ws i=vs[i]?)->ODs K ds vs F h0->Same F F'->Hold (LofW K ws env) σ F' h->∃h3,Same h3 h/\ODs K (outs ds env) vs F' h3
 |[],_,env,σ,h,h0,ws,hw,q,s,hL=>by
  unfold ODs at q;rw[q.1];refine⟨λ_=>uD,(λp o z=>by cases z),?_⟩
  unfold outs ODs;exact⟨rfl,λ_=>rfl⟩
 |d::ds,_,[],σ,h,h0,ws,hw,q,s,hL=>by
  unfold ODs at q;obtain⟨v,vs,h1,h2,rfl,j,od,r⟩:=q;obtain⟨h3,s3,os⟩:=zbm_ (env:=[]) (σ:=σ) (h:=h) (ws:=λi=>ws (i+1)) (λi d' e c=>by have:=hw (i+1) d' (by simpa using e) c;simpa using this) r s hL
  refine⟨h3,s3,?_⟩;unfold outs ODs;refine⟨v,vs,λ_=>uD,h3,rfl,no_l _ λ_=>rfl,?_,os⟩
  by_cases hc:d.cold=uE
  ·rw[if_pos hc]
   have:=od.mono s;obtain⟨n,_⟩:=OD.cold hc this;have e:h1=λ_=>uD:=funext n
   rw[e]at this;exact this
  ·rw[if_neg hc];exact zaN_ λ_=>rfl
 |d::ds,_,o::env,[],h,h0,ws,hw,q,s,hL=>by rw[zbO_]at hL;exact hL.elim
 |d::ds,_,o::env,x::σ,h,h0,ws,hw,q,s,hL=>by
  unfold ODs at q;obtain⟨v,vs,h1,h2,rfl,j,od,r⟩:=q;rw[zbO_]at hL;obtain⟨k1,k2,jk,pp,hL⟩:=hL;obtain⟨h3,s3,os⟩:=zbm_ (ws:=λi=>ws (i+1)) (λi d' e c=>by have:=hw (i+1) d' (by simpa using e) c;simpa using this) r s hL
  have d1:∀{m:Hp},Same m k1->Dj m h3:=λ{m} sm p=>by
   rcases jk.dj p with z |z
   ·exact .inl (sm.free z)
   ·exact .inr (s3.free z)
  have key:∃c m,Same m k1/\(if d.cold then d else match o with |some d'=>d' |none=>.gone)=c/\OD K c v F' m:=by
   by_cases hc:d.cold=uE
   ·obtain⟨_,dr⟩:=OD.cold hc od
    refine⟨d,λ_=>uD,(λp o z=>by cases z),by rw[if_pos hc],?_⟩
    have:=od.mono s;obtain⟨n,_⟩:=OD.cold hc this;have e:h1=λ_=>uD:=funext n
    rw[e]at this;exact this
   ·have hf:d.cold=uF:=by simpa using hc
    rw[if_neg hc];cases o with
    |none=>exact⟨.gone,λ_=>uD,(λp o z=>by cases z),rfl,zaN_ λ_=>rfl⟩
    |some d'=>
     obtain⟨v',e1,e2,o'⟩:=zdU_ pp;have:ws 0=uC v:=by have:=hw 0 d (by simp) hf;simpa using this
     have:=e2 v this;subst this;exact⟨d',k1,Same.refl _,rfl,o'⟩
  obtain⟨c,m,sm,ec,oc⟩:=key;refine⟨un m h3,λp o z=>?_,?_⟩
  ·unfold un at z
   cases y:m p with
   |some w=>rw[y]at z;cases z;exact jk.l _ _ (sm _ _ y)
   |none=>rw[y]at z;exact jk.r _ _ (s3 _ _ z)
  ·unfold outs;rw[ec]
   unfold ODs;exact⟨v,vs,m,h3,rfl,zao_ (d1 sm),oc,os⟩
theorem zk3_ (g0:G.Ok K){N:List Str}{n m:Nat}{body:List S}(hN:N.length=n+m):
  ∀vs H Q E,CtG K (fnOf G n m body) vs H Q E->S.dens K G E body {nx:=λ_ H'=>Q .non H',rt:=Q} (L2.start N vs) H:=by
 rintro vs H Q E ⟨F,h,ds,hs,dj,sh,os,fin⟩;have nt:=zfC_ os;have ln:=ODs.len os;unfold fnOf at fin;split at fin
 rotate_left
 ·exact fin.elim
 rename_i hd
 have cR:L2.start N vs=vs.map uC++kY m uD:=by unfold L2.start;rw[hN,<- ln,hd,Nat.add_sub_cancel_left]
 rw[cR];have hw:∀(i:Nat) u,wsOf ds vs i=uC u->vs[i]?=uC u:=λi u z=>by
  unfold wsOf at z;split at z
  ·exact z
  ·cases z
 have hp:∀i,pins ds i=uF->wsOf ds vs i=uD:=λi z=>by unfold wsOf;rw[z];rfl
 have gg:∀(i:Nat) d,ds[i]?=uC d->d.cold=uF->wsOf ds vs i=vs[i]?:=λi d e c=>by
  unfold wsOf pins;rw[e];simp[c]
 refine S.sounds g0 body hp _ F (less H h) _ F h H _ (zeN_ m hw os) (zbx_ hs dj sh nt) ?_;cases e:S.runs G (pins ds) body (ds.map uC++kY m uD)with
 |no=>rw[e]at fin;exact fin
 |ex c env=>
  rw[e]at fin;intro σ F' h' H' hL ok;obtain⟨h3,s3,aM⟩:=zbm_ gg os ok.1.1 hL;exact fin F' h3 H' (zdt_ ok s3) aM
 |ok o env=>
  rw[e]at fin;cases o with
  |nx=>
   intro σ F' h' H' hL ok;obtain⟨h3,s3,aM⟩:=zbm_ gg os ok.1.1 hL;exact fin .non F' h3 H' (λ_=>uD) h3 (zdt_ ok s3) (no_l _ λ_=>rfl) (zcK_ λ_=>rfl) aM
  |rt d=>
   intro v σ F' hr h2 h' H' hL od j ok;obtain⟨h3,s3,aM⟩:=zbm_ gg os ok.1.1 hL;have dd:Dj hr h3:=λp=>by rcases j.dj p with z |z;exact .inl z;exact .inr (s3.free z)
   refine fin v F' (un hr h3) H' hr h3 (zdt_ ok λp o z=>?_) (zao_ dd) od aM
   unfold un at z;cases y:hr p with
   |some w=>rw[y]at z;cases z;exact j.l _ _ y
   |none=>rw[y]at z;exact j.r _ _ (s3 _ _ z)
  |ct=>exact fin.elim
  |bk=>exact fin.elim
end
noncomputable def noStar (e:k8):Bool:=e.ctorIdx != 22
def noSup:k8->Bool
 |.Call (.Name x _) [] [] _=>x != "super" |_=>uE
noncomputable def noIf (e:k8):Bool:=e.ctorIdx != 5
noncomputable def noSl (e:k8):Bool:=e.ctorIdx != 26
noncomputable def noSet (e:k8):Bool:=e.ctorIdx != 7
noncomputable def noCmp (e:k8):Bool:=e.ctorIdx<8 ||10<e.ctorIdx
section
variable {env:PySem.Env}{e o:k8}{es:List k8}{pos:Pos}{m:Str}
theorem zj_ (h:noStar e=uE):lJ (e::es) env=(uF,eval e env)::lJ es env:=by
 cases e<;>first |rfl |cases h
theorem zaS_:∀{es:List k8},es.all noStar=uE->lJ es env=es.map λe=>(uF,eval e env)
 |[],_=>rfl
 |e::es,h=>by
  rw[mi,kl]at h;rw[zj_ h.1,zaS_ h.2];rfl
theorem zaf_ (h:es.all noStar=uE):((nX pos (lJ es env)).any λx=>x.1)=uF:=by
 rw[zaS_ h];unfold nX;simp
theorem zjR_ (h:es.all noStar=uE):((nX pos (lJ es env)).all λx=>!x.1)=uE:=by
 rw[zaS_ h];unfold nX;simp
theorem zdq_ (h:noSup o=uE):attributeBase o m env (eval o env)=eval o env:=by
 cases o with
 |Call f es ks q=>cases f with
  |Name id p=>cases es with
   |nil=>cases ks with
    |nil=>
     have h:(id != "super")=uE:=h;unfold attributeBase;dsimp only;rw[h];rfl
    |cons=>rfl
   |cons=>rfl
  |_=>rfl
 |_=>rfl
theorem zlx_ (h:es.all noStar=uE)(hl:es.length<29):methodCallForm (es.length+([]:List Keyword).length) (nX pos (lJ es env)) (qy pos (pv [] env))=uE:=by
 unfold methodCallForm;rw[zjR_ h];simp[pv,qy];lia
theorem zh1_ (h:es.all noStar=uE)(hl:es.length<29):((((nX pos (lJ es env)).all λx=>!x.fst) && (qy pos (pv [] env)).all λx=>x.fst.isSome) && decide ((es.length+([]:List Keyword).length+if([]:List Keyword).isEmpty=uE then 0 else 1)<30))=uE:=zlx_ h hl
theorem zkG_ (h:noSl e=uE):PlainIx e:=λ_ _=>by
 cases e<;>first |rfl |cases h
theorem zaK_ {op:CmpOp}(h:noSet e=uE):behindInMarks op e=uF:=by
 cases e<;>first |rfl |cases h
theorem zcE_ (h:noSet e=uE)(x:aU):foldedSetIterable e env x=pure x:=by
 cases e<;>first |rfl |cases h
theorem zgB_ (h:noCmp e=uE)(t:Option k8)(n:Nat):swapsWith e t n env=pure uF:=by
 cases e<;>first |rfl |cases h
theorem zhs_ {o i:k8}{p:Pos}:swappedStores [.Subscript o i p] e env=pure uD:=by
 unfold swappedStores;rfl
noncomputable def plainT:k8->Bool
 |.UnaryOp .Not ..=>uF |.BoolOp ..=>uF |.IfExp ..=>uF |.Compare ..=>uF |_=>uE
theorem zdT_ (h:plainT e=uE)(whole:Sem aU):isTrue e env whole=(do let v <- whole;standAt e.pos;holding [v] (truthy v)):=by
 cases e with
 |UnaryOp op a p=>cases op<;>first |rfl |cases h
 |_=>first |rfl |cases h
end
structure Ck where
 N:List Str
 nm:List (Str×nA)
structure Ft where
 bs:List Str
 at_:List Str
 gc:List (Str×V)
structure Ft.Ok (T:Ft)(G:Gi)(K:lK)(mg:Str->Option aU):Prop where
 bs:∀x∈T.bs,mg x=uD
 cls:∀c∈G.cs,Cls K (gA K c)
 at_:∀c∈G.cs,∀a∈T.at_,NoAttr K (gA K c) a
 gc:∀q∈T.gc,Gc mg q.1 q.2
 kt:∀q∈G.kt,Gc mg q.1 (.ref (gA K q.1))
inductive Fc where
 |call (f:Fn) (x:Str)|mkd (f:Fn) (c:Str) (dv:List D)
def Fc.H (P:lF)(w:lW)(K:lK)(mg:Str->Option aU)(base:Heap)(k:Nat):Fc->Prop
 |.call f x=>∃ps j,j<=k/\Gd P w K mg base CX0 j x ps (CtG K f)
 |.mkd f c dv=>∃ps j,j+1<=k/\GkD P w K mg base CX0 j c (gA K c) ps ((flats dv).getD []) (CtG K f)
mutual
def X.fcs:X->List Fc
 |.v _=>[]|.k _=>[]|.g _ _=>[]|.gt _ _=>[]
 |.bin _ a b=>a.fcs++b.fcs
 |.ch _ _ a b c=>a.fcs++(b.fcs++c.fcs)
 |.and a b=>a.fcs++b.fcs
 |.or a b=>a.fcs++b.fcs
 |.not a=>a.fcs
 |.neg a=>a.fcs
 |.ifx c a b=>c.fcs++(a.fcs++b.fcs)
 |.sl a lo hi=>a.fcs++(X.fcsO lo++X.fcsO hi)
 |.tup as=>X.fcss as
 |.lst as=>X.fcss as
 |.fld a _=>a.fcs
 |.call f x as=>.call f x::X.fcss as
 |.bf _ as=>X.fcss as
 |.sm _ a as=>a.fcs++X.fcss as
 |.comp _ _ _ src _ c e=>X.fcss src++(X.fcsO c++e.fcs)
 |.lr a b=>a.fcs++b.fcs
 |.li a b=>a.fcs++b.fcs
 |.isa a _=>a.fcs
 |.srt _ _ _ e=>e.fcs
 |.mkd f c as dv=>.mkd f c dv::X.fcss as
 |.ds1 a0 b0=>a0.fcs++b0.fcs
 |.ds2 a0 b0 c0 d0=>a0.fcs++(b0.fcs++(c0.fcs++d0.fcs))
 |.dct0=>[]
 |.ch3 _ _ _ a b c d=>(a.fcs++b.fcs)++(c.fcs++d.fcs)
def X.fcss:List X->List Fc
 |[]=>[]
 |a::as=>a.fcs++X.fcss as
def X.fcsO:Option X->List Fc
 |none=>[]
 |some a=>a.fcs
end
noncomputable def visB:Option nA->Bool
 |some .local=>uE |some .cell=>uE |some .free=>uE |_=>uF
noncomputable def locB:Option nA->Bool
 |some .local=>uE |some .cell=>uE |_=>uF
def nmOk (x:Str):Bool:=!(x=="__debug__") && !(x=="__classdict__")
def glB (c:Ck)(x:Str):Bool:=c.nm.lookup x==uC .globalImplicit && !(x=="__debug__")
def constB (d:D):Const->Bool
 |.int i=>(match d with |.int j=>i == j |_=>uF)
 |.bool b=>(match d with |.bl c=>b == c |_=>uF)
 |.none=>(match d with |.non=>uE |_=>uF)
 |.str x=>(match d with |.str l=>x.cps.toList == l |_=>uF)
 |_=>uF
noncomputable def Bo.op:Bo->Option Operator
 |.add=>uC .Add |.sub=>uC .Sub |.mul=>uC .Mult |.mod=>uC .Mod |.div=>uC .FloorDiv |_=>uD
noncomputable def Bo.cmp:Bo->Option CmpOp
 |.lt=>uC .Lt |.le=>uC .LtE |.gt=>uC .Gt |.ge=>uC .GtE |.eq=>uC .Eq |.ne=>uC .NotEq |.is=>uC .Is |.isn=>uC .IsNot |.inn=>uC .In |.nin=>uC .NotIn |.ned=>uC .NotEq |.gtT=>uC .Gt |.ltL=>uC .Lt |_=>uD
noncomputable def Bo.isIx:Bo->Bool
 |.ix=>uE |_=>uF
noncomputable def Bf.nm:Bf->Str
 |.len => "len" |.list => "list" |.min => "min" |.str => "str" |.all => "all" |.sorted => "sorted"
noncomputable def Sm.nm:Sm->Str
 |.join => "join" |.index => "index" |.zfill => "zfill"
noncomputable def tyNm:String->Option Str
 |"int" => uC "int" |"bool" => uC "bool" |"str" => uC "str" |"list" => uC "list" |"tuple" => uC "tuple" |"dict" => uC "dict" |_=>uD
def relab (nm names:List (Str×nA)):List (Str×nA):=names.map λ(n,k)=>if k == .free && nm.lookup n == uC .cell then(n,.cell)else(n,k)
def tgB (c:Ck)(i:Nat):k8->Bool
 |.Name x _=>c.N[i]? == uC x && locB (c.nm.lookup x)
 |_=>uF
def tgsB (c:Ck):List Nat->List k8->Bool
 |[],[]=>uE
 |i::is,e::es=>tgB c i e && tgsB c is es
 |_,_=>uF
def tgOk (c:Ck)(g:Tg)(e:k8):Bool:=match g.tup,e with
 |true,.Tuple es _ _=>tgsB c g.is es
 |false,e=>g.is.length == 1 && tgB c (g.is.headD 0) e
 |_,_=>uF
def locals? (c:Ck)(g:Tg):Bool:=g.is.all λi=>match c.N[i]? with |some x=>c.nm.lookup x == uC .local |none=>uF
def scB (c:Ck)(sc:Scope)(lv:List Str)(fr:List (Str×Nat)):Bool:=
 sc.names.all (λy=>y.2 != .cell && (y.2 != .free ||c.nm.lookup y.1 == uC .cell ||c.nm.lookup y.1 == uC .free) && (y.2 != .local ||sc.names.lookup y.1 == uC .local)) && sc.kind == .function &&
 fr.all (λq=>c.N[q.2]? == uC q.1 && sc.names.contains (q.1,NameKind.free) && (c.nm.lookup q.1 == uC .cell ||c.nm.lookup q.1 == uC .free) && ((relab c.nm sc.names).lookup q.1 == uC .cell ||(relab c.nm sc.names).lookup q.1 == uC .free)) && decide (cN lv fr).Nodup
def kN:k8->(Str->Bool)->Bool
 |.Name x _,k=>k x |_,_=>uF
def kC:k8->(k8->List k8->Pos->Bool)->Bool
 |.Call f es [] q,k=>k f es q |_,_=>uF
noncomputable def kA:k8->(k8->Str->Pos->Bool)->Bool
 |.Attribute o m p,k=>k o m p |_,_=>uF
def kB:k8->(k8->Operator->k8->Bool)->Bool
 |.BinOp l o r _,k=>k l o r |_,_=>uF
def kM:k8->(k8->List CmpOp->List k8->Bool)->Bool
 |.Compare l o r _,k=>k l o r |_,_=>uF
def kS:k8->(k8->k8->Bool)->Bool
 |.Subscript l r _,k=>k l r |_,_=>uF
def kL:k8->(Option k8->Option k8->Option k8->Bool)->Bool
 |.Slice a b c _,k=>k a b c |_,_=>uF
def kU:k8->(UnaryOp->k8->Bool)->Bool
 |.UnaryOp o x _,k=>k o x |_,_=>uF
def kI:k8->(k8->k8->k8->Bool)->Bool
 |.IfExp t x y _,k=>k t x y |_,_=>uF
noncomputable def kT:k8->(List k8->Bool)->Bool
 |.Tuple es _ _,k=>k es |_,_=>uF
noncomputable def kW:k8->(List k8->Bool)->Bool
 |.List es _,k=>k es |_,_=>uF
def kK:k8->(Const->Bool)->Bool
 |.Constant c _ _,k=>k c |_,_=>uF
def kG:k8->(k8->List Comprehension->Scope->Bool)->Bool
 |.ListComp x g s _,k=>k x g s |_,_=>uF
noncomputable def kDi:k8->Bool
 |.Dict [] [] _=>uE |_=>uF
noncomputable def kDd:k8->(List (Option k8)->List k8->Bool)->Bool
 |.Dict a b _,k=>k a b |_,_=>uF
noncomputable def kco:List (Option k8)->(k8->List (Option k8)->Bool)->Bool
 |some a::l,k=>k a l |_,_=>uF
def kO (o:BoolOp):k8->(k8->k8->Bool->Bool)->Bool
 |.BoolOp o' (x::y::l) p,k=>o' == o && k x (bif l.isEmpty then y else .BoolOp o (y::l) p) l.isEmpty |_,_=>uF
noncomputable def kc:List k8->(k8->List k8->Bool)->Bool
 |a::l,k=>k a l |[],_=>uF
section
variable {e:k8}{C:k8->Prop}
theorem kN_ {k}(h:kN e k=uE)(H:∀x p,k x=uE->C (.Name x p)):C e:=by cases e<;>first |exact H _ _ h |cases h
theorem kC_ {k}(h:kC e k=uE)(H:∀f es q,k f es q=uE->C (.Call f es [] q)):C e:=by
 cases e with
 |Call f es ks q=>cases ks with |nil=>exact H _ _ _ h |cons=>cases h
 |_=>cases h
theorem kA_ {k}(h:kA e k=uE)(H:∀o m p,k o m p=uE->C (.Attribute o m p)):C e:=by cases e<;>first |exact H _ _ _ h |cases h
theorem kB_ {k}(h:kB e k=uE)(H:∀l o r p,k l o r=uE->C (.BinOp l o r p)):C e:=by cases e<;>first |exact H _ _ _ _ h |cases h
theorem kM_ {k}(h:kM e k=uE)(H:∀l o r p,k l o r=uE->C (.Compare l o r p)):C e:=by cases e<;>first |exact H _ _ _ _ h |cases h
theorem kS_ {k}(h:kS e k=uE)(H:∀l r p,k l r=uE->C (.Subscript l r p)):C e:=by cases e<;>first |exact H _ _ _ h |cases h
theorem kL_ {k}(h:kL e k=uE)(H:∀a b c p,k a b c=uE->C (.Slice a b c p)):C e:=by cases e<;>first |exact H _ _ _ _ h |cases h
theorem kU_ {k}(h:kU e k=uE)(H:∀o x p,k o x=uE->C (.UnaryOp o x p)):C e:=by cases e<;>first |exact H _ _ _ h |cases h
theorem kI_ {k}(h:kI e k=uE)(H:∀t x y p,k t x y=uE->C (.IfExp t x y p)):C e:=by cases e<;>first |exact H _ _ _ _ h |cases h
theorem kT_ {k}(h:kT e k=uE)(H:∀es n p,k es=uE->C (.Tuple es n p)):C e:=by cases e<;>first |exact H _ _ _ h |cases h
theorem kW_ {k}(h:kW e k=uE)(H:∀es p,k es=uE->C (.List es p)):C e:=by cases e<;>first |exact H _ _ h |cases h
theorem kK_ {k}(h:kK e k=uE)(H:∀c n p,k c=uE->C (.Constant c n p)):C e:=by cases e<;>first |exact H _ _ _ h |cases h
theorem kG_ {k}(h:kG e k=uE)(H:∀x g s p,k x g s=uE->C (.ListComp x g s p)):C e:=by cases e<;>first |exact H _ _ _ _ h |cases h
theorem kDi_ (h:kDi e=uE)(H:∀p,C (.Dict [] [] p)):C e:=by
 unfold kDi at h;split at h
 ·exact H _
 ·cases h
theorem kDd_ {k}(h:kDd e k=uE)(H:∀a b p,k a b=uE->C (.Dict a b p)):C e:=by cases e<;>first |exact H _ _ _ h |cases h
theorem kco_ {l:List (Option k8)}{C:List (Option k8)->Prop}{k}(h:kco l k=uE)(H:∀a t,k a t=uE->C (uC a::t)):C l:=by
 cases l with
 |nil=>cases h
 |cons a t=>cases a with |none=>cases h |some a=>exact H a t h
theorem kc_ {l:List k8}{C:List k8->Prop}{k}(h:kc l k=uE)(H:∀a t,k a t=uE->C (a::t)):C l:=by cases l with |nil=>cases h |cons a t=>exact H a t h
theorem kO_ {o:BoolOp}{k}(h:kO o e k=uE)(H:∀x y l p,k x (bif l.isEmpty then y else .BoolOp o (y::l) p) l.isEmpty=uE->C (.BoolOp o (x::y::l) p)):C e:=by
 cases e with
 |BoolOp o' es p=>
  cases es with
  |nil=>cases h
  |cons x es=>cases es with
   |nil=>cases h
   |cons y l=>have h:=lP.mp h;cases eq_of_beq h.1;exact H x y l p h.2
 |_=>cases h
end
noncomputable def Ik.isAny:Ik->Bool
 |.any=>uE |_=>uF
noncomputable def Ik.nm:Ik->Str
 |.en => "enumerate" |.zip => "zip" |_ => "range"
noncomputable def Ik.ar:Ik->Nat
 |.r2=>2 |.zip=>2 |_=>1
noncomputable def Ik.tp:Ik->Bool
 |.en=>uE |.zip=>uE |_=>uF
section
variable (T:Ft)(G:Gi)
def srcB (c:Ck)(ik:Ik)(tg:Tg)(it:k8)(k1:Bool)(ks:List k8->Bool):Bool:=bif ik.isAny then k1 else
 kC it λf es _=>kN f λy=>y == ik.nm && es.length == ik.ar && glB c y && T.bs.contains y && (tg.tup || !ik.tp) && ks es
mutual
def chkE:Ck->X->k8->Bool
 |c,.v i,e=>kN e λx=>c.N[i]? == uC x && visB (c.nm.lookup x) && nmOk x
 |c,.k d,e=>kK e (constB d)
 |c,.g x d,e=>kN e λy=>x == y && glB c x && (d.flat?).any λv=>T.gc.contains (x,v)
 |c,.gt x ls,e=>kN e λy=>x == y && glB c x && G.kt.any (λq=>q.1 == x)
 | c,.bin o a b,e=>kB e (λl op r=>o.op == uC op && chkE c a l && chkE c b r)||
   (kM e (λl os rs=>kc rs λr t=>os.map uC == [o.cmp] && t.isEmpty && noSet r && chkE c a l && chkE c b r)||
   kS e (λl r=>o.isIx && noSl r && chkE c a l && chkE c b r))
 |c,.ch o o' a b d,e=>kM e λl os rs=>kc rs λr t=>kc t λr' t'=>os.map uC == [o.cmp,o'.cmp] && t'.isEmpty && noSet r' && chkE c a l && chkE c b r && chkE c d r'
 |c,.and a b,e=>kO .And e λx y l=>noIf x && (!l ||noIf y) && chkE c a x && chkE c b y
 |c,.or a b,e=>kO .Or e λx y l=>noIf x && (!l ||noIf y) && chkE c a x && chkE c b y
 |c,.not a,e=>kU e λo x=>o == .Not && noIf x && chkE c a x
 |c,.neg a,e=>kU e λo x=>o == .USub && chkE c a x
 |c,.ifx d a b,e=>kI e λt x y=>noIf t && chkE c d t && chkE c a x && chkE c b y
 |c,.sl a lo hi,e=>kS e λl r=>kL r λl1 l2 l3=>l3.isNone && chkE c a l && chkO c lo l1 && chkO c hi l2
 |c,.tup as,e=>kT e (chkEs c as)
 |c,.lst as,e=>kW e (chkEs c as)
 |c,.fld a f,e=>kA e λo f' _=>f == f' && T.at_.contains f && noSup o && chkE c a o
 |c,.call f x as,e=>kC e λy es _=>kN y λy=>x == y && glB c x && chkEs c as es
 |c,.bf o as,e=>kC e λy es _=>kN y λy=>y == o.nm && glB c y && T.bs.contains y && !as.isEmpty && chkEs c as es
 |c,.sm o a as,e=>kC e λr es q=>kA r λr m p=>m == o.nm && noSup r && p.endLine == q.line && decide (es.length<29) && !as.isEmpty && chkE c a r && chkEs c as es
 | c,.comp lv fr ik src tg d x,e=>kG e λelt gs sc=>gs.length == 1 && gs.all λq=>q.is_async == 0 && scB c sc lv fr && tgOk ⟨cN lv fr,relab c.nm sc.names⟩ tg q.target && locals? ⟨cN lv fr,relab c.nm sc.names⟩ tg && noSet q.iter &&
   srcB T c ik tg q.iter (chk1 c src q.iter) (λes=>chkEs c src es) && chkIf ⟨cN lv fr,relab c.nm sc.names⟩ d q.ifs && chkE ⟨cN lv fr,relab c.nm sc.names⟩ x elt
 |c,.lr a b,e=>kC e λy es _=>kN y λy=>kc es λr t=>kC r λz xs _=>kN z λz=>kc xs λx t1=>kc t1 λw t2=>y=="list" && z=="range" && t.isEmpty && t2.isEmpty && glB c y && glB c z && T.bs.contains y && T.bs.contains z && noStar x && noStar w && chkE c a x && chkE c b w
 |c,.isa a n,e=>kC e λy es _=>kN y λy=>kc es λx t=>kc t λz t2=>kN z λz=>y=="isinstance" && t2.isEmpty && glB c y && T.bs.contains y && noStar x && tyNm n==uC z && glB c z && T.bs.contains z && chkE c a x
 |c,.li a b,e=>kC e λr es q=>kA r λr m p=>kc es λx t=>m=="index" && noSup r && p.endLine==q.line && t.isEmpty && noStar x && chkE c a r && chkE c b x
 |_,.srt _ _ _ _,_=>uF
 |c,.mkd f k as _,e=>kC e λy es _=>kN y λy=>k == y && glB c y && !es.isEmpty && chkEs c as es
 |c,.ds1 a b,e=>kDd e λks vs=>kco ks λk kt=>kc vs λv vt=>kt.isEmpty && vt.isEmpty && chkE c a k && chkE c b v
 |c,.ds2 a b d f,e=>kDd e λks vs=>kco ks λk kt=>kco kt λl lt=>kc vs λv vt=>kc vt λw wt=>lt.isEmpty && wt.isEmpty && chkE c a k && chkE c b v && chkE c d l && chkE c f w
 |_,.dct0,e=>kDi e
 |c,.ch3 o o' aK a b d f,e=>kM e λl os rs=>kc rs λr t=>kc t λr' t'=>kc t' λbc g_=>os.map uC == [o.cmp,o'.cmp,aK.cmp] && g_.isEmpty && noSet bc && chkE c a l && chkE c b r && chkE c d r' && chkE c f bc
def chk1:Ck->List X->k8->Bool
 |_,[],_=>uF
 |c,a::as,e=>as.isEmpty && chkE c a e
def chkEs:Ck->List X->List k8->Bool
 |_,[],es=>es.isEmpty
 |c,a::as,es=>kc es λe es=>noStar e && chkE c a e && chkEs c as es
def chkO:Ck->Option X->Option k8->Bool
 |_,uD,e=>e.isNone
 |c,uC a,e=>e.any (chkE c a)
def chkIf:Ck->Option X->List k8->Bool
 |_,uD,es=>es.isEmpty
 |c,uC a,es=>kc es λe t=>t.isEmpty && noIf e && chkE c a e
end
end
theorem zie_ {X:Cx}{E:XK}:Passes CX0 X E:=λ_ _ _ _ _ _ _ h=>h.elim
structure Cg (Z:Cx)(c:Ck)(k:Nat)(E:XK):Prop where
 N:Z.N=c.N
 nm:Z.env.scope.names=c.nm
 kind:Z.env.scope.kind=.function
 calm:Z.calm=uE
 room:Room k Z.A
 pass:Passes CX0 Z E
 cells:∀x,(c.nm.lookup x=uC .cell\/c.nm.lookup x=uC .free)->∃a,Z.env.cells.lookup x=uC a
section
variable {Z:Cx}{c:Ck}{k:Nat}{E:XK}{x m:Str}{e o:k8}{es:List k8}{t:TE}{ta:TA}{p pos apos:Pos}
theorem Cg.units (g:Cg Z c k E):Z.A.units+60<cLine:=by have:=g.room.un;lia
theorem zp1_ (g:Cg Z c k E)(h:visB (c.nm.lookup x)=uE):Vis Z.env.scope x:=by
 unfold Vis;rw[g.nm]
 revert h;cases c.nm.lookup x with
 |none=>intro h;cases h
 |some k=>cases k<;>intro h<;>first |exact .inl rfl |exact .inr (.inl rfl)|exact .inr (.inr rfl)|cases h
theorem zn1_ (g:Cg Z c k E)(h:locB (c.nm.lookup x)=uE):L2.Loc Z.env.scope x:=by
 unfold L2.Loc;rw[g.nm]
 revert h;cases c.nm.lookup x with
 |none=>intro h;cases h
 |some k=>cases k<;>intro h<;>first |exact .inl rfl |exact .inr rfl |cases h
theorem zhc_ (g:Cg Z c k E)(h:glB c x=uE):Gl Z x/\(x==("__debug__":Str))=uF:=by
 unfold glB at h;rw[kl]at h;refine⟨?_,by simpa using h.2⟩
 unfold Gl pj;rw[g.nm];exact eq_of_beq h.1
structure Rd (Z:Cx)(e:k8)(t:TE):Prop where
 pe:PE Z e t
 pt:noIf e=uE->PT Z e (mTest t)
 pw:∀op vs p,e=.BoolOp op vs p->PW Z e (mTest t)
theorem zg_ (h:PE Z e t)(hp:plainT e=uE):Rd Z e t:=⟨h,λ_=>zmS_ h (zdT_ hp),λop vs p z=>by rw[z]at hp;cases hp⟩
theorem rd_if (h:PE Z e t)(hp:noIf e=uF):Rd Z e t:=⟨h,(λz=>by rw[hp]at z;cases z),(λop vs p z=>by rw[z]at hp;cases hp)⟩
theorem zno_ {a b:k8}{t1 t2:TE}{op:CmpOp}{r:R2}(ho:OpR Z (lp op) r)(ha:Rd Z a t1)(hb:Rd Z b t2)(hs:noSet b=uE):Rd Z (.Compare a [op] [b] pos) (tOp r t1 t2):=
 ⟨zm3_ ho ha.pe hb.pe (zaK_ hs),λ_=>zl6_ ho ha.pe hb.pe (zaK_ hs),λ_ _ _ z=>by cases z⟩
theorem zkE_ {a b d:k8}{t1 t2 t3:TE}{op aG:CmpOp}{r r':R2}(ho:OpR Z (lp op) r)(aI:OpR Z (lp aG) r')(ha:Rd Z a t1)(hb:Rd Z b t2)(hd:Rd Z d t3)(hs:noSet d=uE):Rd Z (.Compare a [op,aG] [b,d] pos) (mChain r r' t1 t2 t3):=
 ⟨zh0_ ho aI ha.pe hb.pe hd.pe (zaK_ hs),λ_=>zhH_ ho aI ha.pe hb.pe hd.pe (zaK_ hs),λ_ _ _ z=>by cases z⟩
theorem zgu_ (t1 t2:TE):mTest (mAndV t1 t2)=mAnd (mTest t1) (mTest t2):=by
 funext σ H Q;exact congrArg (t1 σ H) (funext λx=>funext λH1=>by cases x<;>rfl)
theorem zjb_ (t1 t2:TE):mTest (mOrV t1 t2)=mOr (mTest t1) (mTest t2):=by
 funext σ H Q;exact congrArg (t1 σ H) (funext λx=>funext λH1=>by cases x<;>rfl)
theorem zku_ (t1:TE):mTest (mNotV t1)=tNot (mTest t1):=by
 funext σ H Q;exact congrArg (t1 σ H) (funext λx=>funext λH1=>by cases x<;>rfl)
theorem zeJ_ {op:BoolOp}{vs:List k8}(h:PE Z (.BoolOp op vs pos) t)(h2:PW Z (.BoolOp op vs pos) (mTest t)):Rd Z (.BoolOp op vs pos) t:=⟨h,λ_=>h2.pt,λ_ _ _ _=>h2⟩
theorem zlD_ {a b:k8}{t1 t2:TE}(ha:Rd Z a t1)(hb:Rd Z b t2)(na:noIf a=uE)(nb:noIf b=uE):Rd Z (.BoolOp .And [a,b] pos) (mAndV t1 t2):=
 zeJ_ (zi6_ ha.pe (zoc_ hb.pe)) (by rw[zgu_];exact zjC_ (ha.pt na) (zmE_ (hb.pt nb)))
theorem zqj_ {a b d:k8}{r:List k8}{t1 t2:TE}(ha:Rd Z a t1)(hb:Rd Z (.BoolOp .And (b::d::r) pos) t2)(na:noIf a=uE):Rd Z (.BoolOp .And (a::b::d::r) pos) (mAndV t1 t2):=
 zeJ_ (zi6_ ha.pe hb.pe) (by rw[zgu_];exact zjC_ (ha.pt na) (hb.pw _ _ _ rfl))
theorem zo5_ {a b:k8}{t1 t2:TE}(ha:Rd Z a t1)(hb:Rd Z b t2)(na:noIf a=uE)(nb:noIf b=uE):Rd Z (.BoolOp .Or [a,b] pos) (mOrV t1 t2):=
 zeJ_ (zot_ ha.pe (zoc_ hb.pe)) (by rw[zjb_];exact zlU_ (ha.pt na) (zqb_ (hb.pt nb)))
theorem rd_or {a b d:k8}{r:List k8}{t1 t2:TE}(ha:Rd Z a t1)(hb:Rd Z (.BoolOp .Or (b::d::r) pos) t2)(na:noIf a=uE):Rd Z (.BoolOp .Or (a::b::d::r) pos) (mOrV t1 t2):=
 zeJ_ (zot_ ha.pe hb.pe) (by rw[zjb_];exact zlU_ (ha.pt na) (hb.pw _ _ _ rfl))
theorem zn4_ {a:k8}{t1:TE}(ha:Rd Z a t1)(na:noIf a=uE):Rd Z (.UnaryOp .Not a pos) (mNotV t1):=
 ⟨zmK_ ha.pe,λ_=>by rw[zku_];exact zqO_ (ha.pt na),λ_ _ _ z=>by cases z⟩
theorem bo_op {b:Bo}{op:Operator}(h:b.op=uC op):OpR Z (nj op) (b.r Z.K):=by
 cases b<;>cases h
 ·exact zof_
 ·exact zmA_
 ·exact zlW_
 ·exact znt_
 ·exact zl3_
theorem zd9_ (hu:Z.A.units+60<cLine){b:Bo}{op:CmpOp}(h:b.cmp=uC op):OpR Z (lp op) (b.r Z.K):=by
 cases b<;>cases h
 ·exact zoX_
 ·exact zqp_
 ·exact zpv_
 ·exact zq6_
 ·exact zpN_ hu
 ·exact zrs_ hu
 ·exact zpg_
 ·exact zhW_
 ·exact zqe_ hu
 ·exact zhV_ hu
 ·exact zmV_ hu
 ·exact zpI_
 ·exact zoN_ hu
theorem zkJ_ {d:D}{kc:Const}{j:Nat}(h:constB d kc=uE):PE Z (.Constant kc j pos) (tC (d.flat?.getD .non)):=by
 cases kc with
 |int i=>cases d<;>first |(cases eq_of_beq h;exact zpm_)|cases h
 |bool b=>cases d<;>first |(cases eq_of_beq h;exact pe_bl)|cases h
 |none=>cases d<;>first |exact zqF_ |cases h
 |str z=>cases d<;>first |(have h:=eq_of_beq h;subst h;exact zqH_ (by cases z;rfl))|cases h
 |_=>cases h
theorem zkV_ {sp:Sp}{ps:List Str}{j:Nat}(F:Gd Z.prog Z.w Z.K Z.mg Z.base CX0 j x ps sp)(hr:Room j Z.A)(hx:Passes CX0 Z E)(ha:PA Z es ta)(hs:es.all noStar=uE)(hg:Gl Z x)(hd:(x==("__debug__":Str))=uF)(h0:es=[]->ta=tNil):
  PE Z (.Call (.Name x p) es [] pos) (tCall sp [] E ta):=by
 cases es with
 |nil=>
  rw[h0 rfl];obtain⟨f,fd,F,hm,hk,hb⟩:=F;exact zkR_ F hr hg hm hk hb .nil hx hd
 |cons e es=>
  rw[mi,kl]at hs;obtain⟨f,fd,F,hm,hk,hb⟩:=F;exact zlI_ F hr hg hm hk hb .nil hx ha hd (zj_ hs.1) (zaf_ hs.2)
theorem bf_pe (g:Cg Z c k E){b:Bf}(hm:Z.mg b.nm=uD)(ha:PA Z es ta)(hs:es.all noStar=uE)(h0:es≠[])(hg:glB c b.nm=uE):PE Z (.Call (.Name b.nm p) es [] pos) (tCB (b.r Z.K) ta):=by
 obtain⟨g1,g2⟩:=zhc_ g hg;cases es with
 |nil=>exact absurd rfl h0
 |cons e es=>
  rw[mi,kl]at hs;have s1:=zj_ (env:=Z.env) (es:=es) hs.1;have s2:=zaf_ (env:=Z.env) (pos:=pos) hs.2;cases b with
  |len=>exact zlZ_ zhZ_ hm ha g1 rfl (by decide) g2 s1 s2
  |list=>exact zoF_ "list" (zgU_ g.calm) hm ha g1 rfl (by decide) g2 s1 s2
  |min=>exact zlZ_ (zii_ g.calm) hm ha g1 rfl (by decide) g2 s1 s2
  |str=>exact zoF_ "str" ziy_ hm ha g1 rfl (by decide) g2 s1 s2
  |all=>exact zlZ_ (zh8_ g.calm) hm ha g1 rfl (by decide) g2 s1 s2
  |sorted=>exact zlZ_ (zgM_ g.calm) hm ha g1 rfl (by decide) g2 s1 s2
theorem sm_pe {b:Sm}(ho:PE Z o t)(ha:PA Z es ta)(hs:es.all noStar=uE)(hb:noSup o=uE)(hl:(apos.endLine==pos.line)=uE)(hn:es.length<29)(h0:es≠[]):PE Z (.Call (.Attribute o b.nm apos) es [] pos) (tBM Z.K "str" (b.r Z.K) t ta):=by
 cases es with
 |nil=>exact absurd rfl h0
 |cons e es=>
  have f:=zh1_ (env:=Z.env) (pos:=pos) hs hn;rw[mi,kl]at hs;have s1:=zj_ (env:=Z.env) (es:=es) hs.1;have s2:=zaf_ (env:=Z.env) (pos:=pos) hs.2;have b0:=λn=>zdq_ (env:=Z.env) (m:=n) hb
  cases b with
  |join=>exact zro_ zfv_ zfx_ zlJ_ ho ha (b0 _) f hl s1 s2
  |index=>exact zro_ zeg_ zem_ zjV_ ho ha (b0 _) f hl s1 s2
  |zfill=>exact zro_ zdZ_ zd7_ zka_ ho ha (b0 _) f hl s1 s2
variable {T:Ft}{G:Gi}
theorem zbg_ {cells:List (Str×kz)}:∀(names:List (Str×nA)) (acc:List (Str×kz)),(∀y∈names,y.2=.free->∃a,cells.lookup y.1=uC a)->∃cl,closeL cells names acc=uC cl
 |[],acc,_=>⟨acc,rfl⟩
 |(n,k)::r,acc,h=>by
  unfold closeL;split
  ·rename_i hk
   obtain⟨a,ha⟩:=h (n,k) (lA ..) (eq_of_beq hk);rw[show cells.lookup n=uC a from ha]
   exact zbg_ r _ λy hy=>h y (lu _ hy)
  ·exact zbg_ r _ λy hy=>h y (lu _ hy)
theorem zeE_ (g:Cg Z c k E){sc:Scope}:(relabel sc Z.env).names=relab c.nm sc.names:=by
 unfold relabel relab pj;rw[g.kind,g.nm];simp
theorem zg0_ (g:Cg Z c k E){sc:Scope}{lv:List Str}{fr:List (Str×Nat)}(h:scB c sc lv fr=uE):
  (cN lv fr).Nodup/\∃cl,CScope Z sc cl lv fr/\∀C fp s2 H2,Cg (cxComp Z sc cl C (cN lv fr) fp s2 H2) ⟨cN lv fr,relab c.nm sc.names⟩ k E0:=by
 unfold scB at h;rw[kl,kl,kl]at h;obtain⟨⟨⟨h1,h2⟩,h3⟩,h4⟩:=h;have h1:=me.mp h1;have h3:=me.mp h3;have h2:sc.kind=.function:=eq_of_beq h2;have hc:∀y∈sc.names,y.2≠.cell:=λy hy=>by have:=h1 y hy;simp at this;exact this.1.1
 have hf:∀y∈sc.names,y.2=.free->c.nm.lookup y.1=uC .cell\/c.nm.lookup y.1=uC .free:=λy hy z=>by
  have:=h1 y hy;simp[z]at this;exact this
 obtain⟨cl,aS⟩:=zbg_ (cells:=Z.env.cells) sc.names [] λy hy z=>g.cells _ (hf y hy z)
 refine⟨of_decide_eq_true h4,cl,⟨aS,hc,h2,λz hz e=>?_,λq hq=>?_⟩,λC fp s2 H2=>⟨rfl,zeE_ g,h2,g.calm,g.room,zie_,λx hx=>?_⟩⟩
 ·have:=h1 z hz;simp[e]at this;exact this
 ·have:=h3 q hq
  simp at this;obtain⟨⟨⟨a,b⟩,d⟩,e⟩:=this;unfold pj;rw[g.N,g.nm,zeE_ g];exact⟨a,b,d,e⟩
 ·have hx:(relabel sc Z.env).names.lookup x=uC .cell\/(relabel sc Z.env).names.lookup x=uC .free:=by rw[zeE_ g];exact hx
  have hm:(x,NameKind.free)∈sc.names:=hx.elim (λz=>zaI_ z (.inl rfl) hc) λz=>zaI_ z (.inr rfl) hc
  exact z0_ sc.names [] cl aS x (.inl hm)
theorem zkI_ (g:Cg Z c k E)(nd:c.N.Nodup){i:Nat}(hf:(∀x,Z.fn x=uE)\/∀x,c.N[i]?=uC x->c.nm.lookup x=uC .local)(h:tgB c i e=uE):PG Z e (gName i)/\∃x p,e=.Name x p:=by
 unfold tgB at h;split at h
 ·rename_i x p
  rw[kl]at h;have hi:c.N[i]?=uC x:=eq_of_beq h.1;exact⟨znB_ (by rw[g.N];exact nd) (by rw[g.N];exact hi) (zn1_ g h.2) (hf.elim (λz=>.inl (z x)) λz=>.inr (by rw[g.nm];exact z x hi)),x,p,rfl⟩
 ·cases h
theorem zm5_ (g:Cg Z c k E)(nd:c.N.Nodup):∀{is:List Nat}{es:List k8},((∀x,Z.fn x=uE)\/∀i∈is,∀x,c.N[i]?=uC x->c.nm.lookup x=uC .local)->tgsB c is es=uE->PGs Z es (tgS is)/\(mZ es Z.env).length=is.length/\(mZ es Z.env).findIdx? (·.1)=uD
 |[],[],_,_=>⟨zkj_,rfl,rfl⟩
 |[],_::_,_,h=>by cases h
 |_::_,[],_,h=>by cases h
 |i::is,e::es,hf,h=>by
  unfold tgsB at h;rw[kl]at h;obtain⟨h1,x,p,rfl⟩:=zkI_ g nd (i:=i) (hf.imp id λz=>z i (lA ..)) h.1
  obtain⟨a,b,d⟩:=zm5_ g nd (is:=is) (es:=es) (hf.imp id λz j hj=>z j (lu _ hj)) h.2
  refine⟨zh9_ h1 a,?_,?_⟩
  ·show(mZ es Z.env).length+1=_;rw[b];rfl
  ·show List.findIdx? _ ((uF,_)::mZ es Z.env)=uD
   rw[List.findIdx?_cons];simp[d]
theorem tg_ok (g:Cg Z c k E)(nd:c.N.Nodup){tg:Tg}(hf:(∀x,Z.fn x=uE)\/locals? c tg=uE)(h:tgOk c tg e=uE):PG Z e (tgT Z.K tg):=by
 have hf:(∀x,Z.fn x=uE)\/∀i∈tg.is,∀x,c.N[i]?=uC x->c.nm.lookup x=uC .local:=hf.imp id λz i hi x hx=>by
  have:=me.mp z i hi;rw[hx]at this;exact eq_of_beq this
 unfold tgOk at h;unfold tgT;split at h
 ·rename_i es _ _ ht
  rw[if_pos ht];obtain⟨a,b,d⟩:=zm5_ g nd hf h;exact zou_ g.calm a b d
 ·rename_i ht
  rw[if_neg (by rw[ht];decide)]
  rw[kl]at h;refine(zkI_ g nd (hf.imp id λz=>?_) h.2).1
  have hl:=eq_of_beq h.1;cases hi:tg.is with
  |nil=>rw[hi]at hl;cases hl
  |cons i r=>rw[hi]at z;exact z i (lA ..)
 ·cases h
theorem znL_ {f:Str}(hc:∀d∈G.cs,Cls Z.K (gA Z.K d)/\NoAttr Z.K (gA Z.K d) f)(he:PE Z e t)(hb:noSup e=uE):PE Z (.Attribute e f pos) (tFld Z.K G.cs t f):=by
 intro pins s σ H Q I h;obtain⟨d,hd,h⟩:=h;exact zmZ_ (hc d hd).1 (hc d hd).2 he (zdq_ hb) pins s σ H Q I h
theorem zqE_ (g:Cg Z c k E){n:String}{y:Str}{p1 p2:Pos}(ha:PE Z e t)(he:noStar e=uE)(h1:glB c "isinstance"=uE)(h2:Z.mg "isinstance"=uD)(hn:tyNm n=uC y)(h3:glB c y=uE)(h4:Z.mg y=uD):PE Z (.Call (.Name "isinstance" p1) [e,.Name y p2] [] pos) (tCB (mIsaV Z.K) (tCons t (tCons (tC (.ty n)) tNil))):=by
 obtain⟨g1,g2⟩:=zhc_ g h1;obtain⟨g3,g4⟩:=zhc_ g h3;have hb:nr y=uC (.type n)/\y ≠ "__name__":=by
  unfold tyNm at hn;split at hn<;>cases hn<;>exact⟨rfl,by decide⟩
 exact zlZ_ zh2_ h2 (zbH_ ha (zbH_ (pe_ty n h4 g3 hb.1 hb.2 g4) zfA_ (zj_ rfl)) (zj_ he)) g1 rfl (by decide) g2 (zj_ he) (zaf_ rfl)
theorem zgx_ {a b c d:k8}{ta tb tc td:TE}{op aG aF:CmpOp}{r r' bc:R2}(ho:OpR Z (lp op) r)(aI:OpR Z (lp aG) r')(bz:OpR Z (lp aF) bc)(ha:PE Z a ta)(hb:PE Z b tb)(hc:PE Z c tc)(hd:PE Z d td)
  (hm:lastMarks [op,aG,aF] [b,c,d]=uF):PT Z (.Compare a [op,aG,aF] [b,c,d] pos) (mTest (mChain3 r r' bc ta tb tc td)):=by
 intro pins s σ H Q I h;refine isTrue_chain (thn (ha pins s σ H _ I h) λv s1 ⟨x,H1,I1,r1,q1⟩=>test_link (thn (hb pins s1 σ H1 _ I1 q1) λu s2 ⟨y,H2,I2,r2,q2⟩=>
  thn (ho pins s2 σ H2 x y v u _ I2 r1 r2 q2) λd s3 ⟨z,H3,I3,r3,q3⟩=>?_)) hm
 cases z with
 |bl k=>
  cases r3;refine lR ?_;cases k with
  |false=>exact ite_ff ⟨H3,I3,q3.2 rfl⟩
  |true=>
   refine ite_tt (test_link (thn (hc pins s3 σ H3 _ I3 (q3.1 rfl)) λw' s4 ⟨z',H4,I4,r4,q4⟩=>thn (aI pins s4 σ H4 y z' u w' _ I4 r2 r4 q4) λd' s5 af=>?_))
   obtain⟨z2,H5,I5,r5,q5⟩:=af;cases z2 with
   |bl k2=>
    cases r5;refine lR ?_;cases k2 with
    |false=>exact ite_ff ⟨H5,I5,q5.2 rfl⟩
    |true=>
     refine ite_tt (test_last (thn (hd pins s5 σ H5 _ I5 (q5.1 rfl)) λw2 s6 ⟨z3,H6,I6,r6,q6⟩=>thn (bz pins s6 σ H6 z' z3 w' w2 _ I6 r4 r6 q6) λd' s7 af=>?_))
     obtain⟨z4,H7,I7,r7,q7⟩:=af;cases z4 with
     |bl k4=>cases r7;exact lR ⟨H7,I7,q7⟩
     |_=>exact q7.elim
   |_=>exact q5.elim
 |_=>exact q3.elim
theorem zpj_ {a b d f:k8}{t1 t2 t3 t4:TE}{op aG aF:CmpOp}{r r' bc:R2}(ho:OpR Z (lp op) r)(aI:OpR Z (lp aG) r')(bz:OpR Z (lp aF) bc)(ha:Rd Z a t1)(hb:Rd Z b t2)(hd:Rd Z d t3)(hf:Rd Z f t4)(hs:noSet f=uE):Rd Z (.Compare a [op,aG,aF] [b,d,f] pos) (mChain3 r r' bc t1 t2 t3 t4):=
 ⟨zhx_ ho aI bz ha.pe hb.pe hd.pe hf.pe (zaK_ hs),λ_=>zgx_ ho aI bz ha.pe hb.pe hd.pe hf.pe (zaK_ hs),λ_ _ _ z=>by cases z⟩
theorem os1 {os:List CmpOp}{a:Option CmpOp}(h:[a]=os.map uC):∃x,a=uC x/\os=[x]:=by
 cases os with
 |nil=>cases h
 |cons x l=>cases l with |nil=>cases h;exact⟨x,rfl,rfl⟩|cons=>cases h
theorem os2 {os:List CmpOp}{a b:Option CmpOp}(h:[a,b]=os.map uC):∃x y,a=uC x/\b=uC y/\os=[x,y]:=by
 cases os with
 |nil=>cases h
 |cons x l=>
  obtain⟨y,rfl,rfl⟩:=os1 (pX h).2;exact⟨x,y,(pX h).1,rfl,rfl⟩
theorem os3 {os:List CmpOp}{a b d:Option CmpOp}(h:[a,b,d]=os.map uC):∃x y z,a=uC x/\b=uC y/\d=uC z/\os=[x,y,z]:=by
 cases os with
 |nil=>cases h
 |cons x l=>
  obtain⟨y,z,rfl,rfl,rfl⟩:=os2 (pX h).2;exact⟨x,y,z,(pX h).1,rfl,rfl,rfl⟩
theorem zr_:∀{as:List X}{es:List k8},chkEs T G c as es=uE->es.all noStar=uE/\(es=[]↔as=[])
 |[],es,h=>by
  unfold chkEs at h;rw[lN.mp h];exact⟨rfl,uA.trans ⟨λ_=>rfl,λ_=>rfl⟩⟩
 |a::as,es,h=>by
  apply kc_ h;intro e es h;simp only[kl]at h;exact⟨by rw[mi,h.1.1,(zr_ h.2).1];rfl,(λz=>by cases z),(λz=>by cases z)⟩
theorem zko_ {K:lK}{as:List X}(h:chkEs T G c as es=uE)(h0:es=[]):X.dens K G E as=tNil:=by rw[(zr_ h).2.mp h0,X.dens]
theorem zlS_ {as:List X}(h:chkEs T G c as es=uE)(h0:(!as.isEmpty)=uE):es≠[]:=λz=>by
 rw[(zr_ h).2.mp z]at h0;cases h0
theorem zh4_ {os:List CmpOp}{l:List (Option CmpOp)}(h:(os.map uC == l)=uE):l=os.map uC:=(eq_of_beq h).symm
abbrev AllH (Z:Cx)(k:Nat)(l:List Fc):Prop:=∀φ∈l,φ.H Z.prog Z.w Z.K Z.mg Z.base k
theorem AllH.l {a b:List Fc}(h:AllH Z k (a++b)):AllH Z k a:=λφ cu=>h φ (oz _ cu)
theorem AllH.r {a b:List Fc}(h:AllH Z k (a++b)):AllH Z k b:=λφ cu=>h φ (lE _ cu)
theorem zmW_ {tg:Tg}(h:tgOk c tg e=uE)(ht:tg.tup=uE):∃es k p,e=.Tuple es k p:=by
 unfold tgOk at h;split at h
 ·exact⟨_,_,_,rfl⟩
 ·rename_i z;rw[z]at ht;cases ht
 ·cases h
theorem zmi_ {ik:Ik}{src:List X}{tg:Tg}{t it:k8}{k1:Bool}{ks:List k8->Bool}(fo:T.Ok G Z.K Z.mg)(g:Cg Z c k E)(h3:tg.tup=uE->∃es k p,t=.Tuple es k p)(h:srcB T c ik tg it k1 ks=uE)
  (H0:k1=uE->∃s,src=[s]/\PE Z it (s.den Z.K G E)) (H1:∀es,ks es=uE->PA Z es (X.dens Z.K G E src)/\es.all noStar=uE):PI Z t it (ik.t Z.K (X.dens Z.K G E src)):=by
 unfold srcB at h;cases ha:ik.isAny with
 |true=>
  rw[ha,cond_true]at h;obtain⟨s,rfl,hs⟩:=H0 h;cases ik<;>first |exact zoZ_ hs |cases ha
 |false=>
  rw[ha,cond_false]at h;apply kC_ h;intro f es q h;apply kN_ h;intro y p h;simp only[kl]at h;obtain⟨⟨⟨⟨⟨h1,h2⟩,h4⟩,h5⟩,h6⟩,h7⟩:=h;obtain⟨pa,st⟩:=H1 es h7;have b:=fo.bs y (by simpa using h5)
  have gl:=(zhc_ g h4).1;have hy:=eq_of_beq h1;have hl:=eq_of_beq h2;have tp:ik.tp=uE->∃es k p,t=.Tuple es k p:=λz=>h3 (by rw[z]at h6;simpa using h6)
  have sm:=zaS_ (env:=Z.env) st;cases ik with
  |any=>cases ha
  |r1=>obtain⟨a,rfl⟩:=mT.mp hl;cases hy;exact zlk_ b pa gl sm
  |r2=>match es,hl with |[a,d],_=>cases hy;exact zkS_ b pa gl sm (zaS_ (by rw[mi,kl]at st;exact st.2))
  |en=>obtain⟨a,rfl⟩:=mT.mp hl;cases hy;obtain⟨_,_,_,rfl⟩:=tp rfl;exact znV_ b pa gl sm
  |zip=>match es,hl with |[a,d],_=>cases hy;obtain⟨_,_,_,rfl⟩:=tp rfl;exact zma_ b pa gl sm (zaS_ (by rw[mi,kl]at st;exact st.2))
theorem zji_ (lv:List Str)(fr:List (Str×Nat))(ik:Ik)(src:List X)(tg:Tg)(d:Option X)(x:X)
  (H0:∀{Z:Cx}{c:Ck}{E:XK}{e:k8},T.Ok G Z.K Z.mg->Cg Z c k E->AllH Z k (X.fcss src)->chk1 T G c src e=uE->∃s,src=[s]/\PE Z e (s.den Z.K G E))
  (H1:∀{Z:Cx}{c:Ck}{E:XK}{es:List k8},T.Ok G Z.K Z.mg->Cg Z c k E->AllH Z k (X.fcss src)->chkEs T G c src es=uE->PA Z es (X.dens Z.K G E src))
  (H2:∀{Z:Cx}{c:Ck}{E:XK}{es:List k8},T.Ok G Z.K Z.mg->Cg Z c k E->AllH Z k (X.fcsO d)->chkIf T G c d es=uE->PIf Z es (X.denT Z.K G E d))
  (H3:∀{Z:Cx}{c:Ck}{E:XK}{e:k8},T.Ok G Z.K Z.mg->Cg Z c k E->AllH Z k x.fcs->chkE T G c x e=uE->Rd Z e (x.den Z.K G E)):∀{Z:Cx}{c:Ck}{E:XK}{e:k8},T.Ok G Z.K Z.mg->Cg Z c k E->AllH Z k (X.comp lv fr ik src tg d x).fcs->chkE T G c (.comp lv fr ik src tg d x) e=uE ->
  ∃t it ifs elt sc pos,e=.ListComp elt [⟨t,it,ifs,0⟩] sc pos/\∃cl,CScope Z sc cl lv fr/\PI Z t it (ik.t Z.K (X.dens Z.K G E src))/\(∀C fp s2 H2,PG (cxComp Z sc cl C (cN lv fr) fp s2 H2) t (tgT Z.K tg)) /\
   (∀C fp s2 H2,PIf (cxComp Z sc cl C (cN lv fr) fp s2 H2) ifs (X.denT Z.K G E0 d))/\(∀C fp s2 H2,PE (cxComp Z sc cl C (cN lv fr) fp s2 H2) elt (x.den Z.K G E0))/\noSet it=uE:=by
 intro Z c E e fo g fs h;apply kG_ h;intro elt gs sc pos h;rw[kl]at h;obtain⟨⟨t,it,ifs,as⟩,rfl⟩:=mT.mp (eq_of_beq h.1);have h:=h.2;rw[mi,List.all_nil,sV]at h;simp only[kl]at h;obtain⟨⟨⟨⟨⟨⟨⟨h1,h2⟩,h3⟩,h4⟩,h5⟩,h6⟩,h7⟩,h8⟩:=h;cases eq_of_beq h1;obtain⟨nd,cl,S,cg⟩:=zg0_ g h2
 exact⟨t,it,ifs,elt,sc,pos,rfl,cl,S,zmi_ fo g (zmW_ h3) h6 (H0 fo g fs.l) λes z=>⟨H1 fo g fs.l z,(zr_ z).1⟩,λC fp s2 H2=>tg_ok (Z:=cxComp Z sc cl C (cN lv fr) fp s2 H2) (cg C fp s2 H2) nd (.inr h4) h3,λC fp s2 iM=>H2 (Z:=cxComp Z sc cl C (cN lv fr) fp s2 iM) fo (cg C fp s2 iM) fs.r.l h7,
   λC fp s2 H2=>(H3 (Z:=cxComp Z sc cl C (cN lv fr) fp s2 H2) fo (cg C fp s2 H2) fs.r.r h8).pe,h5⟩
mutual
theorem za_:∀(x:X) {Z:Cx}{c:Ck}{E:XK}{e:k8},T.Ok G Z.K Z.mg->Cg Z c k E->AllH Z k x.fcs->chkE T G c x e=uE->Rd Z e (x.den Z.K G E)
 |.v i,Z,c,E,e,fo,g,fs,h=>by
  apply kN_ h;intro x p h;rw[kl,kl]at h;have h3:=h.2;unfold nmOk at h3;rw[kl]at h3;exact zg_ (zow_ i (by rw[g.N];exact eq_of_beq h.1.1) (zp1_ g h.1.2) (by simpa using h3.1) (by simpa using h3.2)) rfl
 |.k d,Z,c,E,e,fo,g,fs,h=>by
  apply kK_ h;intro x n p h;exact zg_ (zkJ_ h) rfl
 |.g x d,Z,c,E,e,fo,g,fs,h=>by
  show Rd Z e (tC (d.flat?.getD .non))
  apply kN_ h;intro y p h;rw[kl,kl]at h;cases eq_of_beq h.1.1;obtain⟨g1,g2⟩:=zhc_ g h.1.2;have h2:=h.2;cases hv:d.flat? with
  |none=>rw[hv]at h2;cases h2
  |some v=>rw[hv]at h2;exact zg_ (pe_gc (fo.gc _ (by simpa using h2)) g1 g2) rfl
 |.gt x ls,Z,c,E,e,fo,g,fs,h=>by
  apply kN_ h;intro y p h;rw[kl,kl]at h;cases eq_of_beq h.1.1;obtain⟨g1,g2⟩:=zhc_ g h.1.2;obtain⟨q,hq,e⟩:=qa.mp h.2;have:=fo.kt q hq;rw[eq_of_beq e]at this;exact zg_ (pe_gc this g1 g2) rfl
 |.bin o a b,Z,c,E,e,fo,g,fs,h=>by
  rcases(nO _ _).mp h with h |h
  rotate_left
  rcases(nO _ _).mp h with h |h
  rotate_right
  ·apply kB_ h;intro l op r p h
   simp only[kl]at h;exact zg_ (pe_op (bo_op (eq_of_beq h.1.1)) (za_ a fo g fs.l h.1.2).pe (za_ b fo g fs.r h.2).pe) rfl
  ·apply kM_ h;intro l os rs p h
   apply kc_ h;intro r t h;simp only[kl]at h;cases lN.mp h.1.1.1.2;obtain⟨op,ho,rfl⟩:=os1 (zh4_ h.1.1.1.1);exact zno_ (zd9_ g.units ho) (za_ a fo g fs.l h.1.2) (za_ b fo g fs.r h.2) h.1.1.2
  ·apply kS_ h;intro l r p h
   simp only[kl]at h;have ho:o=.ix:=by
    have:=h.1.1.1;cases o<;>first |rfl |cases this
   subst ho;exact zg_ (pe_ix (ix_A g.units) (za_ a fo g fs.l h.1.2).pe (za_ b fo g fs.r h.2).pe (zkG_ h.1.1.2)) rfl
 |.ch o o' a b d,Z,c,E,e,fo,g,fs,h=>by
  apply kM_ h;intro l os rs p h;apply kc_ h;intro r t h;apply kc_ h;intro r' t' h;simp only[kl]at h;cases lN.mp h.1.1.1.1.2;obtain⟨op,aG,h1,h2,rfl⟩:=os2 (zh4_ h.1.1.1.1.1);exact zkE_ (zd9_ g.units h1) (zd9_ g.units h2) (za_ a fo g fs.l h.1.1.2) (za_ b fo g fs.r.l h.1.2) (za_ d fo g fs.r.r h.2) h.1.1.1.2
 |.and a b,Z,c,E,e,fo,g,fs,h=>by
  apply kO_ h;intro x y l p h;simp only[kl]at h;cases l with
  |nil=>exact zlD_ (za_ a fo g fs.l h.1.2) (za_ b fo g fs.r h.2) h.1.1.1 h.1.1.2
  |cons z l=>exact zqj_ (za_ a fo g fs.l h.1.2) (za_ b fo g fs.r h.2) h.1.1.1
 |.or a b,Z,c,E,e,fo,g,fs,h=>by
  apply kO_ h;intro x y l p h;simp only[kl]at h;cases l with
  |nil=>exact zo5_ (za_ a fo g fs.l h.1.2) (za_ b fo g fs.r h.2) h.1.1.1 h.1.1.2
  |cons z l=>exact rd_or (za_ a fo g fs.l h.1.2) (za_ b fo g fs.r h.2) h.1.1.1
 |.not a,Z,c,E,e,fo,g,fs,h=>by
  apply kU_ h;intro o x p h;simp only[kl]at h;cases eq_of_beq h.1.1;exact zn4_ (za_ a fo g fs h.2) h.1.2
 |.neg a,Z,c,E,e,fo,g,fs,h=>by
  apply kU_ h;intro o x p h;rw[kl]at h;cases eq_of_beq h.1;exact zg_ (zpr_ (za_ a fo g fs h.2).pe) rfl
 |.ifx d a b,Z,c,E,e,fo,g,fs,h=>by
  apply kI_ h;intro t x y p h;simp only[kl]at h;exact rd_if (zpy_ ((za_ d fo g fs.l h.1.1.2).pt h.1.1.1) (za_ a fo g fs.r.l h.1.2).pe (za_ b fo g fs.r.r h.2).pe) rfl
 |.sl a lo hi,Z,c,E,e,fo,g,fs,h=>by
  apply kS_ h;intro l r p h;apply kL_ h;intro l1 l2 l3 q h;simp only[kl]at h;cases nJ.mp h.1.1.1;exact zg_ (zk5_ sl_A (za_ a fo g fs.l h.1.1.2).pe (zjk_ lo fo g fs.r.l h.1.2) (zjk_ hi fo g fs.r.r h.2)) rfl
 |.tup as,Z,c,E,e,fo,g,fs,h=>by
  apply kT_ h;intro es n p h;exact zg_ (zqz_ (zJ_ as fo g fs h)) rfl
 |.lst as,Z,c,E,e,fo,g,fs,h=>by
  apply kW_ h;intro es p h;exact zg_ (zoQ_ (zJ_ as fo g fs h)) rfl
 |.fld a f,Z,c,E,e,fo,g,fs,h=>by
  apply kA_ h;intro o f' p h;simp only[kl]at h;cases eq_of_beq h.1.1.1;exact zg_ (znL_ (λd hd=>⟨fo.cls d hd,fo.at_ d hd _ (by simpa using h.1.1.2)⟩) (za_ a fo g fs h.2).pe h.1.2) rfl
 |.call f x as,Z,c,E,e,fo,g,fs,h=>by
  apply kC_ h;intro y es q h;apply kN_ h;intro y p h;simp only[kl]at h;cases eq_of_beq h.1.1;obtain⟨g1,g2⟩:=zhc_ g h.1.2;obtain⟨ps,j,hj,F⟩:=fs _ (lA ..);exact zg_ (zkV_ F (g.room.mono hj) g.pass (zJ_ as fo g (λφ cu=>fs φ (lu _ cu)) h.2) (zr_ h.2).1 g1 g2 (zko_ h.2)) rfl
 |.bf o as,Z,c,E,e,fo,g,fs,h=>by
  apply kC_ h;intro y es q h;apply kN_ h;intro y p h;simp only[kl]at h;cases eq_of_beq h.1.1.1.1;exact zg_ (bf_pe g (fo.bs _ (by simpa using h.1.1.2)) (zJ_ as fo g fs h.2) (zr_ h.2).1 (zlS_ h.2 h.1.2) h.1.1.1.2) rfl
 |.sm o a as,Z,c,E,e,fo,g,fs,h=>by
  apply kC_ h;intro y es q h;apply kA_ h;intro r m p h;simp only[kl]at h;cases eq_of_beq h.1.1.1.1.1.1;exact zg_ (sm_pe (za_ a fo g fs.l h.1.2).pe (zJ_ as fo g fs.r h.2) (zr_ h.2).1 h.1.1.1.1.1.2 h.1.1.1.1.2 (of_decide_eq_true h.1.1.1.2) (zlS_ h.2 h.1.1.2)) rfl
 |.li a b,Z,c,E,e,fo,g,fs,h=>by
  apply kC_ h;intro y es q h;apply kA_ h;intro r m p h;apply kc_ h;intro x t h;simp only[kl]at h;cases eq_of_beq h.1.1.1.1.1.1;cases lN.mp h.1.1.1.2;have s:=h.1.1.2;have s0:([x].all noStar)=uE:=by rw[mi,s];rfl
  exact zg_ (zoz_ zdo_ p9 PySem.F.type_list_index mt_li (za_ a fo g fs.l h.1.2).pe (zbH_ (za_ b fo g fs.r h.2).pe zfA_ (zj_ s)) (zdq_ h.1.1.1.1.1.2) (zh1_ s0 (show 1<29 by decide)) h.1.1.1.1.2 (zj_ s) (zaf_ rfl)) rfl
 |.comp lv fr ik src tg d x,Z,c,E,e,fo,g,fs,h=>by
  obtain⟨t,it,ifs,elt,sc,pos,rfl,cl,S,q1,q2,q3,q4,q5⟩:=zji_ lv fr ik src tg d x (zhl_ src) (zJ_ src) (zfR_ d) (za_ x) fo g fs h;exact zg_ (znE_ g.calm S q1 q2 q3 q4 (zcE_ q5)) rfl
 |.lr a b,Z,c,E,e,fo,g,fs,h=>by
  apply kC_ h;intro y es q h;apply kN_ h;intro y p h;apply kc_ h;intro r t h;apply kC_ h;intro z xs q2 h;apply kN_ h;intro z p2 h;apply kc_ h;intro x t1 h;apply kc_ h;intro w t2 h;simp only[kl]at h;obtain⟨⟨⟨⟨⟨⟨⟨⟨⟨⟨⟨h1,h2⟩,ht⟩,ht2⟩,h3⟩,h4⟩,h5⟩,h6⟩,h7⟩,h8⟩,h9⟩,h10⟩:=h;cases eq_of_beq h1;cases eq_of_beq h2;cases lN.mp ht;cases lN.mp ht2;obtain⟨g1,g2⟩:=zhc_ g h3;obtain⟨g3,g4⟩:=zhc_ g h4;exact zg_ (zoF_ "list" (zdr_ g.calm) (fo.bs _ (by simpa using h5)) (zbH_ (zoF_ "range" zfn_ (fo.bs _ (by simpa using h6)) (zbH_ (za_ a fo g fs.l h9).pe (zbH_ (za_ b fo g fs.r h10).pe zfA_ (zj_ h8)) (zj_ h7)) g3 rfl (by decide) g4 (zj_ h7) (zaf_ (by simp[h8]))) zfA_ (zj_ rfl)) g1 rfl (by decide) g2 (zj_ rfl) (zaf_ rfl)) rfl
 |.isa a n,Z,c,E,e,fo,g,fs,h=>by
  apply kC_ h;intro y es q h;apply kN_ h;intro y p h;apply kc_ h;intro x t h;apply kc_ h;intro z t2 h;apply kN_ h;intro z p2 h;simp only[kl]at h;obtain⟨⟨⟨⟨⟨⟨⟨⟨h1,ht⟩,h2⟩,h3⟩,h4⟩,h5⟩,h6⟩,h7⟩,h8⟩:=h;cases eq_of_beq h1;cases lN.mp ht;exact zg_ (zqE_ g (za_ a fo g fs h8).pe h4 h2 (fo.bs _ (by simpa using h3)) (eq_of_beq h5) h6 (fo.bs _ (by simpa using h7))) rfl
 |.srt _ _ _ _,Z,c,E,e,fo,g,fs,h=>by cases h
 |.mkd f d as dv,Z,c,E,e,fo,g,fs,h=>by
  apply kC_ h;intro y es q h;apply kN_ h;intro y p h;simp only[kl]at h;cases eq_of_beq h.1.1.1;obtain⟨g1,g2⟩:=zhc_ g h.1.1.2;obtain⟨ps,j,hj,F⟩:=fs _ (lA ..);cases es with
  |nil=>cases h.1.2
  |cons e es=>
   have hs:=(zr_ h.2).1;rw[mi,kl]at hs;exact zg_ (zjQ_ F (g.room.mono hj) g.pass (zJ_ as fo g (λφ cu=>fs φ (lu _ cu)) h.2) g1 g2 (zj_ hs.1) (zaf_ hs.2)) rfl
 |.ds1 a b,Z,c,E,e,fo,g,fs,h=>by
  apply kDd_ h;intro ks vs p h;apply kco_ h;intro k kt h;apply kc_ h;intro v vt h;simp only[kl]at h;cases lN.mp h.1.1.1;cases lN.mp h.1.1.2;exact zg_ (ziY_ (zey_ (za_ a fo g fs.l h.1.2).pe (za_ b fo g fs.r h.2).pe zi7_) rfl rfl (λz=>by cases z) (mX rfl)) rfl
 |.ds2 a b d f,Z,c,E,e,fo,g,fs,h=>by
  apply kDd_ h;intro ks vs p h;apply kco_ h;intro k kt h;apply kco_ h;intro l lt h;apply kc_ h;intro v vt h;apply kc_ h;intro w wt h;simp only[kl]at h;obtain⟨⟨⟨⟨⟨h1,h2⟩,h3⟩,h4⟩,h5⟩,h6⟩:=h;cases lN.mp h1;cases lN.mp h2;exact zg_ (ziY_ (zey_ (za_ a fo g fs.l h3).pe (za_ b fo g fs.r.l h4).pe (zey_ (za_ d fo g fs.r.r.l h5).pe (za_ f fo g fs.r.r.r h6).pe zi7_)) rfl rfl (λz=>by cases z) (mX rfl)) rfl
 |.dct0,Z,c,E,e,fo,g,fs,h=>by
  apply kDi_ h;intro p;exact zg_ zkc_ rfl
 |.ch3 o o' aK a b d f,Z,c,E,e,fo,g,fs,h=>by
  apply kM_ h;intro l os rs p h;apply kc_ h;intro r t h;apply kc_ h;intro r' t' h;apply kc_ h;intro bc g_ h;simp only[kl]at h;obtain⟨⟨⟨⟨⟨⟨h1,ht⟩,h4⟩,h5⟩,h6⟩,h7⟩,h8⟩:=h;cases lN.mp ht;obtain⟨op,aG,aF,g1,g2,g3,rfl⟩:=os3 (zh4_ h1);exact zpj_ (zd9_ g.units g1) (zd9_ g.units g2) (zd9_ g.units g3) (za_ a fo g fs.l.l h5) (za_ b fo g fs.l.r h6) (za_ d fo g fs.r.l h7) (za_ f fo g fs.r.r h8) h4
theorem zhl_:∀(as:List X) {Z:Cx}{c:Ck}{E:XK}{e:k8},T.Ok G Z.K Z.mg->Cg Z c k E->AllH Z k (X.fcss as)->chk1 T G c as e=uE->∃s,as=[s]/\PE Z e (s.den Z.K G E)
 |[],Z,c,E,e,fo,g,fs,h=>by unfold chk1 at h;cases h
 |s::as,Z,c,E,e,fo,g,fs,h=>by
  have h:=lP.mp h;cases lN.mp h.1;exact⟨s,rfl,(za_ s fo g fs.l h.2).pe⟩
theorem zJ_:∀(as:List X) {Z:Cx}{c:Ck}{E:XK}{es:List k8},T.Ok G Z.K Z.mg->Cg Z c k E->AllH Z k (X.fcss as)->chkEs T G c as es=uE->PA Z es (X.dens Z.K G E as)
 |[],Z,c,E,es,fo,g,fs,h=>by
  show PA Z es tNil;rw[lN.mp h]
  exact zfA_
 |a::as,Z,c,E,es,fo,g,fs,h=>by
  apply kc_ h;intro e t h;simp only[kl]at h;exact zbH_ (za_ a fo g fs.l h.1.2).pe (zJ_ as fo g fs.r h.2) (zj_ h.1.1)
theorem zjk_:∀(a:Option X) {Z:Cx}{c:Ck}{E:XK}{e:Option k8},T.Ok G Z.K Z.mg->Cg Z c k E->AllH Z k (X.fcsO a)->chkO T G c a e=uE->PO Z e (X.denO Z.K G E a)
 |none,Z,c,E,e,fo,g,fs,h=>by
  show PO Z e tNoPart;rw[nJ.mp h]
  exact znW_
 |some a,Z,c,E,e,fo,g,fs,h=>by
  cases e with
  |none=>cases h
  |some e=>exact po_M (za_ a fo g fs h).pe
theorem zfR_:∀(a:Option X) {Z:Cx}{c:Ck}{E:XK}{es:List k8},T.Ok G Z.K Z.mg->Cg Z c k E->AllH Z k (X.fcsO a)->chkIf T G c a es=uE->PIf Z es (X.denT Z.K G E a)
 |none,Z,c,E,es,fo,g,fs,h=>by
  show PIf Z es tTrue;rw[lN.mp h]
  exact zn6_
 |some a,Z,c,E,es,fo,g,fs,h=>by
  apply kc_ h;intro e t h;simp only[kl]at h;cases lN.mp h.1.1;exact zn5_ ((za_ a fo g fs h.2).pt h.1.2)
end
end
structure Cq (Z:Cx)(c:Ck)(k:Nat)(E:XK):Prop extends Cg Z c k E where
 fn:∀x,Z.fn x=uE
 nd:c.N.Nodup
 own:PassesOwn (model Z.prog Z.w) Z.A Z.env Z.xe
 ex:Z.ex=[]
 stack:Z.stack=Z.env::Z.outer/\Z.env.frame=uC Z.env.locals
noncomputable def Y.isC:Y->Bool
 |.pu (.comp ..)=>uE |_=>uF
noncomputable def Bm.nm:Bm->Str
 |.append => "append" |.extend => "extend"
def Y.fcs:Y->List Fc
 |.pu x=>x.fcs
 |.mv i=>[]
 |.call f x as=>(X.call f x (as.map A.t)).fcs
 |.bm _ p as=>p.x.fcs++X.fcss (as.map A.t)
 |.bin _ y z=>y.fcs++z.fcs
 |.sd p k v=>p.x.fcs++(k.fcs++v.fcs)
 |.not y=>y.fcs
mutual
def S.fcs:S->List Fc
 |.asg _ y=>y.fcs
 |.setF p _ x=>p.x.fcs++x.fcs
 |.setI p k x=>p.x.fcs++(k.fcs++x.fcs)
 |.ex y=>y.fcs
 |.ret y=>y.fcs
 |.retN=>[]
 |.if_ c a b=>c.fcs++(S.fcss a++S.fcss b)
 |.ifY c a b=>c.fcs++(S.fcss a++S.fcss b)
 |.ifL c a b=>c.fcs++(S.fcss a++S.fcss b)
 |.for_ _ src _ b=>X.fcss src++S.fcss b
 |.pass=>[]
 |.cont=>[]
 |.never=>[]
 |.try0 b a9=>S.fcss b++S.fcss a9
def S.fcss:List S->List Fc
 |[]=>[]
 |s::ss=>s.fcs++S.fcss ss
end
section
variable (T:Ft)(G:Gi)
def chkY (c:Ck):Y->k8->Bool
 |.pu x,e=>chkE T G c x e
 |.mv i,e=>chkE T G c (.v i) e
 |.call f x as,e=>chkE T G c (.call f x (as.map A.t)) e
 |.bm o p as,e=>kC e λr es q=>kA r λr m ap=>m == o.nm && noSup r && ap.endLine == q.line && decide (es.length<29) && chkE T G c p.x r && chkEs T G c (as.map A.t) es
 | .bin o y z,e=>kB e (λl op r=>o.op == uC op && chkY c y l && chkY c z r)||
   kM e (λl os rs=>kc rs λr t=>os.map uC == [o.cmp] && t.isEmpty && noSet r && chkY c y l && chkY c z r)
 |.sd p k v,e=>kC e λr es q=>kA r λr m ap=>kc es λa t=>kc t λb t=>m=="setdefault" && t.isEmpty && noSup r && ap.endLine==q.line && noStar a && noStar b && chkE T G c p.x r && chkE T G c k a && chkE T G c v b
 |.not y,e=>kU e λo x=>o == .Not && noIf x && chkY c y x
noncomputable def sA:lV->(k8->k8->Bool)->Bool
 |.Assign [g] e _,k=>k g e |_,_=>uF
noncomputable def sE:lV->(k8->Bool)->Bool
 |.Expr e _,k=>k e |_,_=>uF
noncomputable def sR:lV->(Option k8->Bool)->Bool
 |.Return e _,k=>k e |_,_=>uF
noncomputable def sI:lV->(k8->List lV->List lV->Bool)->Bool
 |.If e a b _,k=>k e a b |_,_=>uF
def sF:lV->(k8->k8->List lV->Bool)->Bool
 |.For t i b [] _,k=>k t i b |_,_=>uF
noncomputable def sT:lV->(List lV->List lV->Bool)->Bool
 |.Try b (_::_) l [] _,k=>k b l |_,_=>uF
noncomputable def sP:lV->Bool
 |.Pass _=>uE |_=>uF
noncomputable def sC:lV->Bool
 |.Continue _=>uE |_=>uF
section
variable {s:lV}{C:lV->Prop}
theorem sA_ {k}(h:sA s k=uE)(H:∀g e q,k g e=uE->C (.Assign [g] e q)):C s:=by
 unfold sA at h;split at h
 ·exact H _ _ _ h
 ·cases h
theorem sE_ {k}(h:sE s k=uE)(H:∀e q,k e=uE->C (.Expr e q)):C s:=by cases s<;>first |exact H _ _ h |cases h
theorem sR_ {k}(h:sR s k=uE)(H:∀e q,k e=uE->C (.Return e q)):C s:=by cases s<;>first |exact H _ _ h |cases h
theorem sI_ {k}(h:sI s k=uE)(H:∀e a b q,k e a b=uE->C (.If e a b q)):C s:=by cases s<;>first |exact H _ _ _ _ h |cases h
theorem sF_ {k}(h:sF s k=uE)(H:∀t i b q,k t i b=uE->C (.For t i b [] q)):C s:=by
 unfold sF at h;split at h
 ·exact H _ _ _ _ h
 ·cases h
theorem sT_ {k}(h:sT s k=uE)(H:∀b a r l q,k b l=uE->C (.Try b (a::r) l [] q)):C s:=by
 unfold sT at h;split at h
 ·exact H _ _ _ _ _ h
 ·cases h
theorem sP_ (h:sP s=uE)(H:∀q,C (.Pass q)):C s:=by cases s<;>first |exact H _ |cases h
theorem sC_ (h:sC s=uE)(H:∀q,C (.Continue q)):C s:=by cases s<;>first |exact H _ |cases h
end
noncomputable def sc:List lV->(lV->List lV->Bool)->Bool
 |a::l,k=>k a l |[],_=>uF
theorem sc_ {l:List lV}{C:List lV->Prop}{k}(h:sc l k=uE)(H:∀a t,k a t=uE->C (a::t)):C l:=by cases l with |nil=>cases h |cons a t=>exact H a t h
noncomputable def isStr:Const->Bool
 |.str _=>uE |_=>uF
mutual
def chkS (c:Ck):S->lV->Bool
 |.asg i y,s=>sA s λg e=>tgB c i g && (noCmp e ||y.isC) && chkY T G c y e
 |.setF p n x,s=>sA s λg e=>kA g λo f _=>n == f && T.at_.contains n && chkE T G c p.x o && chkE T G c x e
 |.setI p k x,s=>sA s λg e=>kS g λo i=>noSl i && chkE T G c p.x o && chkE T G c k i && chkE T G c x e
 |.ex y,s=>sE s λe=>noCmp e && chkY T G c y e
 |.ret y,s=>sR s λe=>e.any (chkY T G c y)
 |.retN,s=>sR s λe=>e.isNone
 |.if_ d a b,s=>sI s λe x y=>noIf e && chkE T G c d e && chkSs c a x && chkSs c b y
 |.ifL d a b,s=>sI s λe x y=>plainT e && chkE T G c d e && chkSs c a x && chkSs c b y
 |.ifY d a b,s=>sI s λe x y=>noIf e && chkY T G c d e && chkSs c a x && chkSs c b y
 |.for_ ik src tg b,s=>sF s λt it x=>noSet it && tgOk c tg t && srcB T c ik tg it (chk1 T G c src it) (chkEs T G c src) && chkSs c b x
 |.pass,s=>sP s ||sE s λe=>kK e isStr
 |.cont,s=>sC s
 |.never,_=>uE
 |.try0 b a9,s=>sT s λx y=>chkSs c b x && chkSs c a9 y
def chkSs (c:Ck):List S->List lV->Bool
 |[],ss=>ss.isEmpty
 |a::as,ss=>sc ss λs ss=>chkS c a s && chkSs c as ss
end
end
section
variable {Z:Cx}{c:Ck}{k:Nat}{E:XK}{T:Ft}{G:Gi}{e o:k8}{es:List k8}{t:TE}{p pos apos:Pos}
def bmT (K:lK)(G:Gi)(E:XK)(b:Bm)(t:TE)(as:List A):TE:=match as with |[]=>tBM0 K b.ty b.r t |_=>tBM K b.ty b.r t (X.dens K G E (as.map A.t))
theorem bm_pe {b:Bm}{as:List A}(ho:PE Z o t)(ha:PA Z es (X.dens Z.K G E (as.map A.t)))(hs:es.all noStar=uE)(hb:noSup o=uE)(hl:(apos.endLine == pos.line)=uE)(hn:es.length<29)(h0:es=[]↔as=[]):PE Z (.Call (.Attribute o b.nm apos) es [] pos) (bmT Z.K G E b t as):=by
 have b0:=λn=>zdq_ (env:=Z.env) (m:=n) hb
 cases as with
 |nil=>
  rw[h0.mpr rfl];cases b with
  |append=>exact zmP_ zdo_ zbo_ zbk_ zcM_ ho (b0 _) hl
  |extend=>exact zmP_ zdo_ za8_ zbl_ ze1_ ho (b0 _) hl
 |cons a as=>
  cases es with
  |nil=>cases h0.mp rfl
  |cons e es=>
   have f:=zh1_ (env:=Z.env) (pos:=pos) hs hn;rw[mi,kl]at hs;have s1:=zj_ (env:=Z.env) (es:=es) hs.1;have s2:=zaf_ (env:=Z.env) (pos:=pos) hs.2;cases b with
   |append=>exact zoz_ zdo_ zbo_ zbk_ zcM_ ho ha (b0 _) f hl s1 s2
   |extend=>exact zoz_ zdo_ za8_ zbl_ ze1_ ho ha (b0 _) f hl s1 s2
theorem zbr_:∀(y:Y) {e:k8},T.Ok G Z.K Z.mg->Cg Z c k E->AllH Z k y.fcs->chkY T G c y e=uE->Rd Z e (y.den Z.K G E)
 |.pu x,e,fo,g,fs,h=>za_ x fo g fs h
 |.mv i,e,fo,g,fs,h=>by
  exact za_ (.v i) fo g (λ_ z=>by cases z) h
 |.call f x as,e,fo,g,fs,h=>by
  exact za_ (.call f x (as.map A.t)) fo g fs h
 |.bm b p as,e,fo,g,fs,h=>by
  apply kC_ h;intro r es q h;apply kA_ h;intro r m ap h;simp only[kl]at h;cases eq_of_beq h.1.1.1.1.1;exact zg_ (bm_pe (b:=b) (za_ p.x fo g fs.l h.1.2).pe (zJ_ _ fo g fs.r h.2) (zr_ h.2).1 h.1.1.1.1.2 h.1.1.1.2 (of_decide_eq_true h.1.1.2) ((zr_ h.2).2.trans List.map_eq_nil_iff)) rfl
 |.bin o y z,e,fo,g,fs,h=>by
  rcases(nO _ _).mp h with h |h
  ·apply kB_ h;intro l op r p h
   simp only[kl]at h;exact zg_ (pe_op (bo_op (eq_of_beq h.1.1)) (zbr_ y fo g fs.l h.1.2).pe (zbr_ z fo g fs.r h.2).pe) rfl
  ·apply kM_ h;intro l os rs p h
   apply kc_ h;intro r t h;simp only[kl]at h;cases lN.mp h.1.1.1.2;obtain⟨op,ho,rfl⟩:=os1 (zh4_ h.1.1.1.1);exact zno_ (zd9_ g.units ho) (zbr_ y fo g fs.l h.1.2) (zbr_ z fo g fs.r h.2) h.1.1.2
 |.sd p k v,e,fo,g,fs,h=>by
  apply kC_ h;intro r es q h;apply kA_ h;intro r m ap h;apply kc_ h;intro a t h;apply kc_ h;intro b t h;simp only[kl]at h;obtain⟨⟨⟨⟨⟨⟨⟨⟨h1,ht⟩,h2⟩,h3⟩,h4⟩,h5⟩,h6⟩,h7⟩,h8⟩:=h;cases eq_of_beq h1;cases lN.mp ht;have st:[a,b].all noStar=uE:=by simp[h4,h5]
  exact zg_ (zk6_ g.units (za_ p.x fo g fs.l h6).pe (za_ k fo g fs.r.l h7).pe (za_ v fo g fs.r.r h8).pe ⟨zdq_ h2,zh1_ st (show 2<29 by decide),h3,by rw[zaS_ st];rfl⟩) rfl
 |.not y,e,fo,g,fs,h=>by
  apply kU_ h;intro o x p h;simp only[kl]at h;cases eq_of_beq h.1.1;exact zn4_ (zbr_ y fo g fs h.2) h.1.2
theorem zgF_ {elt:k8}{gs:List Comprehension}{sc:Scope}{x:Str}{p:Pos}{env:PySem.Env}{n:Nat}:∃b,swapsWith (.ListComp elt gs sc pos) (uC (.Name x p)) n env=pure b:=⟨_,rfl⟩
theorem zgs_ {f:Str}{n:Nat}:swapsWith e (uC (.Attribute o f p)) n Z.env=pure uF:=by cases e<;>rfl
theorem zhL_ {i:k8}{n:Nat}:swapsWithSole [.Subscript o i p] e n Z.env=pure uF:=by cases e<;>rfl
theorem zrc_ {i:k8}(h:noSl i=uE)(v:aU):assign (.Subscript o i p) Z.env v=(do
   let ov <- holding [v] (eval o Z.env)
   let iv <- holding [v,ov] (eval i Z.env)
   standAt p
   holding [v,ov,iv] (setItem ov iv v)
   release [v,ov,iv] []):=by
 cases i<;>first |rfl |cases h
theorem zq9_ (fo:T.Ok G Z.K Z.mg)(g:Cq Z c k E){i:Nat}{y:Y}{q:Pos}(fs:AllH Z k y.fcs)(h1:tgB c i o=uE)(h2:(noCmp e ||y.isC)=uE)(h3:chkY T G c y e=uE):
  PS Z (.Assign [o] e q) (tAsg (y.den Z.K G E) (gName i)):=by
 have hv:=(zbr_ y fo g.toCg fs h3).pe;obtain⟨i8,x,p,rfl⟩:=zkI_ g.toCg g.nd (.inl g.fn) h1;unfold tgB at h1;rw[kl]at h1;have hi:Z.N[i]?=uC x:=by rw[g.N];exact eq_of_beq h1.1
 have hn:Z.N.Nodup:=by rw[g.N];exact g.nd
 have hl:=zn1_ g.toCg h1.2;by_cases hc:noCmp e=uE
 ·exact znC_ hn hi hl hv (zgB_ hc _ _) (.inl (g.fn x))
 ·have hc:noCmp e=uF:=by simpa using hc
  rw[hc,sQ]at h2;unfold Y.isC at h2;split at h2
  ·rename_i lv fr ik src tg d z
   obtain⟨t,it,ifs,elt,sc,pos,rfl,cl,S,q1,q2,q3,q4,q5⟩:=zji_ lv fr ik src tg d z (zhl_ src) (zJ_ src) (zfR_ d) (za_ z) fo g.toCg fs h3;obtain⟨b,hb⟩:=zgF_ (elt:=elt) (gs:=[⟨t,it,ifs,0⟩]) (sc:=sc) (pos:=pos) (x:=x) (p:=p) (env:=Z.env) (n:=q.line);cases b with
   |true=>
    exact zf8_ g.calm S q1 q2 q3 q4 i8 hb (zcE_ q5)
   |false=>exact znC_ hn hi hl hv hb (.inl (g.fn x))
  ·cases h2
theorem Cq.nox (g:Cq Z c k E):Cq Z.nox c k E0 where
 N:=g.N
 nm:=g.nm
 kind:=g.kind
 calm:=g.calm
 room:=g.room
 pass:=zie_
 cells:=g.cells
 fn:=g.fn
 nd:=g.nd
 own:=PassesOwn.never
 ex:=g.ex
 stack:=g.stack
theorem zn3_ {body orelse:List lV}{h₀:ExceptHandler}{hs:List ExceptHandler}{tb te:TS}(hb:PSs Z.nox body tb)(hl:PSs Z orelse te):PS Z (.Try body (h₀::hs) orelse [] pos) (tSeq tb te):=by
 intro pins s σ H D I h;refine wpAny_Try_except (mF (hb pins s σ H _ (I.wish _) h) (λf s1 q=>?_) λe s1 q=>lL q)
 replace q:=q.unwish;cases f with
 |next=>obtain⟨ai,H',I',q⟩:=q;exact hl pins s1 ai H' D I' q
 |ret v=>exact q
 |brk=>exact q
 |cont=>exact q
mutual
theorem zlE_:∀{Z:Cx}{E:XK}(fo:T.Ok G Z.K Z.mg) (g:Cq Z c k E) (s:S) {st:lV},AllH Z k s.fcs->chkS T G c s st=uE->PS Z st (s.den Z.K G E)
 |Z,E,fo,g,.asg i y,st,fs,h=>by
  apply sA_ h;intro o e q h;simp only[kl]at h;exact zq9_ fo g fs h.1.1 h.1.2 h.2
 |Z,E,fo,g,.setF p n x,st,fs,h=>by
  apply sA_ h;intro o e q h;apply kA_ h;intro o f r h;simp only[kl]at h;cases eq_of_beq h.1.1.1;have ha:=(za_ p.x fo g.toCg fs.l h.1.2).pe;have hv:=(za_ x fo g.toCg fs.r h.2).pe;intro pins s σ H D I q;obtain⟨d,hd,q⟩:=q;exact zlO_ (fo.cls d hd) (fo.at_ d hd _ (by simpa using h.1.1.2)) ha hv zgs_ pins s σ H D I q
 |Z,E,fo,g,.setI p k x,st,fs,h=>by
  apply sA_ h;intro o e q h;apply kS_ h;intro o i r h;simp only[kl]at h;exact zqR_ (za_ x fo g.toCg fs.r.r h.2).pe (zpE_ (za_ p.x fo g.toCg fs.l h.1.1.2).pe (za_ k fo g.toCg fs.r.l h.1.2).pe (set_A g.units) (zrc_ h.1.1.1)) zhL_ zhs_
 |Z,E,fo,g,.ex y,st,fs,h=>by
  apply sE_ h;intro e q h;simp only[kl]at h;exact zm9_ (zbr_ y fo g.toCg fs h.2).pe (zgB_ h.1 _ _)
 |Z,E,fo,g,.ret y,st,fs,h=>by
  apply sR_ h;intro e q h;cases e with
  |none=>cases h
  |some e=>exact znf_ (zbr_ y fo g.toCg fs h).pe
 |Z,E,fo,g,.retN,st,fs,h=>by
  apply sR_ h;intro e q h;cases nJ.mp h;exact zmI_
 |Z,E,fo,g,.if_ d a b,st,fs,h=>by
  apply sI_ h;intro e x y q h;simp only[kl]at h;exact zkQ_ ((za_ d fo g.toCg fs.l h.1.1.2).pt h.1.1.1) (zH_ fo g a fs.r.l h.1.2) (zH_ fo g b fs.r.r h.2)
 |Z,E,fo,g,.ifL d a b,st,fs,h=>by
  apply sI_ h;intro e x y q h;simp only[kl]at h;exact zkQ_ (zpM_ (za_ d fo g.toCg fs.l h.1.1.2).pe (zdT_ h.1.1.1)) (zH_ fo g a fs.r.l h.1.2) (zH_ fo g b fs.r.r h.2)
 |Z,E,fo,g,.ifY d a b,st,fs,h=>by
  apply sI_ h;intro e x y q h;simp only[kl]at h;exact zkQ_ ((zbr_ d fo g.toCg fs.l h.1.1.2).pt h.1.1.1) (zH_ fo g a fs.r.l h.1.2) (zH_ fo g b fs.r.r h.2)
 |Z,E,fo,g,.for_ ik src tg b,st,fs,h=>by
  apply sF_ h;intro t it x q h;simp only[kl]at h;exact zpY_ g.own g.calm (zmi_ fo g.toCg (zmW_ h.1.1.2) h.1.2 (zhl_ src fo g.toCg fs.l) λes z=>⟨zJ_ src fo g.toCg fs.l z,(zr_ z).1⟩) (tg_ok g.toCg g.nd (.inl g.fn) h.1.1.2) (zH_ fo g b fs.r h.2) (zcE_ h.1.1.1)
 |Z,E,fo,g,.pass,st,fs,h=>by
  rcases(nO _ _).mp h with h |h
  ·apply sP_ h;intro q;exact zog_
  ·apply sE_ h;intro e q h
   apply kK_ h;intro d n p h;cases d<;>first |exact zo8_ |cases h
 |Z,E,fo,g,.cont,st,fs,h=>by
  apply sC_ h;intro q;exact zfp_
 |Z,E,fo,g,.never,st,fs,h=>zk7_
 |Z,E,fo,g,.try0 b a9,st,fs,h=>by
  apply sT_ h;intro x a r y q h;simp only[kl]at h;have hb:=zH_ (Z:=Z.nox) (E:=E0) fo g.nox b fs.l h.1;have hl:=zH_ fo g a9 fs.r h.2;exact(show PS Z _ (tSeq (S.dens Z.K G E0 b) (S.dens Z.K G E a9))from zn3_ hb hl)
theorem zH_:∀{Z:Cx}{E:XK}(fo:T.Ok G Z.K Z.mg) (g:Cq Z c k E) (ss:List S) {st:List lV},AllH Z k (S.fcss ss)->chkSs T G c ss st=uE->PSs Z st (S.dens Z.K G E ss)
 |Z,E,fo,g,[],st,fs,h=>by
  unfold chkSs at h;rw[S.dens,lN.mp h];exact zjg_
 |Z,E,fo,g,s::ss,st,fs,h=>by
  apply sc_ h;intro a t h;simp only[kl]at h;exact zgH_ (zlE_ fo g s fs.l h.1) (zH_ fo g ss fs.r h.2)
end
end
theorem zet_ {α:Type}{p:α->Prop}:∀x∈([]:List α),p x:=λ_ h=>by cases h
theorem zf_ {α:Type}{p:α->Prop}{a:α}{l:List α}(h:p a)(t:∀x∈l,p x):∀x∈a::l,p x:=λx hx=>by
 rcases k9.mp hx with rfl |hx
 ·exact h
 ·exact t x hx
theorem ftt_u {K:lK}{x:Str}{xs:List (List Nat)}(h:FtT K x xs):SqU K (gA K x) (xs.map tx):=by
 rcases h (λ_=>uD)with h |h
 ·rcases h with h |⟨_,h⟩<;>cases h
 ·exact h
noncomputable def AllF (Φ:Fc->Prop):List Fc->Prop
 |[]=>True
 |φ::l=>Φ φ/\AllF Φ l
theorem AllF.mem {Φ:Fc->Prop}:∀{l:List Fc},AllF Φ l->∀φ∈l,Φ φ
 |[],_,_,h=>by cases h
 |ψ::l,h,φ,hm=>by
  rcases k9.mp hm with rfl |hm
  ·exact h.1
  ·exact AllF.mem h.2 φ hm
section
variable {P:lF}{w:lW}{K:l8}{mg:Str->Option aU}{base:Heap}{x q:Str}{st:lV}{N ps:List Str}{k:Nat}{T:Ft}{G:Gi}{body:List S}
theorem zp5_ (S:FnScope N ps (defScope st)){f:kz}{ae:aU}{A:lY}{outer:List PySem.Env}{s:kn}{H:Hp}{E:XK}(hr:Room k (A.deeper (envOfC q (defScope st) s.heap.objs.size f ae))):
  Cq (cxOf CX0 P w K mg base N q (defScope st) f ae A outer s H E) ⟨N,(defScope st).names⟩ k E where
 N:=rfl
 nm:=rfl
 kind:=S.kind
 calm:=rfl
 room:=hr
 pass:=zie_
 cells:=λx hx=>by
  rcases hx with hx |hx
  ·exact zek_ hx
  ·exact absurd rfl (S.nofree _ (l6 hx))
 fn:=λ_=>rfl
 nd:=S.nd
 own:=PassesOwn.leaving
 ex:=rfl
 stack:=⟨rfl,rfl⟩
theorem zfG_ {n m:Nat}{vs:List V}{H:Hp}{Q:VK}{E:XK}(h:CtG K (fnOf G n m body) vs H Q E):vs.length=n:=by
 obtain⟨F,h,ds,hs,dj,sh,os,fin⟩:=h;unfold fnOf at fin;split at fin
 ·rename_i hd
  rw[<- ODs.len os,hd]
 ·exact fin.elim
theorem _root_.L2.Fun.ok0 {f:kz}{fd:mz}{sp:Sp}(F:Fun K x q st f fd)(S:FnScope N ps (defScope st))(len:∀vs H Q E,sp vs H Q E->vs.length=ps.length)
  (hb:∀(ae:aU) (A:lY) (outer:List PySem.Env) (s:kn) (H:Hp) (vs:List V) (Q:VK) (E:XK),Room k (A.deeper (envOfC q (defScope st) s.heap.objs.size f ae))->sp vs H Q E ->
   ∃t,PSs (cxOf CX0 P w K mg base N q (defScope st) f ae A outer s H E) (defBody st) t/\t {nx:=λ_ H'=>Q .non H',rt:=Q} (start N vs) H):FnOk P w K mg base CX0 (k+1) f fd ps sp:=by
 obtain⟨oc,od,kV,doc,pm,an,ae,ct,aq,rfl,lk,av⟩:=F.ex;exact zpZ_ lk av S len (hb ae)
theorem _root_.L2.FunD.ok0 {f:kz}{fd:mz}{sp:Sp}{T:kz}(F:FunD K T x q st f fd)(S:FnScope N ps (defScope st))(len:∀vs H Q E,sp vs H Q E->vs.length=ps.length)
  (hb:∀(ae:aU) (A:lY) (outer:List PySem.Env) (s:kn) (H:Hp) (vs:List V) (Q:VK) (E:XK),Room k (A.deeper (envOfC q (defScope st) s.heap.objs.size f ae))->sp vs H Q E ->
   ∃t,PSs (cxOf CX0 P w K mg base N q (defScope st) f ae A outer s H E) (defBody st) t/\t {nx:=λ_ H'=>Q .non H',rt:=Q} (start N vs) H):FnOk P w K mg base CX0 (k+1) f fd ps sp:=by
 obtain⟨oc,od,kV,doc,pm,an,ae,ct,aq,rfl,lk,av⟩:=F.ex;exact zpZ_ lk av S len (hb ae)
theorem okV {n m:Nat}(g0:G.Ok K)(fo:T.Ok G K mg)(fs:AllF (Fc.H P w K mg base k) (S.fcss body))(hc:chkSs T G ⟨N,(defScope st).names⟩ body (defBody st)=uE)
  (S:FnScope N ps (defScope st)) (b:Bnd K x q st ps) (hp:ps.length=n) (hm:N.length=n+m):OkF P w K mg base CX0 (k+1) x q st ps (CtG K (fnOf G n m body)):=λf fd F=>
 ⟨F.ok0 S (λvs H Q E h=>(zfG_ h).trans hp.symm) λae A outer s H vs Q E hr h=>⟨VI.S.dens K G E body,zH_ fo (zp5_ S hr) body fs.mem hc,zk3_ g0 hm vs H Q E h⟩,b f fd F⟩
theorem okVD {n m:Nat}(g0:G.Ok K)(fo:T.Ok G K mg)(fs:AllF (Fc.H P w K mg base k) (S.fcss body))(hc:chkSs T G ⟨N,(defScope st).names⟩ body (defBody st)=uE)
  (S:FnScope N ps (defScope st)) (hp:ps.length=n) (hm:N.length=n+m):OkFD P w K mg base CX0 (k+1) x q st ps (CtG K (fnOf G n m body)):=λT f fd F=>
 F.ok0 S (λvs H Q E h=>(zfG_ h).trans hp.symm) λae A outer s H vs Q E hr h=>⟨VI.S.dens K G E body,zH_ fo (zp5_ S hr) body fs.mem hc,zk3_ g0 hm vs H Q E h⟩
noncomputable abbrev X.n (i:Int):X:=.k (.int i)
abbrev X.i (a:X)(n:Int):X:=.bin .ix a (.k (.int n))
abbrev GG (P:lF)(w:lW)(K:lK)(mg:Str->Option aU)(base:Heap)(k:Nat)(x:Str)(ps:List Str)(f:Fn):Prop:=Gd P w K mg base CX0 k x ps (CtG K f)
theorem fkc {j:Nat}{f:Fn}(g:GG P w K mg base j x ps f)(h:j<=k:=by decide):Fc.H P w K mg base k (.call f x):=⟨ps,j,h,g⟩
theorem okW {n m:Nat}(g0:G.Ok K)(fo:T.Ok G K mg)(fs:AllF (Fc.H P w K mg base k) (S.fcss body))(hc:chkSs T G ⟨N,(defScope st).names⟩ body (defBody st)=uE:=by decide +kernel)
  (S:FnScope N ps (defScope st):=by exact⟨rfl,rfl,rfl,by decide +kernel,rfl,by decide +kernel,by decide +kernel⟩)
  (b:Bnd K x q st ps:=by first |exact λ_ _ F=>Fun.binds1 rfl F λ_ _ _ _ _ _ _=>rfl |exact λ_ _ F=>Fun.binds2 rfl F λ_ _ _ _ _ _ _ _=>rfl |exact λ_ _ F=>Fun.binds3 rfl F λ_ _ _ _ _ _ _ _ _=>rfl |exact λ_ _ F=>Fun.binds4 rfl F λ_ _ _ _ _ _ _ _ _ _=>rfl)
  (hp:ps.length=n:=by rfl) (hm:N.length=n+m:=by rfl):OkF P w K mg base CX0 (k+1) x q st ps (CtG K (fnOf G n m body)):=okV g0 fo fs hc S b hp hm
def lamB (c:Ck)(sc:Scope)(p:Str)(fr:List (Str×Nat)):Bool:=
 sc.names.all (λy=>y.2 != .cell && (y.2 != .free ||c.nm.lookup y.1 == uC .cell ||c.nm.lookup y.1 == uC .free)) && sc.kind == .function && !sc.isCoroutine && !sc.isGenerator && sc.names.lookup p == uC .local &&
 fr.all λq=>c.N[q.2]? == uC q.1 && sc.names.lookup q.1 == uC .free && (c.nm.lookup q.1 == uC .cell ||c.nm.lookup q.1 == uC .free)
theorem zh7_ {Z:Cx}{c:Ck}{E:XK}{sc:Scope}{p:Str}{fr:List (Str×Nat)}(g:Cg Z c k E)(h:lamB c sc p fr=uE):∃cl,LScope Z sc cl p fr:=by
 unfold lamB at h;simp only[kl]at h;obtain⟨⟨⟨⟨⟨h1,h2⟩,h3⟩,h4⟩,h5⟩,h6⟩:=h;have h1:=me.mp h1;have hc:∀y∈sc.names,y.2≠.cell:=λy hy=>by have:=h1 y hy;simp at this;exact this.1
 have hf:∀y∈sc.names,y.2=.free->c.nm.lookup y.1=uC .cell\/c.nm.lookup y.1=uC .free:=λy hy z=>by
  have:=h1 y hy;simp[z]at this;exact this
 obtain⟨cl,aS⟩:=zbg_ (cells:=Z.env.cells) sc.names [] λy hy z=>g.cells _ (hf y hy z)
 refine⟨cl,aS,hc,eq_of_beq h2,by simpa using h3,by simpa using h4,eq_of_beq h5,λq hq=>?_⟩
 have:=me.mp h6 q hq;simp at this;unfold pj;rw[g.N,g.nm];exact⟨this.1.1,this.1.2,this.2⟩
theorem zpp_ {Z:Cx}{c:Ck}{E:XK}{sc:Scope}{cl:List (Str×kz)}{p qu:Str}{fr:List (Str×Nat)}{f:kz}{ae:aU}{s2:kn}{H2:Hp}(g:Cg Z c (k+1) E)(S:LScope Z sc cl p fr):Cg (cxLam Z Z.A.in1.in1 qu sc cl f ae (p::fr.map (·.1)) s2 H2) ⟨p::fr.map (·.1),sc.names⟩ k E0:=
 ⟨rfl,rfl,S.kind,rfl,⟨g.room.hd,by have:=g.room.dp;show Z.A.depth+1+3*k+5<_;lia,by have:=g.room.un;show Z.A.units+1+1+3+16*k+200<_;lia⟩,zie_,λx hx=>by
  rcases hx with z |z
  ·exact absurd rfl (S.cell _ (l6 z))
  ·exact z0_ sc.names [] cl S.clos x (.inl (l6 z))⟩
theorem zqs_ {n m:Nat}{p y:Str}{fr:List (Str×Nat)}{i:Nat}{e:X}{p0 p1 cP bM pos fR:Pos}{params:Arguments}{bN:k8}{sc:Scope}(M:Mgo K mg)(F:Fg K "put_in_order" st)(hl:L2.Fl K bM)(g0:G.Ok K)(fo:T.Ok G K mg)(fs:AllF (Fc.H P w K mg base k) e.fcs)
  (hb:defBody st=[.Return (uC (.Call (.Name "sorted" p0) [.Name y p1] [⟨uC "key",.Lambda params bN sc bM,cP⟩] pos)) fR]:=by rfl)
  (h1:lamB ⟨N,(defScope st).names⟩ sc p fr=uE:=by decide +kernel) (h2:chkE T G ⟨p::fr.map (·.1),sc.names⟩ e bN=uE:=by decide +kernel) (h3:(chkE T G ⟨N,(defScope st).names⟩ (.v i) (.Name y p1) && glB ⟨N,(defScope st).names⟩ "sorted" && T.bs.contains "sorted")=uE:=by decide +kernel)
  (h6:∀env,defaultsOf params env=([],[]):=by exact λ_=>rfl) (h7:∀q cl pm c' aE u,bindArgs (pM "<lambda>" q params bN sc cl pm (.ref c') aE) ⟨[u],[]⟩=pure [(p,u)]:=by exact λ_ _ _ _ _ _=>rfl)
  (S:FnScope N ps (defScope st):=by exact⟨rfl,rfl,rfl,by decide +kernel,rfl,by decide +kernel,by decide +kernel⟩) (b:Bnd K "put_in_order" "put_in_order" st ps:=by exact λ_ _ F=>Fun.binds2 rfl F λ_ _ _ _ _ _ _ _=>rfl) (hp:ps.length=n:=by rfl) (hm:N.length=n+m:=by rfl):
  GG P w K mg base (k+2) "put_in_order" ps (fnOf G n m [.ret (.pu (.srt p fr i e))]):=by
 obtain⟨_,X,N'⟩:=M;obtain⟨f,e',i'⟩:=F;obtain⟨fd,F⟩:=i'.fun_;have gL:=b f fd F;have kp:=F.kp;obtain⟨c,Pt,t1,t2,t3⟩:=hl;obtain⟨oc,od,kV,doc,pm,an,ae,ct,aq,rfl,lk,av⟩:=F.ex;have ec:ae=.ref c:=W.law_code X N' t1 (rp X N' e') (X _ _ lk) rfl;subst ec;simp only[kl]at h3;refine⟨f,_,zpZ_ lk av S (λvs H Q E h=>(zfG_ h).trans hp.symm) (λA outer s H vs Q E hr h=>⟨_,?_,zk3_ g0 hm vs H Q E h⟩),rp X N' e',kp,gL⟩
 have g:=(zp5_ (P:=P) (w:=w) (K:=K) (mg:=mg) (base:=base) (outer:=outer) (H:=H) (E:=E) S hr).toCg;obtain⟨cl,L⟩:=zh7_ g h1;rw[hb];refine zgH_ (znf_ ?_) zjg_
 exact zjU_ L hr.hd (by have:=hr.dp;exact q8 (rO _ (3*(k+1)+5)) (by rw[<- Nat.add_assoc];exact this)) (by have:=g.units;lia) rfl t2 t3 (fo.bs _ (by simpa using h3.2)) (zhc_ g h3.1.2).1 (za_ (.v i) fo g (λφ cu=>by cases cu) h3.1.1).pe (h6 _) (h7 _ cl)
  λf ae s2 H2=>(za_ e fo (zpp_ g L) fs.mem h2).pe
theorem fkd {j:Nat}{f:Fn}{dv:List D}(g:GkD P w K mg base CX0 j x (gA K x) ps ((flats dv).getD []) (CtG K f))(h:j+1<=k:=by decide):Fc.H P w K mg base k (.mkd f x dv):=⟨ps,j,h,g⟩
theorem bnd5 {T f:kz}{fd:mz}{arr:Array aU}{n:Nat}{oc:aU}{od:Option kz}{aq:Array (Option aU)}(hp:ps.length=10)(F:FunD K T x q st f fd)(lT:K.lookup T=uC ⟨oc,od,.seq arr n,aq⟩)(hl:arr.toList.length=5)
  (h:∀(d0 d1 d2 d3 d4:aU) (kV doc pm:aU) (an:Option kz) (ae ct:aU) (u0 u1 u2 u3 u4:aU) (s:kn),(∃o,s.heap.get? T=uC o/\o.data=.seq #[d0,d1,d2,d3,d4] n)->BindsTo s (W.fnOf x q (defArgs st) (defBody st) (defScope st) (.ref T) kV doc pm an ae ct) ⟨[u0,u1,u2,u3,u4],[]⟩ (ps.zip [u0,u1,u2,u3,u4,d0,d1,d2,d3,d4])):Binds K fd ps (arr.toList.drop 0):=by
 obtain⟨d0,d1,d2,d3,d4,rfl⟩:=arr5 hl;exact zkD_ hp F lT (h d0 d1 d2 d3 d4)
theorem FnOk.cx0 {f:kz}{fd:mz}{sp hU:Sp}(F:FnOk P w K mg base CX0 k f fd ps sp)(h:∀vs H Q E,hU vs H Q E->sp vs H Q E0):FnOk P w K mg base CX0 k f fd ps hU:=by
 refine⟨λvs H Q E q=>F.len _ _ _ _ (h _ _ _ _ q),λA outer s H args us vs Q E hr e0 hb r q=>codeAny_mono (F.run A outer s H args us vs Q E0 hr e0 hb r (h _ _ _ _ q)) λr s' z=>?_⟩
 cases r with
 |ok fl=>cases fl<;>exact z
 |error e=>exact z.elim
theorem zfI_:∀(ns:List Int) {H:Hp},DRs K (ns.map D.int) (ns.map V.int) H
 |[],_=>by unfold DRs;rfl
 |n::ns,H=>by rw[kF,kF];unfold DRs;exact⟨_,_,rfl,by unfold DR;rfl,zfI_ ns⟩
noncomputable def scr (ns:List Int):D:=.fz (.nd .scr (ns.map .int))
theorem znO_ {f:Fn}(hf:∀ns:List Int,ns.length<=63->BitsOk ns->f.val [scr ns]=.ok (.bl uE)):∀vs H Q E,spL K vs H Q E->CtG K f vs H Q E0:=by
 rintro vs H Q E ⟨a,ns,rfl,hS,hl,hb,q⟩;refine zgI_ (ds:=[.nd .scr (ns.map .int)]) (Same.refl H) ?_ ?_
 ·unfold DRs;exact⟨_,_,rfl,by unfold DR;exact⟨a,_,rfl,hS,zfI_ ns⟩,by unfold DRs;rfl⟩
 ·have:[D.nd .scr (ns.map .int)].map D.vw=[scr ns]:=by
   unfold D.vw scr D.imm;rfl
  rw[this,hf ns hl hb];rintro F' H' x v h fresh d s o;have o:(∀p,h p=uD)/\DR K (.bl uE) v F':=by
   have o:OD K (.bl uE) v F' h:=o;unfold OD at o;exact o
  cases o.2.bl;exact q H'
theorem okLV {fa:kz}{fd:mz}{f:Fn}(F:FnOk P w K mg base CX0 k fa fd ps (CtG K f))(hf:∀ns:List Int,ns.length<=63->BitsOk ns->f.val [scr ns]=.ok (.bl uE)):FnOk P w K mg base CX0 k fa fd ps (spL K):=FnOk.cx0 F (znO_ hf)
end
section
variable {G:Gi}{pn:Nat->Bool}{env e:Env}{ss a b:List S}{y:Y}{c:X}{d:D}{i:Nat}{ds:List D}
theorem rf_ {α:Type}{a:α}:a=a:=of_eq_true (eq_self a)
theorem zhd_ (r:Mr Env Fl)(f g:Env->Mr Env Fl):seqM (seqM r f) g=seqM r λe=>seqM (f e) g:=by
 cases r with
 |ok o e=>cases o<;>rfl
 |ex c e=>rfl
 |no=>rfl
theorem zkq_:∀(a:List S) (env:Env),seqM (S.runs G pn a env) (λe=>S.runs G pn b e)=S.runs G pn (a++b) env
 |[],env=>by rw[S.runs];rfl
 |s::a,env=>by
  rw[mf,S.runs,S.runs,zhd_];congr 1;funext e;exact zkq_ a e
theorem zkt_ (h:y.ev G env=.ok d e)(hp:pn i=uF)(hi:i<e.length):S.runs G pn (.asg i y::ss) env=S.runs G pn ss (e.set i (uC d)):=by
 rw[S.runs,S.run,h];show seqM (if pn i=uF/\i<e.length then .ok .nx (e.set i (uC d))else .no) _=_
 rw[if_pos ⟨hp,hi⟩];rfl
theorem zoB_ (h:y.ev G env=.ok d e):S.runs G pn (.ex y::ss) env=S.runs G pn ss e:=by
 rw[S.runs,S.run,h];rfl
theorem zdf_ (h:y.ev G env=.ok d e):S.runs G pn (.ret y::ss) env=.ok (.rt d) e:=by
 rw[S.runs,S.run,h];rfl
theorem zjW_ (h:(c.ev G env).bind blD=.ok uE):S.runs G pn (.if_ c a b::ss) env=S.runs G pn (a++ss) env:=by
 rw[S.runs,S.run,h,<- zkq_];rfl
theorem zg8_ (h:(c.ev G env).bind blD=.ok uF):S.runs G pn (.if_ c a b::ss) env=S.runs G pn (b++ss) env:=by
 rw[S.runs,S.run,h,<- zkq_];rfl
theorem zbq_ (h:D.colds ds=uE)(i:Nat):pins ds i=uF:=by
 unfold pins;induction ds generalizing i with
 |nil=>rfl
 |cons d ds ih=>
  unfold D.colds at h;rw[kl]at h;cases i with
  |zero=>show(!d.cold)=uF;rw[h.1];rfl
  |succ i=>exact ih h.2 i
theorem zbc_:∀{ds:List D}{env:Env},D.colds ds=uE->outs ds env=ds
 |[],_,_=>by unfold outs;rfl
 |d::ds,[],h=>by
  unfold D.colds at h;rw[kl]at h;unfold outs;rw[if_pos h.1,zbc_ h.2]
 |d::ds,o::env,h=>by
  unfold D.colds at h;rw[kl]at h;unfold outs;rw[if_pos h.1,zbc_ h.2]
theorem zf3_ {f:Fn}{ds':List D}(h:f ds=.ok d ds'):f.val ds=.ok d:=by unfold Fn.val;rw[h]
theorem zcN_ (ns:List Int):(scr ns).vw=scr ns:=by unfold scr D.vw D.imm;rfl
theorem zqY_ (i:Int):(D.int i).vw=.int i:=rfl
theorem zq5_ (l:List Nat):(D.str l).vw=.str l:=rfl
theorem bl_vw (b:Bool):(D.bl b).vw=.bl b:=rfl
theorem zpU_:D.non.vw=.non:=rfl
theorem zf9_ (ns:List Int):lenA [scr ns]=.ok (.int ns.length):=by
 show Mo.ok (D.int ((ns.map D.int).length:Nat))=_
 rw[ko]
theorem zfh_ {α:Type}{l:List α}{i:Int}{a:α}(h0:0<=i)(h:l[i.toNat]?=uC a):atI l i=uC a:=by
 have hi:=(lg.mp h).1;unfold atI ixN;rw[if_pos h0,if_pos (by omega)]
 exact h
section
variable (i j:Int)
theorem vd_lt:ltD (.int i) (.int j)=.ok (.bl (decide (i<j))):=rfl
theorem vd_le:leD (.int i) (.int j)=.ok (.bl (decide (i<=j))):=rfl
theorem vd_gt:gtD (.int i) (.int j)=.ok (.bl (decide (j<i))):=rfl
theorem vd_ge:geD (.int i) (.int j)=.ok (.bl (decide (j<=i))):=rfl
theorem zqk_:addA (.int i) (.int j)=.ok (.int (i+j)):=rfl
theorem zqC_:subD (.int i) (.int j)=.ok (.int (i-j)):=rfl
theorem zp0_:negD (.int i)=.ok (.int (-i)):=rfl
theorem vd_bl (b:Bool):blD (.bl b)=.ok b:=rfl
theorem vd_int:intD (.int i)=.ok i:=rfl
theorem zqG_ (l:List Nat):strOf (.str l)=.ok l:=rfl
end
theorem vd_mod {i j:Int}(h:0<j):modD (.int i) (.int j)=.ok (.int (i % j)):=by
 show Mo.grd _ _=_
 exact if_pos h
theorem zqQ_ {i j:Int}(h:CDivG i j):divD (.int i) (.int j)=.ok (.int (i / j)):=by
 show Mo.grd _ _=_
 exact if_pos h
theorem zl7_ {i j:Int}(h:IntMulOk i j):mulD (.int i) (.int j)=.ok (.int (i*j)):=by
 show Mo.grd _ _=_
 exact if_pos h
theorem vd_ix {ns:List Int}{k:Int}(h0:0<=k)(h:k<ns.length):ixA (scr ns) (.int k)=.ok (.int (ns.getD k.toNat 0)):=by
 show Mo.opt ((atI (ns.map D.int) k).map D.vw)=_
 have hk:k.toNat<ns.length:=by lia
 rw[zfh_ h0 (a:=.int (ns.getD k.toNat 0)) (by rw[kH,km hk];simp[kE,hk])]
 rfl
end
section
variable {α β s:Type}{G:Gi}{pn:Nat->Bool}{env e:Env}{d x y:D}
theorem zdY_ (g:Env->Mr Env Fl):seqM (.ok .nx e) g=g e:=of_eq_true (eq_self _)
theorem zoU_ (g:Env->Mr Env Fl):seqM (.ok (.rt d) e) g=.ok (.rt d) e:=of_eq_true (eq_self _)
theorem sq_ct (g:Env->Mr Env Fl):seqM (.ok .ct e) g=.ok .ct e:=of_eq_true (eq_self _)
theorem sq_ex (c:Xc)(g:Env->Mr Env Fl):seqM (.ex c e) g=.ex c e:=of_eq_true (eq_self _)
theorem zhD_ (a:α)(t:s)(k:α->s->Mr s β):(Mr.ok a t).bind k=k a t:=of_eq_true (eq_self _)
theorem mr_ex (c:Xc)(t:s)(k:α->s->Mr s β):(Mr.ex c t:Mr s α).bind k=.ex c t:=of_eq_true (eq_self _)
theorem zeo_ (a:α)(k:α->Mo β):(Mo.ok a).bind k=k a:=of_eq_true (eq_self _)
theorem zhO_ (a:α):Mo.opt (uC a)=.ok a:=of_eq_true (eq_self _)
theorem ifM_t (r1 r2:Mr Env Fl):ifM env (.ok uE) r1 r2=r1:=of_eq_true (eq_self _)
theorem ifM_f (r1 r2:Mr Env Fl):ifM env (.ok uF) r1 r2=r2:=of_eq_true (eq_self _)
theorem and_t (r:Mo D):andD (.bl uE) r=r:=of_eq_true (eq_self _)
theorem and_f (r:Mo D):andD (.bl uF) r=.ok (.bl uF):=of_eq_true (eq_self _)
theorem or_t (r:Mo D):orD (.bl uE) r=.ok (.bl uE):=of_eq_true (eq_self _)
theorem or_f (r:Mo D):orD (.bl uF) r=r:=of_eq_true (eq_self _)
theorem noE (o:Fl):noEx (.ok o e)=.ok o e:=of_eq_true (eq_self _)
theorem ag_d (d:D)(gs:List Ag):dsOf (.d d::gs)=(dsOf gs).map λds=>d::ds:=of_eq_true (eq_self _)
theorem ag_0:dsOf []=uC []:=of_eq_true (eq_self _)
theorem zmG_ (i:Nat)(hp:pn i=uF)(hi:i<e.length):asgM pn i (.ok d e)=.ok .nx (e.set i (uC d)):=by
 unfold asgM;rw[zhD_,if_pos ⟨hp,hi⟩]
theorem zpb_:dropM (.ok d e)=.ok .nx e:=of_eq_true (eq_self _)
theorem zrb_:retM (.ok d e)=.ok (.rt d) e:=of_eq_true (eq_self _)
theorem get_0 (l:Env):getE (uC d::l) 0=.ok d.vw:=of_eq_true (eq_self _)
theorem get_s (o:Option D)(l:Env)(n:Nat):getE (o::l) (n+1)=getE l n:=of_eq_true (eq_self _)
theorem mv_0 (l:Env):mvM (uC d::l) 0=.ok d (uD::l):=of_eq_true (eq_self _)
theorem mv_s (o:Option D)(l:Env)(n:Nat):mvM (o::l) (n+1)=match mvM l n with |.ok d e=>.ok d (o::e)|.ex c e=>.ex c (o::e)|.no=>.no:=by
 unfold mvM;rw[nh]
 match l[n]? with
 |some (uC d)=>rfl
 |some uD=>rfl
 |none=>rfl
def keep (m:Mo D)(env:Env)(u:List Nat):Mr Env D:=match m with
 |.ok d=>if d.new then .ok d env else .ok d (frzE env u)
 |.ex c=>.ex c env
 |.no=>.no
theorem zgk_ (x:X):stX G env x=keep (x.ev G env) env x.uses:=rfl
theorem zs_ (u:List Nat)(hn:d.new=uE):keep (.ok d) env u=.ok d env:=if_pos hn
theorem zmM_ (u:List Nat)(hn:d.new=uF):keep (.ok d) env u=.ok d (frzE env u):=if_neg (by rw[hn];decide)
section
variable (neg:Bool)(lo hi:Option Int)
theorem fz_ix:ixA (.fz d) x=ixA d x:=of_eq_true (eq_self _)
theorem fz_in:inA neg x (.fz d)=inA neg x d:=of_eq_true (eq_self _)
theorem zql_:lenA [.fz d]=lenA [d]:=of_eq_true (eq_self _)
theorem zlV_:addA (.fz d) x=addA d x:=of_eq_true (eq_self _)
theorem zms_:addA x (.fz d)=addA x d:=of_eq_true (eq_self _)
theorem fz_sl:slA (.fz d) lo hi=slA d lo hi:=of_eq_true (eq_self _)
theorem zqv_ (cs:List Str)(f:Str):fldD cs f (.fz d)=fldD cs f d:=of_eq_true (eq_self _)
theorem zlB_:listA [.fz d]=listA [d]:=of_eq_true (eq_self _)
theorem zmv_:walkA [.fz d]=walkA [d]:=of_eq_true (eq_self _)
theorem zqx_:allD [.fz d]=allD [d]:=of_eq_true (eq_self _)
theorem zn2_:sortI [.fz d]=sortI [d]:=of_eq_true (eq_self _)
theorem fz_is:isD neg (.fz d) x=isD neg d x:=of_eq_true (eq_self _)
theorem zqW_ (n:String):isaD n (.fz d)=isaD n d:=of_eq_true (eq_self _)
theorem fz_bl:blD (.fz d)=blD d:=of_eq_true (eq_self _)
theorem zoP_:intD (.fz d)=intD d:=of_eq_true (eq_self _)
theorem zqi_:revD [.fz d]=revD [d]:=of_eq_true (eq_self _)
theorem fz_rv:rvD (.fz d)=rvD d:=of_eq_true (eq_self _)
theorem zlR_:zipD [.fz d,x]=zipD [d,x]:=of_eq_true (eq_self _)
theorem zmL_:zipD [x,.fz d]=zipD [x,d]:=of_eq_true (eq_self _)
theorem zn7_:enumD [.fz d]=enumD [d]:=of_eq_true (eq_self _)
theorem zp4_ (n:Nat):eqT n (.fz d) x=eqT n d x:=by cases n<;>rfl
theorem zi2_ (n:Nat):eqT n x (.fz d)=eqT n x d:=by cases n<;>rfl
theorem fz_eq:eqD neg (.fz d) x=eqD neg d x:=by unfold eqD;rw[zp4_]
theorem zpo_:eqD neg x (.fz d)=eqD neg x d:=by unfold eqD;rw[zi2_]
theorem fz_vw (h:d.imm=uF):(D.fz d).vw=.fz d:=by unfold D.vw;rw[if_neg];rw[show(D.fz d).imm=d.imm from by rw[D.imm]];rw[h];decide
end
theorem zrk_ (i:Int):X.ev G env (.k (.int i))=.ok (.int i):=rf_
theorem zp3_ (l:List Nat):X.ev G env (.k (.str l))=.ok (.str l):=rf_
theorem xk_bl (b:Bool):X.ev G env (.k (.bl b))=.ok (.bl b):=rf_
theorem zoV_:X.ev G env (.k .non)=.ok .non:=rf_
theorem zq4_ (n:Str)(i:Int):X.ev G env (.g n (.int i))=.ok (.int i):=rf_
theorem zru_ (n:Str)(l:List Nat):X.ev G env (.g n (.str l))=.ok (.str l):=rf_
theorem or_b (a b:Bool):orD (.bl a) (.ok (.bl b))=.ok (.bl (a ||b)):=by cases a<;>rfl
theorem and_b (a b:Bool):andD (.bl a) (.ok (.bl b))=.ok (.bl (a && b)):=by cases a<;>rfl
theorem min_i (i j:Int):minD [.int i,.int j]=.ok (.int (min i j)):=of_eq_true (eq_self _)
theorem zf5_ {i j:Int}(h0:0<j)(h1:j<1073741824):divD (.int i) (.int j)=.ok (.int (i / j)):=zqQ_ (znn_ h0 (by lia))
theorem zjt_ {i j:Int}(h0 : -18446744073709551616<i)(h1:i<18446744073709551616):mulD (.int i) (.int j)=.ok (.int (i*j)):=zl7_ (zdC_ (.inl ⟨by lia,by lia⟩))
theorem znX_ {i j:Int}(h0 : -18446744073709551616<j)(h1:j<18446744073709551616):mulD (.int i) (.int j)=.ok (.int (i*j)):=zl7_ (zdC_ (.inr ⟨by lia,by lia⟩))
theorem nw_bl (b:Bool):(D.bl b).new=uE:=by rw[D.new]<;>simp
theorem zoo_ (i:Int):(D.int i).new=uE:=by rw[D.new]<;>simp
theorem zlu_ (l:List Nat):(D.str l).new=uE:=by rw[D.new]<;>simp
theorem zq0_:D.non.new=uE:=by rw[D.new]<;>simp
theorem nw_nd (k:Nd)(ds:List D):(D.nd k ds).new=D.news ds:=by rw[D.new]
theorem nw_c (d:D)(ds:List D):D.news (d::ds)=(d.new && D.news ds):=by rw[D.news]
theorem nw_0:D.news []=uE:=by rw[D.news]
section
variable (a b c x:X)(as:List X)
theorem xv_v (i:Nat):X.ev G env (.v i)=getE env i:=rf_
theorem zqX_ (o:Bo):X.ev G env (.bin o a b)=(a.ev G env).bind λx=>(b.ev G env).bind λy=>o.f x y:=rf_
theorem xv_ch (o o':Bo):X.ev G env (.ch o o' a b c)=(a.ev G env).bind λx=>(b.ev G env).bind λy=>chD o o' x y (c.ev G env):=rf_
theorem zp9_ (o o' aK:Bo):X.ev G env (.ch3 o o' aK a b c x)=(a.ev G env).bind λu=>(b.ev G env).bind λy=>ch3D o o' aK u y (c.ev G env) (x.ev G env):=rf_
theorem zrg_:X.ev G env (.and a b)=(a.ev G env).bind λx=>andD x (b.ev G env):=rf_
theorem xv_or:X.ev G env (.or a b)=(a.ev G env).bind λx=>orD x (b.ev G env):=rf_
theorem zqB_:X.ev G env (.not a)=(a.ev G env).bind λx=>(blD x).bind λb=>.ok (.bl (!b)):=rf_
theorem zqm_:X.ev G env (.neg a)=(a.ev G env).bind negD:=rf_
theorem zpQ_:X.ev G env (.ifx c a b)=((c.ev G env).bind blD).bind λt=>if t=uE then a.ev G env else b.ev G env:=rf_
theorem xv_sl (lo hi:Option X):X.ev G env (.sl a lo hi)=(a.ev G env).bind λx=>(X.evO G env lo).bind λl=>(X.evO G env hi).bind λh=>slA x l h:=rf_
theorem zrq_:X.ev G env (.tup as)=(X.evs G env as).bind λds=>.lim ds.length (.ok (.nd .tup ds)):=rf_
theorem zqV_:X.ev G env (.lst as)=(X.evs G env as).bind λds=>.lim ds.length (.ok (.nd .lst ds)):=rf_
theorem zrt_ (f:Str):X.ev G env (.fld a f)=(a.ev G env).bind (fldD G.cs f):=rf_
theorem zor_ (f:Fn)(n:Str):X.ev G env (.call f n as)=(X.evs G env as).bind λds=>f.val (ds.map .vw):=rf_
theorem xv_bf (o:Bf):X.ev G env (.bf o as)=(X.evs G env as).bind o.f:=rf_
theorem zpn_ (o:Sm):X.ev G env (.sm o a as)=(a.ev G env).bind λd=>(strOf d).bind λl=>(X.evs G env as).bind λc=>o.f l c:=rf_
theorem zo4_ {p:Str}{fr:List (Str×Nat)}{i:Nat}:X.ev G env (.srt p fr i a)=(getE env i).bind λd=>(strL d).bind λls=>.grd (ls.length<64) ((compM (λx=>cond1 (.ok uE) (a.ev G (setE (cE [p] fr env) [0] x))) (ls.map λl=>[D.str l]) []).bind λks=>srtK ls ks):=rf_
theorem zqc_ (f:Fn)(n:Str)(dv:List D):X.ev G env (.mkd f n as dv)=if(flats dv).isSome then(X.evs G env as).bind λds=>makeD f n (ds++dv)else .no:=rf_
theorem zlA_ {c d:X}:X.ev G env (.ds2 a b c d)=(a.ev G env).bind λx=>(b.ev G env).bind λy=>(c.ev G env).bind λz=>(d.ev G env).bind λw=>dspD [x,y,z,w]:=rf_
theorem xv_li:X.ev G env (.li a b)=(a.ev G env).bind λx=>(strL x).bind λls=>(b.ev G env).bind (liD ls):=rf_
theorem xv_lr:X.ev G env (.lr a b)=(a.ev G env).bind λx=>(b.ev G env).bind λy=>lrD x y:=rf_
theorem zqK_ (n:String):X.ev G env (.isa a n)=(a.ev G env).bind (isaD n):=rf_
theorem zp8_:X.ev G env .dct0=.ok (.nd (.dct []) []):=rf_
theorem xs_0:X.evs G env []=.ok []:=rf_
theorem xs_c:X.evs G env (a::as)=(a.ev G env).bind λd=>(X.evs G env as).bind λds=>.ok (d::ds):=rf_
theorem xo_0:X.evO G env uD=.ok uD:=rf_
theorem xo_s:X.evO G env (uC a)=(a.ev G env).bind λd=>(intD d).bind λi=>.ok (uC i):=rf_
theorem xt_0:X.evT G env uD=.ok uE:=rf_
theorem xt_s:X.evT G env (uC a)=(a.ev G env).bind blD:=rf_
end
def En (r:Mr Env Fl)(Q:Fl->Env->Prop):Prop:=∃o e,r=.ok o e/\Q o e
theorem ziF_ {l:List β}{enc:β->List D}{is:List Nat}{body k:Env->Mr Env Fl}{Q:Fl->Env->Prop}(P:List β->Env->Prop)(h0:P [] env)
  (hs:∀d x r e,l=d++x::r->P d e->∃e',setG pn e is (enc x)=uC e'/\En (body e') λo bw=>((o=.nx\/o=.ct)/\P (d++[x]) bw)\/((∃v,o=.rt v)/\Q o bw))
  (hk:∀e,P l e->En (k e) Q):En (seqM (forM (λe x=>match setG pn e is x with |some e'=>body e' |none=>.no) (l.map enc) env) k) Q:=by
 suffices main:∀(r d:List β) (e:Env),l=d++r->P d e->En (forM (λe x=>match setG pn e is x with |some e'=>body e' |none=>.no) (r.map enc) e) (λo e=>(o=.nx/\P l e)\/((∃v,o=.rt v)/\Q o e)) by
  obtain⟨o,e,h,q⟩:=main l [] env rfl h0;rw[h];rcases q with⟨rfl,q⟩|⟨⟨v,rfl⟩,q⟩
  ·rw[zdY_];exact hk e q
  ·rw[zoU_];exact⟨_,_,rfl,q⟩
 intro r;induction r with
 |nil=>intro d e hl hp;rw[nL]at hl;subst hl;exact⟨.nx,e,rfl,.inl ⟨rfl,hp⟩⟩
 |cons x r ih=>
  intro d e hl hp;obtain⟨e',h1,o,bw,h2,q⟩:=hs d x r e hl hp;rw[kF];unfold forM;simp only[h1,h2];rcases q with⟨h |h,q⟩|⟨⟨v,h⟩,q⟩
  ·subst h;exact ih (d++[x]) bw (by rw[hl,m9];rfl) q
  ·subst h;exact ih (d++[x]) bw (by rw[hl,m9];rfl) q
  ·subst h;exact⟨_,_,rfl,.inr ⟨⟨v,rfl⟩,q⟩⟩
theorem znH_ {l:List β}{enc:β->List D}{ik:Ik}{x:X}{tg:Tg}{b ss:List S}{Q:Fl->Env->Prop}{e1:Env}{items:List D}(P:List β->Env->Prop)(hg:keep (x.ev G env) env x.uses=.ok d e1)(hi:ik.f [d]=.ok items)(ht:tgsD tg items=uC (l.map enc))(h0:P [] e1)
  (hs:∀d x r e,l=d++x::r->P d e->∃e',setG pn e tg.is (enc x)=uC e'/\En (S.runs G pn b e') λo bw=>((o=.nx\/o=.ct)/\P (d++[x]) bw)\/((∃v,o=.rt v)/\Q o bw))
  (hk:∀e,P l e->En (S.runs G pn ss e) Q):En (S.runs G pn (.for_ ik [x] tg b::ss) env) Q:=by
 have e0:evG G env ([x].map .x)=.ok [.d d] e1:=by
  show((stX G env x).bind λd e=>(evG G e []).bind λgs e'=>.ok (.d d::gs) e')=_
  rw[zgk_,hg];rfl
 rw[S.runs,S.run,e0];have e1:forS pn ik tg (.ok [.d d] e1) (λe=>S.runs G pn b e)=forM (λe x=>match setG pn e tg.is x with |some e'=>S.runs G pn b e' |none=>.no) (l.map enc) e1:=by
  unfold forS;show(match ik.f [d]with |.ok items=>_ |_=>_)=_
  rw[hi];show(match tgsD tg items with |some xs=>_ |none=>_)=_
  rw[ht]<;>rfl
 rw[e1];exact ziF_ P h0 hs hk
theorem za6_ {y:Y}{i:Nat}{ss:List S}(h:y.ev G env=.ok d env)(hp:pn i=uF)(hi:Nat.ble (i+1) env.length=uE:=by rfl):S.runs G pn (.asg i y::ss) env=S.runs G pn ss (env.set i (uC d)):=zkt_ h hp (mX hi)
theorem zcA_ {l:List β}{enc:β->List D}{ik:Ik}{x:X}{tg:Tg}{b ss:List S}{Q:Fl->Env->Prop}{items:List D}(P:List β->Env->Prop)(hg:keep (x.ev G env) env x.uses=.ok d env)(hi:ik.f [d]=.ok items)(ht:tgsD tg items=uC (l.map enc))(h0:P [] env)
  (hs:∀d x r e,l=d++x::r->P d e->∃e',setG pn e tg.is (enc x)=uC e'/\En (S.runs G pn b e') λo bw=>((o=.nx\/o=.ct)/\P (d++[x]) bw)\/((∃v,o=.rt v)/\Q o bw))
  (hk:∀e,P l e->En (S.runs G pn ss e) Q):En (S.runs G pn (.for_ ik [x] tg b::ss) env) Q:=znH_ P hg hi ht h0 hs hk
theorem zeO_ {l:List β}{enc:β->D}{i:Nat}{a:Env}{b:Env}{o:Option D}{body k:Env->Mr Env Fl}{Q:Fl->Env->Prop}(hi:a.length=i)(hp:pn i=uF)
  (hs:∀x∈l,En (body (a++uC (enc x).vw::b)) λo e=>o=.nx/\e=a++uC (enc x).vw::b)
  (hk:∀o,En (k (a++o::b)) Q):En (seqM (forM (λe x=>match setG pn e [i] x with |some e'=>body e' |none=>.no) (l.map λx=>[enc x]) (a++o::b)) k) Q:=by
 refine ziF_ (enc:=λx=>[enc x]) (λ_ e=>∃o,e=a++o::b) ⟨o,rfl⟩ (λd x r e hl he=>?_) (λe he=>?_)
 ·obtain⟨o,rfl⟩:=he
  refine⟨a++uC (enc x).vw::b,?_,?_⟩
  ·unfold setG
   rw[if_pos ⟨hp,by rw[kX,kZ];lia⟩]
   unfold setG;rw[<- hi,List.set_append_right _ _ (kx _),rj,oq]
  ·obtain⟨o',e',h1,rfl,rfl⟩:=hs x (by rw[hl];simp)
   exact⟨_,_,h1,.inl ⟨.inl rfl,_,rfl⟩⟩
 ·obtain⟨o,rfl⟩:=he;exact hk o
theorem frz_0 (l:Env):frz1 (uC d::l) 0=uC d.vw::l:=of_eq_true (eq_self _)
theorem frz_n (l:Env):frz1 (uD::l) 0=uD::l:=of_eq_true (eq_self _)
theorem frz_s (o:Option D)(l:Env)(n:Nat):frz1 (o::l) (n+1)=o::frz1 l n:=by
 unfold frz1;rw[nh]
 match l[n]? with
 |some (uC d)=>rfl
 |some uD=>rfl
 |none=>rfl
def atS (env:Env)(i:Nat):Option D:=match env[i]? with |some o=>o |none=>uD
theorem atS_0 (o:Option D)(l:Env):atS (o::l) 0=o:=of_eq_true (eq_self _)
theorem atS_s (o:Option D)(l:Env)(n:Nat):atS (o::l) (n+1)=atS l n:=by unfold atS;rw[nh]
theorem zjz_ (i:Nat):atE env (i,[])=atS env i:=by
 unfold atE atS
 match env[i]? with
 |some (uC d)=>show d.at []=_;rw[D.at]
 |some uD=>rfl
 |none=>rfl
theorem zh6_ {i:Nat}{c c':D}(h:atS env i=uC c):putE env (i,[]) c'=env.set i (uC c'):=by
 unfold putE;unfold atS at h
 match e:env[i]?,h with
 |some (uC d),_=>show env.set i (uC (d.put [] c'))=_;rw[D.put]
def call1 (f:Fn)(i:Nat)(ds:List D)(e:Env):Mr Env D:=match atS e i with
 |some c=>(match f (c::ds)with
  |.ok r (c'::_)=>.ok r (e.set i (uC c'))
  |.ok r []=>.ok r e
  |.ex x (c'::_)=>.ex x (e.set i (uC c'))
  |.ex x []=>.ex x e
  |.no=>.no)
 |none=>.no
def agD (ds:List D):List Ag:=ds.map .d
theorem zl9_:∀(ds:List D),resolve e (agD ds)=uC ds
 |[]=>rfl
 |d::ds=>by show(resolve e (agD ds)).map _=_;rw[zl9_ ds];rfl
theorem znd_ (q:Pl):∀(ds:List D),apartOf q (agD ds)=uE
 |[]=>rfl
 |d::ds=>znd_ q ds
theorem zlt_:∀(ds:List D),apartAll (agD ds)=uE
 |[]=>rfl
 |d::ds=>zlt_ ds
theorem zjH_:∀(ds ds':List D),restE e (agD ds) ds'=e
 |[],ds'=>by cases ds'<;>rfl
 |d::ds,[]=>rfl
 |d::ds,_::ds'=>zjH_ ds ds'
theorem zi3_ {f:Fn}{i:Nat}{ds:List D}:callG f (.l (i,[])::agD ds) e=call1 f i ds e:=by
 unfold callG;show(match(atE e (i,[])).bind λc=>(resolve e (agD ds)).map λds=>c::ds with |some ds'=>_ |none=>_)=_
 rw[zjz_,zl9_];unfold call1;cases h:atS e i with
 |none=>rfl
 |some c=>
  show(if(apartOf (i,[]) (agD ds) && apartAll (agD ds))=uE then _ else _)=_
  rw[znd_,zlt_,if_pos (show(uE && uE)=uE from rfl)]
  dsimp only;cases f (c::ds)with
  |no=>rfl
  |ok r ds'=>
   cases ds' with
   |nil=>rfl
   |cons c' ds'=>show Mr.ok r (putE (restE e (agD ds) ds') (i,[]) c')=_;rw[zjH_,zh6_ h]
  |ex x ds'=>
   cases ds' with
   |nil=>rfl
   |cons c' ds'=>show Mr.ex x (putE (restE e (agD ds) ds') (i,[]) c')=_;rw[zjH_,zh6_ h]
def onS (T:String)(env:Env)(i:Nat)(m:Mr Env D):Mr Env D:=match atS env i with |some c=>if isK T c=uE then m else .no |none=>.no
theorem zmF_ (i:Nat)(as:List A)(T:String)(k:Pl->List Ag->Env->Mr Env D):lentG G env (.v i) as (isK T) k=onS T env i ((evG G env as).bind (k (i,[]))):=by
 unfold lentG onS;have e:Pt.ev G env (.v i)=if(atS env i).isSome then Mo.ok (i,[])else Mo.no:=by rw[Pt.ev,zjz_]
 rw[e];cases h:atS env i with
 |none=>rfl
 |some c=>
  have e2:=zjz_ (env:=env) i;rw[h]at e2;simp only[qX,if_true,e2]
theorem bm_v (o:Bm)(i:Nat)(x:X):Y.ev G (.bm o (.v i) [.x x]) env=onS o.ty env i ((keep (x.ev G env) env x.uses).bind λd e=>call1 o.f i [d] e):=by
 rw[Y.ev,zmF_];congr 1;show((stX G env x).bind λd e=>(evG G e []).bind λgs e'=>.ok (.d d::gs) e').bind _=_
 rw[zgk_];cases keep (x.ev G env) env x.uses with
 |ok d e=>exact zi3_ (ds:=[d])
 |ex c e=>rfl
 |no=>rfl
theorem sd_v (i:Nat)(k v:X):Y.ev G (.sd (.v i) k v) env=onS "dict" env i ((keep (k.ev G env) env k.uses).bind λa e=>(keep (v.ev G e) e v.uses).bind λd e'=>call1 setdF i [a,d] e'):=by
 rw[Y.ev,zmF_];congr 1;show((stX G env k).bind λa e=>((stX G e v).bind λd e'=>(evG G e' []).bind λgs e'=>.ok (.d d::gs) e').bind λgs e'=>.ok (.d a::gs) e').bind _=_
 rw[zgk_];cases keep (k.ev G env) env k.uses with
 |ok a e=>
  rw[zhD_,zhD_,zgk_];cases keep (v.ev G e) e v.uses with
  |ok d e'=>exact zi3_ (ds:=[a,d])
  |ex c e=>rfl
  |no=>rfl
 |ex c e=>rfl
 |no=>rfl
theorem zdc_ (x:X):Y.ev G (.pu x) env=keep (x.ev G env) env x.uses:=by rw[Y.ev,zgk_]
theorem ye_mv (i:Nat):Y.ev G (.mv i) env=mvM env i:=by rw[Y.ev]
theorem zoM_ (y:Y):Y.ev G (.not y) env=(y.ev G env).bind λd e=>moTo ((blD d).bind λb=>.ok (.bl (!b))) e:=by rw[Y.ev]
theorem zo6_ (o:Bo)(y z:Y):Y.ev G (.bin o y z) env=(y.ev G env).bind λd e=>(z.ev G e).bind λd2 e2=>moTo (o.f d d2) e2:=by rw[Y.ev]
theorem to_ok (a:α):moTo (.ok a) e=.ok a e:=of_eq_true (eq_self _)
theorem zil_ {i:Nat}{k x:X}{d a c c' r d' a':D}(hx:x.ev G env=.ok d)(hd:d.new=uE)(hk:k.ev G env=.ok a)(ha:a.new=uE)(hc:atS env i=uC c)(hf:setIF [d,c,a]=.ok r [d',c',a']):setIM G (.v i) k x env=.ok .nx (env.set i (uC c')):=by
 unfold setIM;have e:Pt.ev G env (.v i)=Mo.ok (i,[]):=by rw[Pt.ev,zjz_,hc];rfl
 have e1:evG G env [.x x,.l (.v i),.x k]=.ok [.d d,.l (i,[]),.d a] env:=by
  unfold evG;rw[zgk_,hx,zs_ _ hd,zhD_];unfold evG;rw[e];show(Mr.bind (Mr.bind (evG G env [.x k]) _) _)=_
  unfold evG;rw[zgk_,hk,zs_ _ ha];rfl
 rw[e1,zhD_];unfold callG;have e2:resolve env [.d d,.l (i,[]),.d a]=uC [d,c,a]:=by
  show((atE env (i,[])).bind λc=>uC [c,a]).map (λds=>d::ds)=_
  rw[zjz_,hc];rfl
 rw[e2];show dropM (if _ then(match setIF [d,c,a]with |.ok r ds'=>Mr.ok r (restE env [.d d,.l (i,[]),.d a] ds')|.ex x ds'=>_ |.no=>_)else _)=_
 rw[hf,if_pos (show apartAll _=uE from rfl)]
 show Mr.ok Fl.nx (putE env (i,[]) c')=_
 rw[zh6_ hc]
theorem zc2_ {i:Nat}{x:X}{d:D}{n C:Str}{ns:List Str}{xs:List D}(hx:x.ev G env=.ok d)(hd:d.new=uE)(hc:atS env i=uC (.nd (.obj C ns) xs))(hC:C∈G.cs)(hl:ns.length<1000)(hn:n∉ns):setFM G n (.v i) x env=.ok .nx (env.set i (uC (.nd (.obj C (ns++[n])) (xs++[d])))):=by
 unfold setFM;have e:Pt.ev G env (.v i)=Mo.ok (i,[]):=by rw[Pt.ev,zjz_,hc];rfl
 have e1:evG G env [.x x,.l (.v i)]=.ok [.d d,.l (i,[])] env:=by
  unfold evG;rw[zgk_,hx,zs_ _ hd,zhD_];unfold evG;rw[e];rfl
 rw[e1,zhD_];have e3:clsAt env (i,[])=uC C:=by unfold clsAt;rw[zjz_,hc]
 simp only[e3,if_pos hC];unfold callG;have e2:resolve env [.d d,.l (i,[])]=uC [d,.nd (.obj C ns) xs]:=by
  show((atE env (i,[])).bind λc=>uC [c]).map (λds=>d::ds)=_
  rw[zjz_,hc];rfl
 rw[e2];have hf:setFF n [d,.nd (.obj C ns) xs]=.ok .non [.gone,.nd (.obj C (ns++[n])) (xs++[d])]:=by
  unfold setFF;simp only[if_pos hl,if_neg hn]
 show dropM (if _ then(match setFF n [d,.nd (.obj C ns) xs]with |.ok r ds'=>Mr.ok r (restE env [.d d,.l (i,[])] ds')|.ex x ds'=>_ |.no=>_)else _)=_
 rw[hf,if_pos (show apartAll _=uE from rfl)]
 show Mr.ok Fl.nx (putE env (i,[]) _)=_
 rw[zh6_ hc]
theorem fn_en {ds:List D}{n m:Nat}{body:List S}(hl:ds.length=n)(hc:D.colds ds=uE)(h:∀pn,(∀i,pn i=uF)->En (S.runs G pn body (ds.map uC++kY m uD)) λo _=>o=.rt d\/(o=.nx/\d=.non)):fnOf G n m body ds=.ok d ds:=by
 obtain⟨o,e,h,q⟩:=h _ (zbq_ hc);unfold fnOf;rw[if_pos hl,h];rcases q with rfl |⟨rfl,rfl⟩
 ·show Mr.ok d (outs ds e)=_;rw[zbc_ hc]
 ·show Mr.ok D.non (outs ds e)=_;rw[zbc_ hc]
theorem zab_ {ds:List D}{n m:Nat}{body:List S}(hl:ds.length=n)(hc:D.colds ds=uE)(h:∀pn,(∀i,pn i=uF)->En (S.runs G pn body (ds.map uC++kY m uD)) λo _=>o=.rt d\/(o=.nx/\d=.non)):(fnOf G n m body).val ds=.ok d:=zf3_ (fn_en hl hc h)
theorem zqh_ {ds:List D}{n m:Nat}{body:List S}(hl:ds.length=n)(h:S.runs G (pins ds) body (ds.map uC++kY m uD)=.ok .nx e):fnOf G n m body ds=.ok .non (outs ds e):=by
 unfold fnOf;rw[if_pos hl,h]
end
class Im {α:Type}(g:α->D):Prop where
 im:∀x,(g x).imm=uE
section
variable {α:Type}{g:α->D}[Im g]{l:List α}{x:α}
theorem zra_ (x:α):(g x).vw=g x:=by unfold D.vw;rw[if_pos (Im.im x)]
theorem zfK_ (l:List α):D.imms (l.map g)=uE:=by
 induction l with
 |nil=>rw[nu,D.imms]
 |cons x l ih=>rw[kF,D.imms,Im.im x,ih];rfl
theorem zfV_ (l:List α):(l.map g).map D.vw=l.map g:=by
 rw[lX];exact nq λx _=>zra_ x
mutual
theorem zga_:∀(d:D),d.imm=uE->d.new=uE
 |.non,_=>by rw[D.new]<;>simp
 |.bl _,_=>by rw[D.new]<;>simp
 |.int _,_=>by rw[D.new]<;>simp
 |.str _,_=>by rw[D.new]<;>simp
 |.nd .tup ds,h=>by rw[D.imm]at h;rw[D.new];exact zcj_ ds h
 |.nd .ktup ds,h=>by rw[D.imm]at h;rw[D.new];exact zcj_ ds h
 |.nd .lst _,h=>by simp[D.imm]at h
 |.nd .scr _,h=>by simp[D.imm]at h
 |.nd (.dct _) _,h=>by simp[D.imm]at h
 |.nd (.obj _ _) _,h=>by simp[D.imm]at h
 |.fz d,h=>by rw[D.imm]at h;rw[D.new];exact h
 |.pin _,h=>by simp[D.imm]at h
 |.gone,h=>by simp[D.imm]at h
theorem zcj_:∀(ds:List D),D.imms ds=uE->D.news ds=uE
 |[],_=>by rw[D.news]
 |d::ds,h=>by rw[D.imms,kl]at h;rw[D.news,zga_ d h.1,zcj_ ds h.2];rfl
end
theorem znN_ (x:α):(g x).new=uE:=zga_ _ (Im.im x)
instance:Im D.int:=⟨λ_=>rfl⟩
instance:Im D.str:=⟨λ_=>rfl⟩
instance:Im D.bl:=⟨λ_=>rfl⟩
noncomputable def LS (g:α->D)(l:List α):D:=.nd .lst (l.map g)
theorem ls_vw:(LS g l).vw=.fz (LS g l):=rfl
theorem zmU_:(D.fz (LS g l)).vw=.fz (LS g l):=fz_vw rfl
theorem zM_:(LS g l).new=uE:=by unfold LS;rw[D.new];exact zcj_ _ (zfK_ l)
theorem zlc_:(D.fz (LS g l)).new=uF:=by rw[D.new];rfl
theorem zn8_:lenA [LS g l]=.ok (.int l.length):=by
 show Mo.ok (D.int ((l.map g).length:Nat))=_;rw[ko]
theorem zoC_:ixA (LS g l) (.int i)=.opt ((atI l i).map g):=by
 show Mo.opt ((atI (l.map g) i).map D.vw)=_
 unfold atI;rw[ko];cases ixN l.length i with
 |none=>rfl
 |some k=>
  show Mo.opt (((l.map g)[k]?).map D.vw)=_
  rw[kH,Option.map_map];show _=Mo.opt ((l[k]?).map g)
  congr 2;funext x;exact zra_ x
theorem zm7_ (lo hi:Option Int)(l:List α)(g:α->β):cutG (l.map g) lo hi=(cutG l lo hi).map g:=by
 unfold cutG;rw[ko,<- sW,<- qO]
theorem zpS_ (lo hi:Option Int):slA (LS g l) lo hi=.ok (LS g (cutG l lo hi)):=by
 show Mo.ok (D.nd .lst ((cutG (l.map g) lo hi).map .vw))=_
 rw[zm7_,zfV_];rfl
theorem zjT_ (h:a.length+b.length<=100000):addA (LS g a) (LS g b)=.ok (LS g (a++b)):=by
 show Mo.lim ((a.map g).length+(b.map g).length) (Mo.ok (D.nd .lst ((a.map g++b.map g).map .vw)))=_
 rw[Mo.lim_ok (by rw[ko,ko];exact h),<- mV,zfV_,LS]
theorem ze9_:listA [LS g l]=.ok (LS g l):=by
 show Mo.ok (D.nd .lst ((l.map g).map .vw))=_;rw[zfV_];rfl
theorem zmj_:walkA [LS g l]=.ok (l.map g):=of_eq_true (eq_self _)
theorem zpc_:isK "list" (LS g l)=uE:=rfl
theorem znl_ (h:l.length<100000):appendF [LS g l,g x]=.ok .non [LS g (l++[x]),.gone]:=by
 have h2:l.length<kR:=by have:=zbi_ (n:=l.length+1) (by lia);lia
 show(if(l.map g).length<kR then _ else _)=_
 rw[ko,if_pos h2];unfold LS;rw[mV];rfl
theorem zqL_:revD [LS g l]=.ok (l.reverse.map g):=by
 rw[rP];rfl
theorem ls_rv:rvD (LS g l)=.ok (LS g l.reverse):=by
 show Mo.ok (D.nd .lst ((l.map g).reverse.map .vw))=_
 rw[<- rP,zfV_];rfl
theorem zeT_:∀(l:List Int),flats (l.map .int)=uC (l.map .int)
 |[]=>rfl
 |i::l=>by rw[kF,flats,zeT_ l];rfl
theorem zjo_ (i:Int):∀(l:List Int),inV (.int i) (l.map .int)=decide (i∈l)
 |[]=>rfl
 |j::l=>by
  have:=zjo_ i l;unfold inV at this ⊢;rw[kF,ox,this];by_cases h:i=j
  ·subst h;simp[eqV]
  ·simp[eqV,h,oO h]
theorem ls_in (l:List Int):inA neg (.int i) (LS .int l)=.ok (.bl (if neg=uE then !decide (i∈l)else decide (i∈l))):=by
 show inSeq neg (.int i) (l.map .int)=_
 unfold inSeq;rw[zeT_];show Mo.ok (D.bl (if neg=uE then !(inV (.int i) (l.map .int))else inV (.int i) (l.map .int)))=_
 rw[zjo_]
end
section
variable {β γ:Type}{G:Gi}{env:Env}{lv:List Str}{fr:List (Str×Nat)}{ik:Ik}{src:List X}{tg:Tg}{p:β->Bool}{f:β->γ}{o:γ->D}
theorem zeY_ {F:List D->Mo (Option D)}{T:β->List D}:∀{l:List β}{acc:List D},(∀b∈l,F (T b)=.ok (if p b=uE then uC (o (f b))else uD))->acc.length+l.length<=100000->compM F (l.map T) acc=.ok (acc++((l.filter p).map f).map o)
 |[],acc,_,_=>by rw[nu];unfold compM;simp
 |b::l,acc,h,hl=>by
  rw[kZ]at hl;rw[kF];unfold compM;rw[h b lA,zeo_,List.filter_cons];cases e:p b with
  |false=>
   rw[if_neg (by decide),if_neg (by decide)]
   exact zeY_ (λy hy=>h y (lu _ hy)) (by lia)
  |true=>
   rw[if_pos rfl,if_pos rfl];show Mo.lim _ _=_
   rw[Mo.lim_ok (by lia),zeY_ (λy hy=>h y (lu _ hy)) (by rw[kX,nG];lia)]
   simp
theorem xcomp {c:Option X}{e:X}{items:List D}{T:β->List D}(l:List β)(hi:tg.is.all (·<lv.length)=uE)(hs:(X.evs G env src).bind ik.f=.ok items)(ht:tgsD tg items=uC (l.map T))(hc:∀b∈l,X.evT G (setE (cE lv fr env) tg.is (T b)) c=.ok (p b))(he:∀b∈l,p b=uE->X.ev G (setE (cE lv fr env) tg.is (T b)) e=.ok (o (f b)))(hl:l.length<=100000):X.ev G env (.comp lv fr ik src tg c e)=.ok (LS o ((l.filter p).map f)):=by
 rw[X.ev,if_pos hi,hs,zeo_,ht,zhO_,zeo_,zeY_ (p:=p) (f:=f) (o:=o) (λb hb=>?_) (by rw[oQ,rA];exact hl),zeo_]
 ·rfl
 ·unfold cond1
  rw[hc b hb,zeo_];cases c_:p b with
  |false=>rfl
  |true=>rw[if_pos rfl,if_pos rfl,he b hb c_];rfl
theorem xcompN {e:X}{items:List D}{T:β->List D}(l:List β)(hi:tg.is.all (·<lv.length)=uE)(hs:(X.evs G env src).bind ik.f=.ok items)(ht:tgsD tg items=uC (l.map T))(he:∀b∈l,X.ev G (setE (cE lv fr env) tg.is (T b)) e=.ok (o (f b)))(hl:l.length<=100000):X.ev G env (.comp lv fr ik src tg uD e)=.ok (LS o (l.map f)):=by
 rw[xcomp (p:=λ_=>uE) l hi hs ht (λ_ _=>xt_0) (λb hb _=>he b hb) hl]
 rw[qK.mpr λ_ _=>rfl]
theorem tgs_1 (ds:List D)(i:Nat):tgsD ⟨uF,[i]⟩ ds=uC (ds.map λd=>[d]):=by
 induction ds with
 |nil=>rw[tgsD];rfl
 |cons d ds ih=>rw[tgsD,ih];rfl
theorem z3_ {g:β->D}(l:List β)(i:Nat):tgsD ⟨uF,[i]⟩ (l.map g)=uC (l.map λd=>[g d]):=by rw[tgs_1,lX];rfl
theorem zh5_ {g h:β->D}(l:List β)(i j:Nat):tgsD ⟨uE,[i,j]⟩ (l.map λb=>.nd .tup [g b,h b])=uC (l.map λb=>[g b,h b]):=by
 induction l with
 |nil=>rw[nu,tgsD];rfl
 |cons d ds ih=>rw[kF,tgsD,ih];rfl
end
section
variable {α:Type}{g:α->D}[Im g]{i:Int}{neg:Bool}
theorem key_i (i:Int):keyD (.int i)=uC (.inl i):=rfl
theorem zj5_ {n:Nat}(h:n<100000):n<kR:=by have:=zbi_ (n:=n+1) (by lia);lia
theorem zop_ (n:Nat)(i j:Int):eqT n (.int i) (.int j)=uC (decide (i=j)):=by
 cases n with
 |zero=>show uC (eqV (.int i) (.int j))=_;rfl
 |succ n=>show uC (eqV (.int i) (.int j))=_;rfl
theorem zlg_ (n:Nat)(a b:List Nat):eqT n (.str a) (.str b)=uC (decide (a=b)):=by
 have:eqV (tx a) (tx b)=decide (a=b):=by
  by_cases h:a=b
  ·subst h;simp[tx,eqV]
  ·rw[decide_eq_false h]
   show(_ == _)=uF
   refine beq_eq_false_iff_ne.mpr λz=>h ?_
   injection z with z;exact List.toArray_inj z
 cases n with
 |zero=>show uC (eqV (tx a) (tx b))=_;rw[this]
 |succ n=>show uC (eqV (tx a) (tx b))=_;rw[this]
theorem zgc_ {f:D->D->Option Bool}[DecidableEq α]{g:α->D}(h:∀x y,f (g x) (g y)=uC (decide (x=y))):∀(a b:List α),a.length=b.length->allT f (a.map g) (b.map g)=uC (decide (a=b))
 |[],[],_=>by simp[allT]
 |x::a,y::b,hl=>by
  rw[kF,kF,allT,h,zgc_ h a b (by simpa using hl)]
  simp
theorem eq_ls [DecidableEq α]{g:α->D}{n:Nat}(h:∀x y,eqT n (g x) (g y)=uC (decide (x=y)))(a b:List α):eqT (n+1) (LS g a) (LS g b)=uC (decide (a=b)):=by
 show(if(a.map g).length=(b.map g).length then allT (eqT n) (a.map g) (b.map g)else uC uF)=_
 rw[ko,ko];by_cases hl:a.length=b.length
 ·rw[if_pos hl,zgc_ h a b hl]
 ·rw[if_neg hl,decide_eq_false (λz=>hl (by rw[z]))]
theorem zkp_ {a b:D}{c:Bool}(h:eqT 12 a b=uC c):eqD neg a b=.ok (.bl (if neg=uE then !c else c)):=by
 unfold eqD;rw[h];rfl
theorem zlG_ (a b:List Int):eqD neg (LS .int a) (LS .int b)=.ok (.bl (if neg=uE then !decide (a=b)else decide (a=b))):=zkp_ (eq_ls (n:=11) (zop_ 11) a b)
theorem zcv_ (a b:Int):eqD neg (.int a) (.int b)=.ok (.bl (if neg=uE then !decide (a=b)else decide (a=b))):=zkp_ (zop_ 12 a b)
theorem zci_ (a b:List Nat):eqD neg (.str a) (.str b)=.ok (.bl (if neg=uE then !decide (a=b)else decide (a=b))):=zkp_ (zlg_ 12 a b)
end
end VI
namespace K49
open PySem PySem.Spec PyProof.Rows L2 VI
open Mo renaming bind→Mb,ok→Mq
open Sl renaming fz→Zf,dead→Zd,ow→Zo
noncomputable abbrev Jx:=List Nat
abbrev Jy:=List Jx
noncomputable abbrev Qm0:List Nat:=[32,48,49,50,51,52,53,54,55,56,57,65,66,67,68,69,70,71,72,73,74,75,76,77,78,79,80,81,82,83,84,85,86,87,88,89,90]
noncomputable abbrev Qm1:List Nat:=[97,98,99,100,101,102,103,104,105,106,107,108,109,110,111,112,113,114,115,116,117,118,119,120,121,122]
noncomputable abbrev Qm2:List Nat:=[97,98,99,100,101,102,103,104,105,106,107,108,109,110,111,112,113,114,115,116,117,118,119,120,121]
noncomputable abbrev Qn0:List Str:=["self", "deck", "picks", "middle", "order", "works", "breaks", "sums", "figures", "board"]
abbrev Qn1:List Str:=["asking"]
noncomputable def gi:Gi:={cs:=["Asking"],kt:=[("MATING_WORDS",[[109,97,116,101,115],[119,105,116,104,111,117,116]])]}
def z8_:List S:=[.if_ (.bin .lt (.v 1) (.bf .len [(.v 0)])) [.ret (.pu (.bin .ix (.v 0) (.v 1)))] [],.asg 2 (.pu (.bin .add (.bin .mul (.v 1) (.n 7919)) (.n 5))),.if_ (.bin .gt (.bf .len [(.v 0)]) (.n 0)) [.asg 2 (.pu (.bin .mod (.bin .add (.bin .mul (.bin .ix (.v 0) (.bin .mod (.bin .mul (.v 1) (.n 7)) (.bf .len [(.v 0)]))) (.n 48271)) (.bin .mul (.v 1) (.n 7919))) (.n 2147483647)))] [],.ret (.pu (.bin .mod (.bin .mul (.v 2) (.v 2)) (.n 2147483629)))]
def z9_:Fn:=fnOf gi 2 1 z8_
noncomputable abbrev zC_:=X.call z9_ "_law_cell"
def zaR_:List S:=[.asg 1 (.pu (.k (.str Qm0))),.asg 2 (.pu (.bin .mod (.v 0) (.n 37))),.asg 3 (.pu (.bin .mod (.bin .add (.bin .add (.v 2) (.n 1)) (.bin .mod (.bin .div (.v 0) (.n 37)) (.n 36))) (.n 37))),.ret (.pu (.lst [(.bin .ix (.v 1) (.v 2)),(.bin .ix (.v 1) (.v 3)),(.bin .ix (.v 1) (.bin .mod (.bin .add (.bin .add (.v 3) (.n 1)) (.bin .mod (.bin .div (.v 0) (.n 1332)) (.n 36))) (.n 37)))]))]
def za3_:Fn:=fnOf gi 1 3 zaR_
def zak_:List S:=[.asg 1 (.pu (.k (.str Qm2))),.asg 2 (.pu (.sl (.v 1) (uC (.bin .mod (.v 0) (.n 22))) (uC (.bin .add (.bin .add (.bin .mod (.v 0) (.n 22)) (.n 1)) (.bin .mod (.bin .div (.v 0) (.n 22)) (.n 4)))))),.asg 3 (.pu (.bin .mod (.bin .div (.v 0) (.n 88)) (.bf .len [(.v 2)]))),.asg 4 (.pu (.bin .add (.bin .add (.sl (.v 2) uD (uC (.v 3))) (.k (.str [122]))) (.sl (.v 2) (uC (.bin .add (.v 3) (.n 1))) uD))),.if_ (.bin .eq (.bin .mod (.bin .div (.v 0) (.n 352)) (.n 2)) (.n 1)) [.ret (.pu (.lst [(.v 4),(.v 2)]))] [],.ret (.pu (.lst [(.v 2),(.v 4)]))]
def zaX_:Fn:=fnOf gi 1 4 zak_
def za1_:List S:=[.asg 2 (.pu (.bin .mod (.v 0) (.n 5))),.ret (.pu (.tup [(.bin .add (.v 1) (.v 2)),(.bin .add (.bin .add (.v 1) (.v 2)) (.bin .mod (.bin .div (.v 0) (.n 5)) (.bf .min [(.n 3),(.bin .sub (.n 5) (.v 2))])))]))]
def zaT_:Fn:=fnOf gi 2 1 za1_
def z6_:List S:=[.asg 4 (.pu (.k (.str Qm0))),.asg 5 (.pu (.bin .mul (.lst [(.bin .ix (.v 4) (.bin .mod (.bin .div (.v 0) (.n 243)) (.n 37)))]) (.n 36))),.for_ .r1 [(.n 5)] ⟨uF,[6]⟩ [.setI (.v 5) (.bin .add (.bin .sub (.v 1) (.n 1)) (.v 6)) (.bin .ix (.v 2) (.bin .mod (.bin .div (.v 0) (.bin .ix (.lst [(.n 1),(.n 3),(.n 9),(.n 27),(.n 81)]) (.v 6))) (.n 3)))],.ret (.pu (.bin .add (.sm .join (.k (.str [])) [(.v 5)]) (.sm .zfill (.bf .str [(.v 3)]) [(.n 4)])))]
def zB_:Fn:=fnOf gi 4 3 z6_
def zN_:List S:=[.asg 4 (.pu (.k (.str []))),.for_ .r1 [(.bin .add (.bin .sub (.i (.v 1) 1) (.i (.v 1) 0)) (.n 1))] ⟨uF,[5]⟩ [.asg 4 (.pu (.bin .add (.v 4) (.bin .ix (.v 2) (.bin .mod (.bin .div (.v 0) (.bin .ix (.lst [(.n 2),(.n 6),(.n 18)]) (.v 5))) (.n 3)))))],.ret (.pu (.bin .add (.bin .add (.bin .add (.bin .mul (.k (.str [32])) (.bin .sub (.i (.v 1) 0) (.n 1))) (.v 4)) (.bin .mul (.k (.str [65])) (.bin .sub (.n 36) (.i (.v 1) 1)))) (.sm .zfill (.bf .str [(.v 3)]) [(.n 4)])))]
def zw_:Fn:=fnOf gi 4 2 zN_
def zdK_:List S:=[.ret (.pu (.and (.bin .isn (.fld (.v 0) "middle") (.k .non)) (.bin .inn (.i (.fld (.v 0) "middle") 0) (.gt "MATING_WORDS" [[109,97,116,101,115],[119,105,116,104,111,117,116]]))))]
def zb0_:Fn:=fnOf gi 1 0 zdK_
noncomputable abbrev zbd_:=X.call zb0_ "mates_by"
def zdw_:List S:=[.ret (.pu (.ifx (zbd_ [(.v 0)]) (.lst [(.fld (.v 0) "deck"),(.i (.fld (.v 0) "middle") 1)]) (.lst [(.fld (.v 0) "deck")])))]
def z4_:Fn:=fnOf gi 1 0 zdw_
def zaA_:List S:=[.for_ .any [(.call z4_ "names_of" [(.v 0)])] ⟨uF,[2]⟩ [.if_ (.bin .nin (.v 2) (.v 1)) [.never] []]]
def zR_:Fn:=fnOf gi 2 1 zaA_
noncomputable def zbG_:List S:=[.asg 2 (.pu (.v 1)),.for_ .any [(.fld (.v 0) "picks")] ⟨uF,[3]⟩ [.never],.ret (.mv 2)]
def zau_:Fn:=fnOf gi 2 2 zbG_
def zaO_:List S:=[.if_ (.bin .is (.fld (.v 0) "middle") (.k .non)) [.ret (.pu (.lst []))] [],.ret (.pu (.ifx (zbd_ [(.v 0)]) (.bf .list [(.sl (.fld (.v 0) "middle") (uC (.n 2)) uD)]) (.lst [(.i (.fld (.v 0) "middle") 1)])))]
def zk_:Fn:=fnOf gi 1 0 zaO_
noncomputable abbrev zW_:=X.call zk_ "middle_fields"
def zcW_:List S:=[.ret (.pu (.and (.bin .eq (.bf .len [(.v 0)]) (.n 1)) (.bin .inn (.v 0) (.g "SIGNS" (.str Qm0)))))]
def zcT_:Fn:=fnOf gi 1 0 zcW_
def zcR_:List S:=[.if_ (.not (.call zcT_ "is_sign" [(.v 0)])) [.never] [],.ret (.pu (.sm .index (.g "SIGNS" (.str Qm0)) [(.v 0)]))]
def zcL_:Fn:=fnOf gi 1 0 zcR_
def zcY_:List S:=[.ret (.pu (.bin .ix (.v 0) (.bin .sub (.v 1) (.n 1))))]
def zcO_:Fn:=fnOf gi 2 0 zcY_
def zbe_:List S:=[.ret (.pu (.comp ["column"] [("card",0)] .any [(.v 1)] ⟨uF,[0]⟩ uD (.call zcL_ "rank_of" [(.call zcO_ "sign_at" [(.v 1),(.v 0)])])))]
def z2_:Fn:=fnOf gi 2 0 zbe_
noncomputable abbrev zcb_:=X.call z2_ "ranks_at"
def zbn_:List S:=[.ret (.pu (.srt "card" [("columns",1)] 0 (zcb_ [(.v 0),(.v 1)])))]
def zt_:Fn:=fnOf gi 2 0 zbn_
def zaU_:List S:=[.ret (.pu (.lr (.i (.v 0) 0) (.bin .add (.i (.v 0) 1) (.n 1))))]
def zx_:Fn:=fnOf gi 1 0 zaU_
def zaC_:List S:=[.ret (.pu (.bin .ltL (zcb_ [(.v 0),(.v 2)]) (zcb_ [(.v 1),(.v 2)])))]
def zaD_:Fn:=fnOf gi 3 0 zaC_
def zeh_:List S:=[.for_ .r2 [(.n 1),(.bf .len [(.v 0)])] ⟨uF,[2]⟩ [.if_ (.call zaD_ "comes_ahead" [(.bin .ix (.v 0) (.v 2)),(.bin .ix (.v 0) (.bin .sub (.v 2) (.n 1))),(.v 1)]) [.ret (.mv 2)] []],.ret (.pu (.k .non))]
def zd3_:Fn:=fnOf gi 2 1 zeh_
def zaq_:List S:=[.asg 3 (.pu (.call zd3_ "out_at" [(.v 0),(.call zx_ "columns_of" [(.v 1)])])),.if_ (.bin .isn (.v 3) (.k .non)) [.never] []]
def zat_:Fn:=fnOf gi 3 1 zaq_
def zcI_:List S:=[.ret (.pu (.sl (.v 0) (uC (.bin .sub (.i (.v 1) 0) (.n 1))) (uC (.i (.v 1) 1))))]
def zc8_:Fn:=fnOf gi 2 0 zcI_
noncomputable abbrev zbM_:=X.call zc8_ "part_of"
def zG_:List S:=[.ex (.pu (.call zat_ "check_order" [(.v 0),(.v 1),(.n 1)])),.asg 2 (.pu (.lst [])),.asg 3 (.pu (.lst [])),.asg 4 (.pu .dct0),.for_ .any [(.v 0)] ⟨uF,[5]⟩ [.asg 6 (.pu (zbM_ [(.v 5),(.v 1)])),.if_ (.bin .inn (.v 6) (.v 4)) [.ex (.bm .append (.v 3) [(.x (.v 5))])] [.ex (.bm .append (.v 2) [(.x (.v 5))])],.setI (.v 4) (.v 6) (.k (.bl uE))],.ret (.pu (.tup [(.v 2),(.v 3)]))]
def zQ_:Fn:=fnOf gi 2 5 zG_
def zaz_:List S:=[.asg 2 (.pu .dct0),.for_ .any [(.v 0)] ⟨uF,[3]⟩ [.setI (.v 2) (zbM_ [(.v 3),(.v 1)]) (.k (.bl uE))],.ret (.mv 2)]
def za5_:Fn:=fnOf gi 2 2 zaz_
def za2_:List S:=[.ret (.pu (.comp ["card"] [("parts",2),("field",1)] .any [(.v 0)] ⟨uF,[0]⟩ (uC (.bin .inn (zbM_ [(.v 0),(.v 2)]) (.v 1))) (.v 0)))]
def za0_:Fn:=fnOf gi 3 0 za2_
def zX_:List S:=[.ret (.pu (.comp ["card"] [("parts",2),("field",1)] .any [(.v 0)] ⟨uF,[0]⟩ (uC (.bin .nin (zbM_ [(.v 0),(.v 2)]) (.v 1))) (.v 0)))]
def zU_:Fn:=fnOf gi 3 0 zX_
def zO_:List S:=[.if_ (.bin .is (.fld (.v 0) "middle") (.k .non)) [.ret (.mv 1)] [],.asg 3 (.pu (zW_ [(.v 0)])),.asg 4 (.pu (.call zt_ "put_in_order" [(.v 1),(.call zx_ "columns_of" [(.i (.v 3) 0)])])),.if_ (.bin .eq (.i (.fld (.v 0) "middle") 0) (.k (.str [102,105,114,115,116]))) [.ret (.pu (.i (.call zQ_ "first_cards" [(.v 4),(.i (.v 3) 0)]) 0))] [],.asg 5 (.pu (.call za5_ "parts_in" [(.bin .ix (.v 2) (.i (.fld (.v 0) "middle") 1)),(.i (.v 3) 1)])),.if_ (.bin .eq (.i (.fld (.v 0) "middle") 0) (.k (.str [109,97,116,101,115]))) [.ret (.pu (.call za0_ "with_parts" [(.v 4),(.i (.v 3) 0),(.v 5)]))] [],.ret (.pu (.call zU_ "without_parts" [(.v 4),(.i (.v 3) 0),(.v 5)]))]
def zF_:Fn:=fnOf gi 3 3 zO_
noncomputable def zbB_:List S:=[.asg 1 (.pu (.lst [])),.for_ .any [(.fld (.v 0) "order")] ⟨uF,[2]⟩ [.never],.ret (.mv 1)]
def zay_:Fn:=fnOf gi 1 2 zbB_
noncomputable def zbF_:List S:=[.asg 2 (.pu (.v 1)),.for_ .any [(.fld (.v 0) "works")] ⟨uF,[3]⟩ [.never],.ret (.mv 2)]
def zav_:Fn:=fnOf gi 2 2 zbF_
def zax_:List S:=[.ex (.pu (.call zR_ "check_trays" [(.v 0),(.v 1)])),.asg 2 (.pu (.call zau_ "picked_deck" [(.v 0),(.bin .ix (.v 1) (.fld (.v 0) "deck"))])),.asg 2 (.pu (.call zF_ "middle_deck" [(.v 0),(.v 2),(.v 1)])),.asg 2 (.pu (.call zt_ "put_in_order" [(.v 2),(.call zay_ "key_columns" [(.v 0)])])),.ret (.pu (.comp ["card"] [("asking",0)] .any [(.v 2)] ⟨uF,[0]⟩ uD (.call zav_ "worked_card" [(.v 1),(.v 0)])))]
def zT_:Fn:=fnOf gi 2 1 zax_
noncomputable def zdx_:List S:=[.ret (.pu (.ifx (.bin .is (.v 0) (.k .non)) (.lst []) (.bf .list [(.v 0)])))]
def zca_:Fn:=fnOf gi 1 0 zdx_
noncomputable abbrev zb7_:=X.call zca_ "own_list"
noncomputable def zeG_:List S:=[.if_ (.not (.v 0)) [.never] []]
def zcP_:Fn:=fnOf gi 2 0 zeG_
noncomputable abbrev zn_:=X.call zcP_ "ask_for"
def zD_:List S:=[.ex (.pu (zn_ [(.bin .le (.bf .len [(.fld (.v 0) "picks")]) (.g "MOST_PICKS" (.int 8))),(.k (.str [97,110,32,97,115,107,105,110,103,32,104,97,115,32,56,32,112,105,99,107,115,32,97,116,32,109,111,115,116]))])),.ex (.pu (zn_ [(.bin .le (.bf .len [(.fld (.v 0) "order")]) (.g "MOST_KEYS" (.int 6))),(.k (.str [97,110,32,97,115,107,105,110,103,32,104,97,115,32,54,32,107,101,121,115,32,97,116,32,109,111,115,116]))])),.ex (.pu (zn_ [(.bin .le (.bf .len [(.fld (.v 0) "works")]) (.g "MOST_WORKS" (.int 4))),(.k (.str [97,110,32,97,115,107,105,110,103,32,104,97,115,32,52,32,119,111,114,107,115,32,97,116,32,109,111,115,116]))])),.ex (.pu (zn_ [(.bin .le (.bf .len [(.fld (.v 0) "sums")]) (.g "MOST_SUMS" (.int 4))),(.k (.str [97,110,32,97,115,107,105,110,103,32,104,97,115,32,52,32,115,117,109,115,32,97,116,32,109,111,115,116]))]))]
def zE_:Fn:=fnOf gi 1 0 zD_
def zP_:List S:=[.if_ (.bin .is (.fld (.v 0) "middle") (.k .non)) [.retN] [],.asg 1 (.pu (.bf .len [(.fld (.v 0) "middle")])),.ex (.pu (zn_ [(.and (.bin .gt (.v 1) (.n 0)) (.or (zbd_ [(.v 0)]) (.bin .eq (.i (.fld (.v 0) "middle") 0) (.k (.str [102,105,114,115,116]))))),(.k (.str [97,32,109,105,100,100,108,101,32,104,97,115,32,111,110,101,32,111,102,32,116,104,114,101,101,32,119,111,114,100,115]))])),.ex (.pu (zn_ [(.bin .eq (.v 1) (.ifx (zbd_ [(.v 0)]) (.n 4) (.n 2))),(.k (.str [97,32,109,105,100,100,108,101,32,104,97,115,32,119,104,97,116,32,105,116,115,32,119,111,114,100,32,119,97,110,116,115]))]))]
def zz_:Fn:=fnOf gi 1 1 zP_
def zcC_:List S:=[.ret (.pu (.and (.ch .le .le (.n 1) (.bf .len [(.v 0)]) (.g "LONGEST_NAME" (.int 8))) (.bf .all [(.comp ["letter"] [] .any [(.v 0)] ⟨uF,[0]⟩ uD (.bin .inn (.v 0) (.g "SMALL_LETTERS" (.str Qm1))))])))]
def zda_:Fn:=fnOf gi 1 0 zcC_
def zar_:List S:=[.asg 1 (.pu (.call z4_ "names_of" [(.v 0)])),.for_ .any [(.v 1)] ⟨uF,[2]⟩ [.ex (.pu (zn_ [(.call zda_ "is_name" [(.v 2)]),(.k (.str [97,32,110,97,109,101,32,104,97,115,32,111,110,101,32,116,111,32,101,105,103,104,116,32,115,109,97,108,108,32,108,101,116,116,101,114,115]))]))],.ex (.pu (zn_ [(.or (.bin .ne (.i (.v 1) 0) (.bin .ix (.v 1) (.neg (.n 1)))) (.bin .eq (.bf .len [(.v 1)]) (.n 1))),(.k (.str [116,104,101,32,116,119,111,32,110,97,109,101,115,32,97,114,101,32,117,110,108,105,107,101]))]))]
def zS_:Fn:=fnOf gi 1 2 zar_
def zaQ_:List S:=[.asg 1 (.pu (.bin .add (.bin .add (.bin .add (.comp ["pick"] [] .any [(.fld (.v 0) "picks")] ⟨uF,[0]⟩ uD (.i (.v 0) 0)) (zW_ [(.v 0)])) (.fld (.v 0) "order")) (.fld (.v 0) "sums"))),.for_ .any [(.fld (.v 0) "works")] ⟨uF,[2]⟩ [.never],.ret (.mv 1)]
def zaV_:Fn:=fnOf gi 1 2 zaQ_
noncomputable def zdu_:List S:=[.ret (.pu (.and (.isa (.v 0) "int") (.not (.isa (.v 0) "bool"))))]
def zcg_:Fn:=fnOf gi 1 0 zdu_
noncomputable abbrev zbb_:=X.call zcg_ "is_whole"
def zcc_:List S:=[.ret (.pu (.and (zbb_ [(.v 0)]) (.and (zbb_ [(.v 1)]) (.ch3 .le .le .le (.n 1) (.v 0) (.v 1) (.g "BODY_WIDTH" (.int 36))))))]
def zbV_:Fn:=fnOf gi 2 0 zcc_
noncomputable def za7_:List S:=[.asg 1 (.pu .dct0),.for_ .any [(.v 0)] ⟨uF,[2]⟩ [.never],.ret (.mv 1)]
def zba_:Fn:=fnOf gi 1 2 za7_
noncomputable def zbJ_:List S:=[.asg 1 (.pu (.lst [])),.for_ .any [(.fld (.v 0) "picks")] ⟨uF,[2]⟩ [.never],.ret (.mv 1)]
def zbE_:Fn:=fnOf gi 1 2 zbJ_
def zbI_:List S:=[.for_ .any [(.fld (.v 0) "picks")] ⟨uF,[1]⟩ [.never,.never],.ex (.pu (zn_ [(.bin .isn (.call zba_ "picked_signs" [(.call zbE_ "pick_passes" [(.v 0)])]) (.k .non)),(.k (.str [116,119,111,32,112,105,99,107,115,32,119,97,110,116,32,117,110,108,105,107,101,32,115,105,103,110,115,32,111,102,32,111,110,101,32,99,111,108,117,109,110]))]))]
def zaE_:Fn:=fnOf gi 1 1 zbI_
def zdv_:List S:=[.ret (.pu (.bin .add (.bin .sub (.i (.v 0) 1) (.i (.v 0) 0)) (.n 1)))]
def zbp_:Fn:=fnOf gi 1 0 zdv_
def zu_:List S:=[.asg 1 (.pu (zW_ [(.v 0)])),.ifL (.v 1) [.ex (.pu (zn_ [(.bin .eq (.call zbp_ "width_of" [(.i (.v 1) 0)]) (.call zbp_ "width_of" [(.bin .ix (.v 1) (.neg (.n 1)))])),(.k (.str [116,104,101,32,109,105,100,100,108,101,39,115,32,102,105,101,108,100,115,32,97,114,101,32,111,102,32,111,110,101,32,119,105,100,116,104]))]))] []]
def zm_:Fn:=fnOf gi 1 1 zu_
noncomputable def zaY_:List S:=[.for_ .any [(.v 0)] ⟨uF,[1]⟩ [.never],.asg 2 (.pu .dct0),.for_ .any [(.v 0)] ⟨uF,[1]⟩ [.never,.never],.ret (.pu (.comp ["column"] [("leading",2)] .any [(.bf .sorted [(.v 2)])] ⟨uF,[0]⟩ uD (.bin .ix (.v 1) (.v 0))))]
def za4_:Fn:=fnOf gi 1 2 zaY_
def zbX_:List S:=[.try0 [.asg 1 (.pu (.call za4_ "make_board" [(.v 0)]))] [],.ret (.pu (.bin .eq (.v 1) (.v 0)))]
def zck_:Fn:=fnOf gi 1 1 zbX_
def zK_:List S:=[.ex (.pu (zn_ [(.and (zbb_ [(.fld (.v 0) "breaks")]) (.ch .le .le (.n 0) (.fld (.v 0) "breaks") (.g "MOST_BREAKS" (.int 3)))),(.k (.str [116,104,101,114,101,32,97,114,101,32,48,32,116,111,32,51,32,98,114,101,97,107,115]))])),.ex (.pu (zn_ [(.bin .le (.fld (.v 0) "breaks") (.bf .len [(.fld (.v 0) "order")])),(.k (.str [116,104,101,114,101,32,97,114,101,32,110,111,32,109,111,114,101,32,98,114,101,97,107,115,32,116,104,97,110,32,107,101,121,115]))])),.ex (.pu (zn_ [(.and (zbb_ [(.fld (.v 0) "figures")]) (.ch .le .le (.n 1) (.fld (.v 0) "figures") (.g "MOST_FIGURES" (.int 12)))),(.k (.str [119,104,101,101,108,115,32,104,97,118,101,32,49,32,116,111,32,49,50,32,102,105,103,117,114,101,115]))])),.ex (.pu (zn_ [(.call zck_ "is_board" [(.fld (.v 0) "board")]),(.k (.str [116,104,101,32,98,111,97,114,100,32,105,115,32,110,111,110,101,44,32,111,114,32,110,111,116,32,115,111,114,116,101,100]))]))]
def zL_:Fn:=fnOf gi 1 0 zK_
noncomputable def zbK_:List S:=[.for_ .en [(.fld (.v 0) "works")] ⟨uE,[1,2]⟩ [.never,.never]]
def zaB_:Fn:=fnOf gi 1 3 zbK_
def zad_:List S:=[.ex (.pu (.call zE_ "check_lengths" [(.v 0)])),.ex (.pu (.call zz_ "check_middle_word" [(.v 0)])),.ex (.pu (.call zS_ "check_names" [(.v 0)])),.for_ .any [(.call zaV_ "fields_due" [(.v 0)])] ⟨uF,[1]⟩ [.ex (.pu (zn_ [(.call zbV_ "is_field" [(.i (.v 1) 0),(.i (.v 1) 1)]),(.k (.str [97,32,102,105,101,108,100,32,103,111,101,115,32,102,114,111,109,32,97,32,102,105,114,115,116,32,116,111,32,97,32,108,97,115,116,32,99,111,108,117,109,110,44,32,102,114,111,109,32,49,32,116,111,32,51,54]))]))],.ex (.pu (.call zaE_ "check_picks" [(.v 0)])),.ex (.pu (.call zm_ "check_middle_widths" [(.v 0)])),.ex (.pu (.call zL_ "check_counting" [(.v 0)])),.ex (.pu (.call zaB_ "check_works" [(.v 0)]))]
def zah_:Fn:=fnOf gi 1 1 zad_
def zo_:List S:=[.setF (.v 0) "deck" (.v 1),.setF (.v 0) "picks" (.bf .list [(.v 2)]),.setF (.v 0) "middle" (.v 3),.setF (.v 0) "order" (.bf .list [(.v 4)]),.setF (.v 0) "works" (zb7_ [(.v 5)]),.setF (.v 0) "breaks" (.v 6),.setF (.v 0) "sums" (zb7_ [(.v 7)]),.setF (.v 0) "figures" (.v 8),.setF (.v 0) "board" (zb7_ [(.v 9)]),.ex (.pu (.call zah_ "check_asking" [(.v 0)]))]
def zi_:Fn:=fnOf gi 10 0 zo_
def zbt_:List S:=[.ret (.pu (.sl (.v 0) (uC (.bin .sub (.i (.v 1) 0) (.n 1))) (uC (.i (.v 1) 1))))]
def zbz_:Fn:=fnOf gi 2 0 zbt_
noncomputable abbrev zaF_:=X.call zbz_ "_law_part"
def zag_:List S:=[.if_ (.or (.not (.isa (.v 0) "list")) (.bin .ne (.bf .len [(.v 0)]) (.bf .len [(.v 1)]))) [.ret (.pu (.k (.bl uF)))] [],.for_ .any [(.v 0)] ⟨uF,[3]⟩ [.if_ (.or (.not (.isa (.v 3) "str")) (.bin .nin (.v 3) (.v 1))) [.ret (.pu (.k (.bl uF)))] []],.for_ .zip [(.sl (.v 0) uD (uC (.neg (.n 1)))),(.sl (.v 0) (uC (.n 1)) uD)] ⟨uE,[4,5]⟩ [.asg 6 (.pu (zaF_ [(.v 4),(.v 2)])),.asg 7 (.pu (zaF_ [(.v 5),(.v 2)])),.if_ (.or (.bin .gtT (.v 6) (.v 7)) (.and (.bin .eq (.v 6) (.v 7)) (.bin .ge (.li (.v 1) (.v 4)) (.li (.v 1) (.v 5))))) [.ret (.pu (.k (.bl uF)))] []],.ret (.pu (.k (.bl uE)))]
def zae_:Fn:=fnOf gi 3 5 zag_
def zaG_:List S:=[.asg 4 (.pu (.comp ["_law_card_here"] [("_law_field_here",2)] .any [(.v 0)] ⟨uF,[0]⟩ uD (zaF_ [(.v 0),(.v 1)]))),.if_ (.bin .eq (.i (.v 1) 0) (.k (.str [102,105,114,115,116]))) [.ret (.pu (.comp ["_law_k"] [("_law_deck",0),("_law_parts",4)] .r1 [(.bf .len [(.v 0)])] ⟨uF,[0]⟩ (uC (.bin .nin (.bin .ix (.v 2) (.v 0)) (.sl (.v 2) uD (uC (.v 0))))) (.bin .ix (.v 1) (.v 0))))] [],.asg 5 (.pu (.comp ["_law_card_here"] [("_law_middle",1)] .any [(.v 3)] ⟨uF,[0]⟩ uD (zaF_ [(.v 0),(.i (.v 1) 3)]))),.ret (.pu (.comp ["_law_k"] [("_law_deck",0),("_law_known",5),("_law_parts",4),("_law_middle",1)] .r1 [(.bf .len [(.v 0)])] ⟨uF,[0]⟩ (uC (.bin .eq (.bin .inn (.bin .ix (.v 3) (.v 0)) (.v 2)) (.bin .eq (.i (.v 4) 0) (.k (.str [109,97,116,101,115]))))) (.bin .ix (.v 1) (.v 0))))]
def z7_:Fn:=fnOf gi 4 2 zaG_
def zlK_:List S:=[.asg 1 (.pu (.bin .add (.n 1) (.bin .mod (zC_ [(.v 0),(.n 0)]) (.n 32)))),.asg 2 (.pu (.call za3_ "_law_signs" [(.bin .div (zC_ [(.v 0),(.n 0)]) (.n 32))])),.asg 3 (.pu (.call zaX_ "_law_names" [(zC_ [(.v 0),(.n 1)])])),.asg 4 (.pu (.call zaT_ "_law_field" [(zC_ [(.v 0),(.n 2)]),(.v 1)])),.asg 5 (.pu (.bin .sub (.i (.v 4) 1) (.i (.v 4) 0))),.asg 6 (.pu (.bin .add (.n 1) (.bin .mod (zC_ [(.v 0),(.n 3)]) (.bin .sub (.n 36) (.v 5))))),.asg 7 (.pu (.bin .mod (zC_ [(.v 0),(.n 4)]) (.n 3))),.asg 8 (.pu (.tup [(.k (.str [102,105,114,115,116])),(.v 4)])),.if_ (.bin .gt (.v 7) (.n 0)) [.asg 8 (.pu (.tup [(.bin .ix (.lst [(.k (.str [109,97,116,101,115])),(.k (.str [119,105,116,104,111,117,116]))]) (.bin .sub (.v 7) (.n 1))),(.i (.v 3) 1),(.v 4),(.tup [(.v 6),(.bin .add (.v 6) (.v 5))])]))] [],.asg 9 (.pu (.comp ["_law_k", "_law_cell_here"] [("_law_base",1),("_law_signs_here",2)] .en [(.sl (.v 0) (uC (.n 6)) (uC (.n 66)))] ⟨uE,[0,1]⟩ uD (.call zB_ "_law_card" [(.v 1),(.v 2),(.v 3),(.v 0)]))),.asg 10 (.pu (.sl (.v 0) (uC (.n 6)) (uC (.bin .add (.n 6) (.bin .mod (zC_ [(.v 0),(.n 5)]) (.bin .add (.bin .div (.bf .len [(.v 9)]) (.n 2)) (.n 1))))))),.asg 11 (.pu (.comp ["_law_k", "_law_cell_here"] [("_law_signs_here",2),("_law_low",6),("_law_wide",5)] .en [(.v 10)] ⟨uE,[0,1]⟩ uD (.call zw_ "_law_other" [(.v 1),(.tup [(.v 3),(.bin .add (.v 3) (.v 4))]),(.v 2),(.v 0)]))),.asg 12 (.pu (.ds2 (.i (.v 3) 0) (.bf .list [(.v 9)]) (.i (.v 3) 1) (.bf .list [(.v 11)]))),.asg 13 (.pu (.call zT_ "chosen_deck" [(.mkd zi_ "Asking" [(.i (.v 3) 0),(.lst []),(.v 8),(.lst [])] [.non,(.int 0),.non,(.int 6),.non]),(.v 12)])),.if_ (.bin .ned (.v 12) (.ds2 (.i (.v 3) 0) (.v 9) (.i (.v 3) 1) (.v 11))) [.ret (.pu (.k (.bl uF)))] [],.ret (.pu (.call zae_ "_law_ordered" [(.v 13),(.call z7_ "_law_kept" [(.v 9),(.v 8),(.v 4),(.v 11)]),(.v 4)]))]
def f_law:Fn:=fnOf gi 1 13 zlK_
set_option hygiene false in
local macro_rules | `(tactic|exists $ts,*) => `(tactic|first |simp only[S.runs, S.run, trD, zdc_, ye_mv, zoM_, zo6_, to_ok, bm_v, sd_v, onS, call1, atS_0, atS_s, Bm.ty, Bm.f, zpc_, ↓zdY_, ↓zoU_, ↓sq_ct, ↓sq_ex, ↓zhD_, ↓mr_ex, ↓zeo_, zdY_, zoU_, sq_ct, sq_ex, zhD_, mr_ex, zeo_, zhO_, ifM_t, ifM_f, and_t, and_f, or_t, or_f, noE, or_b, and_b, min_i, vd_mod, zf5_, znX_, nw_bl, zoo_, zlu_, zq0_, nw_nd, nw_c, nw_0, Bool.and_true, Mo.lim_ok, ag_d, ag_0, zmG_, zpb_, zrb_, get_0, get_s, mv_0, mv_s, zgk_, zs_, zmM_, zlc_, frzE, List.foldl_cons, List.foldl_nil, frz_0, frz_n, frz_s, X.uses, X.usesL, X.usesO, z3_, zh5_, xv_v, zqX_, xv_ch, zp9_, zrg_, xv_or, zqB_, zqm_, zpQ_, xv_sl, zrq_, zqV_, zrt_, zor_, xv_bf, xv_lr, zqK_, zp8_, xs_0, xs_c, xo_0, xo_s, xt_0, xt_s, zrk_, zp3_, xk_bl, zoV_, zq4_, zru_, fz_ix, fz_in, zql_, zlV_, zms_, fz_sl, zqv_, zlB_, zmv_, zqx_, zn2_, fz_is, zqW_, fz_bl, zoP_, zqi_, fz_rv, zlR_, zmL_, zn7_, fz_eq, zpo_, Bo.f, Bf.f, Ik.f, forS, evG, List.map_cons, List.map_nil, List.length_cons, List.length_nil, List.set_cons_zero, List.set_cons_succ, List.replicate_succ, List.replicate_zero, List.cons_append, List.nil_append, zqY_, zq5_, bl_vw, zpU_, zra_, znN_, ls_vw, zmU_, zM_, zn8_, zoC_, zpS_, ze9_, zmj_, zqL_, ls_rv, ls_in, zlG_, zcv_, zci_, vd_lt, vd_le, vd_gt, vd_ge, zqk_, zqC_, zp0_, vd_bl, vd_int, zqG_, Bool.not_true, Bool.not_false, if_true, if_false, Bool.false_eq_true, Bool.true_eq_false, Option.map_some, Option.map_none, Nat.reduceAdd, Nat.reduceLT, Nat.reduceLeDiff, Int.reduceLT, Int.reduceLE, Int.reduceNeg, Int.reduceAdd, Int.reduceSub, Nat.lt_add_one, Nat.zero_lt_succ, Nat.zero_add, setE, cE, List.getElem?_cons_succ, List.getElem?_cons_zero, Option.join_some, setG, true_and, Int.toNat_natCast, zcN_, $[$ts:term],*]|skip)
set_option hygiene false in
local macro_rules | `(tactic|fail "q") => `(tactic|first |exact⟨_, _, rfl, .inl rfl⟩|exact⟨_, _, rfl, .inr ⟨rfl, rfl⟩⟩|exact⟨_, _, rfl, .inr ⟨rfl, trivial⟩⟩)
noncomputable abbrev Fd:=Int×Int
def F2 (f:Fd):D:=.nd .tup [.int f.1,.int f.2]
instance:Im F2:=⟨λ_=>rfl⟩
abbrev Pk:=Fd×List Nat
def PK (p:Pk):D:=.nd .tup [F2 p.1,.str p.2]
instance:Im PK:=⟨λ_=>rfl⟩
abbrev Wk:=Fd×Fd×List Nat×Fd
def WK (w:Wk):D:=.nd .tup [F2 w.1,F2 w.2.1,.str w.2.2.1,F2 w.2.2.2]
instance:Im WK:=⟨λ_=>rfl⟩
theorem F2_0 (f:Fd):ixA (F2 f) (.int 0)=.ok (.int f.1):=rfl
theorem F2_1 (f:Fd):ixA (F2 f) (.int 1)=.ok (.int f.2):=rfl
theorem PK_0 (f:Pk):ixA (PK f) (.int 0)=.ok (F2 f.1):=rfl
theorem PK_1 (f:Pk):ixA (PK f) (.int 1)=.ok (.str f.2):=rfl
theorem WK_0 (f:Wk):ixA (WK f) (.int 0)=.ok (F2 f.1):=rfl
theorem WK_1 (f:Wk):ixA (WK f) (.int 1)=.ok (F2 f.2.1):=rfl
theorem WK_2 (f:Wk):ixA (WK f) (.int 2)=.ok (.str f.2.2.1):=rfl
theorem WK_3 (f:Wk):ixA (WK f) (.int 3)=.ok (F2 f.2.2.2):=rfl
theorem zce_ (f:Fd):(F2 f).vw=F2 f:=rfl
theorem PK_vw (f:Pk):(PK f).vw=PK f:=rfl
theorem WK_vw (f:Wk):(WK f).vw=WK f:=rfl
theorem F2_nw (f:Fd):(F2 f).new=uE:=znN_ f
noncomputable def WFi:List Nat:=[102,105,114,115,116]
noncomputable def WMa:List Nat:=[109,97,116,101,115]
noncomputable def WWi:List Nat:=[119,105,116,104,111,117,116]
inductive Md where
 |no |fi (f:Fd)|ma (w n:Jx) (f g:Fd)
def MD:Md->D
 |.no=>.non
 |.fi f=>.nd .tup [.str WFi,F2 f]
 |.ma w n f g=>.nd .tup [.str w,.str n,F2 f,F2 g]
structure Ak where
 dk:List Nat
 pk:List Pk
 md:Md
 od:List Fd
 wk:List Wk
 br:Int
 su:List Fd
 fg:Int
 bd:List Fd
def aFs (A:Ak):List D:=[.str A.dk,LS PK A.pk,MD A.md,LS F2 A.od,LS WK A.wk,.int A.br,LS F2 A.su,.int A.fg,LS F2 A.bd]
def AO (A:Ak):D:=.nd (.obj "Asking" ["deck", "picks", "middle", "order", "works", "breaks", "sums", "figures", "board"]) (aFs A)
section
variable (A:Ak)
theorem AO_deck:fldD gi.cs "deck" (AO A)=.ok (.str A.dk):=rfl
theorem zkP_:fldD gi.cs "picks" (AO A)=.ok (.fz (LS PK A.pk)):=rfl
theorem ziP_:fldD gi.cs "middle" (AO A)=.ok (MD A.md):=by cases h:A.md<;>· show Mq (MD A.md).vw=_;rw[h];rfl
theorem zkk_:fldD gi.cs "order" (AO A)=.ok (.fz (LS F2 A.od)):=rfl
theorem zkA_:fldD gi.cs "works" (AO A)=.ok (.fz (LS WK A.wk)):=rfl
theorem zoE_:fldD gi.cs "breaks" (AO A)=.ok (.int A.br):=rfl
theorem zmH_:fldD gi.cs "sums" (AO A)=.ok (.fz (LS F2 A.su)):=rfl
theorem zmN_:fldD gi.cs "figures" (AO A)=.ok (.int A.fg):=rfl
theorem zpi_:fldD gi.cs "board" (AO A)=.ok (.fz (LS F2 A.bd)):=rfl
theorem AO_vw:(AO A).vw=.fz (AO A):=rfl
theorem z1_:(D.fz (AO A)).vw=.fz (AO A):=rfl
end
def OkFd (f:Fd):Prop:=1<=f.1/\f.1<=f.2/\f.2<=36
def SG:List Nat:=Qm0
def LT:List Nat:=Qm1
def OkN (n:Jx):Prop:=1<=n.length/\n.length<=8/\∀c∈n,c∈LT
def OkK (sg:Int->Nat)(p:Pk):Prop:=OkFd p.1/\p.2=(rngI p.1.1 (p.1.2+1-p.1.1).toNat).map sg
def OkM (d:Jx):Md->Prop
 |.no=>True
 |.fi f=>OkFd f
 |.ma w n f g=>(w=WMa\/w=WWi)/\OkN n/\n≠d/\OkFd f/\OkFd g/\f.2-f.1=g.2-g.1
def WWo:Jy:=[[112,108,117,115],[108,101,115,115],[116,105,109,101,115]]
def OkW (w:Wk):Prop:=OkFd w.1/\OkFd w.2.1/\OkFd w.2.2.2/\w.2.2.1∈WWo
def apt (a b:Fd):Bool:=decide (a.2<b.1)||decide (b.2<a.1)
def midF:Md->List Fd
 |.no=>[]
 |.fi f=>[f]
 |.ma _ _ f g=>[f,g]
def gk (k:Int)(q:Int×Wk):List Fd:=(if q.1=k then[]else[q.2.1])++(if q.1<=k then[q.2.2.1,q.2.2.2.2]else[])
def kp (A:Ak)(k:Int):List Fd:=A.pk.map (·.1)++(midF A.md).take 1++A.od++(enumL A.wk).flatMap (gk k)
structure OkA (A:Ak):Prop where
 nm:OkN A.dk
 pl:A.pk.length<=8
 pk:∃sg:Int->Nat,(∀c,sg c∈SG)/\∀p∈A.pk,OkK sg p
 md:OkM A.dk A.md
 ol:A.od.length<=6
 od:∀f∈A.od,OkFd f
 wl:A.wk.length<=4
 wk:∀w∈A.wk,OkW w
 br:0<=A.br/\A.br<=3/\A.br<=A.od.length
 sl:A.su.length<=4
 su:∀f∈A.su,OkFd f
 fg:1<=A.fg/\A.fg<=12
 bl:A.bd.length<=9
 bd:(∀w∈A.bd,1<=w.1/\w.1<=40/\1<=w.2/\w.2<=36)/\A.bd.Pairwise λa b=>a.2<b.2
 ft:∀q∈enumL A.wk,∀f∈kp A q.1,apt q.2.1 f=uE
theorem zjL_ (f:Fd):zbp_.val [F2 f]=.ok (.int (f.2-f.1+1)):=rfl
theorem zkW_ (w:Jx):zcP_.val [.bl uE,.str w]=.ok .non:=rfl
theorem zgr_ (i:Int):zcg_.val [.int i]=.ok (.bl uE):=rfl
theorem fieldb {f:Fd}(h:OkFd f):zbV_.val [.int f.1,.int f.2]=.ok (.bl uE):=by
 obtain⟨h1,h2,h3⟩:=h;refine zab_ rfl rfl λpn hp=>?_
 unfold zcc_
 exists hp,zgr_,ch3D,chD,decide_eq_true h1,decide_eq_true h2,decide_eq_true h3
 fail "q"
theorem zg5_ {f:Fd}(h:OkFd f):zx_.val [F2 f]=.ok (LS .int (rngI f.1 (f.2+1-f.1).toNat)):=by
 obtain⟨h1,h2,h3⟩:=h;refine zab_ rfl rfl λpn hp=>?_
 unfold zaU_;have e:lrD (.int f.1) (.int (f.2+1))=.ok (LS .int (rngI f.1 (f.2+1-f.1).toNat)):=by
  show Mo.grd _ (Mq (D.nd .lst (((rngI f.1 (f.2+1-f.1).toNat).map D.int).map .vw)))=_
  rw[Mo.grd_ok (by lia),zfV_];rfl
 exists hp,F2_0,F2_1,e
 fail "q"
theorem zoW_ {A:Ak}(h:OkM A.dk A.md):zb0_.val [.fz (AO A)]=.ok (.bl (match A.md with |.ma _ _ _ _=>uE |_=>uF)):=by
 obtain⟨a,b,m,r⟩:=A;cases m with
 |no=>rfl
 |fi=>rfl
 |ma w n f g=>rcases h.1 with rfl |rfl<;>rfl
theorem zfS_ {A:Ak}(h:OkM A.dk A.md):z4_.val [.fz (AO A)]=.ok (LS .str (match A.md with |.ma _ n _ _=>[A.dk,n]|_=>[A.dk])):=by
 obtain⟨a,b,m,r⟩:=A;cases m with
 |no=>rfl
 |fi=>rfl
 |ma w n f g=>rcases h.1 with rfl |rfl<;>rfl
theorem zhI_ {A:Ak}(h:OkM A.dk A.md):zk_.val [.fz (AO A)]=.ok (LS F2 (midF A.md)):=by
 obtain⟨a,b,m,r⟩:=A;cases m with
 |no=>rfl
 |fi=>rfl
 |ma w n f g=>rcases h.1 with rfl |rfl<;>rfl
theorem zlp_ {A:Ak}(h:OkM A.dk A.md):zz_.val [.fz (AO A)]=.ok .non:=by
 obtain⟨a,b,m,r⟩:=A;cases m with
 |no=>rfl
 |fi=>rfl
 |ma w n f g=>rcases h.1 with rfl |rfl<;>rfl
theorem lens_eq {A:Ak}(h:OkA A):zE_.val [.fz (AO A)]=.ok .non:=by
 have h1:=h.pl;have h2:=h.ol;have h3:=h.wl;have h4:=h.sl;refine zab_ rfl rfl λpn hp=>?_
 unfold zD_
 exists hp,z1_,zkP_,zkk_,zkA_,zmH_,decide_eq_true (show(A.pk.length:Int)<=8 by lia),decide_eq_true (show(A.od.length:Int)<=6 by lia),decide_eq_true (show(A.wk.length:Int)<=4 by lia),decide_eq_true (show(A.su.length:Int)<=4 by lia),zkW_
 fail "q"
theorem lt_in {c:Nat}(h:c∈LT):inA uF (.str [c]) (.str LT)=.ok (.bl uE):=by
 show Mq (D.bl (decide (c∈LT)))=_
 rw[decide_eq_true h]
theorem bls_t:∀(l:List Bool),blsD (l.map .bl)=uC l
 |[]=>rfl
 |b::l=>by rw[kF,blsD,bls_t l];rfl
theorem zpR_ {α:Type}{p:α->Bool}(l:List α)(h:∀x∈l,p x=uE):allD [LS .bl (l.map p)]=.ok (.bl uE):=by
 show(match blsD ((l.map p).map .bl)with |some bs=>Mq (D.bl (bs.all id))|none=>.no)=_
 rw[bls_t];show Mq (D.bl _)=_
 rw[tS,me.mpr];intro x hx;exact h x hx
theorem lnS_ {l:List Nat}(h:l.length<=100000):lenA [.str l]=.ok (.int l.length):=by
 show Mo.lim _ _=_
 rw[Mo.lim_ok h]
theorem zlb_ (l:Jx):walkA [.str l]=.ok (l.map λc=>.str [c]):=rfl
theorem zl5_ {n:List Nat}(h:OkN n):zda_.val [.str n]=.ok (.bl uE):=by
 obtain⟨h1,h2,h3⟩:=h;refine zab_ rfl rfl λpn hp=>?_
 unfold zcC_
 exists hp,chD,lnS_ (show n.length<=100000 by lia),decide_eq_true (show(1:Int)<=n.length by lia),decide_eq_true (show(n.length:Int)<=8 by lia)
 rw[xcompN (f:=λ_:Nat=>uE) (o:=.bl) n rfl (by exists zlb_;rfl) (z3_ _ _) (λc hc=>by exact lt_in (h3 c hc)) (by lia)]
 exists zpR_ n (p:=λ_=>uE) (λ_ _=>rfl)
 fail "q"
def AQ (n:Jx)(m:Md)(ks:List Fd):Ak:=⟨n,[],m,ks,[],0,[],6,[]⟩
section
variable {n:List Nat}{m:Md}{ks:List Fd}
theorem AQ_p:fldD gi.cs "picks" (AO (AQ n m ks))=.ok (.fz (LS PK [])):=rfl
theorem AQ_o:fldD gi.cs "order" (AO (AQ n m ks))=.ok (.fz (LS F2 ks)):=rfl
theorem AQ_w:fldD gi.cs "works" (AO (AQ n m ks))=.ok (.fz (LS WK [])):=rfl
theorem AQ_b:fldD gi.cs "breaks" (AO (AQ n m ks))=.ok (.int 0):=rfl
theorem AQ_s:fldD gi.cs "sums" (AO (AQ n m ks))=.ok (.fz (LS F2 [])):=rfl
theorem AQ_g:fldD gi.cs "figures" (AO (AQ n m ks))=.ok (.int 6):=rfl
theorem AQ_d:fldD gi.cs "board" (AO (AQ n m ks))=.ok (.fz (LS F2 [])):=rfl
theorem cn9 (hn:OkN n)(hm:OkM n m):zS_.val [.fz (AO (AQ n m ks))]=.ok .non:=by
 have key:∀(ns:Jy) (c:Bool),z4_.val [.fz (AO (AQ n m ks))]=.ok (LS .str ns)->(∀n∈ns,OkN n)->eqD uE (.str (ns.headD [])) (.str (ns.getLastD []))=.ok (.bl c)->ixA (LS .str ns) (.int 0)=.ok (.str (ns.headD []))->ixA (LS .str ns) (.int (-1))=.ok (.str (ns.getLastD []))->(c ||decide ((ns.length:Int)=1))=uE->zS_.val [.fz (AO (AQ n m ks))]=.ok .non:=λns c e cI hc h0 h1 a8=>by
  refine zab_ rfl rfl λpn hp=>?_
  unfold zar_
  exists hp,z1_,e
  refine zeO_ (a:=[_,_]) (b:=[]) rfl (hp _) (λn hn=>?_) (λo=>?_)
  ·exists hp,zl5_ (cI n hn),zkW_
   exact⟨_,_,rfl,rfl,rfl⟩
  ·exists hp,h0,h1,hc,a8,zkW_
   fail "q"
 have e:=zfS_ (A:=AQ n m ks) hm;cases m with
 |no=>exact key [n] uF e (λn hn=>by rw[lQ.mp hn];assumption) (by rw[zci_];simp) rfl rfl rfl
 |fi=>exact key [n] uF e (λn hn=>by rw[lQ.mp hn];assumption) (by rw[zci_];simp) rfl rfl rfl
 |ma w k f g=>
  refine key [n,k] uE e (λx hx=>?_) ?_ rfl rfl rfl
  ·rcases k9.mp hx with rfl |hx
   ·exact hn
   ·rw[lQ.mp hx];exact hm.2.1
  ·rw[zci_]
   show Mq (D.bl (if uE=uE then !decide (n=k)else _))=_
   rw[if_pos rfl,decide_eq_false (λz=>hm.2.2.1 z.symm)];rfl
theorem due9 (hm:OkM n m)(hk:ks.length<=6):zaV_.val [.fz (AO (AQ n m ks))]=.ok (LS F2 (midF m++ks)):=by
 have h5:(midF m).length<=2:=by unfold midF;split<;>simp
 refine zab_ rfl rfl λpn hp=>?_
 unfold zaQ_;have a1:addA (LS F2 []) (LS F2 (midF m))=.ok (LS F2 (midF m)):=zjT_ (g:=F2) (a:=[]) (b:=midF m) (by rw[oQ];lia)
 have a2:addA (LS F2 (midF m++ks)) (LS F2 [])=.ok (LS F2 (midF m++ks)):=by rw[zjT_ (by rw[kX,oQ];lia),nL]
 exists hp,z1_
 rw[xcompN (f:=λp:Pk=>p.1) (o:=F2) ([]:List Pk) rfl rfl (z3_ _ _) (λc hc=>rfl) (l5 _)]
 have em:zk_.val [.fz (AO (AQ n m ks))]=.ok (LS F2 (midF m)):=zhI_ (A:=AQ n m ks) hm
 exists hp,z1_,em,AQ_o,AQ_s,AQ_w,a1,a2,zjT_ (g:=F2) (a:=midF m) (b:=ks) (by lia)
 refine ziF_ (l:=([]:List Wk)) (enc:=λw=>[WK w]) (λd e=>e=[uC (.fz (AO (AQ n m ks))),uC (LS F2 (midF m++ks)),uD]) rfl (λd x r e hl he=>by simp at hl) (λe he=>?_)
 subst he
 exists hp
 fail "q"
theorem cw9 (hm:OkM n m):zm_.val [.fz (AO (AQ n m ks))]=.ok .non:=by
 have key:∀f g:Fd,f.2-f.1=g.2-g.1->∀l,zk_.val [.fz (AO (AQ n m ks))]=.ok (LS F2 l)->l≠[]->ixA (LS F2 l) (.int 0)=.ok (F2 f)->ixA (LS F2 l) (.int (-1))=.ok (F2 g)->zm_.val [.fz (AO (AQ n m ks))]=.ok .non:=λf g h l e hl e0 e1=>by
  refine zab_ rfl rfl λpn hp=>?_
  unfold zu_;cases l with
  |nil=>exact absurd rfl hl
  |cons a l=>
   exists hp,z1_,e,e0,e1,zce_,zjL_,zcv_,decide_eq_true (show f.2-f.1+1=g.2-g.1+1 by lia),zkW_
   exact⟨_,_,rfl,.inr ⟨rfl,by first |rfl |trivial⟩⟩
 have e:=zhI_ (A:=AQ n m ks) hm;cases m with
 |no=>rfl
 |fi f=>exact key f f rfl _ e (by intro h;cases h) rfl rfl
 |ma w k f g=>exact key f g hm.2.2.2.2.2 _ e (by intro h;cases h) rfl rfl
theorem brd9:zck_.val [.fz (LS F2 [])]=.ok (.bl uE):=by
 have es:srtI []=.ok (.nd .lst []):=by unfold srtI;rw[Mo.grd_ok (by decide),<- zbP_ znD_ (ws:=[]) (sL _) .nil];rfl
 have es:sortI [(D.nd (.dct []) []).vw]=.ok (.nd .lst []):=es;have eb:za4_.val [.fz (LS F2 [])]=.ok (LS F2 []):=by
  refine zab_ rfl rfl λpn hp=>?_
  unfold zaY_
  exists hp
  refine zeO_ (l:=([]:List Fd)) (enc:=F2) (a:=[_]) (b:=[_]) rfl (hp _) (λw hw=>by cases hw) (λo=>?_)
  exists hp
  refine zeO_ (l:=([]:List Fd)) (enc:=F2) (a:=[_]) (b:=[_]) rfl (hp _) (λw hw=>by cases hw) (λo=>?_)
  exists hp
  rw[xcompN (f:=λw:Fd=>w) (o:=F2) (T:=λw=>[.int w.2]) (items:=[]) ([]:List Fd) rfl (by exists es;rfl) rfl (λc hc=>by cases hc) (l5 _)]
  exists hp
  fail "q"
 have ee:eqD uF (LS F2 []) (LS F2 [])=.ok (.bl uE):=rfl;refine zab_ rfl rfl λpn hp=>?_
 unfold zbX_
 exists hp,eb,ee
 fail "q"
theorem check9 (hn:OkN n)(hm:OkM n m)(hk:ks.length<=6)(ho:∀f∈ks,OkFd f):zah_.val [.fz (AO (AQ n m ks))]=.ok .non:=by
 have e1:zE_.val [.fz (AO (AQ n m ks))]=.ok .non:=by
  refine zab_ rfl rfl λpn hp=>?_
  unfold zD_
  exists hp,z1_,AQ_p,AQ_o,AQ_w,AQ_s,decide_eq_true (show(ks.length:Int)<=6 by lia),decide_eq_true (show((0:Nat):Int)<=8 by decide),decide_eq_true (show((0:Nat):Int)<=4 by decide),zkW_
  fail "q"
 have e2:zL_.val [.fz (AO (AQ n m ks))]=.ok .non:=by
  have eb:=brd9;refine zab_ rfl rfl λpn hp=>?_
  unfold zK_
  exists hp,z1_,AQ_b,AQ_o,AQ_g,AQ_d,zgr_,chD,eb,decide_true,decide_eq_true (show(0:Int)<=ks.length by lia),zkW_
  fail "q"
 have e3:zaE_.val [.fz (AO (AQ n m ks))]=.ok .non:=rfl;have e4:zaB_.val [.fz (AO (AQ n m ks))]=.ok .non:=rfl;refine zab_ rfl rfl λpn hp=>?_
 unfold zad_
 exists hp,z1_,e1,zlp_ (A:=AQ n m ks) hm,cn9 hn hm,due9 hm hk
 refine zeO_ (a:=[_]) (b:=[]) rfl (hp _) (λf hf=>?_) (λo=>?_)
 ·have hF:OkFd f:=by
   rcases mU.mp hf with hf |hf
   ·revert hm hf
    cases m with
    |no=>intro _ hf;cases hf
    |fi g=>intro hm hf;rw[lQ.mp hf];exact hm
    |ma w k f g=>
     intro hm hf;rcases k9.mp hf with rfl |hf
     ·exact hm.2.2.2.1
     ·rw[lQ.mp hf];exact hm.2.2.2.2.1
   ·exact ho f hf
  exists hp,zce_,F2_0,F2_1,fieldb hF,zkW_
  exact⟨_,_,rfl,rfl,rfl⟩
 ·exists hp,z1_,e2,e3,e4,cw9 hm
  fail "q"
theorem zl4_ (m:Md):(MD m).imm=uE:=by cases m<;>rfl
theorem ziV_ (m:Md):(MD m).vw=MD m:=by unfold D.vw;rw[zl4_];rfl
theorem zo3_ (m:Md):(MD m).new=uE:=zga_ _ (zl4_ m)
theorem make9 (hn:OkN n)(hm:OkM n m)(hk:ks.length<=6)(ho:∀f∈ks,OkFd f){O:D}(hO:O.vw=.fz (LS F2 ks)):makeD zi_ "Asking" [.str n,.nd .lst [],MD m,O,.non,.int 0,.non,.int 6,.non]=.ok (AO (AQ n m ks)):=by
 have main:∀pn:Nat->Bool,∃e,S.runs gi pn zo_ [uC (.nd (.obj "Asking" []) []),uC (.str n),uC (.fz (LS PK [])),uC (MD m),uC (.fz (LS F2 ks)),uC .non,uC (.int 0),uC .non,uC (.int 6),uC .non]=.ok .nx (uC (AO (AQ n m ks))::e):=λpn=>by
  have o1:zca_.val [.non]=.ok (.nd .lst []):=rfl;unfold zo_;rw[S.runs,S.run,zc2_ (d:=.str n) rfl rfl rfl (by decide) (by decide) (by decide),zdY_]
  rw[S.runs,S.run,zc2_ (d:=LS PK []) (by exists ze9_) zM_ rfl (by decide) (by decide) (by decide),zdY_]
  rw[S.runs,S.run,zc2_ (d:=MD m) (by exists ziV_) (zo3_ m) rfl (by decide) (by decide) (by decide),zdY_]
  rw[S.runs,S.run,zc2_ (d:=LS F2 ks) (by exists ze9_) zM_ rfl (by decide) (by decide) (by decide),zdY_]
  rw[S.runs,S.run,zc2_ (d:=LS WK []) (by exists o1;rfl) zM_ rfl (by decide) (by decide) (by decide),zdY_]
  rw[S.runs,S.run,zc2_ (d:=.int 0) rfl rfl rfl (by decide) (by decide) (by decide),zdY_]
  rw[S.runs,S.run,zc2_ (d:=LS F2 []) (by exists o1;rfl) zM_ rfl (by decide) (by decide) (by decide),zdY_]
  rw[S.runs,S.run,zc2_ (d:=.int 6) rfl rfl rfl (by decide) (by decide) (by decide),zdY_]
  rw[S.runs,S.run,zc2_ (d:=LS F2 []) (by exists o1;rfl) zM_ rfl (by decide) (by decide) (by decide),zdY_]
  have e0:∀l,getE (uC (D.nd (.obj "Asking" ["deck", "picks", "middle", "order", "works", "breaks", "sums", "figures", "board"]) (aFs (AQ n m ks)))::l) 0=.ok (.fz (AO (AQ n m ks))):=λl=>rfl
  unfold aFs AQ at e0;have e1:=check9 hn hm hk ho;unfold AQ at e1
  exists e0,z1_,e1
  exact⟨_,rfl⟩
 obtain⟨e,he⟩:=main (pins [.nd (.obj "Asking" []) [],.str n,.fz (LS PK []),MD m,.fz (LS F2 ks),.non,.int 0,.non,.int 6,.non]);have hh:∃ds,zi_ [.nd (.obj "Asking" []) [],.str n,.fz (LS PK []),MD m,.fz (LS F2 ks),.non,.int 0,.non,.int 6,.non]=.ok .non (AO (AQ n m ks)::ds):=⟨_,zqh_ (G:=gi) (n:=10) (m:=0) (body:=zo_) (ds:=[.nd (.obj "Asking" []) [],.str n,.fz (LS PK []),MD m,.fz (LS F2 ks),.non,.int 0,.non,.int 6,.non]) rfl he⟩;obtain⟨ds,hh⟩:=hh;unfold makeD;have em:[D.str n,.nd .lst [],MD m,O,.non,.int 0,.non,.int 6,.non].map D.vw=[.str n,.fz (LS PK []),MD m,.fz (LS F2 ks),.non,.int 0,.non,.int 6,.non]:=by
  simp only[kF,nu,hO,ziV_];rfl
 rw[em,hh]
end
theorem rg1 {j:Int}(h0:0<=j)(h:j<=100000):rng1D [D.int j]=Mq ((lG j.toNat).map λi:Nat=>D.int (0+(i:Int))):=by
 unfold rng1D;dsimp only;rw[VI.vd_int,zeo_,Mo.grd_ok ⟨by lia,by lia⟩]
 unfold rngI;rw[lX];rfl
section
variable (ns:List Int)
theorem zm2_ {k:Int}(h0:0<=k)(h1:k<=1000):∃c,z9_.val [scr ns,.int k]=.ok (.int c):=by
 by_cases hk:k<(ns.length:Int)
 ·refine⟨ns.getD k.toNat 0,zab_ rfl rfl λpn hp=>?_⟩
  unfold z8_
  exists hp,zf9_,decide_eq_true hk,VI.vd_ix h0 hk
  fail "q"
 ·by_cases hl:(0:Int)<(ns.length:Int)
  ·have m0:=l7 (k*7) (show(ns.length:Int)≠0 by lia)
   have m1:=lU (k*7) hl
   generalize hx:ns.getD (k*7 % (ns.length:Int)).toNat 0=x
   have n0:=l7 (x*48271+k*7919) (show(2147483647:Int)≠0 by lia)
   have n1:=lU (x*48271+k*7919) (show(0:Int)<2147483647 by lia)
   refine⟨(x*48271+k*7919) % 2147483647*((x*48271+k*7919) % 2147483647) % 2147483629,zab_ rfl rfl λpn hp=>?_⟩
   unfold z8_;have e1:ixA (scr ns) (.int (k*7 % (ns.length:Int)))=.ok (.int x):=by rw[VI.vd_ix m0 m1,hx]
   have e2:modD (.int (k*7)) (.int (ns.length:Int))=.ok (.int (k*7 % (ns.length:Int))):=VI.vd_mod hl
   generalize hy:(x*48271+k*7919) % 2147483647=y at n0 n1 ⊢
   exists hp,zf9_,decide_eq_false hk,decide_eq_true hl,e1,e2,hy,zjt_ (i:=y) (j:=y) (by lia) (by lia)
   fail "q"
  ·refine⟨(k*7919+5)*(k*7919+5) % 2147483629,zab_ rfl rfl λpn hp=>?_⟩
   unfold z8_
   exists hp,zf9_,decide_eq_false hk,decide_eq_false hl,zjt_ (i:=k*7919+5) (j:=k*7919+5) (by lia) (by lia)
   fail "q"
def cel (k:Int):Int:=match z9_.val [scr ns,.int k]with |.ok (.int c)=>c |_=>0
theorem zcx_ {k:Int}(h0:0<=k)(h1:k<=1000):z9_.val [scr ns,.int k]=.ok (.int (cel ns k)):=by
 obtain⟨c,e⟩:=zm2_ ns h0 h1;unfold cel;rw[e]
end
theorem zk1_ (c b:Int):∃f:Fd,zaT_.val [.int c,.int b]=.ok (F2 f)/\b<=f.1/\f.1<=f.2/\f.2<=b+4/\f.2<=f.1+2:=by
 have m0:=l7 c (show(5:Int)≠0 by lia)
 have m1:=lU c (show(0:Int)<5 by lia)
 have hm:0<min 3 (5-c % 5):=by lia
 have k0:=l7 (c / 5) (show min 3 (5-c % 5)≠0 by lia)
 have k1:=lU (c / 5) hm;refine⟨(b+c % 5,b+c % 5+c / 5 % min 3 (5-c % 5)),zab_ rfl rfl λpn hp=>?_,by show b<=b+c % 5;lia,by show b+c % 5<=b+c % 5+_;lia,by show b+c % 5+_<=b+4;lia,by show b+c % 5+_<=b+c % 5+2;lia⟩
 unfold za1_
 exists hp,VI.vd_mod hm
 fail "q"
theorem zoI_ {i:Int}(h0:0<=i)(h1:i<37):∃s,s∈SG/\ixA (.str SG) (.int i)=.ok (.str [s]):=by
 obtain⟨s,e,hs⟩:=zgh_ (xs:=SG) h0 (show i<(SG.length:Int)from h1)
 refine⟨s,hs,?_⟩;show Mo.lim SG.length (Mo.opt ((atI SG i).map λc=>D.str [c]))=_
 rw[Mo.lim_ok (by decide),e];rfl
theorem zki_ (x:Int):∃a b c:Nat,za3_.val [.int x]=.ok (LS .str [[a],[b],[c]])/\a∈SG/\b∈SG/\c∈SG:=by
 obtain⟨a,ha,ea⟩:=zoI_ (l7 x (show(37:Int)≠0 by lia)) (lU x (show(0:Int)<37 by lia))
 obtain⟨b,hb,eb⟩:=zoI_ (l7 (x % 37+1+x / 37 % 36) (show(37:Int)≠0 by lia)) (lU (x % 37+1+x / 37 % 36) (show(0:Int)<37 by lia))
 obtain⟨c,hc,ec⟩:=zoI_ (l7 ((x % 37+1+x / 37 % 36) % 37+1+x / 1332 % 36) (show(37:Int)≠0 by lia)) (lU ((x % 37+1+x / 37 % 36) % 37+1+x / 1332 % 36) (show(0:Int)<37 by lia))
 refine⟨a,b,c,zab_ rfl rfl λpn hp=>?_,ha,hb,hc⟩
 unfold zaR_;unfold SG at ea eb ec
 exists hp,ea,eb,ec
 fail "q"
theorem zgX_ {α:Type}(xs:List α)(i k:Nat)(h:i<=xs.length):cutG xs (uC (i:Int)) (uC ((i:Int)+k))=(xs.drop i).take k:=by
 have e:cutG xs (uC (i:Int)) (uC ((i:Int)+k))=(xs.drop i).take (min (i+k) xs.length-i):=by
  unfold cutG HT.sIx;simp only[];rw[if_neg (by lia),if_neg (by lia),show min ((i:Int)+k).toNat xs.length=min (i+k) xs.length by lia,show min (i:Int).toNat xs.length=i by lia]
 rw[e];by_cases z:i+k<=xs.length
 ·congr 1;lia
 ·rw[oj (by rw[mC];lia),oj (by rw[mC];lia)]
def LY:List Nat:=Qm2
theorem zla_ (x:Int):∃a b:List Nat,zaX_.val [.int x]=.ok (LS .str [a,b])/\OkN a/\OkN b/\b≠a:=by
 have m0:=l7 x (show(22:Int)≠0 by lia)
 have m1:=lU x (show(0:Int)<22 by lia)
 have k0:=l7 (x / 22) (show(4:Int)≠0 by lia)
 have k1:=lU (x / 22) (show(0:Int)<4 by lia)
 obtain⟨i,hi⟩:=mH m0;obtain⟨j,hj⟩:=mH k0
 generalize ho:(LY.drop i).take (1+j)=one
 have kd:one.length=1+j:=by rw[<- ho,mq,mC];show min (1+j) (25-i)=_;lia
 have fH:∀c∈one,c∈LY:=λc hc=>by rw[<- ho]at hc;exact qE (qF hc)
 have s1:slA (.str LY) (uC (x % 22)) (uC (x % 22+1+x / 22 % 4))=.ok (.str one):=by
  show Mo.lim LY.length (Mq (D.str (cutG LY _ _)))=_
  rw[Mo.lim_ok (by decide),hi,hj,show((i:Int)+1+j)=(i:Int)+((1+j:Nat):Int) by lia,zgX_ LY i (1+j) (by show i<=25;lia),ho]
 have iu:(0:Int)<(one.length:Int):=by lia
 have a0:=l7 (x / 88) (show(one.length:Int)≠0 by lia)
 have a1:=lU (x / 88) iu;obtain⟨t,ht⟩:=mH a0;have j_:t<one.length:=by lia
 have e2:modD (.int (x / 88)) (.int (one.length:Int))=.ok (.int (x / 88 % (one.length:Int))):=VI.vd_mod iu;have s2:slA (.str one) uD (uC (t:Int))=.ok (.str (one.take t)):=by
  show Mo.lim one.length (Mq (D.str (cutG one _ _)))=_
  rw[Mo.lim_ok (by lia),zjy_ (by lia),pS]
 have s3:slA (.str one) (uC ((t:Int)+1)) uD=.ok (.str (one.drop (t+1))):=by
  show Mo.lim one.length (Mq (D.str (cutG one _ _)))=_
  rw[Mo.lim_ok (by lia),zeV_ (by lia),show((t:Int)+1).toNat=t+1 by lia]
 have s4:addA (.str (one.take t)) (.str [122])=.ok (.str (one.take t++[122])):=by
  show Mo.lim _ _=_
  rw[Mo.lim_ok (by rw[mq];simp;lia)]
 have s5:addA (.str (one.take t++[122])) (.str (one.drop (t+1)))=.ok (.str (one.take t++[122]++one.drop (t+1))):=by
  show Mo.lim _ _=_
  rw[Mo.lim_ok (by simp;lia)]
 have jN:∀c∈LY,c∈LT:=by decide
 have h1:OkN one:=⟨by lia,by lia,λc hc=>jN c (fH c hc)⟩
 have h2:OkN (one.take t++[122]++one.drop (t+1)):=⟨by simp;lia,by simp;lia,λc hc=>by
  rcases mU.mp hc with hc |hc
  ·rcases mU.mp hc with hc |hc
   ·exact h1.2.2 c (qF hc)
   ·rw[lQ.mp hc];decide
  ·exact h1.2.2 c (qE hc)⟩
 have aZ:one.take t++[122]++one.drop (t+1)≠one:=λz=>by
  have e1:(one.take t++[122]++one.drop (t+1))[t]?=uC 122:=by
   rw[m9,mr (by rw[mq];lia),mq,se (by lia),rj];rfl
  rw[z]at e1;have:=fH 122 (mN e1);exact absurd this (by decide)
 unfold LY at s1;by_cases c:x / 352 % 2=1
 ·refine⟨one.take t++[122]++one.drop (t+1),one,zab_ rfl rfl λpn hp=>?_,h2,h1,aZ.symm⟩
  unfold zak_
  exists hp,s1,lnS_ (show one.length<=100000 by lia),e2,ht,s2,s3,s4,s5,zcv_,decide_eq_true c
  fail "q"
 ·refine⟨one,one.take t++[122]++one.drop (t+1),zab_ rfl rfl λpn hp=>?_,h1,h2,aZ⟩
  unfold zak_
  exists hp,s1,lnS_ (show one.length<=100000 by lia),e2,ht,s2,s3,s4,s5,zcv_,decide_eq_false c
  fail "q"
theorem zhK_ {n m:Nat}{body:List S}{ds:List D}{d:D}{e:VI.Env}(hl:ds.length=n)(hc:D.colds ds=uE)(h:S.runs gi (pins ds) body (ds.map uC++kY m uD)=.ok (.rt d) e):fnOf gi n m body ds=.ok d ds:=by
 unfold fnOf;rw[if_pos hl,h];show Mr.ok d (outs ds e)=_
 rw[zbc_ hc]
theorem sg3 {a b c:Nat}(ha:a∈SG)(hb:b∈SG)(hc:c∈SG)(y:Int):∃s,s∈SG/\ixA (LS .str [[a],[b],[c]]) (.int (y % 3))=.ok (.str [s]):=by
 obtain⟨x,e,hx⟩:=zgh_ (xs:=[[a],[b],[c]]) (l7 y (show(3:Int)≠0 by lia)) (show y % 3<((3:Nat):Int)from lU y (by lia))
 have:∃s,s∈SG/\x=[s]:=by
  simp only[k9,rN,or_false]at hx;rcases hx with rfl |rfl |rfl
  ·exact⟨a,ha,rfl⟩
  ·exact⟨b,hb,rfl⟩
  ·exact⟨c,hc,rfl⟩
 obtain⟨s,hs,rfl⟩:=this;exact⟨s,hs,by rw[zoC_,e];rfl⟩
theorem zjE_ {β:Type}{pn:Nat->Bool}{env:VI.Env}{d1 d2:D}{l:List β}{enc:β->List D}{ik:Ik}{x1 x2:X}{tg:Tg}{b ss:List S}{Q:Fl->VI.Env->Prop}{items:List D}(P:List β->VI.Env->Prop)(h1:keep (x1.ev gi env) env x1.uses=.ok d1 env)(h2:keep (x2.ev gi env) env x2.uses=.ok d2 env)(hi:ik.f [d1,d2]=.ok items)(ht:tgsD tg items=uC (l.map enc))(h0:P [] env)
  (hs:∀d x r e,l=d++x::r->P d e->∃e',setG pn e tg.is (enc x)=uC e'/\En (S.runs gi pn b e') λo bw=>((o=.nx\/o=.ct)/\P (d++[x]) bw)\/((∃v,o=.rt v)/\Q o bw))
  (hk:∀e,P l e->En (S.runs gi pn ss e) Q):En (S.runs gi pn (.for_ ik [x1,x2] tg b::ss) env) Q:=by
 have e0:evG gi env ([x1,x2].map .x)=.ok [.d d1,.d d2] env:=by
  show((stX gi env x1).bind λd e=>((stX gi e x2).bind λd e=>(evG gi e []).bind λgs e'=>.ok (.d d::gs) e').bind λgs e'=>.ok (.d d::gs) e')=_
  rw[zgk_,h1,zhD_,zgk_,h2];rfl
 rw[S.runs,S.run,e0];have e1:forS pn ik tg (.ok [.d d1,.d d2] env) (λe=>S.runs gi pn b e)=forM (λe x=>match setG pn e tg.is x with |some e'=>S.runs gi pn b e' |none=>.no) (l.map enc) env:=by
  unfold forS;show(match ik.f [d1,d2]with |.ok items=>_ |_=>_)=_
  rw[hi];show(match tgsD tg items with |some xs=>_ |none=>_)=_
  rw[ht]<;>rfl
 rw[e1];exact ziF_ P h0 hs hk
abbrev Cds:=Jy
def LG (l:Cds):Prop:=l.length<64/\∀c∈l,c.length<=1000
def pt (f:Fd)(c:Jx):List Nat:=cutG c (uC (f.1-1)) (uC f.2)
theorem ziB_ {c:List Nat}{lo hi:Option Int}(h:c.length<=1000):slA (.str c) lo hi=.ok (.str (cutG c lo hi)):=by
 show Mo.lim _ _=_;rw[Mo.lim_ok (by lia)]
theorem ze8_ {c:List Nat}{f:Fd}(h:c.length<=1000):zc8_.val [.str c,F2 f]=.ok (.str (pt f c)):=by
 refine zab_ rfl rfl λpn hp=>?_
 unfold zcI_;have e:slA (.str c) (uC (f.1-1)) (uC f.2)=.ok (.str (pt f c)):=ziB_ h
 exists hp,F2_0,F2_1,e
 fail "q"
def kN_t (n:Jx):Key:=.inr ⟨n.toArray⟩
theorem zip_ {a b:List Nat}:kN_t a=kN_t b↔a=b:=by
 constructor
 ·intro h;injection h with h;injection h with h;simpa using congrArg pH h
 ·rintro rfl;rfl
def TG {α:Type}(g:α->D)(m:List (List Nat×α)):D:=.nd (.dct (m.map λq=>kN_t q.1)) (m.map λq=>g q.2)
abbrev TD (m:List (List Nat×Cds)):D:=TG (LS .str) m
section
variable {α:Type}{g:α->D}
theorem zdG_ (m:List (List Nat×α)):(D.fz (TG g m)).vw=.fz (TG g m):=rfl
theorem TD_vw (m:List (List Nat×α)):(TG g m).vw=.fz (TG g m):=rfl
theorem zkl_:∀(m:List (List Nat×α)) (n:Jx),valD (m.map λq=>kN_t q.1) (m.map λq=>g q.2) (kN_t n)=((m.find? λq=>decide (q.1=n)).map λq=>g q.2)
 |[],n=>rfl
 |q::m,n=>by
  have ih:=zkl_ m n;unfold valD at ih ⊢;rw[kF,kF,lM,mW,mW];by_cases e:q.1=n
  ·rw[decide_eq_true (zip_.mpr e),decide_eq_true e];rfl
  ·rw[decide_eq_false (λz=>e (zip_.mp z)),decide_eq_false e];exact ih
theorem zo0_ {m:List (List Nat×Cds)}{n:List Nat}{cs:Cds}(h:(m.find? λq=>decide (q.1=n))=uC (n,cs)):ixA (TD m) (.str n)=.ok (.fz (LS .str cs)):=by
 show Mo.opt ((valD _ _ (kN_t n)).map D.vw)=_
 rw[zkl_,h];rfl
theorem td_in (neg:Bool)(m:List (List Nat×α))(n:Jx):inA neg (.str n) (TG g m)=.ok (.bl (if neg then !decide (n∈m.map (·.1))else decide (n∈m.map (·.1)))):=by
 have e:(valD (m.map λq=>kN_t q.1) (m.map λq=>g q.2) (kN_t n)).isSome=decide (n∈m.map (·.1)):=by
  rw[zkl_,oW,ni,List.find?_isSome,decide_eq_true_eq,my];exact⟨λ⟨q,h,e⟩=>⟨q,h,by simpa using e⟩,λ⟨q,h,e⟩=>⟨q,h,by simpa using e⟩⟩
 show Mq (D.bl (if neg=uE then !(valD _ _ (kN_t n)).isSome else(valD _ _ (kN_t n)).isSome))=_
 rw[e]
end
theorem zo7_ {n:List Nat}{md:Md}{ks:List Fd}{m:List (List Nat×Cds)}(hm:OkM n md)(h:n∈m.map (·.1))(h2:∀w k f g,md=.ma w k f g->k∈m.map (·.1)):zR_.val [.fz (AO (AQ n md ks)),.fz (TD m)]=.ok .non:=by
 have key:∀ns:Cds,z4_.val [.fz (AO (AQ n md ks))]=.ok (LS .str ns)->(∀n∈ns,n∈m.map (·.1))->zR_.val [.fz (AO (AQ n md ks)),.fz (TD m)]=.ok .non:=λns e hn=>by
  refine zab_ rfl rfl λpn hp=>?_
  unfold zaA_;refine zcA_ (l:=ns) (enc:=λp=>[.str p]) (d:=LS .str ns) (λd e=>∃o,e=[uC (.fz (AO (AQ n md ks))),uC (.fz (TD m)),o]) (by exists z1_,e) (by exists hp) (z3_ _ _) ⟨uD,rfl⟩ (λd p r e hl he=>?_) λe he=>?_
  ·obtain⟨o,rfl⟩:=he
   refine⟨[uC (.fz (AO (AQ n md ks))),uC (.fz (TD m)),uC (.str p)],(by exists hp),?_⟩
   exists hp,zdG_,td_in,decide_eq_true (hn p (by rw[hl];simp))
   exact⟨_,_,rfl,.inl ⟨.inl rfl,_,rfl⟩⟩
  ·obtain⟨o,rfl⟩:=he
   exists hp
   fail "q"
 have e:=zfS_ (A:=AQ n md ks) hm;cases md with
 |no=>exact key [n] e λx hx=>by rw[lQ.mp hx];exact h
 |fi=>exact key [n] e λx hx=>by rw[lQ.mp hx];exact h
 |ma w k f g=>
  refine key [n,k] e λx hx=>?_
  rcases k9.mp hx with rfl |hx
  ·exact h
  ·rw[lQ.mp hx];exact h2 _ _ _ _ rfl
theorem zfX_:∀(l:Cds),strsD (l.map D.str)=uC l
 |[]=>rfl
 |c::l=>by rw[kF];unfold strsD;rw[zfX_ l];rfl
theorem ziU_ (l:Cds):strL (.fz (LS .str l))=.ok l:=by
 show Mo.opt (strsD (l.map D.str))=_
 rw[zfX_];rfl
theorem zeP_:∀(l:List Int),intsD (l.map D.int)=uC l
 |[]=>rfl
 |c::l=>by rw[kF];unfold intsD;rw[zeP_ l];rfl
theorem zfT_ (key:List Nat->List Int):∀(l:Cds),intLs (l.map λc=>LS .int (key c))=uC (l.map key)
 |[]=>rfl
 |c::l=>by
  rw[kF];unfold intLs;rw[zfT_ key l];show(intsD ((key c).map D.int)).bind _=_
  rw[zeP_];rfl
def srtG (key:List Nat->List Int)(l:Cds):Cds:=(srtQ (l.map key) l.length).map λi=>l.getD i []
theorem zmy_ {key:List Nat->List Int}{cols:List Int}{l:Cds}(h:LG l)(hk:∀c∈l,z2_.val [.str c,.fz (LS .int cols)]=.ok (LS .int (key c))):zt_.val [.fz (LS .str l),.fz (LS .int cols)]=.ok (LS .str (srtG key l)):=by
 refine zab_ rfl rfl λpn hp=>?_
 unfold zbn_;show En (S.runs gi pn _ [uC (.fz (LS .str l)),uC (.fz (LS .int cols))]) _
 rw[zdf_ (d:=LS .str (srtG key l)) (e:=[uC (.fz (LS .str l)),uC (.fz (LS .int cols))]) ?_]
 ·fail "q"
 ·rw[zdc_,zo4_]
  have e0:getE [uC (.fz (LS .str l)),uC (.fz (LS .int cols))] 0=.ok (.fz (LS .str l)):=rfl;show keep (Mb (getE [uC (.fz (LS .str l)),uC (.fz (LS .int cols))] 0) _) _ _=_
  rw[e0,zeo_,ziU_,zeo_];have e1:compM (λx=>cond1 (.ok uE) ((X.call z2_ "ranks_at" [.v 0,.v 1]).ev gi (setE (cE ["card"] [("columns",1)] [uC (.fz (LS .str l)),uC (.fz (LS .int cols))]) [0] x))) (l.map λc=>[D.str c]) []=.ok (l.map λc=>LS .int (key c)):=by
   rw[zeY_ (p:=λ_=>uE) (f:=λc:List Nat=>c) (o:=λc=>LS .int (key c)) (λc hc=>?_) (by have:=h.1;simp;lia)]
   ·rw[qK.mpr λ_ _=>rfl,pI];rfl
   ·unfold cond1
    rw[zeo_,if_pos rfl,if_pos rfl]
    exists hk c hc
    rfl
  rw[Mo.grd_ok h.1,e1,zeo_];unfold srtK;rw[zfT_];show keep (Mo.grd _ _) _ _=_
  rw[Mo.grd_ok (by simp)]
  unfold srtG;have e2:((srtQ (l.map key) l.length).map λi=>D.str (l.getD i []))=((srtQ (l.map key) l.length).map λi=>l.getD i []).map D.str:=by rw[lX];rfl
  rw[e2];exact zs_ _ zM_
def rk (c:Nat):Int:=(SG.idxOf c:Nat)
def rkc (cols:List Int)(c:Jx):List Int:=cols.map λj=>rk (c.getD (j-1).toNat 0)
def CD (c:Jx):Prop:=c.length=40/\∀i,i<36->c.getD i 0∈SG
theorem sg_in {c:Nat}(h:c∈SG):inA uF (.str [c]) (.str SG)=.ok (.bl uE):=by
 show Mq (D.bl (decide (c∈SG)))=_
 rw[decide_eq_true h]
theorem sgf (c:Nat):c∈SG->findS SG [c]=rk c/\rk c ≠ -1:=by rw[zkL_];revert c;decide
theorem zls_ {c:Nat}(h:c∈SG):zcL_.val [.str [c]]=.ok (.int (rk c)):=by
 have e0:=sg_in h;unfold SG at e0;have e1:zcT_.val [.str [c]]=.ok (.bl uE):=by
  refine zab_ rfl rfl λpn hp=>?_
  unfold zcW_;have el:lenA [.str [c]]=.ok (.int 1):=lnS_ (l:=[c]) (mX rfl)
  exists hp,el,zcv_,decide_true,e0
  fail "q"
 have e2:Sm.f .index SG [.str [c]]=.ok (.int (rk c)):=by
  show Mo.grd (findS SG [c] ≠ -1) (.ok (D.int (findS SG [c])))=_
  rw[(sgf c h).1,Mo.grd_ok (sgf c h).2]
 unfold SG at e2;have e3:∀l,strOf (.str l)=.ok l:=λ_=>rfl
 refine zab_ rfl rfl λpn hp=>?_
 unfold zcR_
 exists hp,e1,zpn_,e3,e2
 fail "q"
theorem zd2_ {c:List Nat}(h:CD c){cols:List Int}(hc:∀j∈cols,1<=j/\j<=36)(hl:cols.length<=1000):z2_.val [.str c,.fz (LS .int cols)]=.ok (LS .int (rkc cols c)):=by
 refine zab_ rfl rfl λpn hp=>?_
 unfold zbe_;rw[zdf_ (d:=LS .int (rkc cols c)) (e:=[uC (.str c),uC (.fz (LS .int cols))]) ?_]
 ·fail "q"
 ·rw[zdc_,xcompN (f:=λj:Int=>rk (c.getD (j-1).toNat 0)) (o:=.int) (T:=λx=>[.int x]) cols rfl (by exists hp) (z3_ _ _) (λj hj=>?_) (by lia)]
  ·exact zs_ _ zM_
  ·obtain⟨j1,j2⟩:=hc j hj
   have hk:=h.1;have e:ixA (.str c) (.int (j-1))=.ok (.str [c.getD (j-1).toNat 0]):=by
    show Mo.lim c.length (Mo.opt ((atI c (j-1)).map λc=>D.str [c]))=_
    rw[Mo.lim_ok (by lia),zfh_ (by lia) (km (by lia)),kE,km (by lia)];rfl
   have es:zcO_.val [.str c,.int j]=.ok (.str [c.getD (j-1).toNat 0]):=by
    refine zab_ rfl rfl λpn hp=>?_
    unfold zcY_
    exists hp,e
    fail "q"
   exists es,zls_ (h.2 (j-1).toNat (by lia))
def cl (f:Fd):List Int:=rngI f.1 (f.2+1-f.1).toNat
theorem zqU_ {f:Fd}(h:OkFd f):∀j∈cl f,1<=j/\j<=36:=λj hj=>by
 obtain⟨a,b,c⟩:=h;have:=zkz_.mp hj;lia
theorem znm_ {f:Fd}(h:OkFd f):(cl f).length<=36:=by unfold cl;rw[zkN_];obtain⟨a,b,c⟩:=h;lia
theorem znu_ {f:Fd}(h:OkFd f){c:List Nat}(hc:c.length=40):pt f c=(cl f).map λj=>c.getD (j-1).toNat 0:=by
 obtain⟨h1,h2,h3⟩:=h;obtain⟨i,hi⟩:=mH (show 0<=f.1-1 by lia)
 have e:pt f c=(c.drop i).take (f.2+1-f.1).toNat:=by
  unfold pt;rw[hi,show f.2=((i:Int)+((f.2+1-f.1).toNat:Nat)) by lia]
  have:=zgX_ c i (f.2+1-f.1).toNat (by lia)
  rw[show(i:Int)+((f.2+1-f.1).toNat:Nat)+1-f.1=f.2+1-f.1 by lia]
  exact this
 rw[e];unfold cl rngI;rw[lX];apply oX;intro k;rw[List.getElem?_take,kH];by_cases hk:k<(f.2+1-f.1).toNat
 ·rw[if_pos hk,qJ hk,List.getElem?_drop]
  show _=uC (c.getD (f.1+(k:Int)-1).toNat 0)
  rw[show(f.1+(k:Int)-1).toNat=i+k by lia,kE,km (by lia)];rfl
 ·rw[if_neg hk,nH (by rw[lZ];lia)];rfl
theorem zoA_ {f:Fd}(h:OkFd f){c:List Nat}(hc:CD c):∀x∈pt f c,x∈SG:=λx hx=>by
 rw[znu_ h hc.1]at hx;obtain⟨j,hj,rfl⟩:=my.mp hx;have:=zqU_ h j hj;exact hc.2 _ (by lia)
theorem zlw_ {f:Fd}(h:OkFd f){c:List Nat}(hc:CD c):rkc (cl f) c=(pt f c).map rk:=by rw[znu_ h hc.1,lX];rfl
theorem zox_:∀a∈SG,∀b∈SG,(rk a<rk b↔a<b)/\(rk a=rk b↔a=b):=by decide
theorem zg2_:∀{a b:List Nat},(∀x∈a,x∈SG)->(∀x∈b,x∈SG)->HT.lexLt (a.map rk) (b.map rk)=decide (a<b)
 |[],[],_,_=>rfl
 |[],_::_,_,_=>rfl
 |_::_,[],_,_=>rfl
 |x::a,y::b,ha,hb=>by
  obtain⟨m1,m2⟩:=zox_ x (ha x lA) y (hb y lA);have ih:=zg2_ (a:=a) (b:=b) (λz hz=>ha z (lu _ hz)) λz hz=>hb z (lu _ hz)
  rw[kF,kF,HT.lexLt_cons,ih];by_cases e:x=y
  ·subst e;rw[if_pos rfl,ni,decide_eq_true_eq,decide_eq_true_eq,qr]
   exact⟨λh=>.inr ⟨rfl,h⟩,λh=>h.elim (λz=>absurd z (nW _)) λz=>z.2⟩
  ·rw[if_neg (λz=>e (m2.mp z)),ni,decide_eq_true_eq,decide_eq_true_eq,qr]
   exact⟨λh=>.inl (m1.mp h),λh=>h.elim m1.mpr λz=>absurd z.1 e⟩
theorem zcf_ (l:Cds):(lG l.length).map (λi=>l.getD i [])=l:=by
 apply oX;intro i;by_cases hi:i<l.length
 ·simp[hi]
 ·simp[nH,hi,pf hi]
theorem zam_ (key:List Nat->List Int)(l:Cds):(srtG key l).Perm l:=by
 have h:=(zbN_ (ltQ (l.map key)) (lG l.length)).map λi=>l.getD i []
 rw[zcf_]at h;exact h
theorem zhq_ (key:List Nat->List Int){l:Cds}(nd:l.Nodup):(srtG key l).Pairwise λa b=>HT.lexLt (key b) (key a)=uF/\(HT.lexLt (key a) (key b)=uE\/l.idxOf a<l.idxOf b):=by
 have hp:=zbN_ (ltQ (l.map key)) (lG l.length);have h1:=zcw_ (lo_q (l.map key)) (lG l.length);have h2:(srtL (ltQ (l.map key)) (lG l.length)).Nodup:=hp.nodup_iff.mpr rL;have ek:∀i,i<l.length->(l.map key).getD i []=key (l.getD i []):=λi hi=>by
  rw[kE,kE,kH,km hi];rfl
 have ei:∀i,i<l.length->l.idxOf (l.getD i [])=i:=λi hi=>by
  rw[kE,km hi];exact m7 nd i hi
 unfold srtG srtQ;rw[List.pairwise_map];refine(h1.and h2).imp_of_mem λ{i j} hi hj h=>?_
 have hi:=lO.mp (hp.mem_iff.mp hi);have hj:=lO.mp (hp.mem_iff.mp hj);obtain⟨a,b⟩:=zfm_.mp h.1;have a:HT.lexLt _ _=uF:=a;rw[ek i hi,ek j hj]at a;refine⟨a,b.imp (λb=>?_) λb=>?_⟩
 ·have b:HT.lexLt _ _=uE:=b
  rw[ek i hi,ek j hj]at b;exact b
 ·rw[ei i hi,ei j hj];have:=h.2;lia
theorem zmk_ (a b:List Int):ltLD (LS .int a) (LS .int b)=.ok (.bl (HT.lexLt a b)):=by
 show(Mo.opt (intsD (a.map D.int))).bind _=_
 rw[zeP_,zhO_,zeo_];show(Mo.opt (intsD (b.map D.int))).bind _=_
 rw[zeP_,zhO_,zeo_]
def Asc (cols:List Int)(cs:Cds):Prop:=cs.Pairwise λa b=>HT.lexLt (rkc cols b) (rkc cols a)=uF
def OkC (cols:List Int):Prop:=(∀j∈cols,1<=j/\j<=36)/\cols.length<=1000
theorem zke_ {a b:List Nat}{cols:List Int}(ha:CD a)(hb:CD b)(hc:OkC cols):zaD_.val [.str a,.str b,.fz (LS .int cols)]=.ok (.bl (HT.lexLt (rkc cols a) (rkc cols b))):=by
 refine zab_ rfl rfl λpn hp=>?_
 unfold zaC_
 exists hp,zd2_ ha hc.1 hc.2,zd2_ hb hc.1 hc.2,zmk_
 fail "q"
theorem zlm_ {cs:Cds}{i:Int}{c:List Nat}(h0:0<=i)(h:cs[i.toNat]?=uC c):ixA (LS .str cs) (.int i)=.ok (.str c):=by
 rw[zoC_,zfh_ h0 h];rfl
theorem rg2 {i j:Int}(h : -100000<=i/\i<=100000)(h2 : -100000<=j/\j<=100000):rng2D [.int i,.int j]=.ok ((lG (j-i).toNat).map λk:Nat=>.int (i+(k:Int))):=by
 show Mo.grd _ _=_
 rw[Mo.grd_ok (by lia)]
 unfold rngI;rw[lX];rfl
theorem zqy_ {cs:Cds}{cols:List Int}(hl:LG cs)(av:∀c∈cs,CD c)(hc:OkC cols)(hs:Asc cols cs):zd3_.val [.fz (LS .str cs),.fz (LS .int cols)]=.ok .non:=by
 have hn:=hl.1;have er:=rg2 (i:=1) (j:=(cs.length:Int)) (by lia) (by lia)
 rw[show((cs.length:Int)-1).toNat=cs.length-1 by lia]at er
 refine zab_ rfl rfl λpn hp=>?_
 unfold zeh_;refine zjE_ (l:=lG (cs.length-1)) (enc:=λi:Nat=>[.int (1+(i:Int))]) (d1:=.int 1) (d2:=.int (cs.length:Int)) (λd e=>∃o,e=[uC (.fz (LS .str cs)),uC (.fz (LS .int cols)),o]) (by exists hp) (by exists hp) er (z3_ _ _) ⟨_,rfl⟩ (λd i r e cB he=>?_) λe he=>?_
 ·obtain⟨o,rfl⟩:=he
  have hi:i<cs.length-1:=lO.mp (by rw[cB];simp)
  refine⟨[uC (.fz (LS .str cs)),uC (.fz (LS .int cols)),uC (.int (1+(i:Int)))],(by exists hp),?_⟩
  have e1:=zlm_ (cs:=cs) (i:=1+(i:Int)) (c:=cs[i+1]'(by lia)) (by lia) (by rw[show(1+(i:Int)).toNat=i+1 by lia];exact km (by lia))
  have e2:=zlm_ (cs:=cs) (i:=1+(i:Int)-1) (c:=cs[i]'(by lia)) (by lia) (by rw[show(1+(i:Int)-1).toNat=i by lia];exact km (by lia))
  have e3:=zke_ (av _ (mD (show i+1<cs.length by lia))) (av _ (mD (show i<cs.length by lia))) hc
  rw[mL.mp hs i (i+1) (by lia) (by lia) (by lia)]at e3
  exists hp,e1,e2,e3
  exact⟨_,_,rfl,.inl ⟨.inl rfl,_,rfl⟩⟩
 ·obtain⟨o,rfl⟩:=he
  exists hp
  fail "q"
theorem zoi_ {cs:Cds}{f:Fd}(hl:LG cs)(av:∀c∈cs,CD c)(hf:OkFd f)(hs:Asc (cl f) cs)(k:Int):zat_.val [.fz (LS .str cs),F2 f,.int k]=.ok .non:=by
 refine zab_ rfl rfl λpn hp=>?_
 unfold zaq_;have e1:zx_.val [F2 f]=.ok (LS .int (cl f)):=zg5_ hf;have e2:isD uE .non .non=.ok (.bl uF):=rfl
 exists hp,zce_,e1,zqy_ hl av ⟨zqU_ hf,by have:=znm_ hf;lia⟩ hs,e2
 fail "q"
def SD (m:Cds):D:=TG D.bl (m.map λn=>(n,uE))
theorem zoH_ (neg:Bool)(m:Cds)(n:Jx):inA neg (.str n) (SD m)=.ok (.bl (if neg then !decide (n∈m)else decide (n∈m))):=by
 have:=td_in (g:=D.bl) neg (m.map λn=>(n,uE)) n
 rw[lX,show((·.1)∘λn:List Nat=>(n,uE))=id from rfl,rW]at this
 exact this
def adt (m:Cds)(n:Jx):Cds:=if n∈m then m else m++[n]
theorem zja_ {m:Cds}{n x:List Nat}:x∈adt m n↔x∈m\/x=n:=by
 unfold adt;split
 ·rename_i h;exact⟨.inl,λz=>z.elim id λe=>by rw[e];exact h⟩
 ·simp
theorem zjr_ (m:Cds)(n:Jx):(adt m n).length<=m.length+1:=by unfold adt;split<;>simp
theorem zjc_ (m:Cds):SD m=.nd (.dct (m.map kN_t)) (m.map λ_=>.bl uE):=by
 unfold SD TG;rw[lX,lX];rfl
theorem zkr_ {m:Cds}{n:List Nat}(hl:m.length<1000):setIF [.bl uE,SD m,.str n]=.ok .non [.gone,SD (adt m n),.str n]:=by
 rw[zjc_,zjc_];show(if kIx (m.map kN_t) (kN_t n)<(m.map kN_t).length/\(m.map λ_=>D.bl uE).length<kR then Mr.ok D.non [D.gone,.nd (.dct (m.map kN_t)) ((m.map λ_=>D.bl uE).set (kIx (m.map kN_t) (kN_t n)) (.bl uE)),D.str n]else if(m.map λ_=>D.bl uE).length<kR/\¬kIx (m.map kN_t) (kN_t n)<(m.map kN_t).length then Mr.ok D.non [D.gone,.nd (.dct (m.map kN_t++[kN_t n])) ((m.map λ_=>D.bl uE)++[D.bl uE]),D.str n]else Mr.no)=_
 have hz:(m.map λ_=>D.bl uE).length<kR:=by rw[ko];exact zj5_ (by lia)
 have hm:kN_t n∈m.map kN_t↔n∈m:=by
  rw[my];exact⟨λ⟨x,h,e⟩=>by rw[<- zip_.mp e];exact h,λh=>⟨n,h,rfl⟩⟩
 unfold adt;by_cases h:n∈m
 ·rw[if_pos ⟨zeB_.mpr (hm.mpr h),hz⟩,if_pos h]
  have:(m.map λ_=>D.bl uE).set (kIx (m.map kN_t) (kN_t n)) (.bl uE)=m.map λ_=>D.bl uE:=by
   rw[show(m.map λ_=>D.bl uE)=kY m.length (D.bl uE)from List.map_const',List.set_replicate_self]
  rw[this]
 ·rw[if_neg λz=>h (hm.mp (zeB_.mp z.1)),if_pos ⟨hz,λz=>h (hm.mp (zeB_.mp z))⟩,if_neg h,mV,mV];rfl
theorem zqJ_ {os:Cds}{g:Fd}(h:LG os):∃m,za5_.val [.fz (LS .str os),F2 g]=.ok (SD m)/\∀x,x∈m↔x∈os.map (pt g):=by
 have key:∀pn:Nat->Bool,(∀i,pn i=uF)->En (S.runs gi pn zaz_ ([.fz (LS .str os),F2 g].map uC++kY 2 uD)) λo _=>∃m,o=.rt (SD m)/\∀x,x∈m↔x∈os.map (pt g):=λpn hp=>by
  unfold zaz_;rw[za6_ (d:=SD []) (by rw[zdc_];exact zs_ (d:=SD []) _ rfl) (hp _)]
  refine zcA_ (l:=os) (enc:=λc=>[.str c]) (d:=.fz (LS .str os)) (λd e=>∃m o,e=[uC (.fz (LS .str os)),uC (F2 g),uC (SD m),o]/\m.length<=d.length/\∀x,x∈m↔x∈d.map (pt g)) (by exists hp) (by exists hp) (z3_ _ _) ⟨[],uD,rfl,kx _,λx=>uA⟩ (λd c r e hl he=>?_) λe he=>?_
  ·obtain⟨m,o,rfl,hm,hx⟩:=he
   have hd:d.length<64:=by have:=h.1;rw[hl,kX]at this;lia
   have hc:=h.2 c (by rw[hl];simp)
   refine⟨[uC (.fz (LS .str os)),uC (F2 g),uC (SD m),uC (.str c)],(by exists hp),?_⟩
   rw[S.runs,S.run,zil_ (d:=.bl uE) (a:=.str (pt g c)) rfl rfl (by exists zce_,ze8_ hc) rfl rfl (zkr_ (by lia)),zdY_]
   refine⟨_,_,rfl,.inl ⟨.inl rfl,adt m (pt g c),_,rfl,?_,λx=>?_⟩⟩
   ·have:=zjr_ m (pt g c);rw[kX,nG];lia
   ·rw[zja_,hx,mV,mU,q9,lQ]
  ·obtain⟨m,o,rfl,hm,hx⟩:=he
   exists hp
   exact⟨_,_,rfl,m,rfl,hx⟩
 have hf:za5_=fnOf gi 2 2 zaz_:=rfl;obtain⟨o,e,h1,m,rfl,h2⟩:=key (pins [.fz (LS .str os),F2 g]) (zbq_ rfl);exact⟨m,by rw[hf];exact zf3_ (zhK_ rfl rfl h1),h2⟩
theorem zlX_ {l m:Cds}{f:Fd}(h:LG l):za0_.val [.fz (LS .str l),F2 f,.fz (SD m)]=.ok (LS .str (l.filter λc=>decide (pt f c∈m))):=by
 refine zab_ rfl rfl λpn hp=>?_
 unfold za2_;have ev:(D.fz (SD m)).vw=.fz (SD m):=rfl;rw[zdf_ (d:=LS .str (l.filter λc=>decide (pt f c∈m))) (e:=[uC (.fz (LS .str l)),uC (F2 f),uC (.fz (SD m))]) ?_]
 ·fail "q"
 ·rw[zdc_,xcomp (p:=λc=>decide (pt f c∈m)) (f:=λc:List Nat=>c) (o:=.str) (T:=λc=>[.str c]) l rfl (by exists hp) (z3_ _ _) (λc hc=>?_) (λc hc _=>rfl) (by have:=h.1;lia),pI]
  ·exact zs_ _ zM_
  ·exists zce_,ev,ze8_ (h.2 c hc),zoH_
theorem znG_ {l m:Cds}{f:Fd}(h:LG l):zU_.val [.fz (LS .str l),F2 f,.fz (SD m)]=.ok (LS .str (l.filter λc=>!decide (pt f c∈m))):=by
 refine zab_ rfl rfl λpn hp=>?_
 unfold zX_;have ev:(D.fz (SD m)).vw=.fz (SD m):=rfl;rw[zdf_ (d:=LS .str (l.filter λc=>!decide (pt f c∈m))) (e:=[uC (.fz (LS .str l)),uC (F2 f),uC (.fz (SD m))]) ?_]
 ·fail "q"
 ·rw[zdc_,xcomp (p:=λc=>!decide (pt f c∈m)) (f:=λc:List Nat=>c) (o:=.str) (T:=λc=>[.str c]) l rfl (by exists hp) (z3_ _ _) (λc hc=>?_) (λc hc _=>rfl) (by have:=h.1;lia),pI]
  ·exact zs_ _ zM_
  ·exists zce_,ev,ze8_ (h.2 c hc),zoH_
theorem zhE_ {ss:Cds}{f:Fd}{p:List Nat->Bool}(hl:LG ss)(av:∀c∈ss,CD c)(hf:OkFd f)(hs:Asc (cl f) ss)(jo:∀d c r,ss=d++c::r->decide (pt f c∈d.map (pt f))=!p c):∃O,zQ_.val [.fz (LS .str ss),F2 f]=.ok (.nd .tup [.fz (LS .str (ss.filter p)),.fz (LS .str O)]):=by
 have key:∀pn:Nat->Bool,(∀i,pn i=uF)->En (S.runs gi pn zG_ ([.fz (LS .str ss),F2 f].map uC++kY 5 uD)) λo _=>∃O,o=.rt (.nd .tup [.fz (LS .str (ss.filter p)),.fz (LS .str O)]):=λpn hp=>by
  unfold zG_;rw[zoB_ (d:=.non) (e:=[uC (.fz (LS .str ss)),uC (F2 f),uD,uD,uD,uD,uD]) (by exists zce_,zoi_ hl av hf hs)]
  rw[za6_ (d:=LS .str []) (by rw[zdc_];exact zs_ (d:=LS .str []) _ zM_) (hp _)]
  rw[za6_ (d:=LS .str []) (by rw[zdc_];exact zs_ (d:=LS .str []) _ zM_) (hp _)]
  rw[za6_ (d:=SD []) (by rw[zdc_];exact zs_ (d:=SD []) _ rfl) (hp _)]
  refine zcA_ (l:=ss) (enc:=λc=>[.str c]) (d:=.fz (LS .str ss)) (λd e=>∃m O o o',e=[uC (.fz (LS .str ss)),uC (F2 f),uC (LS .str (d.filter p)),uC (LS .str O),uC (SD m),o,o']/\m.length<=d.length/\O.length<=d.length/\∀x,x∈m↔x∈d.map (pt f)) (by exists hp) (by exists hp) (z3_ _ _) ⟨[],[],uD,uD,rfl,kx _,kx _,λx=>uA⟩ (λd c r e cB he=>?_) λe he=>?_
  ·obtain⟨m,O,o,o',rfl,hm,hO,hx⟩:=he
   have hd:d.length<64:=by have:=hl.1;rw[cB,kX]at this;lia
   have hc:=hl.2 c (by rw[cB];simp)
   have hq:decide (pt f c∈m)=!p c:=by rw[<- jo d c r cB,ni,decide_eq_true_eq,decide_eq_true_eq];exact hx _
   refine⟨[uC (.fz (LS .str ss)),uC (F2 f),uC (LS .str (d.filter p)),uC (LS .str O),uC (SD m),uC (.str c),o'],(by exists hp),?_⟩
   rw[za6_ (d:=.str (pt f c)) (by exists zce_,ze8_ hc) (hp _)]
   have fB:∀x,x∈adt m (pt f c)↔x∈(d++[c]).map (pt f):=λx=>by rw[zja_,hx,mV,mU,q9,lQ]
   have hn:(adt m (pt f c)).length<=(d++[c]).length:=by have:=zjr_ m (pt f c);rw[kX,nG];lia
   have sv:(SD m).vw=.fz (SD m):=rfl;cases hpc:p c with
   |true=>
    rw[hpc]at hq;have eE:=o9 p d;have hq:decide (pt f c∈m)=uF:=hq;rw[zg8_ (by exists sv,zoH_,hq),qt]
    rw[zoB_ (d:=.non) (e:=[uC (.fz (LS .str ss)),uC (F2 f),uC (LS .str (d.filter p++[c])),uC (LS .str O),uC (SD m),uC (.str c),uC (.str (pt f c))]) (by exists znl_ (g:=.str) (l:=d.filter p) (x:=c) (by lia))]
    rw[S.runs,S.run,zil_ (d:=.bl uE) (a:=.str (pt f c)) rfl rfl rfl rfl rfl (zkr_ (by lia)),zdY_]
    refine⟨_,_,rfl,.inl ⟨.inl rfl,adt m (pt f c),O,uC (.str c),uC (.str (pt f c)),?_,hn,by rw[kX];lia,fB⟩⟩
    rw[rd,List.filter_cons_of_pos hpc,sj];rfl
   |false=>
    rw[hpc]at hq;have hq:decide (pt f c∈m)=uE:=hq;rw[zjW_ (by exists sv,zoH_,hq),qt]
    rw[zoB_ (d:=.non) (e:=[uC (.fz (LS .str ss)),uC (F2 f),uC (LS .str (d.filter p)),uC (LS .str (O++[c])),uC (SD m),uC (.str c),uC (.str (pt f c))]) (by exists znl_ (g:=.str) (l:=O) (x:=c) (by lia))]
    rw[S.runs,S.run,zil_ (d:=.bl uE) (a:=.str (pt f c)) rfl rfl rfl rfl rfl (zkr_ (by lia)),zdY_]
    refine⟨_,_,rfl,.inl ⟨.inl rfl,adt m (pt f c),O++[c],uC (.str c),uC (.str (pt f c)),?_,hn,by rw[kX,kX];lia,fB⟩⟩
    rw[rd,List.filter_cons_of_neg (by rw[hpc];decide),sj,nL];rfl
  ·obtain⟨m,O,o,o',rfl,hm,hO,hx⟩:=he
   exists hp
   exact⟨_,_,rfl,O,rfl⟩
 have hf:zQ_=fnOf gi 2 5 zG_:=rfl;obtain⟨o,e,h1,O,rfl⟩:=key (pins [.fz (LS .str ss),F2 f]) (zbq_ rfl);exact⟨O,by rw[hf];exact zf3_ (zhK_ rfl rfl h1)⟩
theorem zho_ {l:Cds}{p:List Nat->Bool}{q:Nat->Bool}(h:∀k,k<l.length->q k=p (l.getD k [])):((lG l.length).filter q).map (λk=>l.getD k [])=l.filter p:=by
 conv=>rhs;rw[<- zcf_ l,List.filter_map]
 congr 1;exact pU λk hk=>h k (lO.mp hk)
theorem zp2_ {l:Cds}(nd:l.Nodup){k:Nat}(h:k<l.length):l.idxOf (l.getD k [])=k:=by
 rw[kE,km h];exact m7 nd k h
theorem znh_ {l:Cds}(nd:l.Nodup){k:Nat}{c:List Nat}:c∈l.take k↔c∈l/\l.idxOf c<k:=by
 rw[List.mem_take_iff_getElem];constructor
 ·rintro⟨i,hi,rfl⟩
  rw[m7 nd i (by lia)]
  exact⟨mD _,by lia⟩
 ·rintro⟨h1,h2⟩
  have:=m6.mpr h1;exact⟨l.idxOf c,by lia,nE this⟩
theorem zj8_ {l:Cds}(nd:l.Nodup){p:List Nat->Bool}{a b:List Nat}(ha:a∈l.filter p)(hb:b∈l.filter p)(h:l.idxOf a<l.idxOf b):(l.filter p).idxOf a<(l.filter p).idxOf b:=by
 have h0:l.Pairwise λx y=>l.idxOf x<l.idxOf y:=mL.mpr λi j hi hj aJ=>by
  rw[m7 nd i hi,m7 nd j hj];exact aJ
 have h1:=mL.mp (h0.sublist (List.filter_sublist (p:=p)));have la:=m6.mpr ha;have lb:=m6.mpr hb;rcases Nat.lt_trichotomy ((l.filter p).idxOf a) ((l.filter p).idxOf b)with z |z |z
 ·exact z
 ·have:=nE la
  have e2:=nE lb;simp only[z]at this;rw[this]at e2;subst e2;lia
 ·have:=h1 _ _ lb la z
  rw[nE,nE]at this;lia
section
variable {f:Fd}{l:Cds}
def sf (f:Fd)(l:Cds):Cds:=srtG (rkc (cl f)) l
theorem znA_ (hf:OkFd f)(nd:l.Nodup)(hc:∀c∈l,CD c):(sf f l).Pairwise λa b=>¬pt f b<pt f a/\(pt f a<pt f b\/l.idxOf a<l.idxOf b):=by
 refine(zhq_ (rkc (cl f)) nd).imp_of_mem λ{a b} ha hb h=>?_
 have ca:=hc a ((zam_ _ _).mem_iff.mp ha);have cb:=hc b ((zam_ _ _).mem_iff.mp hb);rw[zlw_ hf ca,zlw_ hf cb,zg2_ (zoA_ hf cb) (zoA_ hf ca),zg2_ (zoA_ hf ca) (zoA_ hf cb),decide_eq_false_iff_not,decide_eq_true_eq]at h;exact h
theorem zoK_ (nd:l.Nodup):Asc (cl f) (sf f l):=(zhq_ (rkc (cl f)) nd).imp λh=>h.1
theorem zoy_ (h:LG l):LG (sf f l):=⟨by rw[sf,(zam_ _ _).length_eq];exact h.1,λc hc=>h.2 c ((zam_ _ _).mem_iff.mp hc)⟩
def fst' (f:Fd)(l:Cds)(c:Jx):Bool:=decide (pt f c∉(l.take (l.idxOf c)).map (pt f))
theorem zps_ (hf:OkFd f)(nd:l.Nodup)(hc:∀c∈l,CD c)(d:Cds)(c:Jx)(r:Cds)(h:sf f l=d++c::r):decide (pt f c∈d.map (pt f))=!fst' f l c:=by
 have hr:=znA_ hf nd hc;rw[h]at hr;obtain⟨_,h2,h3⟩:=List.pairwise_append.mp hr;have hm:∀x,x∈l↔x∈d++c::r:=λx=>by rw[<- h];exact(zam_ _ _).mem_iff.symm
 unfold fst';rw[decide_not,Bool.not_not,ni,decide_eq_true_eq,decide_eq_true_eq,my,my];constructor
 ·rintro⟨a,ha,e⟩
  refine⟨a,(znh_ nd).mpr ⟨(hm a).mpr (by simp[ha]),?_⟩,e⟩
  rcases(h3 a ha c lA).2 with z |z
  ·rw[e]at z;exact absurd z (qG _)
  ·exact z
 ·rintro⟨a,ha,e⟩
  obtain⟨h4,h5⟩:=(znh_ nd).mp ha;rcases mU.mp ((hm a).mp h4)with z |z
  ·exact⟨a,z,e⟩
  ·rcases k9.mp z with rfl |z
   ·lia
   ·rcases(List.rel_of_pairwise_cons h2 z).2 with z |z
    ·rw[e]at z;exact absurd z (qG _)
    ·lia
end
theorem zfQ_ {l:Cds}{f:Fd}(h:LG l)(hf:OkFd f)(hc:∀c∈l,CD c):zt_.val [.fz (LS .str l),.fz (LS .int (cl f))]=.ok (LS .str (sf f l)):=
 zmy_ h λc aC=>zd2_ (hc c aC) (zqU_ hf) (by have:=znm_ hf;lia)
theorem AQ_m {n:List Nat}{m:Md}{ks:List Fd}:fldD gi.cs "middle" (AO (AQ n m ks))=.ok (MD m):=ziP_ _
def MAm:Md->Bool
 |.ma _ _ _ _=>uE
 |_=>uF
theorem zoe_ {n:List Nat}{f:Fd}{ks:List Fd}{l:Cds}{t:D}(hf:OkFd f)(hl:LG l)(nd:l.Nodup)(hc:∀c∈l,CD c):zF_.val [.fz (AO (AQ n (.fi f) ks)),.fz (LS .str l),.fz t]=.ok (.fz (LS .str ((sf f l).filter (fst' f l)))):=by
 obtain⟨O,e1⟩:=zhE_ (p:=fst' f l) (zoy_ hl) (λc h=>hc c ((zam_ _ _).mem_iff.mp h)) hf (zoK_ nd) (zps_ hf nd hc)
 refine zab_ rfl rfl λpn hp=>?_
 unfold zO_;have e2:isD uF (MD (.fi f)) .non=.ok (.bl uF):=rfl;have e3:zk_.val [.fz (AO (AQ n (.fi f) ks))]=.ok (LS F2 [f]):=zhI_ (A:=AQ n (.fi f) ks) hf;have e4:ixA (LS F2 [f]) (.int 0)=.ok (F2 f):=rfl;have e5:zx_.val [F2 f]=.ok (LS .int (cl f)):=zg5_ hf;have e6:ixA (MD (.fi f)) (.int 0)=.ok (.str WFi):=rfl;have e7:eqD uF (.str WFi) (.str [102,105,114,115,116])=.ok (.bl uE):=rfl;have e8:∀u v:D,ixA (.nd .tup [.fz u,v]) (.int 0)=.ok ((D.fz u).vw):=λ_ _=>rfl
 exists hp,z1_,AQ_m,e2,e3,e4,e5,zce_,zfQ_ hl hf hc,e6,e7,e1,e8
 fail "q"
theorem zmr_ (m:Cds):(SD m).new=uE:=by
 unfold SD TG;rw[D.new];refine zcj_ _ ?_;exact@zfK_ _ (λq:List Nat×Bool=>D.bl q.2) ⟨λ_=>rfl⟩ _
theorem AQ_k {n:List Nat}{m:Md}{ks:List Fd}:fldD gi.cs "deck" (AO (AQ n m ks))=.ok (.str n):=rfl
theorem zlv_ {n k w:List Nat}{f g:Fd}{l os:Cds}{m:List (List Nat×Cds)}(hm:OkM n (.ma w k f g))(ho:LG os)(hl:LG l)(hc:∀c∈l,CD c)(hk:(m.find? λq=>decide (q.1=k))=uC (k,os)):zF_.val [.fz (AO (AQ n (.ma w k f g) [])),.fz (LS .str l),.fz (TD m)]=.ok (LS .str ((sf f l).filter λc=>decide (pt f c∈os.map (pt g)) == decide (w=WMa))):=by
 obtain⟨ps,e1,hps⟩:=zqJ_ (g:=g) ho;have hf:=hm.2.2.2.1;have hw:=hm.1;have e2:isD uF (MD (.ma w k f g)) .non=.ok (.bl uF):=rfl;have e3:zk_.val [.fz (AO (AQ n (.ma w k f g) []))]=.ok (LS F2 [f,g]):=zhI_ (A:=AQ n (.ma w k f g) []) hm;have e4:ixA (LS F2 [f,g]) (.int 0)=.ok (F2 f):=rfl;have iL:ixA (LS F2 [f,g]) (.int 1)=.ok (F2 g):=rfl;have e5:zx_.val [F2 f]=.ok (LS .int (cl f)):=zg5_ hf;have e6:ixA (MD (.ma w k f g)) (.int 0)=.ok (.str w):=rfl;have iK:ixA (MD (.ma w k f g)) (.int 1)=.ok (.str k):=rfl;have e9:(SD ps).vw=.fz (SD ps):=rfl;have e0:(D.fz (SD ps)).vw=.fz (SD ps):=rfl;have sl:=zoy_ (f:=f) hl;have hq:∀c,decide (pt f c∈ps)=decide (pt f c∈os.map (pt g)):=λc=>by rw[ni,decide_eq_true_eq,decide_eq_true_eq];exact hps _
 refine zab_ rfl rfl λpn hp=>?_
 unfold zO_;rcases hw with rfl |rfl
 ·have a1:eqD uF (.str WMa) (.str [102,105,114,115,116])=.ok (.bl uF):=rfl
  have a2:eqD uF (.str WMa) (.str [109,97,116,101,115])=.ok (.bl uE):=rfl;have a3:(sf f l).filter (λc=>decide (pt f c∈os.map (pt g)) == decide (WMa=WMa))=(sf f l).filter λc=>decide (pt f c∈ps):=pU λc _=>by rw[hq];simp
  rw[a3]
  exists hp,z1_,AQ_m,e2,e3,e4,e5,zce_,zfQ_ hl hf hc,e6,a1,iK,zdG_,zo0_ hk,iL,e1,zmr_,e9,e0,a2,zlX_ (f:=f) (m:=ps) sl
  fail "q"
 ·have a1:eqD uF (.str WWi) (.str [102,105,114,115,116])=.ok (.bl uF):=rfl
  have a2:eqD uF (.str WWi) (.str [109,97,116,101,115])=.ok (.bl uF):=rfl;have a3:(sf f l).filter (λc=>decide (pt f c∈os.map (pt g)) == decide (WWi=WMa))=(sf f l).filter λc=>!decide (pt f c∈ps):=pU λc _=>by rw[hq,decide_eq_false (by decide:WWi≠WMa)];simp
  rw[a3]
  exists hp,z1_,AQ_m,e2,e3,e4,e5,zce_,zfQ_ hl hf hc,e6,a1,iK,zdG_,zo0_ hk,iL,e1,zmr_,e9,e0,a2,znG_ (f:=f) (m:=ps) sl
  fail "q"
theorem zok_ (c:Jx):z2_.val [.str c,.fz (LS .int [])]=.ok (LS .int []):=by
 refine zab_ rfl rfl λpn hp=>?_
 unfold zbe_;rw[zdf_ (d:=LS .int []) (e:=[uC (.str c),uC (.fz (LS .int []))]) ?_]
 ·fail "q"
 ·rw[zdc_,xcompN (f:=λx:Int=>x) (o:=.int) (T:=λx=>[.int x]) ([]:List Int) rfl (by exists hp) (z3_ _ _) (λc hc=>by cases hc) (by simp)]
  exact zs_ _ zM_
theorem zkn_ (l:Cds):srtG (λ_=>[]) l=l:=by
 have e:srtQ (l.map λ_=>([]:List Int)) l.length=lG l.length:=by
  refine(zbP_ (lo_q _) (sL _) ?_).symm;refine List.pairwise_lt_range.imp λ{a b} fI=>zfm_.mpr ⟨?_,.inr (nQ fI)⟩
  have:∀i,(l.map λ_=>([]:List Int)).getD i []=[]:=λi=>by
   rw[kE,kH];cases l[i]?<;>rfl
  show HT.lexLt _ _=uF
  rw[this,this];rfl
 unfold srtG;rw[e];exact zcf_ l
theorem chosen9 {n:List Nat}{md:Md}{m:List (List Nat×Cds)}{cs rs:Cds}{d:D}(hm:OkM n md)(h:(m.find? λq=>decide (q.1=n))=uC (n,cs))(h2:∀w k f g,md=.ma w k f g->k∈m.map (·.1))(hd:zF_.val [.fz (AO (AQ n md [])),.fz (LS .str cs),.fz (TD m)]=.ok d)(hv:d=.fz (LS .str rs)\/d=LS .str rs)(hr:LG rs):zT_.val [.fz (AO (AQ n md [])),.fz (TD m)]=.ok (LS .str rs):=by
 have hn:n∈m.map (·.1):=my.mpr ⟨_,List.mem_of_find?_eq_some h,rfl⟩;have e0:zau_.val [.fz (AO (AQ n md [])),.fz (LS .str cs)]=.ok (.fz (LS .str cs)):=rfl;have e1:zt_.val [.fz (LS .str rs),.fz (LS .int [])]=.ok (LS .str rs):=by
  have:=zmy_ (key:=λ_=>[]) (cols:=[]) hr λc _=>zok_ c
  rw[zkn_]at this;exact this
 have e2:zay_.val [.fz (AO (AQ n md []))]=.ok (LS .int []):=rfl;have e3:∀c,zav_.val [.fz (AO (AQ n md [])),.str c]=.ok (.str c):=λc=>rfl
 have gH:d.vw=.fz (LS .str rs):=by rcases hv with rfl |rfl<;>rfl
 refine zab_ rfl rfl λpn hp=>?_
 unfold zax_;rw[zoB_ (d:=.non) (e:=[uC (.fz (AO (AQ n md []))),uC (.fz (TD m)),uD]) (by exists z1_,zdG_,zo7_ hm hn h2)]
 rw[zkt_ (d:=.fz (LS .str cs)) (e:=[uC (.fz (AO (AQ n md []))),uC (.fz (TD m)),uD]) (by exists z1_,zdG_,AQ_k,zo0_ h,e0) (hp _) (mX rfl)]
 rw[zkt_ (d:=d) (e:=[uC (.fz (AO (AQ n md []))),uC (.fz (TD m)),uC (.fz (LS .str cs))]) (by
  exists z1_,zdG_,hd
  rcases hv with rfl |rfl
  ·rfl
  ·exact zs_ _ zM_) (hp _) (mX rfl)]
 rw[za6_ (d:=LS .str rs) (by exists z1_,e2,gH,e1) (hp _)]
 rw[zdf_ (d:=LS .str rs) (e:=[uC (.fz (AO (AQ n md []))),uC (.fz (TD m)),uC (LS .str rs)]) ?_]
 ·fail "q"
 ·rw[zdc_,xcompN (f:=λx:List Nat=>x) (o:=.str) (T:=λx=>[.str x]) rs rfl (by exists hp) (z3_ _ _) (λc hc=>?_) (by have:=hr.1;lia),pI]
  ·exact zs_ _ zM_
  ·exists z1_,e3
theorem zjs_ {v:Int}(h0:0<=v)(h1:v<10000):v.natAbs.log2<1920/\(zfL (strI v) 4).length=4:=by
 obtain⟨m,rfl⟩:=mH h0;have hm:m<10000:=by lia
 have e:zfL (strI (m:Int)) 4=digs 4 m:=by
  unfold zfL;rw[zd6_];exact zcm_ (w:=4) (by decide) (by lia)
 refine⟨?_,by rw[e,zcy_]⟩
 have:Int.natAbs (m:Int)=m:=by lia
 rw[this];by_cases h:m=0
 ·subst h;decide
 ·have:m.log2<14:=(Nat.log2_lt h).mpr (by lia)
  lia
theorem atI_5 {l:List Int}{j:Nat}{q:Int}(h:l[j]?=uC q):ixA (LS .int l) (.int (0+(j:Int)))=.ok (.int q):=by
 rw[zoC_,zfh_ (by lia) (by rw[show(0+(j:Int)).toNat=j by lia];exact h)];rfl
theorem znw_ {row:Cds}{s:List Nat}{i:Int}(h0:0<=i)(h1:i<row.length):setIF [.str s,LS .str row,.int i]=.ok .non [.gone,LS .str (row.set i.toNat s),.int i]:=by
 show(match ixN (row.map D.str).length i with |some j=>Mr.ok D.non [D.gone,D.nd .lst ((row.map D.str).set j (D.str s)),D.int i]|none=>Mr.no)=_
 have:ixN (row.map D.str).length i=uC i.toNat:=by unfold ixN;rw[ko,if_pos h0,if_pos (by lia)]
 rw[this];show Mr.ok D.non [D.gone,D.nd .lst ((row.map D.str).set i.toNat (D.str s)),D.int i]=_
 rw[<- List.map_set];rfl
def S1 (t:Jx):Prop:=∃s,s∈SG/\t=[s]
theorem zqA_ {s:Nat}(hs:s∈SG):∃R:Cds,mulD (.nd .lst [.str [s]]) (.int 36)=.ok (LS .str R)/\R.length=36/\∀t∈R,S1 t:=by
 refine⟨kY 36 [s],?_,qp,λt ht=>⟨s,hs,List.eq_of_mem_replicate ht⟩⟩
 show Mo.grd (CRep 1 36) _=_
 rw[Mo.grd_ok (by decide)];rfl
theorem str_int {k:Int}(h:k.natAbs.log2<1920):strD [.int k]=.ok (.str (strI k)):=by
 show Mo.grd _ _=_
 rw[Mo.grd_ok h]
theorem zf_4 (l:Jx):zfillD l [.int 4]=.ok (.str (zfL l 4)):=by
 show Mo.grd _ _=_
 rw[Mo.grd_ok (zft_ (by lia) (by lia))]
theorem smf_j (l:Jx)(ds:List D):Sm.f .join l ds=joinD l ds:=rfl
theorem smf_z (l:Jx)(ds:List D):Sm.f .zfill l ds=zfillD l ds:=rfl
theorem ziZ_ (l:Jx):strOf (.str l)=.ok l:=rfl
theorem zj9_ {row:Cds}(hl:row.length=36)(h1:∀t∈row,S1 t):∃t,joinD [] [.fz (LS .str row)]=.ok (.str t)/\t.length=36/\∀c∈t,c∈SG:=by
 have h2:∀t∈row,t.length=1:=λt ht=>by obtain⟨s,_,rfl⟩:=h1 t ht;rfl
 have e:joinS [] (strsL row)=row.flatten:=by
  rw[L2.zj3_];have e:((strsL row).map λz:Str=>z.cps.toList)=row:=by
   unfold strsL;rw[lX];exact(nq λt _=>rfl).trans (pI row)
  rw[e]
 refine⟨row.flatten,?_,?_,λc hc=>?_⟩
 ·show(Mo.opt (strsD (row.map D.str))).bind _=_
  rw[zfX_,<- e];show Mo.grd _ _=_
  rw[Mo.grd_ok (zeD_ (by unfold strsL;rw[ko,hl];decide) ?_)]
  intro z hz;obtain⟨t,ht,rfl⟩:=my.mp hz;show t.toArray.size<=1
  rw[ky,h2 t ht];exact kx _
 ·rw[qL,List.eq_replicate_of_mem (a:=1) (l:=row.map qx) (λx hx=>by obtain⟨t,ht,rfl⟩:=my.mp hx;exact h2 t ht),ko,hl];rfl
 ·obtain⟨t,ht,hc⟩:=List.mem_flatten.mp hc
  obtain⟨s,hs,rfl⟩:=h1 t ht;rw[lQ.mp hc];exact hs
theorem zmg_ {b:Int}(hb:1<=b/\b<=32){x y z:Nat}(hx:x∈SG)(hy:y∈SG)(hz:z∈SG)(c:Int){k:Int}(eB:0<=k)(c7:k<10000):∃t,zB_.val [.int c,.int b,.fz (LS .str [[x],[y],[z]]),.int k]=.ok (.str t)/\CD t/\t.drop 36=zfL (strI k) 4:=by
 have key:∀pn:Nat->Bool,(∀i,pn i=uF)->En (S.runs gi pn z6_ ([.int c,.int b,.fz (LS .str [[x],[y],[z]]),.int k].map uC++kY 3 uD)) λo _=>∃t,o=.rt (.str t)/\CD t/\t.drop 36=zfL (strI k) 4:=λpn hp=>by
  unfold z6_;rw[za6_ (d:=.str SG) (by exists hp;rfl) (hp _)]
  obtain⟨s,hs,es⟩:=zoI_ (l7 (c / 243) (show(37:Int)≠0 by lia)) (lU (c / 243) (show(0:Int)<37 by lia))
  obtain⟨R,eR,R1,R2⟩:=zqA_ hs;rw[za6_ (d:=LS .str R) (by exists hp,es,eR) (hp _)]
  refine zcA_ (l:=lG 5) (enc:=λi:Nat=>[.int (0+(i:Int))]) (d:=.int 5) (λd e=>∃row o,e=[uC (.int c),uC (.int b),uC (.fz (LS .str [[x],[y],[z]])),uC (.int k),uC (.str SG),uC (LS .str row),o]/\row.length=36/\∀t∈row,S1 t) (by exists hp) (rg1 (by lia) (by lia)) (z3_ _ _) ⟨_,uD,rfl,R1,R2⟩ (λd j r e hl he=>?_) λe he=>?_
  ·obtain⟨row,o,rfl,hr,h1⟩:=he
   have hj:j<5:=by
    have:j∈lG 5:=by rw[hl];simp
    exact lO.mp this
   refine⟨[uC (.int c),uC (.int b),uC (.fz (LS .str [[x],[y],[z]])),uC (.int k),uC (.str SG),uC (LS .str row),uC (.int (0+(j:Int)))],(by exists hp),?_⟩
   obtain⟨q,hq,q0,q1⟩:∃q:Int,[1,3,9,27,81][j]?=uC q/\0<q/\q<1000:=by
    have:j=0\/j=1\/j=2\/j=3\/j=4:=by lia
    rcases this with rfl |rfl |rfl |rfl |rfl<;>exact⟨_,rfl,by decide,by decide⟩
   have e5:ixA (.nd .lst [.int 1,.int 3,.int 9,.int 27,.int 81]) (.int (0+(j:Int)))=.ok (.int q):=atI_5 (l:=[1,3,9,27,81]) hq;obtain⟨s,hs,es⟩:=sg3 hx hy hz (c / q);rw[S.runs,S.run,zil_ (d:=.str [s]) (a:=.int (b-1+(0+(j:Int)))) (by exists hp,e5,zf5_ q0 (by lia),es) (zlu_ _) (by exists hp) (zoo_ _) rfl (znw_ (by lia) (by lia)),zdY_]
   refine⟨_,_,rfl,.inl ⟨.inl rfl,_,_,rfl,by rw[mM];exact hr,λt ht=>?_⟩⟩
   rcases List.mem_or_eq_of_mem_set ht with h |h
   ·exact h1 t h
   ·exact⟨s,hs,h⟩
  ·obtain⟨row,o,rfl,hr,h1⟩:=he
   obtain⟨t,et,tl,ts⟩:=zj9_ hr h1;obtain⟨m1,m2⟩:=zjs_ eB c7;have ea:addA (.str t) (.str (zfL (strI k) 4))=.ok (.str (t++zfL (strI k) 4)):=by show Mo.lim _ _=_;rw[Mo.lim_ok (by lia)]
   exists hp,zpn_,ziZ_,smf_j,smf_z,et,str_int m1,zf_4,ea
   exact⟨_,_,rfl,t++zfL (strI k) 4,rfl,⟨by rw[kX];lia,λi hi=>by rw[kE,mx (by lia),km (by lia)];exact ts _ (mD _)⟩,by rw[<- tl];exact List.drop_left⟩
 have hf:zB_=fnOf gi 4 3 z6_:=rfl;obtain⟨o,e,h1,t,rfl,h2⟩:=key (pins [.int c,.int b,.fz (LS .str [[x],[y],[z]]),.int k]) (zbq_ rfl);exact⟨t,by rw[hf];exact zf3_ (zhK_ rfl rfl h1),h2⟩
theorem zk4_ {i j:Int}(h0:0<=i)(h1:i<10000)(g0:0<=j)(g1:j<10000)(e:zfL (strI i) 4=zfL (strI j) 4):i=j:=by
 obtain⟨m,rfl⟩:=mH h0;obtain⟨n,rfl⟩:=mH g0;unfold zfL at e;rw[zd6_,zd6_]at e;have a:=zcm_ (w:=4) (m:=m) (by decide) (by lia)
 have b:=zcm_ (w:=4) (m:=n) (by decide) (by lia)
 have:=zgn_ 4 m n (by lia) (by lia) (a.symm.trans (e.trans b))
 rw[this]
theorem ze5_ (l:List Int):enumD [LS .int l]=.ok ((enumL l).map λq=>.nd .tup [.int q.1,.int q.2]):=by
 show Mq ((enumL (l.map D.int)).map λq=>D.nd .tup [.int q.1,q.2])=_
 unfold enumL;rw[ko,List.zip_map_right,lX,lX,lX];rfl
theorem zml_ (l:List Int)(hl:l.length<64){b:Int}(hb:1<=b/\b<=32){x y z:Nat}(hx:x∈SG)(hy:y∈SG)(hz:z∈SG):∃g:Int×Int->List Nat,(∀q∈enumL l,zB_.val [.int q.2,.int b,.fz (LS .str [[x],[y],[z]]),.int q.1]=.ok (.str (g q)))/\LG ((enumL l).map g)/\((enumL l).map g).Nodup/\∀c∈(enumL l).map g,CD c:=by
 have key:∀q:Int×Int,∃t,q∈enumL l->(zB_.val [.int q.2,.int b,.fz (LS .str [[x],[y],[z]]),.int q.1]=.ok (.str t)/\CD t/\t.drop 36=zfL (strI q.1) 4):=λq=>by
  by_cases h:q∈enumL l
  ·obtain⟨k,hk,e,_⟩:=zfc_ h
   obtain⟨t,ht⟩:=zmg_ hb hx hy hz q.2 (k:=q.1) (by lia) (by lia)
   exact⟨t,λ_=>ht⟩
  ·exact⟨[],λz=>absurd z h⟩
 refine⟨λq=>(key q).choose,λq hq=>((key q).choose_spec hq).1,⟨by rw[ko,zy_];exact hl,λc hc=>?_⟩,mL.mpr λi j hi hj aJ e=>?_,λc hc=>?_⟩
 ·obtain⟨q,hq,rfl⟩:=my.mp hc
  rw[((key q).choose_spec hq).2.1.1];decide
 ·rw[ko,zy_]at hi hj
  have m:∀(i:Nat) (h:i<l.length),(enumL l)[i]'(by rw[zy_];exact h)=((i:Int),l[i]):=λi h=>by
   have:=zbQ_ l i;rw[km (by rw[zy_];exact h),km h]at this
   exact lI this
  rw[rQ,rQ,m i hi,m j hj]at e;have a:=((key ((i:Int),l[i])).choose_spec (by rw[<- m i hi];exact mD _)).2.2
  have b:=((key ((j:Int),l[j])).choose_spec (by rw[<- m j hj];exact mD _)).2.2
  have:=zk4_ (i:=(i:Int)) (j:=(j:Int)) (by lia) (by lia) (by lia) (by lia) (a.symm.trans ((congrArg (List.drop 36) e).trans b))
  lia
 ·obtain⟨q,hq,rfl⟩:=my.mp hc
  exact((key q).choose_spec hq).2.1
theorem zjF_ {c:Nat}{n:Int}(h0:0<=n)(h1:n<=36):∃t:List Nat,mulD (.str [c]) (.int n)=.ok (.str t)/\t.length<=36:=by
 refine⟨repL [c] n,?_,?_⟩
 ·show Mo.grd (CRep 1 n) _=_
  rw[Mo.grd_ok ⟨h0,by lia,by lia,by lia⟩]
 ·unfold repL;rw[qL,List.map_replicate,List.sum_replicate_nat];simp;lia
theorem zix_ {a b:List Nat}(h:a.length+b.length<=1000):addA (.str a) (.str b)=.ok (.str (a++b)):=by
 show Mo.lim _ _=_;rw[Mo.lim_ok (by lia)]
theorem ix_26 {j:Nat}(h:j<3):∃q:Int,0<q/\q<1000/\ixA (.nd .lst [.int 2,.int 6,.int 18]) (.int (0+(j:Int)))=.ok (.int q):=by
 rcases(show j=0\/j=1\/j=2 by lia)with rfl |rfl |rfl
 ·exact⟨2,by lia,by lia,rfl⟩
 ·exact⟨6,by lia,by lia,rfl⟩
 ·exact⟨18,by lia,by lia,rfl⟩
theorem zkK_ (c:Int){f:Fd}(hf:OkFd f)(hw:f.2<=f.1+2){x y z:Nat}(hx:x∈SG)(hy:y∈SG)(hz:z∈SG){k:Int}(eB:0<=k)(c7:k<10000):∃t:List Nat,zw_.val [.int c,F2 f,.fz (LS .str [[x],[y],[z]]),.int k]=.ok (.str t)/\t.length<=1000:=by
 obtain⟨f1,f2,f3⟩:=hf;have key:∀pn:Nat->Bool,(∀i,pn i=uF)->En (S.runs gi pn zN_ ([.int c,F2 f,.fz (LS .str [[x],[y],[z]]),.int k].map uC++kY 2 uD)) λo _=>∃t:List Nat,o=.rt (.str t)/\t.length<=1000:=λpn hp=>by
  unfold zN_;rw[za6_ (d:=.str []) (by exists hp) (hp _)]
  have er:rng1D [.int (f.2-f.1+1)]=_:=rg1 (by lia) (by lia)
  refine zcA_ (l:=lG (f.2-f.1+1).toNat) (enc:=λi:Nat=>[.int (0+(i:Int))]) (d:=.int (f.2-f.1+1)) (λd e=>∃t o,e=[uC (.int c),uC (F2 f),uC (.fz (LS .str [[x],[y],[z]])),uC (.int k),uC (.str t),o]/\t.length=d.length) (by exists zce_,F2_0,F2_1) er (z3_ _ _) ⟨[],uD,rfl,rfl⟩ (λd j r e hl he=>?_) λe he=>?_
  ·obtain⟨t,o,rfl,ht⟩:=he
   have hj:j<3:=by
    have:j∈lG (f.2-f.1+1).toNat:=by rw[hl];simp
    have:=lO.mp this;lia
   have hd:d.length<=3:=by have:=congrArg qx hl;simp at this;lia
   obtain⟨q,q0,q1,eq⟩:=ix_26 hj;obtain⟨s,hs,es⟩:=sg3 hx hy hz (c / q);refine⟨[uC (.int c),uC (F2 f),uC (.fz (LS .str [[x],[y],[z]])),uC (.int k),uC (.str t),uC (.int (0+(j:Int)))],(by exists hp),?_⟩
   rw[za6_ (d:=.str (t++[s])) (by exists eq,zf5_ q0 (by lia),es,zix_ (a:=t) (b:=[s]) (by simp;lia)) (hp _)]
   exact⟨_,_,rfl,.inl ⟨.inl rfl,_,_,rfl,by rw[kX,kX,ht];rfl⟩⟩
  ·obtain⟨t,o,rfl,ht⟩:=he
   rw[lZ]at ht;obtain⟨u,eu,hu⟩:=zjF_ (c:=32) (n:=f.1-1) (by lia) (by lia)
   obtain⟨v,ev,hv⟩:=zjF_ (c:=65) (n:=36-f.2) (by lia) (by lia)
   obtain⟨m1,m2⟩:=zjs_ eB c7
   exists hp,zce_,F2_0,F2_1,eu,ev,zpn_,ziZ_,smf_z,str_int m1,zf_4,zix_ (a:=u) (b:=t) (by lia),zix_ (a:=u++t) (b:=v) (by rw[kX];lia),zix_ (a:=u++t++v) (b:=zfL (strI k) 4) (by rw[kX,kX];lia)
   exact⟨_,_,rfl,_,rfl,by rw[kX,kX,kX];lia⟩
 have hf:zw_=fnOf gi 4 2 zN_:=rfl;obtain⟨o,e,h1,t,rfl,h2⟩:=key (pins [.int c,F2 f,.fz (LS .str [[x],[y],[z]]),.int k]) (zbq_ rfl);exact⟨t,by rw[hf];exact zf3_ (zhK_ rfl rfl h1),h2⟩
theorem zio_ (l:List Int)(hl:l.length<64){f:Fd}(hf:OkFd f)(hw:f.2<=f.1+2){x y z:Nat}(hx:x∈SG)(hy:y∈SG)(hz:z∈SG):∃g:Int×Int->List Nat,(∀q∈enumL l,zw_.val [.int q.2,F2 f,.fz (LS .str [[x],[y],[z]]),.int q.1]=.ok (.str (g q)))/\LG ((enumL l).map g):=by
 have key:∀q:Int×Int,∃t,q∈enumL l->(zw_.val [.int q.2,F2 f,.fz (LS .str [[x],[y],[z]]),.int q.1]=.ok (.str t)/\t.length<=1000):=λq=>by
  by_cases h:q∈enumL l
  ·obtain⟨k,hk,e,_⟩:=zfc_ h
   obtain⟨t,ht⟩:=zkK_ q.2 hf hw hx hy hz (k:=q.1) (by lia) (by lia)
   exact⟨t,λ_=>ht⟩
  ·exact⟨[],λz=>absurd z h⟩
 refine⟨λq=>(key q).choose,λq hq=>((key q).choose_spec hq).1,⟨by rw[ko,zy_];exact hl,λc hc=>?_⟩⟩
 obtain⟨q,hq,rfl⟩:=my.mp hc;exact((key q).choose_spec hq).2
theorem zb8_ {c:List Nat}{f:Fd}(h:c.length<=1000):zbz_.val [.str c,F2 f]=.ok (.str (pt f c)):=by
 refine zab_ rfl rfl λpn hp=>?_
 unfold zbt_;have e:slA (.str c) (uC (f.1-1)) (uC f.2)=.ok (.str (pt f c)):=ziB_ h
 exists hp,F2_0,F2_1,e
 fail "q"
theorem zjx_ (c:Jx):∀(l:Cds),inV (tx c) (l.map tx)=decide (c∈l)
 |[]=>rfl
 |j::l=>by
  have:=zjx_ c l;unfold inV at this ⊢;rw[kF,ox,this];have e:∀a b:List Nat,eqV (tx a) (tx b)=decide (a=b):=λa b=>by
   have:=zlg_ 0 a b;exact lI this
  rw[e];by_cases h:c=j
  ·subst h;simp
  ·simp[h,oO h]
theorem zdn_:∀(l:Cds),flats (l.map D.str)=uC (l.map tx)
 |[]=>rfl
 |c::l=>by rw[kF];unfold flats;rw[zdn_ l];rfl
theorem zhh_ (neg:Bool)(c:Jx)(l:Cds):inA neg (.str c) (LS .str l)=.ok (.bl (if neg=uE then !decide (c∈l)else decide (c∈l))):=by
 show inSeq neg (.str c) (l.map .str)=_
 unfold inSeq;rw[zdn_];show Mq (D.bl (if neg=uE then !(inV (tx c) (l.map tx))else inV (tx c) (l.map tx)))=_
 rw[zjx_]
theorem zmD_ (a b:Cds):eqT 12 (LS .str a) (LS .str b)=uC (decide (a=b)):=eq_ls (n:=11) (zlg_ 11) a b
theorem zns_ (ns:List Int)(lo hi:Option Int):slA (scr ns) lo hi=.ok (LS .int (cutG ns lo hi)):=by
 show Mq (D.nd .lst ((cutG (ns.map D.int) lo hi).map .vw))=_
 unfold cutG LS;rw[ko,<- sW,<- qO,lX];rfl
theorem dsp_2 {a n:List Nat}(h:n≠a){x y:D}:dspD [.str a,x,.str n,y]=.ok (.nd (.dct [kN_t a,kN_t n]) [x,y]):=by
 unfold dspD;rw[show prD [.str a,x,.str n,y]=uC ([kN_t a,kN_t n],[x,y])from rfl]
 show Mo.grd ([kN_t a,kN_t n].Nodup/\[kN_t a,kN_t n].length<=15) (.ok (D.nd (.dct [kN_t a,kN_t n]) [x,y]))=_
 rw[Mo.grd_ok ⟨by simp[zip_,oO h],by simp⟩]
theorem ned_2 {ks:List Key}{u v:Cds}:nedD (.fz (.nd (.dct ks) [LS .str u,LS .str v])) (.nd (.dct ks) [.fz (LS .str u),.fz (LS .str v)])=.ok (.bl uF):=by
 show Mo.grd (ks=ks) _=_
 rw[Mo.grd_ok rfl];have e1:∀u,eqT 12 (LS .str u) (.fz (LS .str u))=uC uE:=λu=>by rw[zi2_,zmD_];simp
 show(Mo.opt ((eqT 12 _ _).bind _)).bind _=_
 rw[e1];show(Mo.opt (((eqT 12 _ _).bind _).map _)).bind _=_
 rw[e1];rfl
theorem zmX_ {cs os:Cds}{f:Fd}(hl:LG cs)(nd:cs.Nodup):z7_.val [.fz (LS .str cs),MD (.fi f),F2 f,.fz (LS .str os)]=.ok (LS .str (cs.filter (fst' f cs))):=by
 have hn:=hl.1;have e6:ixA (MD (.fi f)) (.int 0)=.ok (.str WFi):=rfl;have e7:eqD uF (.str WFi) (.str [102,105,114,115,116])=.ok (.bl uE):=rfl;refine zab_ rfl rfl λpn hp=>?_
 unfold zaG_;rw[za6_ (d:=LS .str (cs.map (pt f))) (by rw[zdc_,xcompN (f:=pt f) (o:=.str) (T:=λc=>[.str c]) cs rfl (by exists hp) (z3_ _ _) (λc hc=>by exists zce_,zb8_ (hl.2 c hc)) (by lia)];exact zs_ _ zM_) (hp _)]
 rw[zjW_ (by exists ziV_,e6,e7),mf]
 rw[zdf_ (d:=LS .str (cs.filter (fst' f cs))) (e:=[uC (.fz (LS .str cs)),uC (MD (.fi f)),uC (F2 f),uC (.fz (LS .str os)),uC (LS .str (cs.map (pt f))),uD]) ?_]
 ·fail "q"
 ·rw[zdc_,xcomp (p:=λk=>!decide (pt f (cs.getD k [])∈(cs.take k).map (pt f))) (f:=λk=>cs.getD k []) (o:=.str) (T:=λk:Nat=>[.int (0+(k:Int))]) (lG cs.length) rfl (by exists rg1 (j:=(cs.length:Int)) (by lia) (by lia)) (z3_ _ _) (λk hk=>?_) (λk hk _=>?_) (by rw[lZ];lia),zho_ (p:=fst' f cs) ?_]
  ·exact zs_ _ zM_
  ·intro k hk
   unfold fst';rw[zp2_ nd hk,decide_not]
  ·have hk:=lO.mp hk
   have e1:=zlm_ (cs:=cs.map (pt f)) (i:=0+(k:Int)) (c:=pt f (cs.getD k [])) (by lia) (by rw[show(0+(k:Int)).toNat=k by lia,kH,kE,km hk];rfl)
   have e2:cutG (cs.map (pt f)) uD (uC (0+(k:Int)))=(cs.take k).map (pt f):=by rw[zjy_ (by lia),show(0+(k:Int)).toNat=k by lia,qO]
   exists e1,e2,zhh_
  ·have hk:=lO.mp hk
   have e1:=zlm_ (cs:=cs) (i:=0+(k:Int)) (c:=cs.getD k []) (by lia) (by rw[show(0+(k:Int)).toNat=k by lia,kE,km hk];rfl)
   exists e1
theorem zmw_ {cs os:Cds}{f g:Fd}{w k:List Nat}(hw:w=WMa\/w=WWi)(hl:LG cs)(ho:LG os):z7_.val [.fz (LS .str cs),MD (.ma w k f g),F2 f,.fz (LS .str os)]=.ok (LS .str (cs.filter λc=>decide (pt f c∈os.map (pt g)) == decide (w=WMa))):=by
 have hn:=hl.1;have d7:=ho.1;have e6:ixA (MD (.ma w k f g)) (.int 0)=.ok (.str w):=rfl;have e8:ixA (MD (.ma w k f g)) (.int 3)=.ok (F2 g):=rfl;have e7:eqD uF (.str w) (.str [102,105,114,115,116])=.ok (.bl uF):=by rcases hw with rfl |rfl<;>rfl
 have e9:eqD uF (.str w) (.str [109,97,116,101,115])=.ok (.bl (decide (w=WMa))):=zci_ (neg:=uF) w WMa;refine zab_ rfl rfl λpn hp=>?_
 unfold zaG_;rw[za6_ (d:=LS .str (cs.map (pt f))) (by rw[zdc_,xcompN (f:=pt f) (o:=.str) (T:=λc=>[.str c]) cs rfl (by exists hp) (z3_ _ _) (λc hc=>by exists zce_,zb8_ (hl.2 c hc)) (by lia)];exact zs_ _ zM_) (hp _)]
 rw[zg8_ (by exists ziV_,e6,e7),mB]
 rw[za6_ (d:=LS .str (os.map (pt g))) (by rw[zdc_,xcompN (f:=pt g) (o:=.str) (T:=λc=>[.str c]) os rfl (by exists hp) (z3_ _ _) (λc hc=>by exists ziV_,e8,zce_,zb8_ (ho.2 c hc)) (by lia)];exact zs_ _ zM_) (hp _)]
 rw[zdf_ (d:=LS .str (cs.filter λc=>decide (pt f c∈os.map (pt g)) == decide (w=WMa))) (e:=[uC (.fz (LS .str cs)),uC (MD (.ma w k f g)),uC (F2 f),uC (.fz (LS .str os)),uC (LS .str (cs.map (pt f))),uC (LS .str (os.map (pt g)))]) ?_]
 ·fail "q"
 ·have eqB:∀a b:Bool,eqD uF (.bl a) (.bl b)=.ok (.bl (a == b)):=λa b=>by cases a<;>cases b<;>rfl
  rw[zdc_,xcomp (p:=λk=>decide (pt f (cs.getD k [])∈os.map (pt g)) == decide (w=WMa)) (f:=λk=>cs.getD k []) (o:=.str) (T:=λk:Nat=>[.int (0+(k:Int))]) (lG cs.length) rfl (by exists rg1 (j:=(cs.length:Int)) (by lia) (by lia)) (z3_ _ _) (λk hk=>?_) (λk hk _=>?_) (by rw[lZ];lia),zho_ (p:=λc=>decide (pt f c∈os.map (pt g)) == decide (w=WMa)) λ_ _=>rfl]
  ·exact zs_ _ zM_
  ·have hk:=lO.mp hk
   have e1:=zlm_ (cs:=cs.map (pt f)) (i:=0+(k:Int)) (c:=pt f (cs.getD k [])) (by lia) (by rw[show(0+(k:Int)).toNat=k by lia,kH,kE,km hk];rfl)
   exists e1,zhh_,ziV_,e6,e9,eqB
  ·have hk:=lO.mp hk
   have e1:=zlm_ (cs:=cs) (i:=0+(k:Int)) (c:=cs.getD k []) (by lia) (by rw[show(0+(k:Int)).toNat=k by lia,kE,km hk];rfl)
   exists e1
theorem zlh_ {α:Type}(l:List α):cutG l uD (uC (-1))=l.take (l.length-1):=by
 unfold cutG HT.sIx;simp only[];rw[if_pos (by lia)]
 simp only[qA,tF];congr 1;lia
theorem zkC_ (a b:Cds):zipD [LS .str a,LS .str b]=.ok ((a.zip b).map λq=>.nd .tup [.str q.1,.str q.2]):=by
 show Mq (((a.map D.str).zip (b.map D.str)).map λq=>D.nd .tup [q.1,q.2])=_
 rw[List.zip_map,lX];rfl
theorem zgq_ {f:Fd}{cs:Cds}{p:List Nat->Bool}(hf:OkFd f)(hl:LG cs)(nd:cs.Nodup)(hc:∀c∈cs,CD c):zae_.val [.fz (LS .str ((sf f cs).filter p)),.fz (LS .str (cs.filter p)),F2 f]=.ok (.bl uE):=by
 have hn:=hl.1;have pm:((sf f cs).filter p).Perm (cs.filter p):=(zam_ _ _).filter p;have rel:=(znA_ hf nd hc).filter p;have hk:∀c∈(sf f cs).filter p,c∈cs.filter p:=λc h=>pm.mem_iff.mp h
 have hL:∀c∈(sf f cs).filter p,c.length<=1000:=λc h=>hl.2 c (pA.mp (hk c h)).1
 have ju:∀a∈(sf f cs).filter p,∀b∈(sf f cs).filter p,cs.idxOf a<cs.idxOf b->(cs.filter p).idxOf a<(cs.filter p).idxOf b:=λa ha b hb h=>zj8_ nd (hk a ha) (hk b hb) h
 have hlen:((sf f cs).filter p).length<64:=by rw[pm.length_eq];have:=o9 p cs;lia
 have jw:lenA [LS .str ((sf f cs).filter p)]=.ok (.int ((cs.filter p).length:Nat)):=by rw[zn8_,pm.length_eq]
 generalize (sf f cs).filter p=rs at *
 generalize cs.filter p=ks at *
 have i1:isaD "list" (LS .str rs)=.ok (.bl uE):=rfl;have i2:∀c,isaD "str" (.str c)=.ok (.bl uE):=λ_=>rfl
 have e3:∀n:Int,eqD uE (.int n) (.int n)=.ok (.bl uF):=λn=>by rw[zcv_];simp
 refine zab_ rfl rfl λpn hp=>?_
 unfold zag_;rw[zg8_ (by exists i1,jw,e3;rfl),mB]
 refine zcA_ (l:=rs) (enc:=λc=>[.str c]) (d:=.fz (LS .str rs)) (λd e=>∃o,e=[uC (.fz (LS .str rs)),uC (.fz (LS .str ks)),uC (F2 f),o,uD,uD,uD,uD]) (by exists hp) (by exists hp) (z3_ _ _) ⟨uD,rfl⟩ (λd c r e hd he=>?_) λe he=>?_
 ·obtain⟨o,rfl⟩:=he
  refine⟨[uC (.fz (LS .str rs)),uC (.fz (LS .str ks)),uC (F2 f),uC (.str c),uD,uD,uD,uD],(by exists hp),?_⟩
  exists hp,i2,zhh_,decide_eq_true (hk c (by rw[hd];simp))
  exact⟨_,_,rfl,.inl ⟨.inl rfl,_,rfl⟩⟩
 obtain⟨o,rfl⟩:=he;have ez:=zkC_ (rs.take (rs.length-1)) (rs.drop 1);have c1:=zlh_ rs;have c2:cutG rs (uC 1) uD=rs.drop 1:=zeV_ (by lia)
 refine zjE_ (l:=(rs.take (rs.length-1)).zip (rs.drop 1)) (enc:=λq=>[.str q.1,.str q.2]) (λd e=>∃o4 o5 o6 o7,e=[uC (.fz (LS .str rs)),uC (.fz (LS .str ks)),uC (F2 f),o,o4,o5,o6,o7]) (d1:=LS .str (rs.take (rs.length-1))) (d2:=LS .str (rs.drop 1)) (by exists zpS_,c1) (by exists zpS_,c2) ez (zh5_ _ _ _) ⟨_,_,_,_,rfl⟩ (λd q r e hd he=>?_) λe he=>?_
 ·obtain⟨o4,o5,o6,o7,rfl⟩:=he
  obtain⟨a,b⟩:=q;have hq:(a,b)∈(rs.take (rs.length-1)).zip (rs.drop 1):=by rw[hd];simp
  obtain⟨i,hi,e⟩:=qB.mp hq;rw[mn,mq,mC]at hi;rw[List.getElem_zip,List.getElem_take,List.getElem_drop]at e;have ea:rs[i]'(by lia)=a:=congrArg Prod.fst e
  have eb:rs[1+i]'(by lia)=b:=congrArg Prod.snd e
  have ha:a∈rs:=ea ▸ mD _;have hb:b∈rs:=eb ▸ mD _;have hR:=mL.mp rel i (1+i) (by lia) (by lia) (by lia)
  rw[ea,eb]at hR;refine⟨[uC (.fz (LS .str rs)),uC (.fz (LS .str ks)),uC (F2 f),o,uC (.str a),uC (.str b),o6,o7],(by exists hp),?_⟩
  have g1:txtD (λi j=>decide (j<i)) (.str (pt f a)) (.str (pt f b))=.ok (.bl uF):=by
   show Mq (D.bl (decide (pt f b<pt f a)))=_
   rw[decide_eq_false hR.1]
  have l1:∀c∈rs,liD ks (.str c)=.ok (.int (ks.idxOf c:Nat)):=λc h=>by
   show Mo.grd _ _=_
   rw[Mo.grd_ok (hk c h)]
  rw[za6_ (d:=.str (pt f a)) (by exists zce_,zb8_ (hL a ha)) (hp _)]
  rw[za6_ (d:=.str (pt f b)) (by exists zce_,zb8_ (hL b hb)) (hp _)]
  by_cases z:pt f a=pt f b
  ·have h1:cs.idxOf a<cs.idxOf b:=by
    rcases hR.2 with y |y
    ·rw[z]at y;exact absurd y (qG _)
    ·exact y
   have h2:=ju a ha b hb h1;have g2:=zci_ (neg:=uF) (pt f a) (pt f b);rw[decide_eq_true z]at g2
   exists hp,g1,g2,xv_li,ziU_,l1 a ha,l1 b hb,decide_eq_false (show¬((ks.idxOf b:Nat):Int)<=(ks.idxOf a:Nat) by lia)
   exact⟨_,_,rfl,.inl ⟨.inl rfl,_,_,_,_,rfl⟩⟩
  ·have g2:=zci_ (neg:=uF) (pt f a) (pt f b)
   rw[decide_eq_false z]at g2
   exists hp,g1,g2
   exact⟨_,_,rfl,.inl ⟨.inl rfl,_,_,_,_,rfl⟩⟩
 ·obtain⟨o4,o5,o6,o7,rfl⟩:=he
  exists hp
  fail "q"
theorem run9 {pn:Nat->Bool}(hp:∀i,pn i=uF){ns:List Int}(hl:ns.length<=63){b wd lo:Int}(hb:1<=b/\b<=32){x y z:Nat}(hx:x∈SG)(hy:y∈SG)(hz:z∈SG){n1 n2:List Nat}(h1:OkN n1)(aZ:n2≠n1){f:Fd}(hf:OkFd f)(hg:OkFd (lo,lo+wd))(hw:wd<=2){w7:Option D}{md:Md}(hm:OkM n1 md)(jv:md=.fi f\/∃w,md=.ma w n2 f (lo,lo+wd)){Q:Fl->VI.Env->Prop}(hq:∀e,Q (.rt (.bl uE)) e):
  En (S.runs gi pn (zlK_.drop 9) [uC (scr ns),uC (.int b),uC (LS .str [[x],[y],[z]]),uC (LS .str [n1,n2]),uC (F2 f),uC (.int wd),uC (.int lo),w7,uC (MD md),uD,uD,uD,uD,uD]) Q:=by
 have hlen:=zhz_ ns (uC 6) (uC 66);obtain⟨g,eg,hg1,nd,av⟩:=zml_ (cutG ns (uC 6) (uC 66)) (by lia) hb hx hy hz
 have ex:X.ev gi [uC (scr ns),uC (.int b),uC (LS .str [[x],[y],[z]]),uC (LS .str [n1,n2]),uC (F2 f),uC (.int wd),uC (.int lo),w7,uC (MD md),uD,uD,uD,uD,uD] (.comp ["_law_k", "_law_cell_here"] [("_law_base",1),("_law_signs_here",2)] .en [(.sl (.v 0) (uC (.n 6)) (uC (.n 66)))] ⟨uE,[0,1]⟩ uD (.call zB_ "_law_card" [(.v 1),(.v 2),(.v 3),(.v 0)]))=.ok (LS .str ((enumL (cutG ns (uC 6) (uC 66))).map g)):=by
  refine xcompN (f:=g) (o:=.str) (T:=λq=>[.int q.1,.int q.2]) (items:=(enumL (cutG ns (uC 6) (uC 66))).map λq=>.nd .tup [.int q.1,.int q.2]) (enumL (cutG ns (uC 6) (uC 66))) rfl (by exists zcN_,zns_,ze5_) (zh5_ _ _ _) (λq hq=>?_) (by rw[zy_];lia)
  exists eg q hq
 generalize (enumL (cutG ns (uC 6) (uC 66))).map g=cs at ex hg1 nd av
 have c5:=zcx_ ns (k:=5) (by lia) (by lia)
 have em:modD (.int (cel ns 5)) (.int ((cs.length:Int) / 2+1))=.ok (.int (cel ns 5 % ((cs.length:Int) / 2+1))):=vd_mod (by lia)
 generalize cel ns 5 % ((cs.length:Int) / 2+1)=m5 at em
 have iy:=zhz_ ns (uC 6) (uC (6+m5));obtain⟨g',eg',ho⟩:=zio_ (cutG ns (uC 6) (uC (6+m5))) (by lia) hg (by show lo+wd<=lo+2;lia) hx hy hz
 have ef:∀i j:Int,D.nd .tup [.int i,.int j]=F2 (i,j):=λ_ _=>rfl
 have iJ:X.ev gi [uC (scr ns),uC (.int b),uC (LS .str [[x],[y],[z]]),uC (LS .str [n1,n2]),uC (F2 f),uC (.int wd),uC (.int lo),w7,uC (MD md),uC (LS .str cs),uC (LS .int (cutG ns (uC 6) (uC (6+m5)))),uD,uD,uD] (.comp ["_law_k", "_law_cell_here"] [("_law_signs_here",2),("_law_low",6),("_law_wide",5)] .en [(.v 10)] ⟨uE,[0,1]⟩ uD (.call zw_ "_law_other" [(.v 1),(.tup [(.v 3),(.bin .add (.v 3) (.v 4))]),(.v 2),(.v 0)]))=.ok (LS .str ((enumL (cutG ns (uC 6) (uC (6+m5)))).map g')):=by
  refine xcompN (f:=g') (o:=.str) (T:=λq=>[.int q.1,.int q.2]) (items:=(enumL (cutG ns (uC 6) (uC (6+m5)))).map λq=>.nd .tup [.int q.1,.int q.2]) (enumL (cutG ns (uC 6) (uC (6+m5)))) rfl (by exists ze5_) (zh5_ _ _ _) (λq hq=>?_) (by rw[zy_];lia)
  exists ef,zce_,eg' q hq
 generalize (enumL (cutG ns (uC 6) (uC (6+m5)))).map g'=os at iJ ho
 have l1:ixA (LS .str [n1,n2]) (.int 0)=.ok (.str n1):=rfl;have l2:ixA (LS .str [n1,n2]) (.int 1)=.ok (.str n2):=rfl;have f1:([(n1,cs),(n2,os)].find? λq=>decide (q.1=n1))=uC (n1,cs):=by simp
 have f2:([(n1,cs),(n2,os)].find? λq=>decide (q.1=n2))=uC (n2,os):=by simp[oO aZ]
 obtain⟨p,ek,ech⟩:∃p,z7_.val [.fz (LS .str cs),MD md,F2 f,.fz (LS .str os)]=.ok (LS .str (cs.filter p))/\zT_.val [.fz (AO (AQ n1 md [])),.fz (TD [(n1,cs),(n2,os)])]=.ok (LS .str ((sf f cs).filter p)):=by
  have eE:∀p,LG ((sf f cs).filter p):=λp=>⟨q8 (o9 _ _) (zoy_ hg1).1,λc hc=>(zoy_ hg1).2 c (pA.mp hc).1⟩
  rcases jv with rfl |⟨w,rfl⟩
  ·exact⟨fst' f cs,zmX_ hg1 nd,chosen9 hm f1 (λ_ _ _ _ h=>by cases h) (zoe_ hf hg1 nd av) (.inl rfl) (eE _)⟩
  ·exact⟨_,zmw_ hm.1 hg1 ho,chosen9 hm f1 (λ_ _ _ _ h=>by cases h;simp) (zlv_ hm ho hg1 av f2) (.inr rfl) (eE _)⟩
 have eT:dspD [.str n1,LS .str cs,.str n2,LS .str os]=.ok (TD [(n1,cs),(n2,os)]):=dsp_2 aZ;have nT:(TD [(n1,cs),(n2,os)]).new=uE:=by unfold TD TG;simp only[kF,nu,nw_nd,nw_c,nw_0,zM_,sV]
 have jU:dspD [.str n1,.fz (LS .str cs),.str n2,.fz (LS .str os)]=.ok (.nd (.dct [kN_t n1,kN_t n2]) [.fz (LS .str cs),.fz (LS .str os)]):=dsp_2 aZ;have jT:nedD (.fz (TD [(n1,cs),(n2,os)])) (.nd (.dct [kN_t n1,kN_t n2]) [.fz (LS .str cs),.fz (LS .str os)])=.ok (.bl uF):=ned_2;have mk:∀env,X.evs gi env [(.i (.v 3) 0),(.lst []),(.v 8),(.lst [])]=.ok [.str n1,.nd .lst [],MD md,.nd .lst []]->X.ev gi env (.mkd zi_ "Asking" [(.i (.v 3) 0),(.lst []),(.v 8),(.lst [])] [.non,(.int 0),.non,(.int 6),.non])=.ok (AO (AQ n1 md [])):=λenv he=>by
  rw[zqc_,if_pos (show(flats [.non,.int 0,.non,.int 6,.non]).isSome=uE from rfl),he,zeo_]
  exact make9 h1 hm (l5 _) (λf h=>by cases h) rfl
 have ke:=hg1.1;unfold zlK_;show En (S.runs gi pn (S.asg 9 _::_) _) _
 rw[za6_ (d:=LS .str cs) (by rw[zdc_,ex];exact zs_ _ zM_) (hp _)]
 rw[za6_ (d:=LS .int (cutG ns (uC 6) (uC (6+m5)))) (by exists zcN_,c5,zns_,em) (hp _)]
 rw[za6_ (d:=LS .str os) (by rw[zdc_];show keep (X.ev gi [uC (scr ns),uC (.int b),uC (LS .str [[x],[y],[z]]),uC (LS .str [n1,n2]),uC (F2 f),uC (.int wd),uC (.int lo),w7,uC (MD md),uC (LS .str cs),uC (LS .int (cutG ns (uC 6) (uC (6+m5)))),uD,uD,uD] _) _ _=_;rw[iJ];exact zs_ _ zM_) (hp _)]
 rw[za6_ (d:=TD [(n1,cs),(n2,os)]) (by exists zlA_,l1,l2,ze9_,eT,zs_ _ nT) (hp _)]
 show En (S.runs gi pn _ [uC (scr ns),uC (.int b),uC (LS .str [[x],[y],[z]]),uC (LS .str [n1,n2]),uC (F2 f),uC (.int wd),uC (.int lo),w7,uC (MD md),uC (LS .str cs),uC (LS .int (cutG ns (uC 6) (uC (6+m5)))),uC (LS .str os),uC (TD [(n1,cs),(n2,os)]),uD]) _
 have m0:=mk [uC (scr ns),uC (.int b),uC (LS .str [[x],[y],[z]]),uC (LS .str [n1,n2]),uC (F2 f),uC (.int wd),uC (.int lo),w7,uC (MD md),uC (LS .str cs),uC (LS .int (cutG ns (uC 6) (uC (6+m5)))),uC (LS .str os),uC (TD [(n1,cs),(n2,os)]),uD] (by exists l1,ziV_)
 rw[za6_ (d:=LS .str ((sf f cs).filter p)) (by exists m0,AO_vw,TD_vw,z1_,zdG_,ech) (hp _)]
 rw[zg8_ (by exists TD_vw,zdG_,zlA_,l1,l2,jU,jT)]
 show En (S.runs gi pn (S.ret _::_) _) _
 exists ziV_,zce_,ek,zgq_ (p:=p) hf hg1 nd av
 exact⟨_,_,rfl,hq _⟩
theorem zks_:∀ns:List Int,ns.length<=63->BitsOk ns->f_law.val [scr ns]=.ok (.bl uE):=by
 intro ns hl _;have b0:=l7 (cel ns 0) (show(32:Int)≠0 by lia)
 have b1:=lU (cel ns 0) (show(0:Int)<32 by lia)
 obtain⟨x,y,z,es,hx,hy,hz⟩:=zki_ (cel ns 0 / 32);obtain⟨n1,n2,en,h1,h2,aZ⟩:=zla_ (cel ns 1)
 generalize gM:1+cel ns 0 % 32=b
 obtain⟨f,ef,g1,g2,g3,g4⟩:=zk1_ (cel ns 2) b
 generalize i5:f.2-f.1=wd
 have em:modD (.int (cel ns 3)) (.int (36-wd))=.ok (.int (cel ns 3 % (36-wd))):=vd_mod (by lia)
 have l0:=l7 (cel ns 3) (show(36-wd)≠0 by lia)
 have l1:=lU (cel ns 3) (show 0<(36-wd) by lia)
 generalize iw:1+cel ns 3 % (36-wd)=lo
 have w0:=l7 (cel ns 4) (show(3:Int)≠0 by lia)
 have w1:=lU (cel ns 4) (show(0:Int)<3 by lia)
 have hF:OkFd f:=⟨by lia,by lia,by lia⟩
 have hG:OkFd (lo,lo+wd):=⟨by show 1<=lo;lia,by show lo<=lo+wd;lia,by show lo+wd<=36;lia⟩
 refine zab_ rfl rfl λpn hp=>?_
 have R:=@run9 pn hp ns hl b wd lo (by lia) x y z hx hy hz n1 n2 h1 aZ f hF hG (by lia) (uC (.int (cel ns 4 % 3)))
 have c0:=zcx_ ns (k:=0) (by lia) (by lia)
 have c1:=zcx_ ns (k:=1) (by lia) (by lia)
 have c2:=zcx_ ns (k:=2) (by lia) (by lia)
 have c3:=zcx_ ns (k:=3) (by lia) (by lia)
 have c4:=zcx_ ns (k:=4) (by lia) (by lia)
 have i0:ixA (LS .str [n1,n2]) (.int 1)=.ok (.str n2):=rfl;unfold zlK_;rw[za6_ (d:=.int b) (by exists zcN_,c0,gM) (hp _)]
 rw[za6_ (d:=LS .str [[x],[y],[z]]) (by exists zcN_,c0,es) (hp _)]
 rw[za6_ (d:=LS .str [n1,n2]) (by exists zcN_,c1,en) (hp _)]
 rw[za6_ (d:=F2 f) (by exists zcN_,c2,ef,F2_nw) (hp _)]
 rw[za6_ (d:=.int wd) (by exists zce_,F2_0,F2_1,i5) (hp _)]
 rw[za6_ (d:=.int lo) (by exists zcN_,c3,em,iw) (hp _)]
 rw[za6_ (d:=.int (cel ns 4 % 3)) (by exists zcN_,c4) (hp _)]
 have eM:D.nd .tup [.str [102,105,114,115,116],F2 f]=MD (.fi f):=rfl;rw[za6_ (d:=MD (.fi f)) (by exists zce_,eM,zo3_) (hp _)]
 by_cases hw:cel ns 4 % 3 > 0
 ·rw[zjW_ (by exists decide_eq_true hw),mf,mB]
  obtain⟨w,ew,hww⟩:∃w,ixA (.nd .lst [.str [109,97,116,101,115],.str [119,105,116,104,111,117,116]]) (.int (cel ns 4 % 3-1))=.ok (.str w)/\(w=WMa\/w=WWi):=by
   rcases(show cel ns 4 % 3-1=0\/cel ns 4 % 3-1=1 by lia)with e |e<;>rw[e]
   ·exact⟨WMa,rfl,.inl rfl⟩
   ·exact⟨WWi,rfl,.inr rfl⟩
  have jV:D.nd .tup [.str w,.str n2,F2 f,.nd .tup [.int lo,.int (lo+wd)]]=MD (.ma w n2 f (lo,lo+wd)):=rfl;rw[za6_ (d:=MD (.ma w n2 f (lo,lo+wd))) (by exists zce_,ew,i0,jV,zo3_) (hp _)]
  exact R (md:=.ma w n2 f (lo,lo+wd)) ⟨hww,h2,aZ,hF,hG,by show f.2-f.1=lo+wd-lo;lia⟩ (.inr ⟨w,rfl⟩) λ_=>.inl rfl
 ·rw[zg8_ (by exists decide_eq_false hw),mB]
  exact R (md:=.fi f) hF (.inl rfl) λ_=>.inl rfl
def top (i:Nat):lV:=PySem.Challenge.pw_cardshop_k49_by_the_middle.main.body.getD i (.Pass ⟨0,0,0,0⟩)
abbrev zfl_:lV:=top 85
abbrev zef_:lV:=top 87
abbrev zd0_:lV:=top 88
abbrev zd4_:lV:=top 86
abbrev zfr_:lV:=top 89
abbrev zec_:lV:=top 90
abbrev zfW_:lV:=top 47
abbrev zhk_:lV:=top 48
abbrev zdl_:lV:=top 78
abbrev zdh_:lV:=top 79
abbrev zcr_:lV:=top 49
abbrev zhJ_:lV:=top 12
abbrev zhR_:lV:=top 14
abbrev ziw_:lV:=top 15
abbrev zf7_:lV:=top 65
abbrev zai_:lV:=top 68
abbrev zen_:lV:=top 27
abbrev zdQ_:lV:=top 66
abbrev zkf_:lV:=top 67
abbrev zdg_:lV:=top 70
abbrev zia_:lV:=top 29
abbrev zdy_:lV:=top 74
abbrev zg6_:lV:=top 71
abbrev zed_:lV:=top 72
abbrev zcn_:lV:=top 73
abbrev zdM_:lV:=top 80
abbrev zdH_:lV:=top 81
abbrev zdI_:lV:=top 82
abbrev zdL_:lV:=top 83
abbrev zgC_:lV:=top 46
abbrev ziO_:lV:=top 53
abbrev zcq_:lV:=top 55
abbrev zbh_:lV:=top 56
abbrev zic_:lV:=top 51
abbrev zdJ_:lV:=top 57
abbrev zeA_:lV:=top 58
abbrev zg9_:lV:=top 18
abbrev zgZ_:lV:=top 25
abbrev zcU_:lV:=top 33
abbrev zdO_:lV:=top 50
abbrev zdm_:lV:=top 59
abbrev zhu_:lV:=top 26
abbrev zaM_:lV:=top 60
abbrev zd8_:lV:=top 23
abbrev zgt_:lV:=top 52
abbrev zbS_:lV:=top 61
abbrev zdA_:lV:=top 62
abbrev zc5_:lV:=top 54
abbrev zan_:lV:=inClass (top 45) 0
abbrev zfz_:lV:=top 91
abbrev zc9_:lV:=top 93
abbrev zfk_:lV:=top 92
abbrev s_law:lV:=top 94
structure Ek (K:Fgg):Prop where
 u0:Fg K "_law_cell" zfl_
 u1:Fg K "_law_signs" zef_
 u2:Fg K "_law_names" zd0_
 u3:Fg K "_law_field" zd4_
 u4:Fg K "_law_card" zfr_
 u5:Fg K "_law_other" zec_
 u6:Fg K "mates_by" zfW_
 u7:Fg K "names_of" zhk_
 u8:Fg K "check_trays" zdl_
 u9:Fg K "picked_deck" zdh_
 u10:Fg K "middle_fields" zcr_
 u11:Fg K "is_sign" zhJ_
 u12:Fg K "rank_of" zhR_
 u13:Fg K "sign_at" ziw_
 u14:Fg K "ranks_at" zf7_
 u15:Fg K "put_in_order" zai_
 u16:Fg K "columns_of" zen_
 u17:Fg K "comes_ahead" zdQ_
 u18:Fg K "out_at" zkf_
 u19:Fg K "check_order" zdg_
 u20:Fg K "part_of" zia_
 u21:Fg K "first_cards" zdy_
 u22:Fg K "parts_in" zg6_
 u23:Fg K "with_parts" zed_
 u24:Fg K "without_parts" zcn_
 u25:Fg K "middle_deck" zdM_
 u26:Fg K "key_columns" zdH_
 u27:Fg K "worked_card" zdI_
 u28:Fg K "chosen_deck" zdL_
 u29:Fg K "own_list" zgC_
 u30:Fg K "ask_for" ziO_
 u31:Fg K "check_lengths" zcq_
 u32:Fg K "check_middle_word" zbh_
 u33:Fg K "is_name" zic_
 u34:Fg K "check_names" zdJ_
 u35:Fg K "fields_due" zeA_
 u36:Fg K "is_whole" zg9_
 u37:Fg K "is_field" zgZ_
 u38:Fg K "picked_signs" zcU_
 u39:Fg K "pick_passes" zdO_
 u40:Fg K "check_picks" zdm_
 u41:Fg K "width_of" zhu_
 u42:Fg K "check_middle_widths" zaM_
 u43:Fg K "make_board" zd8_
 u44:Fg K "is_board" zgt_
 u45:Fg K "check_counting" zbS_
 u46:Fg K "check_works" zdA_
 u47:Fg K "check_asking" zc5_
 u48:Fg K "_law_part" zfz_
 u49:Fg K "_law_ordered" zc9_
 u50:Fg K "_law_kept" zfk_
 u51:Fg K "law" s_law
 u52:FmD K "Asking" "__init__" "Asking.__init__" zan_ [.non,(.int 0),.non,(.int 6),.non]
 u53:Fc K "Asking"
 u54:Fa K "Asking" "board"
 u55:Fa K "Asking" "breaks"
 u56:Fa K "Asking" "deck"
 u57:Fa K "Asking" "figures"
 u58:Fa K "Asking" "middle"
 u59:Fa K "Asking" "order"
 u60:Fa K "Asking" "picks"
 u61:Fa K "Asking" "sums"
 u62:Fa K "Asking" "works"
 u63:L2.Fl K (lamPos zai_)
 u64:Fb K "all"
 u65:Fb K "bool"
 u66:Fb K "enumerate"
 u67:Fb K "int"
 u68:Fb K "isinstance"
 u69:Fb K "len"
 u70:Fb K "list"
 u71:Fb K "min"
 u72:Fb K "range"
 u73:Fb K "sorted"
 u74:Fb K "str"
 u75:Fb K "zip"
 u76:Fv K "BODY_WIDTH" (.int 36)
 u77:Fv K "LONGEST_NAME" (.int 8)
 u78:Fv K "MOST_BREAKS" (.int 3)
 u79:Fv K "MOST_FIGURES" (.int 12)
 u80:Fv K "MOST_KEYS" (.int 6)
 u81:Fv K "MOST_PICKS" (.int 8)
 u82:Fv K "MOST_SUMS" (.int 4)
 u83:Fv K "MOST_WORKS" (.int 4)
 u84:Fv K "SIGNS" (tx Qm0)
 u85:Fv K "SMALL_LETTERS" (tx Qm1)
 u86:Fk K "MATING_WORDS"
 u87:FtT K "MATING_WORDS" [[109,97,116,101,115],[119,105,116,104,111,117,116]]
structure En (K:Fgg)(mg:Str->Option aU):Prop extends Ek K where
 m:Mgo K mg
def ft:Ft:={bs:=["all", "bool", "enumerate", "int", "isinstance", "len", "list", "min", "range", "sorted", "str", "zip"],at_:=["board", "breaks", "deck", "figures", "middle", "order", "picks", "sums", "works"],gc:=[("BODY_WIDTH",(.int 36)),("LONGEST_NAME",(.int 8)),("MOST_BREAKS",(.int 3)),("MOST_FIGURES",(.int 12)),("MOST_KEYS",(.int 6)),("MOST_PICKS",(.int 8)),("MOST_SUMS",(.int 4)),("MOST_WORKS",(.int 4)),("SIGNS",(tx Qm0)),("SMALL_LETTERS",(tx Qm1))]}
theorem gok {K:Fgg}(e:Ek K):gi.Ok K:=⟨by decide,(zf_ (ftt_u e.u87) zet_)⟩
theorem fo {K:Fgg}{mg:Str->Option aU}(e:En K mg):ft.Ok gi K mg:=⟨(zf_ (e.m.gb e.u64) (zf_ (e.m.gb e.u65) (zf_ (e.m.gb e.u66) (zf_ (e.m.gb e.u67) (zf_ (e.m.gb e.u68) (zf_ (e.m.gb e.u69) (zf_ (e.m.gb e.u70) (zf_ (e.m.gb e.u71) (zf_ (e.m.gb e.u72) (zf_ (e.m.gb e.u73) (zf_ (e.m.gb e.u74) (zf_ (e.m.gb e.u75) zet_)))))))))))),(zf_ e.u53.cls zet_),(zf_ (zf_ e.u54.no (zf_ e.u55.no (zf_ e.u56.no (zf_ e.u57.no (zf_ e.u58.no (zf_ e.u59.no (zf_ e.u60.no (zf_ e.u61.no (zf_ e.u62.no zet_))))))))) zet_),(zf_ (e.m.gv e.u76) (zf_ (e.m.gv e.u77) (zf_ (e.m.gv e.u78) (zf_ (e.m.gv e.u79) (zf_ (e.m.gv e.u80) (zf_ (e.m.gv e.u81) (zf_ (e.m.gv e.u82) (zf_ (e.m.gv e.u83) (zf_ (e.m.gv e.u84) (zf_ (e.m.gv e.u85) zet_)))))))))),(zf_ (e.m.gkc e.u86) zet_)⟩
section
variable {P:lF}{w:lW}{K:Fgg}{mg:Str->Option aU}{base:Heap}
theorem g0 (e:En K mg):GG P w K mg base 1 "_law_cell" ["_law_script", "_law_k"] z9_:=zI_ e.m e.u0 (okW (N:=["_law_script", "_law_k", "_law_number"]) (body:=z8_) (n:=2) (m:=1) (gok e.toEk) (fo e) trivial)
theorem g1 (e:En K mg):GG P w K mg base 1 "_law_signs" ["_law_cell_here"] za3_:=zI_ e.m e.u1 (okW (N:=["_law_cell_here", "_law_some", "_law_one", "_law_two"]) (body:=zaR_) (n:=1) (m:=3) (gok e.toEk) (fo e) trivial)
theorem g2 (e:En K mg):GG P w K mg base 1 "_law_names" ["_law_cell_here"] zaX_:=zI_ e.m e.u2 (okW (N:=["_law_cell_here", "_law_letters", "_law_one", "_law_at", "_law_two"]) (body:=zak_) (n:=1) (m:=4) (gok e.toEk) (fo e) trivial)
theorem g3 (e:En K mg):GG P w K mg base 1 "_law_field" ["_law_cell_here", "_law_base"] zaT_:=zI_ e.m e.u3 (okW (N:=["_law_cell_here", "_law_base", "_law_low"]) (body:=za1_) (n:=2) (m:=1) (gok e.toEk) (fo e) trivial)
theorem g4 (e:En K mg):GG P w K mg base 1 "_law_card" ["_law_cell_here", "_law_base", "_law_signs_here", "_law_k"] zB_:=zI_ e.m e.u4 (okW (N:=["_law_cell_here", "_law_base", "_law_signs_here", "_law_k", "_law_some", "_law_row", "_law_j"]) (body:=z6_) (n:=4) (m:=3) (gok e.toEk) (fo e) trivial)
theorem g5 (e:En K mg):GG P w K mg base 1 "_law_other" ["_law_cell_here", "_law_field_here", "_law_signs_here", "_law_k"] zw_:=zI_ e.m e.u5 (okW (N:=["_law_cell_here", "_law_field_here", "_law_signs_here", "_law_k", "_law_text", "_law_j"]) (body:=zN_) (n:=4) (m:=2) (gok e.toEk) (fo e) trivial)
theorem g6 (e:En K mg):GG P w K mg base 1 "mates_by" Qn1 zb0_:=zI_ e.m e.u6 (okW (N:=Qn1) (body:=zdK_) (n:=1) (m:=0) (gok e.toEk) (fo e) trivial)
theorem g7 (e:En K mg):GG P w K mg base 2 "names_of" Qn1 z4_:=zI_ e.m e.u7 (okW (N:=Qn1) (body:=zdw_) (n:=1) (m:=0) (gok e.toEk) (fo e) ⟨fkc (g6 e),trivial⟩)
theorem g8 (e:En K mg):GG P w K mg base 3 "check_trays" ["asking", "trays"] zR_:=zI_ e.m e.u8 (okW (N:=["asking", "trays", "name"]) (body:=zaA_) (n:=2) (m:=1) (gok e.toEk) (fo e) ⟨fkc (g7 e),trivial⟩)
theorem g9 (e:En K mg):GG P w K mg base 1 "picked_deck" ["asking", "deck"] zau_:=zI_ e.m e.u9 (okW (N:=["asking", "deck", "left", "pick"]) (body:=zbG_) (n:=2) (m:=2) (gok e.toEk) (fo e) trivial)
theorem g10 (e:En K mg):GG P w K mg base 2 "middle_fields" Qn1 zk_:=zI_ e.m e.u10 (okW (N:=Qn1) (body:=zaO_) (n:=1) (m:=0) (gok e.toEk) (fo e) ⟨fkc (g6 e),trivial⟩)
theorem g11 (e:En K mg):GG P w K mg base 1 "is_sign" ["text"] zcT_:=zI_ e.m e.u11 (okW (N:=["text"]) (body:=zcW_) (n:=1) (m:=0) (gok e.toEk) (fo e) trivial)
theorem g12 (e:En K mg):GG P w K mg base 2 "rank_of" ["sign"] zcL_:=zI_ e.m e.u12 (okW (N:=["sign"]) (body:=zcR_) (n:=1) (m:=0) (gok e.toEk) (fo e) ⟨fkc (g11 e),trivial⟩)
theorem g13 (e:En K mg):GG P w K mg base 1 "sign_at" ["card", "column"] zcO_:=zI_ e.m e.u13 (okW (N:=["card", "column"]) (body:=zcY_) (n:=2) (m:=0) (gok e.toEk) (fo e) trivial)
theorem g14 (e:En K mg):GG P w K mg base 3 "ranks_at" ["card", "columns"] z2_:=zI_ e.m e.u14 (okW (N:=["card", "columns"]) (body:=zbe_) (n:=2) (m:=0) (gok e.toEk) (fo e) ⟨fkc (g12 e),fkc (g13 e),trivial⟩)
theorem g15 (e:En K mg):GG P w K mg base 5 "put_in_order" ["deck", "columns"] zt_:=zqs_ (st:=zai_) (N:=["deck", "columns"]) (n:=2) (m:=0) (p:="card") (fr:=[("columns",1)]) (i:=0) e.m e.u15 e.u63 (gok e.toEk) (fo e) ⟨fkc (g14 e),trivial⟩
theorem g16 (e:En K mg):GG P w K mg base 1 "columns_of" ["field"] zx_:=zI_ e.m e.u16 (okW (N:=["field"]) (body:=zaU_) (n:=1) (m:=0) (gok e.toEk) (fo e) trivial)
theorem g17 (e:En K mg):GG P w K mg base 4 "comes_ahead" ["card", "other", "columns"] zaD_:=zI_ e.m e.u17 (okW (N:=["card", "other", "columns"]) (body:=zaC_) (n:=3) (m:=0) (gok e.toEk) (fo e) ⟨fkc (g14 e),fkc (g14 e),trivial⟩)
theorem g18 (e:En K mg):GG P w K mg base 5 "out_at" ["deck", "columns"] zd3_:=zI_ e.m e.u18 (okW (N:=["deck", "columns", "place"]) (body:=zeh_) (n:=2) (m:=1) (gok e.toEk) (fo e) ⟨fkc (g17 e),trivial⟩)
theorem g19 (e:En K mg):GG P w K mg base 6 "check_order" ["deck", "field", "number"] zat_:=zI_ e.m e.u19 (okW (N:=["deck", "field", "number", "place"]) (body:=zaq_) (n:=3) (m:=1) (gok e.toEk) (fo e) ⟨fkc (g18 e),fkc (g16 e),trivial⟩)
theorem g20 (e:En K mg):GG P w K mg base 1 "part_of" ["card", "field"] zc8_:=zI_ e.m e.u20 (okW (N:=["card", "field"]) (body:=zcI_) (n:=2) (m:=0) (gok e.toEk) (fo e) trivial)
theorem g21 (e:En K mg):GG P w K mg base 7 "first_cards" ["deck", "field"] zQ_:=zI_ e.m e.u21 (okW (N:=["deck", "field", "firsts", "others", "seen", "card", "part"]) (body:=zG_) (n:=2) (m:=5) (gok e.toEk) (fo e) ⟨fkc (g19 e),fkc (g20 e),trivial⟩)
theorem g22 (e:En K mg):GG P w K mg base 2 "parts_in" ["deck", "field"] za5_:=zI_ e.m e.u22 (okW (N:=["deck", "field", "parts", "card"]) (body:=zaz_) (n:=2) (m:=2) (gok e.toEk) (fo e) ⟨fkc (g20 e),trivial⟩)
theorem g23 (e:En K mg):GG P w K mg base 2 "with_parts" ["deck", "field", "parts"] za0_:=zI_ e.m e.u23 (okW (N:=["deck", "field", "parts"]) (body:=za2_) (n:=3) (m:=0) (gok e.toEk) (fo e) ⟨fkc (g20 e),trivial⟩)
theorem g24 (e:En K mg):GG P w K mg base 2 "without_parts" ["deck", "field", "parts"] zU_:=zI_ e.m e.u24 (okW (N:=["deck", "field", "parts"]) (body:=zX_) (n:=3) (m:=0) (gok e.toEk) (fo e) ⟨fkc (g20 e),trivial⟩)
theorem g25 (e:En K mg):GG P w K mg base 8 "middle_deck" ["asking", "deck", "trays"] zF_:=zI_ e.m e.u25 (okW (N:=["asking", "deck", "trays", "fields", "ordered", "parts"]) (body:=zO_) (n:=3) (m:=3) (gok e.toEk) (fo e) ⟨fkc (g10 e),fkc (g15 e),fkc (g16 e),fkc (g21 e),fkc (g22 e),fkc (g23 e),fkc (g24 e),trivial⟩)
theorem g26 (e:En K mg):GG P w K mg base 1 "key_columns" Qn1 zay_:=zI_ e.m e.u26 (okW (N:=["asking", "columns", "key"]) (body:=zbB_) (n:=1) (m:=2) (gok e.toEk) (fo e) trivial)
theorem g27 (e:En K mg):GG P w K mg base 1 "worked_card" ["asking", "card"] zav_:=zI_ e.m e.u27 (okW (N:=["asking", "card", "worked", "work"]) (body:=zbF_) (n:=2) (m:=2) (gok e.toEk) (fo e) trivial)
theorem g28 (e:En K mg):GG P w K mg base 9 "chosen_deck" ["asking", "trays"] zT_:=zI_ e.m e.u28 (okW (N:=["asking", "trays", "deck"]) (body:=zax_) (n:=2) (m:=1) (gok e.toEk) (fo e) ⟨fkc (g8 e),fkc (g9 e),fkc (g25 e),fkc (g15 e),fkc (g26 e),fkc (g27 e),trivial⟩)
theorem g29 (e:En K mg):GG P w K mg base 1 "own_list" ["values"] zca_:=zI_ e.m e.u29 (okW (N:=["values"]) (body:=zdx_) (n:=1) (m:=0) (gok e.toEk) (fo e) trivial)
theorem g30 (e:En K mg):GG P w K mg base 1 "ask_for" ["holds", "words"] zcP_:=zI_ e.m e.u30 (okW (N:=["holds", "words"]) (body:=zeG_) (n:=2) (m:=0) (gok e.toEk) (fo e) trivial)
theorem g31 (e:En K mg):GG P w K mg base 2 "check_lengths" Qn1 zE_:=zI_ e.m e.u31 (okW (N:=Qn1) (body:=zD_) (n:=1) (m:=0) (gok e.toEk) (fo e) ⟨fkc (g30 e),fkc (g30 e),fkc (g30 e),fkc (g30 e),trivial⟩)
theorem g32 (e:En K mg):GG P w K mg base 2 "check_middle_word" Qn1 zz_:=zI_ e.m e.u32 (okW (N:=["asking", "many"]) (body:=zP_) (n:=1) (m:=1) (gok e.toEk) (fo e) ⟨fkc (g30 e),fkc (g6 e),fkc (g30 e),fkc (g6 e),trivial⟩)
theorem g33 (e:En K mg):GG P w K mg base 1 "is_name" ["text"] zda_:=zI_ e.m e.u33 (okW (N:=["text"]) (body:=zcC_) (n:=1) (m:=0) (gok e.toEk) (fo e) trivial)
theorem g34 (e:En K mg):GG P w K mg base 3 "check_names" Qn1 zS_:=zI_ e.m e.u34 (okW (N:=["asking", "names", "name"]) (body:=zar_) (n:=1) (m:=2) (gok e.toEk) (fo e) ⟨fkc (g7 e),fkc (g30 e),fkc (g33 e),fkc (g30 e),trivial⟩)
theorem g35 (e:En K mg):GG P w K mg base 3 "fields_due" Qn1 zaV_:=zI_ e.m e.u35 (okW (N:=["asking", "fields", "work"]) (body:=zaQ_) (n:=1) (m:=2) (gok e.toEk) (fo e) ⟨fkc (g10 e),trivial⟩)
theorem g36 (e:En K mg):GG P w K mg base 1 "is_whole" ["value"] zcg_:=zI_ e.m e.u36 (okW (N:=["value"]) (body:=zdu_) (n:=1) (m:=0) (gok e.toEk) (fo e) trivial)
theorem g37 (e:En K mg):GG P w K mg base 2 "is_field" ["first", "last"] zbV_:=zI_ e.m e.u37 (okW (N:=["first", "last"]) (body:=zcc_) (n:=2) (m:=0) (gok e.toEk) (fo e) ⟨fkc (g36 e),fkc (g36 e),trivial⟩)
theorem g38 (e:En K mg):GG P w K mg base 1 "picked_signs" ["row"] zba_:=zI_ e.m e.u38 (okW (N:=["row", "signs", "step"]) (body:=za7_) (n:=1) (m:=2) (gok e.toEk) (fo e) trivial)
theorem g39 (e:En K mg):GG P w K mg base 1 "pick_passes" Qn1 zbE_:=zI_ e.m e.u39 (okW (N:=["asking", "row", "pick"]) (body:=zbJ_) (n:=1) (m:=2) (gok e.toEk) (fo e) trivial)
theorem g40 (e:En K mg):GG P w K mg base 2 "check_picks" Qn1 zaE_:=zI_ e.m e.u40 (okW (N:=["asking", "pick"]) (body:=zbI_) (n:=1) (m:=1) (gok e.toEk) (fo e) ⟨fkc (g30 e),fkc (g38 e),fkc (g39 e),trivial⟩)
theorem g41 (e:En K mg):GG P w K mg base 1 "width_of" ["field"] zbp_:=zI_ e.m e.u41 (okW (N:=["field"]) (body:=zdv_) (n:=1) (m:=0) (gok e.toEk) (fo e) trivial)
theorem g42 (e:En K mg):GG P w K mg base 3 "check_middle_widths" Qn1 zm_:=zI_ e.m e.u42 (okW (N:=["asking", "fields"]) (body:=zu_) (n:=1) (m:=1) (gok e.toEk) (fo e) ⟨fkc (g10 e),fkc (g30 e),fkc (g41 e),fkc (g41 e),trivial⟩)
theorem g43 (e:En K mg):GG P w K mg base 1 "make_board" ["wires"] za4_:=zI_ e.m e.u43 (okW (N:=["wires", "wire", "leading"]) (body:=zaY_) (n:=1) (m:=2) (gok e.toEk) (fo e) trivial)
theorem g44 (e:En K mg):GG P w K mg base 2 "is_board" ["wires"] zck_:=zI_ e.m e.u44 (okW (N:=["wires", "board"]) (body:=zbX_) (n:=1) (m:=1) (gok e.toEk) (fo e) ⟨fkc (g43 e),trivial⟩)
theorem g45 (e:En K mg):GG P w K mg base 3 "check_counting" Qn1 zL_:=zI_ e.m e.u45 (okW (N:=Qn1) (body:=zK_) (n:=1) (m:=0) (gok e.toEk) (fo e) ⟨fkc (g30 e),fkc (g36 e),fkc (g30 e),fkc (g30 e),fkc (g36 e),fkc (g30 e),fkc (g44 e),trivial⟩)
theorem g46 (e:En K mg):GG P w K mg base 1 "check_works" Qn1 zaB_:=zI_ e.m e.u46 (okW (N:=["asking", "place", "work", "field"]) (body:=zbK_) (n:=1) (m:=3) (gok e.toEk) (fo e) trivial)
theorem g47 (e:En K mg):GG P w K mg base 4 "check_asking" Qn1 zah_:=zI_ e.m e.u47 (okW (N:=["asking", "field"]) (body:=zad_) (n:=1) (m:=1) (gok e.toEk) (fo e) ⟨fkc (g31 e),fkc (g32 e),fkc (g34 e),fkc (g35 e),fkc (g30 e),fkc (g37 e),fkc (g40 e),fkc (g42 e),fkc (g45 e),fkc (g46 e),trivial⟩)
theorem g48 (e:En K mg):GkD P w K mg base CX0 5 "Asking" (gA K "Asking") Qn0 ((flats [.non,(.int 0),.non,(.int 6),.non]).getD []) (CtG K zi_):=show GkD P w K mg base CX0 5 "Asking" (gA K "Asking") Qn0 ([.non,(.int 0),.non,(.int 6),.non].drop 0) (CtG K zi_)from zpJ_ 0 e.m e.u53 e.u52 (λT f fd arr n oc od aq F lT hl=>bnd5 rfl F lT hl λd0 d1 d2 d3 d4 kV doc pm an ae ct u0 u1 u2 u3 u4 s ⟨o,ho,hd⟩=>BindsTo.of_defaults rfl ho hd rfl rfl) (okVD (k:=4) (ps:=Qn0) (st:=zan_) (N:=Qn0) (body:=zo_) (n:=10) (m:=0) (gok e.toEk) (fo e) ⟨fkc (g29 e),fkc (g29 e),fkc (g29 e),fkc (g47 e),trivial⟩ (by decide +kernel) ⟨rfl,rfl,rfl,by decide +kernel,rfl,by decide +kernel,by decide +kernel⟩ rfl rfl)
theorem g49 (e:En K mg):GG P w K mg base 1 "_law_part" ["_law_card_here", "_law_field_here"] zbz_:=zI_ e.m e.u48 (okW (N:=["_law_card_here", "_law_field_here"]) (body:=zbt_) (n:=2) (m:=0) (gok e.toEk) (fo e) trivial)
theorem g50 (e:En K mg):GG P w K mg base 2 "_law_ordered" ["_law_found", "_law_kept_here", "_law_field_here"] zae_:=zI_ e.m e.u49 (okW (N:=["_law_found", "_law_kept_here", "_law_field_here", "_law_card_here", "_law_one", "_law_two", "_law_here", "_law_there"]) (body:=zag_) (n:=3) (m:=5) (gok e.toEk) (fo e) ⟨fkc (g49 e),fkc (g49 e),trivial⟩)
theorem g51 (e:En K mg):GG P w K mg base 2 "_law_kept" ["_law_deck", "_law_middle", "_law_field_here", "_law_other_here"] z7_:=zI_ e.m e.u50 (okW (N:=["_law_deck", "_law_middle", "_law_field_here", "_law_other_here", "_law_parts", "_law_known"]) (body:=zaG_) (n:=4) (m:=2) (gok e.toEk) (fo e) ⟨fkc (g49 e),fkc (g49 e),trivial⟩)
theorem g52 (e:En K mg):OkF P w K mg base CX0 10 "law" "law" s_law ["_law_script"] (CtG K f_law):=okW (N:=["_law_script", "_law_base", "_law_signs_here", "_law_names_here", "_law_field_here", "_law_wide", "_law_low", "_law_way", "_law_middle", "_law_deck", "_law_some", "_law_other_here", "_law_trays", "_law_found"]) (body:=zlK_) (n:=1) (m:=13) (gok e.toEk) (fo e) ⟨fkc (g0 e),fkc (g1 e),fkc (g0 e),fkc (g2 e),fkc (g0 e),fkc (g3 e),fkc (g0 e),fkc (g0 e),fkc (g0 e),fkc (g4 e),fkc (g0 e),fkc (g5 e),fkc (g28 e),fkd (g48 e),fkc (g50 e),fkc (g51 e),trivial⟩
end
theorem all_mk {l:tj}{w:lW}{K:Fgg}{h:Heap}{mg:Str->Option aU}{fa:kz}(X:K.In h)(G:h.Ns lh mg)(gF:mg "law"=uC (.ref fa))(k:Ek K):
  ∃fd:mz,(∀(s:kn) (v:aU),BindsTo s fd ⟨[v],[]⟩ [("_law_script",v)])/\∀base:Heap,K.In base->base.Ns lh mg->FnOk l.prog w K mg base CX0 10 fa fd ["_law_script"] (spL K):=by
 have e:En K mg:=⟨k,_,X,G⟩;refine okLaw e.m e.u51 gF (λ_ _ _ _ _ _ _ _=>rfl) λbase f fd F=>?_
 exact okLV (g52 (P:=l.prog) (w:=w) (base:=base) e f fd F).1 zks_
theorem walk {l:tj}{q:lF}{loose:List Str}{XP:(Str->Option aU)->Heap->Prop}{YP:lW->Heap->Prop}{d:DefRec}{K:Params->Fgg}(hn:l.most=uC 63)(eJ:d.params.defaults=[])(bU:∀p,L2.lamOk q (K p)=uE)
  (hY:∀(w:lW) (h:Heap),YP w h->(K w.params).In h)
  (F:∀(w:lW) (mg:Str->Option aU) (fa:kz) (h:Heap),(K w.params).In h->h.Ns lh mg->mg d.name=uC (.ref fa) ->
   ∃fd:mz,(∀(s:kn) (u:aU),BindsTo s fd ⟨[u],[]⟩ [("_law_script",u)])/\∀base:Heap,(K w.params).In base->base.Ns lh mg->FnOk l.prog w (K w.params) mg base CX0 10 fa fd ["_law_script"] (spL (K w.params))):
  W.WalkO q loose XP YP l.row.toRowW d [] (λf vs=>sG f vs):=
 L2.zll_ (n:=63) (k:=10) (x:="_law_script") (CX:=λ_=>CX0) (sp:=λw=>spL (K w.params)) hn (by decide) eJ ⟨rfl,by decide,by decide⟩ bU hY F (λ_ _ a ns hl hb _ hS=>⟨a,ns,rfl,hS,hl,hb,λ_=>rfl⟩) λ_ _ _ _ _ z=>z
end K49
open PySem PySem.W PyProof.Rows
set_option maxRecDepth 100000 in
set_option maxHeartbeats 0 in
theorem PySem.Challenge.cw_cardshop_k49_by_the_middle_holds : PySem.Challenge.rw_cardshop_k49_by_the_middle.Holds := by
 w_on;o_law;k_head;(case hw=>w_witness2)
 k_fill
 refine K49.walk (l:=PySem.Challenge.rw_cardshop_k49_by_the_middle) rfl rfl ?L (λw h Y=>W.km_in_of Y) ?F
 case L=>intro p;kernel_rfl!
 case F=>
  intro w mg fa h KX G d8;refine K49.all_mk KX G d8 ?_;constructor
  all_goals first |(refine' L2.Fl.mk_ ?x0 ?x1 ?x2 ?x3 ?x4 ?x5 ?x6 ?x7 ?x8;(case x0=>k_is);(case x1=>k_is);(case x2=>rfl);(case x3=>k_is);(case x4=>rfl);(case x5=>rfl);(case x6=>rfl);(case x7=>rfl);(case x8=>rfl))|(refine' L2.FmD.mk_ ?x0 ?x1 ?x2 ?x3 ?x4 ?x5 ?x6 ?x7;(case x0=>k_is);(case x1=>k_is);(case x2=>k_is);(case x3=>k_is);(case x4=>k_is);(case x5=>k_is);(case x6=>k_is);(case x7=>(show _=_;kernel_rfl!)))|(refine' L2.Fg.mk_ ?x0 ?x1 ?x2 ?x3;(case x0=>k_is);(case x1=>k_is);(case x2=>k_is);(case x3=>k_is))|(refine' L2.Fm.mk_ ?x0 ?x1 ?x2 ?x3 ?x4 ?x5;(case x0=>k_is);(case x1=>k_is);(case x2=>k_is);(case x3=>k_is);(case x4=>k_is);(case x5=>k_is))|(refine' L2.Fc.mk_ ?x0 ?x1 ?x2 ?x3 ?x4 ?x5 ?x6;(case x0=>k_is);(case x1=>k_is);(case x2=>k_is);(case x3=>k_is);(case x4=>k_is);(case x5=>k_is);(case x6=>k_is))|(refine' L2.Fa.mk_ ?x0 ?x1;(case x0=>k_is);(case x1=>k_is))|(delta L2.Fb;k_is)|(refine' L2.Fv.mk_ ?x0 ?x1;(case x0=>k_is);(case x1=>first |exact⟨_,rfl⟩|rfl))|(refine' L2.Fk.mk_ ?x0;(case x0=>k_is))|(refine' L2.Fe1.mk_ ?x0 ?x1;(case x0=>k_is);(case x1=>(show _=_;kernel_rfl!)))|(refine' L2.FtT.mk_ ?x0 ?x1 ?x2 ?x3;(case x0=>k_is);(case x1=>k_is);(case x2=>(show _=_;kernel_rfl!));(case x3=>decide))
#print axioms PySem.Challenge.cw_cardshop_k49_by_the_middle_holds
