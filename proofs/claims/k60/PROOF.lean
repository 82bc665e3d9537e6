import PyProof.Rows.All
import Wide.All
import OpenK.AllK
import Wide.FinOn
import Lean
import PyProof.EqAt
import PyProof.EqKinds
import PyProof.TupleCall
import PyProof.StrLawsRepr
import PyProof.NeKinds
import KE.KTryMore
import PyProof.Rows.TupIter
import PyProof.InstStoreFacts
import PyProof.ExcInit
import KE.KEqDict
import KE.KDictOf
import KE.KPairComp
import PySem.Challenge.RW_cardshop_k60_a_clerk_steps
set_option Elab.async false
set_option compiler.extract_closed false
set_option linter.all false
set_option maxRecDepth 100000
set_option maxHeartbeats 4000000
namespace PySem.W.Fast
def tw13568477858700464676:=()
def tw12103571348551000018:=()
def tw10851629232551305222:=()
def tw10657519515915275596:=()
def tw8613697299659409761:=()
def tw18175786205816997629:=()
def tw8449779343660205540:=()
def tw8668141191139905774:=()
def tw1893830571696199892:=()
def tw784987988306643198:=()
def tw11449737456743142033:=()
def tw15319346835965034379:=()
def tw1840370980852817991:=()
def tw4188817413180328801:=()
def tw14775136823074228824:=()
def tw13927112527964748654:=()
def tw12538181473126711059:=()
def tw8708685584031922816:=()
def tw14809377929769971753:=()
def tw6064513545789961468:=()
def tw13312233887827341695:=()
def tw17581578799581735787:=()
def tw1725213070066070953:=()
def tw10030080882974256668:=()
def tw16189793147879521021:=()
def tw4832515113451048865:=()
def tw4990519592738762149:=()
def tw1170270678271483789:=()
def tw5291443396793758763:=()
def tw16473644023733715428:=()
def tw8230869372687206301:=()
def tw5621574851129099523:=()
def tw10234143420141076786:=()
def tw1820139620799815056:=()
def tw8476938620279282966:=()
def tw549962288246558194:=()
def tw2099742770565336884:=()
def tw9493664358758927478:=()
def tw2970425409939018804:=()
def tw2956520601965852144:=()
def tw9771229314076769882:=()
def tw16646134642639532775:=()
def tw5104168777354153071:=()
def tw11635297460250080702:=()
def tw2077753464036300136:=()
def tw7407838739991427362:=()
def tw11638946428446248536:=()
def tw14923337781547410388:=()
def tw12246925432943601310:=()
def tw4328599035335479079:=()
def tw4323654819795826846:=()
def tw2697525618307312840:=()
def tw11995121092828287058:=()
def tw270168541632076756:=()
def tw16008618884362512252:=()
def tw2185927145100838456:=()
def tw9868236567054282158:=()
def tw11649315010819928810:=()
def tw13620191833135214506:=()
def tw11885308776915348898:=()
def tw15716406523317390323:=()
def tw12537025072198700936:=()
def tw4364310423125503630:=()
def tw18410504645131951720:=()
def tw13944519702397847104:=()
def tw3092415282785174078:=()
def tw13695988087035104897:=()
def tw8632103348802386246:=()
def tw6611837756710944626:=()
def tw15714465336189137423:=()
def tw6333262666507148105:=()
def tw3509243392910292952:=()
def tw17918476920864533962:=()
def tw6052303908180309041:=()
def tw11964212860058935467:=()
def tw15417872064036845415:=()
def tw16581822785609655077:=()
def tw4249099383899558742:=()
def tw13311874134480102556:=()
def tw13940961451296128737:=()
def tw1100221660963260394:=()
def tw10693749398227943447:=()
def tw13754082560223078028:=()
def tw516595353801947388:=()
def tw12832297798299082190:=()
def tw13767608174914618124:=()
def tw10406863135813754357:=()
def tw2506866167552001796:=()
def tw17735839860938618317:=()
def tw4114648385293297380:=()
def tw3587298823059555734:=()
def tw12744444872560356579:=()
def tw6315412310770757307:=()
def tw9445539022555550973:=()
def tw3055646057983135677:=()
def tw4573703920603578097:=()
def tw10741581906435718575:=()
def tw2638853038601035657:=()
def tw16247568123687279066:=()
def tw6135051584217361540:=()
def tw13755769312266919428:=()
def tw10567399723117892306:=()
def tw10633767434024186650:=()
def tw624307103398330280:=()
def tw422048867438812234:=()
def tw1103654861821809927:=()
def tw8788490902021404113:=()
def tw2608699957813117859:=()
def tw16025169046521239698:=()
def tw17383237014963319606:=()
def tw18218395860167408959:=()
def tw15294371132423159989:=()
def tw5541263885131111217:=()
def tw8779093356054693115:=()
def tw9818975316006312316:=()
def tw13234327730966116643:=()
def tw6723703669411002141:=()
def tw5098646069041653623:=()
def tw1001990088829529462:=()
def tw12494279588956764648:=()
def tw11841710324092944378:=()
def tw13542623837392161803:=()
def tw7029251592671975194:=()
def tw11322783331483688324:=()
def tw2958330261039678501:=()
def tw5750063872116927377:=()
def tw10759835442933027243:=()
def tw373509100302575767:=()
def tw8878362548475106389:=()
def tw4674849470992519880:=()
def tw5391290996873381582:=()
def tw14250716105651068072:=()
def tw9309473719967199067:=()
def tw14586201820200167528:=()
def tw16118062192580703336:=()
def tw7891532109679913517:=()
def tw17919579124757455294:=()
def tw8352054007603900465:=()
def tw6646852090856989571:=()
def tw592764810657874202:=()
def tw18212129213529704649:=()
def tw11836619820279251745:=()
def tw2142480411021411911:=()
def tw11677589473908189175:=()
def tw1129808323998993386:=()
def tw12595894698772554287:=()
def tw18417350418541125298:=()
def tw18180667618760457360:=()
def tw4647953033244886253:=()
def tw532815692779405983:=()
def tw4587169135259380865:=()
def tw1742164926927532087:=()
def tw17938701710254379971:=()
def tw7165754019969671058:=()
def tw12285199663866325262:=()
def tw5231657956637292696:=()
def tw6544739779542087551:=()
def tw13586130510795118967:=()
def tw9168128087119419912:=()
def tw9751658218072291228:=()
def tw8075988666836102494:=()
def tw17340656650322357404:=()
def tw8858962689508409829:=()
def tw6905645148207107441:=()
def tw4586175096590947643:=()
def tw7066042318337562320:=()
def tw8878362797326226510:=()
def tw7325143419615332597:=()
def tw1343511797471532142:=()
def tw16556883253070284744:=()
def tw12192426046196522833:=()
def tw303390467042989912:=()
def tw5310798981827582055:=()
def tw6275105233159573230:=()
def tw4172929919436971808:=()
def tw17062857869553781025:=()
def tw4707416692545564033:=()
def tw15444401232391942170:=()
def tw13401443156360394427:=()
def tw3841845581253897274:=()
def tw3603776798481565468:=()
def tw955427689318759147:=()
def tw8258510813293748544:=()
def tw17764103976202070482:=()
def tw715279551576590938:=()
def tw3991813250457674136:=()
def tw18201665768881348769:=()
def tw2585257264788845644:=()
def tw13833048888537104471:=()
def tw15952925833850769608:=()
def tw7317985768012755053:=()
def tw14731859077693478301:=()
def tw16908038610980810801:=()
def tw17573692803209690817:=()
def tw17272241096790968657:=()
def tw158138805974925766:=()
def tw10831442063998708777:=()
def tw18417814822980015444:=()
def tw16525403793837576165:=()
def tw10117786503347047563:=()
def tw12606277516315502783:=()
def tw16419456917303637253:=()
def tw8962974675618436641:=()
def tw14946132141595978449:=()
def tw13257804529297135993:=()
def tw9811372309637606384:=()
def tw5233641502548684045:=()
def tw16916073491189206008:=()
def tw7574001368633331085:=()
def tw11152214496226040698:=()
def tw1816286262781144099:=()
def tw251659749964420406:=()
def tw3941005888806035626:=()
def tw6167326379958929327:=()
def tw3636648999181212946:=()
def tw15168984068017089102:=()
def tw13026318233007248557:=()
def tw10161588087703299366:=()
def tw9154175723266041556:=()
def tw8470395564024974479:=()
def tw13866867007317274790:=()
def tw7876339090134731840:=()
def tw14292648704119353706:=()
def tw7530589423800979787:=()
def tw5864287069999521040:=()
def tw8753357641903204884:=()
def tw8096596460068367153:=()
def tw7153779148592606764:=()
def tw12812624297839000577:=()
def tw3940511071731375315:=()
def tw8733559867290310843:=()
def tw17225258601852912804:=()
def tw10792357464547377744:=()
def tw10917114724229587741:=()
def tw2128165752166872698:=()
def tw1552618761604919144:=()
def tw14347724821508190953:=()
def tw14288859355181780419:=()
def tw9248664907291718504:=()
def tw15515530690915052606:=()
def tw1987065162378178494:=()
def tw10136229970506287267:=()
def tw12874306429997336247:=()
def tw13897922581307759022:=()
def tw4491007106747818445:=()
def tw1250996291947267034:=()
def tw4123442977614773481:=()
def tw17971180347905401259:=()
def tw4380696762720333494:=()
def tw16032813185101604524:=()
def tw3766852700640351694:=()
def tw1762940641777858716:=()
def tw17711656672882813568:=()
def tw15233391837751581938:=()
def tw11602513109053523346:=()
def tw12477796690687395914:=()
def tw1167032909069382969:=()
def tw14873384298907967756:=()
def tw15795300521221999484:=()
def tw14993309816688818694:=()
def tw13434330092447939851:=()
def tw14962924464876275213:=()
def tw8166350861039117902:=()
def tw4068115727758225207:=()
def tw9576780148580129617:=()
def tw6103052262257418297:=()
def tw14279055488435335846:=()
def tw17563847956891818290:=()
def tw2081671195826100847:=()
def tw10745052145383493734:=()
def tw8193547578328873577:=()
def tw8373104987323379212:=()
def tw7803700930260357320:=()
def tw10160532270827218616:=()
def tw10738171559045219522:=()
def tw15865818930976664036:=()
def tw15472427978780617370:=()
def tw3583413698559703546:=()
def tw7904552407450023263:=()
def tw8309089269900741439:=()
def tw16905818080968910265:=()
def tw5575224591958771334:=()
def tw17200412969443458344:=()
def tw6428893959398936217:=()
def tw5666814412178010812:=()
def tw5917647473895368791:=()
def tw4871636592674574455:=()
def tw12105289745665049336:=()
def tw15093828952846869168:=()
def tw3280514362306017126:=()
def tw7582907964491944544:=()
def tw1512171571300475753:=()
def tw17248390331776759211:=()
def tw10286497903436877088:=()
def tw10072812886326124838:=()
def tw383615269556234374:=()
def tw2903773336075834731:=()
def tw2633661849387718338:=()
def tw15557497878056844546:=()
def tw6718404216836277241:=()
def tw12852256925981801186:=()
def tw5060297865189695338:=()
def tw1142029966280127453:=()
def tw11000496745002936206:=()
def tw553695809029668602:=()
def tw993703837301182040:=()
def tw706028004843661240:=()
def tw13212909775149464740:=()
def tw10014492475338215151:=()
def tw2016579904832593047:=()
def tw1630181606432616753:=()
def tw11782778429720604471:=()
def tw11670034256489707631:=()
def tw16233789636895106286:=()
def tw11941960634747673983:=()
def tw4799432506874997082:=()
def tw5129548249747699617:=()
def tw6901123338579483749:=()
def tw15530142705874024650:=()
def tw1499038703309464949:=()
def tw10312307674684876533:=()
def tw5586100663440466399:=()
def tw12751908768441269240:=()
def tw407274983911116177:=()
def tw6337624619281878032:=()
def tw13984876248274173405:=()
def tw12760032715811247411:=()
def tw13081978573382942791:=()
def tw11239632786728330649:=()
def tw3462033292288742568:=()
def tw8125678621457261987:=()
def tw2303205081478752770:=()
def tw4391224592495572832:=()
def tw11066094937232682560:=()
def tw16889689482032351856:=()
def tw11237541751057027794:=()
def tw14642847517471780752:=()
def tw1842602390753457889:=()
def tw16666957483580457013:=()
def tw12229872512423063209:=()
def tw17776871512423571360:=()
def tw4130009271276392718:=()
def tw14958219206035199821:=()
def tw13657876598684313341:=()
def tw1896688527992290696:=()
def tw6707180415756709116:=()
def tw10136481575655525004:=()
def tw14666291431488694708:=()
def tw684180304849074682:=()
def tw7469527803374871512:=()
def tw16118796015161983991:=()
def tw14945151401359427189:=()
def tw11537816655773601143:=()
def tw6881558491493454218:=()
def tw10493913438518160232:=()
def tw12730650342371174851:=()
def tw2193945608691533378:=()
def tw2262380897787845699:=()
def tw4838378934686343549:=()
def tw3017725235297701132:=()
def tw5894003593801687435:=()
def tw13015642909795851128:=()
def tw12395569411545668227:=()
def tw12667724303447102416:=()
def tw14234454411966171304:=()
def tw14046281893840375519:=()
def tw290309474537677654:=()
def tw14662905179383061750:=()
def tw1778661005052553363:=()
def tw8291599868360257261:=()
def tw343748344505334030:=()
def tw12273587049120571594:=()
def tw513590833185788663:=()
def tw5081949309042287335:=()
def tw17979594115872207972:=()
def tw16633803637453225929:=()
def tw9410645578099103355:=()
def tw8536313373864462587:=()
def tw3990932325985099448:=()
def tw15616797432169820445:=()
def tw9578978616184307935:=()
def tw1420551844851536795:=()
def tw3016105971668164456:=()
def tw17990849021029431578:=()
def tw11098083211606837687:=()
def tw1064072414073647535:=()
def tw7526605537556568989:=()
def tw18163340145962052529:=()
def tw3829622265908762093:=()
def tw13562665456815255294:=()
def tw14466971930676397312:=()
def tw13337474881514605177:=()
def tw142999775583152710:=()
def tw9460947672259748740:=()
def tw13424633845928796806:=()
def tw2555808519701141152:=()
def tw7264973606925236604:=()
end PySem.W.Fast
set_option genSizeOf false
set_option genSizeOfSpec false
set_option bootstrap.genMatcherCode false
noncomputable section
open Bool renaming and_eq_true→bR,and_eq_true_iff→jE,false_ne_true→jX,or_eq_true→lK,not_eq_true'→nh,eq_iff_iff→pb,false_or→pD,true→qK,false→qL
open PySem renaming Value→fv,Shared→iM,Addr→iQ,wpAny_bind→iX,sizeLine→iZ,Expr→i4,wpAny_pure→je,mainGlobals→jf,starEach→jo,wpAny→jq,Program→jr,compareOp→jG,World→jH,Stmt→jI,Around→j3,FuncData→kf,wpAny_mono→kr,mem_of_lookup→ku,backTo→kz,assignEach→kE,strIterType→kP,binaryOp→k7,bootBuiltins→k9,keywordEach→lj,wpAny_Call_Name_kw→lA,NameKind→lB,wpAny_passesOwn→lI,wpAny_truthy_bool→lM,backToKw→mi,Within→nK,evalArgs_none→oy,Obj→oN,wpAny_field→o6,call→px
open List renaming length_map→gf,getElem?_eq_getElem→iL,map_cons→iN,size_toArray→iO,length_append→iP,length_cons→iR,getElem?_map→iS,replicate→iT,mem_cons_self→i5,getElem?_eq_some_iff→i6,mem_cons_of_mem→i7,mem_append_right→i8,getElem?_set_ne→ji,zip_cons_cons→jt,mem_cons→ju,range→jw,getElem?_append_right→jy,append_nil→jz,length_range→jC,map_append→jD,replicate_succ→jJ,map_nil→jM,cons_append→jN,length_set→jO,getD_eq_getElem?_getD→jP,replicate_zero→jR,getElem?_append_left→jS,isEmpty_iff→jT,length→jU,mem_map→jV,getElem?_set→jW,all_cons→jY,length_eq_zero_iff→j4,map_map→j5,mem_singleton→j6,nil_append→j7,filter_cons→j9,map_congr_left→ka,getElem?_eq_none→kd,mem_append_left→kg,length_take→ki,mem_of_getElem?→kj,all_eq_true→km,mem_range→ko,getElem?_set_self→kq,find?_cons→kx,filter_append→kF,flatten_cons→kR,getElem?_cons_succ→kX,length_zip→k5,flatten_append→k8,find?_cons_of_neg→lh,length_drop→lp,length_singleton→lC,drop_eq_getElem_cons→lE,getElem?_zip_eq_some→lF,mem_filter→lG,mem_append→lH,nodup_cons→lJ,append_assoc→lL,getElem?_mapIdx→lN,set_set→lO,idxOf_lt_length_iff→lR,set_cons_succ→lX,length_eq_one_iff→lY,of_mem_zip→lZ,foldl_cons→l0,ext_getElem?→l5,lookup_cons→l7,exists_cons_of_length_eq_add_one→ma,mem_or_eq_of_mem_set→me,any_cons→ml,idxOf_cons→mn,pairwise_cons→mq,set_cons_zero→mr,length_mapIdx→mw,lookup→my,eraseIdx_cons_succ→mz,nodup_append→mC,map_id'→mD,getElem_mem→mJ,drop_length→mK,mem_flatten→mL,filterMap_cons→mO,map_set→mW,foldl→mZ,getElem_range→m4,getElem?_eq_none_iff→m5,mem_of_find?_eq_some→m6,not_lt→ni,range'→nj,sum_cons→nu,map_snd_zip→nF,mapIdx_cons→nG,any_eq_true→nH,getElem?_cons_zero→nJ,take_of_length_le→nR,length_nil→nZ,take_append_drop→n5,map_id→oj,range_eq_range'→oq,getElem?_range→oA,mem_filterMap→oK,any_eq_false→oP,mem_range'_1→oQ,getElem_map→oW,not_mem_nil→oX,find?_some→o9,nodup_nil→pz,take_nil→pE,drop_nil→pF,le_trans→pG,set_comm→pH,filter→qz
open PySem.Heap renaming get?_push_of_some→iU,lt_size→i9,get?_push_size→jj,SameBut→mQ,get?_update_other→nQ,size_push→og
open Option renaming map_eq_some_iff→iV,bind_eq_some_iff→iY,isNone_iff_eq_none→ky,isSome_iff_exists→mj,isSome_map→mB,getD_none→oU,none→qt,some→qI,none→qJ
open Nat renaming le_refl→iW,lt_of_lt_of_le→jB,ne_of_lt→jQ,le_trans→kH,zero_le→kJ,lt_succ_self→lU,min_self→l9,lt_irrefl→mh,le_of_ble_eq_true→mG,le_succ→mM,le_of_lt→mP,ne_of_gt→mR,le_of_eq→mS,lt_succ_of_lt→m9,sub_self→nW,add_sub_cancel→oM,le_of_not_lt→oV,mul_comm→pS,lt_trans→pT,zero_add→qa
open PySem.W renaming Frag→jl,Frag→jF,nsIn→lq,findIn→lu,keepIn→lT,emptyDict→lV,kia_one→l4,instObj→mH,plainGet→mX,hasDictIn→m8,codeIn→nz,callWith_K→nM,methodCall_KW→nX,plainOver→n6,specialIn→oh,plainGet_of→oB,callWith_K0→oE,makesIn→oR,cellsFrom_some→oS,methodObj→oZ,mg_of→pf,lookIn→ph,handedIn→pj,takerIn→pI,OpenLaw→pK,readsIn→pP,findCls→pQ,isFn→pR,kitOne→qr
open Option.some renaming inj→jv
open PySem.Value renaming ref→jK,type→l6,str→mx,int→nv,isStrOf_shape→ox,none→oI,bool→oJ,isInt_shape→oO,float→oY,isStrOf→pC,isInt→qo,bytes→qp
open False renaming elim→jL
open Int renaming emod_lt_of_pos→jZ,emod_nonneg→j8,toNat_natCast→kY
open True renaming intro→ke
open PySem.Builtin.Str renaming strSliceIndices→kn,occurrences→kQ,tooLong→oz,glued→qF
open PySem.Str renaming length→kZ,ofString→mU,empty→pJ
open Array renaming length_toList→k6,getElem?_toList→mE,getD_eq_getD_getElem?→mV,toList→nL,toArray_toList→om
open PySem.Builtin.Slice renaming slicePlaces→lD,sliceAdjust→md,sliceApplied→mY,slicePartIndex→o7,sliceFields→pB
open PySem.Builtin.Tuple renaming tupleExact→lP,tupleItemsOf→pk
open PySem.Builtin.List renaming listTooLong→lQ,listExtendWith→pd,listFitsIndex→pA
open PyProof.Rows renaming slot_tuple_getitem→lS,callWith_type1→mT,callWith_builtin1→oT
open PySem.SeqAt renaming RcAt→lW,RcNeAt→l8,ne_of_list_tuple→nT,EqAt→pq
open PySem.Builtin.Int renaming intBits→mf
open PySem.F renaming slot_list_insert→mm,slot_dict_get→mF,args_tuple_add_2→nq,type_list_insert→nr,entry_tuple_add→nA,args_dict_get_3→nB,plainAttrs_dict→nC,plain_list_iadd→nD,slot_dict_items→nE,slot_tuple_add→nN,entry_dict_get→nV,slot_int_rmul→o8
open PySem.Builtin renaming divisionGoesByPylong→mN
open Ne renaming symm→m7
open PySem.StrLaws renaming subAt_one→ng
open PySem.Builtin.Range renaming rangeSize→ny
open PySem.Env renaming kindOf→nI
open PySem.Obj renaming mapSeq→nO
open Nat.succ renaming inj→nS
open PySem.SeqAt.EqAt renaming same→nY,int_str→oG,str_int→oH
open PySem.AutoSeq1 renaming list_insert_list_int_val_1→n4
open Sum renaming inl→ot,inr→ou
open List.cons renaming inj→oF
open PySem.SeqAt.RcNeAt renaming lists_lengths→pv,tuple_none→pL,tuple_bool→pM,none_tuple→pN,bool_tuple→pO,none_none→pU,none_bool→pV,bool_none→pW,bool_bool→pX,list_none→pY,list_bool→pZ,none_list→p4,bool_list→p5,tuple_int→p6,tuple_str→p7,int_tuple→p8,str_tuple→p9,none_int→qb,none_str→qc,bool_int→qd,bool_str→qe,int_none→qf,int_bool→qg,str_none→qh,str_bool→qi,list_int→qj,list_str→qk,int_list→ql,str_list→qm,int_int→qu,int_str→qw,str_int→qx,str_str→qy,tuples→qA,lists→qC
open PySem.Heap.IsSliceOf renaming new→qB
open PySem.Within renaming cons→qE
open List.Pairwise renaming nil→qG
open PySem.Heap.DictOf renaming new→qH
namespace L2
open PySem PySem.Spec PyProof.Rows
theorem sN.{u}{α:Type u}(a:α):qI a≠qJ:=Option.some_ne_none a
noncomputable abbrev Fgg:=jl
noncomputable abbrev Pnn:=List (iQ×oN)
noncomputable abbrev Key:=Sum Int Str
def keyIs:Key->fv->Bool
 |.inl k,v=>qo k v
 |.inr x,v=>pC x v
def keyH (w:jH):Key->Int
 |.inl k=>hashInt k
 |.inr x=>hashStr w x
theorem zF_:∀{k:Key}{v:fv},keyIs k v=qK->(∃i t,k=ot i/\v=nv i t)\/(∃x t,k=ou x/\v=mx x t)
 |.inl i,v,h=>by
  obtain⟨t,e⟩:=oO (k:=i) (v:=v) h;exact .inl ⟨i,t,rfl,e⟩
 |.inr x,v,h=>by
  obtain⟨t,e⟩:=ox (x:=x) (v:=v) h;exact .inr ⟨x,t,rfl,e⟩
theorem zgs_ (i:Int)(t:Tok):keyIs (.inl i) (.int i t)=qK:=by simp[keyIs,qo]
theorem zgb_ (x:Str)(t:Tok):keyIs (.inr x) (.str x t)=qK:=by simp[keyIs,pC]
theorem zpo_ (a b:Int):decide ((ot a:Key)=ot b)=(a == b):=by
 by_cases e:a=b
 ·subst e;simp
 ·have h:¬(ot a:Key)=ot b:=λq=>e (Sum.inl.inj q)
  rw[decide_eq_false h];exact(beq_eq_false_iff_ne.mpr e).symm
theorem zns_ (a b:Str):decide ((ou a:Key)=ou b)=decide (a=b):=by
 by_cases e:a=b
 ·subst e;simp
 ·have h:¬(ou a:Key)=ou b:=λq=>e (Sum.inr.inj q)
  rw[decide_eq_false h,decide_eq_false e]
theorem znm_ (a:Int)(b:Str):decide ((ot a:Key)=ou b)=qL:=decide_eq_false (λq=>nomatch q)
theorem zpg_ (a:Str)(b:Int):decide ((ou a:Key)=ot b)=qL:=decide_eq_false (λq=>nomatch q)
def mixKind (prog:jr)(w:jH):PySem.KeyKind prog w Key where
 is:=keyIs
 hash:=keyH w
 inj:=λv a b ha hb=>by
  rcases zF_ ha with⟨i,t,rfl,rfl⟩|⟨x,t,rfl,rfl⟩
  ·rcases zF_ hb with⟨j,u,rfl,e⟩|⟨y,u,rfl,e⟩
   ·injection e with e1 _;rw[e1]
   ·exact nomatch e
  ·rcases zF_ hb with⟨j,u,rfl,e⟩|⟨y,u,rfl,e⟩
   ·exact nomatch e
   ·injection e with e1 _;rw[e1]
 byValue:=λk v h=>by
  rcases zF_ h with⟨i,t,rfl,rfl⟩|⟨x,t,rfl,rfl⟩<;>rfl
 pyHash:=λhv h=>by
  rcases zF_ hv with⟨i,t,rfl,rfl⟩|⟨x,t,rfl,rfl⟩
  ·exact wpAny_pyHash_int h
  ·exact wpAny_pyHash_str h
 eqBool:=λhu hv h=>by
  rcases zF_ hu with⟨i,t,rfl,rfl⟩|⟨x,t,rfl,rfl⟩
  ·rcases zF_ hv with⟨j,u,rfl,rfl⟩|⟨y,u,rfl,rfl⟩
   ·rw[zpo_]at h;exact wpAny_eqBool_int h
   ·rw[znm_]at h;exact oG i t y u _ _ _ _ h
  ·rcases zF_ hv with⟨j,u,rfl,rfl⟩|⟨y,u,rfl,rfl⟩
   ·rw[zpg_]at h;exact oH x t j u _ _ _ _ h
   ·rw[zns_]at h;exact wpAny_eqBool_str h
 «strs»:=λk x t v h=>by
  rcases zF_ h with⟨i,u,rfl,e⟩|⟨y,u,rfl,e⟩
  ·exact nomatch e
  ·injection e with e1 _
   subst e1;cases v<;>rfl
theorem zfl_ (prog:jr)(w:jH)(k:Key)(v:fv):(mixKind prog w).is k v=keyIs k v:=rfl
theorem zeH_ (prog:jr)(w:jH)(i:Int)(t:Tok):(mixKind prog w).is (.inl i) (.int i t)=qK:=zgs_ i t
theorem zeA_ (prog:jr)(w:jH)(x:Str)(t:Tok):(mixKind prog w).is (.inr x) (.str x t)=qK:=zgb_ x t
inductive V where
 |non |bl (b:Bool)|int (i:Int)|str (x:Str)|byt (b:Array UInt8)|flt (b:UInt64)|ref (a:iQ)|ty (n:String)
 deriving DecidableEq
noncomputable def RelV:V->fv->Prop
 |.non,u=>u=oI
 |.bl b,u=>u=oJ b
 |.int i,u=>∃t,u=nv i t
 |.str x,u=>∃t,u=mx x t
 |.byt b,u=>∃t,u=qp b t
 |.flt b,u=>∃t,u=oY b t
 |.ref a,u=>u=jK a
 |.ty n,u=>u=l6 n
abbrev Vals:List V->List fv->Prop:=Paired RelV
theorem Vals.length {xs:List V}{us:List fv}(r:Vals xs us):xs.length=us.length:=Paired.length r
theorem Vals.get:∀{xs:List V}{us:List fv}{i:Nat}{x:V},Vals xs us->xs[i]?=qI x->∃u,us[i]?=qI u/\RelV x u
 |_,_,_,_,.nil,e=>by simp at e
 |_,_,0,_,.cons r _,e=>by simp at e;subst e;exact⟨_,rfl,r⟩
 |_,_,i+1,x,.cons _ t,e=>by
  obtain⟨u,h1,h2⟩:=Vals.get (i:=i) (x:=x) t (by simpa using e)
  exact⟨u,by simpa using h1,h2⟩
theorem Vals.set {x:V}{u:fv}(r:RelV x u):∀{xs:List V}{us:List fv}(i:Nat),Vals xs us->Vals (xs.set i x) (us.set i u)
 |_,_,_,.nil=>.nil
 |_,_,0,.cons _ t=>.cons r t
 |_,_,i+1,.cons q t=>.cons q (Vals.set r i t)
theorem Vals.append:∀{xs ys:List V}{us ws:List fv},Vals xs us->Vals ys ws->Vals (xs++ys) (us++ws)
 |_,_,_,_,.nil,s=>s
 |_,_,_,_,.cons r t,s=>.cons r (Vals.append t s)
theorem Vals.take:∀{xs:List V}{us:List fv}(n:Nat),Vals xs us->Vals (xs.take n) (us.take n)
 |_,_,0,_=>.nil
 |_,_,_+1,.nil=>.nil
 |_,_,n+1,.cons r t=>.cons r (Vals.take n t)
theorem Vals.drop:∀{xs:List V}{us:List fv}(n:Nat),Vals xs us->Vals (xs.drop n) (us.drop n)
 |_,_,0,r=>r
 |_,_,_+1,.nil=>.nil
 |_,_,n+1,.cons _ t=>Vals.drop n t
def RelO:Option V->Option fv->Prop
 |some v,qI u=>RelV v u
 |none,qJ=>True
 |_,_=>False
def KV {κ:Type}:List (κ×V)->List (κ×fv)->Prop:=Paired λ(p:κ×V) (q:κ×fv)=>p.1=q.1/\RelV p.2 q.2
def kV:Key->V
 |.inl i=>.int i
 |.inr x=>.str x
inductive HO where
 |lst (xs:List V)
 |tup (xs:List V)
 |dK (kvs:List (Key×V))|dT (kvs:List (List Key×V))
 |set (S:Int->Bool) (n:Nat)
 |ins (C dx:iQ) (fs:List (Str×V))
 |own (x:iQ)
 |xd (fs:List (Str×V))
 |met (f x:iQ)
 |rng (lo hi:Int)
 |frz (o:oN) (u:HO)
 |tbl (pos:Pos) (qual:Str)
 |ext (φ:Heap->Prop)
noncomputable abbrev Hp:=iQ->Option HO
def upd (H:Hp)(a:iQ)(o:HO):Hp:=λb=>if b=a then qI o else H b
theorem zm_ {H:Hp}{a:iQ}{o:HO}:upd H a o a=qI o:=by unfold upd;rw[if_pos rfl]
theorem zl_ {H:Hp}{a b:iQ}{o:HO}(h:b≠a):upd H a o b=H b:=by unfold upd;rw[if_neg h]
theorem ne_of {H:Hp}{a b:iQ}{o u:HO}(h:H a=qI o)(h':H b=qI u)(d:o≠u):a≠b:=by
 intro e;subst e;rw[h]at h';exact d (jv h')
theorem zan_ {H:Hp}{a b:iQ}{o:HO}(h:H a=qI o)(h':H b=qJ):a≠b:=by
 intro e;subst e;rw[h]at h';cases h'
section
variable (P:jr)(w:jH)
def ObjOk (H:Hp)(h:Heap)(a:iQ):HO->Prop
 |.lst xs=>xs.length<=iZ/\∃(its:List fv) (n:Nat),Vals xs its/\h.get? a=qI {cls:=.type "list",data:=.seq its.toArray n}
 |.tup xs=>xs.length<=iZ/\∃its:List fv,Vals xs its/\IsTup h a its.toArray
 |.dK kvs=>kvs.length<=iZ/\(a == sysModules)=qL/\∃vs,KV kvs vs/\h.DictOf (mixKind P w) a vs
 | .dT kvs=>kvs.length<=iZ/\(a == sysModules)=qL/\∃xs:List (List Key×iQ×fv),
   Paired (λ(p:List Key×V) (q:List Key×iQ×fv)=>p.1=q.1/\H q.2.1=qI (.tup (p.1.map kV))/\RelV p.2 q.2.2) kvs xs /\
   ∃o es ep,h.get? a=qI o/\o.ExactDict/\o.data=.dict es ep/\es.toList=xs.map (entryOfKey (tupleKind (mixKind P w)))/\(xs.map (·.1)).Nodup
 |.set S n=>h.SetOf (intKind P w) a S n
 | .ins C dx fs=>H dx=qI (.own a)/\fs.length<=1000/\dx≠a/\h.get? a=qI (mH C dx) /\
   ∃mA,h.Ns1 dx mA/\(∀f,RelO (fs.lookup f) (mA f))/\nK mA (fs.map (·.1))
 |.own _=>∃o,h.get? a=qI o
 |.xd fs=>∃mA,h.Ns1 a mA/\∀f,RelO (fs.lookup f) (mA f)
 |.rng lo hi=>∃t u v,h.get? a=qI {cls:=.type "range",data:=.fields #[.int lo t,.int hi u,.int 1 v]}
 |.frz o u=>h.get? a=qI o/\ObjOk H h a u
 |.tbl pos qual=>∃ps:Array fv,h.get? a=qI {cls:=.none,data:=.fields ps}/\TriplesOk ps.toList/\∀cv,codeAmong pos ps.toList=qI cv->∃c o vs t,cv=.ref c/\H c=qI (.frz o (.own a))/\o.data=.fields vs/\vs[1]?=qI (.str qual t)
 |.met f x=>h.get? a=qI (oZ (.ref f) (.ref x))
 |.ext φ=>φ h/\(∃o,h.get? a=qI o)/\∀h1 h2:Heap,φ h1->(∀o,h1.get? a=qI o->h2.get? a=qI o)->φ h2
def HOk (H:Hp)(h:Heap):Prop:=∀a o,H a=qI o->ObjOk P w H h a o
end
section
variable {P:jr}{w:jH}{H H':Hp}{h h':Heap}{a:iQ}{o:HO}
theorem ObjOk.lt (x:ObjOk P w H h a o):a<h.objs.size:=by
 cases o with
 |lst xs=>obtain⟨_,_,_,_,e⟩:=x;exact i9 e
 |tup xs=>obtain⟨_,_,_,p⟩:=x;exact p.lt
 |dK kvs=>obtain⟨_,_,_,_,o,_,_,e,_⟩:=x;exact i9 e
 |dT kvs=>obtain⟨_,_,_,_,o,_,_,e,_⟩:=x;exact i9 e
 |set S n=>obtain⟨o,_,_,_,e,_⟩:=x;exact i9 e
 |ins C dx fs=>obtain⟨_,_,_,e,_⟩:=x;exact i9 e
 |own y=>obtain⟨_,e⟩:=x;exact i9 e
 |xd fs=>obtain⟨_,⟨_,_,_,e,_⟩,_⟩:=x;exact i9 e
 |rng lo hi=>obtain⟨_,_,_,e⟩:=x;exact i9 e
 |frz ob u=>obtain⟨e,_⟩:=x;exact i9 e
 |tbl pos qual=>obtain⟨_,e,_⟩:=x;exact i9 e
 |met f y=>exact i9 (show h.get? a=qI _ from x)
 |ext φ=>obtain⟨_,⟨_,e⟩,_⟩:=x;exact i9 e
theorem Paired.mapP {α β:Type}{F G:α->β->Prop}:∀{cO:List α}{cM:List β},Paired F cO cM->(∀a b,F a b->G a b)->Paired G cO cM
 |_,_,.nil,_=>.nil
 |_,_,.cons r t,f=>.cons (f _ _ r) (Paired.mapP t f)
theorem ObjOk.stay (x:ObjOk P w H h a o)(k:∀b u,(b=a\/H b=qI (.own a))->h.get? b=qI u->h'.get? b=qI u)
  (ho:∀b,H b=qI (.own a)->H' b=qI (.own a)) (ht:∀b xs,H b=qI (.tup xs)->H' b=qI (.tup xs)) (hf:∀b ob,H b=qI (.frz ob (.own a))->H' b=qI (.frz ob (.own a)):=by exact λ_ _ q=>q):ObjOk P w H' h' a o:=by
 induction o with
 |lst xs=>obtain⟨z,its,n,r,e⟩:=x;exact⟨z,its,n,r,k _ _ (.inl rfl) e⟩
 |tup xs=>obtain⟨z,its,r,ob,e,c⟩:=x;exact⟨z,its,r,ob,k _ _ (.inl rfl) e,c⟩
 |dK kvs=>obtain⟨z,y,vs,r,ob,es,ep,e,c⟩:=x;exact⟨z,y,vs,r,ob,es,ep,k _ _ (.inl rfl) e,c⟩
 |dT kvs=>
  obtain⟨z,y,xs,r,ob,es,ep,e,c⟩:=x;exact⟨z,y,xs,Paired.mapP r λp q z=>⟨z.1,ht _ _ z.2.1,z.2.2⟩,ob,es,ep,k _ _ (.inl rfl) e,c⟩
 |set S n=>obtain⟨ob,es,ep,t,e,c⟩:=x;exact⟨ob,es,ep,t,k _ _ (.inl rfl) e,c⟩
 |ins C dx fs=>
  obtain⟨d,z,ne,e,mA,⟨od,es,ep,e2,c⟩,r⟩:=x;exact⟨ho _ d,z,ne,k _ _ (.inl rfl) e,mA,⟨od,es,ep,k _ _ (.inr d) e2,c⟩,r⟩
 |own y=>obtain⟨ob,e⟩:=x;exact⟨ob,k _ _ (.inl rfl) e⟩
 |xd fs=>obtain⟨mA,⟨od,es,ep,e,c⟩,r⟩:=x;exact⟨mA,⟨od,es,ep,k _ _ (.inl rfl) e,c⟩,r⟩
 |rng lo hi=>obtain⟨t,u,v,e⟩:=x;exact⟨t,u,v,k _ _ (.inl rfl) e⟩
 |frz ob u ih=>obtain⟨e,q⟩:=x;exact⟨k _ _ (.inl rfl) e,ih q⟩
 |tbl pos qual=>
  obtain⟨ps,e,t,f⟩:=x;exact⟨ps,k a _ (.inl rfl) e,t,λcv q=>let⟨c,ob,vs,t,q1,q2,q3⟩:=f cv q;⟨c,ob,vs,t,q1,hf _ _ q2,q3⟩⟩
 |met f y=>
  have e:h.get? a=qI (oZ (.ref f) (.ref y)):=x;show h'.get? a=qI (oZ (.ref f) (.ref y))
  exact k a _ (.inl rfl) e
 |ext φ=>obtain⟨p,⟨o,e⟩,st⟩:=x;exact⟨st _ _ p λo q=>k _ _ (.inl rfl) q,⟨o,k _ _ (.inl rfl) e⟩,st⟩
theorem HOk.lt (x:HOk P w H h)(e:H a=qI o):a<h.objs.size:=(x a o e).lt
theorem HOk.fresh (x:HOk P w H h)(e:h.objs.size<=a):H a=qJ:=by
 cases q:H a with
 |none=>rfl
 |some u=>exact absurd (jB (x.lt q) e) (mh _)
theorem HOk.kept (x:HOk P w H h)(k:∀b u,h.get? b=qI u->h'.get? b=qI u):HOk P w H h':=λa o e=>
 (x a o e).stay (λb u _ q=>k b u q) (λ_ q=>q) λ_ _ q=>q
theorem HOk.laid (x:HOk P w H h)(k:∀b u,h.get? b=qI u->h'.get? b=qI u)(hp:h.objs.size<=a)(new:ObjOk P w (upd H a o) h' a o):HOk P w (upd H a o) h':=λb u e=>by
 have hn:=x.fresh hp;by_cases hb:b=a
 ·subst hb;rw[zm_]at e;cases e;exact new
 ·rw[zl_ hb]at e
  exact(x b u e).stay (λc v _ q=>k c v q) (λc q=>by rw[zl_ (zan_ q hn)];exact q) (λc xs q=>by rw[zl_ (zan_ q hn)];exact q) λc ob q=>by rw[zl_ (zan_ q hn)];exact q
end
def Rd (H:Hp)(a:iQ)(u:HO):Prop:=H a=qI u\/∃o,H a=qI (.frz o u)
theorem Rd.ok {P:jr}{w:jH}{H:Hp}{h:Heap}{a:iQ}{u:HO}(r:Rd H a u)(x:HOk P w H h):ObjOk P w H h a u:=by
 rcases r with r |⟨o,r⟩
 ·exact x a u r
 ·obtain⟨_,q⟩:=x a _ r
  exact q
noncomputable def Mut:Option HO->Prop
 |some (.lst _)=>True
 |some (.dK _)=>True
 |some (.dT _)=>True
 |some (.set _ _)=>True
 |some (.ins _ _ _)=>True
 |some (.ext _)=>True
 |_=>False
section
variable {P:jr}{w:jH}{H:Hp}{h h':Heap}{x e:iQ}{o':HO}
theorem HOk.write (ok:HOk P w H h)(mu:Mut (H x))(he:e=x\/H e=qI (.own x))(k:∀b u,b≠e->h.get? b=qI u->h'.get? b=qI u)(cB:∃u,h'.get? e=qI u)
  (new:ObjOk P w (upd H x o') h' x o'):HOk P w (upd H x o') h':=λb u q=>by
 have cH:∀c y,H c=qI (.own y)->c≠x:=λc y r z=>by subst z;rw[r]at mu;exact mu
 have eB:∀c xs,H c=qI (.tup xs)->c≠x:=λc xs r z=>by subst z;rw[r]at mu;exact mu
 by_cases hb:b=x
 ·subst hb;rw[zm_]at q;cases q;exact new
 ·rw[zl_ hb]at q
  by_cases hbe:b=e
  ·have q':H b=qI (.own x):=by
    rcases he with z |z
    ·exact absurd (hbe.trans z) hb
    ·rw[hbe];exact z
   rw[q]at q';cases q';obtain⟨v,hv⟩:=cB;exact⟨v,by rw[hbe];exact hv⟩
  ·refine(ok b u q).stay (λc v hc r=>k c v ?_ r) (λc r=>by rw[zl_ (cH c b r)];exact r) (λc xs r=>by rw[zl_ (eB c xs r)];exact r) λc ob r=>by rw[zl_ (λz=>by subst z;rw[r]at mu;exact mu)];exact r
   rcases hc with rfl |hc
   ·exact hbe
   ·rintro rfl
    rcases he with z |z
    ·exact cH c b hc z
    ·rw[hc]at z;cases z;exact hb rfl
end
structure Un (fs ex:List iQ)(H H':Hp)(h h':Heap):Prop where
 keep:∀b o,h.get? b=qI o->H b=qJ->b∉fs->b∉ex->h'.get? b=qI o
 slot:∀b o,h.get? b=qI o->H b=qJ->b∈fs->b∉ex->∃sl,h'.get? b=qI {o with slots:=sl}
 free:∀b o,h.get? b=qI o->H b=qJ->b∉ex->H' b=qJ
 there:∀b o,h.get? b=qI o->b∉ex->∃o',h'.get? b=qI o'
 tups:∀b xs,H b=qI (.tup xs)->H' b=qI (.tup xs)
 frzs:∀b o u,H b=qI (.frz o u)->H' b=qI (.frz o u)
 tbls:∀b p q,H b=qI (.tbl p q)->H' b=qI (.tbl p q)
section
variable {fs ex:List iQ}{H H1:Hp}{h h1 h':Heap}{a x e:iQ}{o:HO}
theorem Un.any (u:Un fs ex H H1 h h1){b:iQ}{ob:oN}(q:h.get? b=qI ob)(n:H b=qJ)(hx:b∉ex):∃sl,h1.get? b=qI {ob with slots:=sl}:=by
 by_cases hb:b∈fs
 ·exact u.slot b ob q n hb hx
 ·exact⟨ob.slots,u.keep b ob q n hb hx⟩
theorem Un.kept (k:∀b u,h.get? b=qI u->h'.get? b=qI u):Un fs ex H H h h':=
 ⟨λb ob q _ _ _=>k b ob q,λb ob q _ _ _=>⟨ob.slots,k b ob q⟩,λ_ _ _ n _=>n,λb ob q _=>⟨ob,k b ob q⟩,λ_ _ q=>q,λ_ _ _ q=>q,λ_ _ _ q=>q⟩
theorem Un.refl:Un fs ex H H h h:=Un.kept λ_ _ q=>q
theorem Un.laid (k:∀b u,h.get? b=qI u->h'.get? b=qI u)(hp:h.objs.size<=a)(hn:H a=qJ):Un fs ex H (upd H a o) h h' where
 keep:=λb u q _ _ _=>k b u q
 slot:=λb u q _ _ _=>⟨u.slots,k b u q⟩
 free:=λb u q n _=>by rw[zl_ (jQ (jB (i9 q) hp))];exact n
 there:=λb u q _=>⟨u,k b u q⟩
 tups:=λb xs q=>by rw[zl_ (zan_ q hn)];exact q
 frzs:=λb u xs q=>by rw[zl_ (zan_ q hn)];exact q
 tbls:=λb p' q' q=>by rw[zl_ (zan_ q hn)];exact q
theorem Un.write (mu:Mut (H x))(he:e=x\/H e=qI (.own x))(k:∀b u,b≠e->h.get? b=qI u->h'.get? b=qI u)(cB:∃u,h'.get? e=qI u):Un fs ex H (upd H x o) h h':=by
 have hx:∀b,H b=qJ->b≠x:=λb n z=>by subst z;rw[n]at mu;exact mu
 have hb:∀b,H b=qJ->b≠e:=λb n z=>by
  subst z;rcases he with r |r
  ·exact hx b n r
  ·rw[n]at r;cases r
 have hm:∀b u,H b=qI u->¬Mut (qI u)->b≠x:=λb u q nm z=>by subst z;rw[q]at mu;exact nm mu
 refine⟨λb u q n _ _=>k b u (hb b n) q,λb u q n _ _=>⟨u.slots,k b u (hb b n) q⟩,λb u q n _=>by rw[zl_ (hx b n)];exact n,λb u q _=>?_,
  λb xs q=>by rw[zl_ (hm b _ q λz=>z)];exact q,λb u xs q=>by rw[zl_ (hm b _ q λz=>z)];exact q,λb p' q' q=>by rw[zl_ (hm b _ q λz=>z)];exact q⟩
 by_cases hbe:b=e
 ·subst hbe;exact cB
 ·exact⟨u,k b u hbe q⟩
end
def trk (h:Heap)(H:Hp):List iQ:=(jw h.objs.size).filter λa=>(H a).isSome
def hidT (h:Heap)(H:Hp):Heap:=W.hideAll h (trk h H)
theorem zgv_ (h:Heap)(H:Hp):(hidT h H).objs.size=h.objs.size:=W.hideAll_size _ _
theorem zjl_ {h:Heap}{H:Hp}{b:iQ}{o:oN}(e:h.get? b=qI o)(n:H b=qJ):(hidT h H).get? b=qI o:=
 W.hideAll_get _ e λhm=>by
  have q:(H b).isSome=qK:=(lG.mp hm).2;rw[n]at q;simp at q
theorem zmP_ {h:Heap}{H:Hp}{b:iQ}{o:oN}(e:(hidT h H).get? b=qI o):h.get? b=qI o/\H b=qJ:=by
 have e':h.get? b=qI o:=W.of_hideAll (trk h H) e;refine⟨e',?_⟩;cases q:H b with
 |none=>rfl
 |some x=>
  have hm:b∈trk h H:=lG.mpr ⟨ko.mpr (i9 e'),by simp[q]⟩
  have z:(hidT h H).get? b=qJ:=W.hideAll_none (trk h H) hm;rw[z]at e;cases e
def lamF (K:Fgg):Option kf:=match lq K jf "put_in_order" with
 |some (qI (.ref f))=>(match K.lookup f with
  |some ⟨_,_,.func fd,_⟩=>qI fd
  |_=>qJ)
 |_=>qJ
noncomputable def lamP (b:FuncBody):Option Pos:=match b with
 |.stmts [.Return (qI (.Call _ _ [⟨_,.Lambda _ _ _ pos,_⟩] _)) _]=>qI pos
 |_=>qJ
def lamK (K:Fgg):Option (iQ×Pos×Str):=(W.tabIn K "put_in_order").bind λt=>(lamF K).bind λfd=>(lamP fd.body).map λpos=>(t.2,pos,fd.qualname ++ ".<locals>." ++ "<lambda>")
def Tb (K:Fgg)(H:Hp):Prop:=∀P pos q,lamK K=qI (P,pos,q)->H P=qI (.tbl pos q)
structure Mod (K:Fgg)(mg:Str->Option fv)(base:Heap):Prop where
 kin:K.In base
 glob:base.Ns jf mg
 blt:∃mb,base.Ns builtinsNs mb/\∀x:Str,x ≠ "__name__" -> mb x=k9 x
 nolimit:base.NoLimit
 bm:∃bm ob,mg "__builtins__"=qI (.ref bm)/\bm≠builtinsNs/\base.get? bm=qI ob/\ob.cls=.type "module" /\ ob.dict=qI builtinsNs/\ob.data=.plain
structure Cx where
 prog:jr
 w:jH
 K:Fgg
 mg:Str->Option fv
 base:Heap
 A:j3
 N:List Str
 s₀:iM
 H₀:Hp
 env:Env
 outer:List Env
 stack:List Env
 ex:List iQ
 fn:Str->Bool
 calm:Bool
 pn:Pnn
 xe:fv->iM->Prop
noncomputable def frs (l:List Env):List iQ:=l.filterMap (·.frame)
abbrev Cx.fs (X:Cx):List iQ:=frs X.outer
def Vis (sc:Scope)(x:Str):Prop:=sc.names.lookup x=qI .local\/sc.names.lookup x=qI .cell\/sc.names.lookup x=qI .free
def Loc (sc:Scope)(x:Str):Prop:=sc.names.lookup x=qI .local\/sc.names.lookup x=qI .cell
def Look (env:Env)(h:Heap)(m:Str->Option fv)(x:Str)(u:fv):Prop:=
 (env.kindOf x=qI .local/\m x=qI u)\/((env.kindOf x=qI .cell\/env.kindOf x=qI .free)/\∃c,env.cells.lookup x=qI c/\h.IsCell c (qI u))
structure Cx.Ok (X:Cx):Prop where
 mod:Mod X.K X.mg X.base
 kind:X.env.scope.kind=.function
 glob:X.env.globals=jf
 blt:X.env.builtins=builtinsNs
 above:X.s₀.heap.objs.size<=X.env.locals
 inj:∀x y c,X.env.cells.lookup x=qI c->X.env.cells.lookup y=qI c->x=y
 has:∀x,(X.env.kindOf x=qI .cell\/X.env.kindOf x=qI .free)->∃c,X.env.cells.lookup x=qI c
 cab:∀x c,X.fn x=qK->X.env.cells.lookup x=qI c->X.s₀.heap.objs.size<=c
 hd:X.calm=qK->X.A.handled=qJ
 frames:X.A.frames=qI X.stack
 stk:X.stack=X.outer\/(X.stack=X.env::X.outer/\X.env.frame=qI X.env.locals)
 exf:∀b∈X.ex,b≠X.env.locals/\∀x c,X.env.cells.lookup x=qI c->c≠b
 bs:∀b o,X.base.get? b=qI o->X.s₀.heap.get? b=qI o/\X.H₀ b=qJ
 bsz:X.base.objs.size<=X.s₀.heap.objs.size
 noex:∀b o,X.base.get? b=qI o->b∉X.ex
 exfs:∀b∈X.ex,b∉X.fs
 funs:X.s₀.heap.FunFrames X.base X.outer
 frf:∀b∈X.fs,X.H₀ b=qJ
 tb:Tb X.K X.H₀
structure Inv (X:Cx)(pins:Pnn)(σ:List (Option V))(H:Hp)(s:iM):Prop where
 ok:X.Ok
 os:s.os=X.s₀.os
 bare:AllBare s.gens
 base:Un X.fs X.ex X.H₀ H X.s₀.heap s.heap
 loc:∃m,s.heap.Ns X.env.locals m/\∀(i:Nat) (x:Str) (v:V),X.N[i]?=qI x->σ[i]?=qI (qI v)->Vis X.env.scope x->∃u,RelV v u/\Look X.env s.heap m x u
 cell:∀x c,X.env.cells.lookup x=qI c->∃v,s.heap.IsCell c v
 free:H X.env.locals=qJ
 freeC:∀x c,X.env.cells.lookup x=qI c->H c=qJ
 pin:∀p∈X.pn++pins,s.heap.get? p.1=qI p.2/\H p.1=qJ/\p.1≠X.env.locals/\p.1∉X.fs/\∀v,p.2.data≠.cell v
 hok:HOk X.prog X.w H s.heap
 len:σ.length=X.N.length
section
variable {X:Cx}{pins:Pnn}{σ:List (Option V)}{H H':Hp}{s:iM}{h':Heap}
theorem Cx.Ok.nofr (ok:X.Ok){b:iQ}{o:oN}(e:X.base.get? b=qI o):b∉X.fs:=λhb=>by
 have:=(ok.funs.mem hb).1;rw[e]at this;cases this
theorem Inv.bs (I:Inv X pins σ H s):∀b o,X.base.get? b=qI o->s.heap.get? b=qI o/\H b=qJ:=λb o e=>
 ⟨I.base.keep b o (I.ok.bs b o e).1 (I.ok.bs b o e).2 (I.ok.nofr e) (I.ok.noex b o e),I.base.free b o (I.ok.bs b o e).1 (I.ok.bs b o e).2 (I.ok.noex b o e)⟩
theorem Inv.tb (I:Inv X pins σ H s):Tb X.K H:=λP p q e=>I.base.tbls _ _ _ (I.ok.tb P p q e)
theorem Inv.bk (I:Inv X pins σ H s):∀b o,X.base.get? b=qI o->s.heap.get? b=qI o:=λb o e=>(I.bs b o e).1
theorem Inv.mod (I:Inv X pins σ H s):Mod X.K X.mg X.base:=I.ok.mod
theorem Inv.kIn (I:Inv X pins σ H s):X.K.In s.heap:=I.ok.mod.kin.keeps I.bk
theorem Inv.lt (I:Inv X pins σ H s):X.env.locals<s.heap.objs.size:=let⟨_,hn,_⟩:=I.loc;hn.lt
theorem Inv.sz (I:Inv X pins σ H s):X.s₀.heap.objs.size<=s.heap.objs.size:=kH I.ok.above (mP I.lt)
theorem Inv.nofs (I:Inv X pins σ H s){a:iQ}(h:s.heap.objs.size<=a):a∉X.fs:=λhb=>by
 obtain⟨_,o,ho,_⟩:=I.ok.funs.mem hb;exact absurd (jB (i9 ho) (kH I.sz h)) (mh _)
theorem Inv.cne (I:Inv X pins σ H s):∀x c,X.env.cells.lookup x=qI c->c≠X.env.locals:=λx c e z=>by
 obtain⟨v,o,ho,hd⟩:=I.cell x c e;obtain⟨m,⟨o',es,ep,ho',a6,_⟩,_⟩:=I.loc;rw[z,ho']at ho;cases ho;rw[a6]at hd;cases hd
theorem Inv.funs (I:Inv X pins σ H s):s.heap.FunFrames X.base X.outer:=by
 have all:∀(l:List Env),(∀b∈frs l,b∈X.fs)->X.s₀.heap.FunFrames X.base l->s.heap.FunFrames X.base l:=by
  intro l;induction l with
  |nil=>intro _ _;trivial
  |cons env r ih=>
   intro hs hl;obtain⟨hk,⟨L,o,hf,hn,ho,hd⟩,hr⟩:=hl;have hL:L∈X.fs:=hs L (by unfold frs;rw[mO,hf];exact i5)
   obtain⟨sl,e⟩:=I.base.slot L o ho (I.ok.frf L hL) hL λz=>I.ok.exfs L z hL
   exact⟨hk,⟨L,_,hf,hn,e,hd⟩,ih (λb hb=>hs b (by unfold frs;rw[mO,hf];exact i7 _ hb)) hr⟩
 exact all X.outer (λ_ hb=>hb) I.ok.funs
theorem Inv.stack (I:Inv X pins σ H s):s.heap.FunFrames X.base X.stack:=by
 rcases I.ok.stk with e |⟨e,hf⟩
 ·rw[e];exact I.funs
 ·rw[e]
  obtain⟨m,hn,_⟩:=I.loc;refine .cons (by rw[I.ok.kind];decide) hf hn ?_ I.funs
  exact Heap.get?_none_of_le (kH I.ok.bsz I.ok.above)
theorem Inv.stkSub (I:Inv X pins σ H s):∀b∈frs X.stack,b∈X.env.locals::X.fs:=λb hb=>by
 rcases I.ok.stk with e |⟨e,hf⟩
 ·rw[e]at hb;exact i7 _ hb
 ·rw[e]at hb
  unfold frs at hb;rw[mO,hf]at hb;exact hb
theorem Inv.stkFree (I:Inv X pins σ H s):∀b∈frs X.stack,H b=qJ:=λb hb=>by
 rcases ju.mp (I.stkSub b hb)with e |hb
 ·rw[e];exact I.free
 ·obtain⟨_,o,ho,_⟩:=I.ok.funs.mem hb
  exact I.base.free b o ho (I.ok.frf b hb) λz=>I.ok.exfs b z hb
theorem Inv.step {g':Array GenState}{t':Nat}{d':Drawn}{ch:List iQ}(I:Inv X pins σ H s)
  (bB:∀b∈ch,(b∈X.ex\/X.s₀.heap.objs.size<=b)/\b≠X.env.locals/\(∀x c,X.env.cells.lookup x=qI c->c≠b)/\∀p∈X.pn++pins,p.1≠b)
  (keep:∀b o,b≠X.env.locals->b∉X.fs->b∉ch->s.heap.get? b=qI o->H b=qJ->h'.get? b=qI o)
  (slot:∀b o,b≠X.env.locals->b∈X.fs->b∉ch->s.heap.get? b=qI o->H b=qJ->∃sl,h'.get? b=qI {o with slots:=sl}) (free:∀b o,b∉ch->s.heap.get? b=qI o->H b=qJ->H' b=qJ)
  (there:∀b o,b∉ch->s.heap.get? b=qI o->∃o',h'.get? b=qI o')
  (tups:∀b xs,H b=qI (.tup xs)->H' b=qI (.tup xs)) (frzs:∀b o u,H b=qI (.frz o u)->H' b=qI (.frz o u)) (tbls:∀b p q,H b=qI (.tbl p q)->H' b=qI (.tbl p q))
  (ns:∀m,s.heap.Ns X.env.locals m->h'.Ns X.env.locals m) (hok:HOk X.prog X.w H' h') (hg:AllBare g'):
  Inv X pins σ H' {s with heap:=h',gens:=g',drawn:=d',toks:=t'}:=by
 have fI:∀b o,X.s₀.heap.get? b=qI o->b≠X.env.locals:=λb o e=>jQ (jB (i9 e) I.ok.above)
 have dQ:∀b o,X.s₀.heap.get? b=qI o->b∉X.ex->b∉ch:=λb o e hx hb=>by
  rcases(bB b hb).1 with z |z
  ·exact hx z
  ·exact absurd (jB (i9 e) z) (mh _)
 have cellK:∀x c,X.env.cells.lookup x=qI c->∀v,s.heap.IsCell c v->h'.IsCell c v:=λx c e v ⟨o,ho,hd⟩=>by
  have cK:c∉ch:=λz=>(bB c z).2.2.1 x c e rfl
  by_cases hc:c∈X.fs
  ·obtain⟨sl,q⟩:=slot c o (I.cne x c e) hc cK ho (I.freeC x c e)
   exact⟨_,q,hd⟩
  ·exact⟨o,keep c o (I.cne x c e) hc cK ho (I.freeC x c e),hd⟩
 refine⟨I.ok,I.os,hg,⟨λb o e n hb hx=>?_,λb o e n hb hx=>?_,λb o e n hx=>?_,λb o e hx=>?_,λb xs e=>tups b xs (I.base.tups b xs e),λb o xs e=>frzs b o xs (I.base.frzs b o xs e),λb p q e=>tbls b p q (I.base.tbls b p q e)⟩,?_,λx c e=>?_,?_,λx c e=>?_,λp hp=>?_,hok,I.len⟩
 ·exact keep b o (fI b o e) hb (dQ b o e hx) (I.base.keep b o e n hb hx) (I.base.free b o e n hx)
 ·obtain⟨sl,e1⟩:=I.base.slot b o e n hb hx
  obtain⟨gn,e2⟩:=slot b _ (fI b o e) hb (dQ b o e hx) e1 (I.base.free b o e n hx);exact⟨gn,e2⟩
 ·obtain⟨o',e1⟩:=I.base.there b o e hx
  exact free b o' (dQ b o e hx) e1 (I.base.free b o e n hx)
 ·obtain⟨o',e1⟩:=I.base.there b o e hx
  exact there b o' (dQ b o e hx) e1
 ·obtain⟨m,hn,hl⟩:=I.loc
  refine⟨m,ns m hn,λi x v e1 e2 e3=>?_⟩
  obtain⟨u,r,l⟩:=hl i x v e1 e2 e3;refine⟨u,r,?_⟩;rcases l with l |⟨k,c,e,z⟩
  ·exact .inl l
  ·exact .inr ⟨k,c,e,cellK x c e _ z⟩
 ·obtain⟨v,z⟩:=I.cell x c e
  exact⟨v,cellK x c e v z⟩
 ·obtain⟨m,⟨o,_,_,ho,_⟩,_⟩:=I.loc
  exact free _ o (λz=>(bB _ z).2.1 rfl) ho I.free
 ·obtain⟨v,o,ho,hd⟩:=I.cell x c e
  exact free c o (λz=>(bB c z).2.2.1 x c e rfl) ho (I.freeC x c e)
 ·obtain⟨e,n,ne,nf,d⟩:=I.pin p hp
  have cK:p.1∉ch:=λz=>(bB p.1 z).2.2.2 p hp rfl
  exact⟨keep p.1 p.2 ne nf cK e n,free p.1 p.2 cK e n,ne,nf,d⟩
theorem Inv.un {t':Nat}(I:Inv X pins σ H s)(u:Un X.fs [] H H' s.heap h')(hok:HOk X.prog X.w H' h'):Inv X pins σ H' {s with heap:=h',toks:=t'}:=by
 obtain⟨m,⟨o,es,ep,ho,r⟩,_⟩:=id I.loc;obtain⟨sl,hL⟩:=u.any ho I.free (by simp)
 exact I.step (g':=s.gens) (d':=s.drawn) (ch:=[]) (λ_ z=>nomatch z) (λb o _ hb _ e n=>u.keep b o e n hb (by simp)) (λb o _ hb _ e n=>u.slot b o e n hb (by simp)) (λb o _ e n=>u.free b o e n (by simp)) (λb o _ e=>u.there b o e (by simp)) u.tups u.frzs u.tbls (λm' hm=>by
  obtain⟨o',d5,bu,ho',r'⟩:=hm;rw[ho]at ho';cases ho';exact⟨_,d5,bu,hL,r'⟩) hok I.bare
theorem Inv.call {g':Array GenState}{t':Nat}{d':Drawn}{ch:List iQ}(I:Inv X pins σ H s)(u:Un (frs X.stack) ch H H' s.heap h')(hok:HOk X.prog X.w H' h')(hg:AllBare g')
  (bB:∀b∈ch,(b∈X.ex\/X.s₀.heap.objs.size<=b)/\b≠X.env.locals/\(∀x c,X.env.cells.lookup x=qI c->c≠b)/\∀p∈X.pn++pins,p.1≠b):
  Inv X pins σ H' {s with heap:=h',gens:=g',drawn:=d',toks:=t'}:=by
 obtain⟨m,⟨o,es,ep,ho,r⟩,_⟩:=id I.loc;obtain⟨sl,hL⟩:=u.any ho I.free λz=>(bB _ z).2.1 rfl
 exact I.step (ch:=ch) bB (λb o hL hb hc e n=>u.keep b o e n (λz=>(ju.mp (I.stkSub b z)).elim hL hb) hc) (λb o _ _ hc e n=>u.any e n hc) (λb o hc e n=>u.free b o e n hc) (λb o hc e=>u.there b o e hc) u.tups u.frzs u.tbls (λm' hm=>by
  obtain⟨o',d5,bu,ho',r'⟩:=hm;rw[ho]at ho';cases ho';exact⟨_,d5,bu,hL,r'⟩) hok hg
theorem Inv.turned {t':Nat}{it:iQ}(I:Inv X pins σ H s)(k:∀b o,b≠it->s.heap.get? b=qI o->h'.get? b=qI o)(hn:H it=qJ)(hL:it≠X.env.locals)
  (h1:it∈X.ex\/X.s₀.heap.objs.size<=it) (h2:∀x c,X.env.cells.lookup x=qI c->c≠it) (h3:∀p∈X.pn++pins,p.1≠it):Inv X pins σ H {s with heap:=h',toks:=t'}:=by
 have cJ:∀b u,H b=qI u->b≠it:=λb u e z=>by rw[z,hn]at e;cases e
 refine I.step (g':=s.gens) (d':=s.drawn) (ch:=[it]) (λb hb=>?_) (λb o _ _ hc e _=>k b o (λz=>hc (by simp[z])) e) (λb o _ _ hc e _=>⟨o.slots,k b o (λz=>hc (by simp[z])) e⟩) (λ_ _ _ _ n=>n)
  (λb o hc e=>⟨o,k b o (λz=>hc (by simp[z])) e⟩) (λ_ _ e=>e) (λ_ _ _ e=>e) (λ_ _ _ e=>e) (λm hm=>?_) (λb u e=>?_) I.bare
 ·have e:b=it:=by simpa using hb
  subst e;exact⟨h1,hL,h2,h3⟩
 ·obtain⟨o,es,ep,ho,r⟩:=hm
  exact⟨o,es,ep,k _ o (m7 hL) ho,r⟩
 ·refine(I.hok b u e).stay (λc v hc q=>k c v ?_ q) (λ_ q=>q) λ_ _ q=>q
  rcases hc with z |z
  ·rw[z];exact cJ b u e
  ·exact cJ c _ z
theorem Inv.tok (I:Inv X pins σ H s)(t:Nat):Inv X pins σ H {s with toks:=t}:=I.un (h':=s.heap) (t':=t) Un.refl I.hok
theorem Inv.kept {t':Nat}(I:Inv X pins σ H s)(k:∀b u,s.heap.get? b=qI u->h'.get? b=qI u):Inv X pins σ H {s with heap:=h',toks:=t'}:=I.un (Un.kept k) (I.hok.kept k)
theorem Inv.laid {a:iQ}{o:HO}{t':Nat}(I:Inv X pins σ H s)(k:∀b u,s.heap.get? b=qI u->h'.get? b=qI u)(hp:s.heap.objs.size<=a)(new:ObjOk X.prog X.w (upd H a o) h' a o):
  Inv X pins σ (upd H a o) {s with heap:=h',toks:=t'}:=I.un (Un.laid k hp (I.hok.fresh hp)) (I.hok.laid k hp new)
theorem Inv.write {x e:iQ}{o:HO}{t':Nat}(I:Inv X pins σ H s)(mu:Mut (H x))(he:e=x\/H e=qI (.own x))(k:∀b u,b≠e->s.heap.get? b=qI u->h'.get? b=qI u)(cB:∃u,h'.get? e=qI u)
  (new:ObjOk X.prog X.w (upd H x o) h' x o):Inv X pins σ (upd H x o) {s with heap:=h',toks:=t'}:=I.un (Un.write mu he k cB) (I.hok.write mu he k cB new)
theorem Inv.pins_of {bL:Pnn}(I:Inv X pins σ H s)(h:∀p∈bL,s.heap.get? p.1=qI p.2/\H p.1=qJ/\p.1≠X.env.locals/\p.1∉X.fs/\∀v,p.2.data≠.cell v):Inv X bL σ H s:=
 ⟨I.ok,I.os,I.bare,I.base,I.loc,I.cell,I.free,I.freeC,λp hp=>(lH.mp hp).elim (λz=>I.pin p (kg _ z)) (h p),I.hok,I.len⟩
theorem zfj_ {N:List Str}(hN:N.Nodup){i j:Nat}{x:Str}(a:N[i]?=qI x)(b:N[j]?=qI x):i=j:=by
 obtain⟨h1,e1⟩:=i6.mp a;obtain⟨h2,e2⟩:=i6.mp b;exact(List.getElem_inj hN).mp (e1.trans e2.symm)
theorem zgh_ {M:Model}{A:j3}{E:fv->iM->Prop}{i:Nat}{x:Str}{v:V}{u:fv}{Q:Unit->iM->Prop}(I:Inv X pins σ H s)(hN:X.N.Nodup)(hi:X.N[i]?=qI x)(hx:Loc X.env.scope x)(r:RelV v u)
  (h:∀s',Inv X pins (σ.set i (qI v)) H s'->(∃a,mQ a s.heap s'.heap/\(a=X.env.locals\/X.env.cells.lookup x=qI a))->Q () s') (hf:X.fn x=qK\/X.env.scope.names.lookup x=qI .local:=by first |exact .inl rfl |exact .inr rfl |assumption):jq M A (storeName X.env x u) Q E s:=by
 obtain⟨m,hn,hl⟩:=id I.loc;have fb:(X.env.scope.kind == .class ||(X.env.scope.kind == .module && X.env.locals != X.env.globals))=qL:=by rw[I.ok.kind];rfl
 have df:i<σ.length:=by rw[I.len];exact(i6.mp hi).1
 have cne:=I.cne;have tracked:∀{a:iQ}{h':Heap},(∃o,s.heap.get? a=qI o/\H a=qJ)->mQ a s.heap h'->HOk X.prog X.w H h':=λ{a h'} ha hs b ob e=>by
  obtain⟨_,_,hfree⟩:=ha;refine(I.hok b ob e).stay (λc w' hc q=>(hs.2 c ?_).trans q) (λ_ q=>q) λ_ _ q=>q
  rintro rfl;rcases hc with rfl |hc
  ·rw[hfree]at e;cases e
  ·rw[hfree]at hc;cases hc
 rcases hx with hk |hk
 ·refine wpAny_storeName_local hk hn (λh' eU hs=>?_) fb
  obtain⟨oL,_,_,c7,_⟩:=id hn;refine h _ ⟨I.ok,I.os,I.bare,⟨λb o e n hb hx=>?_,λb o e n hb hx=>?_,I.base.free,λb o e hx=>?_,I.base.tups,I.base.frzs,I.base.tbls⟩,⟨_,eU,λj y v' e1 e2 e3=>?_⟩,λy c e=>?_,I.free,I.freeC,λp hp=>?_,tracked ⟨oL,c7,I.free⟩ hs,by simpa using I.len⟩ ⟨_,hs,.inl rfl⟩
  ·exact(hs.2 b (jQ (jB (i9 e) I.ok.above))).trans (I.base.keep b o e n hb hx)
  ·obtain⟨sl,e1⟩:=I.base.slot b o e n hb hx
   exact⟨sl,(hs.2 b (jQ (jB (i9 e) I.ok.above))).trans e1⟩
  ·obtain⟨o',e1⟩:=I.base.there b o e hx
   exact⟨o',(hs.2 b (jQ (jB (i9 e) I.ok.above))).trans e1⟩
  ·by_cases hj:j=i
   ·subst hj
    rw[hi]at e1;cases e1;rw[kq df]at e2;cases e2;exact⟨u,r,.inl ⟨hk,by simp⟩⟩
   ·rw[ji (m7 hj)]at e2
    obtain⟨u',r',q⟩:=hl j y v' e1 e2 e3;refine⟨u',r',?_⟩;rcases q with⟨k,e⟩|⟨k,c,e,z⟩
    ·refine .inl ⟨k,?_⟩
     have:y≠x:=λe=>hj (zfj_ hN e1 (e ▸ hi))
     simp[this,e]
    ·exact .inr ⟨k,c,e,z.sameBut hs (cne y c e)⟩
  ·obtain⟨w',z⟩:=I.cell y c e
   exact⟨w',z.sameBut hs (cne y c e)⟩
  ·obtain⟨e,n,ne,nf,d⟩:=I.pin p hp
   exact⟨(hs.2 p.1 ne).trans e,n,ne,nf,d⟩
 ·have di:X.fn x=qK:=by
   rcases hf with z |z
   ·exact z
   ·rw[z]at hk;cases hk
  obtain⟨c,hc⟩:=I.ok.has x (.inl hk);obtain⟨w',z⟩:=I.cell x c hc;refine wpAny_storeName_cell I.ok.kind hk hc z (λh' aW hs=>?_)
  obtain⟨oc,hoc,hocd⟩:=id z;refine h {s with heap:=h'} ⟨I.ok,I.os,I.bare,⟨λb o e n hb hx=>?_,λb o e n hb hx=>?_,I.base.free,λb o e hx=>?_,I.base.tups,I.base.frzs,I.base.tbls⟩,⟨m,hn.sameBut hs (m7 (cne x c hc)),λj y v' e1 e2 e3=>?_⟩,λy c' e=>?_,I.free,I.freeC,λp hp=>?_,tracked ⟨oc,hoc,I.freeC x c hc⟩ hs,by simpa using I.len⟩ ⟨c,hs,.inr hc⟩
  ·exact(hs.2 b (jQ (jB (i9 e) (I.ok.cab x c di hc)))).trans (I.base.keep b o e n hb hx)
  ·obtain⟨sl,e1⟩:=I.base.slot b o e n hb hx
   exact⟨sl,(hs.2 b (jQ (jB (i9 e) (I.ok.cab x c di hc)))).trans e1⟩
  ·obtain⟨o',e1⟩:=I.base.there b o e hx
   exact⟨o',(hs.2 b (jQ (jB (i9 e) (I.ok.cab x c di hc)))).trans e1⟩
  ·by_cases hj:j=i
   ·subst hj
    rw[hi]at e1;cases e1;rw[kq df]at e2;cases e2;exact⟨u,r,.inr ⟨.inl hk,c,hc,aW⟩⟩
   ·rw[ji (m7 hj)]at e2
    obtain⟨u',r',q⟩:=hl j y v' e1 e2 e3;refine⟨u',r',?_⟩;rcases q with q |⟨k,c',e,z'⟩
    ·exact .inl q
    ·refine .inr ⟨k,c',e,z'.sameBut hs ?_⟩
     rintro rfl;exact hj (zfj_ hN e1 (I.ok.inj _ _ _ e hc ▸ hi))
  ·by_cases hcc:c'=c
   ·subst hcc;exact⟨_,aW⟩
   ·obtain⟨w2,z2⟩:=I.cell y c' e
    exact⟨w2,z2.sameBut hs hcc⟩
  ·obtain⟨e,n,ne,nf,d⟩:=I.pin p hp
   refine⟨(hs.2 p.1 ?_).trans e,n,ne,nf,d⟩;intro q;rw[q,hoc]at e;have q':oc=p.2:=jv e;exact d w' (by rw[<- q'];exact hocd)
theorem zfK_ {M:Model}{A:j3}{E:fv->iM->Prop}{i:Nat}{x:Str}{v:V}{u:fv}{Q:Unit->iM->Prop}(I:Inv X pins σ H s)(hN:X.N.Nodup)(hi:X.N[i]?=qI x)(hx:Loc X.env.scope x)(r:RelV v u)
  (h:∀s',Inv X pins (σ.set i (qI v)) H s'->Q () s') (hf:X.fn x=qK\/X.env.scope.names.lookup x=qI .local:=by first |exact .inl rfl |exact .inr rfl |assumption):jq M A (storeName X.env x u) Q E s:=
 zgh_ I hN hi hx r (λs' I' _=>h s' I') hf
theorem Inv.call' {s':iM}{ch:List iQ}(I:Inv X pins σ H s)(ho:s'.os=s.os)(u:Un (frs X.stack) ch H H' s.heap s'.heap)(hok:HOk X.prog X.w H' s'.heap)(hg:AllBare s'.gens)
  (bB:∀b∈ch,(b∈X.ex\/X.s₀.heap.objs.size<=b)/\b≠X.env.locals/\(∀x c,X.env.cells.lookup x=qI c->c≠b)/\∀p∈X.pn++pins,p.1≠b):Inv X pins σ H' s':=by
 obtain⟨h',g',d',t',o'⟩:=s';have e:o'=s.os:=ho;subst e;exact I.call (g':=g') (t':=t') (d':=d') u hok hg bB
end
abbrev XK:=fv->Option iQ->Hp->Prop
noncomputable abbrev St:=List (Option V)
abbrev VK:=V->Hp->Prop
abbrev TE:=St->Hp->VK->Prop
abbrev TT:=St->Hp->(Bool->Hp->Prop)->Prop
abbrev TA:=St->Hp->(List V->Hp->Prop)->Prop
structure Ends where
 nx:St->Hp->Prop
 rt:VK
 bk:St->Hp->Prop:=λ_ _=>False
 ct:St->Hp->Prop:=λ_ _=>False
abbrev TS:=Ends->St->Hp->Prop
def EP (X:Cx)(pins:Pnn)(σ:St)(Q:VK)(u:fv)(s':iM):Prop:=∃v H',Inv X pins σ H' s'/\RelV v u/\Q v H'
def TP (X:Cx)(pins:Pnn)(σ:St)(Q:Bool->Hp->Prop)(b:Bool)(s':iM):Prop:=∃H',Inv X pins σ H' s'/\Q b H'
def AP (X:Cx)(pins:Pnn)(σ:St)(Q:List V->Hp->Prop)(us:List fv)(s':iM):Prop:=∃vs H',Inv X pins σ H' s'/\Vals vs us/\Q vs H'
def SP (X:Cx)(pins:Pnn)(D:Ends)(f:Flow)(s':iM):Prop:=
 match f with
 |.next=>∃ab H',Inv X pins ab H' s'/\D.nx ab H'
 |.brk=>∃ab H',Inv X pins ab H' s'/\D.bk ab H'
 |.cont=>∃ab H',Inv X pins ab H' s'/\D.ct ab H'
 |.ret u=>∃v ab H',Inv X pins ab H' s'/\RelV v u/\D.rt v H'
def PE (X:Cx)(e:i4)(t:TE):Prop:=
 ∀(pins:Pnn) (s:iM) (σ:St) (H:Hp) (Q:VK),Inv X pins σ H s->t σ H Q->jq (model X.prog X.w) X.A (eval e X.env) (EP X pins σ Q) X.xe s
def PT (X:Cx)(e:i4)(t:TT):Prop:=
 ∀(pins:Pnn) (s:iM) (σ:St) (H:Hp) (Q:Bool->Hp->Prop),Inv X pins σ H s->t σ H Q->jq (model X.prog X.w) X.A (isTrue e X.env (eval e X.env)) (TP X pins σ Q) X.xe s
def PW (X:Cx)(e:i4)(t:TT):Prop:=
 ∀(whole:Sem fv) (pins:Pnn) (s:iM) (σ:St) (H:Hp) (Q:Bool->Hp->Prop),Inv X pins σ H s->t σ H Q->jq (model X.prog X.w) X.A (isTrue e X.env whole) (TP X pins σ Q) X.xe s
theorem PW.pt {X:Cx}{e:i4}{t:TT}(h:PW X e t):PT X e t:=h _
def PA (X:Cx)(es:List i4)(t:TA):Prop:=
 ∀(pos:Pos) (pins:Pnn) (s:iM) (σ:St) (H:Hp) (Q:List V->Hp->Prop),Inv X pins σ H s->t σ H Q->jq (model X.prog X.w) X.A (spliced (kz pos (jo es X.env))) (AP X pins σ Q) X.xe s
def PS (X:Cx)(st:jI)(t:TS):Prop:=
 ∀(pins:Pnn) (s:iM) (σ:St) (H:Hp) (D:Ends),Inv X pins σ H s->t D σ H->jq (model X.prog X.w) X.A (exec st X.env) (SP X pins D) X.xe s
def PSs (X:Cx)(st:List jI)(t:TS):Prop:=
 ∀(pins:Pnn) (s:iM) (σ:St) (H:Hp) (D:Ends),Inv X pins σ H s->t D σ H->jq (model X.prog X.w) X.A (execs st X.env) (SP X pins D) X.xe s
theorem thn {α:Type}{t:Sem α}{Q Q':α->iM->Prop}{M:Model}{A:j3}{E:fv->iM->Prop}{s:iM}(h:jq M A t Q E s)(hQ:∀a s,Q a s->Q' a s):jq M A t Q' E s:=kr h hQ λ_ _ x=>x
section
variable {X:Cx}
def tVar (i:Nat):TE:=λσ H Q=>∃v,σ[i]?=qI (qI v)/\Q v H
def tC (v:V):TE:=λ_ H Q=>Q v H
theorem zov_ {i:Nat}{x:Str}{pos:Pos}(hN:X.N[i]?=qI x)(hv:Vis X.env.scope x)(hd:(x==("__debug__":Str))=qL:=by decide)(au:(x==("__classdict__":Str))=qL:=by decide):PE X (.Name x pos) (tVar i):=by
 intro pins s σ H Q I h;obtain⟨v,e,h⟩:=h;obtain⟨m,hn,hl⟩:=I.loc;obtain⟨u,r,l⟩:=hl i x v hN e hv;have fin:EP X pins σ Q u s:=⟨v,H,I,r,h⟩;rcases l with⟨hk,hm⟩|⟨hk,c,hc,aV⟩
 ·exact wpAny_Name (wpAny_loadName_local I.ok.kind hk hn hm fin) hd
 ·rcases hk with hk |hk
  ·exact wpAny_Name (wpAny_loadName_cell I.ok.kind hk hc aV fin) hd
  ·exact wpAny_Name (wpAny_loadName_free I.ok.kind hk hc aV fin au) hd
theorem zo3_ {i j pos}:PE X (.Constant (.int i) j pos) (tC (.int i)):=λ_ _ _ H _ I h=>wpAny_Constant_int ⟨.int i,H,I.tok _,⟨_,rfl⟩,h⟩
theorem pe_bl {b j pos}:PE X (.Constant (.bool b) j pos) (tC (.bl b)):=λ_ _ _ H _ I h=>Constant_bool ⟨.bl b,H,I,rfl,h⟩
theorem zoN_ {j pos}:PE X (.Constant .none j pos) (tC .non):=λ_ _ _ H _ I h=>Constant_none ⟨.non,H,I,rfl,h⟩
theorem zo4_ {x j pos}:PE X (.Constant (.str x) j pos) (tC (.str x)):=λ_ _ _ H _ I h=>Calls.Constant_str ⟨.str x,H,I.tok _,⟨_,rfl⟩,h⟩
def Gl (X:Cx)(x:Str):Prop:=X.env.kindOf x=qI .globalImplicit
theorem zc8_ {E:fv->iM->Prop}{pins:Pnn}{s:iM}{σ:St}{H:Hp}{x:Str}{u:fv}{pos:Pos}{Q:fv->iM->Prop}(I:Inv X pins σ H s)(hg:Gl X x)(hm:X.mg x=qI u)(h:Q u s)
  (hd:(x==("__debug__":Str))=qL:=by decide):jq (model X.prog X.w) X.A (eval (.Name x pos) X.env) Q E s:=
 Calls.Name_function_global I.ok.kind hg (Calls.loadGlobal_global (by rw[I.ok.glob];exact I.mod.glob.keeps I.bk) hm h) hd
theorem zgj_ {E:fv->iM->Prop}{pins:Pnn}{s:iM}{σ:St}{H:Hp}{x:Str}{u:fv}{pos:Pos}{Q:fv->iM->Prop}(I:Inv X pins σ H s)(hg:Gl X x)(hm:X.mg x=qJ)(hv:k9 x=qI u)(h:Q u s)
  (hn:x ≠ "__name__":=by decide) (hd:(x==("__debug__":Str))=qL:=by decide):jq (model X.prog X.w) X.A (eval (.Name x pos) X.env) Q E s:=by
 obtain⟨mb,h1,h2⟩:=I.mod.blt;exact Calls.Name_function_global I.ok.kind hg (Calls.loadGlobal_builtin (by rw[I.ok.glob];exact I.mod.glob.keeps I.bk) hm (by rw[I.ok.blt];exact h1.keeps I.bk) ((h2 x hn).trans hv) h) hd
theorem zhD_ {x:Str}{v:V}{u:fv}{pos:Pos}(hg:Gl X x)(hm:X.mg x=qI u)(r:RelV v u)(hd:(x==("__debug__":Str))=qL:=by decide):PE X (.Name x pos) (tC v):=
 λ_ _ _ H _ I h=>zc8_ I hg hm ⟨v,H,I,r,h⟩ hd
theorem zke_ {x:Str}{v:V}{u:fv}{pos:Pos}(hg:Gl X x)(hm:X.mg x=qJ)(hv:k9 x=qI u)(r:RelV v u)(hn:x ≠ "__name__":=by decide)(hd:(x==("__debug__":Str))=qL:=by decide):PE X (.Name x pos) (tC v):=
 λ_ _ _ H _ I h=>zgj_ I hg hm hv ⟨v,H,I,r,h⟩ hn hd
variable {a:i4}{pos:Pos}
variable {tA:TT}
def tNot (t:TT):TT:=λσ H Q=>t σ H λc H1=>Q (!c) H1
theorem zk2_ (ha:PT X a tA):PW X (.BoolOp .And [a] pos) tA:=by
 intro wh pins s σ H Q I h;refine isTrue_and (thn (ha pins s σ H Q I h) λc s1 e=>?_)
 cases c with
 |true=>exact isTrue_and_nil e
 |false=>exact e
theorem znd_ (ha:PT X a tA):PW X (.BoolOp .Or [a] pos) tA:=by
 intro wh pins s σ H Q I h;refine isTrue_or (thn (ha pins s σ H Q I h) λc s1 e=>?_)
 cases c with
 |false=>exact isTrue_or_nil e
 |true=>exact e
theorem zna_ (ha:PT X a tA):PT X (.UnaryOp .Not a pos) (tNot tA):=by
 intro pins s σ H Q I h;exact isTrue_not (ha pins s σ H (λc H1=>Q (!c) H1) I h)
theorem zj7_ {op}{t:TE}(h:PE X a t):PE X (.BoolOp op [a] pos) t:=λpins s σ H Q I hw=>BoolOp_one (h pins s σ H Q I hw)
end
def SqL (K:Fgg)(H:Hp)(a:iQ)(xs:List V):Prop:=
 Rd H a (.lst xs) \/
  ∃(o:oN) (its:Array fv) (n:Nat),K.lookup a=qI o/\o.cls=.type "list" /\ o.dict=qJ/\o.data=.seq its n/\its.size<=iZ/\Vals xs its.toList
def SqT (K:Fgg)(H:Hp)(a:iQ)(xs:List V):Prop:=
 Rd H a (.tup xs) \/
  ∃(o:oN) (its:Array fv) (n:Nat),K.lookup a=qI o/\o.cls=.type "tuple" /\ o.data=.seq its n/\its.size<=iZ/\Vals xs its.toList
noncomputable def absV:fv->Option V
 |.none=>qI .non
 |.bool b=>qI (.bl b)
 |.int i _=>qI (.int i)
 |.str x _=>qI (.str x)
 |.bytes b _=>qI (.byt b)
 |.float b _=>qI (.flt b)
 |.ref a=>qI (.ref a)
 |.type n=>qI (.ty n)
 |_=>qJ
theorem RelV.abs {x:V}{u:fv}(r:RelV x u):absV u=qI x:=by
 cases x with
 |non=>cases r;rfl
 |bl _=>cases r;rfl
 |int _=>obtain⟨t,rfl⟩:=r;rfl
 |str _=>obtain⟨t,rfl⟩:=r;rfl
 |byt _=>obtain⟨t,rfl⟩:=r;rfl
 |flt _=>obtain⟨t,rfl⟩:=r;rfl
 |ref _=>cases r;rfl
 |ty _=>cases r;rfl
theorem RelV.inj {x y:V}{u:fv}(r:RelV x u)(q:RelV y u):x=y:=jv (r.abs.symm.trans q.abs)
theorem Vals.inj:∀{xs ys:List V}{us:List fv},Vals xs us->Vals ys us->xs=ys
 |_,_,_,.nil,.nil=>rfl
 |_,_,_,.cons r t,.cons r' t'=>by rw[r.inj r',Vals.inj t t']
section
variable {X:Cx}{pins:Pnn}{σ:St}{H:Hp}{s:iM}{a:iQ}{xs ys:List V}
theorem SqL.of {K:Fgg}(h:H a=qI (.lst xs)):SqL K H a xs:=.inl (.inl h)
theorem SqT.of {K:Fgg}(h:H a=qI (.tup xs)):SqT K H a xs:=.inl (.inl h)
theorem Inv.list (I:Inv X pins σ H s)(h:SqL X.K H a xs):∃its:List fv,Vals xs its/\PlainL s.heap a its.toArray/\xs.length<=iZ:=by
 rcases h with h |⟨o,its,n,hk,hc,hd,hs,hz,r⟩
 ·obtain⟨z,its,n,r,e⟩:=h.ok I.hok
  exact⟨its,r,⟨_,n,e,rfl,rfl,rfl⟩,z⟩
 ·refine⟨its.toList,r,⟨o,n,I.kIn a o hk,hc,hd,by simpa using hs⟩,?_⟩
  have e:=r.length;simp only[k6]at e;lia
theorem Inv.tuple (I:Inv X pins σ H s)(h:SqT X.K H a xs):∃its:List fv,Vals xs its/\IsTup s.heap a its.toArray/\xs.length<=iZ:=by
 rcases h with h |⟨o,its,n,hk,hc,hs,hz,r⟩
 ·obtain⟨z,its,r,p⟩:=h.ok I.hok
  exact⟨its,r,p,z⟩
 ·refine⟨its.toList,r,⟨o,I.kIn a o hk,hc,n,by simpa using hs⟩,?_⟩
  have e:=r.length;simp only[k6]at e;lia
theorem Inv.list_inj (I:Inv X pins σ H s)(h:SqL X.K H a xs)(h':SqL X.K H a ys):xs=ys:=by
 obtain⟨its,r,⟨o,n,e,_,_,d⟩,_⟩:=I.list h;obtain⟨its',r',⟨o',n',e',_,_,d'⟩,_⟩:=I.list h';rw[e]at e';cases e';rw[d]at d';injection d' with d1 _;have:its=its':=by simpa using congrArg nL d1
 subst this;exact r.inj r'
theorem Inv.tuple_inj (I:Inv X pins σ H s)(h:SqT X.K H a xs)(h':SqT X.K H a ys):xs=ys:=by
 obtain⟨its,r,⟨o,e,_,n,d⟩,_⟩:=I.tuple h;obtain⟨its',r',⟨o',e',_,n',d'⟩,_⟩:=I.tuple h';rw[e]at e';cases e';rw[d]at d';injection d' with d1 _;have:its=its':=by simpa using congrArg nL d1
 subst this;exact r.inj r'
end
noncomputable abbrev Cx.wish (X:Cx)(E:fv->iM->Prop):Cx:={X with xe:=E}
abbrev Cx.nox (X:Cx):Cx:=X.wish λ_ _=>False
theorem Cx.Ok.wish {X:Cx}(ok:X.Ok)(E:fv->iM->Prop):(X.wish E).Ok:=
 ⟨ok.mod,ok.kind,ok.glob,ok.blt,ok.above,ok.inj,ok.has,ok.cab,ok.hd,ok.frames,ok.stk,ok.exf,ok.bs,ok.bsz,ok.noex,ok.exfs,ok.funs,ok.frf,ok.tb⟩
theorem Cx.Ok.unwish {X:Cx}{E:fv->iM->Prop}(ok:(X.wish E).Ok):X.Ok:=
 ⟨ok.mod,ok.kind,ok.glob,ok.blt,ok.above,ok.inj,ok.has,ok.cab,ok.hd,ok.frames,ok.stk,ok.exf,ok.bs,ok.bsz,ok.noex,ok.exfs,ok.funs,ok.frf,ok.tb⟩
section
variable {X:Cx}{pins:Pnn}{σ:St}{H:Hp}{s:iM}{E:fv->iM->Prop}
theorem Inv.wish (I:Inv X pins σ H s)(E:fv->iM->Prop):Inv (X.wish E) pins σ H s:=⟨I.ok.wish E,I.os,I.bare,I.base,I.loc,I.cell,I.free,I.freeC,I.pin,I.hok,I.len⟩
theorem Inv.unwish (I:Inv (X.wish E) pins σ H s):Inv X pins σ H s:=⟨I.ok.unwish,I.os,I.bare,I.base,I.loc,I.cell,I.free,I.freeC,I.pin,I.hok,I.len⟩
theorem SP.unwish {D:Ends}{f:Flow}{s':iM}(h:SP (X.wish E) pins D f s'):SP X pins D f s':=by
 cases f with
 |next=>obtain⟨ab,H',I,q⟩:=h;exact⟨ab,H',I.unwish,q⟩
 |brk=>obtain⟨ab,H',I,q⟩:=h;exact⟨ab,H',I.unwish,q⟩
 |cont=>obtain⟨ab,H',I,q⟩:=h;exact⟨ab,H',I.unwish,q⟩
 |ret u=>obtain⟨v,ab,H',I,r,q⟩:=h;exact⟨v,ab,H',I.unwish,r,q⟩
end
section
variable {X:Cx}{st:jI}{rest:List jI}{t u:TS}{e:i4}{te:TE}{pos:Pos}
def tNext:TS:=λD σ H=>D.nx σ H
def tSeq (t u:TS):TS:=λD σ H=>t {D with nx:=u D} σ H
theorem zlZ_:PSs X [] tNext:=λ_ _ σ H _ I h=>wpAny_execs_nil ⟨σ,H,I,h⟩
theorem ziS_ (h1:PS X st t)(h2:PSs X rest u):PSs X (st::rest) (tSeq t u):=by
 intro pins s σ H D I h;refine wpAny_execs_cons (thn (h1 pins s σ H {D with nx:=u D} I h) λf s1 q=>?_)
 cases f with
 |next=>
  obtain⟨ab,H',I',q⟩:=q;exact h2 pins s1 ab H' D I' q
 |ret v=>exact q
 |brk=>exact q
 |cont=>exact q
theorem zl8_:PS X (.Pass pos) tNext:=λ_ _ σ H _ I h=>wpAny_Pass ⟨σ,H,I,h⟩
theorem Inv.quiet {pins:Pnn}{σ:St}{H:Hp}{s:iM}(I:Inv X pins σ H s):interactive X.env=qL:=by simp[interactive,I.ok.kind]
theorem zoX_ {x j pos pos'}:PS X (.Expr (.Constant (.str x) j pos) pos') tNext:=λ_ s σ H _ I h=>wpAny_Expr (Calls.Constant_str (show SP X _ _ .next {s with toks:=s.toks+1}from⟨σ,H,I.tok _,h⟩)) I.quiet
def tDrop (te:TE):TS:=λD σ H=>te σ H λ_ H1=>D.nx σ H1
theorem zkT_ (he:PE X e te)(hs:swapsWith e qJ pos.line X.env=pure qL:=by rfl):PS X (.Expr e pos) (tDrop te):=by
 intro pins s σ H D I h;exact wpAny_Expr_any (thn (he pins s σ H _ I h) λv s1 ⟨x,H1,I1,r1,q1⟩=>⟨σ,H1,I1,q1⟩) I.quiet hs
def tRet (te:TE):TS:=λD σ H=>te σ H D.rt
theorem zpq_ (he:PE X e te):PS X (.Return (qI e) pos) (tRet te):=by
 intro pins s σ H D I h;exact wpAny_Return_some (thn (he pins s σ H _ I h) λv s1 ⟨x,H1,I1,r1,q1⟩=>⟨x,σ,H1,I1,r1,q1⟩)
def tRetN:TS:=λD _ H=>D.rt .non H
theorem zl0_:PS X (.Return qJ pos) tRetN:=λ_ _ σ H _ I h=>wpAny_Return_none ⟨.non,σ,H,I,rfl,h⟩
def tNever:TS:=λ_ _ _=>False
theorem ziK_:PS X st tNever:=λ_ _ _ _ _ _ h=>h.elim
end
abbrev TG:=V->St->Hp->(St->Hp->Prop)->Prop
abbrev TGs:=List V->St->Hp->(St->Hp->Prop)->Prop
def PG (X:Cx)(target:i4)(t:TG):Prop:=
 ∀(pins:Pnn) (s:iM) (σ:St) (H:Hp) (v:V) (u:fv) (Q:St->Hp->Prop),Inv X pins σ H s->RelV v u->t v σ H Q ->
  jq (model X.prog X.w) X.A (assign target X.env u) (λ_ s'=>∃ab H',Inv X pins ab H' s'/\Q ab H') X.xe s
def PGs (X:Cx)(ts:List i4)(t:TGs):Prop:=
 ∀(pins:Pnn) (s:iM) (σ:St) (H:Hp) (vs:List V) (us:List fv) (Q:St->Hp->Prop),Inv X pins σ H s->Vals vs us->t vs σ H Q ->
  jq (model X.prog X.w) X.A (assignInOrder ((kE ts X.env).map (·.2)) us) (λ_ s'=>∃ab H',Inv X pins ab H' s'/\Q ab H') X.xe s
abbrev TSet:=V->V->V->Hp->(Hp->Prop)->Prop
def PSet (X:Cx)(t:TSet):Prop:=
 ∀(pins:Pnn) (s:iM) (σ:St) (H:Hp) (o i v:V) (ov iv u:fv) (Q:Hp->Prop),Inv X pins σ H s->RelV o ov->RelV i iv->RelV v u->t o i v H Q ->
  jq (model X.prog X.w) X.A (setItem ov iv u) (λ_ s'=>∃H',Inv X pins σ H' s'/\Q H') X.xe s
section
variable {X:Cx}{pos:Pos}
def gName (i:Nat):TG:=λv σ H Q=>Q (σ.set i (qI v)) H
theorem zmK_ {i:Nat}{x:Str}(hN:X.N.Nodup)(hi:X.N[i]?=qI x)(hx:Loc X.env.scope x)(hf:X.fn x=qK\/X.env.scope.names.lookup x=qI .local:=by first |exact .inl rfl |exact .inr rfl |assumption):PG X (.Name x pos) (gName i):=by
 intro pins s σ H v u Q I r h;exact wpAny_assign_Name (zfK_ I hN hi hx r (λs' I'=>⟨_,H,I',h⟩) hf)
def gNil:TGs:=λvs σ H Q=>vs=[]/\Q σ H
def gCons (t:TG)(u:TGs):TGs:=λvs σ H Q=>∃v r,vs=v::r/\t v σ H λab H'=>u r ab H' Q
theorem zmR_:PGs X [] gNil:=by
 intro pins s σ H vs us Q I r h;obtain⟨e,h⟩:=h;subst e;cases r;exact assignInOrder_nil ⟨σ,H,I,h⟩
theorem zjI_ {e:i4}{es:List i4}{t:TG}{u:TGs}(h1:PG X e t)(h2:PGs X es u)
  (hs:(kE (e::es) X.env).map (·.2)=assign e X.env::(kE es X.env).map (·.2):=by rfl):PGs X (e::es) (gCons t u):=by
 intro pins s σ H vs us Q I r h;obtain⟨v,vr,e1,h⟩:=h;subst e1;cases r with
 |cons r rr=>
  rw[hs];refine assignInOrder_cons (thn (h1 pins s σ H _ _ _ I r h) λ_ s1 ae=>?_)
  obtain⟨cu,H1,I1,q1⟩:=ae;exact h2 pins s1 cu H1 _ _ Q I1 rr q1
def gTup (K:Fgg)(n:Nat)(t:TGs):TG:=λv σ H Q=>∃a xs,v=.ref a/\SqT K H a xs/\xs.length=n/\t xs σ H Q
theorem zoU_ {es:List i4}{k:Nat}{t:TGs}{n:Nat}(hc:X.calm=qK)(h:PGs X es t)
  (hn:(kE es X.env).length=n:=by rfl) (bO:(kE es X.env).findIdx? (·.1)=qJ:=by rfl):PG X (.Tuple es k pos) (gTup X.K n t):=by
 intro pins s σ H v u Q I r hw;obtain⟨a,xs,e1,hq,hl,hw⟩:=hw;subst e1;cases r;obtain⟨its,rv,ht,hz⟩:=I.tuple hq;refine assign_Tuple_tuple (I.ok.hd hc) ht (by simp[hn,<- hl,rv.length]) bO λh' hx=>?_
 have I1:Inv X pins σ H {s with heap:=h'}:=I.kept (t':=s.toks) λb o e=>hx b o (jQ (i9 e)) e
 exact h pins _ σ H xs _ Q I1 (by simpa using rv) hw
def gSub (to ti:TE)(t:TSet):TG:=λv σ H Q=>to σ H λo H1=>ti σ H1 λi H2=>t o i v H2 λH3=>Q σ H3
theorem znE_ {o i:i4}{to ti:TE}{t:TSet}(ho:PE X o to)(hi:PE X i ti)(hs:PSet X t)
  (ha:∀v,assign (.Subscript o i pos) X.env v=(do
   let ov <- holding [v] (eval o X.env)
   let iv <- holding [v,ov] (eval i X.env)
   standAt pos
   holding [v,ov,iv] (setItem ov iv v)
   release [v,ov,iv] []):=by intro _;rfl):PG X (.Subscript o i pos) (gSub to ti t):=by
 intro pins s σ H v u Q I r h;rw[ha];refine iX (wpAny_holding (thn (ho pins s σ H _ I h) λov s1 ae=>?_))
 obtain⟨x,H1,I1,r1,q1⟩:=ae;refine iX (wpAny_holding (thn (hi pins s1 σ H1 _ I1 q1) λiv s2 ae=>?_))
 obtain⟨y,H2,I2,r2,q2⟩:=ae;refine iX (wpAny_standAt (iX (wpAny_holding (thn (hs pins s2 σ H2 x y v ov iv u _ I2 r1 r2 r q2) λ_ s3 ae=>?_))))
 obtain⟨H3,I3,q3⟩:=ae;exact wpAny_release ⟨σ,H3,I3,q3⟩
def tAsg (te:TE)(g:TG):TS:=λD σ H=>te σ H λx H1=>g x σ H1 D.nx
theorem zoT_ {tg e:i4}{te:TE}{g:TG}(he:PE X e te)(hg:PG X tg g)(hs:swapsWithSole [tg] e pos.line X.env=pure qL:=by rfl)(hw:swappedStores [tg] e X.env=pure qJ:=by rfl)
  (h1:(kE [tg] X.env).map (·.2)=[assign tg X.env]:=by rfl):PS X (.Assign [tg] e pos) (tAsg te g):=by
 intro pins s σ H D I h;refine wpAny_Assign_stores (thn (he pins s σ H _ I h) λv s1 ae=>?_) hs hw
 obtain⟨x,H1,I1,r1,q1⟩:=ae;rw[h1];exact thn (hg pins s1 σ H1 x v _ I1 r1 q1) λ_ s2 q=>q
theorem zlT_ {i:Nat}{x:Str}{e:i4}{te:TE}{pos':Pos}(hN:X.N.Nodup)(hi:X.N[i]?=qI x)(hx:Loc X.env.scope x)(he:PE X e te)(hs:swapsWith e (qI (.Name x pos')) pos.line X.env=pure qL:=by rfl)(hf:X.fn x=qK\/X.env.scope.names.lookup x=qI .local:=by first |exact .inl rfl |exact .inr rfl |assumption):
  PS X (.Assign [.Name x pos'] e pos) (tAsg te (gName i)):=by
 intro pins s σ H D I h;refine wpAny_Assign_Name (thn (he pins s σ H _ I h) λv s1 ae=>?_) hs
 obtain⟨y,H1,I1,r1,q1⟩:=ae;exact zfK_ I1 hN hi hx r1 (λs2 I2=>⟨_,H1,I2,q1⟩) hf
def tWhile (c:TT)(tb:TS):TS:=λD σ H=>∃W:Nat->St->Hp->Prop,(∃m,W m σ H)/\∀m σ H,W m σ H ->
 c σ H λb H1=>if b=qK then∃N:St->Hp->Prop,(∀ab H',N ab H'->∃m',m'<m/\W m' ab H')/\tb {D with nx:=N,ct:=N,bk:=D.nx} σ H1 else D.nx σ H1
theorem zjm_ {c:i4}{body:List jI}{tc:TT}{tb:TS}(hp:PassesOwn (model X.prog X.w) X.A X.env X.xe)(hc:PT X c tc)(hb:PSs X body tb):PS X (.While c body [] pos) (tWhile tc tb):=by
 intro pins s σ H D I h;obtain⟨W,⟨m0,w0⟩,turn⟩:=h;refine wpAny_While (codeAny_whileLoop (λn s'=>∃ab H',Inv X pins ab H' s'/\W n ab H') ?_ m0 ⟨σ,H,I,w0⟩)
 rintro n s1 ⟨cu,H1,I1,w1⟩;refine lI hp (thn (hc pins s1 cu H1 _ I1 (turn n cu H1 w1)) λb s2 ae=>?_)
 obtain⟨H2,I2,q2⟩:=ae;cases b with
 |true=>
  obtain⟨N,hN,q2⟩:=q2;rw[if_pos rfl];refine lI hp (thn (hb pins s2 cu H2 _ I2 q2) λf s3 q3=>?_)
  cases f with
  |next=>
   obtain⟨aH,H3,I3,n3⟩:=q3;obtain⟨m',hm,w3⟩:=hN aH H3 n3;exact⟨m',hm,aH,H3,I3,w3⟩
  |cont=>
   obtain⟨aH,H3,I3,n3⟩:=q3;obtain⟨m',hm,w3⟩:=hN aH H3 n3;exact⟨m',hm,aH,H3,I3,w3⟩
  |brk=>exact q3
  |ret v=>exact q3
 |false=>
  rw[if_neg jX];exact wpAny_execs_nil ⟨cu,H2,I2,q2⟩
end
structure It where
 go:Nat->Hp->Prop
 yld:Nat->Hp->V->Hp->Prop
 stop:Nat->Hp->Prop
def FpOk (X:Cx)(pins:Pnn)(H:Hp)(b:iQ):Prop:=
 H b=qJ/\b≠X.env.locals/\b∉X.fs/\(b∈X.ex\/X.s₀.heap.objs.size<=b)/\(∀x c,X.env.cells.lookup x=qI c->c≠b)/\∀p∈X.pn++pins,p.1≠b
theorem Inv.fpOk {X:Cx}{pins:Pnn}{σ:St}{H H':Hp}{s:iM}{b:iQ}(I:Inv X pins σ H s)(hb:s.heap.objs.size<=b)(hn:H' b=qJ):FpOk X pins H' b:=by
 refine⟨hn,mR (jB I.lt hb),I.nofs hb,.inr (kH I.sz hb),λx c e z=>?_,λp hp z=>?_⟩
 ·obtain⟨v,q⟩:=I.cell x c e
  exact absurd (jB q.lt (by rw[z];exact hb)) (mh _)
 ·exact absurd (jB (i9 (I.pin p hp).1) (by rw[z];exact hb)) (mh _)
structure Turn (P:jr)(w:jH)(K:Fgg)(tg:i4)(J:It)(fp:List iQ)(it:iQ)(tn:Nat->Heap->Prop):Prop where
 mem:it∈fp
 obj:∀i h,tn i h->∀b∈fp,∃o,h.get? b=qI o/\∀v,o.data≠.cell v
 keep:∀i h h',tn i h->(∀b∈fp,∀o,h.get? b=qI o->h'.get? b=qI o)->tn i h'
 item:∀(X:Cx),X.prog=P->X.w=w->X.K=K->X.calm=qK->∀(i:Nat) (pins:Pnn) (s:iM) (σ:St) (H:Hp) (E:fv->iM->Prop),Inv X pins σ H s->(∀b∈fp,FpOk X pins H b)->tn i s.heap->J.go i H ->
  jq (model P w) X.A (pyNext (.ref it)) (λr s1=>∃u,r=qI u /\
   jq (model P w) X.A (letOwnedTupleGo tg (.ref it) u) (λ_ s2=>∃x H',Inv X pins σ H' s2/\RelV x u/\J.yld i H x H'/\tn (i+1) s2.heap/\∀b∈fp,H' b=qJ) E s1) E s
 done:∀(X:Cx),X.prog=P->X.w=w->X.K=K->X.calm=qK->∀(i:Nat) (pins:Pnn) (s:iM) (σ:St) (H:Hp) (E:fv->iM->Prop),Inv X pins σ H s->(∀b∈fp,FpOk X pins H b)->tn i s.heap->J.stop i H ->
  jq (model P w) X.A (pyNext (.ref it)) (λr s1=>r=qJ/\Inv X pins σ H s1) E s
 self:∀(A:j3) (i:Nat) (s:iM) (Q:fv->iM->Prop) (E:fv->iM->Prop),tn i s.heap->Q (.ref it) s->jq (model P w) A (pyIter (.ref it)) Q E s
abbrev TI:=St->Hp->(It->Hp->Prop)->Prop
def PIE (X:Cx)(pins:Pnn)(σ:St)(tg:i4)(R:It->Hp->Prop)(dS:fv)(s2:iM):Prop:=
 ∃(it:iQ) (fp:List iQ) (tn:Nat->Heap->Prop) (J:It) (H':Hp),dS=.ref it/\Inv X pins σ H' s2/\Turn X.prog X.w X.K tg J fp it tn/\tn 0 s2.heap/\(∀b∈fp,FpOk X pins H' b)/\R J H'
def PI (X:Cx)(tg iter:i4)(wi:TI):Prop:=
 ∀(pins:Pnn) (s:iM) (σ:St) (H:Hp) (R:It->Hp->Prop),Inv X pins σ H s->wi σ H R ->
  jq (model X.prog X.w) X.A (eval iter X.env) (λv s1=>jq (model X.prog X.w) X.A (pyIter v) (PIE X pins σ tg R) X.xe s1) X.xe s
theorem zmk_ {M:Model}{A:j3}{E:fv->iM->Prop}{s:iM}{tg:i4}{it:iQ}{u:fv}{o:oN}{n:String}{vs:Array fv}{Q:Unit->iM->Prop}(ho:s.heap.get? it=qI o)(hc:o.cls=.type n)(hd:o.data=.fields vs)
  (hn:["enumerate", "zip", "dict_itemiterator", "dict_reverseitemiterator", "odict_iterator", "itertools.zip_longest", "itertools.pairwise"].contains n=qL) (hQ:Q () s):jq M A (letOwnedTupleGo tg (.ref it) u) Q E s:=by
 unfold letOwnedTupleGo
 cases tg<;>first
  |exact je hQ
  | (cases u<;>first
    |exact je hQ
    | (refine iX (wpAny_load ho ?_)
       rw[hc,hd];show jq M A (if(["enumerate", "zip", "dict_itemiterator", "dict_reverseitemiterator", "odict_iterator", "itertools.zip_longest", "itertools.pairwise"].contains n && vs[0]?==qI (rawInt _))=qK then _ else _) Q E s
       rw[if_neg (by intro h;rw[hn,Bool.false_and]at h;cases h)]
       exact je hQ))
def Itl (K:Fgg)(a:iQ):It:=
 ⟨λi H=>∃xs x,SqL K H a xs/\xs[i]?=qI x,λi H x H'=>H'=H/\∀xs,SqL K H a xs->xs[i]?=qI x,λi H=>∃xs,SqL K H a xs/\xs.length<=i⟩
def Itt (K:Fgg)(a:iQ):It:=
 ⟨λi H=>∃xs x,SqT K H a xs/\xs[i]?=qI x,λi H x H'=>H'=H/\∀xs,SqT K H a xs->xs[i]?=qI x,λi H=>∃xs,SqT K H a xs/\xs.length<=i⟩
noncomputable def Itr (lo:Int)(n:Nat):It:=⟨λi _=>i<n,λi H x H'=>H'=H/\x=.int (lo+i),λi _=>n<=i⟩
theorem zgA_ {P:jr}{w:jH}{K:Fgg}{tg:i4}(a it:iQ):Turn P w K tg (Itl K a) [it] it (λi h=>h.IsListIter it a i) where
 mem:=by simp
 obj:=λi h st b hb=>by
  have e:b=it:=by simpa using hb
  subst e;obtain⟨o,e,c,d⟩:=st;exact⟨o,e,λv z=>by rw[d]at z;cases z⟩
 keep:=λi h h' st k=>st.at λo e=>k it (by simp) o e
 item:=by
  intro X hP hw hK hc i pins s σ H E I hf st hg;subst hP hw hK;obtain⟨xs,x,hq,hx⟩:=hg;obtain⟨its,rv,p,hz⟩:=I.list hq;obtain⟨u,hu,ru⟩:=rv.get hx;obtain⟨f0,f1,f2,f3,f4,f5⟩:=hf it (by simp)
  refine wpAny_pyNext_list_item st p.isList (x:=u) (by simpa using hu) λh' aK sb=>?_
  have I1:Inv X pins σ H {s with heap:=h'}:=I.turned (t':=s.toks) (λb o hb e=>(sb.2 b hb).trans e) f0 f1 f3 f4 f5
  obtain⟨o,e,c,d⟩:=id aK;exact⟨u,rfl,zmk_ (s:={s with heap:=h'}) e c d (by decide) ⟨x,H,I1,ru,⟨rfl,λys hy=>by rw[I.list_inj hy hq];exact hx⟩,aK,λb hb=>(hf b hb).1⟩⟩
 done:=by
  intro X hP hw hK hc i pins s σ H E I hf st hg;subst hP hw hK;obtain⟨xs,hq,hx⟩:=hg;obtain⟨its,rv,p,hz⟩:=I.list hq;obtain⟨f0,f1,f2,f3,f4,f5⟩:=hf it (by simp)
  have hl:=rv.length;exact wpAny_pyNext_list_end (I.ok.hd hc) st p.isList (by simp;lia) λh' eb=>⟨rfl,I.turned (t':=s.toks) (λb o hb e=>eb b o hb e) f0 f1 f3 f4 f5⟩
 self:=λ_ _ _ _ _ st h=>wpAny_pyIter_listiter st h
theorem ze9_ {P:jr}{w:jH}{K:Fgg}{tg:i4}(a it:iQ):Turn P w K tg (Itt K a) [it] it (λi h=>h.IsTupleIter it a i) where
 mem:=by simp
 obj:=λi h st b hb=>by
  have e:b=it:=by simpa using hb
  subst e;obtain⟨o,e,c,d⟩:=st;exact⟨o,e,λv z=>by rw[d]at z;cases z⟩
 keep:=λi h h' st k=>st.at λo e=>k it (by simp) o e
 item:=by
  intro X hP hw hK hc i pins s σ H E I hf st hg;subst hP hw hK;obtain⟨xs,x,hq,hx⟩:=hg;obtain⟨its,rv,p,hz⟩:=I.tuple hq;obtain⟨u,hu,ru⟩:=rv.get hx;obtain⟨f0,f1,f2,f3,f4,f5⟩:=hf it (by simp)
  refine wpAny_pyNext_tuple_item st (show s.heap.IsTuple a its.toArray from p) (x:=u) (by simpa using hu) λh' aK sb=>?_
  have I1:Inv X pins σ H {s with heap:=h'}:=I.turned (t':=s.toks) (λb o hb e=>(sb.2 b hb).trans e) f0 f1 f3 f4 f5
  obtain⟨o,e,c,d⟩:=id aK;exact⟨u,rfl,zmk_ (s:={s with heap:=h'}) e c d (by decide) ⟨x,H,I1,ru,⟨rfl,λys hy=>by rw[I.tuple_inj hy hq];exact hx⟩,aK,λb hb=>(hf b hb).1⟩⟩
 done:=by
  intro X hP hw hK hc i pins s σ H E I hf st hg;subst hP hw hK;obtain⟨xs,hq,hx⟩:=hg;obtain⟨its,rv,p,hz⟩:=I.tuple hq;obtain⟨f0,f1,f2,f3,f4,f5⟩:=hf it (by simp)
  have hl:=rv.length;exact wpAny_pyNext_tuple_end (I.ok.hd hc) st (show s.heap.IsTuple a its.toArray from p) (by simp;lia) λh' eb=>⟨rfl,I.turned (t':=s.toks) (λb o hb e=>eb b o hb e) f0 f1 f3 f4 f5⟩
 self:=λ_ _ _ _ _ st h=>wpAny_pyIter_tupleiter st h
theorem zfV_ {P:jr}{w:jH}{K:Fgg}{tg:i4}(it:iQ)(lo:Int)(n:Nat):Turn P w K tg (Itr lo n) [it] it (λi h=>IsRangeIter h it (lo+(i:Nat)*1) ((n:Int)-(i:Nat)) 1) where
 mem:=by simp
 obj:=λi h st b hb=>by
  have e:b=it:=by simpa using hb
  subst e;exact⟨_,st,λv z=>by
   have z':Data.fields _=Data.cell v:=z;cases z'⟩
 keep:=λi h h' st k=>k it (by simp) _ st
 item:=by
  intro X hP hw hK hc i pins s σ H E I hf st hg;subst hP hw hK;obtain⟨f0,f1,f2,f3,f4,f5⟩:=hf it (by simp)
  have W:=Walks.range (prog:=X.prog) (w:=X.w) (I.ok.hd hc) it lo 1 n;refine W.item i s _ _ hg st λv h' tk hv aK kk=>?_
  obtain⟨t,rfl⟩:=hv;have I1:Inv X pins σ H {s with heap:=h',toks:=tk}:=I.turned (λb o hb e=>kk b o (by simpa using hb) e) f0 f1 f3 f4 f5
  refine⟨_,rfl,zmk_ (s:={s with heap:=h',toks:=tk}) (n:="range_iterator") aK rfl rfl (by decide) ⟨.int (lo+i),H,I1,⟨t,?_⟩,⟨rfl,rfl⟩,aK,λb hb=>(hf b hb).1⟩⟩
  rw[Int.mul_one]
 done:=by
  intro X hP hw hK hc i pins s σ H E I hf st hg;subst hP hw hK;obtain⟨f0,f1,f2,f3,f4,f5⟩:=hf it (by simp)
  exact wpAny_pyNext_range_end (I.ok.hd hc) st (by have:n<=i:=hg;lia) λh' eb=>⟨rfl,I.turned (t':=s.toks) (λb o hb e=>eb b o hb e) f0 f1 f3 f4 f5⟩
 self:=λ_ _ _ _ _ st h=>wpAny_pyIter_rangeiter st h
section
variable {X:Cx}{tg:i4}
theorem zie_ {pins:Pnn}{σ:St}{H:Hp}{s:iM}{R:It->Hp->Prop}{E:fv->iM->Prop}{lo hi:Int}{t u v:Tok}{tk:Nat}(I:Inv X pins σ H s)(h1 : -(2 ^ 62)<=lo)(h2:lo<2 ^ 62)(h3 : -(2 ^ 62)<=hi)(h4:hi<2 ^ 62)
  (q:R (Itr lo (hi-lo).toNat) H):jq (model X.prog X.w) X.A (pyIter (.ref s.heap.objs.size)) (PIE X pins σ tg R) E {s with heap:=s.heap.push {cls:=.type "range",data:=.fields #[.int lo t,.int hi u,.int 1 v]},toks:=tk}:=by
 refine wpAny_pyIter_range (IsRange.new ..) (small_one h1 h2 h3 h4) ?_;have I1:Inv X pins σ H {s with heap:=s.heap.push {cls:=.type "range",data:=.fields #[.int lo t,.int hi u,.int 1 v]},toks:=tk}:=I.kept λb o e=>iU _ e
 refine⟨(s.heap.push {cls:=.type "range",data:=.fields #[.int lo t,.int hi u,.int 1 v]}).objs.size,[(s.heap.push {cls:=.type "range",data:=.fields #[.int lo t,.int hi u,.int 1 v]}).objs.size],_,_,H,rfl,
  I1.kept (t':=tk) λb o e=>iU _ e,zfV_ _ lo (hi-lo).toNat,?_,λb hb=>?_,q⟩
 ·have e1:lo+((0:Nat):Int)*1=lo:=by simp
  have e2:(((hi-lo).toNat:Nat):Int)-((0:Nat):Int)=ny lo hi 1:=by rw[rangeSize_one];split<;>omega
  show IsRangeIter _ _ (lo+((0:Nat):Int)*1) ((((hi-lo).toNat:Nat):Int)-((0:Nat):Int)) 1
  rw[e1,e2];exact jj _ rfl
 ·have e:b=(s.heap.push {cls:=.type "range",data:=.fields #[.int lo t,.int hi u,.int 1 v]}).objs.size:=by simpa using hb
  subst e;exact I1.fpOk (iW _) (I1.hok.fresh (iW _))
def tFor (wi:TI)(g:TG)(tb:TS):TS:=λD σ H=>wi σ H λJ H1=>∃W:Nat->Nat->St->Hp->Prop,(∃m,W 0 m σ H1)/\∀i m σ H,W i m σ H ->
 (J.stop i H/\D.nx σ H)\/(J.go i H/\∃N:St->Hp->Prop,(∀ab H',N ab H'->∃m',m'<m/\W (i+1) m' ab H')/\∀x H',J.yld i H x H'->g x σ H' λcq H2=>tb {D with nx:=N,ct:=N,bk:=D.nx} cq H2)
def pinsAt (fp:List iQ)(h:Heap):Pnn:=fp.filterMap λb=>(h.get? b).map λo=>(b,o)
theorem zbf_ {fp:List iQ}{h:Heap}{b:iQ}{o:oN}(hb:b∈fp)(e:h.get? b=qI o):(b,o)∈pinsAt fp h:=oK.mpr ⟨b,hb,by rw[e];rfl⟩
theorem zgK_ {fp:List iQ}{h:Heap}{p:iQ×oN}(hp:p∈pinsAt fp h):p.1∈fp/\h.get? p.1=qI p.2:=by
 obtain⟨b,hb,e⟩:=oK.mp hp;cases q:h.get? b with
 |none=>rw[q]at e;cases e
 |some o=>
  rw[q]at e;have e':(b,o)=p:=jv e;subst e';exact⟨hb,q⟩
theorem Inv.pinned {pins:Pnn}{σ:St}{H:Hp}{s:iM}{fp:List iQ}(I:Inv X pins σ H s)(hf:∀b∈fp,FpOk X pins H b)(ho:∀b∈fp,∃o,s.heap.get? b=qI o/\∀v,o.data≠.cell v):Inv X (pins++pinsAt fp s.heap) σ H s:=
 I.pins_of λp hp=>(lH.mp hp).elim (λz=>I.pin p (i8 _ z)) λz=>by
  obtain⟨hb,e⟩:=zgK_ z;obtain⟨f0,f1,f2,_⟩:=hf p.1 hb;obtain⟨o,e',d⟩:=ho p.1 hb;rw[e]at e';cases e';exact⟨e,f0,f1,f2,d⟩
theorem Inv.unpinned {pins pl:Pnn}{σ:St}{H:Hp}{s:iM}(I:Inv X (pins++pl) σ H s):Inv X pins σ H s:=I.pins_of λp hp=>I.pin p (i8 _ (kg _ hp))
theorem zkb_ {iter:i4}{body:List jI}{wi:TI}{g:TG}{tb:TS}{pos:Pos}(hp:PassesOwn (model X.prog X.w) X.A X.env X.xe)(hc:X.calm=qK)(hi:PI X tg iter wi)(hg:PG X tg g)(hb:PSs X body tb)
  (hs:∀x,foldedSetIterable iter X.env x=pure x:=by intro _;rfl):PS X (.For tg iter body [] pos) (tFor wi g tb):=by
 intro pins s σ H D I h;refine wpAny_For (thn (hi pins s σ H _ I h) λv s1 h1=>thn h1 λdS s2 h2=>?_) hs
 obtain⟨it,fp,tn,J,H2,e,I2,T,bK,f2,W,⟨m0,w0⟩,turn⟩:=h2;subst e;have aO:∀{H':Hp},(∀b∈fp,H' b=qJ)->∀b∈fp,FpOk X pins H' b:=λhn b hb=>⟨hn b hb,(f2 b hb).2⟩
 refine codeAny_forLoop_any (λn s'=>∃i ab H',Inv X pins ab H' s'/\tn i s'.heap/\(∀b∈fp,H' b=qJ)/\W i n ab H') ?_ m0 ⟨0,σ,H2,I2,bK,λb hb=>(f2 b hb).1,w0⟩
 rintro n s3 ⟨i,aH,H3,I3,st3,fr3,w3⟩;rcases turn i n aH H3 w3 with⟨stop,qn⟩|⟨go,N,hN,step⟩
 ·refine lI hp (thn (T.done X rfl rfl rfl hc i pins s3 aH H3 X.xe I3 (aO fr3) st3 stop) λr s4 ae=>?_)
  obtain⟨hr,I4⟩:=ae;subst hr;exact wpAny_execs_nil ⟨aH,H3,I4,qn⟩
 ·refine lI hp (thn (T.item X rfl rfl rfl hc i pins s3 aH H3 X.xe I3 (aO fr3) st3 go) λr s4 ae=>?_)
  obtain⟨u,hr,h4⟩:=ae;subst hr;refine lI hp (thn h4 λ_ s5 ae=>?_)
  obtain⟨x,H5,I5,r5,y5,st5,fr5⟩:=ae;have fA:=I5.pinned (aO fr5) (T.obj _ _ st5);refine lI hp (thn (hg _ s5 aH H5 x u _ fA r5 (step x H5 y5)) λ_ s6 ae=>?_)
  obtain⟨bw,H6,I6,q6⟩:=ae;refine lI hp (thn (hb _ s6 bw H6 _ I6 q6) λf s7 q7=>?_)
  have again:∀{a7:St}{H7:Hp},Inv X (pins++pinsAt fp s5.heap) a7 H7 s7->N a7 H7->∃m,m<n/\∃i ab H',Inv X pins ab H' s7/\tn i s7.heap/\(∀b∈fp,H' b=qJ)/\W i m ab H':=λ{a7 H7} I7 n7=>by
   obtain⟨m',hm,w7⟩:=hN a7 H7 n7;refine⟨m',hm,i+1,a7,H7,I7.unpinned,T.keep _ _ _ st5 λb hb o e=>(I7.pin (b,o) (i8 _ (i8 _ (zbf_ hb e)))).1,λb hb=>?_,w7⟩
   obtain⟨o,e,d⟩:=T.obj _ _ st5 b hb;exact(I7.pin (b,o) (i8 _ (i8 _ (zbf_ hb e)))).2.1
  cases f with
  |next=>obtain⟨a7,H7,I7,n7⟩:=q7;exact again I7 n7
  |cont=>obtain⟨a7,H7,I7,n7⟩:=q7;exact again I7 n7
  |brk=>obtain⟨a7,H7,I7,q7⟩:=q7;exact⟨a7,H7,I7.unpinned,q7⟩
  |ret v=>obtain⟨x7,a7,H7,I7,r7,q7⟩:=q7;exact⟨x7,a7,H7,I7.unpinned,r7,q7⟩
end
abbrev R2:=V->V->Hp->VK->Prop
def OpR (X:Cx)(f:fv->fv->Sem fv)(r:R2):Prop:=
 ∀(pins:Pnn) (s:iM) (σ:St) (H:Hp) (x y:V) (v u:fv) (Q:VK),Inv X pins σ H s->RelV x v->RelV y u->r x y H Q ->
  jq (model X.prog X.w) X.A (f v u) (EP X pins σ Q) X.xe s
def CallR (X:Cx)(f:fv)(r:List V->Hp->VK->Prop):Prop:=
 ∀(pins:Pnn) (s:iM) (σ:St) (H:Hp) (xs:List V) (us:List fv) (Q:VK),Inv X pins σ H s->Vals xs us->r xs H Q ->
  jq (model X.prog X.w) X.A (call f us) (EP X pins σ Q) X.xe s
def tOp (r:R2)(ta tb:TE):TE:=λσ H Q=>ta σ H λx H1=>tb σ H1 λy H2=>r x y H2 Q
def rI (C:Int->Int->Prop)(g:Int->Int->V):R2:=λx y H Q=>∃i j,x=.int i/\y=.int j/\C i j/\Q (g i j) H
def rI0 (g:Int->Int->V):R2:=λx y H Q=>∃i j,x=.int i/\y=.int j/\Q (g i j) H
section
variable {X:Cx}{a b:i4}{ta tb:TE}{pos:Pos}
theorem binT (ha:PE X a ta)(hb:PE X b tb){pins:Pnn}{s:iM}{σ:St}{H:Hp}{R:V->V->Hp->Prop}(I:Inv X pins σ H s)
  (h:ta σ H λx H1=>tb σ H1 λy H2=>R x y H2) {Q:fv->iM->Prop}{f:fv->fv->Sem fv}
  (hf:∀v u s2 x y H2,Inv X pins σ H2 s2->RelV x v->RelV y u->R x y H2->jq (model X.prog X.w) X.A (f v u) Q X.xe s2):
  jq (model X.prog X.w) X.A (eval a X.env) (λv aa=>jq (model X.prog X.w) X.A (eval b X.env) (λu aC=>jq (model X.prog X.w) X.A (f v u) Q X.xe aC) X.xe aa) X.xe s:=by
 refine thn (ha pins s σ H _ I h) λv s1 ae=>?_
 obtain⟨x,H1,I1,r1,q1⟩:=ae;refine thn (hb pins s1 σ H1 _ I1 q1) λu s2 ae=>?_
 obtain⟨y,H2,I2,r2,q2⟩:=ae;exact hf v u s2 x y H2 I2 r1 r2 q2
theorem pe_op {op:Operator}{r:R2}(ho:OpR X (k7 op) r)(ha:PE X a ta)(hb:PE X b tb):PE X (.BinOp a op b pos) (tOp r ta tb):=by
 intro pins s σ H Q I h;exact wpAny_BinOp (binT ha hb I h λv u s2 x y H2 I2 rx ry q=>ho pins s2 σ H2 x y v u Q I2 rx ry q)
theorem opI {f:fv->fv->Sem fv}{C:Int->Int->Prop}{g:Int->Int->Int}
  (rule:∀(i j:Int) (t u:Tok) (s:iM) (Q:fv->iM->Prop) (E:fv->iM->Prop),C i j->Q (.int (g i j) s.toks) {s with toks:=s.toks+1}->jq (model X.prog X.w) X.A (f (.int i t) (.int j u)) Q E s):
  OpR X f (rI C λi j=>.int (g i j)):=by
 intro pins s σ H x y v u Q I rx ry h;obtain⟨i,j,rfl,rfl,hc,q⟩:=h;obtain⟨t,rfl⟩:=rx;obtain⟨t',rfl⟩:=ry;exact rule i j t t' s _ _ hc ⟨.int (g i j),H,I.tok _,⟨_,rfl⟩,q⟩
theorem opI0 {f:fv->fv->Sem fv}{g:Int->Int->Int}
  (rule:∀(i j:Int) (t u:Tok) (s:iM) (Q:fv->iM->Prop) (E:fv->iM->Prop),Q (.int (g i j) s.toks) {s with toks:=s.toks+1}->jq (model X.prog X.w) X.A (f (.int i t) (.int j u)) Q E s):
  OpR X f (rI0 λi j=>.int (g i j)):=by
 intro pins s σ H x y v u Q I rx ry h;obtain⟨i,j,rfl,rfl,q⟩:=h;obtain⟨t,rfl⟩:=rx;obtain⟨t',rfl⟩:=ry;exact rule i j t t' s _ _ ⟨.int (g i j),H,I.tok _,⟨_,rfl⟩,q⟩
theorem opB0 {f:fv->fv->Sem fv}{g:Int->Int->Bool}
  (rule:∀(i j:Int) (t u:Tok) (s:iM) (Q:fv->iM->Prop) (E:fv->iM->Prop),Q (.bool (g i j)) s->jq (model X.prog X.w) X.A (f (.int i t) (.int j u)) Q E s):
  OpR X f (rI0 λi j=>.bl (g i j)):=by
 intro pins s σ H x y v u Q I rx ry h;obtain⟨i,j,rfl,rfl,q⟩:=h;obtain⟨t,rfl⟩:=rx;obtain⟨t',rfl⟩:=ry;exact rule i j t t' s _ _ ⟨.bl (g i j),H,I,rfl,q⟩
def CDiv (i j:Int):Prop:=0<j/\j<1073741824
def CPow (i j:Int):Prop:=0<=j/\j<=1000000/\i.natAbs<2 ^ 64
def CMul (i j:Int):Prop:=(-(2 ^ 64)<i/\i<2 ^ 64)\/(-(2 ^ 64)<j/\j<2 ^ 64)
theorem CMul.ok {i j:Int}(h:CMul i j):IntMulOk i j:=by
 rcases h with⟨h1,h2⟩|⟨h1,h2⟩
 ·exact .of_left (intBits_le_64 h1 h2)
 ·exact .of_right (intBits_le_64 h1 h2)
theorem zoH_:OpR X (k7 .Add) (rI0 λi j=>.int (i+j)):=opI0 λ_ _ _ _ _ _ _ q=>add_int q
theorem zon_:OpR X (k7 .Sub) (rI0 λi j=>.int (i-j)):=opI0 λ_ _ _ _ _ _ _ q=>sub_int q
theorem zoF_:OpR X (k7 .Mod) (rI (λ_ j=>0<j) λi j=>.int (i % j)):=opI λi j _ _ _ _ _ hc q=>by
 have h1:(0:Int)<j:=hc;exact mod_int' (by lia) (by rw[Int.fmod_eq_emod_of_nonneg i (by lia)];exact q)
theorem zfY_ {pins:Pnn}{σ:St}{H:Hp}{s:iM}{Q:VK}{k k':Bool}(I:Inv X pins σ H s)(q:Q (.bl k) H)(e:k=k'):EP X pins σ Q (.bool k') s:=by
 subst e;exact⟨.bl k,H,I,rfl,q⟩
theorem op_lt:OpR X (jG .Lt) (rI0 λi j=>.bl (decide (i<j))):=opB0 λ_ _ _ _ _ _ _ q=>lt_int q
theorem op_gt:OpR X (jG .Gt) (rI0 λi j=>.bl (decide (j<i))):=opB0 λ_ _ _ _ _ _ _ q=>gt_int q
theorem zgW_:OpR X (jG .Lt) (λx y H Q=>∃i j,x=.str i/\y=.str j/\Q (.bl (decide (i.cps.toList<j.cps.toList))) H):=by
 intro pins s σ H x y v u Q I rx ry h;obtain⟨i,j,rfl,rfl,q⟩:=h;obtain⟨t,rfl⟩:=rx;obtain⟨t',rfl⟩:=ry;exact lt_str (zfY_ I q rfl)
theorem zg3_:OpR X (jG .In) (λx y H Q=>∃i j,x=.str i/\y=.str j/\Q (.bl (!(kQ j i 0 j.length 1).isEmpty)) H):=by
 intro pins s σ H x y v u Q I rx ry h;obtain⟨i,j,rfl,rfl,q⟩:=h;obtain⟨t,rfl⟩:=rx;obtain⟨t',rfl⟩:=ry;exact in_str (zfY_ I q rfl)
theorem zoG_:OpR X (jG .Is) (λx y H Q=>y=.non/\Q (.bl (decide (x=.non))) H):=by
 intro pins s σ H x y v u Q I rx ry h;obtain⟨rfl,q⟩:=h;cases ry;refine is_none_gen (zfY_ I q ?_)
 cases x<;>first
  |(cases rx;rfl)
  |(obtain⟨t,rfl⟩:=rx;rfl)
theorem zl9_:OpR X (jG .IsNot) (λx y H Q=>y=.non/\Q (.bl (!decide (x=.non))) H):=by
 intro pins s σ H x y v u Q I rx ry h;obtain⟨rfl,q⟩:=h;cases ry;refine isnot_none_gen (zfY_ I q ?_)
 cases x<;>first
  |(cases rx;rfl)
  |(obtain⟨t,rfl⟩:=rx;rfl)
theorem zdG_:OpR X (jG .NotIn) (λx y H Q=>∃i j,x=.str i/\y=.str j/\Q (.bl (!(!(kQ j i 0 j.length 1).isEmpty))) H):=by
 intro pins s σ H x y v u Q I rx ry h;obtain⟨i,j,rfl,rfl,q⟩:=h;obtain⟨t,rfl⟩:=rx;obtain⟨t',rfl⟩:=ry;exact notIn_str (zfY_ I q rfl)
theorem zlJ_ {op:CmpOp}{r:R2}(ho:OpR X (jG op) r)(ha:PE X a ta)(hb:PE X b tb)(hm:behindInMarks op b=qL):PE X (.Compare a [op] [b] pos) (tOp r ta tb):=by
 intro pins s σ H Q I h;exact wpAny_Compare1 (binT ha hb I h λv u s2 x y H2 I2 rx ry q=>ho pins s2 σ H2 x y v u Q I2 rx ry q) hm
theorem line63:(iZ:Nat)<2 ^ 63:=by rw[sizeLine_eq];decide
theorem zfn_:OpR X (k7 .Add) (λx y H Q=>∃i j,x=.str i/\y=.str j/\i.length+j.length<=iZ/\Q (.str (i++j)) H):=by
 intro pins s σ H x y v u Q I rx ry h;obtain⟨i,j,rfl,rfl,hz,q⟩:=h;obtain⟨t,rfl⟩:=rx;obtain⟨t',rfl⟩:=ry;exact add_str (λt' tk=>⟨.str (i++j),H,I.tok _,⟨_,rfl⟩,q⟩) hz
theorem vals1 {x:V}{us:List fv}(r:Vals [x] us):∃u,us=[u]/\RelV x u:=by
 cases r with
 |cons r1 r2=>cases r2;exact⟨_,rfl,r1⟩
theorem vals2 {x y:V}{us:List fv}(r:Vals [x,y] us):∃u w',us=[u,w']/\RelV x u/\RelV y w':=by
 cases r with
 |cons r1 r2=>
  cases r2 with
  |cons r3 r4=>cases r4;exact⟨_,_,rfl,r1,r3⟩
end
structure ObjM (h:Heap)(x dx C:iQ)(mA:Str->Option fv):Prop where
 obj:h.get? x=qI (mH C dx)
 ns:h.Ns1 dx mA
 ne:dx≠x
theorem zgl_ {h:Heap}{dx:iQ}{mA:Str->Option fv}(n:h.Ns1 dx mA):∃od,h.get? dx=qI od/\∀name,ph name od=qI (mA name):=by
 obtain⟨o,es,ep,ho,hd,hk,_,hm⟩:=n;refine⟨o,ho,λname=>?_⟩
 have e:=hm name;unfold nsFind findBy at e;rw[<- Array.find?_toList]at e;unfold ph;rw[hd];dsimp only;split
 ·rename_i y q
  rw[q]at e;exact congrArg qI e
 ·rename_i q
  rw[q]at e;have a:es.toList.any (·.refKey)=qL:=by
   rw[oP];intro y hy;obtain⟨z,t,bj⟩:=hk y (Array.mem_toList_iff.mp hy);simp[DictEntry.refKey,bj]
  have a':¬es.toList.any (·.refKey)=qK:=by rw[a];exact jX
  rw[if_neg a'];exact congrArg qI e
theorem ObjM.look {h:Heap}{x dx C:iQ}{mA:Str->Option fv}(I:ObjM h x dx C mA):∃od,W.InstAt h x (mH C dx) C (qI od)/\∀name,ph name od=qI (mA name):=
 let⟨od,ho,hl⟩:=zgl_ I.ns
 ⟨od,⟨I.obj,rfl,rfl,ho⟩,hl⟩
section
variable {prog:jr}{w:jH}{A:j3}{E:fv->iM->Prop}{s:iM}{K:Fgg}{x dx C f:iQ}{mA:Str->Option fv}{name:Str}{v:fv}
theorem zkF_ {expr:Bool}{Q:fv->iM->Prop}(X:K.In s.heap)(I:ObjM s.heap x dx C mA)(hg:mX K C name=qK)(hh:m8 K C=qK)
  (ha:lu K (.ref C) name=qI qJ) (hv:mA name=qI v) (bM:pj v=qK) (h:Q v {s with toks:=s.toks+1}):
  jq (model prog w) A (getAttr (.ref x) name expr) Q E s:=by
 obtain⟨od,J,hl⟩:=I.look;exact W.get_value X J (oB hg).1 (W.findObj_own hh ha rfl (by rw[hl,hv])) bM h
theorem zis_ {pl:Sem Bool}{Q:fv×List fv->iM->Prop}(X:K.In s.heap)(I:ObjM s.heap x dx C mA)(hg:mX K C name=qK)
  (hf:lu K (.ref C) name=qI (qI (.ref f))) (ht:pR K (.ref f)=qK) (hv:mA name=qJ) (h:Q (.ref f,[.ref x]) s):
  jq (model prog w) A (getMethod (.ref x) name pl) Q E s:=by
 obtain⟨od,J,hl⟩:=I.look;exact W.method_fn X J (oB hg).1 (oB hg).2 hf (beq_iff_eq.mp ht) (by show(ph name od).map (·.isSome)=qI qL;rw[hl,hv];rfl) h
theorem zmW_ {ns:List Str}{Q:Unit->iM->Prop}(X:K.In s.heap)(I:ObjM s.heap x dx C mA)
  (hs:lu K (.ref C) "__setattr__"=qI (qI (.builtin "object.__setattr__"))) (hp:n6 K C=qK) (ht:pI K C name=qI qJ) (hh:m8 K C=qK)
  (hw:nK mA ns) (hsz:ns.length<=iZ)
  (h:∀h',ObjM h' x dx C (λy=>if y=name then qI v else mA y)->mQ dx s.heap h'->Q () {s with heap:=h',toks:=s.toks+2}):
  jq (model prog w) A (setAttr (.ref x) name v) Q E s:=by
 obtain⟨od,J,hl⟩:=I.look;refine W.set_plain X J hs (W.osa_open (s:={s with toks:=s.toks+1}) (r:=qJ) X J hp ht λb=>?_)
 obtain⟨cd,hc,a6⟩:=W.any_some hh;have hx:s.heap.get? x=qI ⟨.ref C,qI dx,.plain,#[]⟩:=I.obj;refine iX (je (iX (iX (wpAny_loadPart hx (iX (W.Looks.here (s:={s with toks:=s.toks+1}) (W.looks_clsIn X hc) ?_))))));rw[a6];refine je (a:=qI dx) (iX (je (iX ?_)));refine wpAny_nsSet1 (s:={s with toks:=s.toks+1}) I.ns λh' dX a5=>?_
 obtain⟨oD,esD,epD,hoD,hdD,hcD⟩:=dX.count (qE name v hw);refine iX (wpAny_lookBehind hoD (by rw[hdD];exact pastItsLine_dict (kH hcD (by rw[iR];lia))) ?_)
 exact je (h _ ⟨(a5.2 _ (m7 I.ne)).trans I.obj,dX,I.ne⟩ a5)
theorem zjy_ {R:Result->iM->Prop}{vs:List fv}{kw:List (Str×fv)}(X:K.In s.heap)(hm:oR K C=qK)
  (hi:lu K (.ref C) "__init__"=qI (qI (.ref f))) (hf:W.typeIn K (.ref f)=qI (.type "function"))
  (h:codeAny (model prog w) (A.under (.builtin "type.__call__" ⟨.ref C::vs,kw⟩)) (.call (.ref f) ⟨.ref (s.heap.objs.size+1)::vs,kw⟩) (W.InitBack (s.heap.objs.size+1) R)
   {s with heap:=(s.heap.push lV).push (mH C s.heap.objs.size)}):
  codeAny (model prog w) A (.call (.ref C) ⟨vs,kw⟩) R s:=by
 obtain⟨hh,g,d,t,os⟩:=s;exact W.make_core (W.makes_of X hm) (W.looks_findIn X hi) (λself=>W.bind_fn X self hf) (.inl rfl) h
end
noncomputable def putF (f:Str)(v:V):List (Str×V)->List (Str×V)
 |[]=>[(f,v)]
 |(g,x)::r=>if g=f then(g,v)::r else(g,x)::putF f v r
theorem zcw_ (f g:Str)(v:V):∀fs:List (Str×V),(putF f v fs).lookup g=if g=f then qI v else fs.lookup g
 |[]=>by
  show my g [(f,v)]=_
  by_cases h:g=f
  ·have hb:(g == f)=qK:=beq_iff_eq.mpr h
   simp only[my,hb,if_pos h]
  ·have hb:(g == f)=qL:=beq_eq_false_iff_ne.mpr h
   simp only[my,hb,if_neg h]
 |(k,x)::r=>by
  have ih:=zcw_ f g v r;rw[show putF f v ((k,x)::r)=(if k=f then(k,v)::r else(k,x)::putF f v r)from rfl]
  by_cases hk:k=f
  ·rw[if_pos hk]
   by_cases h:g=k
   ·have hb:(g == k)=qK:=beq_iff_eq.mpr h
    simp only[my,hb,if_pos (h.trans hk)]
   ·have hb:(g == k)=qL:=beq_eq_false_iff_ne.mpr h
    simp only[my,hb,if_neg (λe:g=f=>h (e.trans hk.symm))]
  ·rw[if_neg hk]
   by_cases h:g=k
   ·have hb:(g == k)=qK:=beq_iff_eq.mpr h
    simp only[my,hb,if_neg (λe:g=f=>hk (h.symm.trans e))]
   ·have hb:(g == k)=qL:=beq_eq_false_iff_ne.mpr h
    simp only[my,hb];exact ih
theorem zcS_ (f:Str)(v:V):∀fs:List (Str×V),f∈(putF f v fs).map (·.1)/\∀g,g∈fs.map (·.1)->g∈(putF f v fs).map (·.1)
 |[]=>⟨by simp[putF],λg h=>by simp at h⟩
 |(k,x)::r=>by
  obtain⟨i1,i2⟩:=zcS_ f v r;rw[show putF f v ((k,x)::r)=(if k=f then(k,v)::r else(k,x)::putF f v r)from rfl]
  by_cases hk:k=f
  ·rw[if_pos hk]
   subst hk;exact⟨by simp,λg h=>by simpa using h⟩
  ·rw[if_neg hk]
   refine⟨?_,λg h=>?_⟩
   ·rw[iN]
    exact i7 _ i1
   ·rw[iN]at h ⊢
    rcases ju.mp h with e |e
    ·exact ju.mpr (.inl e)
    ·exact i7 _ (i2 g e)
theorem zcq_ (f:Str)(v:V):∀fs:List (Str×V),(putF f v fs).length<=fs.length+1
 |[]=>by simp[putF]
 |(k,x)::r=>by
  have ih:=zcq_ f v r;rw[show putF f v ((k,x)::r)=(if k=f then(k,v)::r else(k,x)::putF f v r)from rfl]
  by_cases hk:k=f
  ·rw[if_pos hk,iR,iR];lia
  ·rw[if_neg hk,iR,iR];lia
theorem RelO.some_of {v:V}{o:Option fv}(r:RelO (qI v) o):∃u,o=qI u/\RelV v u:=by
 cases o with
 |none=>exact(show False from r).elim
 |some u=>exact⟨u,rfl,r⟩
theorem RelO.none_of {o:Option fv}(r:RelO qJ o):o=qJ:=by
 cases o with
 |none=>rfl
 |some u=>exact(show False from r).elim
theorem zg1_ {v:V}{u:fv}(r:RelV v u):pj u=qK:=by
 cases v with
 |non=>cases(show u=oI from r);rfl
 |bl b=>cases(show u=oJ b from r);rfl
 |int i=>obtain⟨t,e⟩:=(show∃t,u=nv i t from r);cases e;rfl
 |str x=>obtain⟨t,e⟩:=(show∃t,u=mx x t from r);cases e;rfl
 |byt b=>obtain⟨t,e⟩:=(show∃t,u=qp b t from r);cases e;rfl
 |flt b=>obtain⟨t,e⟩:=(show∃t,u=oY b t from r);cases e;rfl
 |ref a=>cases(show u=jK a from r);rfl
 |ty n=>cases(show u=l6 n from r);rfl
section
variable {P:jr}{w:jH}{H:Hp}{h:Heap}{a C dx:iQ}{fs:List (Str×V)}
theorem zee_ (hok:HOk P w H h)(e:H a=qI (.ins C dx fs)):∃mA,ObjM h a dx C mA/\(∀f,RelO (fs.lookup f) (mA f))/\nK mA (fs.map (·.1))/\fs.length<=1000/\H dx=qI (.own a):=by
 obtain⟨d,z,ne,ob,mA,n,r,q⟩:=(show ObjOk P w H h a (.ins C dx fs)from hok a _ e)
 exact⟨mA,⟨ob,n,ne⟩,r,q,z,d⟩
end
structure Cls (K:Fgg)(C:iQ):Prop where
 pg:mX K C pJ=qK
 hd:m8 K C=qK
 po:n6 K C=qK
 sa:lu K (.ref C) "__setattr__"=qI (qI (.builtin "object.__setattr__"))
theorem Cls.get {K:Fgg}{C:iQ}(c:Cls K C)(f:Str):mX K C f=qK:=c.pg
def NoAttr (K:Fgg)(C:iQ)(f:Str):Prop:=lu K (.ref C) f=qI qJ
theorem NoAttr.taker {K:Fgg}{C:iQ}{f:Str}(n:NoAttr K C f):pI K C f=qI qJ:=by
 unfold pI;rw[show lu K (.ref C) f=qI qJ from n]
 rfl
structure Meth (K:Fgg)(C:iQ)(m:Str)(f:iQ):Prop where
 at_:lu K (.ref C) m=qI (qI (.ref f))
 fn:pR K (.ref f)=qK
 kp:lT K (.ref f)=qK
section
variable {X:Cx}{pins:Pnn}{σ:St}{H:Hp}{s:iM}{a C dx:iQ}{fs:List (Str×V)}{f:Str}{v:V}{A:j3}{E:fv->iM->Prop}
theorem zeQ_ {b:Bool}{Q:fv->iM->Prop}(I:Inv X pins σ H s)(e:H a=qI (.ins C dx fs))(c:Cls X.K C)(n:NoAttr X.K C f)(l:fs.lookup f=qI v)
  (h:∀u s',Inv X pins σ H s'->RelV v u->Q u s'):jq (model X.prog X.w) A (getAttr (.ref a) f b) Q E s:=by
 obtain⟨mA,O,r,_,_,_⟩:=zee_ I.hok e;obtain⟨u,hu,ru⟩:=RelO.some_of (v:=v) (o:=mA f) (by rw[<- l];exact r f)
 exact zkF_ I.kIn O (c.get f) c.hd n hu (zg1_ ru) (h u _ (I.tok _) ru)
theorem zdh_ {m:Str}{g:iQ}{pl:Sem Bool}{Q:fv×List fv->iM->Prop}(I:Inv X pins σ H s)(e:H a=qI (.ins C dx fs))(c:Cls X.K C)(k:Meth X.K C m g)(l:fs.lookup m=qJ)
  (h:Q (.ref g,[.ref a]) s):jq (model X.prog X.w) A (getMethod (.ref a) m pl) Q E s:=by
 obtain⟨mA,O,r,_,_,_⟩:=zee_ I.hok e;have hn:mA m=qJ:=RelO.none_of (by rw[<- l];exact r m)
 exact zis_ I.kIn O (c.get m) k.at_ k.fn hn h
theorem zeY_ {y:V}{u:fv}{Q:Unit->iM->Prop}(I:Inv X pins σ H s)(e:H a=qI (.ins C dx fs))(c:Cls X.K C)(n:NoAttr X.K C f)(hl:fs.length<1000)(ry:RelV y u)
  (h:∀s',Inv X pins σ (upd H a (.ins C dx (putF f y fs))) s'->Q () s'):jq (model X.prog X.w) A (setAttr (.ref a) f u) Q E s:=by
 obtain⟨mA,O,r,wi,_,ho⟩:=zee_ I.hok e;have hz:(fs.map (·.1)).length<=iZ:=by rw[gf,sizeLine_eq];lia
 refine zmW_ I.kIn O c.sa c.po n.taker c.hd wi hz λh' O' sb=>h _ ?_
 have hd:∃o,h'.get? dx=qI o:=let⟨o,_,_,e',_⟩:=O'.ns;⟨o,e'⟩
 refine I.write (x:=a) (e:=dx) (by rw[e];exact ke) (.inr ho) (λb q hb z=>(sb.2 b hb).trans z) hd ?_
 refine⟨by rw[zl_ O.ne];exact ho,?_,O.ne,O'.obj,_,O'.ns,λg=>?_,λg hg=>?_⟩
 ·have:=zcq_ f y fs;lia
 ·show RelO ((putF f y fs).lookup g) (if g=f then qI u else mA g)
  rw[zcw_];by_cases q:g=f
  ·rw[if_pos q,if_pos q];exact ry
  ·rw[if_neg q,if_neg q];exact r g
 ·by_cases q:g=f
  ·rw[q];exact(zcS_ f y fs).1
  ·refine(zcS_ f y fs).2 g (wi g λz=>hg ?_)
   show(if g=f then qI u else mA g)=qJ
   rw[if_neg q];exact z
theorem Inv.made (I:Inv X pins σ H s):Inv X pins σ (upd (upd H s.heap.objs.size (.own (s.heap.objs.size+1))) (s.heap.objs.size+1) (.ins C s.heap.objs.size []))
  {s with heap:=(s.heap.push lV).push (mH C s.heap.objs.size)}:=by
 have e1:(s.heap.push lV).get? s.heap.objs.size=qI lV:=jj s.heap rfl;have e2:((s.heap.push lV).push (mH C s.heap.objs.size)).get? (s.heap.objs.size+1)=qI (mH C s.heap.objs.size):=by
  have:=jj (s.heap.push lV) (o:=mH C s.heap.objs.size) rfl;rwa[og]at this
 have e3:(s.heap.push lV).Ns s.heap.objs.size (λ_=>qJ):=⟨lV,#[],_,e1,rfl,(λe he=>absurd he (by simp)),λ_=>rfl⟩
 have I1:=I.laid (a:=s.heap.objs.size) (o:=.own (s.heap.objs.size+1)) (h':=s.heap.push lV) (t':=s.toks) (λb u q=>iU _ q) (iW _) ⟨_,e1⟩
 refine I1.laid (a:=s.heap.objs.size+1) (o:=.ins C s.heap.objs.size []) (t':=s.toks) (λb u q=>iU _ q) (mS (og _ _)) ?_
 have ne:s.heap.objs.size≠s.heap.objs.size+1:=jQ (lU _);refine⟨by rw[zl_ ne,zm_],kJ _,ne,e2,λ_=>qJ,(Heap.Ns1.of_empty e3).at λo q=>iU _ q,λ_=>ke,λy hy=>absurd rfl hy⟩
theorem zmp_ {prog:jr}{w:jH}{env:Env}{e:i4}{f:Str}{pos:Pos}{s:iM}{Q:fv->iM->Prop}(hb:attributeBase e f env (eval e env)=eval e env)
  (h:jq (model prog w) A (eval e env) (λo aa=>jq (model prog w) A (getAttr o f qK) Q E aa) E s):jq (model prog w) A (eval (.Attribute e f pos) env) Q E s:=
 Attribute_any_ h (by rw[arm_eval_Attribute,hb])
end
section
variable {X:Cx}{pins:Pnn}{σ:St}{H:Hp}{s:iM}{A:j3}{E Q:fv->iM->Prop}{c:fv}{b:Bool}
inductive TyOf (K:Fgg) (H:Hp):V->fv->Prop where
 |non:TyOf K H .non (.type "NoneType")
 |bl (x:Bool):TyOf K H (.bl x) (.type "bool")
 |int (i:Int):TyOf K H (.int i) (.type "int")
 |str (x:Str):TyOf K H (.str x) (.type "str")
 |flt (x:UInt64):TyOf K H (.flt x) (.type "float")
 |lst {a:iQ}{xs:List V}(e:H a=qI (.lst xs)):TyOf K H (.ref a) (.type "list")
 |frz {a:iQ}{o:oN}{xs:List V}(e:H a=qI (.frz o (.lst xs))):TyOf K H (.ref a) (.type "list")
 |tup {a:iQ}{xs:List V}(e:H a=qI (.tup xs)):TyOf K H (.ref a) (.type "tuple")
 |dK {a:iQ}{kvs:List (Key×V)}(e:H a=qI (.dK kvs)):TyOf K H (.ref a) (.type "dict")
 |dT {a:iQ}{kvs:List (List Key×V)}(e:H a=qI (.dT kvs)):TyOf K H (.ref a) (.type "dict")
 | ins {a C dx:iQ}{fs:List (Str×V)}(e:H a=qI (.ins C dx fs)) (cl:Cls K C) (ha:lu K (.ref C) "__class__"=qI (qI (.builtin "object.__class__")))
   (hn:oh K (.builtin "object.__class__") "__get__"=qI (qI (.builtin "getset_descriptor.__get__"))) (fO:W.takesIn K (.builtin "object.__class__")=qI qK)
   (hm:W.mroIn K C (.type "object")=qI qK):TyOf K H (.ref a) (.ref C)
theorem zgJ_ {x:V}{u t:fv}(I:Inv X pins σ H s)(rx:RelV x u)(ty:TyOf X.K H x t)(e:qr X.K t c=qI b)(h:∀tk,Q (.bool b) {s with toks:=tk}):
  jq (model X.prog X.w) A (call (.builtin "isinstance") [u,c]) Q E s:=by
 cases ty with
 |non=>cases(show u=oI from rx);exact l4 W.kitx_none I.kIn ke e (λz=>nomatch z) h
 |bl y=>cases(show u=oJ y from rx);exact l4 W.kitx_bool I.kIn ke e (λz=>nomatch z) h
 |int i=>obtain⟨t,q⟩:=(show∃t,u=nv i t from rx);cases q;exact l4 W.kitx_int I.kIn ke e (λz=>nomatch z) h
 |str y=>obtain⟨t,q⟩:=(show∃t,u=mx y t from rx);cases q;exact l4 W.kitx_str I.kIn ke e (λz=>nomatch z) h
 |flt y=>obtain⟨t,q⟩:=(show∃t,u=oY y t from rx);cases q;exact l4 W.kitx_float I.kIn ke e (λz=>nomatch z) h
 | @lst a xs ea=>
  cases(show u=jK a from rx)
  obtain⟨_,_,n,_,h1⟩:=(show ObjOk X.prog X.w H s.heap a (.lst xs)from I.hok a _ ea)
  exact l4 W.kitx_list I.kIn ⟨_,h1,rfl⟩ e (λz=>nomatch z) h
 | @frz a ob xs ea=>
  cases(show u=jK a from rx)
  obtain⟨_,_,_,n,_,h1⟩:=(show ObjOk X.prog X.w H s.heap a (.frz ob (.lst xs))from I.hok a _ ea)
  exact l4 W.kitx_list I.kIn ⟨_,h1,rfl⟩ e (λz=>nomatch z) h
 | @tup a xs ea=>
  cases(show u=jK a from rx)
  obtain⟨_,_,_,p⟩:=(show ObjOk X.prog X.w H s.heap a (.tup xs)from I.hok a _ ea)
  obtain⟨o,h1,h2,_⟩:=p;exact l4 W.kitx_tuple I.kIn ⟨o,h1,h2⟩ e (λz=>nomatch z) h
 | @dK a kvs ea=>
  cases(show u=jK a from rx)
  obtain⟨_,_,vs,_,p⟩:=(show ObjOk X.prog X.w H s.heap a (.dK kvs)from I.hok a _ ea)
  obtain⟨o,es,ep,h1,h2,_⟩:=p;exact l4 W.kitx_dict I.kIn ⟨o,h1,h2.1⟩ e (λz=>nomatch z) h
 | @dT a kvs ea=>
  cases(show u=jK a from rx)
  obtain⟨_,_,xs,_,o,es,ep,h1,h2,_⟩:=(show ObjOk X.prog X.w H s.heap a (.dT kvs)from I.hok a _ ea)
  exact l4 W.kitx_dict I.kIn ⟨o,h1,h2.1⟩ e (λz=>nomatch z) h
 | @ins a C dx fs ea cl ha hn fO hm=>
  cases(show u=jK a from rx)
  obtain⟨mA,O,_⟩:=zee_ I.hok ea;obtain⟨od,J,_⟩:=O.look;exact l4 (W.kitx_own (cl.get _) cl.hd ha hn fO hm) I.kIn J e (λz=>nomatch z) h
end
structure Room (k:Nat)(A:j3):Prop where
 hd:A.handled=qJ
 dp:A.depth+3*k+5<recursionLimit
 un:A.units+16*k+200<cLine
theorem Room.mono {j k:Nat}{A:j3}(r:Room k A)(h:j<=k):Room j A:=⟨r.hd,by have:=r.dp;lia,by have:=r.un;lia⟩
theorem Room.deeper {k:Nat}{A:j3}(r:Room (k+1) A)(env:Env):Room k (A.deeper env):=
 ⟨r.hd,by have:=r.dp;show A.depth+1+3*k+5<_;lia,by have:=r.un;show A.units+3+16*k+200<_;lia⟩
theorem zfM_ {A:j3}{C:iQ}{us:List fv}{kw:List (Str×fv)}:(A.under (.builtin "type.__call__" ⟨.ref C::us,kw⟩)).depth=A.depth+1:=by
 first |rfl |simp[Around.under,Code.weight,Code.isCreation,Code.isGuard,Code.isCaller,Code.frames,Code.isFrame,guardIds]
theorem ze8_ {A:j3}{C:iQ}{us:List fv}{kw:List (Str×fv)}:(A.under (.builtin "type.__call__" ⟨.ref C::us,kw⟩)).units=A.units+1:=by
 first |rfl |simp[Around.under,Code.cUnits,Code.frames,Code.isFrame]
theorem Room.make {k:Nat}{A:j3}(r:Room (k+1) A)(C:iQ)(us:List fv)(kw:List (Str×fv)):Room k (A.under (.builtin "type.__call__" ⟨.ref C::us,kw⟩)):=
 ⟨r.hd,by have:=r.dp;rw[zfM_];lia,by have:=r.un;rw[ze8_];lia⟩
theorem Room.depth {k:Nat}{A:j3}(r:Room k A):A.depth<recursionLimit:=by have:=r.dp;lia
def tNil:TA:=λ_ H Q=>Q [] H
def tCons (ta:TE)(tr:TA):TA:=λσ H Q=>ta σ H λx H1=>tr σ H1 λxs H2=>Q (x::xs) H2
section
variable {X:Cx}{e:i4}{es:List i4}{te:TE}{t:TA}{pos:Pos}
theorem zmN_:PA X [] tNil:=λ_ _ _ _ H Q I h=>Calls.spliced_nil ⟨[],H,I,.nil,h⟩
theorem zeX_ (ha:PE X e te)(hr:PA X es t)(hs:jo (e::es) X.env=(qL,eval e X.env)::jo es X.env:=by rfl):PA X (e::es) (tCons te t):=by
 intro pos pins s σ H Q I h;rw[hs];show jq _ _ (spliced ((qL,eval e X.env)::kz pos (jo es X.env))) _ _ s
 refine Calls.spliced_cons (thn (ha pins s σ H _ I h) λu s1 ae=>?_)
 obtain⟨x,H1,I1,r1,q1⟩:=ae;exact thn (hr pos pins s1 σ H1 _ I1 q1) λus s2 ⟨xs,H2,I2,r2,q2⟩=>⟨x::xs,H2,I2,.cons r1 r2,q2⟩
def tTup (t:TA):TE:=λσ H Q=>t σ H λxs H1=>xs.length<=iZ/\∀p,H1 p=qJ->Q (.ref p) (upd H1 p (.tup xs))
def tLst (t:TA):TE:=λσ H Q=>t σ H λxs H1=>xs.length<=iZ/\∀p,H1 p=qJ->Q (.ref p) (upd H1 p (.lst xs))
theorem zoI_ {x1}(h:PA X es t):PE X (.Tuple es x1 pos) (tTup t):=by
 intro pins s σ H Q I hq;refine wpAny_Tuple_spliced (thn (h pos pins s σ H _ I hq) λus s1 ⟨xs,H1,I1,r,z,q⟩=>⟨by rw[<- r.length];exact z,?_⟩)
 have hf:H1 s1.heap.objs.size=qJ:=I1.hok.fresh (iW _);refine⟨.ref s1.heap.objs.size,upd H1 s1.heap.objs.size (.tup xs),I1.laid (t':=s1.toks) (λb u e=>iU _ e) (iW _) ?_,rfl,q _ hf⟩
 exact⟨z,us,r,⟨_,jj _ rfl,rfl,_,rfl⟩⟩
theorem zow_ (h:PA X es t):PE X (.List es pos) (tLst t):=by
 intro pins s σ H Q I hq;refine wpAny_List_spliced (thn (h pos pins s σ H _ I hq) λus s1 ⟨xs,H1,I1,r,z,q⟩=>⟨by rw[<- r.length];exact z,?_⟩)
 have hf:H1 s1.heap.objs.size=qJ:=I1.hok.fresh (iW _);refine⟨.ref s1.heap.objs.size,upd H1 s1.heap.objs.size (.lst xs),I1.laid (t':=s1.toks) (λb u e=>iU _ e) (iW _) ?_,rfl,q _ hf⟩
 exact⟨z,us,0,r,jj _ rfl⟩
end
abbrev Sp:=List V->Hp->VK->XK->Prop
abbrev CXT:=List Env->Hp->iM->XK->fv->iM->Prop
structure Env0 (P:jr)(w:jH)(K:Fgg)(mg:Str->Option fv)(base:Heap)(A:j3)(outer:List Env)(s:iM)(H:Hp):Prop where
 frames:A.frames=qI outer
 mod:Mod K mg base
 bs:∀b o,base.get? b=qI o->s.heap.get? b=qI o/\H b=qJ
 bsz:base.objs.size<=s.heap.objs.size
 funs:s.heap.FunFrames base outer
 frf:∀b∈frs outer,H b=qJ
 hok:HOk P w H s.heap
 bare:AllBare s.gens
 tb:Tb K H
def CE (outer:List Env)(P:jr)(w:jH)(H:Hp)(s:iM)(Q:VK)(u:fv)(s':iM):Prop:=
 ∃v H',s'.os=s.os/\AllBare s'.gens/\Un (frs outer) [] H H' s.heap s'.heap/\HOk P w H' s'.heap/\RelV v u/\Q v H'
def CR (CX:CXT)(outer:List Env)(P:jr)(w:jH)(H:Hp)(s:iM)(Q:VK)(E:XK)(r:Result)(s':iM):Prop:=
 match r with
 |.ok (.ret u)=>CE outer P w H s Q u s'
 |.ok _=>False
 |.error e=>CX outer H s E e s'
structure FnOk (P:jr)(w:jH)(K:Fgg)(mg:Str->Option fv)(base:Heap)(CX:CXT)(k:Nat)(f:iQ)(fd:kf)(ps:List Str)(sp:Sp):Prop where
 len:∀vs H Q E,sp vs H Q E->vs.length=ps.length
 run:∀(A:j3) (outer:List Env) (s:iM) (H:Hp) (args:Args) (us:List fv) (vs:List V) (Q:VK) (E:XK),Room k A->Env0 P w K mg base A outer s H->BindsTo s fd args (ps.zip us)->Vals vs us->sp vs H Q E ->
  codeAny (model P w) A (.call (.ref f) args) (CR CX outer P w H s Q E) s
theorem Env0.make {P:jr}{w:jH}{K:Fgg}{mg:Str->Option fv}{base:Heap}{A:j3}{outer:List Env}{s:iM}{H:Hp}(e:Env0 P w K mg base A outer s H)(C:iQ)(us:List fv)(kw:List (Str×fv)):
  Env0 P w K mg base (A.under (.builtin "type.__call__" ⟨.ref C::us,kw⟩)) outer s H:=⟨by first |exact e.frames |(simpa [Around.under,Code.envs,Code.isFrame,pushEnvs]using e.frames),e.mod,e.bs,e.bsz,e.funs,e.frf,e.hok,e.bare,e.tb⟩
section
variable {X:Cx}{pins:Pnn}{σ:St}{H:Hp}{s s':iM}
theorem Inv.env0 (I:Inv X pins σ H s):Env0 X.prog X.w X.K X.mg X.base X.A X.stack s H:=
 ⟨I.ok.frames,I.ok.mod,I.bs,kH I.ok.bsz I.sz,I.stack,I.stkFree,I.hok,I.bare,I.tb⟩
theorem Inv.after {Q:VK}{u:fv}(I:Inv X pins σ H s)(h:CE X.stack X.prog X.w H s Q u s'):EP X pins σ Q u s':=by
 obtain⟨v,H',os,bare,un,hok,r,q⟩:=h;obtain⟨hh,g,d,t,aA⟩:=s';obtain rfl:aA=s.os:=os;exact⟨v,H',I.call (h':=hh) (g':=g) (d':=d) (t':=t) (ch:=[]) un hok bare (λb z=>absurd z (by simp)),r,q⟩
end
def tCall (sp:Sp)(aw:List V)(E:XK)(t:TA):TE:=λσ H Q=>t σ H λvs H1=>sp (vs++aw) H1 Q E
def tMeth (C:iQ)(m:Str)(sp:Sp)(aw:List V)(E:XK)(ta:TE)(t:TA):TE:=λσ H Q=>ta σ H λx H1=>∃a dx fs,x=.ref a/\H1 a=qI (.ins C dx fs)/\fs.lookup m=qJ /\
 t σ H1 λvs H2=>sp (x::(vs++aw)) H2 Q E
def tMake (C:iQ)(sp:Sp)(aw:List V)(E:XK)(t:TA):TE:=λσ H Q=>t σ H λvs H1=>∀x dx,H1 x=qJ->H1 dx=qJ->dx≠x ->
 sp (.ref x::(vs++aw)) (upd (upd H1 dx (.own x)) x (.ins C dx [])) (λv H2=>v=.non/\Q (.ref x) H2) E
def Binds (K:Fgg)(fd:kf)(ps:List Str)(ds:List fv):Prop:=
 ∀(s:iM) (us:List fv),K.In s.heap->(us++ds).length=ps.length->BindsTo s fd ⟨us,[]⟩ (ps.zip (us++ds))
theorem Binds.all {K:Fgg}{fd:kf}{ps:List Str}(h:∀us:List fv,us.length=ps.length->bindArgs fd ⟨us,[]⟩=pure (ps.zip us)):Binds K fd ps []:=λs us _ hl=>by
 rw[jz]at hl ⊢;exact .of_eq (h us hl)
def Passes (CX:CXT)(X:Cx)(E:XK):Prop:=∀(pins:Pnn) (σ:St) (H:Hp) (s:iM) (e:fv) (s':iM),Inv X pins σ H s->CX X.stack H s E e s'->X.xe e s'
section
variable {X:Cx}{CX:CXT}{k:Nat}{f C:iQ}{fd:kf}{ps:List Str}{sp:Sp}{aw:List V}{ds:List fv}{E:XK}{x m:Str}{p pos apos:Pos}{e o:i4}{es:List i4}{ta:TE}{t:TA}
theorem zfp_ {pins:Pnn}{σ:St}{H:Hp}{s:iM}{Q:VK}{us:List fv}{vs:List V}(F:FnOk X.prog X.w X.K X.mg X.base CX k f fd ps sp)(hr:Room k X.A)(hb:Binds X.K fd ps ds)(hd:Vals aw ds)(hx:Passes CX X E)
  (I:Inv X pins σ H s) (r:Vals vs us) (h:sp (vs++aw) H Q E):jq (model X.prog X.w) X.A (call (.ref f) us) (EP X pins σ Q) X.xe s:=by
 have r2:Vals (vs++aw) (us++ds):=r.append hd;have hl:(us++ds).length=ps.length:=by rw[<- r2.length];exact F.len _ _ _ _ h
 refine wpAny_call (codeAny_mono (F.run X.A X.stack s H ⟨us,[]⟩ (us++ds) (vs++aw) Q E hr I.env0 (hb s us I.kIn hl) r2 h) λr s' hq=>?_)
 cases r with
 |error e=>exact hx pins σ H s e s' I hq
 |ok fl=>
  cases fl with
  |ret u=>exact I.after hq
  |next=>exact jL hq
  |brk=>exact jL hq
  |cont=>exact jL hq
theorem zlH_ (F:FnOk X.prog X.w X.K X.mg X.base CX k f fd ps sp)(hr:Room k X.A)(hg:Gl X x)(hm:X.mg x=qI (.ref f))(hk:lT X.K (.ref f)=qK)(hb:Binds X.K fd ps ds)(hd:Vals aw ds)(hx:Passes CX X E)
  (ha:PA X (e::es) t) (aR:(x==("__debug__":Str))=qL:=by decide) (he:jo (e::es) X.env=(qL,eval e X.env)::jo es X.env:=by rfl) (aI:(kz pos (jo es X.env)).any (·.1)=qL:=by rfl):
  PE X (.Call (.Name x p) (e::es) [] pos) (tCall sp aw E t):=by
 intro pins s σ H Q I h;refine lA (zc8_ I hg hm ?_ aR);refine nM (h₀:=X.base) I.ok.mod.kin hk (thn (ha pos pins s σ H _ I h) λus s1 ⟨vs,H1,I1,r,q⟩=>⟨I1.kIn,?_⟩) he aI
 exact zfp_ F hr hb hd hx I1 r q
theorem zjw_ (F:FnOk X.prog X.w X.K X.mg X.base CX k f fd ps sp)(hr:Room k X.A)(hg:Gl X x)(hm:X.mg x=qI (.ref f))(hk:lT X.K (.ref f)=qK)(hb:Binds X.K fd ps ds)(hd:Vals aw ds)(hx:Passes CX X E)
  (aR:(x==("__debug__":Str))=qL:=by decide):PE X (.Call (.Name x p) [] [] pos) (tCall sp aw E tNil):=by
 intro pins s σ H Q I h;refine lA (zc8_ I hg hm ?_ aR);exact oE I.kIn hk (zfp_ (us:=[]) F hr hb hd hx I .nil h)
theorem zj3_ {pl:Sem Bool}(he:PE X o ta)(c:Cls X.K C)(hm:Meth X.K C m f)(F:FnOk X.prog X.w X.K X.mg X.base CX k f fd ps sp)(hr:Room k X.A)(hb:Binds X.K fd ps ds)(hd:Vals aw ds)(hx:Passes CX X E)(ha:PA X (e::es) t)
  (bO:jo (e::es) X.env=(qL,eval e X.env)::jo es X.env:=by rfl) (aI:(kz pos (jo es X.env)).any (·.1)=qL:=by rfl)
  (ht:eval (.Call (.Attribute o m apos) (e::es) [] pos) X.env=(do
   let ov <- eval o X.env
   standAt apos.atName
   let(f,first) <- holding [ov] (getMethod ov m pl)
   callWith pos f first (kz pos (jo (e::es) X.env)) (mi pos (lj [] X.env))):=by rfl):
  PE X (.Call (.Attribute o m apos) (e::es) [] pos) (tMeth C m sp aw E ta t):=by
 intro pins s σ H Q I h;refine nX (pl:=pl) (thn (he pins s σ H _ I h) λu s1 ae=>?_) ht
 obtain⟨x,H1,I1,rx,a,dx,fs,ex,ea,l,q⟩:=ae;subst ex;obtain rfl:u=jK a:=rx;refine zdh_ I1 ea c hm l ?_;refine nM (first:=[.ref a]) (h₀:=X.base) I.ok.mod.kin hm.kp (thn (ha pos pins s1 σ H1 _ I1 q) λus s2 ⟨vs,H2,I2,r,q2⟩=>⟨I2.kIn,?_⟩) bO aI
 exact zfp_ (us:=.ref a::us) (vs:=.ref a::vs) F hr hb hd hx I2 (.cons rfl r) q2
theorem ziF_ {pl:Sem Bool}(he:PE X o ta)(c:Cls X.K C)(hm:Meth X.K C m f)(F:FnOk X.prog X.w X.K X.mg X.base CX k f fd ps sp)(hr:Room k X.A)(hb:Binds X.K fd ps ds)(hd:Vals aw ds)(hx:Passes CX X E)
  (ht:eval (.Call (.Attribute o m apos) [] [] pos) X.env=(do
   let ov <- eval o X.env
   standAt apos.atName
   let(f,first) <- holding [ov] (getMethod ov m pl)
   callWith pos f first (kz pos (jo [] X.env)) (mi pos (lj [] X.env))):=by rfl):
  PE X (.Call (.Attribute o m apos) [] [] pos) (tMeth C m sp aw E ta tNil):=by
 intro pins s σ H Q I h;refine nX (pl:=pl) (thn (he pins s σ H _ I h) λu s1 ae=>?_) ht
 obtain⟨x,H1,I1,rx,a,dx,fs,ex,ea,l,q⟩:=ae;subst ex;obtain rfl:u=jK a:=rx;refine zdh_ I1 ea c hm l ?_;exact oE (first:=[.ref a]) I1.kIn hm.kp (zfp_ (us:=[.ref a]) (vs:=[.ref a]) F hr hb hd hx I1 (.cons rfl .nil) q)
structure Mk (K:Fgg)(C f:iQ):Prop where
 makes:oR K C=qK
 init:lu K (.ref C) "__init__"=qI (qI (.ref f))
 fn:pR K (.ref f)=qK
 kp:lT K (.ref C)=qK
theorem zeU_ {pins:Pnn}{σ:St}{H:Hp}{s:iM}{Q:VK}{us:List fv}{vs:List V}(M:Mk X.K C f)(F:FnOk X.prog X.w X.K X.mg X.base CX k f fd ps sp)(hr:Room (k+1) X.A)(hb:Binds X.K fd ps ds)(hd:Vals aw ds)
  (hx:Passes CX X E) (I:Inv X pins σ H s) (r:Vals vs us)
  (h:∀x dx,H x=qJ->H dx=qJ->dx≠x->sp (.ref x::(vs++aw)) (upd (upd H dx (.own x)) x (.ins C dx [])) (λv H2=>v=.non/\Q (.ref x) H2) E):
  jq (model X.prog X.w) X.A (call (.ref C) us) (EP X pins σ Q) X.xe s:=by
 have hq:=h (s.heap.objs.size+1) s.heap.objs.size (I.hok.fresh (mM _)) (I.hok.fresh (iW _)) (jQ (lU _));have I2:=Inv.made (C:=C) I;have r2:Vals (V.ref (s.heap.objs.size+1)::(vs++aw)) (jK (s.heap.objs.size+1)::(us++ds)):=.cons rfl (r.append hd);have hl:(jK (s.heap.objs.size+1)::us++ds).length=ps.length:=by
  have e:=r2.length;rw[F.len _ _ _ _ hq]at e;exact e.symm
 refine wpAny_call (zjy_ (f:=f) I.kIn M.makes M.init (beq_iff_eq.mp M.fn) (codeAny_mono (F.run _ X.stack _ _ ⟨jK (s.heap.objs.size+1)::us,[]⟩ (jK (s.heap.objs.size+1)::(us++ds)) _ _ E (hr.make C us [])
  (I2.env0.make C us []) (hb _ (jK (s.heap.objs.size+1)::us) I2.kIn hl) r2 hq) λr s' cY=>?_))
 cases r with
 |error e=>exact hx pins σ _ _ e s' I2 cY
 |ok fl=>
  cases fl with
  |ret u=>
   obtain⟨v,H',I3,rv,ev,q3⟩:=I2.after cY;subst ev;exact⟨rv,⟨V.ref (s.heap.objs.size+1),H',I3,rfl,q3⟩⟩
  |next=>exact jL cY
  |brk=>exact jL cY
  |cont=>exact jL cY
theorem zlD_ (M:Mk X.K C f)(F:FnOk X.prog X.w X.K X.mg X.base CX k f fd ps sp)(hr:Room (k+1) X.A)(hg:Gl X x)(hm:X.mg x=qI (.ref C))(hb:Binds X.K fd ps ds)(hd:Vals aw ds)(hx:Passes CX X E)
  (ha:PA X (e::es) t) (aR:(x==("__debug__":Str))=qL:=by decide) (he:jo (e::es) X.env=(qL,eval e X.env)::jo es X.env:=by rfl) (aI:(kz pos (jo es X.env)).any (·.1)=qL:=by rfl):
  PE X (.Call (.Name x p) (e::es) [] pos) (tMake C sp aw E t):=by
 intro pins s σ H Q I h;refine lA (zc8_ I hg hm ?_ aR);refine nM (h₀:=X.base) I.ok.mod.kin M.kp (thn (ha pos pins s σ H _ I h) λus s1 ⟨vs,H1,I1,r,q⟩=>⟨I1.kIn,?_⟩) he aI
 exact zeU_ M F hr hb hd hx I1 r q
theorem zjp_ (M:Mk X.K C f)(F:FnOk X.prog X.w X.K X.mg X.base CX k f fd ps sp)(hr:Room (k+1) X.A)(hg:Gl X x)(hm:X.mg x=qI (.ref C))(hb:Binds X.K fd ps ds)(hd:Vals aw ds)(hx:Passes CX X E)
  (aR:(x==("__debug__":Str))=qL:=by decide):PE X (.Call (.Name x p) [] [] pos) (tMake C sp aw E tNil):=by
 intro pins s σ H Q I h;refine lA (zc8_ I hg hm ?_ aR);exact oE I.kIn M.kp (zeU_ (us:=[]) M F hr hb hd hx I .nil h)
end
structure FnScope (N P:List Str)(sc:Scope):Prop where
 kind:sc.kind=.function
 co:sc.isCoroutine=qL
 gen:sc.isGenerator=qL
 nd:N.Nodup
 pre:N.take P.length=P
 par:∀x∈P,sc.names.lookup x=qI .local\/sc.names.lookup x=qI .cell
 nofree:∀y∈sc.names,y.2≠.free
theorem zej_ {kindOf:Str->Option lB}{x:Str}:∀{binds:List (Str×fv)}{m:Str->Option fv},(∀v,(x,v)∉binds)->bindL kindOf binds m x=m x
 |[],_,_=>rfl
 |(n,v)::r,m,h=>by
  unfold bindL;rw[zej_ λw hw=>h w (i7 _ hw)]
  split
  ·have:x≠n:=by rintro rfl;exact h v i5
   simp[this]
  ·rfl
theorem zeb_ {kindOf:Str->Option lB}{x:Str}:∀{binds:List (Str×fv)}{m:Str->Option fv},(∀v,(x,v)∉binds)->bindC kindOf binds m x=m x
 |[],_,_=>rfl
 |(n,v)::r,m,h=>by
  unfold bindC;rw[zeb_ λw hw=>h w (i7 _ hw)]
  split
  ·rfl
  ·have:x≠n:=by rintro rfl;exact h v i5
   simp[this]
theorem zd9_ {kindOf:Str->Option lB}{x:Str}{v:fv}:∀{P:List Str}{vs:List fv}{i:Nat}{m:Str->Option fv},P.Nodup->P[i]?=qI x->vs[i]?=qI v->kindOf x=qI .local ->
  bindL kindOf (P.zip vs) m x=qI v
 |[],_,_,_,_,h,_,_=>by simp at h
 |_::_,[],_,_,_,_,h,_=>by simp at h
 |p::P,w::vs,0,m,nd,h1,h2,hk=>by
  simp at h1 h2;subst h1;subst h2;show bindL kindOf ((p,w)::P.zip vs) m p=_
  unfold bindL;rw[zej_ λv hv=>(lJ.mp nd).1 (lZ hv).1,if_pos hk]
  simp
 |p::P,w::vs,i+1,m,nd,h1,h2,hk=>by
  show bindL kindOf ((p,w)::P.zip vs) m x=_
  unfold bindL;exact zd9_ (i:=i) (lJ.mp nd).2 (by simpa using h1) (by simpa using h2) hk
theorem zd0_ {kindOf:Str->Option lB}{x:Str}{v:fv}:∀{P:List Str}{vs:List fv}{i:Nat}{m:Str->Option fv},P.Nodup->P[i]?=qI x->vs[i]?=qI v->kindOf x≠qI .local ->
  bindC kindOf (P.zip vs) m x=qI v
 |[],_,_,_,_,h,_,_=>by simp at h
 |_::_,[],_,_,_,_,h,_=>by simp at h
 |p::P,w::vs,0,m,nd,h1,h2,hk=>by
  simp at h1 h2;subst h1;subst h2;show bindC kindOf ((p,w)::P.zip vs) m p=_
  unfold bindC;rw[zeb_ λv hv=>(lJ.mp nd).1 (lZ hv).1,if_neg hk]
  simp
 |p::P,w::vs,i+1,m,nd,h1,h2,hk=>by
  show bindC kindOf ((p,w)::P.zip vs) m x=_
  unfold bindC;exact zd0_ (i:=i) (lJ.mp nd).2 (by simpa using h1) (by simpa using h2) hk
def start (N:List Str)(vs:List V):St:=vs.map qI++iT (N.length-vs.length) qJ
def cxOf (CX:CXT)(P:jr)(w:jH)(K:Fgg)(mg:Str->Option fv)(base:Heap)(N:List Str)(qual:Str)(scope:Scope)(f:iQ)(cd:fv)(A:j3)(outer:List Env)(s:iM)(H:Hp)(E:XK):Cx where
 prog:=P
 w:=w
 K:=K
 mg:=mg
 base:=base
 A:=A.deeper (envOfC qual scope s.heap.objs.size f cd)
 N:=N
 s₀:=s
 H₀:=H
 env:=envOfC qual scope s.heap.objs.size f cd
 outer:=outer
 stack:=envOfC qual scope s.heap.objs.size f cd::outer
 ex:=[]
 calm:=qK
 fn:=λ_=>qK
 pn:=[]
 xe:=λe s'=>jq (model P w) (A.deeper (envOfC qual scope s.heap.objs.size f cd)) (leaving (envOfC qual scope s.heap.objs.size f cd) e) (λ_ d8=>CX outer H s E e d8) (λe' d8=>CX outer H s E e' d8) s'
theorem zdU_ {sc:Scope}{n:Nat}{x:Str}(h:sc.names.lookup x=qI .cell):∃c,(cellsFrom n sc.names []).lookup x=qI c:=by
 have q:=oS sc.names n [] (.inl h);exact mj.mp q
theorem zgz_ {CX:CXT}{P:jr}{w:jH}{K:Fgg}{mg:Str->Option fv}{base:Heap}{N ps:List Str}{qual:Str}{scope:Scope}{f:iQ}{cd:fv}{A:j3}{outer:List Env}{s s1:iM}{H:Hp}{E:XK}{us:List fv}{vs:List V}
  (S:FnScope N ps scope) (hd:A.handled=qJ) (e0:Env0 P w K mg base A outer s H) (hl:vs.length=ps.length) (r:Vals vs us)
  (x:InCallC s s.heap.objs.size (bindL (envOfC qual scope s.heap.objs.size f cd).kindOf (ps.zip us) λ_=>qJ) (cellsFrom (s.heap.objs.size+1) scope.names []) (bindC (envOfC qual scope s.heap.objs.size f cd).kindOf (ps.zip us) λ_=>qJ) s1):
  Inv (cxOf CX P w K mg base N qual scope f cd A outer s H E) [] (start N vs) H s1:=by
 have aI:ps.length<=N.length:=by have:=congrArg jU S.pre;rw[ki]at this;lia
 obtain⟨h1,tk,rfl,hk⟩:=x.done;have cI:∀b:iQ,b∉(cxOf CX P w K mg base N qual scope f cd A outer s H E).ex:=λb z=>absurd (show b∈([]:List iQ)from z) (by simp)
 refine⟨⟨e0.mod,S.kind,rfl,rfl,iW _,λy z c h1 h2=>?_,λy hy=>?_,λy c _ h=>?_,λ_=>hd,Around.frames_deeper e0.frames,.inr ⟨rfl,rfl⟩,λb z=>absurd z (cI b),e0.bs,e0.bsz,λb _ _=>cI b,λb z=>absurd z (cI b),e0.funs,e0.frf,e0.tb⟩,
  rfl,e0.bare,Un.kept hk,⟨_,x.toInCall.ns,λi y v h1 h2 h3=>?_⟩,λy c h=>⟨_,x.cell y c h⟩,e0.hok.fresh (iW _),λy c h=>?_,λp hp=>absurd (show p∈([]:Pnn)from hp) (by simp),e0.hok.kept hk,?_⟩
 ·exact name_of_addr x.apart (ku h1) (ku h2)
 ·have hy:scope.names.lookup y=qI .cell\/scope.names.lookup y=qI .free:=hy
  rcases hy with hy |hy
  ·exact zdU_ hy
  ·exact absurd rfl (S.nofree _ (ku hy))
 ·exact mP (x.above y c (ku h))
 ·have hi:i<vs.length:=by
   unfold start at h2;by_cases hi:i<vs.length
   ·exact hi
   ·rw[jy (by simpa using hi)]at h2
    rw[List.getElem?_replicate]at h2;split at h2<;>cases h2
  have ha:vs[i]?=qI v:=by
   unfold start at h2;rw[jS (by simpa using hi),iS]at h2
   cases e:vs[i]? with
   |none=>rw[e]at h2;cases h2
   |some a=>rw[e]at h2;cases h2;rfl
  obtain⟨u,hu,rv⟩:=r.get ha;have hp:ps[i]?=qI y:=by
   rw[<- S.pre,List.getElem?_take_of_lt (by lia)];exact h1
  have fJ:ps.Nodup:=by rw[<- S.pre];exact S.nd.sublist (List.take_sublist _ _)
  refine⟨u,rv,?_⟩;rcases S.par y (kj hp)with k |k
  ·exact .inl ⟨k,zd9_ fJ hp hu k⟩
  ·obtain⟨c,e⟩:=zdU_ (n:=s.heap.objs.size+1) k
   refine .inr ⟨.inl k,c,e,?_⟩;have q:=x.cell y c e;rw[zd0_ fJ hp hu (by show scope.names.lookup y≠_;rw[k];decide)]at q
   exact q
 ·exact e0.hok.fresh (mP (x.above y c (ku h)))
 ·unfold start
  show _=N.length
  rw[iP,gf,List.length_replicate];lia
theorem fn_of {CX:CXT}{P:jr}{w:jH}{K:Fgg}{mg:Str->Option fv}{base:Heap}{k:Nat}{f:iQ}{name qual:Str}{params:Arguments}{body:List jI}{scope:Scope}{dV kV doc pm ah ct oc:fv}{an od:Option iQ}
  {az:Array (Option fv)}{N ps:List Str}{sp:Sp}(lk:K.lookup f=qI ⟨oc,od,.func (W.fnOf name qual params body scope dV kV doc pm an ah ct),az⟩) (au:nz K ah qual=qK) (S:FnScope N ps scope)
  (len:∀vs H Q E,sp vs H Q E->vs.length=ps.length)
  (dA:∀(A:j3) (outer:List Env) (s:iM) (H:Hp) (vs:List V) (Q:VK) (E:XK),Room k (A.deeper (envOfC qual scope s.heap.objs.size f ah))->sp vs H Q E ->
   ∃t,PSs (cxOf CX P w K mg base N qual scope f ah A outer s H E) body t/\t {nx:=λ_ H'=>Q .non H',rt:=Q} (start N vs) H):
  FnOk P w K mg base CX (k+1) f (W.fnOf name qual params body scope dV kV doc pm an ah ct) ps sp:=by
 refine⟨len,λA outer s H args us vs Q E hr e0 hb r cz=>?_⟩
 have hl:=len _ _ _ _ cz;have KX:K.In s.heap:=e0.mod.kin.keeps λb o e=>(e0.bs b o e).1
 have lim:s.heap.NoLimit:=e0.mod.nolimit.keeps λb o e=>(e0.bs b o e).1
 have dc:∀y∈ps.zip us,scope.names.lookup y.1=qI .local\/(scope.names.lookup y.1=qI .cell/\((cellsFrom (s.heap.objs.size+1) scope.names []).lookup y.1).isSome=qK):=λ⟨n,v⟩ hy=>by
  rcases S.par n (lZ hy).1 with q |q
  ·exact .inl q
  ·exact .inr ⟨q,oS _ _ _ (.inl q)⟩
 refine codeAny_call_function hr.depth (KX _ _ lk) rfl S.co S.gen rfl (W.codeRec_of KX au) (hb _ _ _ _ ?_);refine wpAny_newFunctionEnv_cells S.kind dc λenv he s1 x=>?_
 subst he;refine⟨lim.keeps x.toInCall.keep,codeAny_func ?_⟩;obtain⟨t,ht,hq⟩:=dA A outer s H vs Q E (hr.deeper _) cz;have I:Inv (cxOf CX P w K mg base N qual scope f ah A outer s H E) [] (start N vs) H s1:=zgz_ S hr.hd e0 hl r x;refine kr (ht [] s1 (start N vs) H _ I hq) (λfl s' hs=>?_) λe s' hs=>hs
 have fin:∀{ab:St}{H':Hp}{v:V}{u:fv},Inv (cxOf CX P w K mg base N qual scope f ah A outer s H E) [] ab H' s'->RelV v u->Q v H'->CE outer P w H s Q u s':=
  λ{ab H' v u} J rv q=>⟨v,H',J.os,J.bare,J.base,J.hok,rv,q⟩
 cases fl with
 |ret u=>
  obtain⟨v,ab,H',J,rv,q⟩:=hs;exact fin J rv q
 |next=>
  obtain⟨ab,H',J,q⟩:=hs;exact fin (v:=V.non) (u:=oI) J rfl q
 |brk=>
  obtain⟨_,_,_,q⟩:=hs;exact jL q
 |cont=>
  obtain⟨_,_,_,q⟩:=hs;exact jL q
section
variable {X:Cx}{x:Str}{p pos:Pos}{e:i4}{es:List i4}{t:TA}{id T:String}{r:List V->Hp->VK->Prop}
def tCB (r:List V->Hp->VK->Prop)(t:TA):TE:=λσ H Q=>t σ H λvs H1=>r vs H1 Q
theorem zjk_ (hc:CallR X (.builtin id) r)(hg:Gl X x)(hm:X.mg x=qJ)(hv:k9 x=qI (.builtin id))(ha:PA X (e::es) t)(hn:x ≠ "__name__":=by decide)(aR:(x==("__debug__":Str))=qL:=by decide)
  (he:jo (e::es) X.env=(qL,eval e X.env)::jo es X.env:=by rfl) (aI:(kz pos (jo es X.env)).any (·.1)=qL:=by rfl):PE X (.Call (.Name x p) (e::es) [] pos) (tCB r t):=by
 intro pins s σ H Q I h;refine lA (zgj_ I hg hm hv ?_ hn aR);exact oT (thn (ha pos pins s σ H _ I h) λus s1 ⟨vs,H1,I1,r1,q1⟩=>hc pins s1 σ H1 vs us Q I1 r1 q1) he aI
theorem zgP_ (hc:CallR X (.type T) r)(hg:Gl X x)(hm:X.mg x=qJ)(hv:k9 x=qI (.type T))(ha:PA X (e::es) t)(hn:x ≠ "__name__":=by decide)(aR:(x==("__debug__":Str))=qL:=by decide)
  (he:jo (e::es) X.env=(qL,eval e X.env)::jo es X.env:=by rfl) (aI:(kz pos (jo es X.env)).any (·.1)=qL:=by rfl):PE X (.Call (.Name x p) (e::es) [] pos) (tCB r t):=by
 intro pins s σ H Q I h;refine lA (zgj_ I hg hm hv ?_ hn aR);exact mT (thn (ha pos pins s σ H _ I h) λus s1 ⟨vs,H1,I1,r1,q1⟩=>hc pins s1 σ H1 vs us Q I1 r1 q1) he aI
end
end L2
namespace HT
open PySem PyProof.Rows
section
open PySem.SeqAt
open PySem.AutoSeq1 (wpAny_loadPart')
open PySem.MeetsSeq PySem.MeetsSeq2 PySem.MeetsSeq3
end
section
variable {prog:jr}{w:jH}{A:j3}{E:fv->iM->Prop}{s:iM}
theorem cat_tup {t b:iQ}{vs ws:List fv}{Q:fv->iM->Prop}(ht:IsTup s.heap t vs.toArray)(hb:IsTup s.heap b ws.toArray)(hv:vs≠[])
  (h1:ws=[]->Q (.ref t) s) (h2:ws≠[]->Q (.ref s.heap.objs.size) {s with heap:=s.heap.push {cls:=.type "tuple",data:=.seq (vs++ws).toArray}})
  (hsz:vs.length+ws.length<=iZ):jq (model prog w) A (k7 .Add (.ref t) (.ref b)) Q E s:=by
 obtain⟨⟨cls,dd,data,sl⟩,ho,hc,n,hd⟩:=id ht;obtain⟨⟨iA,dd2,data2,sl2⟩,ho2,bP,n2,hd2⟩:=id hb;simp only at hc hd bP hd2;subst hc hd bP hd2;have e:vs.toArray++ws.toArray=(vs++ws).toArray:=by simp
 by_cases hw:ws=[]
 ·exact concat_meets ⟨_,ho,rfl⟩ ⟨_,ho2,rfl⟩ noFill_tuple_add seq_tuple_add nN nA (nq _ _)
   (tuple_addW1 t b vs.toArray ws.toArray n n2 dd dd2 sl sl2 (by simpa using hv) (by simp[hw])) ⟨ho,ho2,h1 hw⟩
 ·refine concat_meets ⟨_,ho,rfl⟩ ⟨_,ho2,rfl⟩ noFill_tuple_add seq_tuple_add nN nA (nq _ _)
   (tuple_addW2 t b vs.toArray ws.toArray n n2 dd dd2 sl sl2 (by simpa using hv) (by simpa using hw) (by rw[iO,iO];exact hsz)) ⟨ho,ho2,?_⟩
  rw[e];exact h2 hw
noncomputable def sIx (n d:Nat):Option Int->Nat
 |none=>d
 |some v=>if v<0 then(v+(n:Int)).toNat else min v.toNat n
theorem sIx_le (n d:Nat)(hd:d<=n)(o:Option Int):sIx n d o<=n:=by
 cases o with
 |none=>exact hd
 |some v=>
  show(if v<0 then(v+(n:Int)).toNat else min v.toNat n)<=n
  by_cases hv:v<0
  ·rw[if_pos hv];lia
  ·rw[if_neg hv];exact Nat.min_le_right _ _
theorem zhG_ (v:Int)(n d:Nat):(if v<0 then max (v+(n:Int)) 0 else min v (n:Int))=((sIx n d (qI v):Nat):Int):=by
 show(if v<0 then max (v+(n:Int)) 0 else min v (n:Int))=(((if v<0 then(v+(n:Int)).toNat else min v.toNat n):Nat):Int)
 by_cases hv:v<0
 ·simp only[if_pos hv];lia
 ·simp only[if_neg hv];lia
theorem zfw_ (lo hi:Option Int)(n:Nat):md lo hi 1 (n:Int)=(((sIx n 0 lo:Nat):Int),((sIx n n hi:Nat):Int)):=by
 have h1:¬((1:Int)<0):=by lia
 unfold md;simp only[h1,if_false];refine Prod.ext ?_ ?_
 ·cases lo with
  |none=>rfl
  |some v=>exact zhG_ v n 0
 ·cases hi with
  |none=>rfl
  |some v=>exact zhG_ v n n
theorem zfm_ (i j:Nat):lD (i:Int) (j:Int) 1=j-i:=by
 unfold lD;have h1:(1:Int) > 0:=by lia
 simp only[h1,if_true,Int.ediv_one];split<;>lia
theorem zdg_ {v:fv}{o:Option Int}{Q:Option Int->iM->Prop}(p:IsPart v o)(h:Q o s):jq (model prog w) A (o7 v) Q E s:=by
 cases p with
 |none=>exact slicePart_none h
 |int i t=>exact slicePart_int h
theorem zb1_ {sl:iQ}{vl vu:fv}{lo hi:Option Int}{n:Nat}{Q:Int×Int×Nat->iM->Prop}(hs:s.heap.IsSliceOf sl vl vu .none)(pl:IsPart vl lo)(pu:IsPart vu hi)
  (h:Q (((sIx n 0 lo:Nat):Int),1,sIx n n hi-sIx n 0 lo) s):jq (model prog w) A (mY (.ref sl) (pure (n:Int))) Q E s:=by
 obtain⟨os,hos,hcs,hds⟩:=id hs;unfold mY pB;refine iX (iX (o6 hos hds (x:=vl) rfl (iX (o6 hos hds (x:=vu) rfl (iX (o6 hos hds (x:=.none) rfl (je ?_)))))));refine iX (slicePart_none ?_);show jq _ _ (if((1:Int) == 0)=qK then _ else _) _ _ s
 rw[if_neg (by decide)]
 refine iX (zdg_ pl (iX (zdg_ pu (iX (je ?_)))));show jq _ _ (match md lo hi 1 (n:Int)with |(lo,hi)=>pure (lo,(1:Int),lD lo hi 1)) _ _ s
 rw[zfw_ lo hi n];show jq _ _ (pure (((sIx n 0 lo:Nat):Int),(1:Int),lD ((sIx n 0 lo:Nat):Int) ((sIx n n hi:Nat):Int) 1)) _ _ s
 rw[zfm_];exact je h
theorem ziY_ (xs:Array fv)(i k:Nat):((jw k).filterMap λ(m:Nat)=>xs[((i:Int)+(m:Int)*1).toNat]?).toArray=((xs.toList.drop i).take k).toArray:=by
 have e:(λ(m:Nat)=>xs[((i:Int)+(m:Int)*1).toNat]?)=λm=>xs[i+m]?:=by
  funext m;have:((i:Int)+(m:Int)*1).toNat=i+m:=by lia
  rw[this]
 rw[e];have:=pick_run xs i k;rw[List.filterMap_map]at this;have e2:((λx=>xs[x]?)∘λx=>i+x)=λm=>xs[i+m]?:=rfl
 rw[e2]at this;rw[this]
theorem getItem_tuple_cut {t sl:iQ}{items:Array fv}{vl vu:fv}{lo hi:Option Int}{Q:fv->iM->Prop}(ht:IsTup s.heap t items)(hs:s.heap.IsSliceOf sl vl vu .none)(pl:IsPart vl lo)(pu:IsPart vu hi)
  (hw:¬(sIx items.size 0 lo=0/\sIx items.size items.size hi=items.size))
  (h:Q (.ref s.heap.objs.size) {s with heap:=s.heap.push {cls:=.type "tuple",data:=.seq ((items.toList.drop (sIx items.size 0 lo)).take (sIx items.size items.size hi-sIx items.size 0 lo)).toArray}})
  (hsz:items.size<=iZ):jq (model prog w) A (getItem (.ref t) (.ref sl)) Q E s:=by
 have aU:sizeOk (.seq ((items.toList.drop (sIx items.size 0 lo)).take (sIx items.size items.size hi-sIx items.size 0 lo)).toArray):=by
  show((items.toList.drop (sIx items.size 0 lo)).take (sIx items.size items.size hi-sIx items.size 0 lo)).toArray.size<=iZ
  rw[iO,ki,lp,k6];lia
 have hj:sIx items.size items.size hi<=items.size:=sIx_le _ _ (iW _) hi;obtain⟨os,hos,hcs,hds⟩:=id hs;have hU:s.TypeIs (.ref sl) "slice":=⟨os,hos,hcs⟩;unfold getItem
 try with_reducible refine wpAny_holding ?_
 first |refine iX (je ?_)|skip
 refine iX (wpAny_sequenceKey ht.typeIs (by decide) ?_)
 refine iX (wpAny_callSpecial?_slot (name:=mU "__getitem__") ht.typeIs lS
  (wpAny_call_entry lS ht.typeIs entry_tuple_getitem ?_ (args_tuple_getitem _ _)))
 show jq _ _ (pk (.ref t)>>=_) _ _ s
 refine iX (tupleItemsOf_ ht ?_);refine iX (wpAny_typeOf hU ?_);rw[if_pos (by decide)]
 refine iX (zb1_ hs pl pu ?_);have gN:¬((((sIx items.size 0 lo:Nat):Int) == 0 && (1:Int) == 1 && (sIx items.size items.size hi-sIx items.size 0 lo) == items.size)=qK):=by
  intro q;rw[bR,bR]at q;have q1:((sIx items.size 0 lo:Nat):Int)=0:=eq_of_beq q.1.1;have q2:sIx items.size items.size hi-sIx items.size 0 lo=items.size:=eq_of_beq q.2;exact hw ⟨by lia,by lia⟩
 show jq _ _ (if(((sIx items.size 0 lo:Nat):Int) == 0 && (1:Int) == 1 && (sIx items.size items.size hi-sIx items.size 0 lo) == items.size)=qK then _ else _) _ _ s
 rw[if_neg gN,ziY_]
 first
  |exact iX (m:=lP _) (wpAny_newObj_type (je ⟨_,rfl,je h⟩) aU)
  |exact iX (m:=lP _) (wpAny_newObj_type (iX (je (je ⟨_,rfl,je h⟩))) aU)
  |exact iX (iX (m:=lP _) (wpAny_newObj_type (je (je ⟨_,rfl,je h⟩)) aU))
  |exact iX (iX (m:=lP _) (wpAny_newObj_type (je ⟨_,rfl,je h⟩) aU))
end
end HT
namespace L2
open PySem PySem.Spec PyProof.Rows
abbrev TO:=St->Hp->(Option Int->Hp->Prop)->Prop
def PO (X:Cx)(e:Option i4)(t:TO):Prop:=
 ∀(pins:Pnn) (s:iM) (σ:St) (H:Hp) (Q:Option Int->Hp->Prop),Inv X pins σ H s->t σ H Q ->
  jq (model X.prog X.w) X.A (evalPart e X.env) (λu s'=>∃o H',Inv X pins σ H' s'/\IsPart u o/\Q o H') X.xe s
def tNoPart:TO:=λ_ H Q=>Q qJ H
section
variable {X:Cx}{e:i4}{te:TE}{lo hi:Option i4}{tl th:TO}{pos p2:Pos}
theorem zmG_:PO X qJ tNoPart:=by
 intro pins s σ H Q I h;rw[evalPart_none];exact je ⟨qJ,H,I,.none,h⟩
def SlR (X:Cx)(r:V->Option Int->Option Int->Hp->VK->Prop):Prop:=
 ∀(pins:Pnn) (s:iM) (σ:St) (H:Hp) (x:V) (v vl vu:fv) (lo hi:Option Int) (sl:iQ) (Q:VK),Inv X pins σ H s->RelV x v->s.heap.IsSliceOf sl vl vu .none->IsPart vl lo->IsPart vu hi->r x lo hi H Q ->
  ∃T id,typeLookup (.type T) "__getitem__"=pure (qI (.builtin id))/\s.TypeIs v T/\jq (model X.prog X.w) X.A (getItem v (.ref sl)) (EP X pins σ Q) X.xe s
theorem SlR.or {r r':V->Option Int->Option Int->Hp->VK->Prop}(h:SlR X r)(h':SlR X r'):SlR X (λx lo hi H Q=>r x lo hi H Q\/r' x lo hi H Q):=by
 intro pins s σ H x v vl vu lo hi sl Q I rx hs pl pu q;rcases q with q |q
 ·exact h pins s σ H x v vl vu lo hi sl Q I rx hs pl pu q
 ·exact h' pins s σ H x v vl vu lo hi sl Q I rx hs pl pu q
def tSl (r:V->Option Int->Option Int->Hp->VK->Prop)(te:TE)(tl th:TO):TE:=λσ H Q=>te σ H λx H1=>tl σ H1 λl H2=>th σ H2 λu H3=>r x l u H3 Q
theorem ziy_ {r:V->Option Int->Option Int->Hp->VK->Prop}(hr:SlR X r)(he:PE X e te)(hl:PO X lo tl)(hu:PO X hi th):PE X (.Subscript e (.Slice lo hi qJ p2) pos) (tSl r te tl th):=by
 intro pins s σ H Q I h;refine Subscript_ (thn (he pins s σ H _ I h) λv s1 ae=>?_)
 obtain⟨x,H1,I1,r1,q1⟩:=ae;refine wpAny_Slice (thn (hl pins s1 σ H1 _ I1 q1) λvl s2 ⟨l,H2,I2,pl,q2⟩=>thn (hu pins s2 σ H2 _ I2 q2) λvu s3 ae=>?_)
 obtain⟨u,H3,I3,pu,q3⟩:=ae;rw[evalPart_none];refine je ?_;have I4:Inv X pins σ H3 {s3 with heap:=s3.heap.push {cls:=.type "slice",data:=.fields #[vl,vu,.none]}}:=I3.kept (t':=s3.toks) λb ob q=>iU _ q
 obtain⟨T,id,hT,ht,hg⟩:=hr pins {s3 with heap:=s3.heap.push {cls:=.type "slice",data:=.fields #[vl,vu,.none]}} σ H3 x v vl vu l u s3.heap.objs.size Q I4 r1 (qB ..) pl pu q3;show jq (model X.prog X.w) X.A (subscriptTail e (.Slice lo hi qJ p2) v (.ref s3.heap.objs.size)) (EP X pins σ Q) X.xe {s3 with heap:=s3.heap.push {cls:=.type "slice",data:=.fields #[vl,vu,.none]}}
 exact tail_any (ops:=[.ref s3.heap.objs.size,v]) ht hT hg (by with_unfolding_all rfl)
def cutV (xs:List V)(lo hi:Option Int):List V:=(xs.drop (HT.sIx xs.length 0 lo)).take (HT.sIx xs.length xs.length hi-HT.sIx xs.length 0 lo)
theorem zcp_ (xs:List V)(lo hi:Option Int):(cutV xs lo hi).length<=xs.length:=by
 unfold cutV;rw[ki,lp];lia
def rSlT (K:Fgg):V->Option Int->Option Int->Hp->VK->Prop:=λx lo hi H Q=>∃a xs,x=.ref a/\SqT K H a xs /\
 ¬(HT.sIx xs.length 0 lo=0/\HT.sIx xs.length xs.length hi=xs.length)/\∀p,H p=qJ->Q (.ref p) (upd H p (.tup (cutV xs lo hi)))
theorem zpA_:SlR X (rSlT X.K):=by
 intro pins s σ H x v vl vu lo hi sl Q I rx hs pl pu h;obtain⟨a,xs,rfl,hx,hw,q⟩:=h;cases rx;obtain⟨its,r,ht,hz⟩:=I.tuple hx;have hlen:its.toArray.size=xs.length:=by rw[iO];exact r.length.symm
 refine⟨"tuple",_,lS.lookup,ht.typeIs,?_⟩;refine HT.getItem_tuple_cut ht hs pl pu (by rw[hlen];exact hw) ?_ (by rw[hlen];exact hz)
 rw[hlen];refine⟨.ref s.heap.objs.size,_,I.laid (t':=s.toks) (o:=.tup (cutV xs lo hi)) (λb ob q=>iU _ q) (iW _) ?_,rfl,q _ (I.hok.fresh (iW _))⟩
 exact⟨kH (zcp_ xs lo hi) hz,_,(r.drop (HT.sIx xs.length 0 lo)).take (HT.sIx xs.length xs.length hi-HT.sIx xs.length 0 lo),IsTup.new _ _⟩
def rCatT (K:Fgg):R2:=λx y H Q=>∃a b xs ys,x=.ref a/\y=.ref b/\SqT K H a xs/\SqT K H b ys/\xs≠[]/\xs.length+ys.length<=iZ /\
 (ys=[]->Q (.ref a) H)/\(ys≠[]->∀p,H p=qJ->Q (.ref p) (upd H p (.tup (xs++ys))))
theorem Vals.nil_iff {xs:List V}{us:List fv}(r:Vals xs us):us=[]↔xs=[]:=by
 cases r with
 |nil=>simp
 |cons _ _=>simp
theorem zkk_:OpR X (k7 .Add) (rCatT X.K):=by
 intro pins s σ H x y v u Q I rx ry h;obtain⟨a,b,xs,ys,rfl,rfl,ha,hb,hx,hz,q1,q2⟩:=h;cases rx;cases ry;obtain⟨its,r1,p1,_⟩:=I.tuple ha;obtain⟨ai,r2,p2,_⟩:=I.tuple hb;refine HT.cat_tup p1 p2 (λz=>hx (r1.nil_iff.mp z)) (λz=>⟨.ref a,H,I,rfl,q1 (r2.nil_iff.mp z)⟩) (λz=>?_) (by rw[<- r1.length,<- r2.length];exact hz)
 refine⟨.ref s.heap.objs.size,_,I.laid (t':=s.toks) (o:=.tup (xs++ys)) (λb ob q=>iU _ q) (iW _) ?_,rfl,q2 (λw=>z (r2.nil_iff.mpr w)) _ (I.hok.fresh (iW _))⟩
 exact⟨by rw[iP];exact hz,_,r1.append r2,IsTup.new _ _⟩
end
noncomputable def ixN (n:Nat)(i:Int):Option Nat:=if 0<=i then(if i<n then qI i.toNat else qJ)else if -(n:Int)<=i then qI (i+n).toNat else qJ
def atI {α:Type}(xs:List α)(i:Int):Option α:=(ixN xs.length i).bind λj=>xs[j]?
theorem zdV_ {n:Nat}{i:Int}{j:Nat}(h:ixN n i=qI j):seqIndex? i n=qI j/\j<n /\ -(n:Int)<=i/\i<n:=by
 unfold ixN at h;by_cases h0:0<=i
 ·rw[if_pos h0]at h
  by_cases h1:i<n
  ·rw[if_pos h1]at h
   have e:i.toNat=j:=jv h;exact⟨by rw[seqIndex_of h0 h1,e],by lia,by lia,h1⟩
  ·rw[if_neg h1]at h;cases h
 ·rw[if_neg h0]at h
  by_cases h1 : -(n:Int)<=i
  ·rw[if_pos h1]at h
   have e:(i+n).toNat=j:=jv h;exact⟨by rw[seqIndex_neg (by lia) h1,e],by lia,h1,by lia⟩
  ·rw[if_neg h1]at h;cases h
theorem ze2_ {α:Type}{xs:List α}{i:Int}{v:α}(h:atI xs i=qI v):∃j,seqIndex? i xs.length=qI j/\xs[j]?=qI v/\j<xs.length /\ -(xs.length:Int)<=i/\i<xs.length:=by
 unfold atI at h;cases e:ixN xs.length i with
 |none=>rw[e]at h;cases h
 |some j=>
  rw[e]at h;obtain⟨h1,h2,h3,h4⟩:=zdV_ e;exact⟨j,h1,h,h2,h3,h4⟩
def PlainIx (b:i4):Prop:=∀o i,subscripted b qL o i=operate [o,i] (getItem o i)
def IxR (X:Cx)(r:R2):Prop:=
 ∀(value slice:i4) (pins:Pnn) (s:iM) (σ:St) (H:Hp) (x y:V) (v u:fv) (Q:VK),Inv X pins σ H s->RelV x v->RelV y u->r x y H Q ->
  subscripted slice qL v u=operate [v,u] (getItem v u)->jq (model X.prog X.w) X.A (subscriptTail value slice v u) (EP X pins σ Q) X.xe s
def MtR (X:Cx)(id:String)(r:V->List V->Hp->VK->Prop):Prop:=
 ∀(pins:Pnn) (s:iM) (σ:St) (H:Hp) (x:V) (xs:List V) (v:fv) (us:List fv) (Q:VK),Inv X pins σ H s->RelV x v->Vals xs us->r x xs H Q ->
  jq (model X.prog X.w) X.A (call (.builtin id) (v::us)) (EP X pins σ Q) X.xe s
section
variable {X:Cx}{a b:i4}{ta tb:TE}{pos:Pos}
theorem pe_ix {r:R2}(hr:IxR X r)(ha:PE X a ta)(hb:PE X b tb)(hs:PlainIx b):PE X (.Subscript a b pos) (tOp r ta tb):=by
 intro pins s σ H Q I h;exact Subscript_ (binT ha hb I h λv u s2 x y H2 I2 rx ry q=>hr a b pins s2 σ H2 x y v u Q I2 rx ry q (hs _ _))
def rIxL (K:Fgg):R2:=λx y H Q=>∃p xs i v,x=.ref p/\y=.int i/\SqL K H p xs/\atI xs i=qI v/\Q v H
def rIxT (K:Fgg):R2:=λx y H Q=>∃p xs i v,x=.ref p/\y=.int i/\SqT K H p xs/\atI xs i=qI v/\Q v H
def rIxS:R2:=λx y H Q=>∃z i c,x=.str z/\y=.int i/\z.length<=iZ/\atI z.cps.toList i=qI c/\Q (.str ⟨#[c]⟩) H
theorem zk7_:IxR X (rIxL X.K):=by
 intro value slice pins s σ H x y v u Q I rx ry h hs;obtain⟨p,xs,i,z,rfl,rfl,hq,he,q⟩:=h;cases rx;obtain⟨t,rfl⟩:=ry;obtain⟨its,r,pl,hz⟩:=I.list hq;obtain⟨j,h1,h2,h3,h4,h5⟩:=ze2_ he;obtain⟨w,ew,aY⟩:=r.get h2;have hl:=r.length;have hn:=line63;have fin:EP X pins σ Q w s:=⟨z,H,I,aY,q⟩;by_cases h0:0<=i
 ·have hj:i.toNat=j:=by
   rw[seqIndex_of h0 h5]at h1;exact jv h1
  exact item_listR pl.isList h0 (by lia) (by rw[hj];simpa using ew) fin hs
 ·have hj:(i+(its.toArray.size:Int)).toNat=j:=by
   rw[seqIndex_neg (by lia) h4]at h1
   rw[iO,<- hl];exact jv h1
  exact subscriptTail_builtinR (x:=w) pl.isList.typeIs slot_list_getitem.lookup
   (wpAny_getItem_list_neg (Q:=λr s'=>r=w/\EP X pins σ Q r s') pl.isList (by lia) (by rw[iO]<;>lia) (by lia) (by rw[hj];simpa using ew) ⟨rfl,fin⟩) hs
theorem znC_:IxR X (rIxT X.K):=by
 intro value slice pins s σ H x y v u Q I rx ry h hs;obtain⟨p,xs,i,z,rfl,rfl,hq,he,q⟩:=h;cases rx;obtain⟨t,rfl⟩:=ry;obtain⟨its,r,pl,hz⟩:=I.tuple hq;obtain⟨j,h1,h2,h3,h4,h5⟩:=ze2_ he;obtain⟨w,ew,aY⟩:=r.get h2;have hl:=r.length;have hn:=line63;have fin:EP X pins σ Q w s:=⟨z,H,I,aY,q⟩
 exact subscriptTail_builtinR (x:=w) pl.typeIs slot_tuple_getitem.lookup
  (getItem_tuple (j:=j) (Q:=λr s'=>r=w/\EP X pins σ Q r s') pl (by lia) (by lia) (by rw[iO,<- hl];exact h1) (by simpa using ew) ⟨rfl,fin⟩) hs
theorem zn8_:IxR X rIxS:=by
 intro value slice pins s σ H x y v u Q I rx ry h hs;obtain⟨z,i,c,rfl,rfl,hz,he,q⟩:=h;obtain⟨t,rfl⟩:=rx;obtain⟨t',rfl⟩:=ry;obtain⟨j,h1,h2,h3,h4,h5⟩:=ze2_ he;have hl:z.cps.toList.length=z.length:=by simp[kZ]
 rw[hl]at h1 h4 h5;have hn:=line63;exact tail_any (typeIs_str s z t) slot_str_getitem.lookup (getItem_str (c:=c) (by
  have e1:decide (i < -(2 ^ 63:Int))=qL:=decide_eq_false (by lia)
  have e2:decide (i ≥ 2 ^ 63)=qL:=decide_eq_false (by lia)
  rw[e1,e2,Bool.or_false]) (by rw[h1];simpa using h2) ⟨.str ⟨#[c]⟩,H,I.tok _,⟨_,rfl⟩,q⟩) hs
theorem zfA_ (its:List fv)(n j:Nat)(u:fv):nO (·.setIfInBounds j u) {cls:=.type "list",data:=.seq its.toArray n}={cls:=.type "list",data:=.seq (its.set j u).toArray n}:=by
 simp[nO]
theorem Inv.lst {pins:Pnn}{σ:St}{H:Hp}{s:iM}{p:iQ}{xs:List V}(I:Inv X pins σ H s)(h:H p=qI (.lst xs)):
  ∃(its:List fv) (n:Nat),Vals xs its/\s.heap.get? p=qI {cls:=.type "list",data:=.seq its.toArray n}/\xs.length<=iZ:=by
 obtain⟨z,its,n,r,e⟩:=I.hok p _ h;exact⟨its,n,r,e,z⟩
theorem Inv.lstUpd {pins:Pnn}{σ:St}{H:Hp}{s:iM}{p:iQ}{xs ys:List V}{its its':List fv}{n n':Nat}{f:oN->oN}(I:Inv X pins σ H s)(h:H p=qI (.lst xs))
  (ho:s.heap.get? p=qI {cls:=.type "list",data:=.seq its.toArray n}) (hf:f {cls:=.type "list",data:=.seq its.toArray n}={cls:=.type "list",data:=.seq its'.toArray n'}) (r:Vals ys its') (hz:ys.length<=iZ) (t:Nat):
  Inv X pins σ (upd H p (.lst ys)) {s with heap:=s.heap.update p f,toks:=t}:=by
 have e:(s.heap.update p f).get? p=qI {cls:=.type "list",data:=.seq its'.toArray n'}:=by
  rw[Heap.get?_update_self f ho (by rw[hf]<;>rfl),hf]
 refine I.write (x:=p) (e:=p) (by rw[h];trivial) (.inl rfl) (λb u hb q=>(nQ _ _ (m7 hb)).trans q) ⟨_,e⟩ ?_
 exact⟨hz,its',n',r,e⟩
def rSetL:V->V->V->Hp->(Hp->Prop)->Prop:=λo i v H Q=>∃p xs k j,o=.ref p/\i=.int k/\H p=qI (.lst xs)/\ixN xs.length k=qI j/\Q (upd H p (.lst (xs.set j v)))
theorem zjh_:PSet X rSetL:=by
 intro pins s σ H o i v ov iv u Q I ro ri rv h;obtain⟨p,xs,k,j,rfl,rfl,hp,hj,q⟩:=h;cases ro;obtain⟨t,rfl⟩:=ri;obtain⟨its,n,r,ho,hz⟩:=I.lst hp;obtain⟨h1,h2,h3,h4⟩:=zdV_ hj;have hl:=r.length;have hn:=line63;have I':Inv X pins σ (upd H p (.lst (xs.set j v))) {s with heap:=s.heap.update p (nO (·.setIfInBounds j u))}:=
  I.lstUpd hp ho (zfA_ its n j u) (r.set rv j) (by rw[jO];exact hz) s.toks
 by_cases h0:0<=k
 ·have hk:k.toNat=j:=by
   rw[seqIndex_of h0 h4]at h1;exact jv h1
  exact W.ki_setAt ho h0 (by lia) (by rw[iO,<- hl];exact h4) (by rw[hk];exact⟨_,I',q⟩)
 ·have hk:(k+(its.toArray.size:Int)).toNat=j:=by
   rw[seqIndex_neg (by lia) h3]at h1
   rw[iO,<- hl];exact jv h1
  exact W.ki_setBack ho (by lia) (by rw[iO,<- hl];exact h3) (by lia) (by rw[hk];exact⟨_,I',q⟩)
theorem zdI_ (lo hi:Option Int)(n:Nat):(sliceBounds lo hi qJ n).1=((HT.sIx n 0 lo:Nat):Int)/\(sliceBounds lo hi qJ n).2.1=((HT.sIx n n hi:Nat):Int)/\(sliceBounds lo hi qJ n).2.2=1:=by
 refine⟨?_,?_,rfl⟩
 ·cases lo with
  |none=>simp[sliceBounds,HT.sIx]
  |some i=>
   simp only[sliceBounds,HT.sIx,oU,show(1:Int) > 0 by decide,if_true]
   by_cases h:i<0
   ·simp only[h,if_true]<;>lia
   ·simp only[h,if_false]<;>lia
 ·cases hi with
  |none=>simp[sliceBounds,HT.sIx]
  |some i=>
   simp only[sliceBounds,HT.sIx,oU,show(1:Int) > 0 by decide,if_true]
   by_cases h:i<0
   ·simp only[h,if_true]<;>lia
   ·simp only[h,if_false]<;>lia
theorem zcW_ (its:List fv)(lo hi:Option Int):slicePick its.toArray lo hi qJ=((its.drop (HT.sIx its.length 0 lo)).take (HT.sIx its.length its.length hi-HT.sIx its.length 0 lo)).toArray:=by
 obtain⟨h1,h2,h3⟩:=zdI_ lo hi its.toArray.size;unfold slicePick;rw[h1,h2,h3];simp only[sliceRange_one,pick_run,iO]<;>rfl
def rSlL (K:Fgg):V->Option Int->Option Int->Hp->VK->Prop:=λx lo hi H Q=>∃a xs,x=.ref a/\SqL K H a xs/\∀p,H p=qJ->Q (.ref p) (upd H p (.lst (cutV xs lo hi)))
theorem zkK_:SlR X (rSlL X.K):=by
 intro pins s σ H x v vl vu lo hi sl Q I rx hs pl pu h;obtain⟨a,xs,rfl,hx,q⟩:=h;cases rx;obtain⟨its,r,ht,hz⟩:=I.list hx;have hlen:=r.length;refine⟨"list",_,slot_list_getitem.lookup,ht.isList.typeIs,?_⟩;refine wpAny_getItem_list_slice ht.isList hs pl pu .none (by simp) ?_ (by rw[iO]<;>lia)
 rw[zcW_,<- hlen];refine⟨.ref s.heap.objs.size,_,I.laid (t':=s.toks) (o:=.lst (cutV xs lo hi)) (λb ob q=>iU _ q) (iW _) ?_,rfl,q _ (I.hok.fresh (iW _))⟩
 exact⟨kH (zcp_ xs lo hi) hz,_,0,(r.drop (HT.sIx xs.length 0 lo)).take (HT.sIx xs.length xs.length hi-HT.sIx xs.length 0 lo),jj _ rfl⟩
noncomputable def flatV:V->Bool
 |.non=>qK
 |.bl _=>qK
 |.int _=>qK
 |.str _=>qK
 |_=>qL
noncomputable def eqV:V->V->Bool
 |.non,.non=>qK
 |.bl a,.bl b=>a == b
 |.bl a,.int b=>(if a then 1 else 0) == b
 |.int a,.bl b=>a == (if b then 1 else 0)
 |.int a,.int b=>a == b
 |.str a,.str b=>a == b
 |_,_=>qL
theorem zlc_ {A:j3}{s:iM}{y x:V}{u v:fv}(ry:RelV y u)(rx:RelV x v)(fy:flatV y=qK)(fx:flatV x=qK):pq A s u v (eqV y x):=by
 cases y with
 |non=>
  cases ry;cases x with
  |non=>cases rx;exact nY _
  |bl b=>cases rx;exact SeqAt.EqAt.none_bool b
  |int b=>obtain⟨t,rfl⟩:=rx;exact SeqAt.EqAt.none_int b t
  |str b=>obtain⟨t,rfl⟩:=rx;exact SeqAt.EqAt.none_str b t
  |_=>exact absurd (show qL=qK from fx) jX
 |bl a=>
  cases ry;cases x with
  |non=>cases rx;exact SeqAt.EqAt.bool_none a
  |bl b=>cases rx;exact SeqAt.EqAt.bool_bool a b
  |int b=>obtain⟨t,rfl⟩:=rx;exact SeqAt.EqAt.bool_int a b t
  |str b=>obtain⟨t,rfl⟩:=rx;exact SeqAt.EqAt.bool_str a b t
  |_=>exact absurd (show qL=qK from fx) jX
 |int a=>
  obtain⟨t',rfl⟩:=ry;cases x with
  |non=>cases rx;exact SeqAt.EqAt.int_none a t'
  |bl b=>cases rx;exact SeqAt.EqAt.int_bool a t' b
  |int b=>obtain⟨t,rfl⟩:=rx;exact SeqAt.EqAt.int_int a t' b t
  |str b=>obtain⟨t,rfl⟩:=rx;exact oG a t' b t
  |_=>exact absurd (show qL=qK from fx) jX
 |str a=>
  obtain⟨t',rfl⟩:=ry;cases x with
  |non=>cases rx;exact SeqAt.EqAt.str_none a t'
  |bl b=>cases rx;exact SeqAt.EqAt.str_bool a t' b
  |int b=>obtain⟨t,rfl⟩:=rx;exact oH a t' b t
  |str b=>obtain⟨t,rfl⟩:=rx;exact SeqAt.EqAt.str_str a t' b t
  |_=>exact absurd (show qL=qK from fx) jX
 |_=>exact absurd (show qL=qK from fy) jX
def eqU (x:V)(u:fv):Bool:=match u with
 |.none=>eqV .non x
 |.bool b=>eqV (.bl b) x
 |.int i _=>eqV (.int i) x
 |.str z _=>eqV (.str z) x
 |_=>qL
theorem zlX_ {x y:V}{u:fv}(r:RelV y u)(f:flatV y=qK):eqU x u=eqV y x:=by
 cases y with
 |non=>cases r;rfl
 |bl b=>cases r;rfl
 |int i=>obtain⟨t,rfl⟩:=r;rfl
 |str z=>obtain⟨t,rfl⟩:=r;rfl
 |_=>exact absurd (show qL=qK from f) jX
theorem zde_ {x:V}:∀{xs:List V}{us:List fv},Vals xs us->xs.all flatV=qK->us.any (eqU x)=xs.any λy=>eqV y x
 |_,_,.nil,_=>rfl
 |y::xs,u::us,.cons r t,f=>by
  rw[jY,bR]at f;rw[ml,ml,zlX_ r f.1,zde_ t f.2]
theorem zb3_ {A:j3}{s:iM}{x:V}{v:fv}(rx:RelV x v)(fx:flatV x=qK):∀{xs:List V}{us:List fv},Vals xs us->xs.all flatV=qK->∀u∈us,pq A s u v (eqU x u)
 |_,_,.nil,_=>λu hu=>by cases hu
 |y::xs,u::us,.cons r t,f=>λu' hu=>by
  rw[jY,bR]at f;rcases ju.mp hu with rfl |hu
  ·rw[zlX_ r f.1];exact zlc_ r rx f.1 fx
  ·exact zb3_ rx fx t f.2 u' hu
def inV (x:V)(xs:List V):Bool:=xs.any λy=>eqV y x
def rIn (K:Fgg)(neg:Bool):R2:=λx y H Q=>∃p xs,y=.ref p/\(SqL K H p xs\/SqT K H p xs)/\flatV x=qK/\xs.all flatV=qK/\Q (.bl (if neg then !inV x xs else inV x xs)) H
theorem zgV_:OpR X (jG .In) (rIn X.K qL):=by
 intro pins s σ H x y v u Q I rx ry h;obtain⟨p,xs,rfl,hq,fx,fs,q⟩:=h;cases ry;rcases hq with hq |hq
 ·obtain⟨its,r,pl,hz⟩:=I.list hq
  refine SeqAt.in_listAt (eqU x) pl.isList (λw hw=>zb3_ rx fx r fs w (by simpa using hw)) ⟨.bl _,H,I,rfl,?_⟩
  rw[show its.toArray.any (eqU x)=its.any (eqU x) by simp,zde_ r fs]
  exact q
 ·obtain⟨its,r,pl,hz⟩:=I.tuple hq
  refine SeqAt.in_tupleAt (eqU x) pl (λw hw=>zb3_ rx fx r fs w (by simpa using hw)) ⟨.bl _,H,I,rfl,?_⟩
  rw[show its.toArray.any (eqU x)=its.any (eqU x) by simp,zde_ r fs]
  exact q
theorem zdJ_:OpR X (jG .NotIn) (rIn X.K qK):=by
 intro pins s σ H x y v u Q I rx ry h;obtain⟨p,xs,rfl,hq,fx,fs,q⟩:=h;cases ry;rcases hq with hq |hq
 ·obtain⟨its,r,pl,hz⟩:=I.list hq
  refine SeqAt.notIn_listAt (eqU x) pl.isList (λw hw=>zb3_ rx fx r fs w (by simpa using hw)) ⟨.bl _,H,I,rfl,?_⟩
  rw[show its.toArray.any (eqU x)=its.any (eqU x) by simp,zde_ r fs]
  exact q
 ·obtain⟨its,r,pl,hz⟩:=I.tuple hq
  refine SeqAt.notIn_tupleAt (eqU x) pl (λw hw=>zb3_ rx fx r fs w (by simpa using hw)) ⟨.bl _,H,I,rfl,?_⟩
  rw[show its.toArray.any (eqU x)=its.any (eqU x) by simp,zde_ r fs]
  exact q
theorem zdr_:CallR X (.builtin "len") (λxs H Q=>∃p ys,xs=[.ref p]/\(SqL X.K H p ys\/SqT X.K H p ys)/\Q (.int ys.length) H):=by
 intro pins s σ H xs us Q I r h;obtain⟨p,ys,rfl,hq,q⟩:=h;obtain⟨u,rfl,rx⟩:=vals1 r;cases rx;have hn:=line63;rcases hq with hq |hq
 ·obtain⟨its,r',pl,hz⟩:=I.list hq
  have hlen:=r'.length;exact Calls.call_len_list pl.isList (by simp only[iO]<;>lia) ⟨.int ys.length,H,I.tok _,⟨s.toks+1,by rw[iO,hlen]⟩,q⟩
 ·obtain⟨its,r',pl,hz⟩:=I.tuple hq
  have hlen:=r'.length;exact len_tuple pl (by simp only[iO]<;>lia) ⟨.int ys.length,H,I.tok _,⟨s.toks+1,by rw[iO,hlen]⟩,q⟩
theorem zdq_:CallR X (.builtin "len") (λxs H Q=>∃z,xs=[.str z]/\z.length<=iZ/\Q (.int z.length) H):=by
 intro pins s σ H xs us Q I r h;obtain⟨z,rfl,hz,q⟩:=h;obtain⟨u,rfl,t,rfl⟩:=vals1 r;have hn:=line63;exact len_str (by lia) ⟨.int z.length,H,I.tok _,⟨_,rfl⟩,q⟩
theorem zdQ_:CallR X (.type "list") (λxs H Q=>∃p ys,xs=[.ref p]/\(SqL X.K H p ys\/SqT X.K H p ys)/\∀l,H l=qJ->Q (.ref l) (upd H l (.lst ys))):=by
 intro pins s σ H xs us Q I r h;obtain⟨p,ys,rfl,hq,q⟩:=h;obtain⟨u,rfl,rx⟩:=vals1 r;cases rx
 have fin:∀(its:List fv),Vals ys its->ys.length<=iZ->∀(h':Heap) (c':Nat),(∀b o',s.heap.get? b=qI o'->h'.get? b=qI o') ->
   h'.get? s.heap.objs.size=qI {cls:=.type "list",dict:=qJ,data:=.seq its.toArray c',slots:=#[]}->EP X pins σ Q (.ref s.heap.objs.size) {s with heap:=h'}:=λits r' hz h' c' kp e=>
  ⟨.ref s.heap.objs.size,_,I.laid (t':=s.toks) kp (iW _) (show ObjOk X.prog X.w _ h' _ (.lst ys)from⟨hz,its,c',r',e⟩),rfl,q _ (I.hok.fresh (iW _))⟩
 rcases hq with hq |hq
 ·obtain⟨its,r',pl,hz⟩:=I.list hq
  have hlen:=r'.length;obtain⟨o,ho,hc,n,hd⟩:=pl.isList;exact call_list_seq p (.inl rfl) ho hc hd (λh' c' kp e=>fin its r' hz h' c' kp e) (by simp only[iO]<;>lia)
 ·obtain⟨its,r',pl,hz⟩:=I.tuple hq
  have hlen:=r'.length;obtain⟨o,ho,hc,n,hd⟩:=pl;exact call_list_seq p (.inr rfl) ho hc hd (λh' c' kp e=>fin its r' hz h' c' kp e) (by simp only[iO]<;>lia)
def tyV (K:Fgg)(T:String)(x:V)(H:Hp):Prop:=match x with
 |.str _=>T="str"
 |.int _=>T="int"
 | .ref p=>(T="list" /\ ∃xs,SqL K H p xs)\/(T="tuple" /\ ∃o,K.lookup p=qI o/\o.cls=.type "tuple" /\ o.dict=qJ) \/
   (T="dict" /\ ((∃kvs,H p=qI (.dK kvs))\/∃kvs,H p=qI (.dT kvs)))\/(T="set" /\ ∃S n,H p=qI (.set S n))
 |_=>False
theorem zkD_ {pins:Pnn}{σ:St}{H:Hp}{s:iM}{T:String}{x:V}{v:fv}(I:Inv X pins σ H s)(r:RelV x v)(ty:tyV X.K T x H):
  s.TypeIs v T/\∀a,v=.ref a->∃ob,s.heap.get? a=qI ob/\ob.dict=qJ:=by
 cases x with
 |str z=>
  obtain⟨t,rfl⟩:=r;cases(show T="str" from ty)
  exact⟨typeIs_str s z t,λ_ e=>nomatch e⟩
 |int i=>
  obtain⟨t,rfl⟩:=r;cases(show T="int" from ty)
  exact⟨typeIs_int s i t,λ_ e=>nomatch e⟩
 |ref p=>
  cases r;rcases ty with⟨rfl,xs,hq⟩|⟨rfl,o,hk,hc,hd⟩|⟨rfl,hk⟩|⟨rfl,S,n,hk⟩
  ·obtain⟨its,_,pl,_⟩:=I.list hq
   refine⟨pl.isList.typeIs,λa e=>?_⟩
   cases e;obtain⟨o,n,e,c,hd,_⟩:=pl;exact⟨o,e,hd⟩
  ·refine⟨⟨o,I.kIn p o hk,hc⟩,λa e=>?_⟩
   cases e;exact⟨o,I.kIn _ o hk,hd⟩
  ·have z:∃o,s.heap.get? p=qI o/\o.ExactDict:=by
    rcases hk with⟨kvs,hk⟩|⟨kvs,hk⟩
    ·obtain⟨_,_,_,_,o,_,_,e,ex,_⟩:=I.hok p _ hk
     exact⟨o,e,ex⟩
    ·obtain⟨_,_,_,_,o,_,_,e,ex,_⟩:=I.hok p _ hk
     exact⟨o,e,ex⟩
   obtain⟨o,e,ex⟩:=z;refine⟨⟨o,e,ex.1⟩,λa e2=>?_⟩
   cases e2;exact⟨o,e,ex.2.1⟩
  ·obtain⟨o,_,_,_,e,ex,_⟩:=I.hok p _ hk
   refine⟨⟨o,e,ex.1⟩,λa e2=>?_⟩
   cases e2;exact⟨o,e,ex.2.1⟩
 |_=>exact jL ty
def tBM0 (K:Fgg)(T:String)(r:V->List V->Hp->VK->Prop)(to:TE):TE:=λσ H Q=>to σ H λx H1=>tyV K T x H1/\r x [] H1 Q
def tBM (K:Fgg)(T:String)(r:V->List V->Hp->VK->Prop)(to:TE)(t:TA):TE:=λσ H Q=>to σ H λx H1=>tyV K T x H1/\t σ H1 λxs H2=>r x xs H2 Q
variable {o e:i4}{es:List i4}{to:TE}{t:TA}{name:Str}{apos af:Pos}{T id:String}{r:V->List V->Hp->VK->Prop}
theorem zfk_ (pa:PlainAttrs T)(slot:Slot T name id)(cV:typeOf (.builtin id)=pure (.type "method_descriptor"))(hm:MtR X id r)(ho:PE X o to)
  (bq:attributeBase o name X.env (eval o X.env)=eval o X.env:=by rfl) (bh:(apos.endLine == af.line)=qK:=by rfl):PE X (.Call (.Attribute o name apos) [] [] af) (tBM0 X.K T r to):=by
 intro pins s σ H Q I h;refine wpAny_Call_method0_late bq bh (thn (ho pins s σ H _ I h) λv s1 ae=>?_)
 obtain⟨x,H1,I1,r1,ty,q1⟩:=ae;obtain⟨h1,h2⟩:=zkD_ I1 r1 ty;exact⟨T,id,pa,slot,cV,h1,h2,Calls.callWith_builtin rfl (oy (hm pins s1 σ H1 x [] v [] Q I1 r1 .nil q1))⟩
theorem zjW_ (pa:PlainAttrs T)(slot:Slot T name id)(cV:typeOf (.builtin id)=pure (.type "method_descriptor"))(hm:MtR X id r)(ho:PE X o to)(ha:PA X (e::es) t)
  (bq:attributeBase o name X.env (eval o X.env)=eval o X.env:=by rfl)
  (e9:((kz af (jo (e::es) X.env)).all (λx=>!x.1) && (mi af (lj [] X.env)).all (λx=>x.1.isSome)
   && decide ((e::es).length+([]:List Keyword).length+(if([]:List Keyword).isEmpty then 0 else 1)<30))=qK:=by rfl)
  (bh:(apos.endLine == af.line)=qK:=by rfl) (hs:jo (e::es) X.env=(qL,eval e X.env)::jo es X.env:=by rfl) (bV:(kz af (jo es X.env)).any (·.1)=qL:=by rfl):
  PE X (.Call (.Attribute o name apos) (e::es) [] af) (tBM X.K T r to t):=by
 intro pins s σ H Q I h;refine wpAny_Call_method_late bq e9 bh rfl (thn (ho pins s σ H _ I h) λv s1 ae=>?_)
 obtain⟨x,H1,I1,r1,ty,q1⟩:=ae;obtain⟨h1,h2⟩:=zkD_ I1 r1 ty;refine⟨T,id,pa,slot,cV,h1,h2,?_⟩;have hA:=ha af pins s1 σ H1 _ I1 q1;rw[hs]at hA ⊢;refine Calls.callWith_builtin (by show(qL ||(kz af (jo es X.env)).any (·.1))=qL;rw[bV]<;>rfl) (Calls.evalArgs_plain ?_)
 exact thn hA λus s2 ⟨vs,H2,I2,r2,q2⟩=>hm pins s2 σ H2 x vs v us Q I2 r1 r2 q2
end
def MtM (X:Cx)(id:String)(r:V->List V->Hp->VK->Prop):Prop:=
 ∀(pins:Pnn) (s:iM) (σ:St) (H:Hp) (x:V) (xs:List V) (v:fv) (us:List fv) (Q:VK),Inv X pins σ H s->RelV x v->Vals xs us->r x xs H Q ->
  jq (model X.prog X.w) X.A (call (.builtin id) (v::us)) (EP X pins σ Q) X.xe s
theorem Vals.one:∀{x:V}{us:List fv},Vals [x] us->∃u,us=[u]/\RelV x u
 |_,_,.cons r .nil=>⟨_,rfl,r⟩
theorem Vals.zero:∀{us:List fv},Vals [] us->us=[]
 |_,.nil=>rfl
theorem Vals.dropLast {xs:List V}{us:List fv}(h:Vals xs us):Vals xs.dropLast us.dropLast:=by
 induction h with
 |nil=>exact .nil
 |cons r t ih=>
  cases t with
  |nil=>exact .nil
  |cons q t'=>exact .cons r ih
theorem Vals.eraseIdx:∀{xs:List V}{us:List fv}(i:Nat),Vals xs us->Vals (xs.eraseIdx i) (us.eraseIdx i)
 |_,_,_,.nil=>.nil
 |_,_,0,.cons _ t=>t
 |_,_,i+1,.cons r t=>.cons r (Vals.eraseIdx i t)
theorem Vals.rep {xs:List V}{us:List fv}(h:Vals xs us):∀k:Nat,Vals (iT k xs).flatten (iT k us).flatten
 |0=>.nil
 |k+1=>by
  rw[jJ,jJ,kR,kR];exact Vals.append h (Vals.rep h k)
theorem zkG_ {α:Type}(l:List α):l.eraseIdx (l.length-1)=l.dropLast:=by
 induction l with
 |nil=>rfl
 |cons a r ih=>
  cases r with
  |nil=>rfl
  |cons b r=>
   have e:(a::b::r).length-1=((b::r).length-1)+1:=by
    have h1:(a::b::r).length=r.length+2:=rfl;have h2:(b::r).length=r.length+1:=rfl;lia
   rw[e,mz,ih]
   all_goals rfl
theorem zec_ {α:Type}:∀(l:List α) (i:Nat),(l.eraseIdx i).length<=l.length
 |[],_=>iW _
 |_::_,0=>mM _
 |_::r,i+1=>Nat.succ_le_succ (zec_ r i)
theorem zel_ (its:List fv):∀(k:Nat) (acc:List fv),
  mZ (λx1 x2=>x1++x2) acc.toArray (iT k its.toArray)=(acc++(iT k its).flatten).toArray
 |0,acc=>by simp
 |k+1,acc=>by
  have e:acc.toArray++its.toArray=(acc++its).toArray:=by simp
  have e2:(acc++its)++(iT k its).flatten=acc++(iT (k+1) its).flatten:=by
   rw[jJ,kR,lL]
  rw[<- e2,<- zel_ its k (acc++its),<- e,jJ,l0]
section
variable {X:Cx}{pins:Pnn}{σ:St}{H:Hp}{s:iM}{l:iQ}{xs ys:List V}
theorem Inv.lset {its its':List fv}{n:Nat}{f:Array fv->Array fv}{t':Nat}(I:Inv X pins σ H s)(hH:H l=qI (.lst xs))
  (e:s.heap.get? l=qI {cls:=.type "list",data:=.seq its.toArray n}) (hf:f its.toArray=its'.toArray) (hv:Vals ys its') (hz:ys.length<=iZ):
  Inv X pins σ (upd H l (.lst ys)) {s with heap:=s.heap.update l (nO f),toks:=t'}:=by
 have q:=PySem.IsL.update e f;rw[hf]at q;refine I.write (x:=l) (e:=l) (by rw[hH];exact trivial) (.inl rfl) (λb' u hb hu=>(nQ s.heap (nO f) (m7 hb)).trans hu) ⟨_,q⟩ ?_
 exact⟨hz,its',_,hv,q⟩
theorem Inv.lnew {its:List fv}{t':Nat}(I:Inv X pins σ H s)(hv:Vals ys its)(hz:ys.length<=iZ):
  Inv X pins σ (upd H s.heap.objs.size (.lst ys)) {s with heap:=s.heap.push {cls:=.type "list",data:=.seq its.toArray},toks:=t'}:=
 I.laid (λ_ _ q=>iU _ q) (iW _) ⟨hz,its,0,hv,jj _ rfl⟩
theorem Inv.fresh (I:Inv X pins σ H s):H s.heap.objs.size=qJ:=I.hok.fresh (iW _)
theorem Inv.lstM (I:Inv X pins σ H s)(hH:H l=qI (.lst xs)):xs.length<=iZ/\∃(its:List fv) (n:Nat),Vals xs its/\xs.length=its.length/\s.heap.get? l=qI {cls:=.type "list",data:=.seq its.toArray n}:=by
 obtain⟨z,its,n,r,e⟩:=I.hok l _ hH;exact⟨z,its,n,r,r.length,e⟩
theorem notLongL {n:Nat}(h:n<=iZ):lQ n=qL:=by
 unfold lQ;exact decide_eq_false (by lia)
end
section
variable {X:Cx}
def rAppend:V->List V->Hp->VK->Prop:=λx vs H Q=>∃l xs y,x=.ref l/\vs=[y]/\H l=qI (.lst xs)/\xs.length<iZ/\Q .non (upd H l (.lst (xs++[y])))
theorem zcB_:MtM X "list.append" rAppend:=by
 intro pins s σ H x vs v us Q I rx rv h;obtain⟨l,xs,y,rfl,rfl,hH,hz,q⟩:=h;cases rx;obtain⟨u,rfl,ru⟩:=rv.one;obtain⟨z,its,n,r,hl,e⟩:=I.lstM hH;refine call_meets F.slot_list_append ⟨_,e,rfl⟩ F.entry_list_append (F.args_list_append_2 _ _) (PySem.list_append l its.toArray n u (by rw[iO];lia)) ⟨e,?_⟩
 refine⟨.non,_,I.lset (its':=its++[u]) hH e (by simp) (r.append (.cons ru .nil)) ?_,rfl,q⟩
 rw[iP,lC];lia
def rExtend:V->List V->Hp->VK->Prop:=λx vs H Q=>∃l b xs zs,x=.ref l/\vs=[.ref b]/\H l=qI (.lst xs)/\H b=qI (.lst zs)/\xs.length+zs.length<=iZ/\Q .non (upd H l (.lst (xs++zs)))
theorem zem_:MtM X "list.extend" rExtend:=by
 intro pins s σ H x vs v us Q I rx rv h;obtain⟨l,b,xs,zs,rfl,rfl,hH,hB,hz,q⟩:=h;cases rx;obtain⟨u,rfl,ru⟩:=rv.one;cases ru;obtain⟨z,its,n,r,hl,e⟩:=I.lstM hH;obtain⟨z2,ai,n2,r2,bY,e2⟩:=I.lstM hB;have hsz:its.toArray.size+ai.toArray.size<=iZ:=by rw[iO,iO];lia
 have bc:¬(!its.toArray.isEmpty && lQ (its.toArray.size+ai.toArray.size))=qK:=by
  rw[notLongL hsz,Bool.and_false];exact jX
 refine call_meets F.slot_list_extend ⟨_,e,rfl⟩ F.entry_list_extend (F.args_list_extend_2 _ _)
  (AutoSeq1.list_extend_list_list_0 l its.toArray n b ai.toArray n2 bc (by rw[iO];lia) (by lia)) ⟨e,e2,?_⟩
 refine⟨.non,_,I.lset (its':=its++ai) hH e (by simp) (r.append r2) ?_,rfl,q⟩
 rw[iP];lia
def rPopAt:V->List V->Hp->VK->Prop:=λx vs H Q=>∃l xs i k y,x=.ref l/\vs=[.int i]/\H l=qI (.lst xs) /\ -(2 ^ 63)<=i/\i<2 ^ 63/\seqIndex? i xs.length=qI k/\xs[k]?=qI y/\Q y (upd H l (.lst (xs.eraseIdx k)))
theorem zeW_:MtM X "list.pop" rPopAt:=by
 intro pins s σ H x vs v us Q I rx rv h;obtain⟨l,xs,i,k,y,rfl,rfl,hH,h1,h2,hk,hy,q⟩:=h;cases rx;obtain⟨u,rfl,ru⟩:=rv.one;obtain⟨t,rfl⟩:=ru;obtain⟨z,its,n,r,hl,e⟩:=I.lstM hH;obtain⟨w,hw,aY⟩:=r.get hy
 refine call_meets F.slot_list_pop ⟨_,e,rfl⟩ F.entry_list_pop (F.args_list_pop_2 _ _)
  (MeetsSeq.list_pop_at l its.toArray n i t k w (fitsIndex_both h1 h2) (by rw[iO,<- hl];exact hk) (by rw[<- mE];exact hw) (by rw[iO];lia)) ⟨e,?_⟩
 refine⟨y,_,I.lset (its':=its.eraseIdx k) hH e ?_ (r.eraseIdx k) ?_,aY,q⟩
 ·show its.toArray.eraseIdxIfInBounds k=(its.eraseIdx k).toArray
  rw[List.eraseIdxIfInBounds_toArray]
 ·have:=zec_ xs k
  lia
def rClear:V->List V->Hp->VK->Prop:=λx vs H Q=>∃l xs,x=.ref l/\vs=[]/\H l=qI (.lst xs)/\Q .non (upd H l (.lst []))
theorem ze5_:MtM X "list.clear" rClear:=by
 intro pins s σ H x vs v us Q I rx rv h;obtain⟨l,xs,rfl,rfl,hH,q⟩:=h;cases rx;have gB:=rv.zero;subst gB;obtain⟨z,its,n,r,hl,e⟩:=I.lstM hH;refine call_meets F.slot_list_clear ⟨_,e,rfl⟩ F.entry_list_clear (F.args_list_clear_1 _) (AutoSeq1.list_clear_list_0 l its.toArray n (by rw[iO];lia)) ⟨e,?_⟩
 exact⟨.non,_,I.lset (its':=[]) (ys:=[]) hH e rfl .nil (kJ _),rfl,q⟩
def rCat:R2:=λx y H Q=>∃l b xs zs,x=.ref l/\y=.ref b/\H l=qI (.lst xs)/\H b=qI (.lst zs)/\xs.length+zs.length<=iZ/\∀p,H p=qJ->Q (.ref p) (upd H p (.lst (xs++zs)))
theorem znM_:OpR X (k7 .Add) rCat:=by
 intro pins s σ H x y v u Q I rx ry h;obtain⟨l,b,xs,zs,rfl,rfl,hH,hB,hz,q⟩:=h;cases rx;cases ry;obtain⟨z,its,n,r,hl,e⟩:=I.lstM hH;obtain⟨z2,ai,n2,r2,bY,e2⟩:=I.lstM hB;refine PySem.P.add_list e e2 ?_ (by rw[iO,iO];lia)
 have ea:its.toArray++ai.toArray=(its++ai).toArray:=by simp
 rw[ea];exact⟨.ref _,_,I.lnew (t':=s.toks) (r.append r2) (by rw[iP];lia),rfl,q _ I.fresh⟩
def rRep:R2:=λx y H Q=>∃l k xs,x=.ref l/\y=.int k/\H l=qI (.lst xs) /\ -(2 ^ 63)<=k/\k<2 ^ 63/\xs.length*k.toNat<=iZ /\
 ∀p,H p=qJ->Q (.ref p) (upd H p (.lst (iT k.toNat xs).flatten))
theorem zhI_ {α:Type}(xs:List α)(k:Nat):(iT k xs).flatten.length=k*xs.length:=by
 induction k with
 |zero=>simp
 |succ k ih=>rw[jJ,kR,iP,ih,Nat.succ_mul,Nat.add_comm]
theorem zo9_:OpR X (k7 .Mult) rRep:=by
 intro pins s σ H x y v u Q I rx ry h;obtain⟨l,k,xs,rfl,rfl,hH,h1,h2,hz,q⟩:=h;cases rx;obtain⟨t,rfl⟩:=ry;obtain⟨z,its,n,r,hl,e⟩:=I.lstM hH;have hlen:its.toArray.size*k.toNat<=iZ:=by rw[iO,<- hl];exact hz
 have fc:¬its.toArray.size*k.toNat > (2 ^ 63-1) / 8:=by
  have:(iZ:Nat)<=(2 ^ 63-1) / 8:=by decide
  lia
 have e8:¬(!Builtin.List.listFitsIndex k)=qK:=by
  rw[fitsIndex_both h1 h2];exact jX
 have bc:¬lQ (its.toArray.size*k.toNat)=qK:=by
  rw[notLongL hlen];exact jX
 have eS:mZ (λx1 x2=>x1++x2) #[] (iT (if its.toArray.isEmpty=qK then 0 else k.toNat) its.toArray)=(iT k.toNat its).flatten.toArray:=by
  have f0:∀m:Nat,mZ (λx1 x2=>x1++x2) #[] (iT m its.toArray)=(iT m its).flatten.toArray:=λm=>by
   have:=zel_ its m [];rw[j7]at this;exact this
  rw[f0];cases its with
  |nil=>simp
  |cons a r'=>rw[if_neg (by simp)]
 refine wpAny_binaryOp_repeat_ref (T:="list") (U:="int") (by decide) ⟨_,e,rfl⟩ (λs'=>typeIs_int s' k t) noFill_list_mul F.fills_int_mul o8 repeat_list F.slot_int_index.lookup
  (call_meets o8 (typeIs_int s k t) F.entry_int_rmul (F.args_int_rmul_2 _ _) (int___rmul___int_list k t l its.toArray n)
   ⟨e,rfl,⟨_,e,rfl⟩,call_meets F.slot_list_mul ⟨_,e,rfl⟩ F.entry_list_mul (F.args_list_mul_2 _ _) (AutoListH.list___mul___list_int_3 l its.toArray n k t e8 fc bc) ⟨e,?_⟩⟩)
 rw[eS];exact⟨.ref _,_,I.lnew (t':=s.toks) (r.rep k.toNat) (by rw[zhI_,pS];exact hz),rfl,q _ I.fresh⟩
end
end L2
namespace Att
open PySem PySem.W PySem.Calls PyProof.Rows
theorem zcm_ {P:Params}{h:Heap}:∀(ns:List Int) (vs:List fv),WellAll P h vs (ns.map WData.int)->IntsAre vs ns:=by
 intro ns;induction ns with
 |nil=>
  intro vs w;rw[jM]at w;cases w;exact .nil
 |cons n ns ih=>
  intro vs w;rw[iN]at w;cases w with
  |cons a b=>
   cases a;exact .cons _ _ (ih _ b)
theorem zgx_ {l:OpenLaw}{n:Nat}(hn:l.most=qI n){P:Params}{h:Heap}{args:List WData}{vals:List fv}
  (bI:l.row.toRowW.claim.pre args=qK) (eL:WellAll P h vals args):
  ∃a vs ns,vals=[jK a]/\args=[WData.list (ns.map WData.int)]/\h.get? a=qI {cls:=.type "list",data:=.seq vs.toArray}/\IntsAre vs ns/\ns.length<=n:=by
 have gI:WShape.hasAll [] args [.list .int]=qK:=(pre_splitW bI).1;have hc:l.pre.holds [] {args:=args}=qK:=(pre_splitW bI).2;obtain⟨d,r,rfl,h1,h2⟩:=hasAllW_cons gI;obtain rfl:=hasAllW_nil h2;obtain⟨xs,rfl,h3⟩:=hasW_list h1;obtain⟨ns,rfl⟩:=items_int h3;have hlen:ns.length<=n:=by
  unfold OpenLaw.pre at hc;have h4:(WTm.not (.lt (.lit (.int (n:Int))) (.len (.arg 0)))).holds [] {args:=[.list (ns.map .int)]}=qK:=by
   have h4:=(holds_andW hc).1;rw[hn]at h4;exact h4
  have h5:=condW_of h4 (w_not (w_lt w_lit (w_len_list (w_arg rfl))));rw[gf]at h5;refine oV λq=>?_
  have q':(n:Int)<((ns.length:Nat):Int):=by lia
  first
   |(rw[decide_eq_true q']at h5;exact absurd h5 (by decide))
   |(simp at h5;lia)
 cases eL with
 |cons w1 w2=>
  cases w2;cases w1 with
  |list ho b7=>exact⟨_,_,ns,rfl,rfl,ho,zcm_ ns _ b7,hlen⟩
theorem zgd_ (l:OpenLaw)(args:List WData):l.row.toRowW.claim.post args (.bool qK) args=qK:=
 postW_of (r:=l.row.toRowW) (X:=(qK == qK))
  (show WShape.has [] (.bool qK) .bool=qK by first |rfl |decide |simp[WShape.has,WShape.arms,WShape.armsAll])
  (show(WTm.eq .res (.lit (.bool qK))).value [] {args:=args,res:=qI (.bool qK),after:=args}=qI (.bool (qK == qK))from w_eq_bool (w_res rfl) w_lit) rfl
section
end
end Att
namespace L2
open PySem PySem.Spec PyProof.Rows
theorem zef_:∀{vs:List fv}{ns:List Int},IntsAre vs ns->Vals (ns.map V.int) vs
 |_,_,.nil=>.nil
 |_,_,.cons n t h=>.cons ⟨t,rfl⟩ (zef_ h)
def Only (H:Hp):Prop:=∀b,H b=qJ\/(∃o xs,H b=qI (.frz o (.lst xs)))\/∃p q,H b=qI (.tbl p q)
theorem zjz_ {P:jr}{w:jH}{K:Fgg}{mg mb:Str->Option fv}{CX:CXT}{k:Nat}{fa a:iQ}{fd:kf}{x:Str}{sp:Sp}{aa:iM}{vs:List fv}{ns:List Int}
  (KX:K.In aa.heap) (eR:aa.heap.Ns jf mg) (hb:aa.heap.Ns builtinsNs mb) (gZ:∀x:Str,x ≠ "__name__" -> mb x=k9 x) (eW:aa.heap.NoLimit) (gY:∃bm ob,mg "__builtins__"=qI (.ref bm)/\bm≠builtinsNs/\aa.heap.get? bm=qI ob/\ob.cls=.type "module" /\ ob.dict=qI builtinsNs/\ob.data=.plain) (hg:aa.gens=#[])
  (ha:aa.heap.get? a=qI {cls:=.type "list",data:=.seq vs.toArray}) (hi:IntsAre vs ns) (hl:ns.length<=iZ) (hr:Room k callerA)
  (F:∀base:Heap,K.In base->base.Ns jf mg->FnOk P w K mg base CX k fa fd [x] sp) (dC:∀(s:iM) (u:fv),BindsTo s fd ⟨[u],[]⟩ [(x,u)])
  (cz:∀H:Hp,Only H->SqL K H a (ns.map V.int)->sp [.ref a] H (λv _=>v=.bl qK) λ_ _ _=>False)
  (fh:∀H e s',CX [] H aa (λ_ _ _=>False) e s'->False)
  (hT:∀Pt pos q,lamK K=qI (Pt,pos,q)->K.lookup Pt=qJ/\isCodeTable aa.heap Pt/\aa.heap.get? Pt=qI {cls:=.none,data:=.fields #[]}):
  codeAny (model P w) callerA (.call (.ref fa) ⟨[.ref a],[]⟩) (λr s'=>r=.ok (.ret (.bool qK))/\OldK aa.heap s'.heap/\s'.os=aa.os/\AllBare s'.gens) aa:=by
 have rv:=zef_ hi;have eD:=hi.length
 have core:∀H:Hp,Only H->SqL K H a (ns.map V.int)->HOk P w H aa.heap->Tb K H->(∀b,H b≠qJ->b=a\/∃p q,lamK K=qI (b,p,q))->(H a≠qJ->K.lookup a=qJ) ->
   codeAny (model P w) callerA (.call (.ref fa) ⟨[.ref a],[]⟩) (λr s'=>r=.ok (.ret (.bool qK))/\OldK aa.heap s'.heap/\s'.os=aa.os/\AllBare s'.gens) aa:=by
  intro H hO hS hok hV hA hK;have aG:∀{b:iQ}{o:oN},aa.heap.get? b=qI o->H b=qJ->(hidT aa.heap H).get? b=qI o:=λe n=>zjl_ e n
  have cI:∀{b:iQ}{o:oN}{es:Array DictEntry}{ep:Nat},aa.heap.get? b=qI o->o.data=.dict es ep->H b=qJ:=λ{b o es ep} e d=>by
   cases q:H b with
   |none=>rfl
   |some u=>
    rcases hA b (by rw[q];simp)with e' |⟨p',q',e'⟩
    ·subst e'
     rw[ha]at e;cases e;have d':Data.seq vs.toArray _=Data.dict es ep:=d;cases d'
    ·have z:=(hT _ _ _ e').2.2
     rw[z]at e;cases e;cases d
  have dP:∀{b:iQ}{m:Str->Option fv},aa.heap.Ns b m->(hidT aa.heap H).Ns b m:=λ{b m} ⟨o,es,ep,e,d,r⟩=>⟨o,es,ep,aG e (cI e d),d,r⟩
  have fV:K.In (hidT aa.heap H):=λb o e=>aG (KX b o e) (by
   cases q:H b with
   |none=>rfl
   |some u=>
    rcases hA b (by rw[q];simp)with e' |⟨p',q',e'⟩
    ·subst e'
     rw[hK (by rw[q];simp)]at e;cases e
    ·rw[(hT _ _ _ e').1]at e;cases e)
  have hM:Mod K mg (hidT aa.heap H):=⟨fV,dP eR,⟨mb,dP hb,gZ⟩,let⟨mc,h1,h2⟩:=eW;⟨mc,dP h1,h2⟩,by
   obtain⟨bm,ob,b1,b2,b3,b4,b5,b6⟩:=gY;refine⟨bm,ob,b1,b2,aG b3 ?_,b4,b5,b6⟩;cases q:H bm with
   |none=>rfl
   |some u=>
    rcases hA bm (by rw[q];simp)with e' |⟨p',q',e'⟩
    ·subst e'
     rw[ha]at b3;cases b3;have z:l6 "list"=l6 "module":=b4;injection z with z;exact absurd z (by decide)
    ·have z:=(hT _ _ _ e').2.2
     rw[z]at b3;cases b3;cases b4⟩
  have e0:Env0 P w K mg (hidT aa.heap H) callerA [] aa H:=⟨rfl,hM,λb o e=>zmP_ e,mS (zgv_ _ _),trivial,λb hb=>absurd (show b∈([]:List iQ)from hb) (by simp),hok,.of_eq hg,hV⟩
  refine codeAny_mono ((F _ fV (dP eR)).run callerA [] aa H ⟨[.ref a],[]⟩ [.ref a] [.ref a] _ _ hr e0 (dC aa (.ref a)) (.cons rfl .nil) (cz H hO hS)) λr s' h=>?_
  cases r with
  |error e=>exact(fh H e s' h).elim
  |ok fl=>
   cases fl with
   |next=>exact jL h
   |brk=>exact jL h
   |cont=>exact jL h
   |ret u=>
    obtain⟨v,H',os,bare,un,hok',r',q⟩:=h;have q':v=.bl qK:=q;subst q';obtain rfl:u=oJ qK:=r';have both:∀b o,aa.heap.get? b=qI o->asItWas aa.heap s'.heap b o/\∃o',s'.heap.get? b=qI o':=λb o e=>by
     cases q:H b with
     |none=>
      have z:=un.keep b o e q (by intro z;exact absurd (show b∈([]:List iQ)from z) (by simp)) (by simp)
      exact⟨.inl z,_,z⟩
     |some u=>
      rcases hO b with z |⟨ob,xs,z⟩|⟨p',q',z⟩
      ·rw[q]at z;cases z
      ·have z2:=un.frzs b ob _ z
       obtain⟨e1,_⟩:=hok b _ z;obtain⟨e2,_⟩:=hok' b _ z2;rw[e]at e1;cases e1;exact⟨.inl e2,_,e2⟩
      ·obtain⟨ps,e2,_⟩:=hok' b _ (un.tbls b p' q' z)
       rcases hA b (by rw[q];simp)with e' |⟨p1,q1,e'⟩
       ·subst e'
        obtain⟨iB,e3,_⟩:=hok b _ z;rw[ha]at e3;cases e3
       ·obtain⟨_,ht,e3⟩:=hT _ _ _ e'
        rw[e]at e3;cases e3;exact⟨.inr (.inl ⟨ht,rfl,#[],ps,rfl,by rw[Array.empty_append];exact e2⟩),_,e2⟩
    exact⟨rfl,⟨λb o e=>(both b o e).1,λb o e=>(both b o e).2⟩,os,bare⟩
 obtain⟨T,t1,t2,t3⟩:∃T:Hp,Tb K T/\(∀b u,T b=qI u->∃p q,lamK K=qI (b,p,q)/\u=.tbl p q)/\T a=qJ:=by
  cases hq:lamK K with
  |none=>exact⟨λ_=>qJ,λ_ _ _ e=>(by rw[hq]at e;cases e),λ_ _ e=>(by cases e),rfl⟩
  |some z=>
   obtain⟨Pt,pos,q⟩:=z;have na:a≠Pt:=λz=>by
    have e:=(hT _ _ _ hq).2.2;rw[<- z,ha]at e;cases e
   refine⟨λb=>if b=Pt then qI (.tbl pos q)else qJ,λ_ _ _ e=>(by rw[hq]at e;cases e;exact if_pos rfl),λb u e=>?_,if_neg na⟩
   by_cases hb:b=Pt
   ·have e':=(if_pos hb).symm.trans e
    cases e';exact⟨pos,q,by rw[hb],rfl⟩
   ·have e':=(if_neg hb).symm.trans e
    cases e'
 have c6:∀(H:Hp) b p q,lamK K=qI (b,p,q)->ObjOk P w H aa.heap b (.tbl p q):=λH b p q e=>
  ⟨#[],(hT _ _ _ e).2.2,ke,λcv z=>by cases z⟩
 cases hk:K.lookup a with
 |some o=>
  have e:=KX a o hk;rw[ha]at e;cases e;refine core T (λb=>?_) (.inr ⟨_,vs.toArray,_,hk,rfl,rfl,rfl,by rw[iO,eD];exact hl,by simpa using rv⟩) (λb u z=>?_) t1 (λb z=>?_) λz=>absurd t3 z
  ·cases q:T b with
   |none=>exact .inl rfl
   |some u=>obtain⟨p',q',_,rfl⟩:=t2 b u q;exact .inr (.inr ⟨p',q',rfl⟩)
  ·obtain⟨p',q',e1,rfl⟩:=t2 b u z;exact c6 _ _ _ _ e1
  ·cases q:T b with
   |none=>exact absurd q z
   |some u=>obtain⟨p',q',e1,rfl⟩:=t2 b u q;exact .inr ⟨p',q',e1⟩
 |none=>
  refine core (upd T a (.frz {cls:=.type "list",data:=.seq vs.toArray} (.lst (ns.map V.int)))) (λb=>?_) (.inl (.inr ⟨{cls:=.type "list",data:=.seq vs.toArray},zm_⟩)) (λb u z=>?_) (λp' pos q e=>?_) (λb z=>?_) λ_=>hk
  ·by_cases hb:b=a
   ·rw[hb];exact .inr (.inl ⟨_,_,zm_⟩)
   ·rw[zl_ hb]
    cases q:T b with
    |none=>exact .inl rfl
    |some u=>obtain⟨p',q',_,rfl⟩:=t2 b u q;exact .inr (.inr ⟨p',q',rfl⟩)
  ·by_cases hb:b=a
   ·subst hb
    rw[zm_]at z;cases z;exact⟨ha,by rw[gf];exact hl,vs,_,rv,ha⟩
   ·rw[zl_ hb]at z
    obtain⟨p',q',e1,rfl⟩:=t2 b u z;exact c6 _ _ _ _ e1
  ·have z:=t1 p' pos q e
   rw[zl_ (λw=>by rw[w,t3]at z;cases z)];exact z
  ·by_cases hb:b=a
   ·exact .inl hb
   ·rw[zl_ hb]at z
    cases q:T b with
    |none=>exact absurd q z
    |some u=>obtain⟨p',q',e1,rfl⟩:=t2 b u q;exact .inr ⟨p',q',e1⟩
def lamOk (q:jr)(K:Fgg):Bool:=match lamK K with
 |none=>qK
 |some (P,_,_)=>(K.lookup P).isNone && ((recsOf q).find? λe=>e.name==(mU "put_in_order")).isSome
theorem zl5_ {p:jr}{K:Fgg}{h:Heap}{loose:List Str}{eC:ExcName->Option fv}{mg mb:Str->Option fv}(T:Top p loose eC mg mb h)(X:K.In h)(hq:lamOk p K=qK):
  ∀Pt pos q,lamK K=qI (Pt,pos,q)->K.lookup Pt=qJ/\isCodeTable h Pt/\h.get? Pt=qI {cls:=.none,data:=.fields #[]}:=λPt pos q e=>by
 unfold lamOk at hq;rw[e]at hq;obtain⟨h1,h2⟩:=jE.mp hq;obtain⟨d,hd⟩:=mj.mp h2;obtain⟨c,ht⟩:∃c,W.tabIn K "put_in_order"=qI (c,Pt):=by
  obtain⟨q',h3,e⟩:=iY.mp e;obtain⟨fd,_,e⟩:=iY.mp e;obtain⟨p',_,e⟩:=iV.mp e;cases e;exact⟨_,h3⟩
 obtain⟨a,b⟩:=W.tab_of T X hd ht;exact⟨ky.mp h1,(a.tab b).isCodeTable,b⟩
noncomputable def inClass (s:jI)(j:Nat):jI:=match s with
 |.ClassDef _ _ _ body _ _ _ _ _ _ _=>body.getD j (.Pass ⟨0,0,0,0⟩)
 |_=>.Pass ⟨0,0,0,0⟩
noncomputable def defArgs (s:jI):Arguments:=match s with
 |.FunctionDef _ a _ _ _ _ _ _ _ _=>a
 |_=>{posonlyargs:=[],args:=[],vararg:=qJ,kwonlyargs:=[],kw_defaults:=[],kwarg:=qJ,defaults:=[]}
noncomputable def defBody (s:jI):List jI:=match s with
 |.FunctionDef _ _ b _ _ _ _ _ _ _=>b
 |_=>[]
noncomputable def defScope (s:jI):Scope:=match s with
 |.FunctionDef _ _ _ _ _ _ sc _ _ _=>sc
 |_=>{kind:=.function,names:=[],isGenerator:=qL,isCoroutine:=qL}
abbrev CX0:CXT:=λ_ _ _ _ _ _=>False
abbrev E0:XK:=λ_ _ _=>False
structure Fun (K:Fgg)(x qual:Str)(st:jI)(f:iQ)(fd:kf):Prop where
 ex:∃(oc:fv) (od:Option iQ) (kV doc pm:fv) (an:Option iQ) (ah ct:fv) (az:Array (Option fv)),
  fd=W.fnOf x qual (defArgs st) (defBody st) (defScope st) .none kV doc pm an ah ct/\K.lookup f=qI ⟨oc,od,.func fd,az⟩/\nz K ah qual=qK
 kp:lT K (.ref f)=qK
section
variable {K:Fgg}
theorem Fun.binds {x qual:Str}{st:jI}{f:iQ}{fd:kf}{ps:List Str}(F:Fun K x qual st f fd)
  (h:∀(kV doc pm:fv) (an:Option iQ) (ah ct:fv) (us:List fv),us.length=ps.length->bindArgs (W.fnOf x qual (defArgs st) (defBody st) (defScope st) .none kV doc pm an ah ct) ⟨us,[]⟩=pure (ps.zip us)):Binds K fd ps []:=by
 obtain⟨oc,od,kV,doc,pm,an,ah,ct,az,rfl,lk,au⟩:=F.ex;exact .all (h kV doc pm an ah ct)
theorem zlR_ {x qual:Str}{st:jI}{f:iQ}{oc:fv}{od an:Option iQ}{az:Array (Option fv)}{kV doc pm ah ct:fv}(l:K.lookup f=qI ⟨oc,od,.func (W.fnOf x qual (defArgs st) (defBody st) (defScope st) .none kV doc pm an ah ct),az⟩)
  (c:nz K ah qual=qK) (k:lT K (.ref f)=qK):Fun K x qual st f (W.fnOf x qual (defArgs st) (defBody st) (defScope st) .none kV doc pm an ah ct):=⟨⟨oc,od,kV,doc,pm,an,ah,ct,az,rfl,l,c⟩,k⟩
end
def Same (H H':Hp):Prop:=∀b o,H b=qI o->H' b=qI o
theorem Same.refl (H:Hp):Same H H:=λ_ _ h=>h
theorem Same.trans {H H1 H2:Hp}(a:Same H H1)(b:Same H1 H2):Same H H2:=λc o h=>b c o (a c o h)
theorem Same.free {H H':Hp}(e:Same H H'){l:iQ}(h:H' l=qt):H l=qt:=by
 cases q:H l with
 |none=>rfl
 |some o=>
  rw[e l o q]at h;cases h
theorem Same.seq {K:Fgg}{H H':Hp}{a:iQ}{xs:List V}(e:Same H H')(h:SqL K H a xs):SqL K H' a xs:=by
 rcases h with(h |⟨o,h⟩)|h
 ·exact .inl (.inl (e _ _ h))
 ·exact .inl (.inr ⟨o,e _ _ h⟩)
 ·exact .inr h
noncomputable def Itp (n:Nat)(f:Nat->V):It:=⟨λi _=>i<n,λi H x H'=>H'=H/\x=f i,λi _=>n<=i⟩
noncomputable def ownTups:List String:=["enumerate", "zip", "dict_itemiterator", "dict_reverseitemiterator", "odict_iterator", "itertools.zip_longest", "itertools.pairwise"]
theorem zhc_ {P:jr}{w:jH}{K:Fgg}{tg:i4}{it:iQ}{n:Nat}{f:Nat->V}{Pw:Nat->fv->Prop}{St:Nat->Heap->Prop}
  (W:∀A:j3,A.handled=qJ->Walks P w A it [it] [it] n Pw St) (hv:∀i v,i<n->Pw i v->RelV (f i) v)
  (ho:∀i h,St i h->∃o nm vs,h.get? it=qI o/\o.cls=.type nm/\o.data=.fields vs/\ownTups.contains nm=qL)
  (cW:∀(A:j3) (i:Nat) (s:iM) (Q:fv->iM->Prop) (E:fv->iM->Prop),St i s.heap->Q (.ref it) s->jq (model P w) A (pyIter (.ref it)) Q E s)
  (de:∀i h h',St i h->(∀b∈[it],∀o,h.get? b=qI o->h'.get? b=qI o)->St i h'):
  Turn P w K tg (Itp n f) [it] it (λi h=>i<=n/\St i h) where
 mem:=by simp
 obj:=λi h st b hb=>by
  have e:b=it:=by simpa using hb
  subst e;obtain⟨o,nm,vs,e,c,d,_⟩:=ho i h st.2;exact⟨o,e,λv z=>by rw[d]at z;cases z⟩
 keep:=λi h h' st k=>⟨st.1,de i h h' st.2 k⟩
 item:=by
  intro X hP hw hK hc i pins s σ H E I hf st hg;subst hP hw hK;obtain⟨f0,f1,f2,f3,f4,f5⟩:=hf it (by simp)
  have hi:i<n:=hg;refine(W X.A (I.ok.hd hc)).item i s _ _ hi st.2 λv h' tk bM aK kk=>?_
  have I1:Inv X pins σ H {s with heap:=h',toks:=tk}:=I.turned (λb o hb e=>kk b o (by simpa using hb) e) f0 f1 f3 f4 f5
  obtain⟨o,nm,vs,e,c,d,hn⟩:=ho _ _ aK;exact⟨_,rfl,zmk_ (s:={s with heap:=h',toks:=tk}) (n:=nm) e c d hn ⟨f i,H,I1,hv i v hi bM,⟨rfl,rfl⟩,⟨hi,aK⟩,λb hb=>(hf b hb).1⟩⟩
 done:=by
  intro X hP hw hK hc i pins s σ H E I hf st hg;subst hP hw hK;obtain⟨f0,f1,f2,f3,f4,f5⟩:=hf it (by simp)
  have hi:n<=i:=hg;have e:i=n:=Nat.le_antisymm st.1 hi;subst e;exact(W X.A (I.ok.hd hc)).done s _ _ st.2 λh' tk kk=>⟨rfl,I.turned (λb o hb e=>kk b o (by simpa using hb) e) f0 f1 f3 f4 f5⟩
 self:=λA i s Q E st h=>cW A i s Q E st.2 h
noncomputable def sgn (x:Str)(i:Nat):V:=.str ⟨#[x.cps.getD i 0]⟩
theorem zgt_ {P:jr}{w:jH}{it:iQ}{x:Str}{t:Tok}(A:j3)(hA:A.handled=qJ):Walks P w A it [it] [it] x.cps.size (SignAt x) (λi h=>h.IsStrIter it (kP x) x t i):=by
 cases ha:x.cps.all (·<128)
 ·have e:kP x="str_iterator":=by simp[kP,ha]
  rw[e];exact Walks.strWide hA it x t
 ·have e:kP x="str_ascii_iterator":=by simp[kP,ha]
  rw[e];exact Walks.strAscii hA it x t
theorem zfT_ {x:Str}{i:Nat}{v:fv}(h:SignAt x i v):RelV (sgn x i) v:=by
 obtain⟨c,u,e,rfl⟩:=h;refine⟨u,?_⟩;have:x.cps.getD i 0=c:=by simp[mV,e]
 rw[this]
theorem zcG_ (x:Str):ownTups.contains (kP x)=qL:=by
 unfold kP;split<;>decide
theorem zjB_ {P:jr}{w:jH}{K:Fgg}{tg:i4}(it:iQ)(x:Str)(t:Tok):Turn P w K tg (Itp x.cps.size (sgn x)) [it] it (λi h=>i<=x.cps.size/\h.IsStrIter it (kP x) x t i):=by
 refine zhc_ (Pw:=SignAt x) (λA hA=>zgt_ A hA) (λi v _ h=>zfT_ h) (λi h st=>?_) (λA i s Q E st h=>?_) (λi h h' st k=>?_)
 ·obtain⟨o,e,c,d⟩:=st
  exact⟨o,_,_,e,c,d,zcG_ x⟩
 ·cases ha:x.cps.all (·<128)
  ·have e:kP x="str_iterator":=by simp[kP,ha]
   rw[e]at st;exact wpAny_pyIter_striter_wide st h
  ·have e:kP x="str_ascii_iterator":=by simp[kP,ha]
   rw[e]at st;exact wpAny_pyIter_striter_ascii st h
 ·obtain⟨o,e,r⟩:=st
  exact⟨o,k it (by simp) o e,r⟩
section
end
theorem Inv.turnedL {X:Cx}{pins:Pnn}{σ:St}{H:Hp}{s:iM}{h':Heap}{t':Nat}{ch:List iQ}(I:Inv X pins σ H s)(k:∀b o,b∉ch->s.heap.get? b=qI o->h'.get? b=qI o)
  (hf:∀b∈ch,FpOk X pins H b):Inv X pins σ H {s with heap:=h',toks:=t'}:=by
 have cJ:∀b u,H b=qI u->b∉ch:=λb u e z=>by rw[(hf b z).1]at e;cases e
 refine I.step (g':=s.gens) (d':=s.drawn) (ch:=ch) (λb hb=>?_) (λb o _ _ hc e _=>k b o hc e) (λb o _ _ hc e _=>⟨o.slots,k b o hc e⟩) (λ_ _ _ _ n=>n)
  (λb o hc e=>⟨o,k b o hc e⟩) (λ_ _ e=>e) (λ_ _ _ e=>e) (λ_ _ _ e=>e) (λm hm=>?_) (λb u e=>?_) I.bare
 ·obtain⟨f0,f1,f2,f3,f4,f5⟩:=hf b hb
  exact⟨f3,f1,f4,f5⟩
 ·obtain⟨o,es,ep,ho,r⟩:=hm
  exact⟨o,es,ep,k _ o (λz=>(hf _ z).2.1 rfl) ho,r⟩
 ·refine(I.hok b u e).stay (λc v hc q=>k c v ?_ q) (λ_ q=>q) λ_ _ q=>q
  rcases hc with z |z
  ·rw[z];exact cJ b u e
  ·exact cJ c _ z
section
variable {prog:jr}{w:jH}{A:j3}{R:Result->iM->Prop}{s:iM}
theorem zey_ {elt target iter:i4}{ifs:List i4}{scope:Scope}{pos:Pos}{it acc:fv}{env:Env}(I:Nat->iM->Prop)
  (turn:∀n s,I n s->jq (model prog w) A (pyNext it) (λr aa=>match r with
   |none=>R (.ok .next) aa
   | some v=>jq (model prog w) A (letOwnedTupleGo target it v) (λ_ aC=>jq (model prog w) A (assign target env v) (λ_ av=>
     jq (model prog w) A (forIn ifs qK λc r=>if r=qK then do let ok <- isTrue c env (eval c env);pure (ForInStep.yield ok)else pure (ForInStep.yield r)) (λok a8=>
      if ok=qK then jq (model prog w) A (eval elt env) (λx cF=>
       jq (model prog w) A (call (.builtin "list.append") [acc,x]) (λ_ cD=>∃m,m<n/\I m cD) (λ_ _=>False) cF) (λ_ _=>False) a8
      else∃m,m<n/\I m a8) (λ_ _=>False) av) (λ_ _=>False) aC) (λ_ _=>False) aa) (λ_ _=>False) s)
  (n:Nat) (h:I n s):
  codeAny (model prog w) A (.compLoop (.ListComp elt [⟨target,iter,ifs,0⟩] scope pos) 0 it acc env) R s:=by
 refine codeAny_loop rfl I (λn s hI=>?_) n h
 show jq _ A ((compTurn (.ListComp elt [⟨target,iter,ifs,0⟩] scope pos) 0 it acc env).onRaise (λx=>do noteFrame x env;theTreesLotGoes x)) _ _ s
 refine wpAny_noted ?_;rw[compTurn_list];refine iX (wpAny_standAt (iX (kr (turn n s hI) (λr aa aB=>?_) λ_ _ h'=>h'.elim)))
 cases r with
 |none=>exact je aB
 |some v=>
  refine iX (kr aB (λ_ aC a_=>?_) λ_ _ h'=>h'.elim)
  refine iX (kr a_ (λ_ av a9=>iX (kr a9 (λok a8 cR=>?_) λ_ _ h'=>h'.elim)) λ_ _ h'=>h'.elim)
  cases ok with
  |false=>exact je ⟨rfl,cR⟩
  |true=>
   exact iX (iX (kr cR (λx cF eI=>iX (kr eI (λ_ cD eG=>je (je ⟨rfl,eG⟩)) λ_ _ h'=>h'.elim)) λ_ _ h'=>h'.elim))
end
noncomputable def closeL (cells:List (Str×iQ)):List (Str×lB)->List (Str×iQ)->Option (List (Str×iQ))
 |[],acc=>qI acc
 |(n,k)::r,acc=>if(k == .free)=qK then(match cells.lookup n with |some c=>closeL cells r ((n,c)::acc)|none=>qJ)else closeL cells r acc
theorem zcb_ {env:Env}{f:Str×lB->List (Str×iQ)->Sem (ForInStep (List (Str×iQ)))}
  (hf:∀n k cs,f (n,k) cs=if(k == NameKind.free)=qK then(do let c <- cellOf env n;pure (ForInStep.yield ((n,c)::cs)))else pure (ForInStep.yield cs)):
  ∀(names:List (Str×lB)) (acc cl:List (Str×iQ)),closeL env.cells names acc=qI cl->(forIn names acc f:Sem (List (Str×iQ)))=pure cl
 |[],acc,cl,h=>by cases h;rfl
 |(n,k)::r,acc,cl,h=>by
  rw[List.forIn_cons,hf];unfold closeL at h;by_cases hk:(k == NameKind.free)=qK
  ·rw[if_pos hk]at h
   rw[if_pos hk];cases hc:env.cells.lookup n with
   |none=>rw[hc]at h;cases h
   |some c=>
    rw[hc]at h;have e:cellOf env n=pure c:=by unfold cellOf;rw[hc]
    rw[e];simp only[pure_bind];exact zcb_ hf r _ cl h
  ·rw[if_neg hk]at h
   rw[if_neg hk];simp only[pure_bind];exact zcb_ hf r _ cl h
theorem zd1_ {env:Env}{scope:Scope}{cl:List (Str×iQ)}(h:closeL env.cells scope.names []=qI cl):closureFor scope env=pure cl:=by
 unfold closureFor;dsimp only;rw[zcb_ (env:=env) (λn k cs=>rfl) scope.names [] cl h]
 rfl
theorem zbo_ {cells:List (Str×iQ)}:∀(names:List (Str×lB)) (acc cl:List (Str×iQ)),closeL cells names acc=qI cl->(∀x c,acc.lookup x=qI c->cells.lookup x=qI c) ->
  (∀x c,cl.lookup x=qI c->cells.lookup x=qI c)
 |[],acc,cl,h,ha=>by cases h;exact ha
 |(n,k)::r,acc,cl,h,ha=>by
  unfold closeL at h;by_cases hk:(k == NameKind.free)=qK
  ·rw[if_pos hk]at h
   cases hc:cells.lookup n with
   |none=>rw[hc]at h;cases h
   |some c=>
    rw[hc]at h;refine zbo_ r _ cl h λx c' e=>?_
    rw[l7]at e;cases hx:x == n with
    |true=>rw[hx]at e;cases e;rw[eq_of_beq hx];exact hc
    |false=>rw[hx]at e;exact ha x c' e
  ·rw[if_neg hk]at h
   exact zbo_ r _ cl h ha
theorem zbv_ {cells:List (Str×iQ)}:∀(names:List (Str×lB)) (acc cl:List (Str×iQ)),closeL cells names acc=qI cl->∀x,((x,NameKind.free)∈names\/∃c,acc.lookup x=qI c)->∃c,cl.lookup x=qI c
 |[],acc,cl,h,x,hx=>by
  cases h;rcases hx with hx |hx
  ·cases hx
  ·exact hx
 |(n,k)::r,acc,cl,h,x,hx=>by
  unfold closeL at h;by_cases hk:(k == NameKind.free)=qK
  ·rw[if_pos hk]at h
   cases hc:cells.lookup n with
   |none=>rw[hc]at h;cases h
   |some c=>
    rw[hc]at h;refine zbv_ r _ cl h x ?_;rcases hx with hx |⟨c',e⟩
    ·rcases ju.mp hx with e |hx
     ·cases e;exact .inr ⟨c,by rw[l7,beq_self_eq_true]⟩
     ·exact .inl hx
    ·refine .inr ?_
     rw[l7];cases hxn:x == n with
     |true=>exact⟨c,rfl⟩
     |false=>exact⟨c',e⟩
  ·rw[if_neg hk]at h
   refine zbv_ r _ cl h x ?_;rcases hx with hx |hx
   ·rcases ju.mp hx with e |hx
    ·cases e;exact absurd rfl hk
    ·exact .inl hx
   ·exact .inr hx
theorem za3_ {scope:Scope}{env:Env}{x:Str}{k:lB}(h:(relabel scope env).names.lookup x=qI k)(hk:k=.cell\/k=.free)(aV:∀y∈scope.names,y.2≠.cell):(x,NameKind.free)∈scope.names:=by
 have m:=ku h;obtain⟨⟨n,k0⟩,hm,e⟩:=jV.mp m;dsimp only at e;split at e
 ·rename_i hc
  cases e;have:k0=.free:=by
   simp only[bR,beq_iff_eq]at hc;exact hc.1.1
  subst this;exact hm
 ·cases e
  rcases hk with rfl |rfl
  ·exact absurd rfl (aV _ hm)
  ·exact hm
def cxComp (X:Cx)(scope:Scope)(cl:List (Str×iQ))(C:iQ)(N:List Str)(fp:List iQ)(s2:iM)(H2:Hp):Cx where
 prog:=X.prog
 w:=X.w
 K:=X.K
 mg:=X.mg
 base:=X.base
 A:=X.A
 N:=N
 s₀:=s2
 H₀:=H2
 env:=compEnvC scope cl C X.env
 outer:=X.stack
 stack:=X.stack
 ex:=fp
 fn:=λ_=>qL
 calm:=X.calm
 pn:=[]
 xe:=λ_ _=>False
structure CScope (X:Cx)(scope:Scope)(cl:List (Str×iQ))(lv:List Str)(fr:List (Str×Nat)):Prop where
 clos:closeL X.env.cells scope.names []=qI cl
 cell:∀y∈scope.names,y.2≠.cell
 kind:scope.kind=.function
 names:∀z∈scope.names,z.2=.local->scope.names.lookup z.1=qI .local
 fr:∀q∈fr,X.N[q.2]?=qI q.1/\(q.1,NameKind.free)∈scope.names/\(X.env.kindOf q.1=qI .cell\/X.env.kindOf q.1=qI .free) /\
  ((relabel scope X.env).names.lookup q.1=qI .cell\/(relabel scope X.env).names.lookup q.1=qI .free)
noncomputable def cN (lv:List Str)(fr:List (Str×Nat)):List Str:=lv++fr.map (·.1)
def cS (lv:List Str)(fr:List (Str×Nat))(σ:St):St:=lv.map (λ_=>qJ)++fr.map λq=>(σ[q.2]?).join
theorem zi1_ {X:Cx}{pins:Pnn}{σ:St}{H2:Hp}{s2:iM}{scope:Scope}{cl:List (Str×iQ)}{lv:List Str}{fr:List (Str×Nat)}{fp:List iQ}{h4:Heap}{tk:Nat}{m:Str->Option fv}{n:Nat}
  (I:Inv X pins σ H2 s2) (S:CScope X scope cl lv fr) (hf:∀b∈fp,FpOk X pins H2 b) (ay:∀b∈fp,b<s2.heap.objs.size) (hC:h4.Ns (s2.heap.objs.size+1) m) (hD:h4.get? s2.heap.objs.size=qI {cls:=.type "list",data:=.seq #[] n})
  (hk:∀b o,s2.heap.get? b=qI o->h4.get? b=qI o):
  Inv (cxComp X scope cl (s2.heap.objs.size+1) (cN lv fr) fp s2 H2) [] (cS lv fr σ) (upd H2 s2.heap.objs.size (.lst [])) {s2 with heap:=h4,toks:=tk}:=by
 have bA:=zbo_ scope.names [] cl S.clos (λx c e=>by cases e)
 have dg:=zbv_ scope.names [] cl S.clos;have h_:H2 s2.heap.objs.size=qJ:=I.hok.fresh (iW _);have d4:H2 (s2.heap.objs.size+1)=qJ:=I.hok.fresh (mM _);have ie:s2.heap.objs.size+1≠s2.heap.objs.size:=mR (lU _);have ig:∀b∈fp,(b∈X.ex\/X.s₀.heap.objs.size<=b):=λb hb=>(hf b hb).2.2.2.1
 have cj:∀x c,cl.lookup x=qI c->c<s2.heap.objs.size:=λx c e=>by
  obtain⟨v,o,ho,_⟩:=I.cell x c (bA x c e);exact i9 ho
 refine⟨⟨I.ok.mod,S.kind,I.ok.glob,I.ok.blt,mM _,λx y c h1 h2=>I.ok.inj x y c (bA x c h1) (bA y c h2),λx hx=>?_,λx c di=>(by cases di),I.ok.hd,I.ok.frames,.inl rfl,λb hb=>?_,I.bs,kH I.ok.bsz I.sz,λb o e hb=>?_,λb hb z=>?_,I.stack,I.stkFree,I.tb⟩,
  rfl,I.bare,?_,⟨m,hC,λi x v h1 h2 h3=>?_⟩,λx c e=>?_,?_,λx c e=>?_,λp hp=>absurd (show p∈([]:Pnn)from hp) (by simp),?_,?_⟩
 ·-- has
  have gy:(relabel scope X.env).names.lookup x=qI .cell\/(relabel scope X.env).names.lookup x=qI .free:=hx;have hm:(x,NameKind.free)∈scope.names:=gy.elim (λz=>za3_ z (.inl rfl) S.cell) λz=>za3_ z (.inr rfl) S.cell
  exact dg x (.inl hm)
 ·-- exf
  obtain⟨f0,f1,f2,f3,f4,f5⟩:=hf b hb;refine⟨λz=>?_,λx c e=>f4 x c (bA x c e)⟩
  have z':b=s2.heap.objs.size+1:=z;have:=ay b hb;rw[z']at this;exact absurd this (Nat.not_lt.mpr (mM _))
 ·rcases ig b hb with z |z
  ·exact I.ok.noex b o e z
  ·exact absurd (jB (jB (i9 e) I.ok.bsz) z) (mh _)
 ·obtain⟨f0,f1,f2,_⟩:=hf b hb
  rcases ju.mp (I.stkSub b z)with q |q
  ·exact f1 q
  ·exact f2 q
 ·exact Un.laid hk (iW _) h_
 ·-- loc
  have h1':(lv++fr.map (·.1))[i]?=qI x:=h1;have bC:(lv.map (λ_=>qJ)++fr.map λq=>(σ[q.2]?).join:St)[i]?=qI (qI v):=h2
  by_cases hi:i<lv.length
  ·rw[jS (by simpa using hi),iS]at bC
   cases hq:lv[i]? with
   |none=>rw[hq]at bC;cases bC
   |some z=>rw[hq]at bC;cases bC
  ·rw [jy (by simpa using hi),iS]at bC
   rw[jy (by lia),iS]at h1'
   simp only[gf]at bC;cases hq:fr[i-lv.length]? with
   |none=>rw[hq]at h1';cases h1'
   |some q=>
    rw[hq]at h1' bC;have e1:q.1=x:=jv h1';have e2:(σ[q.2]?).join=qI v:=jv bC;have e3:σ[q.2]?=qI (qI v):=by
     cases hz:σ[q.2]? with
     |none=>rw[hz]at e2;cases e2
     |some z=>rw[hz]at e2;exact congrArg qI e2
    obtain⟨g1,g2,g3,g4⟩:=S.fr q (kj hq);obtain⟨m0,hn0,c_⟩:=I.loc;have gg:Vis X.env.scope q.1:=by
     rcases g3 with g3 |g3
     ·exact .inr (.inl g3)
     ·exact .inr (.inr g3)
    obtain⟨u,r,l⟩:=c_ q.2 q.1 v g1 e3 gg;refine⟨u,r,.inr ⟨?_,?_⟩⟩
    ·rw[<- e1];exact g4
    ·rcases l with⟨lk,_⟩|⟨_,c,ec,ic⟩
     ·rcases g3 with g3 |g3<;>(rw[lk]at g3;cases g3)
     ·obtain⟨c',ec'⟩:=dg q.1 (.inl g2)
      have:c'=c:=by
       have:=bA q.1 c' ec';rw[ec]at this;exact(jv this).symm
      subst this;obtain⟨o,ho,hd⟩:=ic;exact⟨c',by rw[<- e1];exact ec',o,hk _ _ ho,hd⟩
 ·obtain⟨v,o,ho,hd⟩:=I.cell x c (bA x c e)
  exact⟨v,o,hk _ _ ho,hd⟩
 ·show upd H2 _ _ (s2.heap.objs.size+1)=qJ
  rw[zl_ ie];exact d4
 ·have:=cj x c e
  rw[zl_ (jQ this)];exact I.freeC x c (bA x c e)
 ·exact I.hok.laid hk (iW _) ⟨kJ _,[],n,.nil,hD⟩
 ·show(cS lv fr σ).length=(cN lv fr).length
  simp[cS,cN]
def PIf (X:Cx)(ifs:List i4)(t:TT):Prop:=
 ∀(pins:Pnn) (s:iM) (σ:St) (H:Hp) (Q:Bool->Hp->Prop),Inv X pins σ H s->t σ H Q ->
  jq (model X.prog X.w) X.A (forIn ifs qK λc r=>if r=qK then do let ok <- isTrue c X.env (eval c X.env);pure (ForInStep.yield ok)else pure (ForInStep.yield r)) (TP X pins σ Q) X.xe s
def tTrue:TT:=λ_ H Q=>Q qK H
theorem zlG_ {X:Cx}:PIf X [] tTrue:=λpins s σ H Q I h=>wpAny_tests_nil ⟨H,I,h⟩
theorem zmv_ {X:Cx}{c:i4}{t:TT}(h:PT X c t):PIf X [c] t:=λpins s σ H Q I hw=>wpAny_tests_one (h pins s σ H Q I hw)
def tCompR (J:It)(g:TG)(tt:TT)(te:TE)(f_:St)(H1:Hp)(Q:VK):Prop:=
 ∀ D,H1 D=qJ->∃W:Nat->Nat->List V->St->Hp->Prop,(∃m,W 0 m [] f_ (upd H1 D (.lst [])))/\∀i m ys σ H,W i m ys σ H ->
  (J.stop i H/\Q (.ref D) H)\/(J.go i H/\∃N:List V->St->Hp->Prop,(∀bE ab H',N bE ab H'->∃m',m'<m/\W (i+1) m' bE ab H') /\
   ∀x H',J.yld i H x H'->g x σ H' λcq H2=>tt cq H2 λb H3=>if b=qK then te cq H3 λv H4=>H4 D=qI (.lst ys)/\ys.length<iZ/\N (ys++[v]) cq (upd H4 D (.lst (ys++[v])))else N ys cq H3)
section
variable {X:Cx}{scope:Scope}{cl:List (Str×iQ)}{lv:List Str}{fr:List (Str×Nat)}{elt tg iter:i4}{ifs:List i4}{pos:Pos}{g:TG}{tt:TT}{te:TE}
theorem zc9_ {pins:Pnn}{σ:St}{H2:Hp}{s2:iM}{it:iQ}{fp:List iQ}{tn:Nat->Heap->Prop}{J:It}{Q:VK}{E:fv->iM->Prop}{use:Option (fv->Sem Unit)}{Q':fv->iM->Prop}
  (I:Inv X pins σ H2 s2) (S:CScope X scope cl lv fr) (T:Turn X.prog X.w X.K tg J fp it tn) (st:tn 0 s2.heap) (hf:∀b∈fp,FpOk X pins H2 b) (hc:X.calm=qK)
  (hg:∀C fp s2 H2,PG (cxComp X scope cl C (cN lv fr) fp s2 H2) tg g) (ht:∀C fp s2 H2,PIf (cxComp X scope cl C (cN lv fr) fp s2 H2) ifs tt) (he:∀C fp s2 H2,PE (cxComp X scope cl C (cN lv fr) fp s2 H2) elt te)
  (hq:tCompR J g tt te (cS lv fr σ) H2 Q)
  (fin:∀D C oC H' s',Inv X (pins++[(C,oC)]) σ H' s'->(∀h:Heap,h.get? C=qI oC->∃m,h.Ns C m)->FpOk X pins H' C->Q (.ref D) H'->compPost (model X.prog X.w) X.A E use Q' (.ref D) C (.ok .next) s'):
  jq (model X.prog X.w) X.A (newList []) (λacc av=>jq (model X.prog X.w) X.A (newFunctionEnv scope X.env.globals cl [] X.env.qual qJ .none (qI X.env)) (λdI a8=>
   codeAny (model X.prog X.w) X.A (.compStart (.ListComp elt [⟨tg,iter,ifs,0⟩] scope pos) 0 (.ref it) acc {dI with scope:=relabel scope X.env}) (compPost (model X.prog X.w) X.A E use Q' acc dI.locals) a8) E av) E s2:=by
 have ay:∀b∈fp,b<s2.heap.objs.size:=λb hb=>by
  obtain⟨o,ho,_⟩:=T.obj 0 _ st b hb;exact i9 ho
 refine wpAny_newList (wpAny_newFunctionEnv S.cell (by intro y hy;simp at hy) (λaB aQ aD=>?_) S.kind)
 dsimp only at aQ aD ⊢;have hsz:(s2.heap.push {cls:=.type "list",data:=.seq ([]:List fv).toArray}).objs.size=s2.heap.objs.size+1:=og ..;rw[hsz]at aQ aD ⊢;have old:∀b o,s2.heap.get? b=qI o->aB.get? b=qI o:=λb o e=>aD.extBut b o (jQ (m9 (i9 e))) (iU _ (iU _ e))
 have ax:aB.get? s2.heap.objs.size=qI {cls:=.type "list",data:=.seq #[]}:=aD.extBut _ _ (jQ (lU _)) (iU _ (jj _ rfl));have I4:Inv (cxComp X scope cl (s2.heap.objs.size+1) (cN lv fr) fp s2 H2) [] (cS lv fr σ) (upd H2 s2.heap.objs.size (.lst [])) {s2 with heap:=aB,toks:=s2.toks+([]:List (Str×fv)).length}:=
  zi1_ I S hf ay aQ ax old
 generalize aN:cxComp X scope cl (s2.heap.objs.size+1) (cN lv fr) fp s2 H2=X' at I4
 have eP:X'.prog=X.prog:=by rw[<- aN];rfl
 have ew:X'.w=X.w:=by rw[<- aN];rfl
 have eK:X'.K=X.K:=by rw[<- aN];rfl
 have eA:X'.A=X.A:=by rw[<- aN];rfl
 have ec:X'.calm=qK:=by rw[<- aN];exact hc
 have ex:X'.xe=λ_ _=>False:=by rw[<- aN];rfl
 have b_:X'.env=compEnvC scope cl (s2.heap.objs.size+1) X.env:=by rw[<- aN];rfl
 have gV:PG X' tg g:=aN ▸ hg _ _ _ _;have gG:PIf X' ifs tt:=aN ▸ ht _ _ _ _;have bo:PE X' elt te:=aN ▸ he _ _ _ _;obtain⟨W,⟨m0,w0⟩,turn⟩:=hq s2.heap.objs.size (I.hok.fresh (iW _));have fE:tn 0 aB:=T.keep _ _ _ st λb _ o e=>old b o e
 have f4:∀b∈fp,FpOk X' [] (upd H2 s2.heap.objs.size (.lst [])) b:=λb hb=>by
  obtain⟨f0,f1,f2,f3,f4,f5⟩:=hf b hb;have:=ay b hb;refine⟨?_,?_,?_,.inl ?_,?_,?_⟩
  ·rw[zl_ (jQ this)];exact f0
  ·rw[b_];exact jQ (m9 this)
  ·intro z
   have z':b∈frs X.stack:=by rw[<- aN]at z;exact z
   rcases ju.mp (I.stkSub b z')with q |q
   ·exact f1 q
   ·exact f2 q
  ·rw[<- aN];exact hb
  ·intro x c e
   rw[b_]at e;exact f4 x c (zbo_ scope.names [] cl S.clos (λx c e=>by cases e) x c e)
  ·intro p hp
   rw[<- aN]at hp;exact absurd (show p∈([]:Pnn)from hp) (by simp)
 have aO:∀{H':Hp},(∀b∈fp,H' b=qJ)->∀b∈fp,FpOk X' [] H' b:=λhn b hb=>⟨hn b hb,(f4 b hb).2⟩
 have loop:∀av:iM,av={s2 with heap:=aB,toks:=s2.toks+([]:List (Str×fv)).length} ->
   codeAny (model X.prog X.w) X.A (.compLoop (.ListComp elt [⟨tg,iter,ifs,0⟩] scope pos) 0 (.ref it) (.ref s2.heap.objs.size) (compEnvC scope cl (s2.heap.objs.size+1) X.env))
    (compPost (model X.prog X.w) X.A E use Q' (.ref s2.heap.objs.size) (s2.heap.objs.size+1)) av:=by
  rintro av rfl;refine zey_ (λn s'=>∃i ys ab H',Inv X' [] ab H' s'/\tn i s'.heap/\(∀b∈fp,H' b=qJ)/\W i n ys ab H') ?_ m0 ⟨0,[],_,_,I4,fE,λb hb=>(f4 b hb).1,w0⟩
  rintro n s3 ⟨i,ys,aH,H3,I3,st3,fr3,w3⟩;rcases turn i n ys aH H3 w3 with⟨stop,qn⟩|⟨go,N,hN,step⟩
  ·have a0:=T.done X' eP ew eK ec i [] s3 aH H3 (λ_ _=>False) I3 (aO fr3) st3 stop
   rw[eA]at a0;refine thn a0 λr s4 ae=>?_
   obtain⟨hr,I4'⟩:=ae;subst hr;have un:Un (frs X.stack) fp H2 H3 s2.heap s4.heap:=by
    have:=I4'.base;rw[<- aN]at this;exact this
   have os:s4.os=s2.os:=by
    have:=I4'.os;rw[<- aN]at this;exact this
   have hok:HOk X.prog X.w H3 s4.heap:=by
    have:=I4'.hok;rw[<- aN]at this;exact this
   have J1:Inv X pins σ H3 s4:=I.call' os un hok I4'.bare λb hb=>by
    obtain⟨f0,f1,f2,f3,f4,f5⟩:=hf b hb;exact⟨f3,f1,f4,f5⟩
   obtain⟨m,hn,_⟩:=I4'.loc;have eU:s4.heap.Ns (s2.heap.objs.size+1) m:=by rw[b_]at hn;exact hn
   have d4:H3 (s2.heap.objs.size+1)=qJ:=by
    have:=I4'.free;rw[b_]at this;exact this
   have fC:FpOk X pins H3 (s2.heap.objs.size+1):=I.fpOk (mM _) d4;obtain⟨oC,es,ep,hoC,hdC,rC⟩:=id eU;have J2:Inv X (pins++[(s2.heap.objs.size+1,oC)]) σ H3 s4:=J1.pins_of λp hp=>by
    rcases lH.mp hp with hp |hp
    ·exact J1.pin p (i8 _ hp)
    ·have e:p=(s2.heap.objs.size+1,oC):=by simpa using hp
     subst e;exact⟨hoC,d4,fC.2.1,fC.2.2.1,λv z=>by rw[hdC]at z;cases z⟩
   exact fin _ _ oC H3 s4 J2 (λh e=>⟨m,oC,es,ep,e,hdC,rC⟩) fC qn
  ·have a0:=T.item X' eP ew eK ec i [] s3 aH H3 (λ_ _=>False) I3 (aO fr3) st3 go
   rw[eA]at a0;refine thn a0 λr s4 ae=>?_
   obtain⟨u,hr,h4⟩:=ae;subst hr;refine thn h4 λ_ s5 ae=>?_
   obtain⟨x,H5,I5,r5,y5,st5,fr5⟩:=ae;have fA:=I5.pinned (aO fr5) (T.obj _ _ st5);have a1:=gV _ s5 aH H5 x u _ fA r5 (step x H5 y5);rw[eP,ew,eA,b_,ex]at a1;refine thn a1 λ_ s6 ae=>?_
   obtain⟨bw,H6,I6,q6⟩:=ae;have a2:=gG _ s6 bw H6 _ I6 q6;rw[eP,ew,eA,b_,ex]at a2;refine thn a2 λok s7 ae=>?_
   obtain⟨H7,I7,q7⟩:=ae;have again:∀{dJ:List V}{H7:Hp}{s7:iM},Inv X' ([]++pinsAt fp s5.heap) bw H7 s7->N dJ bw H7->∃m,m<n/\∃i ys ab H',Inv X' [] ab H' s7/\tn i s7.heap/\(∀b∈fp,H' b=qJ)/\W i m ys ab H':=λ{dJ H7 s7} I7 n7=>by
    obtain⟨m',hm,w7⟩:=hN dJ bw H7 n7;refine⟨m',hm,i+1,dJ,bw,H7,I7.unpinned,T.keep _ _ _ st5 λb hb o e=>(I7.pin (b,o) (i8 _ (i8 _ (zbf_ hb e)))).1,λb hb=>?_,w7⟩
    obtain⟨o,e,d⟩:=T.obj _ _ st5 b hb;exact(I7.pin (b,o) (i8 _ (i8 _ (zbf_ hb e)))).2.1
   cases ok with
   |false=>exact again I7 q7
   |true=>
    have a3:=bo _ s7 bw H7 _ I7 q7;rw[eP,ew,eA,b_,ex]at a3;refine thn a3 λy s8 ae=>?_
    obtain⟨v,H8,I8,r8,hD8,hl8,n8⟩:=ae;have a4:=zcB_ (X:=X') _ s8 bw H8 (.ref s2.heap.objs.size) [v] (.ref s2.heap.objs.size) [y] (λ_ H9=>N (ys++[v]) bw H9) I8 rfl (.cons r8 .nil) ⟨_,_,_,rfl,rfl,hD8,hl8,n8⟩
    rw[eP,ew,eA,ex]at a4;refine thn a4 λ_ s9 ae=>?_
    obtain⟨v9,H9,I9,_,n9⟩:=ae;exact again I9 n9
 exact codeAny_compStart_list (loop _ rfl) (T.self _ 0 _ _ _ fE (loop _ rfl))
def tComp (lv:List Str)(fr:List (Str×Nat))(wi:TI)(g:TG)(tt:TT)(te:TE):TE:=λσ H Q=>wi σ H λJ H1=>tCompR J g tt te (cS lv fr σ) H1 Q
theorem zj1_ {wi:TI}(hc:X.calm=qK)(S:CScope X scope cl lv fr)(hi:PI X tg iter wi)
  (hg:∀C fp s2 H2,PG (cxComp X scope cl C (cN lv fr) fp s2 H2) tg g) (ht:∀C fp s2 H2,PIf (cxComp X scope cl C (cN lv fr) fp s2 H2) ifs tt) (he:∀C fp s2 H2,PE (cxComp X scope cl C (cN lv fr) fp s2 H2) elt te)
  (hs:∀x,foldedSetIterable iter X.env x=pure x:=by intro _;rfl):PE X (.ListComp elt [⟨tg,iter,ifs,0⟩] scope pos) (tComp lv fr wi g tt te):=by
 intro pins s σ H Q I h;rw[eval_ListComp];refine wpAny_comprehension_free (use:=qJ) rfl hs (zd1_ S.clos) S.kind S.names ?_;refine thn (hi pins s σ H _ I h) λv s1 h1=>thn h1 λdS s2 h2=>?_
 obtain⟨it,fp,tn,J,H2,e,I2,T,bK,f2,q⟩:=h2;subst e;refine zc9_ I2 S T bK f2 hc hg ht he q λD C oC H' s' J1 ff fC qD=>?_
 have hp:=J1.pin (C,oC) (i8 _ (i8 _ (j6.mpr rfl)));obtain⟨m,hm⟩:=ff s'.heap hp.1;refine⟨m,hm,λh' cA=>?_⟩
 exact⟨.ref D,H',J1.unpinned.turned (t':=s'.toks) (λb o hb e=>(cA.2 b hb).trans e) fC.1 fC.2.1 fC.2.2.2.1 fC.2.2.2.2.1 fC.2.2.2.2.2,rfl,qD⟩
theorem zfX_ {wi:TI}{j:Nat}{y:Str}{py cG:Pos}(hc:X.calm=qK)(S:CScope X scope cl lv fr)(hi:PI X tg iter wi)
  (hg:∀C fp s2 H2,PG (cxComp X scope cl C (cN lv fr) fp s2 H2) tg g) (ht:∀C fp s2 H2,PIf (cxComp X scope cl C (cN lv fr) fp s2 H2) ifs tt) (he:∀C fp s2 H2,PE (cxComp X scope cl C (cN lv fr) fp s2 H2) elt te)
  (hy:PG X (.Name y py) (gName j))
  (gH:swapsWith (.ListComp elt [⟨tg,iter,ifs,0⟩] scope pos) (qI (.Name y py)) cG.line X.env=pure qK:=by rfl)
  (hs:∀x,foldedSetIterable iter X.env x=pure x:=by intro _;rfl):PS X (.Assign [.Name y py] (.ListComp elt [⟨tg,iter,ifs,0⟩] scope pos) cG) (tAsg (tComp lv fr wi g tt te) (gName j)):=by
 intro pins s σ H D I h;rw[exec_Assign_Name_used _ _ _ _ gH];refine iX (wpAny_standAt (iX ?_));show jq _ X.A (do let _ <- comprehension (.ListComp elt [⟨tg,iter,ifs,0⟩] scope pos) scope X.env _ (newList []) qL (eval iter X.env) (qI (assign (.Name y py) X.env))) _ _ s
 refine iX (kr (wpAny_comprehension_free (use:=qI (assign (.Name y py) X.env)) (Q:=λ_ s'=>SP X pins D .next s') rfl hs (zd1_ S.clos) S.kind S.names ?_) (λ_ s' hq=>je (je hq)) λ_ _ e=>e)
 refine thn (hi pins s σ H _ I h) λv s1 h1=>thn h1 λdS s2 h2=>?_
 obtain⟨it,fp,tn,J,H2,e,I2,T,bK,f2,q⟩:=h2;subst e;refine zc9_ I2 S T bK f2 hc hg ht he q λD' C oC H' s' J1 ff fC qD=>?_
 show jq _ X.A (assign (.Name y py) X.env (.ref D')) _ _ _
 refine thn (hy _ s' σ H' (.ref D') (.ref D') _ J1 rfl qD) λ_ s3 ae=>?_
 obtain⟨aH,H3,I3,q3⟩:=ae;have hp:=I3.pin (C,oC) (i8 _ (i8 _ (j6.mpr rfl)));obtain⟨m,hm⟩:=ff s3.heap hp.1;refine⟨m,hm,λh' cA=>?_⟩
 have dH:FpOk X pins H3 C:=⟨hp.2.1,fC.2⟩;exact⟨aH,H3,I3.unpinned.turned (t':=s3.toks) (λb o hb e=>(cA.2 b hb).trans e) dH.1 dH.2.1 dH.2.2.2.1 dH.2.2.2.2.1 dH.2.2.2.2.2,q3⟩
end
noncomputable abbrev tx (l:List Nat):V:=.str ⟨l.toArray⟩
def br (b:Bool)(A B:Prop):Prop:=(b=qK->A)/\(b=qL->B)
theorem zme_ (a b:Str):a++b=⟨(a.cps.toList++b.cps.toList).toArray⟩:=by
 cases a;cases b;show Str.mk (_++_)=_
 simp
theorem za9_ (a:Str):a=⟨a.cps.toList.toArray⟩:=by cases a;simp
def cutL (l:List Nat)(lo hi:Option Int):List Nat:=(l.drop (HT.sIx l.length 0 lo)).take (HT.sIx l.length l.length hi-HT.sIx l.length 0 lo)
theorem zb6_ (lo hi:Option Int)(n:Nat):kn lo hi 1 n=sliceRange ((HT.sIx n 0 lo:Nat):Int) ((HT.sIx n n hi:Nat):Int) 1:=by
 unfold kn;simp only[show(1:Int) > 0 by decide,if_true]
 congr 1
 ·cases lo with
  |none=>simp[HT.sIx]
  |some i=>
   simp only[HT.sIx];by_cases h:i<0
   ·simp only[h,if_true]<;>lia
   ·simp only[h,if_false]<;>lia
 ·cases hi with
  |none=>simp[HT.sIx]
  |some i=>
   simp only[HT.sIx];by_cases h:i<0
   ·simp only[h,if_true]<;>lia
   ·simp only[h,if_false]<;>lia
theorem zeV_ (x:Str)(lo hi:Option Int):(kn lo hi 1 x.length).filterMap (x.cps[·]?)=cutL x.cps.toList lo hi:=by
 rw[zb6_,sliceRange_one,pick_run];unfold cutL kZ;simp only[k6]
theorem zcC_ (l:List Nat)(lo hi:Option Int):(cutL l lo hi).length<=l.length:=by
 unfold cutL;rw[ki,lp];lia
theorem zg2_ {l:List Nat}{lo hi:Option Int}(h:(cutL l lo hi).length=l.length):cutL l lo hi=l:=by
 unfold cutL at h ⊢;rw[ki,lp]at h;have h1:HT.sIx l.length l.length hi<=l.length:=HT.sIx_le _ _ (iW _) _;by_cases hl:l.length=0
 ·have:l=[]:=j4.mp hl
  subst this;simp
 ·have h2:HT.sIx l.length 0 lo=0:=by lia
  rw[h2,List.drop_zero,nR];lia
section
variable {X:Cx}
def rSlS:V->Option Int->Option Int->Hp->VK->Prop:=λx lo hi H Q=>match x with |.str z=>z.length<=iZ/\Q (tx (cutL z.cps.toList lo hi)) H |_=>False
theorem zca_ {v:fv}{o:Option Int}(p:IsPart v o):∃l:Option (Int×Tok),v=partValue l/\l.map (·.1)=o:=by
 cases p with
 |none=>exact⟨qJ,rfl,rfl⟩
 |int i t=>exact⟨qI (i,t),rfl,rfl⟩
theorem zn5_:SlR X rSlS:=by
 intro pins s σ H x v vl vu lo hi sl Q I rx hs pl pu h;cases x with
 |str z=>
  obtain⟨hz,q⟩:=h;obtain⟨t,rfl⟩:=rx;obtain⟨l,rfl,rfl⟩:=zca_ pl;obtain⟨u,rfl,rfl⟩:=zca_ pu;refine⟨"str",_,F.slot_str_getitem.lookup,typeIs_str _ _ _,?_⟩;refine wpAny_getItem_str_slice (l:=l) (u:=u) (st:=qJ) hs rfl ?_;unfold sliceMade;have e:slicePicked z l u qJ=kn (l.map (·.1)) (u.map (·.1)) 1 z.length:=rfl;rw[e];have hlen:(kn (l.map (·.1)) (u.map (·.1)) 1 z.length).length=(cutL z.cps.toList (l.map (·.1)) (u.map (·.1))).length:=by
   rw[zb6_,sliceRange_one,gf,jC];unfold cutL;rw[ki,lp];have h1:HT.sIx z.length z.length (u.map (·.1))<=z.length:=HT.sIx_le _ _ (iW _) _;have h2:z.cps.toList.length=z.length:=by simp[kZ]
   rw[h2];lia
  split
  ·rename_i hc
   have aW:(cutL z.cps.toList (l.map (·.1)) (u.map (·.1))).length=z.cps.toList.length:=by
    rw[<- hlen]
    simpa [kZ]using hc
   rw[zg2_ aW]at q;have q':Q (.str z) H:=by rw[za9_ z];exact q
   exact⟨.str z,H,I,⟨_,rfl⟩,q'⟩
  ·rw[zeV_]
   have h3:=zcC_ z.cps.toList (l.map (·.1)) (u.map (·.1));have h2:z.cps.toList.length=z.length:=by simp[kZ]
   refine⟨?_,tx (cutL z.cps.toList (l.map (·.1)) (u.map (·.1))),H,I.tok _,⟨_,rfl⟩,q⟩;show(cutL z.cps.toList (l.map (·.1)) (u.map (·.1))).toArray.size<=iZ
   rw[iO];exact kH h3 (by rw[h2];exact hz)
 |_=>exact h.elim
end
def mVar (i:Nat):TE:=λσ H Q=>match σ[i]? with |some (qI v)=>Q v H |_=>False
section
variable {X:Cx}{a b c:i4}{ta tb tc:TE}{pos:Pos}
theorem zlQ_ (i:Nat){x:Str}{pos:Pos}(hN:X.N[i]?=qI x:=by rfl)(hv:Vis X.env.scope x:=by first |exact Or.inl rfl |exact Or.inr (Or.inl rfl)|exact Or.inr (Or.inr rfl))(hd:(x==("__debug__":Str))=qL:=by decide)
  (au:(x==("__classdict__":Str))=qL:=by decide):PE X (.Name x pos) (mVar i):=by
 intro pins s σ H Q I h;unfold mVar at h;cases e:σ[i]? with
 |none=>rw[e]at h;exact h.elim
 |some o=>
  rw[e]at h;cases o with
  |none=>exact h.elim
  |some v=>exact zov_ hN hv hd au pins s σ H Q I ⟨v,e,h⟩
theorem zoe_ {x:Str}{l:List Nat}{j pos}(h:x=⟨l.toArray⟩:=by rfl):PE X (.Constant (.str x) j pos) (tC (tx l)):=h ▸ zo4_
def mAdd:R2:=λx y H Q=>match x,y with
 |.int i,.int j=>Q (.int (i+j)) H
 |.str a,.str b=>a.cps.toList.length+b.cps.toList.length<=iZ/\Q (tx (a.cps.toList++b.cps.toList)) H
 |.ref a,.ref b=>∃xs zs,H a=qI (.lst xs)/\H b=qI (.lst zs)/\xs.length+zs.length<=iZ/\∀p,H p=qJ->Q (.ref p) (upd H p (.lst (xs++zs)))
 |_,_=>False
theorem zkc_:OpR X (k7 .Add) mAdd:=by
 intro pins s σ H x y v u Q I rx ry h
 cases x<;>cases y<;>first
  |exact h.elim
  |exact zoH_ pins s σ H _ _ v u Q I rx ry ⟨_,_,rfl,rfl,h⟩
  |exact zfn_ pins s σ H _ _ v u Q I rx ry ⟨_,_,rfl,rfl,by simpa [kZ]using h.1,by rw[zme_];exact h.2⟩
  |(obtain⟨xs,zs,h1,h2,h3,h4⟩:=h;exact znM_ pins s σ H _ _ v u Q I rx ry ⟨_,_,xs,zs,rfl,rfl,h1,h2,h3,h4⟩)
def mI (C:Int->Int->Prop)(g:Int->Int->V):R2:=λx y H Q=>match x,y with |.int i,.int j=>C i j/\Q (g i j) H |_,_=>False
def mI0 (g:Int->Int->V):R2:=λx y H Q=>match x,y with |.int i,.int j=>Q (g i j) H |_,_=>False
theorem opM {f:fv->fv->Sem fv}{C:Int->Int->Prop}{g:Int->Int->V}(h:OpR X f (rI C g)):OpR X f (mI C g):=by
 intro pins s σ H x y v u Q I rx ry q;cases x<;>cases y<;>first |exact q.elim |exact h pins s σ H _ _ v u Q I rx ry ⟨_,_,rfl,rfl,q.1,q.2⟩
theorem opM0 {f:fv->fv->Sem fv}{g:Int->Int->V}(h:OpR X f (rI0 g)):OpR X f (mI0 g):=by
 intro pins s σ H x y v u Q I rx ry q;cases x<;>cases y<;>first |exact q.elim |exact h pins s σ H _ _ v u Q I rx ry ⟨_,_,rfl,rfl,q⟩
abbrev mSub:R2:=mI0 λi j=>.int (i-j)
abbrev mMod:R2:=mI (λ_ j=>0<j) λi j=>.int (i % j)
theorem zla_:OpR X (k7 .Sub) mSub:=opM0 zon_
theorem zms_:OpR X (k7 .Mod) mMod:=opM zoF_
abbrev mLt:R2:=mI0 λi j=>.bl (decide (i<j))
abbrev mGt:R2:=mI0 λi j=>.bl (decide (j<i))
theorem zpC_:OpR X (jG .Lt) mLt:=opM0 op_lt
theorem zn3_:OpR X (jG .Gt) mGt:=opM0 op_gt
noncomputable def mIsB (x y:V):Option Bool:=match y with
 |.non=>qI (decide (x=.non))
 |.bl b=>(match x with |.bl a=>qI (decide (a=b))|_=>qJ)
 |_=>qJ
def mIs:R2:=λx y H Q=>match mIsB x y with |some b=>Q (.bl b) H |none=>False
def mIsNot:R2:=λx y H Q=>match mIsB x y with |some b=>Q (.bl (!b)) H |none=>False
theorem zi4_ {M:Model}{A:j3}{E:fv->iM->Prop}{s:iM}{a b:Bool}{Q:fv->iM->Prop}(h:Q (.bool (decide (a=b))) s):jq M A (jG .Is (.bool a) (.bool b)) Q E s:=by
 cases a<;>cases b<;>exact je h
theorem zeC_ {M:Model}{A:j3}{E:fv->iM->Prop}{s:iM}{a b:Bool}{Q:fv->iM->Prop}(h:Q (.bool (!decide (a=b))) s):jq M A (jG .IsNot (.bool a) (.bool b)) Q E s:=by
 cases a<;>cases b<;>exact je h
theorem znQ_:OpR X (jG .Is) mIs:=by
 intro pins s σ H x y v u Q I rx ry h;unfold mIs mIsB at h;cases y with
 |non=>exact zoG_ pins s σ H x _ v u Q I rx ry ⟨rfl,h⟩
 |bl b=>
  cases x with
  |bl a=>cases rx;cases ry;exact zi4_ ⟨.bl _,H,I,rfl,h⟩
  |_=>exact h.elim
 |_=>exact h.elim
theorem zgD_:OpR X (jG .IsNot) mIsNot:=by
 intro pins s σ H x y v u Q I rx ry h;unfold mIsNot mIsB at h;cases y with
 |non=>exact zl9_ pins s σ H x _ v u Q I rx ry ⟨rfl,h⟩
 |bl b=>
  cases x with
  |bl a=>cases rx;cases ry;exact zeC_ ⟨.bl _,H,I,rfl,h⟩
  |_=>exact h.elim
 |_=>exact h.elim
noncomputable def inS (l:List Nat)(t:List Nat):Bool:=match l with |[c]=>decide (c∈t)|_=>!(kQ ⟨t.toArray⟩ ⟨l.toArray⟩ 0 t.length 1).isEmpty
theorem zhh_ (a b:Str):(!(kQ b a 0 b.length 1).isEmpty)=inS a.cps.toList b.cps.toList:=by
 have e:b.length=b.cps.toList.length:=by simp[kZ]
 unfold inS;split
 ·rename_i c hc
  have ea:a=⟨#[c]⟩:=by rw[za9_ a,hc]
  rw[ea];exact StrLaws.found_one b c
 ·rw[<- za9_,<- za9_,e]
def mIn (K:Fgg)(neg:Bool):R2:=λx y H Q=>match y with
 |.str b=>(match x with |.str a=>Q (.bl (if neg then !inS a.cps.toList b.cps.toList else inS a.cps.toList b.cps.toList)) H |_=>False)
 |.ref p=>∃xs,(SqL K H p xs\/SqT K H p xs)/\flatV x=qK/\xs.all flatV=qK/\Q (.bl (if neg then !inV x xs else inV x xs)) H
 |_=>False
theorem zpE_:OpR X (jG .In) (mIn X.K qL):=by
 intro pins s σ H x y v u Q I rx ry h;unfold mIn at h;cases y with
 |str b=>
  cases x with
  |str a=>exact zg3_ pins s σ H _ _ v u Q I rx ry ⟨_,_,rfl,rfl,by rw[zhh_];exact h⟩
  |_=>exact h.elim
 |ref p=>
  obtain⟨xs,h1,h2,h3,h4⟩:=h;exact zgV_ pins s σ H _ _ v u Q I rx ry ⟨_,xs,rfl,h1,h2,h3,h4⟩
 |_=>exact h.elim
theorem zgy_:OpR X (jG .NotIn) (mIn X.K qK):=by
 intro pins s σ H x y v u Q I rx ry h;unfold mIn at h;cases y with
 |str b=>
  cases x with
  |str a=>exact zdG_ pins s σ H _ _ v u Q I rx ry ⟨_,_,rfl,rfl,by rw[zhh_];exact h⟩
  |_=>exact h.elim
 |ref p=>
  obtain⟨xs,h1,h2,h3,h4⟩:=h;exact zdJ_ pins s σ H _ _ v u Q I rx ry ⟨_,xs,rfl,h1,h2,h3,h4⟩
 |_=>exact h.elim
def mTest (t:TE):TT:=λσ H Q=>t σ H λx H'=>match x with |.bl k=>Q k H' |_=>False
def mAndV (ta tb:TE):TE:=λσ H Q=>ta σ H λx H1=>match x with |.bl c=>br c (tb σ H1 Q) (Q (.bl qL) H1)|_=>False
def mOrV (ta tb:TE):TE:=λσ H Q=>ta σ H λx H1=>match x with |.bl c=>br c (Q (.bl qK) H1) (tb σ H1 Q)|_=>False
def mNotV (ta:TE):TE:=λσ H Q=>ta σ H λx H1=>match x with |.bl c=>Q (.bl (!c)) H1 |_=>False
def mAnd (t u:TT):TT:=λσ H Q=>t σ H λc H1=>br c (u σ H1 Q) (Q qL H1)
def mOr (t u:TT):TT:=λσ H Q=>t σ H λc H1=>br c (Q qK H1) (u σ H1 Q)
variable {rest:List i4}{tA dN:TT}
theorem zhi_ (ha:PE X a ta)(hb:PE X (.BoolOp .And (b::rest) pos) tb):PE X (.BoolOp .And (a::b::rest) pos) (mAndV ta tb):=by
 intro pins s σ H Q I h;refine BoolOp_and (thn (ha pins s σ H _ I h) λv s1 ae=>?_)
 obtain⟨x,H1,I1,r1,q1⟩:=ae;cases x with
 |bl c=>
  cases r1;refine lM ?_;cases c with
  |true=>exact hb pins s1 σ H1 Q I1 (q1.1 rfl)
  |false=>exact⟨.bl qL,H1,I1,rfl,q1.2 rfl⟩
 |_=>exact q1.elim
theorem zmY_ (ha:PE X a ta)(hb:PE X (.BoolOp .Or (b::rest) pos) tb):PE X (.BoolOp .Or (a::b::rest) pos) (mOrV ta tb):=by
 intro pins s σ H Q I h;refine BoolOp_or (thn (ha pins s σ H _ I h) λv s1 ae=>?_)
 obtain⟨x,H1,I1,r1,q1⟩:=ae;cases x with
 |bl c=>
  cases r1;refine lM ?_;cases c with
  |false=>exact hb pins s1 σ H1 Q I1 (q1.2 rfl)
  |true=>exact⟨.bl qK,H1,I1,rfl,q1.1 rfl⟩
 |_=>exact q1.elim
theorem zmn_ (ha:PE X a ta):PE X (.UnaryOp .Not a pos) (mNotV ta):=by
 intro pins s σ H Q I h;refine UnaryOp_ (thn (ha pins s σ H _ I h) λv s1 ae=>?_)
 obtain⟨x,H1,I1,r1,q1⟩:=ae;cases x with
 |bl c=>cases r1;exact not_of (lM ⟨.bl (!c),H1,I1,rfl,q1⟩)
 |_=>exact q1.elim
theorem zh7_ (ha:PT X a tA)(hb:PW X (.BoolOp .And (b::rest) pos) dN):PW X (.BoolOp .And (a::b::rest) pos) (mAnd tA dN):=by
 intro wh pins s σ H Q I h;refine isTrue_and (thn (ha pins s σ H _ I h) λc s1 ae=>?_)
 obtain⟨H1,I1,q1⟩:=ae;cases c with
 |true=>exact hb wh pins s1 σ H1 Q I1 (q1.1 rfl)
 |false=>exact⟨H1,I1,q1.2 rfl⟩
theorem zkQ_ (ha:PT X a tA)(hb:PW X (.BoolOp .Or (b::rest) pos) dN):PW X (.BoolOp .Or (a::b::rest) pos) (mOr tA dN):=by
 intro wh pins s σ H Q I h;refine isTrue_or (thn (ha pins s σ H _ I h) λc s1 ae=>?_)
 obtain⟨H1,I1,q1⟩:=ae;cases c with
 |true=>exact⟨H1,I1,q1.1 rfl⟩
 |false=>exact hb wh pins s1 σ H1 Q I1 (q1.2 rfl)
theorem zlB_ {e:i4}{t:TE}(h:PE X e t)(he:∀whole,isTrue e X.env whole=(do let v <- whole;standAt e.pos;holding [v] (truthy v)):=by intro _;rfl):PT X e (mTest t):=by
 intro pins s σ H Q I hw;refine isTrue_plain (thn (h pins s σ H _ I hw) λv s1 ae=>?_) (he _)
 obtain⟨x,H1,I1,r1,q1⟩:=ae;cases x with
 |bl c=>cases r1;exact lM ⟨H1,I1,q1⟩
 |_=>exact q1.elim
theorem zlC_ {op:CmpOp}{r:R2}(ho:OpR X (jG op) r)(ha:PE X a ta)(hb:PE X b tb)(hm:behindInMarks op b=qL:=by first |exact nobehind _ (by decide) (by decide)|rfl):PT X (.Compare a [op] [b] pos) (mTest (tOp r ta tb)):=by
 intro pins s σ H Q I hw;refine wpAny_isTrue_Compare1 (binT ha hb I hw λv u s2 x y H2 I2 rx ry q=>?_) hm
 refine thn (ho pins s2 σ H2 x y v u _ I2 rx ry q) λc s3 ae=>?_
 obtain⟨z,H3,I3,r3,q3⟩:=ae;cases z with
 |bl k=>cases r3;exact lM ⟨H3,I3,q3⟩
 |_=>exact q3.elim
theorem zmq_ {op:CmpOp}{r:R2}(ho:OpR X (jG op) r)(ha:PE X a ta)(hb:PE X b tb)(hm:behindInMarks op b=qL:=by first |exact nobehind _ (by decide) (by decide)|rfl):PE X (.Compare a [op] [b] pos) (tOp r ta tb):=zlJ_ ho ha hb hm
def mIf (t:TT)(ta tb:TE):TE:=λσ H Q=>t σ H λc H1=>br c (ta σ H1 Q) (tb σ H1 Q)
theorem zo1_ {c:i4}(hc:PT X c tA)(ha:PE X a ta)(hb:PE X b tb):PE X (.IfExp c a b pos) (mIf tA ta tb):=by
 intro pins s σ H Q I h;refine wpAny_IfExp (thn (hc pins s σ H _ I h) λd s1 ae=>?_)
 obtain⟨H1,I1,q1⟩:=ae;cases d with
 |true=>exact ha pins s1 σ H1 Q I1 (q1.1 rfl)
 |false=>exact hb pins s1 σ H1 Q I1 (q1.2 rfl)
def mIfS (c:TT)(t u:TS):TS:=λD σ H=>c σ H λb H1=>br b (t D σ H1) (u D σ H1)
theorem ziE_ {c:i4}{a b:List jI}{tc:TT}{t u:TS}(hc:PT X c tc)(ha:PSs X a t)(hb:PSs X b u):PS X (.If c a b pos) (mIfS tc t u):=by
 intro pins s σ H D I h;refine wpAny_If (thn (hc pins s σ H _ I h) λd s1 ae=>?_)
 obtain⟨H1,I1,q1⟩:=ae;cases d with
 |true=>exact ha pins s1 σ H1 D I1 (q1.1 rfl)
 |false=>exact hb pins s1 σ H1 D I1 (q1.2 rfl)
end
section
variable {X:Cx}{a b c e:i4}{ta:TE}{t:TA}
def mIx (K:Fgg):R2:=λx y H Q=>match y with
 |.int i=>(match x with
  |.ref p=>∃xs,(SqL K H p xs\/SqT K H p xs)/\(match atI xs i with |some v=>Q v H |none=>False)
  |.str z=>z.cps.toList.length<=iZ/\(match atI z.cps.toList i with |some c=>Q (tx [c]) H |none=>False)
  |_=>False)
 |_=>False
theorem ix_M:IxR X (mIx X.K):=by
 intro value slice pins s σ H x y v u Q I rx ry h eO;unfold mIx at h;cases y with
 |int i=>
  cases x with
  |ref p=>
   obtain⟨xs,hs,h⟩:=h;cases ev:atI xs i with
   |none=>rw[ev]at h;exact h.elim
   |some w'=>
    rw[ev]at h;rcases hs with hs |hs
    ·exact zk7_ value slice pins s σ H _ _ v u Q I rx ry ⟨p,xs,i,w',rfl,rfl,hs,ev,h⟩ eO
    ·exact znC_ value slice pins s σ H _ _ v u Q I rx ry ⟨p,xs,i,w',rfl,rfl,hs,ev,h⟩ eO
  |str z=>
   obtain⟨hz,h⟩:=h;cases ev:atI z.cps.toList i with
   |none=>rw[ev]at h;exact h.elim
   |some w'=>
    rw[ev]at h;exact zn8_ value slice pins s σ H _ _ v u Q I rx ry ⟨z,i,w',rfl,rfl,by simpa [kZ]using hz,ev,h⟩ eO
  |_=>exact h.elim
 |_=>exact h.elim
def mSl (K:Fgg):V->Option Int->Option Int->Hp->VK->Prop:=λx lo hi H Q=>match x with
 |.str z=>z.cps.toList.length<=iZ/\Q (tx (cutL z.cps.toList lo hi)) H
 |.ref a=>∃xs,SqL K H a xs/\∀p,H p=qJ->Q (.ref p) (upd H p (.lst (cutV xs lo hi)))
 |_=>False
theorem sl_M:SlR X (mSl X.K):=by
 intro pins s σ H x v vl vu lo hi sl Q I rx hs pl pu h;unfold mSl at h;cases x with
 |str z=>exact zn5_ pins s σ H _ v vl vu lo hi sl Q I rx hs pl pu ⟨by simpa [kZ]using h.1,h.2⟩
 |ref p=>
  obtain⟨xs,h1,h2⟩:=h;exact zkK_ pins s σ H _ v vl vu lo hi sl Q I rx hs pl pu ⟨p,xs,rfl,h1,h2⟩
 |_=>exact h.elim
def mPart (t:TE):TO:=λσ H Q=>t σ H λx H1=>match x with |.int i=>Q (qI i) H1 |_=>False
theorem po_M (h:PE X e ta):PO X (qI e) (mPart ta):=by
 intro pins s σ H Q I hw;rw[evalPart_some];refine thn (h pins s σ H _ I hw) λu s1 ae=>?_
 obtain⟨x,H1,I1,r1,q1⟩:=ae;cases x with
 |int i=>obtain⟨t,rfl⟩:=r1;exact⟨qI i,H1,I1,.int i t,q1⟩
 |_=>exact q1.elim
def mLen (K:Fgg):List V->Hp->VK->Prop:=λxs H Q=>match xs with
 |[.str z]=>z.cps.toList.length<=iZ/\Q (.int z.cps.toList.length) H
 |[.ref p]=>∃ys,(SqL K H p ys\/SqT K H p ys)/\Q (.int ys.length) H
 |_=>False
theorem zjR_ {K:Fgg}{xs:List V}{H:Hp}{Q:VK}(h:mLen K xs H Q):(∃z,xs=[.str z]/\z.cps.toList.length<=iZ/\Q (.int z.cps.toList.length) H)\/∃p ys,xs=[.ref p]/\(SqL K H p ys\/SqT K H p ys)/\Q (.int ys.length) H:=by
 rcases xs with _ |⟨x,_ |⟨y,t⟩⟩
 ·exact jL h
 ·cases x with
  |str z=>exact .inl ⟨z,rfl,h⟩
  |ref p=>obtain⟨ys,h⟩:=h;exact .inr ⟨p,ys,rfl,h⟩
  |_=>exact jL h
 ·cases x<;>exact jL h
theorem zgn_:CallR X (.builtin "len") (mLen X.K):=by
 intro pins s σ H xs us Q I r h;rcases zjR_ h with⟨z,rfl,h⟩|⟨p,ys,rfl,h1,h2⟩
 ·exact zdq_ pins s σ H _ us Q I r ⟨_,rfl,by simpa [kZ]using h.1,by simpa [kZ]using h.2⟩
 ·exact zdr_ pins s σ H _ us Q I r ⟨_,ys,rfl,h1,h2⟩
def tyS (K:Fgg)(H:Hp):V->String->Prop:=λx T=>match x with
 |.non=>T="NoneType" |.bl _=>T="bool" |.int _=>T="int" |.str _=>T="str"
 |.ref p=>(T="list" /\ ∃xs,H p=qI (.lst xs))\/(T="tuple" /\ ∃xs,H p=qI (.tup xs))
 |_=>False
theorem zoh_ {K:Fgg}{H:Hp}{x:V}{T:String}(h:tyS K H x T):TyOf K H x (.type T):=by
 unfold tyS at h;cases x with
 |non=>subst h;exact .non
 |bl b=>subst h;exact .bl b
 |int i=>subst h;exact .int i
 |str z=>subst h;exact .str z
 |ref p=>
  rcases h with⟨rfl,xs,h⟩|⟨rfl,xs,h⟩
  ·exact .lst h
  ·exact .tup h
 |_=>exact h.elim
noncomputable def isaB (T c:String):Option Bool:=
 if T=c then qI qK else if T="bool" /\ c="int" then qI qK
 else if(T="bool" \/ T="int" \/ T="str" \/ T="list" \/ T="tuple" \/ T="NoneType")/\(c="bool" \/ c="int" \/ c="str" \/ c="list" \/ c="tuple" \/ c="dict")then qI qL else qJ
theorem zk6_ {K:Fgg}{T c:String}{b:Bool}(h:isaB T c=qI b):qr K (.type T) (.type c)=qI b:=by
 unfold isaB at h;split at h
 ·rename_i e;subst e;cases h
  unfold qr;rw[if_pos (by simp)]
 ·split at h
  ·rename_i e;obtain⟨rfl,rfl⟩:=e;cases h;rfl
  ·split at h
   ·rename_i h1 h2 e
    cases h;obtain⟨e1,e2⟩:=e;rcases e1 with rfl |rfl |rfl |rfl |rfl |rfl<;>rcases e2 with rfl |rfl |rfl |rfl |rfl |rfl<;>first |rfl |exact absurd rfl h1 |exact absurd ⟨rfl,rfl⟩ h2
   ·cases h
noncomputable def findS (l:List Nat)(t:List Nat):Int:=Txt.find ⟨l.toArray⟩ ⟨t.toArray⟩
theorem zjo_ (l:List Nat)(c:Nat):findS l [c]=(match l.findIdx? (· == c)with |some i=>(i:Int)|none => -1):=by
 unfold findS;rcases find_whole ⟨l.toArray⟩ ⟨[c].toArray⟩with⟨h1,h2⟩|⟨i,h1,h2,h3⟩
 ·rw[h1]
  have:l.findIdx? (· == c)=qJ:=by
   rw[List.findIdx?_eq_none_iff];intro x hx;obtain⟨j,hj⟩:=List.mem_iff_getElem?.mp hx;by_cases hxc:x=c
   ·subst hxc
    exact absurd ((ng ⟨l.toArray⟩ x j).mpr (by simpa using hj)) (h2 j)
   ·simpa using hxc
  rw[this]
 ·rw[h1]
  have hi:l[i]?=qI c:=by simpa using(ng ⟨l.toArray⟩ c i).mp h2
  have:l.findIdx? (· == c)=qI i:=by
   obtain⟨ay,bZ⟩:=i6.mp hi;rw[List.findIdx?_eq_some_iff_getElem];refine⟨ay,by simp[bZ],λj hj=>?_⟩
   have eY:j<l.length:=pT hj ay;have hn:=h3 j hj;intro hc;have aW:l[j]=c:=by simpa using hc
   exact hn ((ng ⟨l.toArray⟩ c j).mpr (by simp[eY,aW]))
  rw[this]
def mIndex:V->List V->Hp->VK->Prop:=λx xs H Q=>match x,xs with |.str l,[.str t]=>findS l.cps.toList t.cps.toList ≠ -1/\Q (.int (findS l.cps.toList t.cps.toList)) H |_,_=>False
theorem ziT_:MtR X "str.index" mIndex:=by
 intro pins s σ H x xs v us Q I rx rv h;unfold mIndex at h;split at h
 ·rename_i l t
  obtain⟨k,rfl⟩:=rx;obtain⟨u,rfl,ru⟩:=rv.one;obtain⟨k',rfl⟩:=ru;have e:Txt.find l t=findS l.cps.toList t.cps.toList:=by unfold findS;rw[<- za9_,<- za9_]
  rw[<- e]at h;unfold Txt.find at h;cases ho:kQ l t 0 l.length 1 with
  |nil=>rw[ho]at h;exact absurd rfl h.1
  |cons i rest=>
   rw[ho]at h;exact SC.index ho ⟨.int _,H,I.tok _,⟨_,rfl⟩,h.2⟩
 ·exact h.elim
noncomputable def strsOf:List V->Option (List Str)
 |[]=>qI []
 |.str z::r=>(strsOf r).map (z::·)
 |_::_=>qJ
theorem zfh_ {vs:List V}{zs:List Str}:strsOf vs=qI zs->vs=zs.map V.str:=by
 induction vs generalizing zs with
 |nil=>intro h;cases h;rfl
 |cons v r ih=>
  intro h;cases v with
  |str z=>
   unfold strsOf at h;cases e:strsOf r with
   |none=>rw[e]at h;cases h
   |some y=>rw[e]at h;cases h;rw[ih e];rfl
  |_=>cases h
noncomputable def joinS (sep:List Nat)(zs:List Str):List Nat:=(Txt.join ⟨sep.toArray⟩ zs).cps.toList
def mJoin (K:Fgg):V->List V->Hp->VK->Prop:=λx xs H Q=>match x,xs with
 |.str l,[.ref D]=>∃vs,(SqL K H D vs)/\(match strsOf vs with |some zs=>JoinOk l zs=qK/\Q (tx (joinS l.cps.toList zs)) H |none=>False)
 |_,_=>False
theorem zbq_:∀{zs:List Str}{us:List fv},Vals (zs.map V.str) us->∃l:List (Str×Tok),us=strValues l/\l.map (·.1)=zs
 |[],us,r=>by cases r;exact⟨[],rfl,rfl⟩
 |z::zs,us,r=>by
  cases r with
  |cons r rr=>
   obtain⟨t,rfl⟩:=r;obtain⟨l,rfl,hl⟩:=zbq_ rr;exact⟨(z,t)::l,rfl,by rw[iN,hl]⟩
theorem zgN_ {K:Fgg}{x:V}{xs:List V}{H:Hp}{Q:VK}(h:mJoin K x xs H Q):∃l D,x=.str l/\xs=[.ref D]/\∃vs,(SqL K H D vs)/\(match strsOf vs with |some zs=>JoinOk l zs=qK/\Q (tx (joinS l.cps.toList zs)) H |none=>False):=by
 cases x with
 |str l=>
  rcases xs with _ |⟨y,_ |⟨z,t⟩⟩
  ·exact jL h
  ·cases y with
   |ref t=>exact⟨l,t,rfl,rfl,h⟩
   |_=>exact jL h
  ·cases y<;>exact jL h
 |_=>exact jL h
theorem zlb_:MtR X "str.join" (mJoin X.K):=by
 intro pins s σ H x xs v us Q I rx rv h;obtain⟨l,D,rfl,rfl,h⟩:=zgN_ h
 ·obtain⟨k,rfl⟩:=rx
  obtain⟨u,rfl,ru⟩:=rv.one;cases ru;obtain⟨vs,hs,h⟩:=h;cases ez:strsOf vs with
  |none=>rw[ez]at h;exact h.elim
  |some zs=>
   rw[ez]at h;have ev:=zfh_ ez;subst ev;obtain⟨its,r,p,hz⟩:=I.list hs;obtain⟨lz,e1,e2⟩:=zbq_ r;subst e1;refine SC.join p.isList e2 h.1 λt' k'=>⟨tx (joinS l.cps.toList zs),H,I.tok _,⟨t',?_⟩,h.2⟩
   unfold joinS;rw[<- za9_,<- za9_]
end
theorem zi2_ (zs:List Str):joinS [] zs=(zs.map λz=>z.cps.toList).flatten:=by
 unfold joinS Txt.join qF;cases zs with
 |nil=>rfl
 |cons z r=>
  show((r.foldl (λacc p=>acc++#[]++p.cps) z.cps)).toList=_
  have:∀(acc:Array Nat),(r.foldl (λacc p=>acc++#[]++p.cps) acc).toList=acc.toList++(r.map λz=>z.cps.toList).flatten:=by
   induction r with
   |nil=>intro acc;simp
   |cons y r ih=>intro acc;rw[l0,ih];simp
  rw[this];simp
def Gd (P:jr)(w:jH)(K:Fgg)(mg:Str->Option fv)(base:Heap)(CX:CXT)(k:Nat)(x:Str)(ps:List Str)(sp:Sp):Prop:=
 ∃f fd,FnOk P w K mg base CX k f fd ps sp/\mg x=qI (.ref f)/\lT K (.ref f)=qK/\Binds K fd ps []
def Gc (mg:Str->Option fv)(x:Str)(v:V):Prop:=∃u,mg x=qI u/\RelV v u
abbrev Gb (mg:Str->Option fv)(x:Str):Prop:=mg x=qJ
section
variable {X:Cx}{x:Str}{p pos:Pos}{e:i4}{es:List i4}{t:TA}{tg:i4}
theorem pe_gc {v:V}(h:Gc X.mg x v)(hg:Gl X x:=by rfl)(hd:(x==("__debug__":Str))=qL:=by decide):PE X (.Name x pos) (tC v):=by
 obtain⟨u,hm,r⟩:=h;exact zhD_ hg hm r hd
theorem pe_ty (T:String)(hm:Gb X.mg x)(hg:Gl X x:=by rfl)(hv:k9 x=qI (.type T):=by rfl)(hn:x ≠ "__name__":=by decide)(hd:(x==("__debug__":Str))=qL:=by decide):PE X (.Name x pos) (tC (.ty T)):=
 zke_ hg hm hv rfl hn hd
theorem znc_ {id:String}{r:List V->Hp->VK->Prop}(hc:CallR X (.builtin id) r)(hm:Gb X.mg x)(ha:PA X (e::es) t)(hg:Gl X x:=by rfl)(hv:k9 x=qI (.builtin id):=by rfl)(hn:x ≠ "__name__":=by decide)(aR:(x==("__debug__":Str))=qL:=by decide)
  (hs:jo (e::es) X.env=(qL,eval e X.env)::jo es X.env:=by rfl) (aI:(kz pos (jo es X.env)).any (·.1)=qL:=by rfl):PE X (.Call (.Name x p) (e::es) [] pos) (tCB r t):=
 zjk_ hc hg hm hv ha hn aR hs aI
theorem pe_sm {o:i4}{to:TE}{name:Str}{id:String}{r:V->List V->Hp->VK->Prop}{apos af:Pos}(slot:Slot "str" name id)(cV:typeOf (.builtin id)=pure (.type "method_descriptor"))(hm:MtR X id r)(ho:PE X o to)(ha:PA X (e::es) t)
  (h1:attributeBase o name X.env (eval o X.env)=eval o X.env:=by rfl) (h2:((((kz af (jo (e::es) X.env)).all λx=>!x.fst) && (mi af (lj [] X.env)).all λx=>x.fst.isSome) && decide (((e::es).length+([]:List Keyword).length+if([]:List Keyword).isEmpty=qK then 0 else 1)<30))=qK:=by rfl)
  (h3:(apos.endLine == af.line)=qK:=by rfl) (h4:jo (e::es) X.env=(qL,eval e X.env)::jo es X.env:=by rfl) (h5:((kz af (jo es X.env)).any λx=>x.fst)=qL:=by rfl):
  PE X (.Call (.Attribute o name apos) (e::es) [] af) (tBM X.K "str" r to t):=zjW_ PySem.F.plainAttrs_str slot cV hm ho ha h1 h2 h3 h4 h5
def iAny (K:Fgg)(tl:TE):TI:=λσ H R=>tl σ H λx H1=>match x with
 |.str z=>R (Itp z.cps.toList.length (λi=>tx [z.cps.toList.getD i 0])) H1
 |.ref a=>((∃xs,SqL K H1 a xs)/\R (Itl K a) H1)\/((∃xs,SqT K H1 a xs)/\R (Itt K a) H1)
 |_=>False
theorem znj_ (z:Str):sgn z=λi=>tx [z.cps.toList.getD i 0]:=by
 funext i;unfold sgn;simp[mV,jP]
theorem zo2_ {l:i4}{tl:TE}(hl:PE X l tl):PI X tg l (iAny X.K tl):=by
 intro pins s σ H R I h;refine thn (hl pins s σ H _ I h) λv s1 ae=>?_
 obtain⟨x,H1,I1,r1,q1⟩:=ae;have pt:∀(v:V),PE X l (tC v)->PE X l (tC v):=λ_ h=>h
 cases x with
 |str z=>
  obtain⟨t,rfl⟩:=r1;refine wpAny_pyIter_strU ?_;have q:R (Itp z.cps.size (sgn z)) H1:=by
   have e:z.cps.toList.length=z.cps.size:=by simp
   rw[znj_,<- e];exact q1
  refine⟨s1.heap.objs.size,[s1.heap.objs.size],_,_,H1,rfl,I1.kept (t':=s1.toks) λb o e=>iU _ e,zjB_ _ z t,⟨kJ _,⟨_,jj _ rfl,rfl,rfl⟩⟩,λb hb=>?_,q⟩
  have e:b=s1.heap.objs.size:=by simpa using hb
  subst e;exact I1.fpOk (iW _) (I1.hok.fresh (iW _))
 |ref a=>
  cases r1;rcases q1 with⟨⟨xs,hq⟩,q⟩|⟨⟨xs,hq⟩,q⟩
  ·obtain⟨its,rv,p,hz⟩:=I1.list hq
   refine wpAny_pyIter_list p.isList ?_;refine⟨s1.heap.objs.size,[s1.heap.objs.size],_,_,H1,rfl,I1.kept (t':=s1.toks) λb o e=>iU _ e,zgA_ a _,⟨_,jj _ rfl,rfl,rfl⟩,λb hb=>?_,q⟩
   have e:b=s1.heap.objs.size:=by simpa using hb
   subst e;exact I1.fpOk (iW _) (I1.hok.fresh (iW _))
  ·obtain⟨its,rv,p,hz⟩:=I1.tuple hq
   refine wpAny_pyIter_tuple (show s1.heap.IsTuple a its.toArray from p) ?_
   refine⟨s1.heap.objs.size,[s1.heap.objs.size],_,_,H1,rfl,I1.kept (t':=s1.toks) λb o e=>iU _ e,ze9_ a _,⟨_,jj _ rfl,rfl,rfl⟩,λb hb=>?_,q⟩
   have e:b=s1.heap.objs.size:=by simpa using hb
   subst e;exact I1.fpOk (iW _) (I1.hok.fresh (iW _))
 |_=>exact q1.elim
def mRng1 (ta:TA):TI:=λσ H R=>ta σ H λvs H1=>match vs with |[.int j] => -(2 ^ 62)<=j/\j<2 ^ 62/\R (Itr 0 j.toNat) H1 |_=>False
end
section
variable {X:Cx}{tg:i4}
theorem zjr_ {a:i4}{ta:TA}{p pos:Pos}(hm:Gb X.mg "range")(ha:PA X [a] ta)(hg:Gl X "range":=by rfl)(hs:jo [a] X.env=[(qL,eval a X.env)]:=by rfl):PI X tg (.Call (.Name "range" p) [a] [] pos) (mRng1 ta):=by
 intro pins s σ H R I h;refine Call_ (zgj_ I hg hm boot_range (mT (thn (ha pos pins s σ H _ I h) λus s1 ae=>?_) hs rfl))
 obtain⟨vs,H1,I1,r1,q1⟩:=ae
 try dsimp only at q1
 split at q1
 ·obtain⟨q2,q3,q⟩:=q1
  cases r1 with
  |cons r rr=>
   cases rr;obtain⟨t,rfl⟩:=r;exact call_range_1 (zie_ I1 (by lia) (by lia) q2 q3 (by simpa using q))
 ·exact q1.elim
def gNilM:TGs:=λvs σ H Q=>match vs with |[]=>Q σ H |_=>False
def gConsM (t:TG)(u:TGs):TGs:=λvs σ H Q=>match vs with |v::r=>t v σ H λab H'=>u r ab H' Q |[]=>False
theorem ziV_:PGs X [] gNilM:=by
 intro pins s σ H vs us Q I r h;cases vs with
 |nil=>exact zmR_ pins s σ H [] us Q I r ⟨rfl,h⟩
 |cons _ _=>exact h.elim
theorem zgT_ {e:i4}{es:List i4}{t:TG}{u:TGs}(h1:PG X e t)(h2:PGs X es u)
  (hs:(kE (e::es) X.env).map (·.2)=assign e X.env::(kE es X.env).map (·.2):=by rfl):PGs X (e::es) (gConsM t u):=by
 intro pins s σ H vs us Q I r h;cases vs with
 |nil=>exact h.elim
 |cons v vr=>exact zjI_ h1 h2 hs pins s σ H _ us Q I r ⟨v,vr,rfl,h⟩
def gTupM (K:Fgg)(n:Nat)(t:TGs):TG:=λv σ H Q=>match v with |.ref a=>∃xs,SqT K H a xs/\xs.length=n/\t xs σ H Q |_=>False
theorem zmH_ {es:List i4}{k:Nat}{t:TGs}{n:Nat}{pos:Pos}(hc:X.calm=qK)(h:PGs X es t)
  (hn:(kE es X.env).length=n:=by rfl) (bO:(kE es X.env).findIdx? (·.1)=qJ:=by rfl):PG X (.Tuple es k pos) (gTupM X.K n t):=by
 intro pins s σ H v u Q I r hw;cases v with
 |ref a=>
  obtain⟨xs,h1,h2,h3⟩:=hw;exact zoU_ hc h hn bO pins s σ H _ u Q I r ⟨a,xs,rfl,h1,h2,h3⟩
 |_=>exact hw.elim
end
theorem zax_ {H:Hp}{p:iQ}(h:H p=qJ)(o:HO):Same H (upd H p o):=λb u q=>by rw[zl_ (zan_ q h)];exact q
theorem zaB_ {n:Nat}(h:n<=100000):n<=iZ:=by rw[sizeLine_eq];lia
theorem zdD_ {zs:List Str}{sep:Str}(h:zs.length*(sep.length+1)<=100000)(h1:∀z∈zs,z.length<=1):JoinOk sep zs=qK:=by
 unfold JoinOk;have key:∀(l:List Str) (acc:Nat),(∀z∈l,z.length<=1)->l.foldl (λx1 x2=>x1+x2.length+sep.length) acc<=acc+l.length*(sep.length+1):=by
  intro l;induction l with
  |nil=>intro acc _;simp
  |cons z r ih=>
   intro acc hz;rw[l0];have h2:=ih (acc+z.length+sep.length) λy hy=>hz y (i7 _ hy)
   have h3:=hz z i5;rw[iR,Nat.add_mul];omega
 have q:=key zs 0 h1;rw[List.foldl_toArray];unfold oz;simp only[nh,decide_eq_false_iff_not];have:zs.foldl (λx1 x2=>x1+x2.length+sep.length) 0<=100000:=by omega
 have hl:(100000:Nat)<=iZ:=by rw[sizeLine_eq];omega
 omega
section
variable {X:Cx}
def mSet:TSet:=λo i v H Q=>match i with
 |.int k=>(match o with
  |.ref p=>∃xs,H p=qI (.lst xs)/\(match ixN xs.length k with |some j=>Q (upd H p (.lst (xs.set j v)))|none=>False)
  |_=>False)
 |_=>False
theorem set_M:PSet X mSet:=by
 intro pins s σ H o i v ov iv u Q I ro ri rv h;unfold mSet at h;cases i with
 |int k=>
  cases o with
  |ref p=>
   obtain⟨xs,h1,h⟩:=h;cases e:ixN xs.length k with
   |none=>rw[e]at h;exact h.elim
   |some j=>
    rw[e]at h;exact zjh_ pins s σ H _ _ v ov iv u Q I ro ri rv ⟨p,xs,k,j,rfl,rfl,h1,e,h⟩
  |_=>exact h.elim
 |_=>exact h.elim
variable {x:Str}{p pos:Pos}{e:i4}{es:List i4}{t:TA}
theorem zn6_ (T:String){r:List V->Hp->VK->Prop}(hc:CallR X (.type T) r)(hm:Gb X.mg x)(ha:PA X (e::es) t)(hg:Gl X x:=by rfl)(hv:k9 x=qI (.type T):=by rfl)(hn:x ≠ "__name__":=by decide)(aR:(x==("__debug__":Str))=qL:=by decide)
  (hs:jo (e::es) X.env=(qL,eval e X.env)::jo es X.env:=by rfl) (aI:(kz pos (jo es X.env)).any (·.1)=qL:=by rfl):PE X (.Call (.Name x p) (e::es) [] pos) (tCB r t):=
 zgP_ hc hg hm hv ha hn aR hs aI
end
def DAt (dx:iQ)(fs:List (Str×V))(h:Heap):Prop:=∃mA,h.Ns1 dx mA/\(∀f,RelO (fs.lookup f) (mA f))/\nK mA (fs.map (·.1))
abbrev XDO (dx:iQ)(fs:List (Str×V)):HO:=.ext (DAt dx fs)
section
end
def gA (K:Fgg)(x:Str):iQ:=match lq K jf x with |some (qI (.ref c))=>c |_=>0
theorem zlq_ {K:Fgg}{x:Str}{c:iQ}(h:lq K jf x=qI (qI (.ref c))):gA K x=c:=by unfold gA;rw[h]
section
end
end L2
namespace LX
open PySem PySem.W PySem.Calls PyProof.Rows Builtin Builtin.ObjectAttr Builtin.Getset_descriptor
section
end
end LX
namespace L2
open PySem PySem.Spec PyProof.Rows
section
variable {X:Cx}
noncomputable def intsV (lo hi:Int):List V:=(jw (hi-lo).toNat).map λ(i:Nat)=>V.int (lo+i)
def mList (K:Fgg):List V->Hp->VK->Prop:=λxs H Q=>match xs with
 | [.ref p]=>(∃ys,(SqL K H p ys\/SqT K H p ys)/\∀l,H l=qJ->Q (.ref l) (upd H l (.lst ys))) \/
   (∃lo hi,H p=qI (.rng lo hi)/\(-50000<=lo/\lo<=50000 /\ -50000<=hi/\hi<=50000)/\∀l,H l=qJ->Q (.ref l) (upd H l (.lst (intsV lo hi))))
 |_=>False
theorem ziB_ {lo:Int}:∀{n:Nat}{us:List fv},us.length=n->(∀(j:Nat) (v:fv),us[j]?=qI v->∃t,v=nv (lo+j) t)->Vals ((jw n).map λ(i:Nat)=>V.int (lo+i)) us
 |n,us,hl,h=>by
  refine paired_of (by rw[gf,jC,hl]) λj x u hx hu=>?_
  rw[iS]at hx;cases e:(jw n)[j]? with
  |none=>rw[e]at hx;cases hx
  |some i=>
   rw[e]at hx;cases hx;have:=i6.mp e;obtain⟨hj,ej⟩:=this;rw[m4]at ej;subst ej;exact h j u hu
 where paired_of:∀{xs:List V}{us:List fv},xs.length=us.length->(∀(j:Nat) x u,xs[j]?=qI x->us[j]?=qI u->RelV x u)->Vals xs us
 |[],[],_,_=>.nil
 |x::xs,u::us,hl,h=>.cons (h 0 x u rfl rfl) (paired_of (nS hl) λj x u a b=>h (j+1) x u a b)
theorem ze0_ (hc:X.calm=qK):CallR X (.type "list") (mList X.K):=by
 intro pins s σ H xs us Q I r h;have hv:∃p,xs=[.ref p]:=by
  rcases xs with _ |⟨y,_ |⟨z,t⟩⟩
  ·exact jL h
  ·cases y with
   |ref p=>exact⟨p,rfl⟩
   |_=>exact jL h
  ·cases y<;>exact jL h
 obtain⟨p,rfl⟩:=hv
 ·rcases h with⟨ys,hq,q⟩|⟨lo,hi,hp,⟨h1,h2,h3,h4⟩,q⟩
  ·exact zdQ_ pins s σ H _ us Q I r ⟨p,ys,rfl,hq,q⟩
  ·obtain⟨u,rfl,rx⟩:=vals1 r
   cases rx;obtain⟨t,u,v,e⟩:=I.hok p _ hp;have hn:ny lo hi 1=(((hi-lo).toNat:Nat):Int):=by rw[rangeSize_one];split<;>lia
   refine call_list_range (I.ok.hd hc) e (small_one (by lia) (by lia) (by lia) (by lia)) hn (by lia) λh' tk acc c' kp e' ae=>?_
   obtain⟨hs,eZ⟩:=ae;refine⟨.ref s.heap.objs.size,_,I.laid (o:=.lst (intsV lo hi)) (t':=tk) kp (iW _) ?_,rfl,q _ (I.hok.fresh (iW _))⟩;refine⟨?_,acc.toList,c',ziB_ (by simpa using hs) (λj v hv=>?_),by simpa using e'⟩
   ·unfold intsV;rw[gf,jC];exact zaB_ (by lia)
   ·obtain⟨t,ht⟩:=eZ j v (by simpa using hv)
    exact⟨t,by rw[ht];simp⟩
end
inductive EqD (K:Fgg) (H:Hp):Nat->V->V->Bool->Prop
 |flat {x y:V}(hx:flatV x=qK) (hy:flatV y=qK):EqD K H 0 x y (eqV x y)
 |lst {n:Nat}{p q:iQ}{xs ys:List V}(e:Nat->Bool) (hp:SqL K H p xs) (hq:SqL K H q ys) (hl:xs.length=ys.length) (h:∀(i:Nat) x y,xs[i]?=qI x->ys[i]?=qI y->EqD K H n x y (e i)):EqD K H (n+1) (.ref p) (.ref q) ((jw xs.length).all e)
 |lstN {n:Nat}{p q:iQ}{xs ys:List V}(hp:SqL K H p xs) (hq:SqL K H q ys) (hl:xs.length≠ys.length):EqD K H n (.ref p) (.ref q) qL
 |tup {n:Nat}{p q:iQ}{xs ys:List V}(e:Nat->Bool) (hp:SqT K H p xs) (hq:SqT K H q ys) (h:∀(i:Nat) x y,xs[i]?=qI x->ys[i]?=qI y->EqD K H n x y (e i)):EqD K H (n+1) (.ref p) (.ref q) ((jw (min xs.length ys.length)).all e && xs.length == ys.length)
 |lt {n:Nat}{p q:iQ}{xs ys:List V}(hp:SqL K H p xs) (hq:SqT K H q ys):EqD K H n (.ref p) (.ref q) qL
 |tl {n:Nat}{p q:iQ}{xs ys:List V}(hp:SqT K H p xs) (hq:SqL K H q ys):EqD K H n (.ref p) (.ref q) qL
 |lf {n:Nat}{p:iQ}{xs:List V}{y:V}(hp:SqL K H p xs) (hy:flatV y=qK):EqD K H n (.ref p) y qL
 |fl {n:Nat}{p:iQ}{xs:List V}{y:V}(hp:SqL K H p xs) (hy:flatV y=qK):EqD K H n y (.ref p) qL
 |tf {n:Nat}{p:iQ}{xs:List V}{y:V}(hp:SqT K H p xs) (hy:flatV y=qK):EqD K H n (.ref p) y qL
 |ft {n:Nat}{p:iQ}{xs:List V}{y:V}(hp:SqT K H p xs) (hy:flatV y=qK):EqD K H n y (.ref p) qL
 |up {n:Nat}{x y:V}{b:Bool}(h:EqD K H n x y b):EqD K H (n+1) x y b
section
variable {X:Cx}{pins:Pnn}{σ:St}{H:Hp}{s:iM}
theorem zbJ_ {xs:List V}{us:List fv}(r:Vals xs us){i:Nat}(h:i<us.toArray.size):∃x,xs[i]?=qI x/\RelV x us.toArray[i]:=by
 have hi:i<us.length:=by simpa using h
 have hl:=r.length;obtain⟨u,hu,ru⟩:=r.get (iL (show i<xs.length by lia))
 refine⟨_,iL (by lia),?_⟩
 rw[iL hi]at hu;cases hu
 simpa using ru
theorem zfZ_ (I:Inv X pins σ H s){n:Nat}{x y:V}{b:Bool}(h:EqD X.K H n x y b):x=y->b=qK:=by
 induction h with
 |flat hx hy=>
  rename_i x y
  rintro rfl;cases x<;>first |(cases hx;done)|(simp[eqV];done)|rfl
 |lst e hp hq hl h ih=>
  rename_i n p q xs ys
  intro e0;cases e0;have b9:=I.list_inj hp hq;subst b9;rw[km];intro i hi;have hi:=ko.mp hi;exact ih i _ _ (iL hi) (iL hi) rfl
 |lstN hp hq hl=>
  intro e0;cases e0;exact absurd (by rw[I.list_inj hp hq]) hl
 |tup e hp hq h ih=>
  rename_i n p q xs ys
  intro e0;cases e0;have b9:=I.tuple_inj hp hq;subst b9;rw[bR,km];refine⟨?_,by simp⟩
  intro i hi;have hi:=ko.mp hi;have hi:i<xs.length:=by lia
  exact ih i _ _ (iL hi) (iL hi) rfl
 |lt hp hq=>
  intro e0;cases e0;obtain⟨its,r1,p1,z1⟩:=I.list hp;obtain⟨ai,r2,p2,z2⟩:=I.tuple hq;exact absurd rfl (nT p1.isList p2)
 |tl hp hq=>
  intro e0;cases e0;obtain⟨its,r1,p1,z1⟩:=I.tuple hp;obtain⟨ai,r2,p2,z2⟩:=I.list hq;exact absurd rfl (nT p2.isList p1)
 |lf hp hy=>rintro rfl;cases hy
 |fl hp hy=>rintro rfl;cases hy
 |tf hp hy=>rintro rfl;cases hy
 |ft hp hy=>rintro rfl;cases hy
 |up h ih=>exact ih
theorem zdk_ (I:Inv X pins σ H s){n:Nat}{x y:V}{b:Bool}(h:EqD X.K H n x y b):∀(A:j3) (v u:fv),A.units+n<cLine->RelV x v->RelV y u ->
  pq A s v u b/\(∀p q,x=.ref p->y=.ref q->lW A s v u b):=by
 induction h with
 |flat hx hy=>
  intro A v u _ rx ry;refine⟨zlc_ rx ry hx hy,λp q e _=>?_⟩
  subst e;cases hx
 |lst e hp hq hl h ih=>
  rename_i n p q xs ys
  intro A v u hu rx ry;cases rx;cases ry;obtain⟨its,r1,p1,z1⟩:=I.list hp;obtain⟨ai,r2,p2,z2⟩:=I.list hq;have l1:=r1.length;have l2:=r2.length;have rc:lW A s (.ref p) (.ref q) ((jw xs.length).all e):=by
   have:=SeqAt.RcAt.lists (A:=A) (e:=e) p1.isList p2.isList (by simp only[iO];lia) (by lia) (λj h1 h2=>by
    obtain⟨x,ex,rx⟩:=zbJ_ r1 h1;obtain⟨y,ey,ry⟩:=zbJ_ r2 h2;exact(ih j x y ex ey A.in1 _ _ (by show A.units+1+n<_;lia) rx ry).1)
   rw[iO,<- l1]at this;exact this
  refine⟨?_,λ_ _ _ _=>rc⟩
  by_cases hpq:p=q
  ·subst hpq
   have b9:=I.list_inj hp hq;subst b9;have:(jw xs.length).all e=qK:=by
    rw[km];intro i hi;have hi:=ko.mp hi;exact zfZ_ I (h i _ _ (iL hi) (iL hi)) rfl
   rw[this];exact nY _
  ·exact .of_refs hpq rc
 |lstN hp hq hl=>
  rename_i n p q xs ys
  intro A v u hu rx ry;cases rx;cases ry;obtain⟨its,r1,p1,z1⟩:=I.list hp;obtain⟨ai,r2,p2,z2⟩:=I.list hq;have l1:=r1.length;have l2:=r2.length;have rc:lW A s (.ref p) (.ref q) qL:=SeqAt.RcAt.lists_lengths p1.isList p2.isList (by simp only[iO,bne_iff_ne,ne_eq];lia) (by lia)
  refine⟨.of_refs (λe=>?_) rc,λ_ _ _ _=>rc⟩
  subst e;exact hl (by rw[I.list_inj hp hq])
 |tup e hp hq h ih=>
  rename_i n p q xs ys
  intro A v u hu rx ry;cases rx;cases ry;obtain⟨its,r1,p1,z1⟩:=I.tuple hp;obtain⟨ai,r2,p2,z2⟩:=I.tuple hq;have l1:=r1.length;have l2:=r2.length;have rc:lW A s (.ref p) (.ref q) ((jw (min xs.length ys.length)).all e && xs.length == ys.length):=by
   have:=SeqAt.RcAt.tuples (A:=A) (e:=e) (show s.heap.IsTuple p its.toArray from p1) (show s.heap.IsTuple q ai.toArray from p2) (by lia) (λj h1 h2=>by
    obtain⟨x,ex,rx⟩:=zbJ_ r1 h1;obtain⟨y,ey,ry⟩:=zbJ_ r2 h2;exact(ih j x y ex ey A.in1 _ _ (by show A.units+1+n<_;lia) rx ry).1)
   rw[iO,iO,<- l1,<- l2]at this;exact this
  refine⟨?_,λ_ _ _ _=>rc⟩
  by_cases hpq:p=q
  ·subst hpq
   have b9:=I.tuple_inj hp hq;subst b9;have:((jw (min xs.length xs.length)).all e && xs.length == xs.length)=qK:=by
    rw[bR,km];refine⟨?_,by simp⟩
    intro i hi;have hi:=ko.mp hi;have hi:i<xs.length:=by lia
    exact zfZ_ I (h i _ _ (iL hi) (iL hi)) rfl
   rw[this];exact nY _
  ·exact .of_refs hpq rc
 |lt hp hq=>
  intro A v u hu rx ry;cases rx;cases ry;obtain⟨its,r1,p1,z1⟩:=I.list hp;obtain⟨ai,r2,p2,z2⟩:=I.tuple hq;exact⟨.list_tuple p1.isList p2 (by lia),λ_ _ _ _=>.list_tuple p1.isList p2 (by lia)⟩
 |tl hp hq=>
  intro A v u hu rx ry;cases rx;cases ry;obtain⟨its,r1,p1,z1⟩:=I.tuple hp;obtain⟨ai,r2,p2,z2⟩:=I.list hq;exact⟨.tuple_list p1 p2.isList (by lia),λ_ _ _ _=>.tuple_list p1 p2.isList (by lia)⟩
 |lf hp hy=>
  rename_i n p xs y
  intro A v u hu rx ry;cases rx;obtain⟨its,r1,p1,z1⟩:=I.list hp;refine⟨?_,λ_ _ _ e=>by subst e;cases hy⟩
  cases y with
  |non=>cases ry;exact .list_none p1.isList (by lia)
  |bl b=>cases ry;exact .list_bool b p1.isList (by lia)
  |int b=>obtain⟨t,rfl⟩:=ry;exact .list_int b t p1.isList (by lia)
  |str b=>obtain⟨t,rfl⟩:=ry;exact .list_str b t p1.isList (by lia)
  |_=>cases hy
 |fl hp hy=>
  rename_i n p xs y
  intro A v u hu rx ry;cases ry;obtain⟨its,r1,p1,z1⟩:=I.list hp;refine⟨?_,λ_ _ e _=>by subst e;cases hy⟩
  cases y with
  |non=>cases rx;exact .none_list p1.isList (by lia)
  |bl b=>cases rx;exact .bool_list b p1.isList (by lia)
  |int b=>obtain⟨t,rfl⟩:=rx;exact .int_list b t p1.isList (by lia)
  |str b=>obtain⟨t,rfl⟩:=rx;exact .str_list b t p1.isList (by lia)
  |_=>cases hy
 |tf hp hy=>
  rename_i n p xs y
  intro A v u hu rx ry;cases rx;obtain⟨its,r1,p1,z1⟩:=I.tuple hp;refine⟨?_,λ_ _ _ e=>by subst e;cases hy⟩
  cases y with
  |non=>cases ry;exact .tuple_none p1 (by lia)
  |bl b=>cases ry;exact .tuple_bool b p1 (by lia)
  |int b=>obtain⟨t,rfl⟩:=ry;exact .tuple_int b t p1 (by lia)
  |str b=>obtain⟨t,rfl⟩:=ry;exact .tuple_str b t p1 (by lia)
  |_=>cases hy
 |ft hp hy=>
  rename_i n p xs y
  intro A v u hu rx ry;cases ry;obtain⟨its,r1,p1,z1⟩:=I.tuple hp;refine⟨?_,λ_ _ e _=>by subst e;cases hy⟩
  cases y with
  |non=>cases rx;exact .none_tuple p1 (by lia)
  |bl b=>cases rx;exact .bool_tuple b p1 (by lia)
  |int b=>obtain⟨t,rfl⟩:=rx;exact .int_tuple b t p1 (by lia)
  |str b=>obtain⟨t,rfl⟩:=rx;exact .str_tuple b t p1 (by lia)
  |_=>cases hy
 |up h ih=>
  intro A v u hu rx ry;exact ih A v u (by lia) rx ry
theorem zf4_ (I:Inv X pins σ H s){n:Nat}{x y:V}{b:Bool}(h:EqD X.K H n x y b):∀(A:j3) (v u:fv),A.units+n<cLine->RelV x v->RelV y u->∀p q,x=.ref p->y=.ref q->l8 A s v u (!b):=by
 induction h with
 |flat hx hy=>intro A v u _ rx ry p q e _;subst e;cases hx
 |lst e hp hq hl h ih=>
  rename_i n p q xs ys
  intro A v u hu rx ry _ _ _ _;cases rx;cases ry;obtain⟨its,r1,p1,z1⟩:=I.list hp;obtain⟨ai,r2,p2,z2⟩:=I.list hq;have l1:=r1.length;have l2:=r2.length;have:=qC (A:=A) (e:=e) p1.isList p2.isList (by simp only[iO];lia) (by lia) (λj h1 h2=>by
   obtain⟨x,ex,rx⟩:=zbJ_ r1 h1;obtain⟨y,ey,ry⟩:=zbJ_ r2 h2;exact(zdk_ I (h j x y ex ey) A.in1 _ _ (by show A.units+1+n<_;lia) rx ry).1)
  rw[iO,<- l1]at this;exact this
 |lstN hp hq hl=>
  intro A v u hu rx ry _ _ _ _;cases rx;cases ry;obtain⟨its,r1,p1,z1⟩:=I.list hp;obtain⟨ai,r2,p2,z2⟩:=I.list hq;have l1:=r1.length;have l2:=r2.length;exact pv p1.isList p2.isList (by simp only[iO,bne_iff_ne,ne_eq];lia) (by lia)
 |tup e hp hq h ih=>
  rename_i n p q xs ys
  intro A v u hu rx ry _ _ _ _;cases rx;cases ry;obtain⟨its,r1,p1,z1⟩:=I.tuple hp;obtain⟨ai,r2,p2,z2⟩:=I.tuple hq;have l1:=r1.length;have l2:=r2.length;have:=qA (A:=A) (e:=e) (show s.heap.IsTuple p its.toArray from p1) (show s.heap.IsTuple q ai.toArray from p2) (by lia) (λj h1 h2=>by
   obtain⟨x,ex,rx⟩:=zbJ_ r1 h1;obtain⟨y,ey,ry⟩:=zbJ_ r2 h2;exact(zdk_ I (h j x y ex ey) A.in1 _ _ (by show A.units+1+n<_;lia) rx ry).1)
  rw[iO,iO,<- l1,<- l2]at this;exact this
 |lt hp hq=>
  intro A v u hu rx ry _ _ _ _;cases rx;cases ry;obtain⟨its,r1,p1,z1⟩:=I.list hp;obtain⟨ai,r2,p2,z2⟩:=I.tuple hq;exact .list_tuple p1.isList p2 (by lia)
 |tl hp hq=>
  intro A v u hu rx ry _ _ _ _;cases rx;cases ry;obtain⟨its,r1,p1,z1⟩:=I.tuple hp;obtain⟨ai,r2,p2,z2⟩:=I.list hq;exact .tuple_list p1 p2.isList (by lia)
 |lf hp hy=>intro A v u hu rx ry _ _ _ e;subst e;cases hy
 |fl hp hy=>intro A v u hu rx ry _ _ e _;subst e;cases hy
 |tf hp hy=>intro A v u hu rx ry _ _ _ e;subst e;cases hy
 |ft hp hy=>intro A v u hu rx ry _ _ e _;subst e;cases hy
 |up h ih=>intro A v u hu rx ry;exact ih A v u (by lia) rx ry
end
end L2
namespace LX
open PySem Builtin Builtin.Str
section
end
end LX
namespace L2
open PySem PySem.Spec PyProof.Rows
section
end
section
variable {κ:Type}[DecidableEq κ]
noncomputable def valV (kvs:List (κ×V))(k:κ):Option V:=(kvs.find? λkv=>decide (kv.1=k)).map (·.2)
noncomputable def putK (kvs:List (κ×V))(k:κ)(v:V):List (κ×V):=
 if(kvs.any λkv=>decide (kv.1=k))=qK then kvs.map (λkv=>if kv.1=k then(kv.1,v)else kv)else kvs++[(k,v)]
theorem zdx_ {p:κ×V}{r:List (κ×V)}{k:κ}(e:p.1=k):valV (p::r) k=qI p.2:=by simp[valV,kx,e]
theorem zdp_ {p:κ×V}{r:List (κ×V)}{k:κ}(e:¬p.1=k):valV (p::r) k=valV r k:=by simp[valV,kx,e]
theorem zfa_ (k:κ):∀kvs:List (κ×V),(kvs.any λkv=>decide (kv.1=k))=(valV kvs k).isSome
 |[]=>rfl
 |p::r=>by
  rw[ml];by_cases e:p.1=k
  ·simp only[zdx_ e,decide_eq_true e,Bool.true_or,Option.isSome_some]
  ·rw[zdp_ e,decide_eq_false e,pD];exact zfa_ k r
theorem zbF_ (kvs:List (κ×V))(k:κ)(v:V):(putK kvs k v).length<=kvs.length+1:=by
 unfold putK;split
 ·rw[gf];lia
 ·rw[iP,iR,nZ];lia
theorem RelO.isSome_eq {o:Option V}{u:Option fv}(r:RelO o u):o.isSome=u.isSome:=by
 cases o with
 |none=>cases u with
  |none=>rfl
  |some _=>exact(show False from r).elim
 |some _=>cases u with
  |none=>exact(show False from r).elim
  |some _=>rfl
theorem RelO.getD {o:Option V}{u:Option fv}{d:V}{d':fv}(r:RelO o u)(rd:RelV d d'):RelV (o.getD d) (u.getD d'):=by
 cases o with
 |none=>cases u with
  |none=>exact rd
  |some _=>exact(show False from r).elim
 |some _=>cases u with
  |none=>exact(show False from r).elim
  |some _=>exact r
theorem KV.val {kvs:List (κ×V)}{vs:List (κ×fv)}(r:KV kvs vs)(k:κ):RelO (valV kvs k) (valueAt vs k):=by
 unfold KV at r;induction r with
 |nil=>exact ke
 | @cons p q ps qs h t ih=>
  obtain⟨h1,h2⟩:=h;by_cases e:p.1=k
  ·have e':q.1=k:=h1.symm.trans e
   have b:valueAt (q::qs) k=qI q.2:=by simp[valueAt,kx,e']
   rw[zdx_ e,b];exact h2
  ·have e':¬q.1=k:=λz=>e (h1.trans z)
   have b:valueAt (q::qs) k=valueAt qs k:=by simp[valueAt,kx,e']
   rw[zdp_ e,b];exact ih
theorem KV.any {kvs:List (κ×V)}{vs:List (κ×fv)}(r:KV kvs vs)(k:κ):(kvs.any λkv=>decide (kv.1=k))=vs.any λkv=>decide (kv.1=k):=by
 unfold KV at r;induction r with
 |nil=>rfl
 |cons h t ih=>rw[ml,ml,ih,h.1]
theorem KV.repl {kvs:List (κ×V)}{vs:List (κ×fv)}(r:KV kvs vs)(k:κ){y:V}{u:fv}(ry:RelV y u):
  KV (kvs.map λkv=>if kv.1=k then(kv.1,y)else kv) (vs.map λkv=>if kv.1=k then(kv.1,u)else kv):=by
 unfold KV at r ⊢;induction r with
 |nil=>exact .nil
 | @cons p q ps qs h t ih=>
  rw[iN,iN];refine .cons ?_ ih;obtain⟨h1,h2⟩:=h;by_cases e:p.1=k
  ·rw[if_pos e,if_pos (h1.symm.trans e)];exact⟨h1,ry⟩
  ·rw[if_neg e,if_neg (λz=>e (h1.trans z))];exact⟨h1,h2⟩
theorem KV.put {kvs:List (κ×V)}{vs:List (κ×fv)}(r:KV kvs vs)(k:κ){y:V}{u:fv}(ry:RelV y u):KV (putK kvs k y) (stored vs k u):=by
 unfold putK stored;rw[r.any k];by_cases e:(vs.any λkv=>decide (kv.1=k))=qK
 ·rw[if_pos e,if_pos e];exact r.repl k ry
 ·rw[if_neg e,if_neg e];exact Paired.snoc r ⟨rfl,ry⟩
theorem KV.length {kvs:List (κ×V)}{vs:List (κ×fv)}(r:KV kvs vs):kvs.length=vs.length:=Paired.length r
end
theorem ziu_ {P:jr}{w:jH}{k:Key}{u:fv}(r:RelV (kV k) u):(mixKind P w).is k u=qK:=by
 cases k with
 |inl i=>obtain⟨t,e⟩:=(show∃t,u=nv i t from r);subst e;exact zeH_ P w i t
 |inr x=>obtain⟨t,e⟩:=(show∃t,u=mx x t from r);subst e;exact zeA_ P w x t
theorem zeh_ {P:jr}{w:jH}:∀{ks:List Key}{us:List fv},Vals (ks.map kV) us->ItemsAre (mixKind P w) ks us
 |[],_,r=>by rw[jM]at r;cases r;exact .nil
 |k::ks,_,r=>by
  rw[iN]at r;cases r with
  |cons h t=>exact .cons (ziu_ h) (zeh_ t)
abbrev KT (H:Hp):List (List Key×V)->List (List Key×iQ×fv)->Prop:=Paired λp q=>p.1=q.1/\H q.2.1=qI (.tup (p.1.map kV))/\RelV p.2 q.2.2
theorem KT.val {H:Hp}{kvs:List (List Key×V)}{xs:List (List Key×iQ×fv)}(r:KT H kvs xs)(k:List Key):RelO (valV kvs k) ((atKey xs k).map (·.2)):=by
 induction r with
 |nil=>exact ke
 | @cons p q ps qs h t ih=>
  obtain⟨h1,_,h2⟩:=h;by_cases e:p.1=k
  ·have e':q.1=k:=h1.symm.trans e
   have b:atKey (q::qs) k=qI q.2:=by simp[atKey,kx,e']
   rw[zdx_ e,b];exact h2
  ·have e':¬q.1=k:=λz=>e (h1.trans z)
   have b:atKey (q::qs) k=atKey qs k:=by simp[atKey,kx,e']
   rw[zdp_ e,b];exact ih
theorem KT.repl {H:Hp}{kvs:List (List Key×V)}{xs:List (List Key×iQ×fv)}(r:KT H kvs xs)(k:List Key){y:V}{u:fv}(ry:RelV y u):
  KT H (kvs.map λkv=>if kv.1=k then(kv.1,y)else kv) (xs.map (putAt k u)):=by
 induction r with
 |nil=>exact .nil
 | @cons p q ps qs h t ih=>
  rw[iN,iN];refine .cons ?_ ih;obtain⟨h1,h2,h3⟩:=h;unfold putAt;by_cases e:p.1=k
  ·rw[if_pos e,if_pos (h1.symm.trans e)];exact⟨h1,h2,ry⟩
  ·rw[if_neg e,if_neg (λz=>e (h1.trans z))];exact⟨h1,h2,h3⟩
theorem KT.put {H:Hp}{kvs:List (List Key×V)}{xs:List (List Key×iQ×fv)}(r:KT H kvs xs)(k:List Key){b:iQ}{y:V}{u:fv}(hb:H b=qI (.tup (k.map kV)))(ry:RelV y u):
  KT H (putK kvs k y) (storedH xs k b u):=by
 have e:(kvs.any λkv=>decide (kv.1=k))=(atKey xs k).isSome:=by
  rw[zfa_,(r.val k).isSome_eq,mB]
 unfold putK storedH;rw[e];by_cases q:(atKey xs k).isSome=qK
 ·rw[if_pos q,if_pos q];exact r.repl k ry
 ·rw[if_neg q,if_neg q];exact Paired.snoc r ⟨rfl,hb,ry⟩
theorem KT.keeps {H H':Hp}{kvs:List (List Key×V)}{xs:List (List Key×iQ×fv)}(r:KT H kvs xs)(ht:∀b ys,H b=qI (.tup ys)->H' b=qI (.tup ys)):KT H' kvs xs:=
 Paired.mapP r λ_ _ z=>⟨z.1,ht _ _ z.2.1,z.2.2⟩
section
variable {P:jr}{w:jH}{H:Hp}{h:Heap}{a:iQ}
theorem rd_of {u:HO}(ok:HOk P w H h)(e:Rd H a u):ObjOk P w H h a u:=e.ok ok
theorem zeg_ {kvs:List (Key×V)}(ok:HOk P w H h)(e:Rd H a (.dK kvs)):kvs.length<=iZ/\(a == sysModules)=qL/\∃vs,KV kvs vs/\h.DictOf (mixKind P w) a vs:=
 show ObjOk P w H h a (.dK kvs)from rd_of ok e
theorem zpv_ {kvs:List (Key×V)}(ok:HOk P w H h)(e:H a=qI (.dK kvs)):kvs.length<=iZ/\(a == sysModules)=qL/\∃vs,KV kvs vs/\h.DictOf (mixKind P w) a vs:=zeg_ ok (.inl e)
theorem zex_ {ks:List Key}(ok:HOk P w H h)(e:H a=qI (.tup (ks.map kV))):(tupleKind (mixKind P w)).is h ks a:=by
 obtain⟨_,its,r,o,h1,h2,n,h3⟩:=(show ObjOk P w H h a (.tup (ks.map kV))from ok a _ e)
 exact⟨o,its.toArray,n,h1,h2,h3,by simpa using zeh_ r⟩
theorem zi7_ {kvs:List (List Key×V)}(ok:HOk P w H h)(e:Rd H a (.dT kvs)):kvs.length<=iZ/\(a == sysModules)=qL /\
  ∃xs,KT H kvs xs/\h.DictOfH (tupleKind (mixKind P w)) a xs:=by
 obtain⟨z,y,xs,r,o,es,ep,h1,h2,h3,h4,h5⟩:=(show ObjOk P w H h a (.dT kvs)from rd_of ok e)
 refine⟨z,y,xs,r,o,es,ep,h1,h2,h3,h4,λx hx=>?_,h5⟩
 have all:∀{l:List (List Key×V)}{m:List (List Key×iQ×fv)},KT H l m->∀x∈m,(tupleKind (mixKind P w)).is h x.1 x.2.1:=by
  intro l m q;induction q with
  |nil=>intro x hx;exact nomatch hx
  | @cons p q ps qs hq t ih=>
   intro x hx;rcases ju.mp hx with e |hx
   ·subst e
    exact zex_ ok (by rw[<- hq.1];exact hq.2.1)
   ·exact ih x hx
 exact all r x hx
theorem dt_of {kvs:List (List Key×V)}(ok:HOk P w H h)(e:H a=qI (.dT kvs)):kvs.length<=iZ/\(a == sysModules)=qL /\
  ∃xs,KT H kvs xs/\h.DictOfH (tupleKind (mixKind P w)) a xs:=zi7_ ok (.inl e)
end
def DGet (H:Hp)(a:iQ)(y:V)(r:Option V):Prop:=
 (∃kvs k,Rd H a (.dK kvs)/\y=kV k/\r=valV kvs k)\/∃kvs k b,Rd H a (.dT kvs)/\y=.ref b/\H b=qI (.tup (k.map kV))/\r=valV kvs k
def DPut (H:Hp)(a:iQ)(y v:V)(H':Hp):Prop:=
 (∃kvs k,H a=qI (.dK kvs)/\y=kV k/\kvs.length<iZ/\H'=upd H a (.dK (putK kvs k v))) \/
 ∃kvs k b,H a=qI (.dT kvs)/\y=.ref b/\H b=qI (.tup (k.map kV))/\kvs.length<iZ/\H'=upd H a (.dT (putK kvs k v))
theorem DPut.k {H:Hp}{a:iQ}{kvs:List (Key×V)}{k:Key}{v:V}(e:H a=qI (.dK kvs))(hl:kvs.length<iZ):DPut H a (kV k) v (upd H a (.dK (putK kvs k v))):=.inl ⟨kvs,k,e,rfl,hl,rfl⟩
section
variable {X:Cx}{pins:Pnn}{σ:St}{H:Hp}{s:iM}{a:iQ}{y v:V}{u r:fv}{o:Option V}{A:j3}{E:fv->iM->Prop}
theorem Inv.big (I:Inv X pins σ H s):sysModules<s.heap.objs.size:=by
 have h:jf<s.heap.objs.size:=(I.mod.glob.keeps I.bk).lt;exact pT (by decide) h
theorem zgr_ {Q:fv->iM->Prop}(hu:A.units+1<cLine)(I:Inv X pins σ H s)(g:DGet H a y (qI v))(ry:RelV y u)(h:∀w' s',Inv X pins σ H s'->RelV v w'->Q w' s'):
  jq (model X.prog X.w) A (getItem (.ref a) u) Q E s:=by
 rcases g with⟨kvs,k,e,ey,l⟩|⟨kvs,k,b,e,ey,eb,l⟩
 ·subst ey
  obtain⟨z,hd,vs,rel,dd⟩:=zeg_ I.hok e;obtain⟨w',hw,aY⟩:=RelO.some_of (v:=v) (o:=valueAt vs k) (by rw[l];exact rel.val k)
  exact wpAny_getItem_of (ziu_ ry) dd.mapOf hw (h w' _ (I.tok _) aY)
 ·subst ey
  cases(show u=jK b from ry)
  obtain⟨z,hd,xs,rel,dd⟩:=zi7_ I.hok e;obtain⟨w',hw,aY⟩:=RelO.some_of (v:=v) (o:=(atKey xs k).map (·.2)) (by rw[l];exact rel.val k)
  obtain⟨p,hp,cZ⟩:=iV.mp hw;refine wpAny_getItem_heap (tupleKind_room_in1 hu) (zex_ I.hok eb) dd hp ?_;rw[cZ];exact h w' _ (I.tok _) aY
theorem d_in {Q:fv->iM->Prop}(hu:A.units+1<cLine)(I:Inv X pins σ H s)(g:DGet H a y o)(ry:RelV y u)(h:∀s',Inv X pins σ H s'->Q (.bool o.isSome) s'):
  jq (model X.prog X.w) A (jG .In u (.ref a)) Q E s:=by
 rcases g with⟨kvs,k,e,ey,l⟩|⟨kvs,k,b,e,ey,eb,l⟩
 ·subst ey
  obtain⟨z,hd,vs,rel,dd⟩:=zeg_ I.hok e;refine wpAny_in_of (ziu_ ry) hd dd.mapOf ?_;rw[<- (rel.val k).isSome_eq,<- l];exact h _ (I.tok _)
 ·subst ey
  cases(show u=jK b from ry)
  obtain⟨z,hd,xs,rel,dd⟩:=zi7_ I.hok e;refine wpAny_in_heap (tupleKind_room_in1 hu) (zex_ I.hok eb) hd dd ?_;have q:=(rel.val k).isSome_eq;rw[mB]at q;rw[<- q,<- l];exact h _ (I.tok _)
theorem zmM_ {Q:fv->iM->Prop}(hu:A.units+1<cLine)(I:Inv X pins σ H s)(g:DGet H a y o)(ry:RelV y u)(h:∀s',Inv X pins σ H s'->Q (.bool (!o.isSome)) s'):
  jq (model X.prog X.w) A (jG .NotIn u (.ref a)) Q E s:=by
 rcases g with⟨kvs,k,e,ey,l⟩|⟨kvs,k,b,e,ey,eb,l⟩
 ·subst ey
  obtain⟨z,hd,vs,rel,dd⟩:=zeg_ I.hok e;refine wpAny_notIn_of (ziu_ ry) hd dd.mapOf ?_;rw[<- (rel.val k).isSome_eq,<- l];exact h _ (I.tok _)
 ·subst ey
  cases(show u=jK b from ry)
  obtain⟨z,hd,xs,rel,dd⟩:=zi7_ I.hok e;refine wpAny_notIn_heap (tupleKind_room_in1 hu) (zex_ I.hok eb) hd dd ?_;have q:=(rel.val k).isSome_eq;rw[mB]at q;rw[<- q,<- l];exact h _ (I.tok _)
theorem zfL_ {h':Heap}{t':Nat}{ob:HO}(I:Inv X pins σ H s)(mu:Mut (H a))(hs:mQ a s.heap h')(he:∃q,h'.get? a=qI q)(new:ObjOk X.prog X.w (upd H a ob) h' a ob):
  Inv X pins σ (upd H a ob) {s with heap:=h',toks:=t'}:=
 I.write (x:=a) (e:=a) mu (.inl rfl) (λb q hb z=>(hs.2 b hb).trans z) he new
theorem zk4_ {P:jr}{w:jH}{H':Hp}{h':Heap}{kvs:List (Key×V)}{vs:List (Key×fv)}(z:kvs.length<=iZ)(hd:(a == sysModules)=qL)(rel:KV kvs vs)(dd:h'.DictOf (mixKind P w) a vs):
  ObjOk P w H' h' a (.dK kvs):=⟨z,hd,vs,rel,dd⟩
theorem zgY_ {H':Hp}{Q:Unit->iM->Prop}(hu:A.units+1<cLine)(I:Inv X pins σ H s)(g:DPut H a y v H')(ry:RelV y u)(rv:RelV v r)(h:∀s',Inv X pins σ H' s'->Q () s'):
  jq (model X.prog X.w) A (setItem (.ref a) u r) Q E s:=by
 rcases g with⟨kvs,k,e,ey,l,eH⟩|⟨kvs,k,b,e,ey,eb,l,eH⟩
 ·subst ey eH
  obtain⟨z,hd,vs,rel,dd⟩:=zpv_ I.hok e;have hz:vs.length<=iZ:=by rw[<- rel.length];exact z
  have hl:(putK kvs k v).length<=iZ:=by have:=zbF_ kvs k v;lia
  refine wpAny_setItem_pairs (hsz:=hz) (ziu_ ry) dd λh' cf hs=>h _ ?_
  have he:∃q,h'.get? a=qI q:=let⟨q,_,_,hq,_⟩:=cf;⟨q,hq⟩
  exact zfL_ I (by rw[e];exact ke) hs he (zk4_ hl hd (rel.put k rv) cf)
 ·subst ey eH
  cases(show u=jK b from ry)
  obtain⟨z,hd,xs,rel,dd⟩:=dt_of I.hok e;have hz:xs.length<=iZ:=by rw[<- Paired.length rel];exact z
  have hl:(putK kvs k v).length<=iZ:=by have:=zbF_ kvs k v;lia
  refine wpAny_setItem_heap (hsz:=hz) (tupleKind_room_in1 hu) (zex_ I.hok eb) dd λh' cf hs=>h _ ?_
  obtain⟨q,es,ep,hq,h2,h3,h4,_,h5⟩:=cf;refine zfL_ I (by rw[e];exact ke) hs ⟨q,hq⟩ ⟨hl,hd,_,(rel.put k eb rv).keeps λc ys ec=>?_,q,es,ep,hq,h2,h3,h4,h5⟩
  rw[zl_ (ne_of ec e (λz=>nomatch z))]
  exact ec
variable {kvs:List (Key×V)}
theorem d_len {Q:fv->iM->Prop}(I:Inv X pins σ H s)(e:Rd H a (.dK kvs))(h:∀t s',Inv X pins σ H s'->Q (.int kvs.length t) s'):jq (model X.prog X.w) A (call (.builtin "len") [.ref a]) Q E s:=by
 obtain⟨z,hd,vs,rel,dd⟩:=zeg_ I.hok e;refine call_len_dict hd dd (by rw[<- rel.length];rw[sizeLine_eq]at z;lia) ?_
 rw[<- rel.length];exact h _ _ (I.tok _)
end
def NoSl (i:i4):Prop:=∀ov iv,subscripted i qL ov iv=operate [ov,iv] (getItem ov iv)
theorem subD_of {prog:jr}{w:jH}{A:j3}{E:fv->iM->Prop}{s:iM}{env:Env}{value slice:i4}{pos:Pos}{T id:String}{Q:fv->iM->Prop}
  (hl:typeLookup (.type T) "__getitem__"=pure (qI (.builtin id))) (hs:NoSl slice)
  (h:jq (model prog w) A (eval value env) (λo aa=>jq (model prog w) A (eval slice env) (λi aC=>aC.TypeIs o T/\jq (model prog w) A (getItem o i) Q E aC) E aa) E s):
  jq (model prog w) A (eval (.Subscript value slice pos) env) Q E s:=by
 refine Subscript_ (kr h (λo aa aB=>kr aB (λi aC a_=>?_) λ_ _ x=>x) λ_ _ x=>x)
 obtain⟨hT,a_⟩:=a_;unfold subscriptTail;refine iX ?_;rw[getitemInPython_of_ne hT.not_modules];refine iX (wpAny_specialOf hT hl ?_);have fin:jq (model prog w) A (subscripted slice qL o i) (λr av=>jq (model prog w) A (letTemporaryGo value o r>>=λ_=>pure r) Q E av) E aC:=by
  rw[hs o i];exact wpAny_operating (kr a_ (λr av a9=>iX (wpAny_letTemporaryGo (je a9))) λ_ _ x=>x)
 first
  |exact je (iX fin)
  |exact iX (je (iX fin))
  |exact iX fin
theorem zep_ {X:Cx}{pins:Pnn}{σ:St}{H:Hp}{s:iM}{a:iQ}{y:V}{o:Option V}(I:Inv X pins σ H s)(g:DGet H a y o):s.TypeIs (.ref a) "dict":=by
 rcases g with⟨kvs,k,e,_,_⟩|⟨kvs,k,b,e,_,_,_⟩
 ·obtain⟨_,_,vs,_,dd⟩:=zeg_ I.hok e
  exact dd.typeIs
 ·obtain⟨_,_,xs,_,dd⟩:=zi7_ I.hok e
  exact dd.typeIs
section
end
theorem zfU_ {P:jr}{w:jH}{H:Hp}(h:Heap)(hb:sysModules<h.objs.size):ObjOk P w H (h.push {cls:=.type "dict",data:=.dict #[]}) h.objs.size (.dK []):=
 ⟨kJ _,beq_eq_false_iff_ne.mpr (m7 (jQ hb)),[],.nil,qH h⟩
def tDNewK:TE:=λ_ H Q=>∀p,H p=qJ->Q (.ref p) (upd H p (.dK []))
section
variable {X:Cx}{pos:Pos}
theorem zjP_:PE X (.Dict [] [] pos) tDNewK:=λpins s σ H Q I h=>
 wpAny_Dict_empty ⟨.ref s.heap.objs.size,_,I.laid (a:=s.heap.objs.size) (o:=.dK []) (t':=s.toks) (λ_ _ q=>iU _ q) (iW _) (zfU_ s.heap I.big),rfl,h _ (I.hok.fresh (iW _))⟩
end
def tPairs:List (TE×TE)->St->Hp->(List (V×V)->Hp->Prop)->Prop
 |[],_,H,Q=>Q [] H
 |(tk,tv)::r,σ,H,Q=>tk σ H λx H1=>tv σ H1 λy H2=>tPairs r σ H2 λps H3=>Q ((x,y)::ps) H3
abbrev VV:List (V×V)->List (fv×fv)->Prop:=Paired λp q=>RelV p.1 q.1/\RelV p.2 q.2
def PPs (X:Cx)(pos:Pos)(keys:List (Option i4))(values:List i4)(trs:List (TE×TE)):Prop:=
 ∀(pins:Pnn) (s:iM) (σ:St) (H:Hp) (Q:List (V×V)->Hp->Prop),Inv X pins σ H s->tPairs trs σ H Q ->
  jq (model X.prog X.w) X.A (evalPairs (pairTrees keys values X.env pos)) (λvs s'=>∃ps H',Inv X pins σ H' s'/\VV ps vs/\Q ps H') X.xe s
theorem zmD_ {X:Cx}{pos:Pos}:PPs X pos [] [] []:=λpins s σ H Q I h=>pairTrees_nil_walk ⟨[],H,I,.nil,h⟩
theorem zjA_ {X:Cx}{pos:Pos}{k v:i4}{ks:List (Option i4)}{vs:List i4}{tk tv:TE}{trs:List (TE×TE)}(hk:PE X k tk)(hv:PE X v tv)(hr:PPs X pos ks vs trs):
  PPs X pos (qI k::ks) (v::vs) ((tk,tv)::trs):=λpins s σ H Q I h=>
 pairTrees_cons_walk (thn (hk pins s σ H _ I h) λu s1 ⟨x,H1,I1,rx,q1⟩=>thn (hv pins s1 σ H1 _ I1 q1) λw2 s2 ⟨y,H2,I2,ry,q2⟩=>
  thn (hr pins s2 σ H2 _ I2 q2) λws s3 ⟨ps,H3,I3,rel,q3⟩=>⟨(x,y)::ps,H3,I3,.cons ⟨rx,ry⟩ rel,q3⟩)
def mergeK (kvs more:List (Key×V)):List (Key×V):=more.foldl (λacc kv=>putK acc kv.1 kv.2) kvs
theorem KV.merge:∀{more:List (Key×V)}{rs:List (Key×fv)}{kvs:List (Key×V)}{vs:List (Key×fv)},KV more rs->KV kvs vs->KV (mergeK kvs more) (merged vs rs):=by
 intro more rs kvs vs r;unfold KV at r;induction r generalizing kvs vs with
 |nil=>intro q;exact q
 | @cons p q ps qs h t ih=>
  intro r0;have e:KV (putK kvs p.1 p.2) (stored vs q.1 q.2):=by
   have:=r0.put p.1 h.2;rw[<- h.1];exact this
  exact ih e
theorem zbO_:∀(more kvs:List (Key×V)),(mergeK kvs more).length<=kvs.length+more.length
 |[],kvs=>by show kvs.length<=kvs.length+0;lia
 |p::r,kvs=>by
  have h1:=zbO_ r (putK kvs p.1 p.2);have h2:=zbF_ kvs p.1 p.2;show(mergeK (putK kvs p.1 p.2) r).length<=_
  rw[iR];lia
theorem zdb_ {P:jr}{w:jH}:∀{kvs:List (Key×V)}{ws:List (fv×fv)},VV (kvs.map λkv=>(kV kv.1,kv.2)) ws->∃rs,Carries (mixKind P w) ws rs/\KV kvs rs
 |[],_,r=>by rw[jM]at r;cases r;exact⟨[],ke,.nil⟩
 |p::kvs,_,r=>by
  rw[iN]at r;cases r with
  | @cons a b as bs h t=>
   obtain⟨rs,c,q⟩:=zdb_ (P:=P) (w:=w) t;obtain⟨b1,b2⟩:=b;exact⟨(p.1,b2)::rs,⟨ziu_ h.1,rfl,c⟩,.cons ⟨rfl,h.2⟩ q⟩
def tDisp (trs:List (TE×TE)):TE:=λσ H Q=>∀p,H p=qJ->tPairs trs σ (upd H p (.dK [])) λps H2=>H2 p=qI (.dK [])/\∃kvs:List (Key×V),ps=kvs.map (λkv=>(kV kv.1,kv.2))/\kvs.length<=15/\Q (.ref p) (upd H2 p (.dK (mergeK [] kvs)))
theorem zkI_ {X:Cx}{pos:Pos}{keys:List (Option i4)}{values:List i4}{trs:List (TE×TE)}(h:PPs X pos keys values trs)(b7:keys.all (·.isSome)=qK)(hl:keys.length=values.length)(h0:keys≠[])
  (fi:keys.length<=15):PE X (.Dict keys values pos) (tDisp trs):=by
 intro pins s σ H Q I q;have hn:=I.hok.fresh (iW s.heap.objs.size);have I1:=I.laid (a:=s.heap.objs.size) (o:=.dK []) (h':=s.heap.push {cls:=.type "dict",data:=.dict #[]}) (t':=s.toks) (λ_ _ q=>iU _ q) (iW _) (zfU_ s.heap I.big)
 refine wpAny_Dict_walk (knd:=mixKind X.prog X.w) b7 hl h0 fi (thn (h pins _ σ _ _ I1 (q _ hn)) λws s2 ae=>?_)
 obtain⟨ps,H2,I2,rel,e,kvs,ep,lk,q2⟩:=ae;subst ep;obtain⟨rs,c,rk⟩:=zdb_ (P:=X.prog) (w:=X.w) rel;obtain⟨z,hd,vs0,r0,dd⟩:=zpv_ I2.hok e;cases r0;refine⟨rs,c,dd,λh' cf hs=>⟨.ref s.heap.objs.size,_,?_,rfl,q2⟩⟩
 have hz:(mergeK [] kvs).length<=iZ:=by
  have h1:=zbO_ kvs [];rw[nZ]at h1;rw[sizeLine_eq];lia
 have he:∃q,h'.get? s.heap.objs.size=qI q:=let⟨q,_,_,hq,_⟩:=cf;⟨q,hq⟩
 exact zfL_ I2 (by rw[e];exact ke) hs he (zk4_ hz hd (rk.merge .nil) cf)
structure M2 (X:Cx)(o:i4)(m:Str)(apos:Pos)(e f:i4)(af:Pos):Prop where
 base:attributeBase o m X.env (eval o X.env)=eval o X.env
 few:((kz af (jo [e,f] X.env)).all (λx=>!x.1) && (mi af (lj [] X.env)).all (λx=>x.1.isSome)
  && decide (([e,f]:List i4).length+([]:List Keyword).length+(if([]:List Keyword).isEmpty then 0 else 1)<30))=qK
 line:(apos.endLine == af.line)=qK
 trees:kz af (jo [e,f] X.env)=[(qL,eval e X.env),(qL,eval f X.env)]
def IsD (H:Hp)(a:iQ):Prop:=(∃kvs,Rd H a (.dK kvs))\/∃kvs,Rd H a (.dT kvs)
theorem zj8_ {X:Cx}{pins:Pnn}{σ:St}{H:Hp}{s:iM}{a:iQ}(I:Inv X pins σ H s)(d:IsD H a):
  s.TypeIs (.ref a) "dict" /\ (∀b,jK a=.ref b->∃ob,s.heap.get? b=qI ob/\ob.dict=qJ)/\(a==sysModules)=qL:=by
 rcases d with⟨kvs,e⟩|⟨kvs,e⟩
 ·obtain⟨_,hd,vs,_,dd⟩:=zeg_ I.hok e
  refine⟨dd.typeIs,λb q=>?_,hd⟩
  cases q;obtain⟨ob,_,_,h1,h2,_⟩:=dd;exact⟨ob,h1,h2.2.1⟩
 ·obtain⟨_,hd,xs,_,dd⟩:=zi7_ I.hok e
  refine⟨dd.typeIs,λb q=>?_,hd⟩
  cases q;obtain⟨ob,_,_,h1,h2,_⟩:=dd;exact⟨ob,h1,h2.2.1⟩
section
variable {X:Cx}{pins:Pnn}{σ:St}{H:Hp}{s:iM}{a:iQ}{y d:V}{u r:fv}{o:Option V}{A:j3}{E:fv->iM->Prop}
theorem zm9_ {Q:fv->iM->Prop}(hu:A.units+1<cLine)(I:Inv X pins σ H s)(g:DGet H a y o)(ry:RelV y u)(rd:RelV d r)(h:∀w' s',Inv X pins σ H s'->RelV (o.getD d) w'->Q w' s'):
  jq (model X.prog X.w) A (call (.builtin "dict.get") [.ref a,u,r]) Q E s:=by
 rcases g with⟨kvs,k,e,ey,l⟩|⟨kvs,k,b,e,ey,eb,l⟩
 ·subst ey
  obtain⟨z,hd,vs,rel,dd⟩:=zeg_ I.hok e;refine call_meetsIn mF dd.typeIs nV (nB _ _ _) (meets_dict_get_default (mixKind X.prog X.w) a (ziu_ ry) hd r) ⟨_,dd.mapOf,h _ _ (I.tok _) ?_⟩;rw[l];exact(rel.val k).getD rd
 ·subst ey
  cases(show u=jK b from ry)
  obtain⟨z,hd,xs,rel,dd⟩:=zi7_ I.hok e;refine call_meetsIn mF dd.typeIs nV (nB _ _ _) (meetsH_dict_get_default (tupleKind (mixKind X.prog X.w)) a b hd r) ⟨tupleKind_room_in1 hu,k,xs,zex_ I.hok eb,dd,h _ _ (I.tok _) ?_⟩;rw[l];exact(rel.val k).getD rd
end
def tDGet2 (td ty tx:TE):TE:=λσ H Q=>td σ H λx H1=>∃a,x=.ref a/\IsD H1 a/\ty σ H1 λy H2=>tx σ H2 λz H3=>∃o,DGet H3 a y o/\Q (o.getD z) H3
section
variable {X:Cx}{o e f:i4}{apos af:Pos}{td ty tx:TE}
theorem zja_ (hu:X.A.units+1<cLine)(ho:PE X o td)(he:PE X e ty)(hf:PE X f tx)(m:M2 X o "get" apos e f af):PE X (.Call (.Attribute o "get" apos) [e,f] [] af) (tDGet2 td ty tx):=by
 intro pins s σ H Q I h;refine wpAny_Call_method m.base m.few m.line nC mF PySem.F.type_dict_get (thn (ho pins s σ H _ I h) λu s1 ae=>?_)
 obtain⟨x,H1,I1,rx,a,ex,d,q1⟩:=ae;subst ex;obtain rfl:u=jK a:=rx;obtain⟨t1,t2,_⟩:=zj8_ I1 d;refine⟨t1,t2,?_⟩;rw[m.trees];refine Calls.callWith_builtin rfl (Calls.evalArgs_plain (Calls.spliced_cons (thn (he pins s1 σ H1 _ I1 q1) λiv s2 ⟨y,H2,I2,ry,q2⟩=>
  Calls.spliced_cons (thn (hf pins s2 σ H2 _ I2 q2) λfv s3 ⟨z,H3,I3,rz,ov,g,q3⟩=>Calls.spliced_nil ?_))))
 exact zm9_ hu I3 g ry rz λw' s4 I4 aY=>⟨_,H3,I4,aY,q3⟩
end
section
namespace L2
open PySem PySem.Spec PyProof.Rows
section
end
section
variable {κ:Type}[DecidableEq κ]
end
end L2
end
section
end
def keyV:V->Option Key
 |.int i=>qI (.inl i)
 |.str z=>qI (.inr z)
 |_=>qJ
theorem zhT_ {y:V}{k:Key}(h:keyV y=qI k):y=kV k:=by
 cases y<;>first |(cases h;rfl)|cases h
def atD (x y:V)(H:Hp)(R:iQ->List (Key×V)->Key->Prop):Prop:=match x with
 |.ref a=>(match keyV y with |some k=>∃kvs,H a=qI (.dK kvs)/\R a kvs k |none=>False)
 |_=>False
theorem zpd_ {x y:V}{H:Hp}{R:iQ->List (Key×V)->Key->Prop}(h:atD x y H R):∃a kvs k,x=.ref a/\y=kV k/\H a=qI (.dK kvs)/\R a kvs k:=by
 unfold atD at h;cases x with
 |ref a=>
  cases e:keyV y with
  |none=>rw[e]at h;exact h.elim
  |some k=>
   rw[e]at h;obtain⟨kvs,h1,h2⟩:=h;exact⟨a,kvs,k,rfl,zhT_ e,h1,h2⟩
 |_=>exact h.elim
section
end
inductive Av where
 |i (n:Int)|p (a b:Int)
inductive Xc where
 |pl (c:String)|at(c:String) (as:List (Str×Av))
instance:Coe String Xc:=⟨Xc.pl⟩
inductive Mo (α:Type) where
 |ok (a:α)|ex (c:Xc)|no
namespace Mo
variable {α β γ:Type}
noncomputable def bind (x:Mo α)(f:α->Mo β):Mo β:=match x with |.ok a=>f a |.ex c=>.ex c |.no=>.no
theorem bind_assoc (x:Mo α)(f:α->Mo β)(g:β->Mo γ):(x.bind f).bind g=x.bind λa=>(f a).bind g:=by cases x<;>rfl
noncomputable def noex (x:Mo α):Mo α:=match x with |.ok a=>.ok a |_=>.no
noncomputable def lim (n:Nat)(k:Mo α):Mo α:=if n<=iZ then k else .no
theorem lim_ok {n:Nat}{k:Mo α}(h:n<=100000):lim n k=k:=if_pos (zaB_ h)
noncomputable def grd (p:Prop)[Decidable p](k:Mo α):Mo α:=if p then k else .no
theorem grd_ok {p:Prop}[Decidable p]{k:Mo α}(h:p):grd p k=k:=if_pos h
noncomputable def opt (x:Option α):Mo α:=match x with |some a=>.ok a |none=>.no
end Mo
def un (F h:Hp):Hp:=λp=>match F p with |some o=>qI o |none=>h p
def Dj (F h:Hp):Prop:=∀p,F p=qJ\/h p=qJ
def Jn (h1 h2 h:Hp):Prop:=∀p,(h1 p=qJ/\h p=h2 p)\/(h2 p=qJ/\h p=h1 p)
def Ext (F H F' H':Hp):Prop:=Same F F'/\Same F' H'/\Same H H'/\∀p,F p=qJ->F' p≠qJ->H p=qJ
theorem Ext.refl {F H:Hp}(h:Same F H):Ext F H F H:=⟨Same.refl _,h,Same.refl _,λp a b=>absurd a b⟩
theorem Ext.trans {F H F1 H1 F2 H2:Hp}(a:Ext F H F1 H1)(b:Ext F1 H1 F2 H2):Ext F H F2 H2:=by
 obtain⟨a1,a2,a3,a4⟩:=a;obtain⟨b1,b2,b3,b4⟩:=b;refine⟨a1.trans b1,b2,a3.trans b3,λp hp hq=>?_⟩
 cases e:F1 p with
 |none=>exact a3.free (b4 p e hq)
 |some o=>exact a4 p hp (by rw[e];exact sN _)
theorem Ext.heap {F H H':Hp}(h:Same F H)(g:Same H H'):Ext F H F H':=⟨Same.refl _,h.trans g,g,λp a b=>absurd a b⟩
theorem Ext.new {F H:Hp}(h:Same F H){p:iQ}{o:HO}(hp:H p=qJ):Ext F H (upd F p o) (upd H p o):=by
 refine⟨zax_ (h.free hp) _,λb u e=>?_,zax_ hp _,λq a b=>?_⟩
 ·unfold upd at e ⊢
  split
  ·rename_i z;rw[if_pos z]at e;exact e
  ·rename_i z;rw[if_neg z]at e;exact h _ _ e
 ·unfold upd at b
  split at b
  ·rename_i z;rw[z];exact hp
  ·exact absurd a b
structure Ty (α:Type) where
 R:α->V->Hp->Prop
 mono:∀{a v H H'},Same H H'->R a v H->R a v H'
def Tups (H H':Hp):Prop:=∀p xs,H p=qI (.tup xs)->H' p=qI (.tup xs)
theorem Same.tups {H H':Hp}(h:Same H H'):Tups H H':=λp xs e=>h _ _ e
abbrev tyInt:Ty Int:=⟨λa v _=>v=.int a,λ_ h=>h⟩
structure Cs (γ:Type) where
 R:γ->List V->Hp->Prop
 mono:∀{c vs H H'},Same H H'->R c vs H->R c vs H'
abbrev Prs {α:Type}(T:Ty α)(H:Hp)(xs:List α)(vs:List V):Prop:=Paired (λx v=>T.R x v H) xs vs
theorem zcf_ {α β:Type}{R R':α->β->Prop}(h:∀a b,R a b->R' a b):∀{xs:List α}{ys:List β},Paired R xs ys->Paired R' xs ys
 |_,_,.nil=>.nil
 |_,_,.cons a t=>.cons (h _ _ a) (zcf_ h t)
theorem Prs.mono {α:Type}{T:Ty α}{H H':Hp}{xs:List α}{vs:List V}(g:Same H H')(h:Prs T H xs vs):Prs T H' xs vs:=zcf_ (λ_ _ r=>T.mono g r) h
noncomputable abbrev tyL {α:Type}(T:Ty α):Ty (List α):=⟨λxs v H=>∃p vs,v=.ref p/\H p=qI (.lst vs)/\Prs T H xs vs,λg ⟨p,vs,e,h,q⟩=>⟨p,vs,e,g _ _ h,q.mono g⟩⟩
structure Own (α:Type) where
 O:α->V->Hp->Hp->Prop
 fr:Ty α
 mono:∀{a v F F' h},Same F F'->O a v F h->O a v F' h
 frz:∀{a v F h},Dj F h->O a v F h->fr.R a v (un F h)
 notup:∀{a v F h},O a v F h->∀p xs,h p≠qI (.tup xs)
theorem zaC_ {F h:Hp}:Same F (un F h):=λp o e=>by unfold un;rw[e]
theorem zdu_ {F h:Hp}(d:Dj F h):Same h (un F h):=λp o e=>by
 unfold un;rcases d p with z |z
 ·rw[z];exact e
 ·rw[z]at e;cases e
def one (p:iQ)(o:HO):Hp:=λq=>if q=p then qI o else qJ
theorem zy_ {p:iQ}{o:HO}:one p o p=qI o:=if_pos rfl
inductive Sl:Type 1 where
 |dead
 |fz {α:Type}(T:Ty α) (a:α)
 |ow {α:Type}(O:Own α) (a:α)
def Sl.P:Sl->Option V->Hp->Hp->Prop
 |.dead,_,_,_=>True
 |.fz T a,o,F,_=>∃v,o=qI v/\T.R a v F
 |.ow O a,o,F,h=>∃v,o=qI v/\O.O a v F h
def Sl.Z:Sl->Option V->Hp->Prop
 |.dead,_,_=>True
 |.fz T a,o,F=>∃v,o=qI v/\T.R a v F
 |.ow O a,o,F=>∃v,o=qI v/\O.fr.R a v F
def Hold:List Sl->St->Hp->Hp->Prop
 |[],[],_,_=>True
 |s::L,o::σ,F,h=>∃h1 h2,Jn h1 h2 h/\s.P o F h1/\Hold L σ F h2
 |_,_,_,_=>False
def HoldF (L:List Sl)(σ:St)(F:Hp):Prop:=∀(i:Nat) (s:Sl),L[i]?=qI s->s.Z (σ[i]?.join) F
theorem Sl.P.mono {s:Sl}{o:Option V}{F F' h:Hp}(g:Same F F')(q:s.P o F h):s.P o F' h:=by
 cases s with
 |dead=>exact q
 |fz T a=>obtain⟨v,e,r⟩:=q;exact⟨v,e,T.mono g r⟩
 |ow O a=>obtain⟨v,e,r⟩:=q;exact⟨v,e,O.mono g r⟩
theorem Sl.Z.mono {s:Sl}{o:Option V}{F F':Hp}(g:Same F F')(q:s.Z o F):s.Z o F':=by
 cases s with
 |dead=>exact q
 |fz T a=>obtain⟨v,e,r⟩:=q;exact⟨v,e,T.mono g r⟩
 |ow O a=>obtain⟨v,e,r⟩:=q;exact⟨v,e,O.fr.mono g r⟩
theorem HoldF.mono {L:List Sl}{σ:St}{F F':Hp}(g:Same F F')(q:HoldF L σ F):HoldF L σ F':=λi s e=>(q i s e).mono g
theorem Hold.mono:∀{L:List Sl}{σ:St}{F F' h:Hp},Same F F'->Hold L σ F h->Hold L σ F' h
 |[],[],_,_,_,_,q=>q
 |s::L,o::σ,F,F',h,g,q_=>by obtain⟨h1,h2,j,p,r⟩:=q_;exact⟨h1,h2,j,p.mono g,r.mono g⟩
 |[],_::_,_,_,_,_,q=>q.elim
 |_::_,[],_,_,_,_,q=>q.elim
theorem Hold.len:∀{L:List Sl}{σ:St}{F h:Hp},Hold L σ F h->L.length=σ.length
 |[],[],_,_,_=>rfl
 |s::L,o::σ,F,h,q_=>by obtain⟨h1,h2,j,p,r⟩:=q_;rw[iR,iR,r.len]
 |[],_::_,_,_,q=>q.elim
 |_::_,[],_,_,q=>q.elim
theorem Jn.l {h1 h2 h:Hp}(j:Jn h1 h2 h):Same h1 h:=λp o e=>by
 rcases j p with⟨a,b⟩|⟨a,b⟩
 ·rw[a]at e;cases e
 ·rw[b];exact e
theorem Jn.r {h1 h2 h:Hp}(j:Jn h1 h2 h):Same h2 h:=λp o e=>by
 rcases j p with⟨a,b⟩|⟨a,b⟩
 ·rw[b];exact e
 ·rw[a]at e;cases e
theorem Jn.dj {h1 h2 h:Hp}(j:Jn h1 h2 h):Dj h1 h2:=λp=>by
 rcases j p with⟨a,b⟩|⟨a,b⟩
 ·exact .inl a
 ·exact .inr a
theorem zaX_ {h1 h2:Hp}(d:Dj h1 h2):Jn h1 h2 (un h1 h2):=λp=>by
 unfold un;rcases d p with a |a
 ·rw[a];exact .inl ⟨rfl,rfl⟩
 ·refine .inr ⟨a,?_⟩
  cases h1 p with
  |none=>exact a
  |some o=>rfl
theorem Hold.at:∀{L:List Sl}{σ:St}{F h:Hp}(i:Nat) {s:Sl},Hold L σ F h->L[i]?=qI s ->
  ∃o h1 h2,σ[i]?=qI o/\Jn h1 h2 h/\s.P o F h1/\∀s' o' h1' h',Jn h1' h2 h'->s'.P o' F h1'->Hold (L.set i s') (σ.set i o') F h'
 |[],_,_,_,_,_,_,e=>by cases e
 |s::L,[],_,_,_,_,q,_=>q.elim
 |s::L,o::σ,F,h,0,t,q_,e=>by
  obtain⟨h1,h2,j,p,r⟩:=q_;cases e;exact⟨o,h1,h2,rfl,j,p,λs' o' h1' h' j' p'=>⟨h1',h2,j',p',r⟩⟩
 |s::L,o::σ,F,h,i+1,t,q_,e=>by
  obtain⟨h1,h2,j,p,r⟩:=q_;obtain⟨o1,k1,k2,e1,j1,p1,f⟩:=Hold.at i r (by simpa using e)
  have d1:Dj h1 k1:=λp=>by
   rcases j.dj p with a |a
   ·exact .inl a
   ·exact .inr (j1.l.free a)
  have d2:Dj h1 k2:=λp=>by
   rcases j.dj p with a |a
   ·exact .inl a
   ·exact .inr (j1.r.free a)
  refine⟨o1,k1,un h1 k2,by simpa using e1,λp=>?_,p1,λs' o' bx h' j' p'=>?_⟩
  ·rcases j p with⟨a,b⟩|⟨a,b⟩
   ·rcases j1 p with⟨c,d⟩|⟨c,d⟩
    ·refine .inl ⟨c,?_⟩;unfold un;rw[a,b,d]
    ·refine .inr ⟨?_,by rw[b,d]⟩;unfold un;rw[a,c]
   ·refine .inl ⟨j1.l.free a,?_⟩
    have:k2 p=qJ:=j1.r.free a;unfold un;rw[b];cases h1 p with
    |none=>rw[this]
    |some u=>rfl
  ·have dd:Dj bx k2:=λp=>by
    rcases j' p with⟨a,b⟩|⟨a,b⟩
    ·exact .inl a
    ·right;unfold un at a
     cases z:h1 p with
     |none=>rw[z]at a;exact a
     |some u=>rw[z]at a;cases a
   refine⟨h1,un bx k2,λp=>?_,p,f s' o' bx _ (zaX_ dd) p'⟩
   rcases j' p with⟨a,b⟩|⟨a,b⟩
   ·unfold un at b ⊢
    cases z:h1 p with
    |none=>rw[z]at b;exact .inl ⟨rfl,by rw[b,a]⟩
    |some u=>
     rw[z]at b;refine .inr ⟨?_,b⟩;rw[a];rcases d2 p with y |y
     ·rw[y]at z;cases z
     ·exact y
   ·unfold un at a
    cases z:h1 p with
    |some u=>rw[z]at a;cases a
    |none=>
     rw[z]at a;refine .inl ⟨rfl,?_⟩;unfold un;rw[b];cases bx p with
     |none=>exact a.symm
     |some u=>rfl
theorem Hold.froz {L:List Sl}{σ:St}{F h:Hp}(d:Dj F h)(q:Hold L σ F h):HoldF L σ (un F h):=by
 intro i s e;obtain⟨o,h1,h2,e1,j,p,_⟩:=q.at i e;rw[e1];have d1:Dj F h1:=λp=>by
  rcases d p with a |a
  ·exact .inl a
  ·exact .inr (j.l.free a)
 cases s with
 |dead=>trivial
 |fz T a=>obtain⟨v,e2,r⟩:=p;exact⟨v,e2,T.mono zaC_ r⟩
 |ow O a=>
  obtain⟨v,e2,r⟩:=p;refine⟨v,e2,O.fr.mono (λp u z=>?_) (O.frz d1 r)⟩
  unfold un at z ⊢;cases y:F p with
  |some w=>rw[y]at z;exact z
  |none=>rw[y]at z;exact j.l _ _ z
end L2
namespace L2
open PySem PySem.Spec PyProof.Rows
def Av.R:Av->V->Hp->Prop
 |.i n,v,_=>v=.int n
 |.p a b,v,H=>∃q,v=.ref q/\H q=qI (.tup [.int a,.int b])
theorem Av.imm {x:Av}{v:V}{H H':Hp}(g:Tups H H')(h:x.R v H):x.R v H':=by
 cases x with
 |i n=>exact h
 |p a b=>obtain⟨q,e,z⟩:=h;exact⟨q,e,g _ _ z⟩
def AtR (as:List (Str×Av))(fs:List (Str×V))(F:Hp):Prop:=Paired (λa f=>a.1=f.1/\a.2.R f.2 F) as fs
theorem AtR.imm {as:List (Str×Av)}{fs:List (Str×V)}{H H':Hp}(g:Tups H H')(h:AtR as fs H):AtR as fs H':=zcf_ (λ_ _ r=>⟨r.1,Av.imm g r.2⟩) h
def Tell (K:Fgg)(E:XK)(x:Xc)(H0 F H:Hp):Prop:=match x with
 |.pl c=>E (.ref (gA K c)) qJ H
 |.at c as=>∀dx fs,H0 dx=qJ->F dx=qI (XDO dx fs)->AtR as fs F->E (.ref (gA K c)) (qI dx) H
theorem Tell.up {K:Fgg}{E:XK}{x:Xc}{H0 H1 F H:Hp}(s:Same H0 H1)(h:Tell K E x H0 F H):Tell K E x H1 F H:=by
 cases x with
 |pl c=>exact h
 |«at» c as=>exact λdx fs e=>h dx fs (s.free e)
def After {α:Type}(K:Fgg)(r:Mo α)(E:XK)(F H:Hp)(k:α->Hp->Hp->Prop):Prop:=match r with
 |.ok a=>∀F' H',Ext F H F' H'->k a F' H'
 |.ex c=>∀F' H',Ext F H F' H'->Tell K E c H F' H'
 |.no=>False
section
variable {K:Fgg}{E:XK}{α β γ:Type}{F H:Hp}
theorem After.bind {r:Mo α}{f:α->Mo β}{k:β->Hp->Hp->Prop}(h:After K (r.bind f) E F H k):After K r E F H λa F1 H1=>After K (f a) E F1 H1 k:=by
 cases r with
 |ok a=>
  intro F1 H1 x;have h':After K (f a) E F H k:=h;cases e:f a with
  |ok b=>rw[e]at h';exact λF2 H2 y=>h' F2 H2 (x.trans y)
  |ex c=>rw[e]at h';exact λF2 H2 y=>(h' F2 H2 (x.trans y)).up x.2.2.1
  |no=>rw[e]at h';exact h'
 |ex c=>exact h
 |no=>exact h
theorem After.imp {r:Mo α}{k k':α->Hp->Hp->Prop}(h:After K r E F H k)(g:∀a F' H',Ext F H F' H'->k a F' H'->k' a F' H'):After K r E F H k':=by
 cases r with
 |ok a=>exact λF' H' x=>g a F' H' x (h F' H' x)
 |ex c=>exact h
 |no=>exact h
theorem After.ok {a:α}{k:α->Hp->Hp->Prop}(hs:Same F H)(h:After K (.ok a) E F H k):k a F H:=h F H (.refl hs)
theorem After.lim {n:Nat}{r:Mo α}{k:α->Hp->Hp->Prop}(h:After K (Mo.lim n r) E F H k):n<=iZ/\After K r E F H k:=by
 unfold Mo.lim at h;split at h
 ·exact⟨by assumption,h⟩
 ·exact h.elim
theorem After.grd {p:Prop}[Decidable p]{r:Mo α}{k:α->Hp->Hp->Prop}(h:After K (Mo.grd p r) E F H k):p/\After K r E F H k:=by
 unfold Mo.grd at h;split at h
 ·exact⟨by assumption,h⟩
 ·exact h.elim
theorem After.opt {x:Option α}{k:α->Hp->Hp->Prop}(h:After K (Mo.opt x) E F H k):∃a,x=qI a/\After K (.ok a) E F H k:=by
 cases x with
 |none=>exact h.elim
 |some a=>exact⟨a,rfl,h⟩
def EvF (K:Fgg)(e:TE)(E:XK)(L:List Sl)(r:Mo α)(T:Ty α):Prop:=
 ∀σ F H (Q:VK),HoldF L σ F->Same F H->After K r E F H (λa F' H'=>∀v,T.R a v F'->Q v H')->e σ H Q
def OwnK (O:Own α)(H:Hp)(Q:VK)(a:α)(F' H':Hp):Prop:=∀v h,(∀p,h p≠qJ->H p=qJ)->Dj F' h->Same h H'->O.O a v F' h->Q v H'
def EvO (K:Fgg)(e:TE)(E:XK)(L:List Sl)(r:Mo α)(O:Own α):Prop:=
 ∀σ F H (Q:VK),HoldF L σ F->Same F H->After K r E F H (OwnK O H Q)->e σ H Q
def EvT (K:Fgg)(t:TT)(E:XK)(L:List Sl)(r:Mo Bool):Prop:=
 ∀σ F H (Q:Bool->Hp->Prop),HoldF L σ F->Same F H->After K r E F H (λb _ H'=>Q b H')->t σ H Q
def EvA (K:Fgg)(t:TA)(E:XK)(L:List Sl)(r:Mo γ)(C:Cs γ):Prop:=
 ∀σ F H (Q:List V->Hp->Prop),HoldF L σ F->Same F H->After K r E F H (λc F' H'=>∀vs,C.R c vs F'->Q vs H')->t σ H Q
variable {L:List Sl}{e e1 e2:TE}{T:Ty α}{r:Mo α}
theorem EvO.fr {O:Own α}(h:EvO K e E L r O):EvF K e E L r O.fr:=by
 intro σ F H Q hL hs q;refine h σ F H Q hL hs ?_;cases r with
 |ok a=>
  intro F' H' x v h' fresh d s o;refine q (un F' h') H' ⟨x.1.trans zaC_,λp o e=>?_,x.2.2.1,λp a b=>?_⟩ v (O.frz d o)
  ·unfold un at e
   cases z:F' p with
   |some w=>rw[z]at e;cases e;exact x.2.1 _ _ z
   |none=>rw[z]at e;exact s _ _ e
  ·unfold un at b
   cases z:F' p with
   |some w=>exact x.2.2.2 p a (by rw[z];exact sN _)
   |none=>rw[z]at b;exact fresh p b
 |ex c=>exact q
 |no=>exact q
def Op2O (K:Fgg)(m:R2)(E:XK)(T1:Ty α)(T2:Ty β)(g:α->β->Mo γ)(O:Own γ):Prop:=
 ∀a b x y F H (Q:VK),Same F H->T1.R a x F->T2.R b y F->After K (g a b) E F H (OwnK O H Q)->m x y H Q
theorem OwnK.back {O:Own α}{H H1:Hp}{Q:VK}{a:α}{F' H':Hp}(g:Same H H1)(h:OwnK O H Q a F' H'):OwnK O H1 Q a F' H':=
 λv k fresh d s o=>h v k (λp z=>g.free (fresh p z)) d s o
theorem znw_ {m:R2}{T1:Ty α}{T2:Ty β}{O:Own γ}{g:α->β->Mo γ}{r1:Mo α}{r2:Mo β}(gL:Op2O K m E T1 T2 g O)(h1:EvF K e1 E L r1 T1)(h2:EvF K e2 E L r2 T2):
  EvO K (tOp m e1 e2) E L (r1.bind λa=>r2.bind λb=>g a b) O:=by
 intro σ F H Q hL hs q;refine h1 σ F H _ hL hs (q.bind.imp λa F1 H1 x1 k1 v1 aP=>?_)
 refine h2 σ F1 H1 _ (hL.mono x1.1) x1.2.1 (k1.bind.imp λb F2 H2 x2 k2 v2 fN=>?_)
 exact gL a b v1 v2 F2 H2 Q x2.2.1 (T1.mono x2.1 aP) fN (k2.imp λc F3 H3 x3 k3=>k3.back (x1.2.2.1.trans x2.2.2.1))
noncomputable instance (i j:Int):Decidable (CMul i j):=inferInstanceAs (Decidable (_\/_))
noncomputable instance (i j:Int):Decidable (CDiv i j):=inferInstanceAs (Decidable (_/\_))
noncomputable instance (i j:Int):Decidable (CPow i j):=inferInstanceAs (Decidable (_/\_/\_))
theorem Prs.append {xs ys:List α}{vs us:List V}(a:Prs T H xs vs)(b:Prs T H ys us):Prs T H (xs++ys) (vs++us):=by
 induction a with
 |nil=>exact b
 |cons r t ih=>exact .cons r ih
theorem Prs.len {xs:List α}{vs:List V}(a:Prs T H xs vs):xs.length=vs.length:=Paired.length a
theorem Prs.get {xs:List α}{vs:List V}(a:Prs T H xs vs)(i:Nat):(xs[i]?=qJ/\vs[i]?=qJ)\/∃x v,xs[i]?=qI x/\vs[i]?=qI v/\T.R x v H:=by
 induction a generalizing i with
 |nil=>exact .inl ⟨rfl,rfl⟩
 |cons r t ih=>
  cases i with
  |zero=>exact .inr ⟨_,_,rfl,rfl,r⟩
  |succ i=>simpa using ih i
theorem Prs.take {xs:List α}{vs:List V}(a:Prs T H xs vs)(n:Nat):Prs T H (xs.take n) (vs.take n):=by
 induction a generalizing n with
 |nil=>rw[pE,pE];exact .nil
 |cons r t ih=>
  cases n with
  |zero=>exact .nil
  |succ n=>exact .cons r (ih n)
theorem Prs.drop {xs:List α}{vs:List V}(a:Prs T H xs vs)(n:Nat):Prs T H (xs.drop n) (vs.drop n):=by
 induction a generalizing n with
 |nil=>rw[pF,pF];exact .nil
 |cons r t ih=>
  cases n with
  |zero=>exact .cons r t
  |succ n=>exact ih n
def BlO (K:Fgg)(m:List V->Hp->VK->Prop)(E:XK)(C:Cs γ)(g:γ->Mo α)(O:Own α):Prop:=
 ∀c vs F H (Q:VK),Same F H->C.R c vs F->After K (g c) E F H (OwnK O H Q)->m vs H Q
theorem znO_ {m:List V->Hp->VK->Prop}{C:Cs γ}{g:γ->Mo α}{O:Own α}{ta:TA}{r:Mo γ}(hb:BlO K m E C g O)(h:EvA K ta E L r C):EvO K (tCB m ta) E L (r.bind g) O:=by
 intro σ F H Q hL hs q;exact h σ F H _ hL hs (q.bind.imp λc F1 H1 x1 k1 vs ba=>hb c vs F1 H1 Q x1.2.1 ba (k1.imp λa F2 H2 x2 k2=>k2.back x1.2.2.1))
theorem zlL_ {xs:List α}{vs:List V}(r:Prs T H xs vs){i:Int}{x:α}(e:atI xs i=qI x):∃v,atI vs i=qI v/\T.R x v H:=by
 unfold atI at e ⊢;rw[<- r.len];cases e1:ixN xs.length i with
 |none=>rw[e1]at e;cases e
 |some j=>
  rw[e1]at e;rcases r.get j with⟨a,b⟩|⟨y,v,a,b,c⟩
  ·have:xs[j]?=qI x:=e
   rw[a]at this;cases this
  ·have:xs[j]?=qI x:=e
   rw[a]at this;cases this;exact⟨v,b,c⟩
end
section
variable {K:Fgg}{E:XK}{α γ:Type}{F H:Hp}{L:List Sl}{e1 e2:TE}{T:Ty α}{r:Mo α}{t:TT}{b:Mo Bool}
theorem znN_ {r1 r2:Mo α}{O:Own α}(ht:EvT K t E L b)(h1:EvO K e1 E L r1 O)(h2:EvO K e2 E L r2 O):EvO K (mIf t e1 e2) E L (b.bind λc=>if c then r1 else r2) O:=by
 intro σ F H Q hL hs q;refine ht σ F H _ hL hs (q.bind.imp λa F1 H1 x k=>⟨λc=>?_,λc=>?_⟩)
 ·rw[if_pos c]at k;exact h1 σ F1 H1 _ (hL.mono x.1) x.2.1 (k.imp λa F2 H2 y z=>z.back x.2.2.1)
 ·rw[if_neg (by rw[c];decide)]at k;exact h2 σ F1 H1 _ (hL.mono x.1) x.2.1 (k.imp λa F2 H2 y z=>z.back x.2.2.1)
theorem After.more {k:α->Hp->Hp->Prop}(h:After K r E F H k):After K r E F H λa F1 H1=>∀F2 H2,Ext F1 H1 F2 H2->k a F2 H2:=by
 cases r with
 |ok a=>exact λF1 H1 x F2 H2 y=>h F2 H2 (x.trans y)
 |ex c=>exact h
 |no=>exact h
def EvP (K:Fgg)(t:TO)(E:XK)(L:List Sl)(r:Mo (Option Int)):Prop:=
 ∀σ F H (Q:Option Int->Hp->Prop),HoldF L σ F->Same F H->After K r E F H (λb _ H'=>Q b H')->t σ H Q
theorem ep_no:EvP K tNoPart E L (.ok qJ):=λσ F H Q hL hs q=>q.ok hs
def cutG (xs:List α)(lo hi:Option Int):List α:=(xs.drop (HT.sIx xs.length 0 lo)).take (HT.sIx xs.length xs.length hi-HT.sIx xs.length 0 lo)
theorem zlx_ {xs:List α}{vs:List V}(q:Prs T H xs vs)(lo hi:Option Int):Prs T H (cutG xs lo hi) (cutV vs lo hi):=by
 unfold cutG cutV;rw[<- q.len];exact(q.drop _).take _
theorem EqD.le {H:Hp}{n m:Nat}{x y:V}{b:Bool}(h:EqD K H n x y b)(g:n<=m):EqD K H m x y b:=by
 induction g with
 |refl=>exact h
 |step _ ih=>exact .up ih
def MeO (K:Fgg)(m:V->List V->Hp->VK->Prop)(E:XK)(C:Cs γ)(g:List Nat->γ->Mo α)(O:Own α):Prop:=
 ∀l c vs F H (Q:VK),Same F H->C.R c vs F->After K (g l c) E F H (OwnK O H Q)->m (tx l) vs H Q
end
section
variable {K:Fgg}{E:XK}{α β:Type}{F H:Hp}{L:List Sl}{e:TE}{T:Ty α}{r:Mo α}
noncomputable def setL (L:List Sl)(ss:List (Nat×Sl)):List Sl:=ss.foldl (λL q=>L.set q.1 q.2) L
def setS (σ:St)(ss:List (Nat×Option V)):St:=ss.foldl (λL q=>L.set q.1 q.2) σ
inductive Plain (F:Hp):List (Nat×Sl)->List (Nat×Option V)->Prop
 |nil:Plain F [] []
 |cons {α:Type}{T:Ty α}{a:α}{i:Nat}{v:V}{ss vs} (h:T.R a v F) (t:Plain F ss vs):Plain F ((i,.fz T a)::ss) ((i,qI v)::vs)
def TgR (K:Fgg)(g:TG)(T:Ty α)(ss:α->List (Nat×Sl)):Prop:=
 ∀a v σ F H (Q:St->Hp->Prop),Same F H->T.R a v F->(∀vs,Plain F (ss a) vs->Q (setS σ vs) H)->g v σ H Q
theorem zf5_ {σ:St}{i j:Nat}{o:Option V}(h:i<σ.length):((σ.set i o)[j]?).join=if i=j then o else(σ[j]?).join:=by
 rw[jW];split
 ·rename_i e;subst e;first |rfl |(rw[if_pos h];rfl)
 ·rfl
theorem zgS_ {σ:St}{i:Nat}{s:Sl}{o:Option V}(hl:L.length=σ.length)(h:HoldF L σ F)(hs:s.Z o F):HoldF (L.set i s) (σ.set i o) F:=by
 intro j t e;rw[jW]at e;split at e
 ·rename_i z;subst z
  split at e
  ·rename_i y;cases e
   rw[zf5_ (by rw[<- hl];exact y),if_pos rfl];exact hs
  ·cases e
 ·rename_i z
  by_cases y:i<σ.length
  ·rw[zf5_ y,if_neg z];exact h j t e
  ·rw[List.set_eq_of_length_le (by lia)];exact h j t e
theorem zeq_ {ss:List (Nat×Sl)}{vs:List (Nat×Option V)}(p:Plain F ss vs):∀{L:List Sl}{σ:St},L.length=σ.length->HoldF L σ F->HoldF (setL L ss) (setS σ vs) F/\(setS σ vs).length=σ.length/\(setL L ss).length=L.length:=by
 induction p with
 |nil=>exact λhl h=>⟨h,rfl,rfl⟩
 |cons hv t ih=>
  rename_i T a i v ss vs
  intro L σ hl h;obtain⟨a1,b,c⟩:=ih (L:=L.set i (.fz T a)) (σ:=σ.set i (qI v)) (by rw[jO,jO];exact hl) (zgS_ (s:=.fz T a) hl h ⟨v,rfl,hv⟩)
  exact⟨a1,b.trans (by rw[jO]),c.trans (by rw[jO])⟩
def DeadAt (L:List Sl)(is:List Nat):Prop:=∀i∈is,∀s,L[i]?=qI s->s=.dead
theorem zjn_ {ss:List (Nat×Sl)}{vs:List (Nat×Option V)}(p:Plain F ss vs){j:Nat}:∀{σ:St},j∉ss.map (·.1)->(setS σ vs)[j]?=σ[j]?:=by
 induction p with
 |nil=>exact λ_=>rfl
 |cons hv t ih=>
  rename_i i v ss vs
  intro σ hj;have h1:i≠j:=λz=>hj (by rw[<- z];exact i5)
  have h2:=ih (σ:=σ.set i (qI v)) λz=>hj (i7 _ z)
  exact h2.trans (ji h1)
structure Yl (K:Fgg)(J:It)(xs:List α)(T:Ty α)(F1:Hp):Prop where
 go:∀i H x,Same F1 H->xs[i]?=qI x->J.go i H/\∀v H',J.yld i H v H'->∀F,Same F1 F->Same F H->∃F',Ext F H F' H'/\T.R x v F'
 stop:∀H,Same F1 H->J.stop xs.length H
def EvI (K:Fgg)(wi:TI)(E:XK)(L:List Sl)(r:Mo (List α))(T:Ty α):Prop:=
 ∀σ F H (R:It->Hp->Prop),HoldF L σ F->Same F H->After K r E F H (λxs F' H'=>∀J,Yl K J xs T F'->R J H')->wi σ H R
noncomputable def rngI (lo:Int)(n:Nat):List Int:=(jw n).map λ(i:Nat)=>lo+i
theorem zpF_ {lo:Int}{n:Nat}{F1:Hp}:Yl K (Itr lo n) (rngI lo n) tyInt F1:=by
 refine⟨λi H x hH hx=>?_,λH hH=>?_⟩
 ·unfold rngI at hx
  rw[iS]at hx;cases e:(jw n)[i]? with
  |none=>rw[e]at hx;cases hx
  |some c=>
   rw[e]at hx;cases hx;obtain⟨hi,e⟩:=i6.mp e;rw[m4]at e;subst e;rw[jC]at hi;refine⟨hi,?_⟩;rintro v H' ⟨rfl,rfl⟩ F _ hF;exact⟨F,.refl hF,rfl⟩
 ·show n<=_
  unfold rngI;rw[gf,jC];exact iW _
def compM (f:α->Mo (Option β)):List α->List β->Mo (List β)
 |[],acc=>.ok acc
 |x::xs,acc=>(f x).bind λo=>match o with |none=>compM f xs acc |some y=>.lim (acc.length+1) (compM f xs (acc++[y]))
noncomputable def cL (lv:List Str)(fr:List (Str×Nat))(L:List Sl):List Sl:=lv.map (λ_=>Sl.dead)++fr.map λq=>(L[q.2]?).getD .dead
theorem zfq_ {lv:List Str}{fr:List (Str×Nat)}{σ:St}(h:HoldF L σ F):HoldF (cL lv fr L) (cS lv fr σ) F:=by
 intro i s e;unfold cL at e;unfold cS;by_cases hi:i<lv.length
 ·rw[jS (by rw[gf];exact hi),iS,iL hi]at e
  cases e;trivial
 ·rw[jy (by rw[gf];lia),gf,iS]at e
  rw[jy (by rw[gf];lia),gf,iS]
  cases z:fr[i-lv.length]? with
  |none=>rw[z]at e;cases e
  |some q=>
   rw[z]at e;have e:(L[q.2]?).getD .dead=s:=by simpa using e
   show Sl.Z s (σ[q.2]?).join F
   cases y:L[q.2]? with
   |none=>rw[y]at e;rw[<- e];trivial
   |some t=>rw[y]at e;cases e;exact h _ _ y
theorem zjH_ {lv:List Str}{fr:List (Str×Nat)}{σ:St}:(cL lv fr L).length=(cS lv fr σ).length:=by unfold cL cS;simp
def cond1 (c:Mo Bool)(f:Mo β):Mo (Option β):=(c.bind λb=>if b then f.bind λy=>.ok (qI y)else .ok qJ).noex
end
def Okk (F0 H0 F h H:Hp):Prop:=Ext F0 H0 F H/\Dj F h/\Same h H/\(∀p,h p≠qJ->H0 p=qJ)/\∀p xs,h p≠qI (.tup xs)
section
variable {K:Fgg}{E:XK}{α:Type}{F0 H0 F h H:Hp}{e:TE}{r:Mo α}{t:TS}
theorem Okk.thaw (ok:Okk F0 H0 F h H):Same (un F h) H:=λp o e=>by
 unfold un at e;cases z:F p with
 |some w=>rw[z]at e;cases e;exact ok.1.2.1 _ _ z
 |none=>rw[z]at e;exact ok.2.2.1 _ _ e
def less (G h:Hp):Hp:=λp=>match h p with |none=>G p |some _=>qJ
theorem zaN_ {G h:Hp}{p:iQ}(e:h p=qJ):less G h p=G p:=by unfold less;rw[e]
theorem Okk.back (ok:Okk F0 H0 F h H){G' H':Hp}(x:Ext (un F h) H G' H'):Okk F0 H0 (less G' h) h H'/\Same F (less G' h)/\Tups G' (less G' h):=by
 obtain⟨o1,o2,o3,o4,o5⟩:=ok;have hs:Same F (less G' h):=λp o e=>by
  have hp:h p=qJ:=by
   rcases o2 p with z |z
   ·rw[z]at e;cases e
   ·exact z
  rw[zaN_ hp];exact x.1 _ _ (zaC_ _ _ e)
 refine⟨⟨⟨o1.1.trans hs,λp o e=>?_,o1.2.2.1.trans x.2.2.1,λp a b=>?_⟩,λp=>?_,λp o e=>?_,o4,o5⟩,hs,λp xs e=>?_⟩
 ·unfold less at e
  split at e
  ·exact x.2.1 _ _ e
  ·cases e
 ·unfold less at b
  split at b
  ·rename_i z
   cases y:un F h p with
   |none=>exact o1.2.2.1.free (x.2.2.2 p y b)
   |some o=>
    unfold un at y;cases w:F p with
    |some _=>exact o1.2.2.2 p a (by rw[w];exact sN _)
    |none=>rw[w,z]at y;cases y
  ·exact absurd rfl b
 ·unfold less
  cases z:h p with
  |none=>exact .inr rfl
  |some o=>exact .inl rfl
 ·exact x.2.1 _ _ (x.1 _ _ (zdu_ o2 _ _ e))
 ·unfold less
  cases z:h p with
  |none=>exact e
  |some o=>
   have:=x.1 _ _ (zdu_ o2 _ _ z);rw[e]at this;cases this;exact absurd z (o5 p xs)
theorem Tell.back {x:Xc}(ok:Okk F0 H0 F h H){G' H':Hp}(y:Ext (un F h) H G' H')(t:Tell K E x H0 (less G' h) H'):Tell K E x H G' H':=by
 cases x with
 |pl c=>exact t
 |«at» c as=>
  refine λdx fs e q r=>t dx fs (ok.1.2.2.1.free e) ?_ (r.imm (ok.back y).2.2)
  rw[zaN_ (ok.2.2.1.free e)];exact q
theorem Okk.cold (ok:Okk F0 H0 F h H){F' H':Hp}(x:Ext F H F' H'):Okk F0 H0 F' h H':=by
 refine⟨ok.1.trans x,λp=>?_,ok.2.2.1.trans x.2.2.1,ok.2.2.2.1,ok.2.2.2.2⟩
 cases z:h p with
 |none=>exact .inr rfl
 |some o=>
  left;rcases ok.2.1 p with y |y
  ·cases w:F' p with
   |none=>rfl
   |some o'=>have:=x.2.2.2 p y (by rw[w];exact sN _);rw[ok.2.2.1 _ _ z]at this;cases this
  ·rw[y]at z;cases z
theorem zix_ {hn h:Hp}(hh:Same h H)(fresh:∀p,hn p≠qJ->H p=qJ):Dj hn h:=λp=>by
 cases z:hn p with
 |none=>exact .inl rfl
 |some w=>
  have:=fresh p (by rw[z];exact sN _)
  exact .inr (hh.free this)
theorem ziJ_ {α:Type}{l:List α}{i:Nat}{o:α}(h:l[i]?=qI o):l.set i o=l:=by
 obtain⟨hi,e⟩:=i6.mp h;rw[<- e];exact List.set_getElem_self hi
theorem Okk.rebase {F1 H1:Hp}(x:Ext F0 H0 F1 H1)(ok:Okk F0 H0 F h H)(s:Same F1 F):Okk F1 H0 F h H:=by
 obtain⟨o1,o2,o3,o4,o5⟩:=ok;refine⟨⟨s,o1.2.1,o1.2.2.1,λp a b=>o1.2.2.2 p (x.1.free a) b⟩,o2,o3,o4,o5⟩
theorem Okk.unbase {F1 H1:Hp}(x:Ext F0 H0 F1 H1)(ok:Okk F1 H0 F h H):Okk F0 H0 F h H:=by
 obtain⟨o1,o2,o3,o4,o5⟩:=ok;refine⟨⟨x.1.trans o1.1,o1.2.1,o1.2.2.1,λp a b=>?_⟩,o2,o3,o4,o5⟩
 cases z:F1 p with
 |none=>exact o1.2.2.2 p z b
 |some w=>exact x.2.2.2 p a (by rw[z];exact sN _)
variable {L:List Sl}
def CDivG (i j:Int):Prop:=0<j/\mN i j=qL
noncomputable instance (i j:Int):Decidable (CDivG i j):=inferInstanceAs (Decidable (_/\_))
noncomputable instance (i j:Int):Decidable (IntMulOk i j):=inferInstanceAs (Decidable (¬_))
abbrev mMulG:R2:=mI IntMulOk λi j=>.int (i*j)
abbrev mDivG:R2:=mI CDivG λi j=>.int (i / j)
theorem zmw_ {X:Cx}:OpR X (k7 .Mult) mMulG:=opM (opI λ_ _ _ _ _ _ _ hc q=>mul_int q hc)
theorem zlp_ {X:Cx}:OpR X (k7 .FloorDiv) mDivG:=opM (opI λi j _ _ _ _ _ hc q=>by
 have h1:(0:Int)<j:=hc.1;exact floordiv_int (by lia) (by rw[Int.fdiv_eq_ediv_of_nonneg i (by lia)];exact q) (.inl hc.2))
theorem zmz_:EvT K tTrue E L (.ok qK):=λσ F H Q hL hs q=>q.ok hs
end
section
variable {α:Type}
open PySem PySem.Spec PyProof.Rows in
theorem zka_ {a j:Int}(h0:0<j)(h:j.natAbs.log2<9000):CDivG a j:=by
 refine⟨h0,?_⟩;unfold mN;simp only;rw[Bool.and_eq_false_iff];left;rw[decide_eq_false_iff_not];split<;>lia
theorem log2_lt {n k:Nat}(h:n<2 ^ k):n.log2<k\/n=0:=by
 by_cases hz:n=0
 ·exact .inr hz
 ·exact .inl ((Nat.log2_lt hz).mpr h)
theorem zkh_ {a j:Int}(h0:0<j)(h:j<2 ^ 1000):CDivG a j:=by
 refine zka_ h0 ?_;have h1:j.natAbs<2 ^ 1000:=by
  have:((2:Int) ^ 1000)=((2 ^ 1000:Nat):Int):=by rw[Int.natCast_pow];rfl
  rw[this]at h;lia
 rcases log2_lt h1 with h |h
 ·lia
 ·rw[h];decide
open PySem PySem.Spec PyProof.Rows in
theorem zcZ_ {i j:Int}(h : -(2 ^ 64)<i/\i<2 ^ 64 \/ -(2 ^ 64)<j/\j<2 ^ 64):IntMulOk i j:=CMul.ok h
theorem atI_nn {xs:List α}{k:Int}(h0:0<=k):atI xs k=xs[k.toNat]?:=by
 unfold atI ixN;rw[if_pos h0];split
 ·rfl
 ·rename_i h
  rw[kd (by omega)];rfl
theorem ze3_ {xs:List α}{k:Int}(h0:0<=k)(h1:k<xs.length):∃x,atI xs k=qI x/\x∈xs:=by
 rw[atI_nn h0,iL (show k.toNat<xs.length by lia)]
 exact⟨_,rfl,mJ _⟩
end
section
variable {F0 H0 F h H:Hp}
theorem zdZ_ {p:iQ}{o':HO}{h1' hr h':Hp}(ok:Okk F0 H0 F h H)(hp:h p≠qJ)(nt:∀xs,o'≠.tup xs)(h':Hp)(hh:∀q,h' q=if q=p then qI o' else h q):Okk F0 H0 F h' (upd H p o'):=by
 obtain⟨o1,o2,o3,o4,o5⟩:=ok;have Fp:F p=qJ:=by
  rcases o2 p with z |z
  ·exact z
  ·exact absurd z hp
 have cm:H0 p=qJ:=o4 p hp;refine⟨⟨o1.1,λq o z=>?_,λq o z=>?_,o1.2.2.2⟩,λq=>?_,λq o z=>?_,λq z=>?_,λq ys z=>?_⟩
 ·unfold upd;split
  ·rename_i w;rw[w,Fp]at z;cases z
  ·exact o1.2.1 _ _ z
 ·unfold upd;split
  ·rename_i w;rw[w,cm]at z;cases z
  ·exact o1.2.2.1 _ _ z
 ·rw[hh];split
  ·rename_i w;rw[w];exact .inl Fp
  ·exact o2 q
 ·rw[hh]at z;unfold upd
  split at z
  ·rename_i w;rw[if_pos w];exact z
  ·rename_i w;rw[if_neg w];exact o3 _ _ z
 ·rw[hh]at z;split at z
  ·rename_i w;rw[w];exact cm
  ·exact o4 q z
 ·rw[hh]at z;split at z
  ·exact nt ys (by injection z)
  ·exact o5 q ys z
@[irreducible] def fuelW:Nat:=100000
end
open PySem.SeqAt
open PySem.AutoSeq1 (wpAny_loadPart')
open PySem.MeetsSeq PySem.MeetsSeq2 PySem.MeetsSeq3
section
end
noncomputable def repL {α:Type}(xs:List α)(n:Int):List α:=(iT n.toNat xs).flatten
def CRep (m:Nat)(n:Int):Prop:=0<=n/\n<=100000/\m<=100000/\m*n.toNat<=100000
noncomputable instance (m:Nat) (n:Int):Decidable (CRep m n):=inferInstanceAs (Decidable (_/\_))
def mMulX:R2:=λx y H Q=>match x,y with
 |.int i,.int j=>IntMulOk i j/\Q (.int (i*j)) H
 |.str z,.int n=>CRep z.cps.toList.length n/\Q (tx (repL z.cps.toList n)) H
 |.ref l,.int k=>∃xs,H l=qI (.lst xs)/\CRep xs.length k/\∀p,H p=qJ->Q (.ref p) (upd H p (.lst (repL xs k)))
 |_,_=>False
theorem zhS_ (z:Array Nat)(n:Nat):(mZ (λx1 x2=>x1++x2) #[] (iT n z)).toList=(iT n z.toList).flatten:=by
 have:∀(l:List (Array Nat)) (acc:Array Nat),(l.foldl (λx1 x2=>x1++x2) acc).toList=acc.toList++(l.map nL).flatten:=by
  intro l;induction l with
  |nil=>intro acc;simp
  |cons a l ih=>intro acc;rw[l0,ih];simp
 rw[this];simp
theorem zls_ {X:Cx}:OpR X (k7 .Mult) mMulX:=by
 intro pins s σ H x y v u Q I rx ry h
 cases x<;>cases y<;>first
  |exact h.elim
  |exact zmw_ pins s σ H _ _ v u Q I rx ry h
  | (obtain⟨xs,hl,⟨c1,c2,c3,c4⟩,q⟩:=h
     exact zo9_ pins s σ H _ _ v u Q I rx ry ⟨_,_,xs,rfl,rfl,hl,by lia,by lia,zaB_ c4,q⟩)
  | (rename_i z n
     obtain⟨⟨c1,c2,c3,c4⟩,q⟩:=h;obtain⟨t,rfl⟩:=rx;obtain⟨t',rfl⟩:=ry;have hz:z.length=z.cps.toList.length:=by simp[kZ]
     refine PySem.P.mul_str (by simp;lia) (λh1 h2=>?_) (λh1 h2=>?_) ?_
     ·rw[hz]
      have hn:0<n:=by lia
      have:(z.cps.toList.length:Int)*n<=2 ^ 63-1:=by
       have e:n=(n.toNat:Int):=by lia
       rw[e,<- Int.natCast_mul];lia
      have:=Int.le_ediv_of_mul_le hn this;lia
     ·unfold oz
      rw[hz];have:=zaB_ c4;exact decide_eq_false (by lia)
     ·by_cases h1:n<1
      ·rw[if_pos h1]
       have:n=0:=by lia
       subst this;exact⟨kJ _,tx [],H,I.tok _,⟨_,rfl⟩,q⟩
      ·rw [if_neg h1]
       by_cases h2:(n == 1 ||z.length == 0)=qK
       ·rw[if_pos h2]
        have e:repL z.cps.toList n=z.cps.toList:=by
         unfold repL;rw[lK]at h2;rcases h2 with h2 |h2
         ·have:n=1:=by simpa using h2
          subst this;simp
         ·have:z.cps.toList=[]:=j4.mp (by rw[<- hz];simpa using h2)
          rw[this];simp
        rw[e]at q;refine⟨tx z.cps.toList,H,I,⟨t,?_⟩,q⟩;show mx z t=mx ⟨z.cps.toList.toArray⟩ t
        rw[<- za9_]
       ·rw[if_neg h2]
        refine⟨?_,tx (repL z.cps.toList n),H,I.tok _,⟨s.toks,?_⟩,q⟩
        ·have e:(⟨mZ (λx1 x2=>x1++x2) #[] (iT n.toNat z.cps)⟩:Str).length=(iT n.toNat z.cps.toList).flatten.length:=by
          rw[<- zhS_];simp[kZ]
         rw[e,zhI_];exact zaB_ (by rw[pS];exact c4)
        show mx _ _=mx _ _
        congr 1;unfold repL;rw[<- zhS_])
section
variable {α:Type}{H:Hp}{T:Ty α}
theorem zlN_ {xs:List α}{vs:List V}(hr:Prs T H xs vs)(n:Int):Prs T H (repL xs n) (repL vs n):=by
 unfold repL;induction n.toNat with
 |zero=>exact .nil
 |succ m ih=>rw[jJ,jJ,kR,kR];exact hr.append ih
noncomputable def strsL (l:List (List Nat)):List Str:=l.map λz=>⟨z.toArray⟩
end
section
variable {κ:Type}
variable [DecidableEq κ]
end
section
variable {κ:Type}[DecidableEq κ]
end
section
end
theorem zpc_:isSubtype (l6 "int") (l6 "int")=pure qK:=by first |rfl |exact AutoSeq1.sub_int_int
theorem zo7_:typeLookup (l6 "str") (mU "__int__")=pure qJ:=by kernel_rfl!
theorem zou_:typeLookup (l6 "str") (mU "__index__")=pure qJ:=by kernel_rfl!
theorem znu_:typeLookup (l6 "str") (mU "__trunc__")=pure qJ:=by kernel_rfl!
theorem zkC_ {t:Tok}{c:Nat}(h0:48<=c)(h1:c<=57):Meets (Builtin.«int.__new__» ⟨[.type "int",.str ⟨#[c]⟩ t],[]⟩) (λ_ R s=>R (.ok (.ret (.int ((c:Int)-48) s.toks))) {s with toks:=s.toks+1}):=by
 intro prog w A R s h;have f2:=zpc_;have f3:=PySem.F.madeHere_int;have f4:=zo7_;have f5:=zou_;have f6:=znu_
 wp_walk
 refine Eq.mp (congrArg (λt=>jq (model prog w) A.in1 t _ _ _) (?e:mkInt ((c:Int)-48)=_)) ?_
 case e=>
  have:c=48\/c=49\/c=50\/c=51\/c=52\/c=53\/c=54\/c=55\/c=56\/c=57:=by lia
  clear h f2 f3 f4 f5 f6 h0 h1;rcases this with rfl |rfl |rfl |rfl |rfl |rfl |rfl |rfl |rfl |rfl<;>kernel_rfl!
 wp_walk
 exact h
noncomputable def figB (z:List Nat):Bool:=match z with |[c]=>decide (48<=c/\c<=57)|_=>qL
noncomputable def figV (z:List Nat):Int:=match z with |[c]=>(c:Int)-48 |_=>0
def mIntC:List V->Hp->VK->Prop:=λxs H Q=>match xs with
 |[.str z]=>figB z.cps.toList=qK/\Q (.int (figV z.cps.toList)) H
 |[.bl b]=>Q (.int (if b=qK then 1 else 0)) H
 |_=>False
theorem zgX_ {X:Cx}:CallR X (.type "int") mIntC:=by
 intro pins s σ H xs us Q I r h;unfold mIntC at h;split at h
 ·rename_i z
  obtain⟨u,rfl,t,rfl⟩:=vals1 r;obtain⟨hf,q⟩:=h;unfold figB at hf;split at hf
  ·rename_i c hc
   have hz:z=⟨#[c]⟩:=by rw[za9_ z,hc]
   subst hz;have hf:=of_decide_eq_true hf;refine call_int_1 (zkC_ hf.1 hf.2) ?_;refine⟨?_,.int ((c:Int)-48),H,I.tok _,⟨_,rfl⟩,q⟩;exact rfl
  ·cases hf
 ·rename_i b
  obtain⟨u,rfl,ru⟩:=vals1 r;cases ru;exact call_int_bool ⟨.int (if b=qK then 1 else 0),H,I.tok _,⟨_,rfl⟩,h⟩
 ·exact h.elim
section
end
end L2
namespace Att
open PySem PySem.W PySem.Calls PyProof.Rows
theorem zje_ {ns:List Int}(h:WData.layableAll [WData.list (ns.map WData.int)]=qK):∀x∈ns,mf x<=1048576:=by
 intro x hx;have h1:=layableW_arg h _ (j6.mpr rfl);have h2:=layableW_item h1 (.int x) (jV.mpr ⟨x,hx,rfl⟩);exact PyData.bits_of_layable (layable_int h2)
theorem attach_callB {l:OpenLaw}{n:Nat}{q:jr}{loose:List Str}{XP:(Str->Option fv)->Heap->Prop}{YP:jH->Heap->Prop}{d:DefRec}
  (hn:l.most=qI n) (dy:d.params.defaults=[])
  (call:∀(w:jH) (s₀ aa:iM) (mg mb:Str->Option fv) (fa:iQ) (o:oN) (pm cd doc:fv) (a:iQ) (vs:List fv) (ns:List Int),
   (∀x∈ns,mf x<=1048576) ->
   Ground q loose [] XP w s₀ mg mb aa.heap->YP w aa.heap ->
   aa.heap.get? fa=qI o->o.data=.func (docDef d.name d.params d.body d.scope pm cd doc)->aa.heap.CodeRec cd d.name->mg d.name=qI (.ref fa) ->
   aa.heap.get? a=qI {cls:=.type "list",data:=.seq vs.toArray}->IntsAre vs ns->ns.length<=n->aa.gens=#[] ->
   codeAny (model l.prog w) callerA (.call (.ref fa) ⟨[.ref a],[]⟩) (λr s'=>r=.ok (.ret (.bool qK))/\OldK aa.heap s'.heap/\s'.os=aa.os/\AllBare s'.gens) aa):
  WalkO q loose XP YP l.row.toRowW d [] (λf vs=>px f vs):=by
 intro w s₀ aa mg mb G Y fa o pm cd doc dV kV ho hd au hD c8 hg args vals as bI eX iF eL iG;obtain rfl:dV=.none:=Dflts.none hD dy;obtain rfl:kV=.none:=Dflts.noKw hD;obtain⟨a,vs,ns,rfl,rfl,bW,hints,hlen⟩:=zgx_ hn bI eL;refine enter_call (codeAny_mono (call w s₀ aa mg mb fa o pm cd doc a vs ns (zje_ eX) G Y ho (fd_plain hd) au c8 bW hints hlen hg) λr s' hq=>?_)
 obtain⟨rfl,h2,h3,h4⟩:=hq;exact⟨.inl ⟨.bool qK,.bool qK,[],rfl,λ_=>rfl,.bool qK,zgd_ l _,λ_=>⟨qG,λ_ hm=>(nomatch hm)⟩⟩,h2,h3,h4⟩
end Att
namespace L2
open PySem PySem.Spec PyProof.Rows
theorem zjG_ {l:pK}{n k:Nat}{q:jr}{loose:List Str}{XP:(Str->Option fv)->Heap->Prop}{YP:jH->Heap->Prop}{d:DefRec}{K:Params->Fgg}{CX:jH->CXT}{sp:jH->Sp}{x:Str}
  (hn:l.most=qI n) (dX:n<=iZ) (dy:d.params.defaults=[]) (hr:Room k callerA) (bX:∀p,lamOk q (K p)=qK)
  (hY:∀(w:jH) (h:Heap),YP w h->(K w.params).In h)
  (F:∀(w:jH) (mg:Str->Option fv) (fa:iQ) (h:Heap),(K w.params).In h->h.Ns jf mg->mg d.name=qI (.ref fa) ->
   ∃fd:kf,(∀(s:iM) (u:fv),BindsTo s fd ⟨[u],[]⟩ [(x,u)]) /\
    ∀base:Heap,(K w.params).In base->base.Ns jf mg->FnOk l.prog w (K w.params) mg base (CX w) k fa fd [x] (sp w))
  (cz:∀(w:jH) (H:Hp) (a:iQ) (ns:List Int),ns.length<=n->(∀x∈ns,mf x<=1048576)->Only H->SqL (K w.params) H a (ns.map V.int)->sp w [.ref a] H (λv _=>v=.bl qK) λ_ _ _=>False)
  (fh:∀(w:jH) (H:Hp) (s:iM) (e:fv) (s':iM),CX w [] H s (λ_ _ _=>False) e s'->False):
  W.WalkO q loose XP YP l.row.toRowW d [] (λf vs=>px f vs):=by
 refine Att.attach_callB hn dy λw s₀ aa mg mb fa o pm cd doc a vs ns dB G Y ho hd au c8 bW hints hlen hg=>?_
 have KX:=hY w _ Y;obtain⟨fd,hb,hF⟩:=F w mg fa _ KX G.T.g c8;exact zjz_ KX G.T.g G.T.b G.T.builtins G.T.nolimit G.T.bmain hg bW hints (kH hlen dX) hr hF hb (λH hO hS=>cz w H a ns hlen dB hO hS) (λH e s'=>fh w H aa e s') (zl5_ G.T KX (bX _))
abbrev BitsOk (ns:List Int):Prop:=∀x∈ns,mf x<=1048576
open PySem PySem.Spec PyProof.Rows PySem.W
section
variable {α:Type}
structure LOr (lt:α->α->Bool):Prop where
 asym:∀{a b},lt a b=qK->lt b a=qL
 tr:∀{a b c},lt b a=qL->lt c b=qL->lt c a=qL
 anti:∀{a b},lt a b=qL->lt b a=qL->a=b
noncomputable def srtL (lt:α->α->Bool)(xs:List α):List α:=xs.mergeSort (λa b=>!lt b a)
theorem zgm_ (lt:α->α->Bool)(xs:List α):(srtL lt xs).Perm xs:=List.mergeSort_perm _ _
theorem zeF_ {lt:α->α->Bool}(o:LOr lt)(xs:List α):(srtL lt xs).Pairwise λa b=>lt b a=qL:=by
 have:=List.pairwise_mergeSort (le:=λa b=>!lt b a) (λa b c h1 h2=>by simp only[nh]at *;exact o.tr h1 h2) (λa b=>by
  cases h:lt b a with
  |false=>simp
  |true=>simp[o.asym h]) xs
 exact this.imp (λh=>by simpa using h)
theorem zfo_ {lt:α->α->Bool}(o:LOr lt):∀{ws ys:List α},ws.Perm ys->ws.Pairwise (λa b=>lt b a=qL)->ys.Pairwise (λa b=>lt b a=qL)->ws=ys
 |[],ys,hp,_,_=>by rw[List.Perm.nil_eq hp]
 |w::ws,[],hp,_,_=>by have:=hp.length_eq;simp at this
 |w::ws,y::ys,hp,h1,h2=>by
  obtain⟨a1,a2⟩:=mq.mp h1;obtain⟨b1,b2⟩:=mq.mp h2;have e:w=y:=by
   have m1:w∈y::ys:=hp.mem_iff.mp (i5 ..);have m2:y∈w::ws:=hp.mem_iff.mpr (i5 ..);rcases ju.mp m1 with e |m1
   ·exact e
   ·rcases ju.mp m2 with e |m2
    ·exact e.symm
    ·exact o.anti (b1 w m1) (a1 y m2)
  subst e;rw[zfo_ o (List.Perm.cons_inv hp) a2 b2]
theorem zgf_ {lt:α->α->Bool}(o:LOr lt){ws xs:List α}(hp:ws.Perm xs)(hs:ws.Pairwise λa b=>lt b a=qL):ws=srtL lt xs:=
 zfo_ o (hp.trans (zgm_ lt xs).symm) hs (zeF_ o xs)
noncomputable def ltS (a b:List Nat):Bool:=decide (a<b)
theorem zoz_:LOr ltS:=by
 unfold ltS;refine⟨λh=>?_,λh h'=>?_,λh h'=>?_⟩<;>simp only[decide_eq_true_eq,decide_eq_false_iff_not]at *
 ·exact λh2=>List.lt_irrefl _ (List.lt_trans h h2)
 ·exact ni.mpr (pG (ni.mp h) (ni.mp h'))
 ·exact List.le_antisymm (ni.mp h') (ni.mp h)
end
end L2
universe u
namespace L2
open PySem PySem.Spec PyProof.Rows
section
end
open PySem PySem.Spec PyProof.Rows PySem.W
section
variable {prog:jr}{w:jH}{A:j3}{E:fv->iM->Prop}{s:iM}{T:String}{rr dd:iQ}{n:Nat}{PP:Nat->fv->Prop}{OK:Heap->Prop}
theorem ziw_ {R:List fv->iM->Prop}(Kd:KdlSrc prog w T rr dd n PP OK)(hh:A.handled=qJ)(hok:OK s.heap)(hn:n<=iZ)
  (hR:∀(h':Heap) (tk:Nat) (acc:Array fv),s.heap.objs.size<h'.objs.size->(∀b o,s.heap.get? b=qI o->h'.get? b=qI o)->ItemsOf PP acc n->R acc.toList {s with heap:=h',toks:=tk}):
  jq (model prog w) A (collect (.ref rr)) R E s:=by
 obtain⟨lr,ld⟩:=Kd.there _ hok;unfold collect;refine iX (wpAny_runValue (codeAny_builtin entry_proto_collect' ?_));rw[Around.under_plainId PySem.F.plain_proto_collect _];show jq _ A.in1 (newList []>>=λl=>again (.builtin "list.__iadd__" ⟨[l,.ref rr],[]⟩)) _ _ s;refine iX (wpAny_newObj_type ?_)
 refine je ⟨plainId_quiet nD _,codeAny_builtin entry_list_iadd' ?_⟩;rw[Around.under_plainId nD _];have h0:(s.heap.push {cls:=.type "list",data:=.seq ([]:List fv).toArray}).get? s.heap.objs.size=qI {cls:=.type "list",data:=.seq #[]}:=jj _ rfl;show jq _ A.in1 (pd (.ref s.heap.objs.size) (.ref rr) (.ref s.heap.objs.size)) _ _ _
 have key:=kdl_extend (A:=A) (s:={s with heap:=s.heap.push {cls:=.type "list",data:=.seq ([]:List fv).toArray}})
  (R:=λ(q:Result) (s':iM)=>∃(h':Heap) (tk:Nat) (acc:Array fv) (c:Nat),q=.ok (.ret (.ref s.heap.objs.size))/\s'={s with heap:=h',toks:=tk}/\(∀b o,s.heap.get? b=qI o->h'.get? b=qI o)/\h'.get? s.heap.objs.size=qI {cls:=.type "list",dict:=qJ,data:=.seq acc c,slots:=#[]}/\ItemsOf PP acc n)
  Kd hh (Kd.keep _ _ hok λb _ o e=>iU _ e) s.heap.objs.size (mR lr) (mR ld) (.ref s.heap.objs.size) 0 h0
  (λh' tk acc c hk hS ax=>⟨h',tk,acc,c,rfl,rfl,λb o e=>hk b o (jQ (i9 e)) (iU _ e),hS,ax⟩) hn
 refine kr key (λfin s' x=>?_) λe s' x=>?_
 ·cases fin with
  |done f=>
   obtain⟨h',tk,acc,c,e,rfl,hk,hS,ax⟩:=x;cases e;show jq _ A (load s.heap.objs.size>>=_) _ _ _
   exact iX (wpAny_load hS (je (hR h' tk acc (i9 hS) hk ax)))
  |again c1=>
   refine⟨x.1,codeAny_mono x.2 λq s2 y=>?_⟩;obtain⟨h',tk,acc,c,rfl,rfl,hk,hS,ax⟩:=y
   show jq _ A (load s.heap.objs.size>>=_) _ _ _;exact iX (wpAny_load hS (je (hR h' tk acc (i9 hS) hk ax)))
 ·obtain⟨_,_,_,_,e',_⟩:=x;cases e'
end
section
theorem is_kV {P:jr}{w:jH}{k:Key}{u:fv}(h:(mixKind P w).is k u=qK):RelV (kV k) u:=by
 rw[zfl_]at h;rcases zF_ h with⟨i,t,rfl,rfl⟩|⟨x,t,rfl,rfl⟩<;>exact⟨_,rfl⟩
end
section
variable {α:Type}
def OwAll (O:Own α)(F:Hp):List α->List V->Hp->Prop
 |[],[],h=>∀p,h p=qJ
 |x::xs,v::vs,h=>∃h1 h2,Jn h1 h2 h/\O.O x v F h1/\OwAll O F xs vs h2
 |_,_,_=>False
variable {O:Own α}
theorem OwAll.mono:∀{xs:List α}{vs:List V}{F F' h:Hp},Same F F'->OwAll O F xs vs h->OwAll O F' xs vs h
 |[],[],_,_,_,_,q=>q
 |x::xs,v::vs,F,F',h,g,q_=>by obtain⟨h1,h2,j,o,r⟩:=q_;exact⟨h1,h2,j,O.mono g o,r.mono g⟩
 |[],_::_,_,_,_,_,q=>q.elim
 |_::_,[],_,_,_,_,q=>q.elim
theorem OwAll.notup:∀{xs:List α}{vs:List V}{F h:Hp},OwAll O F xs vs h->∀p ys,h p≠qI (.tup ys)
 |[],[],_,_,q,p,ys=>by rw[q p];exact λz=>by cases z
 |x::xs,v::vs,F,h,q_,p,ys=>by
  obtain⟨h1,h2,j,o,r⟩:=q_;rcases j p with⟨_,b⟩|⟨_,b⟩
  ·rw[b];exact r.notup p ys
  ·rw[b];exact O.notup o p ys
 |[],_::_,_,_,q,_,_=>q.elim
 |_::_,[],_,_,q,_,_=>q.elim
theorem OwAll.len:∀{xs:List α}{vs:List V}{F h:Hp},OwAll O F xs vs h->xs.length=vs.length
 |[],[],_,_,_=>rfl
 |x::xs,v::vs,F,h,q_=>by obtain⟨h1,h2,j,o,r⟩:=q_;rw[iR,iR,r.len]
 |[],_::_,_,_,q=>q.elim
 |_::_,[],_,_,q=>q.elim
theorem zfB_ {F h1 h:Hp}(d:Dj F h)(s:Same h1 h):Same (un F h1) (un F h):=λp o e=>by
 unfold un at e ⊢;cases z:F p with
 |some w=>rw[z]at e;exact e
 |none=>rw[z]at e;exact s _ _ e
theorem OwAll.prs:∀{xs:List α}{vs:List V}{F h G:Hp},Dj F h->Same (un F h) G->OwAll O F xs vs h->Prs O.fr G xs vs
 |[],[],_,_,_,_,_,_=>.nil
 |x::xs,v::vs,F,h,G,d,g,q_=>by
  obtain⟨h1,h2,j,o,r⟩:=q_;have d1:Dj F h1:=λp=>by
   rcases d p with z |z
   ·exact .inl z
   ·exact .inr (j.l.free z)
  have d2:Dj F h2:=λp=>by
   rcases d p with z |z
   ·exact .inl z
   ·exact .inr (j.r.free z)
  exact .cons (O.fr.mono ((zfB_ d j.l).trans g) (O.frz d1 o)) (r.prs d2 ((zfB_ d j.r).trans g))
 |[],_::_,_,_,_,_,_,q=>q.elim
 |_::_,[],_,_,_,_,_,q=>q.elim
theorem zau_ {h1 h2 h:Hp}(j:Jn h1 h2 h):Jn h2 h1 h:=λp=>by
 rcases j p with⟨a,b⟩|⟨a,b⟩
 ·exact .inr ⟨a,b⟩
 ·exact .inl ⟨a,b⟩
theorem zn_ {h1 h2 f7 h3 h:Hp}(j:Jn h1 h2 f7)(k:Jn f7 h3 h):∃fZ,Jn h2 h3 fZ/\Jn h1 fZ h:=by
 have d:Dj h2 h3:=λp=>by
  rcases k.dj p with z |z
  ·exact .inl (j.r.free z)
  ·exact .inr z
 refine⟨un h2 h3,zaX_ d,λp=>?_⟩
 unfold un;rcases k p with⟨a,b⟩|⟨a,b⟩
 ·refine .inl ⟨j.l.free a,?_⟩
  rw[j.r.free a];exact b
 ·rcases j p with⟨c,e⟩|⟨c,e⟩
  ·refine .inl ⟨c,?_⟩
   rw[b,e];cases z:h2 p with
   |none=>exact a.symm ▸ rfl
   |some w=>rfl
  ·refine .inr ⟨?_,by rw[b,e]⟩
   rw[c];exact a
theorem OwAll.snoc:∀{xs:List α}{vs:List V}{F h:Hp}{x:α}{v:V}{hn:Hp},OwAll O F xs vs h->O.O x v F hn->Dj h hn->OwAll O F (xs++[x]) (vs++[v]) (un h hn)
 |[],[],F,h,x,v,hn,q,o,d=>by
  refine⟨hn,λ_=>qJ,λp=>.inr ⟨rfl,?_⟩,o,λ_=>rfl⟩
  unfold un;rw[q p]
 |y::xs,w::vs,F,h,x,v,hn,q_,o,d=>by
  obtain⟨h1,h2,j,o1,r⟩:=q_;obtain⟨m,jm,jh⟩:=zn_ j (zaX_ d);have d2:Dj h2 hn:=jm.dj;have e:m=un h2 hn:=by
   funext p;unfold un;rcases jm p with⟨a,b⟩|⟨a,b⟩
   ·rw[a];exact b
   ·rw[b]
    cases z:h2 p with
    |none=>exact a.symm ▸ rfl
    |some w=>rfl
  rw[e]at jh;exact⟨h1,_,jh,o1,r.snoc o d2⟩
 |[],_::_,_,_,_,_,_,q,_,_=>q.elim
 |_::_,[],_,_,_,_,_,q,_,_=>q.elim
abbrev owLO (O:Own α):Own (List α):=⟨λxs v F h=>∃p vs h2,v=.ref p/\Jn (one p (.lst vs)) h2 h/\OwAll O F xs vs h2,tyL O.fr,λg ⟨p,vs,h2,e,j,q⟩=>⟨p,vs,h2,e,j,q.mono g⟩,
 λ{a v F h} d ⟨p,vs,h2,e,j,q⟩=>⟨p,vs,e,zdu_ d _ _ (j.l _ _ zy_),q.prs (λb=>by
  rcases d b with z |z
  ·exact .inl z
  ·exact .inr (j.r.free z)) (zfB_ d j.r)⟩,
 λ⟨p,vs,h2,e,j,q⟩ b xs y=>by
  rcases j b with⟨_,z⟩|⟨_,z⟩
  ·rw[z]at y;exact q.notup b xs y
  ·rw[z]at y;unfold one at y;split at y<;>cases y⟩
end
section
end
def mFld (C:iQ)(te:TE)(f:Str):TE:=λσ H Q=>te σ H λx H1=>match x with
 |.ref a=>∃dx fs v,H1 a=qI (.ins C dx fs)/\fs.lookup f=qI v/\Q v H1
 |_=>False
def mSFld (C:iQ)(te tv:TE)(f:Str):TS:=λD σ H=>tv σ H λy H1=>te σ H1 λx H2=>match x with
 |.ref a=>∃dx fs,H2 a=qI (.ins C dx fs)/\fs.length<1000/\D.nx σ (upd H2 a (.ins C dx (putF f y fs)))
 |_=>False
def Gm (P:jr)(w:jH)(K:Fgg)(mg:Str->Option fv)(base:Heap)(CX:CXT)(k:Nat)(C:iQ)(m:Str)(ps:List Str)(sp:Sp):Prop:=
 ∃f fd,FnOk P w K mg base CX k f fd ps sp/\Cls K C/\Meth K C m f/\Binds K fd ps []
def Gk (P:jr)(w:jH)(K:Fgg)(mg:Str->Option fv)(base:Heap)(CX:CXT)(k:Nat)(x:Str)(C:iQ)(ps:List Str)(sp:Sp):Prop:=
 ∃f fd,FnOk P w K mg base CX k f fd ps sp/\Mk K C f/\mg x=qI (.ref C)/\Binds K fd ps []
section
variable {X:Cx}{e value o:i4}{f x:Str}{pos pos':Pos}{ta tv:TE}{C:iQ}
theorem zmT_ (c:Cls X.K C)(n:NoAttr X.K C f)(he:PE X e ta)(hb:attributeBase e f X.env (eval e X.env)=eval e X.env:=by rfl):PE X (.Attribute e f pos) (mFld C ta f):=by
 intro pins s σ H Q I h;refine zmp_ hb (thn (he pins s σ H _ I h) λu s1 ae=>?_)
 obtain⟨x,H1,I1,rx,q1⟩:=ae;cases x with
 |ref a=>
  obtain⟨dx,fs,v,ea,l,q⟩:=q1;obtain rfl:u=jK a:=rx;exact zeQ_ I1 ea c n l λu' s2 I2 ru=>⟨v,H1,I2,ru,q⟩
 |_=>exact q1.elim
theorem zia_ (c:Cls X.K C)(n:NoAttr X.K C f)(ha:PE X o ta)(hv:PE X value tv)(hs:swapsWith value (qI (.Attribute o f pos')) pos.line X.env=pure qL:=by rfl):PS X (.Assign [.Attribute o f pos'] value pos) (mSFld C ta tv f):=by
 intro pins s σ H D I h;refine plainObj_wpAny_Assign_Attribute (thn (hv pins s σ H _ I h) λu s1 ⟨y,H1,I1,ry,q⟩=>thn (ha pins s1 σ H1 _ I1 q) λov s2 ae=>?_) hs
 obtain⟨x,H2,I2,rx,q2⟩:=ae;cases x with
 |ref a=>
  obtain⟨dx,fs,ea,l,q3⟩:=q2;obtain rfl:ov=jK a:=rx;exact zeY_ I2 ea c n l ry λs3 I3=>⟨σ,_,I3,q3⟩
 |_=>exact q2.elim
end
theorem zbM_:∀{ns:List Str}{vs:List V}{f:Str},f∉ns->(ns.zip vs).lookup f=qJ
 |[],_,_,_=>rfl
 |n::ns,[],_,_=>rfl
 |n::ns,w::vs,f,h=>by
  have eT:(f == n)=qL:=beq_eq_false_iff_ne.mpr λz=>h (z ▸ i5 ..)
  rw[jt,l7,eT];exact zbM_ λz=>h (i7 _ z)
theorem zfI_:∀{ns:List Str}{vs:List V}{f:Str}(v:V),f∉ns->vs.length=ns.length->putF f v (ns.zip vs)=(ns++[f]).zip (vs++[v])
 |[],[],f,v,_,_=>rfl
 |[],_::_,_,_,_,h=>by simp at h
 |_::_,[],_,_,_,h=>by simp at h
 |n::ns,w::vs,f,v,h,hl=>by
  have eT:¬n=f:=λz=>h (z ▸ i5 ..)
  rw[jt,putF,if_neg eT,zfI_ v (λz=>h (i7 _ z)) (by simpa using hl)];rfl
section
variable {α:Type}
theorem dj_l {F h1 h2 h:Hp}(d:Dj F h)(j:Jn h1 h2 h):Dj F h1:=λp=>by
 rcases d p with z |z
 ·exact .inl z
 ·exact .inr (j.l.free z)
theorem dj_r {F h1 h2 h:Hp}(d:Dj F h)(j:Jn h1 h2 h):Dj F h2:=λp=>by
 rcases d p with z |z
 ·exact .inl z
 ·exact .inr (j.r.free z)
def two (p dx:iQ)(o:HO):Hp:=λq=>if q=p then qI o else if q=dx then qI (.own p)else qJ
theorem zm7_ {p dx:iQ}{o:HO}:two p dx o p=qI o:=if_pos rfl
noncomputable abbrev owAt (u:V)(O:Own α):Own α:=⟨λa v F h=>v=u/\O.O a v F h,O.fr,λg q=>⟨q.1,O.mono g q.2⟩,λd q=>O.frz d q.2,λq=>O.notup q.2⟩
theorem jn_re {b t m a h:Hp}(jm:Jn b t m)(j:Jn a m h):Jn t (un a b) h:=λq=>by
 rcases j q with⟨x,y⟩|⟨x,y⟩
 ·rcases jm q with⟨c,e⟩|⟨c,e⟩
  ·right
   refine⟨by unfold un;rw[x,c],by rw[y,e]⟩
  ·left
   refine⟨c,by unfold un;rw[x,y,e]⟩
 ·left
  refine⟨jm.r.free x,?_⟩;unfold un;rw[y];cases z:a q with
  |none=>exact(jm.l.free x).symm ▸ rfl
  |some w=>rfl
theorem dj_of {a b t m h:Hp}(jm:Jn b t m)(j:Jn a m h):Dj a b:=λq=>by
 rcases j.dj q with z |z
 ·exact .inl z
 ·exact .inr (jm.l.free z)
variable {F0 H0 F h H:Hp}
theorem zcy_ {k:Hp}(ok:Okk F0 H0 F h H)(s:Same k h):Okk F0 H0 F k H:=by
 refine⟨ok.1,λp=>?_,s.trans ok.2.2.1,λp z=>ok.2.2.2.1 p λy=>z (s.free y),λp xs z=>ok.2.2.2.2 p xs (s _ _ z)⟩
 rcases ok.2.1 p with z |z
 ·exact .inl z
 ·exact .inr (s.free z)
theorem zgR_ {h:Hp}(p:iQ)(z:h p≠qJ):less H h p=qJ:=by
 unfold less;cases y:h p with
 |none=>exact absurd y z
 |some w=>rfl
theorem zkY_:Same (less H h) H:=λp o z=>by
 unfold less at z;split at z
 ·exact z
 ·cases z
theorem zbD_ (hs:Same F H)(dj:Dj F h)(hh:Same h H)(nt:∀p xs,h p≠qI (.tup xs)):Okk F (less H h) F h H:=by
 refine⟨⟨Same.refl _,hs,zkY_,λp a b=>absurd a b⟩,dj,hh,λp z=>zgR_ p z,nt⟩
end
section
variable {X:Cx}
def mTrL (K:Fgg)(t:TE):TT:=λσ H Q=>t σ H λx H'=>match x with
 |.bl k=>Q k H'
 |.ref a=>∃xs,SqL K H' a xs/\Q (!xs.isEmpty) H'
 |_=>False
theorem zpG_ {e:i4}{t:TE}(h:PE X e t)(he:∀whole,isTrue e X.env whole=(do let v <- whole;standAt e.pos;holding [v] (truthy v)):=by intro _;rfl):PT X e (mTrL X.K t):=by
 intro pins s σ H Q I hw;refine isTrue_plain (thn (h pins s σ H _ I hw) λv s1 ae=>?_) (he _)
 obtain⟨x,H1,I1,r1,q1⟩:=ae;cases x with
 |bl c=>cases r1;exact lM ⟨H1,I1,q1⟩
 |ref a=>
  cases r1;obtain⟨xs,hq,q⟩:=q1;obtain⟨its,rv,p,hz⟩:=I1.list hq;have hl:=rv.length;refine wpAny_truthy_list p.isList (by rw[iO,<- hl];rw[sizeLine_eq]at hz;lia) ?_
  have e:its.isEmpty=xs.isEmpty:=by cases rv<;>rfl
  refine⟨H1,I1.tok _,?_⟩
  simpa [e]using q
 |_=>exact q1.elim
end
section
variable {K:Fgg}{E:XK}{α β:Type}{F0 H0 F h:Hp}{L:List Sl}{e te:TE}{T:Ty α}{r:Mo α}{t:TS}{σ:St}{f m:Str}{i n w j:Nat}
theorem zi0_ {lv:List Str}{fr:List (Str×Nat)}{wi:TI}{g:TG}{tt:TT}{te:TE}{r:Mo (List α)}{ss:α->List (Nat×Sl)}{c:α->Mo Bool}{f:α->Mo β}{O':Own β}
  (hi:EvI K wi E L r T) (hg:TgR K g T ss) (hd:∀a,DeadAt (cL lv fr L) ((ss a).map (·.1))) (ht:∀a,EvT K tt E0 (setL (cL lv fr L) (ss a)) (c a)) (he:∀a,EvO K te E0 (setL (cL lv fr L) (ss a)) (f a) O'):
  EvO K (tComp lv fr wi g tt te) E L (r.bind λxs=>compM (λx=>cond1 (c x) (f x)) xs []) (owLO O'):=by
 intro σ F0 H0 Q hL hs q;refine hi σ F0 H0 _ hL hs (q.bind.imp λxs F1 H1 x1 k1 J Y D hD=>?_)
 have ak:=hL.mono x1.1
 refine⟨λi m ys ab H'=>m=xs.length-i/\i<=xs.length/\∃acc Fi hh,Ext F1 H1 Fi H'/\Fi D=qJ/\hh D=qJ/\H' D=qI (.lst ys)/\OwAll O' Fi acc ys hh/\Dj Fi hh/\Same hh H'/\(∀p,hh p≠qJ->H1 p=qJ)/\HoldF (cL lv fr L) ab F1/\ab.length=(cL lv fr L).length/\After K (compM (λx=>cond1 (c x) (f x)) (xs.drop i) acc) E F1 H1 (OwnK (owLO O') H0 Q),
  ⟨_,rfl,kJ _,[],F1,λ_=>qJ,.heap x1.2.1 (zax_ hD _),x1.2.1.free hD,rfl,zm_,λ_=>rfl,λ_=>.inr rfl,(λp o z=>by cases z),λp z=>absurd rfl z,zfq_ ak,zjH_.symm,k1⟩,?_⟩
 rintro i m ys ab H' ⟨rfl,hi,acc,Fi,hh,xi,hDi,hDh,hy,hp,dj,sh,fresh,hσ,bg,A⟩;by_cases ay:i<xs.length
 ·right
  have ex:xs[i]?=qI xs[i]:=iL ay;obtain⟨g1,g2⟩:=Y.go i H' xs[i] (xi.1.trans xi.2.1) ex;refine⟨g1,λbE bS cp=>i+1<=xs.length/\∃acc Fi hh,Ext F1 H1 Fi cp/\Fi D=qJ/\hh D=qJ/\cp D=qI (.lst bE)/\OwAll O' Fi acc bE hh/\Dj Fi hh/\Same hh cp/\(∀p,hh p≠qJ->H1 p=qJ)/\HoldF (cL lv fr L) bS F1/\bS.length=(cL lv fr L).length/\After K (compM (λx=>cond1 (c x) (f x)) (xs.drop (i+1)) acc) E F1 H1 (OwnK (owLO O') H0 Q),λbE bS cp z=>⟨xs.length-(i+1),by omega,rfl,z⟩,λv H2 gw=>?_⟩
  obtain⟨F2,x2,hv⟩:=g2 v H2 gw Fi xi.1 xi.2.1;have keep:∀{Fa Ha Fb Hb:Hp},Ext Fa Ha Fb Hb->Fa D=qJ->Ha D=qI (.lst ys)->Dj Fa hh->Same hh Ha->(Fb D=qJ/\Hb D=qI (.lst ys))/\Dj Fb hh/\Same hh Hb:=by
   intro Fa Ha Fb Hb x h1 h2 h3 h4;refine⟨⟨?_,x.2.2.1 _ _ h2⟩,λp=>?_,h4.trans x.2.2.1⟩
   ·cases z:Fb D with
    |none=>rfl
    |some o=>have:=x.2.2.2 D h1 (by rw[z];exact sN _);rw[h2]at this;cases this
   ·cases y:hh p with
    |none=>exact .inr rfl
    |some w=>
     left;rcases h3 p with z |z
     ·cases zz:Fb p with
      |none=>rfl
      |some o=>have:=x.2.2.2 p z (by rw[zz];exact sN _);rw[h4 _ _ y]at this;cases this
     ·rw[z]at y;cases y
  obtain⟨⟨ia,hy2⟩,fu,sh2⟩:=keep x2 hDi hy dj sh;refine hg xs[i] v ab F2 H2 _ x2.2.1 hv λvs aI=>?_
  have eJ:HoldF (cL lv fr L) ab F2:=hσ.mono (xi.1.trans x2.1);obtain⟨a1,a2,a3⟩:=zeq_ aI bg.symm eJ;have cT:HoldF (cL lv fr L) (setS ab vs) F1:=by
   have dz:=hd xs[i];refine λj s e=>?_
   by_cases hj:∃q∈(ss xs[i]).map (·.1),q=j
   ·obtain⟨q,hq,rfl⟩:=hj
    rw[dz q hq s e];trivial
   ·have:((setS ab vs)[j]?)=ab[j]?:=zjn_ aI (λhq=>hj ⟨j,hq,rfl⟩)
    rw[this];exact hσ j s e
  have dt:xs.drop i=xs[i]::xs.drop (i+1):=lE ay;rw[dt]at A;unfold compM at A;cases ec:c xs[i]with
  |no=>unfold cond1 at A;rw[ec]at A;exact A.elim
  |ex cc=>unfold cond1 at A;rw[ec]at A;exact A.elim
  |ok bb=>
   refine ht xs[i] _ F2 H2 _ a1 x2.2.1 ?_;rw[ec];intro F3 H3 x3;obtain⟨⟨fY,hy3⟩,dj3,sh3⟩:=keep x3 ia hy2 fu sh2;have d6:=(xi.trans x2).trans x3;cases bb with
   |false=>
    rw[if_neg (by decide)]
    refine⟨ay,acc,F3,hh,d6,fY,hDh,hy3,hp.mono (x2.1.trans x3.1),dj3,sh3,fresh,cT,by rw[a2];exact bg,?_⟩
    unfold cond1 at A;rw[ec]at A;exact A
   |true=>
    rw[if_pos rfl];cases ef:f xs[i]with
    |no=>unfold cond1 at A;rw[ec,ef]at A;exact A.elim
    |ex cc=>unfold cond1 at A;rw[ec,ef]at A;exact A.elim
    |ok y=>
     unfold cond1 at A;rw[ec,ef]at A;have A':After K (Mo.lim (acc.length+1) (compM (λx=>cond1 (c x) (f x)) (xs.drop (i+1)) (acc++[y]))) E F1 H1 (OwnK (owLO O') H0 Q):=A
     obtain⟨hz,A'⟩:=A'.lim;refine he xs[i] _ F3 H3 _ (a1.mono x3.1) x3.2.1 ?_;rw[ef];intro F4 H4 x4 v4 hn fk fq gj gz;obtain⟨⟨fX,hy4⟩,iz,sh4⟩:=keep x4 fY hy3 dj3 sh3;have hlen:=hp.len;have fQ:hn D=qJ:=by
      cases z:hn D with
      |none=>rfl
      |some w=>have:=fk D (by rw[z];exact sN _);rw[hy3]at this;cases this
     have iw:Dj hh hn:=λp=>by
      cases z:hn p with
      |none=>exact .inr rfl
      |some w=>exact .inl (sh3.free (fk p (by rw[z];exact sN _)))
     have dM:=d6.trans x4;refine⟨hy4,by omega,ay,acc++[y],F4,un hh hn,?_,fX,by unfold un;rw[hDh];exact fQ,zm_,(hp.mono ((x2.1.trans x3.1).trans x4.1)).snoc gz iw,λp=>?_,λp o z=>?_,λp z=>?_,cT,by rw[a2];exact bg,A'⟩
     ·refine⟨dM.1,λb o z=>?_,λb o z=>?_,dM.2.2.2⟩
      ·unfold upd;split
       ·rename_i w;rw[w,fX]at z;cases z
       ·exact dM.2.1 _ _ z
      ·unfold upd;split
       ·rename_i w;rw[w,hD]at z;cases z
       ·exact dM.2.2.1 _ _ z
     ·unfold un
      cases z:hh p with
      |some w=>
       rcases iz p with y |y
       ·exact .inl y
       ·rw[y]at z;cases z
      |none=>exact fq p
     ·have gJ:p≠D:=λw=>by
       unfold un at z;rw[w,hDh,fQ]at z;cases z
      unfold upd;rw[if_neg gJ];unfold un at z;cases w:hh p with
      |some o'=>rw[w]at z;cases z;exact sh4 _ _ w
      |none=>rw[w]at z;exact gj _ _ z
     ·unfold un at z
      cases w:hh p with
      |some o'=>exact fresh p (by rw[w];exact sN _)
      |none=>rw[w]at z;exact d6.2.2.1.free (fk p z)
 ·left
  have e:i=xs.length:=by omega
  subst e;refine⟨Y.stop H' (xi.1.trans xi.2.1),?_⟩;rw[mK]at A;have A':OwnK (owLO O') H0 Q acc Fi H':=A Fi H' xi;have dD:Dj (one D (.lst ys)) hh:=λp=>by
   unfold one;split
   ·rename_i w;rw[w];exact .inr hDh
   ·exact .inl rfl
  refine A' (.ref D) (un (one D (.lst ys)) hh) (λp z=>?_) (λp=>?_) (λp o z=>?_) ⟨D,ys,hh,rfl,zaX_ dD,hp⟩
  ·unfold un one at z
   by_cases w:p=D
   ·rw[w];exact x1.2.2.1.free hD
   ·simp only[if_neg w]at z;exact x1.2.2.1.free (fresh p z)
  ·by_cases w:p=D
   ·rw[w];exact .inl hDi
   ·unfold un one;simp only[if_neg w];exact dj p
  ·unfold un one at z
   by_cases w:p=D
   ·simp only[if_pos w]at z;rw[w];cases z;exact hy
   ·simp only[if_neg w]at z;exact sh _ _ z
theorem jn_no {h1 h2 h:Hp}(j:Jn h1 h2 h)(n:∀p,h2 p=qJ):h=h1:=funext λp=>by
 rcases j p with⟨a,b⟩|⟨_,b⟩
 ·rw[b,n,a]
 ·exact b
section
open PySem PySem.Spec PyProof.Rows PySem.W
end
theorem zby_ {α:Type}{us:List α}{n:Nat}(h:us.length=n+1):∃a t,us=a::t/\t.length=n:=by
 cases us with
 |nil=>cases h
 |cons a t=>exact⟨a,t,rfl,nS h⟩
theorem Fun.binds1 {x qual:Str}{st:jI}{f:iQ}{fd:kf}{ps:List Str}(hp:ps.length=1)(F:Fun K x qual st f fd)(h:∀(kV doc pm:fv) (an:Option iQ) (ah ct:fv) (ua:fv),bindArgs (W.fnOf x qual (defArgs st) (defBody st) (defScope st) .none kV doc pm an ah ct) ⟨[ua],[]⟩=pure (ps.zip [ua])):Binds K fd ps []:=by
 refine F.binds λkV doc pm an ah ct us hl=>?_
 have h0:=hl.trans hp;obtain⟨ua,t1,rfl,h1⟩:=zby_ h0;cases j4.mp h1;exact h kV doc pm an ah ct ua
theorem Fun.binds2 {x qual:Str}{st:jI}{f:iQ}{fd:kf}{ps:List Str}(hp:ps.length=2)(F:Fun K x qual st f fd)(h:∀(kV doc pm:fv) (an:Option iQ) (ah ct:fv) (ua ub:fv),bindArgs (W.fnOf x qual (defArgs st) (defBody st) (defScope st) .none kV doc pm an ah ct) ⟨[ua,ub],[]⟩=pure (ps.zip [ua,ub])):Binds K fd ps []:=by
 refine F.binds λkV doc pm an ah ct us hl=>?_
 have h0:=hl.trans hp;obtain⟨ua,t1,rfl,h1⟩:=zby_ h0;obtain⟨ub,t2,rfl,h2⟩:=zby_ h1;cases j4.mp h2;exact h kV doc pm an ah ct ua ub
theorem Fun.binds3 {x qual:Str}{st:jI}{f:iQ}{fd:kf}{ps:List Str}(hp:ps.length=3)(F:Fun K x qual st f fd)(h:∀(kV doc pm:fv) (an:Option iQ) (ah ct:fv) (ua ub uc:fv),bindArgs (W.fnOf x qual (defArgs st) (defBody st) (defScope st) .none kV doc pm an ah ct) ⟨[ua,ub,uc],[]⟩=pure (ps.zip [ua,ub,uc])):Binds K fd ps []:=by
 refine F.binds λkV doc pm an ah ct us hl=>?_
 have h0:=hl.trans hp;obtain⟨ua,t1,rfl,h1⟩:=zby_ h0;obtain⟨ub,t2,rfl,h2⟩:=zby_ h1;obtain⟨uc,t3,rfl,h3⟩:=zby_ h2;cases j4.mp h3;exact h kV doc pm an ah ct ua ub uc
end
section
end
section
variable {κ:Type}[DecidableEq κ]
end
section
end
section
variable {κ:Type}[DecidableEq κ]
end
section
variable {X:Cx}{pins:Pnn}{σ:St}{H:Hp}{s:iM}{d:iQ}{o:oN}{kvs:List (Key×V)}
theorem zjF_ {P:jr}{w:jH}{h:Heap}{a:iQ}{u v v':HO}(hd:H d=qI v)(h1:∀x,v≠.own x)(h2:∀xs,v≠.tup xs)(h3:∀ob x,v≠.frz ob (.own x))(q:ObjOk P w H h a u):ObjOk P w (upd H d v') h a u:=
 q.stay (λ_ _ _ e=>e) (λb e=>by rw[zl_ (λz=>by rw[z,hd]at e;cases e;exact h1 _ rfl)];exact e) (λb xs e=>by rw[zl_ (λz=>by rw[z,hd]at e;cases e;exact h2 _ rfl)];exact e) λb ob e=>by rw[zl_ (λz=>by rw[z,hd]at e;cases e;exact h3 _ _ rfl)];exact e
theorem Inv.frzD (I:Inv X pins σ H s)(hd:H d=qI (.dK kvs))(ho:s.heap.get? d=qI o):Inv X pins σ (upd H d (.frz o (.dK kvs))) s:=
 I.write (x:=d) (e:=d) (o:=.frz o (.dK kvs)) (t':=s.toks) (h':=s.heap) (by rw[hd];exact ke) (.inl rfl) (λ_ _ _ e=>e) ⟨o,ho⟩ ⟨ho,zjF_ hd (λ_ z=>by cases z) (λ_ z=>by cases z) (λ_ _ z=>by cases z) (I.hok d _ hd)⟩
def Zf (X:Cx)(d:iQ):Prop:=∀o u,X.H₀ d≠qI (.frz o u)
theorem Inv.thawD (I:Inv X pins σ H s)(hd:H d=qI (.frz o (.dK kvs)))(hn:Zf X d):Inv X pins σ (upd H d (.dK kvs)) s:=by
 have ne:∀b u,H b=u->u≠qI (.frz o (.dK kvs))->b≠d:=λb u e z y=>z (by rw[<- e,y];exact hd)
 refine⟨I.ok,I.os,I.bare,⟨I.base.keep,I.base.slot,λb q e n hx=>?_,I.base.there,λb xs e=>?_,λb q u e=>?_,λb p q e=>?_⟩,I.loc,I.cell,?_,λx c e=>?_,λp hp=>?_,λa u e=>?_,I.len⟩
 ·have:=I.base.free b q e n hx
  rw[zl_ (ne b _ this (by simp))];exact this
 ·have:=I.base.tups b xs e
  rw[zl_ (ne b _ this (λz=>by cases z))];exact this
 ·have:=I.base.frzs b q u e
  rw[zl_ (λz=>hn q u (by rw[<- z];exact e))];exact this
 ·have e':=I.base.tbls b p q e
  rw[zl_ (ne b _ e' (λz=>by cases z))];exact e'
 ·rw[zl_ (ne _ _ I.free (by simp))];exact I.free
 ·have:=I.freeC x c e
  rw[zl_ (ne _ _ this (by simp))];exact this
 ·obtain⟨a1,a2,a3⟩:=I.pin p hp
  exact⟨a1,by rw[zl_ (ne _ _ a2 (by simp))];exact a2,a3⟩
 ·by_cases z:a=d
  ·subst z
   rw[zm_]at e;cases e;exact zjF_ hd (λ_ z=>by cases z) (λ_ z=>by cases z) (λ_ _ z=>by cases z) (I.hok a _ hd).2
  ·rw[zl_ z]at e
   exact zjF_ hd (λ_ z=>by cases z) (λ_ z=>by cases z) (λ_ _ z=>by cases z) (I.hok a u e)
end
theorem zcd_ {α β:Type}{R:α->β->Prop}:∀{xs:List α}{ys:List β},Paired R xs ys->∀i:Nat,(xs[i]?=qJ/\ys[i]?=qJ)\/∃x y,xs[i]?=qI x/\ys[i]?=qI y/\R x y
 |_,_,.nil,_=>.inl ⟨rfl,rfl⟩
 |_,_,.cons r t,0=>.inr ⟨_,_,rfl,rfl,r⟩
 |_,_,.cons r t,i+1=>by simpa using zcd_ t i
def Iti (d:iQ)(o:oN)(kvs:List (Key×V)):It:=
 ⟨λi H=>H d=qI (.frz o (.dK kvs))/\i<kvs.length,λi H y H'=>∃p q,kvs[i]?=qI q/\H p=qJ/\y=.ref p/\H'=upd H p (.tup [kV q.1,q.2]),λi H=>H d=qI (.frz o (.dK kvs))/\kvs.length<=i⟩
theorem kV_of {P:jr}{w:jH}{k:Key}{u:fv}(h:(mixKind P w).is k u=qK):RelV (kV k) u:=by
 cases k with
 |inl i=>exact oO h
 |inr x=>exact ox h
theorem zin_ {P:jr}{w:jH}{K:Fgg}{elts:List i4}{kk:Nat}{pos:Pos}(it d:iQ)(o:oN)(kvs:List (Key×V))(ep:Nat)(dq:∃es,o.data=.dict es ep):
  Turn P w K (.Tuple elts kk pos) (Iti d o kvs) [it] it (λi h=>∃ok ov,IsItemIter h it d i kvs.length ep ok ov) where
 mem:=by simp
 obj:=λi h st b hb=>by
  have e:b=it:=by simpa using hb
  subst e;obtain⟨ok,ov,he⟩:=st;exact⟨_,he,λv z=>by cases z⟩
 keep:=λi h h' st k=>by
  obtain⟨ok,ov,he⟩:=st;exact⟨ok,ov,k it (by simp) _ he⟩
 item:=by
  intro X hP hw hK hc i pins s σ H E I hf st hg;subst hP hw hK;obtain⟨hd,hi⟩:=hg;obtain⟨ok,ov,he⟩:=st;obtain⟨aJ,z,hsys,vs,rel,dd⟩:=(show ObjOk X.prog X.w H s.heap d (.frz o (.dK kvs))from I.hok d _ hd)
  have hl:kvs.length=vs.length:=rel.length;obtain⟨bu,hat⟩:=dd.dictAt;obtain⟨es,hes⟩:=dq;have e:bu=ep:=by
   obtain⟨o2,es2,h1,h2,h3,_⟩:=hat;rw[aJ]at h1;cases h1;rw[hes]at h3;cases h3;rfl
  subst e;rcases zcd_ rel i with⟨a,_⟩|⟨q,qv,hq,hqv,r1,r2⟩
  ·have:=m5.mp a;lia
  rw[hl]at he;refine wpAny_pyNext_items_item he hat (k:=qv.1) (v:=qv.2) hqv λkey h1 bj eQ eN hsz hk=>?_
  refine⟨_,rfl,?_⟩;refine wpAny_letOwnedTupleGo_items (s:={s with heap:=h1}) eQ λh2 fT a5=>?_
  replace a5:mQ it h1 h2:=a5;have hit:it<s.heap.objs.size:=i9 he;have hp:H s.heap.objs.size=qJ:=I.hok.fresh (iW _);have gO:s.heap.objs.size≠it:=mR hit;have I1:Inv X pins σ (upd H s.heap.objs.size (.tup [kV q.1,q.2])) {s with heap:=s.heap.push {cls:=.type "tuple",data:=.seq #[key,qv.2]}}:=by
   refine I.laid (t':=s.toks) (λb u q=>iU _ q) (iW _) ⟨?_,[key,qv.2],.cons (by rw[r1];exact kV_of bj) (.cons r2 .nil),⟨_,jj _ rfl,rfl,_,rfl⟩⟩
   show 2<=iZ
   decide
  have fS:∀b∈[it],FpOk X pins (upd H s.heap.objs.size (.tup [kV q.1,q.2])) b:=λb hb=>by
   obtain⟨f0,r⟩:=hf b hb;have e:b=it:=by simpa using hb
   exact⟨by rw[zl_ (by rw[e];exact gO.symm)];exact f0,r⟩
  have I2:Inv X pins σ (upd H s.heap.objs.size (.tup [kV q.1,q.2])) {s with heap:=h2}:=by
   refine Inv.turnedL (s:={s with heap:=s.heap.push {cls:=.type "tuple",data:=.seq #[key,qv.2]}}) (t':=s.toks) (ch:=[it]) I1 (λb o hb q=>?_) fS
   have fK:b≠it:=λz=>hb (by simp[z])
   refine(a5.2 b fK).trans ?_;rcases Heap.get?_push_cases q with⟨rfl,rfl⟩|q'
   ·exact eN
   ·exact hk b o fK q'
  rw[<- hl]at fT;exact⟨.ref s.heap.objs.size,_,I2,rfl,⟨_,q,hq,hp,rfl,rfl⟩,⟨key,qv.2,fT⟩,λb hb=>(fS b hb).1⟩
 done:=by
  intro X hP hw hK hc i pins s σ H E I hf st hg;subst hP hw hK;obtain⟨hd,hi⟩:=hg;obtain⟨ok,ov,he⟩:=st;obtain⟨aJ,z,hsys,vs,rel,dd⟩:=(show ObjOk X.prog X.w H s.heap d (.frz o (.dK kvs))from I.hok d _ hd)
  have hl:kvs.length=vs.length:=rel.length;obtain⟨bu,hat⟩:=dd.dictAt;obtain⟨es,hes⟩:=dq;have e:bu=ep:=by
   obtain⟨o2,es2,h1,h2,h3,_⟩:=hat;rw[aJ]at h1;cases h1;rw[hes]at h3;cases h3;rfl
  subst e;obtain⟨f0,f1,f2,f3,f4,f5⟩:=hf it (by simp)
  rw[hl]at he;exact wpAny_pyNext_items_end (I.ok.hd hc) he hat (kd (by lia)) λh' eb=>⟨rfl,I.turned (t':=s.toks) (λb o hb e=>eb b o hb e) f0 f1 f3 f4 f5⟩
 self:=λA i s Q E st h=>by
  obtain⟨ok,ov,he⟩:=st;exact W.kcp_self he h
structure M0 (X:Cx)(o:i4)(m:Str)(apos:Pos)(af:Pos):Prop where
 base:attributeBase o m X.env (eval o X.env)=eval o X.env
 few:((kz af (jo [] X.env)).all (λx=>!x.1) && (mi af (lj [] X.env)).all (λx=>x.1.isSome) && decide (([]:List i4).length+([]:List Keyword).length+(if([]:List Keyword).isEmpty then 0 else 1)<30))=qK
 line:(apos.endLine == af.line)=qK
 trees:kz af (jo [] X.env)=[]
section
end
section
variable {κ:Type}
variable [DecidableEq κ]
end
section
variable {κ:Type}[DecidableEq κ]
end
section
end
def Fi (K:Fgg)(x q:Str)(st:jI)(f:iQ):Prop:=∃(oc:fv) (od:Option iQ) (kV doc pm:fv) (an:Option iQ) (ah ct:fv) (az:Array (Option fv)),
 K.lookup f=qI ⟨oc,od,.func (W.fnOf x q (defArgs st) (defBody st) (defScope st) .none kV doc pm an ah ct),az⟩/\nz K ah q=qK/\lT K (.ref f)=qK
def Fg (K:Fgg)(x:Str)(st:jI):Prop:=∃f,lq K jf x=qI (qI (.ref f))/\Fi K x x st f
def Fm (K:Fgg)(c m q:Str)(st:jI):Prop:=∃cw f,lq K jf c=qI (qI (.ref cw))/\lu K (.ref cw) m=qI (qI (.ref f))/\pR K (.ref f)=qK/\Fi K m q st f
def Fc (K:Fgg)(c:Str):Prop:=∃cw,lq K jf c=qI (qI (.ref cw))/\mX K cw pJ=qK/\m8 K cw=qK/\n6 K cw=qK /\
 lu K (.ref cw) "__setattr__"=qI (qI (.builtin "object.__setattr__"))/\oR K cw=qK/\lT K (.ref cw)=qK
def Fa (K:Fgg)(c a:Str):Prop:=∃cw,lq K jf c=qI (qI (.ref cw))/\lu K (.ref cw) a=qI qJ
def Fb (K:Fgg)(x:Str):Prop:=lq K jf x=qI qJ
def Fv (K:Fgg)(x:Str)(v:V):Prop:=∃u,lq K jf x=qI (qI u)/\RelV v u
def Fk (K:Fgg)(x:Str):Prop:=∃c,lq K jf x=qI (qI (.ref c))
def Mgo (K:Fgg)(mg:Str->Option fv):Prop:=∃h:Heap,K.In h/\h.Ns jf mg
section
variable {P:jr}{w:jH}{K:Fgg}{mg:Str->Option fv}{base:Heap}{CX:CXT}{x q c m a:Str}{st:jI}{f:iQ}{fd:kf}{ps:List Str}{k:Nat}{sp:Sp}{v:V}
theorem Fg.mk_ {oc:fv}{od:Option iQ}{kV doc pm:fv}{an:Option iQ}{ah ct:fv}{az:Array (Option fv)}(h:lq K jf x=qI (qI (.ref f)))(l:K.lookup f=qI ⟨oc,od,.func (W.fnOf x x (defArgs st) (defBody st) (defScope st) .none kV doc pm an ah ct),az⟩)(c:nz K ah x=qK)(k:lT K (.ref f)=qK):Fg K x st:=⟨f,h,oc,od,kV,doc,pm,an,ah,ct,az,l,c,k⟩
theorem Fm.mk_ {cw:iQ}{oc:fv}{od:Option iQ}{kV doc pm:fv}{an:Option iQ}{ah ct:fv}{az:Array (Option fv)}(h:lq K jf c=qI (qI (.ref cw)))(h1:lu K (.ref cw) m=qI (qI (.ref f)))(h2:pR K (.ref f)=qK)(l:K.lookup f=qI ⟨oc,od,.func (W.fnOf m q (defArgs st) (defBody st) (defScope st) .none kV doc pm an ah ct),az⟩)(h3:nz K ah q=qK)(k:lT K (.ref f)=qK):Fm K c m q st:=⟨cw,f,h,h1,h2,oc,od,kV,doc,pm,an,ah,ct,az,l,h3,k⟩
theorem Fc.mk_ {cw:iQ}(h:lq K jf c=qI (qI (.ref cw)))(h1:mX K cw pJ=qK)(h2:m8 K cw=qK)(h3:n6 K cw=qK)(h4:lu K (.ref cw) "__setattr__"=qI (qI (.builtin "object.__setattr__")))(h5:oR K cw=qK)(h6:lT K (.ref cw)=qK):Fc K c:=⟨cw,h,h1,h2,h3,h4,h5,h6⟩
theorem Fa.mk_ {cw:iQ}(h:lq K jf c=qI (qI (.ref cw)))(h1:lu K (.ref cw) a=qI qJ):Fa K c a:=⟨cw,h,h1⟩
theorem Fv.mk_ {u:fv}(h:lq K jf x=qI (qI u))(h1:RelV v u):Fv K x v:=⟨u,h,h1⟩
theorem Fk.mk_ {cw:iQ}(h:lq K jf x=qI (qI (.ref cw))):Fk K x:=⟨cw,h⟩
theorem Fi.fun_ (h:Fi K x q st f):∃fd,Fun K x q st f fd:=by
 obtain⟨oc,od,kV,doc,pm,an,ah,ct,az,l,c,k⟩:=h;exact⟨_,zlR_ l c k⟩
theorem Mgo.gb (M:Mgo K mg)(h:Fb K x):Gb mg x:=by
 obtain⟨_,X,G⟩:=M;exact W.mg_none_of X G h
theorem Mgo.gv (M:Mgo K mg)(h:Fv K x v):Gc mg x v:=by
 obtain⟨_,X,G⟩:=M;obtain⟨u,e,r⟩:=h;exact⟨u,pf X G e,r⟩
theorem Mgo.gk (M:Mgo K mg)(h:Fk K x):mg x=qI (.ref (gA K x)):=by
 obtain⟨_,X,G⟩:=M;obtain⟨u,e⟩:=h;rw[zlq_ e];exact pf X G e
theorem Fc.cls (h:Fc K c):Cls K (gA K c):=by
 obtain⟨cw,e,h1,h2,h3,h4,_⟩:=h;rw[zlq_ e];exact⟨h1,h2,h3,h4⟩
theorem Fa.no (h:Fa K c a):NoAttr K (gA K c) a:=by
 obtain⟨cw,e,h⟩:=h;rw[zlq_ e];exact h
abbrev OkF (P:jr)(w:jH)(K:Fgg)(mg:Str->Option fv)(base:Heap)(CX:CXT)(k:Nat)(x q:Str)(st:jI)(ps:List Str)(sp:Sp):Prop:=∀f fd,Fun K x q st f fd->FnOk P w K mg base CX k f fd ps sp/\Binds K fd ps []
theorem zcT_ (M:Mgo K mg)(F:Fg K x st)(h:OkF P w K mg base CX k x x st ps sp):Gd P w K mg base CX k x ps sp:=by
 obtain⟨_,X,G⟩:=M;obtain⟨f,e,i⟩:=F;obtain⟨fd,F⟩:=i.fun_;exact⟨f,fd,(h f fd F).1,pf X G e,F.kp,(h f fd F).2⟩
theorem zbS_ (C:Fc K c)(F:Fm K c m q st)(h:OkF P w K mg base CX k m q st ps sp):Gm P w K mg base CX k (gA K c) m ps sp:=by
 obtain⟨cw,f,e,e2,e3,i⟩:=F;obtain⟨fd,F⟩:=i.fun_;exact⟨f,fd,(h f fd F).1,C.cls,by rw[zlq_ e];exact⟨e2,e3,F.kp⟩,(h f fd F).2⟩
theorem zni_ (M:Mgo K mg)(C:Fc K c)(F:Fm K c "__init__" q st)(h:OkF P w K mg base CX k "__init__" q st ps sp):Gk P w K mg base CX k c (gA K c) ps sp:=by
 obtain⟨cw,f,e,e2,e3,i⟩:=F;obtain⟨fd,F⟩:=i.fun_;obtain⟨iK,e',_,_,_,_,h5,h6⟩:=C;cases e.symm.trans e';refine⟨f,fd,(h f fd F).1,by rw[zlq_ e];exact⟨h5,e2,e3,h6⟩,M.gk ⟨_,e⟩,(h f fd F).2⟩
end
section
variable {K:Fgg}{x q:Str}{st:jI}{ps:List Str}
abbrev Bnd (K:Fgg)(x q:Str)(st:jI)(ps:List Str):Prop:=∀f fd,Fun K x q st f fd->Binds K fd ps []
variable {l:PySem.W.OpenLaw}{w:jH}{mg:Str->Option fv}{k:Nat}{sp:Sp}{fa:iQ}
theorem okLaw (M:Mgo K mg)(F:Fg K "law" st)(e_:mg "law"=qI (.ref fa))(hb:∀(kV doc pm:fv) (an:Option iQ) (ah ct:fv) (s:iM) (v:fv),bindArgs (W.fnOf "law" "law" (defArgs st) (defBody st) (defScope st) .none kV doc pm an ah ct) ⟨[v],[]⟩=pure [(x,v)])
  (h:∀(base:Heap) (f:iQ) (fd:kf),Fun K "law" "law" st f fd->FnOk l.prog w K mg base CX0 k f fd [x] sp):
  ∃fd:kf,(∀(s:iM) (v:fv),BindsTo s fd ⟨[v],[]⟩ [(x,v)])/\∀base:Heap,K.In base->base.Ns jf mg->FnOk l.prog w K mg base CX0 k fa fd [x] sp:=by
 obtain⟨_,X,G⟩:=M;obtain⟨f,e,oc,od,kV,doc,pm,an,ah,ct,az,l',c,kk⟩:=F;cases e_.symm.trans (pf X G e);exact⟨_,λs v=>.of_eq (hb kV doc pm an ah ct s v),λbase _ _=>h base _ _ (zlR_ l' c kk)⟩
def spL (K:Fgg):Sp:=λvs H Q _=>∃(a:iQ) (ns:List Int),vs=[.ref a]/\SqL K H a (ns.map V.int)/\ns.length<=63/\BitsOk ns/\∀H',Q (.bl qK) H'
end
abbrev zdm_:=@PySem.F.slot_str_index
abbrev zdO_:=@PySem.F.type_str_index
abbrev zer_:=@PySem.F.slot_str_join
abbrev zev_:=@PySem.F.type_str_join
abbrev za8_:=@PySem.F.plainAttrs_list
abbrev zbj_:=@PySem.F.slot_list_append
abbrev zbu_:=@PySem.F.type_list_append
abbrev zbt_:=@PySem.F.slot_list_extend
abbrev zbe_:=@PySem.F.type_list_extend
abbrev zct_:=@PySem.F.slot_list_pop
abbrev zcu_:=@PySem.F.type_list_pop
abbrev zbI_:=@PySem.F.slot_list_clear
abbrev zbL_:=@PySem.F.type_list_clear
section
end
def Fe1 (K:Fgg)(a:Str)(P:iQ->Prop):Prop:=∃v,lq K jf a=qI (qI (.ref v))/\P v
theorem Fe1.mk_ {K:Fgg}{a:Str}{P:iQ->Prop}{v:iQ}(h:lq K jf a=qI (qI (.ref v)))(p:P v):Fe1 K a P:=⟨v,h,p⟩
def Fe2 (K:Fgg)(a b:Str)(P:iQ->iQ->Prop):Prop:=∃v w,lq K jf a=qI (qI (.ref v))/\lq K jf b=qI (qI (.ref w))/\P v w
theorem Fe2.mk_ {K:Fgg}{a b:Str}{P:iQ->iQ->Prop}{v w:iQ}(h:lq K jf a=qI (qI (.ref v)))(h2:lq K jf b=qI (qI (.ref w)))(p:P v w):Fe2 K a b P:=⟨v,w,h,h2,p⟩
section
end
open PySem.SeqAt
open PySem.AutoSeq1 (wpAny_loadPart')
open PySem.MeetsSeq PySem.MeetsSeq2 PySem.MeetsSeq3
section
variable {X:Cx}{pins:Pnn}{σ:St}{H:Hp}{s:iM}{A:j3}
theorem zj5_ {x y:V}{v u:fv}(rx:RelV x v)(ry:RelV y u)(fx:flatV x=qK)(fy:flatV y=qK):lW A s v u (eqV x y):=by
 cases x with
 |non=>
  cases rx;cases y with
  |non=>cases ry;exact SeqAt.RcAt.none_none
  |bl b=>cases ry;exact SeqAt.RcAt.none_bool _
  |int b=>obtain⟨t,rfl⟩:=ry;exact SeqAt.RcAt.none_int _ _
  |str b=>obtain⟨t,rfl⟩:=ry;exact SeqAt.RcAt.none_str _ _
  |_=>cases fy
 |bl a=>
  cases rx;cases y with
  |non=>cases ry;exact SeqAt.RcAt.bool_none _
  |bl b=>cases ry;exact SeqAt.RcAt.bool_bool _ _
  |int b=>obtain⟨t,rfl⟩:=ry;exact SeqAt.RcAt.bool_int _ _ _
  |str b=>obtain⟨t,rfl⟩:=ry;exact SeqAt.RcAt.bool_str _ _ _
  |_=>cases fy
 |int a=>
  obtain⟨t',rfl⟩:=rx;cases y with
  |non=>cases ry;exact SeqAt.RcAt.int_none _ _
  |bl b=>cases ry;exact SeqAt.RcAt.int_bool _ _ _
  |int b=>obtain⟨t,rfl⟩:=ry;exact SeqAt.RcAt.int_int _ _ _ _
  |str b=>obtain⟨t,rfl⟩:=ry;exact SeqAt.RcAt.int_str _ _ _ _
  |_=>cases fy
 |str a=>
  obtain⟨t',rfl⟩:=rx;cases y with
  |non=>cases ry;exact SeqAt.RcAt.str_none _ _
  |bl b=>cases ry;exact SeqAt.RcAt.str_bool _ _ _
  |int b=>obtain⟨t,rfl⟩:=ry;exact SeqAt.RcAt.str_int _ _ _ _
  |str b=>obtain⟨t,rfl⟩:=ry;exact SeqAt.RcAt.str_str _ _ _ _
  |_=>cases fy
 |_=>cases fx
theorem zjE_ {x y:V}{v u:fv}(rx:RelV x v)(ry:RelV y u)(fx:flatV x=qK)(fy:flatV y=qK):l8 A s v u (!eqV x y):=by
 cases x with
 |non=>
  cases rx;cases y with
  |non=>cases ry;exact pU
  |bl b=>cases ry;exact pV _
  |int b=>obtain⟨t,rfl⟩:=ry;exact qb _ _
  |str b=>obtain⟨t,rfl⟩:=ry;exact qc _ _
  |_=>cases fy
 |bl a=>
  cases rx;cases y with
  |non=>cases ry;exact pW _
  |bl b=>cases ry;exact pX _ _
  |int b=>obtain⟨t,rfl⟩:=ry;exact qd _ _ _
  |str b=>obtain⟨t,rfl⟩:=ry;exact qe _ _ _
  |_=>cases fy
 |int a=>
  obtain⟨t',rfl⟩:=rx;cases y with
  |non=>cases ry;exact qf _ _
  |bl b=>cases ry;exact qg _ _ _
  |int b=>obtain⟨t,rfl⟩:=ry;exact qu _ _ _ _
  |str b=>obtain⟨t,rfl⟩:=ry;exact qw _ _ _ _
  |_=>cases fy
 |str a=>
  obtain⟨t',rfl⟩:=rx;cases y with
  |non=>cases ry;exact qh _ _
  |bl b=>cases ry;exact qi _ _ _
  |int b=>obtain⟨t,rfl⟩:=ry;exact qx _ _ _ _
  |str b=>obtain⟨t,rfl⟩:=ry;exact qy _ _ _ _
  |_=>cases fy
 |_=>cases fx
theorem rc_lf {p:iQ}{its:Array fv}{y:V}{u:fv}(hp:s.heap.IsList p its)(ry:RelV y u)(fy:flatV y=qK)(hu:A.units<cLine):lW A s (.ref p) u qL:=by
 cases y with
 |non=>cases ry;exact SeqAt.RcAt.list_none hp hu
 |bl b=>cases ry;exact SeqAt.RcAt.list_bool _ hp hu
 |int b=>obtain⟨t,rfl⟩:=ry;exact SeqAt.RcAt.list_int _ _ hp hu
 |str b=>obtain⟨t,rfl⟩:=ry;exact SeqAt.RcAt.list_str _ _ hp hu
 |_=>cases fy
theorem rc_lF {p:iQ}{its:Array fv}{y:V}{u:fv}(hp:s.heap.IsList p its)(ry:RelV y u)(fy:flatV y=qK)(hu:A.units<cLine):lW A s u (.ref p) qL:=by
 cases y with
 |non=>cases ry;exact SeqAt.RcAt.none_list hp hu
 |bl b=>cases ry;exact SeqAt.RcAt.bool_list _ hp hu
 |int b=>obtain⟨t,rfl⟩:=ry;exact SeqAt.RcAt.int_list _ _ hp hu
 |str b=>obtain⟨t,rfl⟩:=ry;exact SeqAt.RcAt.str_list _ _ hp hu
 |_=>cases fy
theorem rc_tf {p:iQ}{its:Array fv}{y:V}{u:fv}(hp:s.heap.IsTuple p its)(ry:RelV y u)(fy:flatV y=qK)(hu:A.units<cLine):lW A s (.ref p) u qL:=by
 cases y with
 |non=>cases ry;exact SeqAt.RcAt.tuple_none hp hu
 |bl b=>cases ry;exact SeqAt.RcAt.tuple_bool _ hp hu
 |int b=>obtain⟨t,rfl⟩:=ry;exact SeqAt.RcAt.tuple_int _ _ hp hu
 |str b=>obtain⟨t,rfl⟩:=ry;exact SeqAt.RcAt.tuple_str _ _ hp hu
 |_=>cases fy
theorem rc_tF {p:iQ}{its:Array fv}{y:V}{u:fv}(hp:s.heap.IsTuple p its)(ry:RelV y u)(fy:flatV y=qK)(hu:A.units<cLine):lW A s u (.ref p) qL:=by
 cases y with
 |non=>cases ry;exact SeqAt.RcAt.none_tuple hp hu
 |bl b=>cases ry;exact SeqAt.RcAt.bool_tuple _ hp hu
 |int b=>obtain⟨t,rfl⟩:=ry;exact SeqAt.RcAt.int_tuple _ _ hp hu
 |str b=>obtain⟨t,rfl⟩:=ry;exact SeqAt.RcAt.str_tuple _ _ hp hu
 |_=>cases fy
theorem zng_ {p:iQ}{its:Array fv}{y:V}{u:fv}(hp:s.heap.IsList p its)(ry:RelV y u)(fy:flatV y=qK)(hu:A.units<cLine):l8 A s (.ref p) u qK:=by
 cases y with
 |non=>cases ry;exact pY hp hu
 |bl b=>cases ry;exact pZ _ hp hu
 |int b=>obtain⟨t,rfl⟩:=ry;exact qj _ _ hp hu
 |str b=>obtain⟨t,rfl⟩:=ry;exact qk _ _ hp hu
 |_=>cases fy
theorem znU_ {p:iQ}{its:Array fv}{y:V}{u:fv}(hp:s.heap.IsList p its)(ry:RelV y u)(fy:flatV y=qK)(hu:A.units<cLine):l8 A s u (.ref p) qK:=by
 cases y with
 |non=>cases ry;exact p4 hp hu
 |bl b=>cases ry;exact p5 _ hp hu
 |int b=>obtain⟨t,rfl⟩:=ry;exact ql _ _ hp hu
 |str b=>obtain⟨t,rfl⟩:=ry;exact qm _ _ hp hu
 |_=>cases fy
theorem zol_ {p:iQ}{its:Array fv}{y:V}{u:fv}(hp:s.heap.IsTuple p its)(ry:RelV y u)(fy:flatV y=qK)(hu:A.units<cLine):l8 A s (.ref p) u qK:=by
 cases y with
 |non=>cases ry;exact pL hp hu
 |bl b=>cases ry;exact pM _ hp hu
 |int b=>obtain⟨t,rfl⟩:=ry;exact p6 _ _ hp hu
 |str b=>obtain⟨t,rfl⟩:=ry;exact p7 _ _ hp hu
 |_=>cases fy
theorem zop_ {p:iQ}{its:Array fv}{y:V}{u:fv}(hp:s.heap.IsTuple p its)(ry:RelV y u)(fy:flatV y=qK)(hu:A.units<cLine):l8 A s u (.ref p) qK:=by
 cases y with
 |non=>cases ry;exact pN hp hu
 |bl b=>cases ry;exact pO _ hp hu
 |int b=>obtain⟨t,rfl⟩:=ry;exact p8 _ _ hp hu
 |str b=>obtain⟨t,rfl⟩:=ry;exact p9 _ _ hp hu
 |_=>cases fy
theorem zll_ (I:Inv X pins σ H s){n:Nat}{x y:V}{b:Bool}(h:EqD X.K H n x y b):∀(A:j3) (v u:fv),A.units+n<cLine->RelV x v->RelV y u->lW A s v u b:=by
 induction h with
 |flat hx hy=>exact λA v u _ rx ry=>zj5_ rx ry hx hy
 |lst e hp hq hl h ih=>exact λA v u hu rx ry=>(zdk_ I (.lst e hp hq hl h) A v u hu rx ry).2 _ _ rfl rfl
 |lstN hp hq hl=>exact λA v u hu rx ry=>(zdk_ I (.lstN hp hq hl) A v u hu rx ry).2 _ _ rfl rfl
 |tup e hp hq h ih=>exact λA v u hu rx ry=>(zdk_ I (.tup e hp hq h) A v u hu rx ry).2 _ _ rfl rfl
 |lt hp hq=>exact λA v u hu rx ry=>(zdk_ I (.lt hp hq) A v u hu rx ry).2 _ _ rfl rfl
 |tl hp hq=>exact λA v u hu rx ry=>(zdk_ I (.tl hp hq) A v u hu rx ry).2 _ _ rfl rfl
 |lf hp hy=>intro A v u hu rx ry;cases rx;obtain⟨its,_,p1,_⟩:=I.list hp;exact rc_lf p1.isList ry hy (by lia)
 |fl hp hy=>intro A v u hu rx ry;cases ry;obtain⟨its,_,p1,_⟩:=I.list hp;exact rc_lF p1.isList rx hy (by lia)
 |tf hp hy=>intro A v u hu rx ry;cases rx;obtain⟨its,_,p1,_⟩:=I.tuple hp;exact rc_tf p1 ry hy (by lia)
 |ft hp hy=>intro A v u hu rx ry;cases ry;obtain⟨its,_,p1,_⟩:=I.tuple hp;exact rc_tF p1 rx hy (by lia)
 |up h ih=>exact λA v u hu rx ry=>ih A v u (by lia) rx ry
def mEqA (K:Fgg):R2:=λx y H Q=>∃n b,n<=50/\EqD K H n x y b/\Q (.bl b) H
theorem znV_ (hu:X.A.units+60<cLine):OpR X (jG .Eq) (mEqA X.K):=by
 intro pins s σ H x y v u Q I rx ry h;obtain⟨n,b,hn,h,q⟩:=h;exact(zll_ I h X.A v u (by lia) rx ry) X.prog X.w X.xe _ ⟨.bl b,H,I,rfl,q⟩
theorem ziH_ (I:Inv X pins σ H s){n:Nat}{x y:V}{b:Bool}(h:EqD X.K H n x y b):∀(A:j3) (v u:fv),A.units+n<cLine->RelV x v->RelV y u->l8 A s v u (!b):=by
 induction h with
 |flat hx hy=>exact λA v u _ rx ry=>zjE_ rx ry hx hy
 |lst e hp hq hl h ih=>exact λA v u hu rx ry=>zf4_ I (.lst e hp hq hl h) A v u hu rx ry _ _ rfl rfl
 |lstN hp hq hl=>exact λA v u hu rx ry=>zf4_ I (.lstN hp hq hl) A v u hu rx ry _ _ rfl rfl
 |tup e hp hq h ih=>exact λA v u hu rx ry=>zf4_ I (.tup e hp hq h) A v u hu rx ry _ _ rfl rfl
 |lt hp hq=>exact λA v u hu rx ry=>zf4_ I (.lt hp hq) A v u hu rx ry _ _ rfl rfl
 |tl hp hq=>exact λA v u hu rx ry=>zf4_ I (.tl hp hq) A v u hu rx ry _ _ rfl rfl
 |lf hp hy=>intro A v u hu rx ry;cases rx;obtain⟨its,_,p1,_⟩:=I.list hp;exact zng_ p1.isList ry hy (by lia)
 |fl hp hy=>intro A v u hu rx ry;cases ry;obtain⟨its,_,p1,_⟩:=I.list hp;exact znU_ p1.isList rx hy (by lia)
 |tf hp hy=>intro A v u hu rx ry;cases rx;obtain⟨its,_,p1,_⟩:=I.tuple hp;exact zol_ p1 ry hy (by lia)
 |ft hp hy=>intro A v u hu rx ry;cases ry;obtain⟨its,_,p1,_⟩:=I.tuple hp;exact zop_ p1 rx hy (by lia)
 |up h ih=>exact λA v u hu rx ry=>ih A v u (by lia) rx ry
def mNeA (K:Fgg):R2:=λx y H Q=>∃n b,n<=50/\EqD K H n x y b/\Q (.bl (!b)) H
theorem zoa_ (hu:X.A.units+60<cLine):OpR X (jG .NotEq) (mNeA X.K):=by
 intro pins s σ H x y v u Q I rx ry h;obtain⟨n,b,hn,h,q⟩:=h;exact(ziH_ I h X.A v u (by lia) rx ry) X.prog X.w X.xe _ ⟨.bl (!b),H,I,rfl,q⟩
end
structure Scl (K:Fgg)(C:iQ)(m:Str)(f:iQ):Prop where
 sp:oh K (.ref C) "__getattribute__"=qI (qI (.builtin "type.__getattribute__"))
 rd:pP K C (.type "type")=qK
 fd:pQ K (.ref C) (.type "type") m=qI (.val (.ref f))
 hd:pj (.ref f)=qK
 kp:lT K (.ref f)=qK
def Gs (P:jr)(w:jH)(K:Fgg)(mg:Str->Option fv)(base:Heap)(CX:CXT)(k:Nat)(x m:Str)(ps:List Str)(sp:Sp):Prop:=
 ∃C f fd,FnOk P w K mg base CX k f fd ps sp/\mg x=qI (.ref C)/\Scl K C m f/\Binds K fd ps []
section
end
def Fs (K:Fgg)(c m q:Str)(st:jI):Prop:=∃cw f,lq K jf c=qI (qI (.ref cw))/\oh K (.ref cw) "__getattribute__"=qI (qI (.builtin "type.__getattribute__"))/\pP K cw (.type "type")=qK/\pQ K (.ref cw) (.type "type") m=qI (.val (.ref f))/\Fi K m q st f
section
variable {P:jr}{w:jH}{K:Fgg}{mg:Str->Option fv}{base:Heap}{CX:CXT}{q c m:Str}{st:jI}{f:iQ}{fd:kf}{ps:List Str}{k:Nat}{sp:Sp}
theorem Fs.mk_ {cw:iQ}{oc:fv}{od:Option iQ}{kV doc pm:fv}{an:Option iQ}{ah ct:fv}{az:Array (Option fv)}(h:lq K jf c=qI (qI (.ref cw)))(h1:oh K (.ref cw) "__getattribute__"=qI (qI (.builtin "type.__getattribute__")))(h2:pP K cw (.type "type")=qK)(h3:pQ K (.ref cw) (.type "type") m=qI (.val (.ref f)))
  (l:K.lookup f=qI ⟨oc,od,.func (W.fnOf m q (defArgs st) (defBody st) (defScope st) .none kV doc pm an ah ct),az⟩) (hc:nz K ah q=qK) (hk:lT K (.ref f)=qK):Fs K c m q st:=⟨cw,f,h,h1,h2,h3,oc,od,kV,doc,pm,an,ah,ct,az,l,hc,hk⟩
theorem gs_of (M:Mgo K mg)(F:Fs K c m q st)(h:OkF P w K mg base CX k m q st ps sp):Gs P w K mg base CX k c m ps sp:=by
 obtain⟨_,X,G⟩:=M;obtain⟨cw,f,e,e1,e2,e3,i⟩:=F;obtain⟨fd,F⟩:=i.fun_;exact⟨cw,f,fd,(h f fd F).1,pf X G e,⟨e1,e2,e3,rfl,F.kp⟩,(h f fd F).2⟩
end
section
variable {κ:Type}
section
variable [DecidableEq κ]
end
end
section
end
noncomputable def Xc.c:Xc->String
 |.pl c=>c
 |.at c _=>c
section
end
instance:Inhabited V:=⟨.non⟩
section
end
def EqL (K:Fgg)(H:Hp)(n:Nat):List V->List V->List Bool->Prop
 |[],[],[]=>True
 |x::xs,y::ys,b::bs=>EqD K H n x y b/\EqL K H n xs ys bs
 |_,_,_=>False
def mNeDL (K:Fgg):R2:=λx y H Q=>match x,y with
 |.ref p,.ref q=>∃(ks:List Key) (xs ys:List V) (bs:List Bool),Rd H p (.dK (ks.zip xs))/\Rd H q (.dK (ks.zip ys))/\ks.Nodup/\ks.length=xs.length/\ks.length=ys.length/\EqL K H 12 xs ys bs/\Q (.bl (!(bs.all id))) H
 |_,_=>False
theorem zkt_ {k:Key}{y:V}:∀{ks:List Key}{ys:List V}{i:Nat},ks.Nodup->ks[i]?=qI k->ys[i]?=qI y->valV (ks.zip ys) k=qI y
 |[],_,_,_,h,_=>by simp at h
 |_::_,[],_,_,_,h=>by simp at h
 |k0::ks,y0::ys,0,_,h,g=>by simp at h g;subst h g;simp[valV]
 |k0::ks,y0::ys,i+1,nd,h,g=>by
  obtain⟨n1,n2⟩:=lJ.mp nd;have h':ks[i]?=qI k:=by simpa using h
  have ne:¬k0=k:=λz=>n1 (z ▸ kj h')
  have:=zkt_ (i:=i) n2 h' (by simpa using g)
  unfold valV at this ⊢;rw[jt,lh (by simpa using ne)];exact this
section
variable {X:Cx}{pins:Pnn}{σ:St}{H:Hp}{s:iM}
theorem zda_ {A:j3}{kb:List (Key×V)}{vb:List (Key×fv)}(I:Inv X pins σ H s)(rb:KV kb vb)(hu:A.units+12<cLine):∀{ks:List Key}{xs ys:List V}{bs:List Bool}{va:List (Key×fv)},KV (ks.zip xs) va->ks.length=xs.length->EqL X.K H 12 xs ys bs ->
  (∀(i:Nat) k y,ks[i]?=qI k->ys[i]?=qI y->valV kb k=qI y)->W.KeqHits A s vb va (bs.all id)
 |[],xs,ys,bs,va,r,hl,e,hv=>by
  cases xs with
  |cons=>cases hl
  |nil=>
   cases ys with
   |cons=>exact e.elim
   |nil=>
    cases bs with
    |cons=>exact e.elim
    |nil=>unfold KV at r;cases r;exact .nil
 |k::ks,[],_,_,_,_,hl,_,_=>by cases hl
 |k::ks,x::xs,ys,bs,va,r,hl,e,hv=>by
  cases ys with
  |nil=>exact e.elim
  |cons y ys=>
   cases bs with
   |nil=>exact e.elim
   |cons b bs=>
    unfold KV at r;rw[jt]at r;cases r with
    | @cons _ w _ _ h t=>
     obtain⟨kw,vw⟩:=w;obtain⟨rfl,h2⟩:k=kw/\RelV x vw:=h;have g:=hv 0 k y rfl rfl;have rk:=rb.val k;rw[g]at rk;cases g2:valueAt vb k with
     |none=>rw[g2]at rk;exact rk.elim
     |some u=>
      rw[g2]at rk;rw[jY];exact .hit g2 (zdk_ I e.1 A _ _ hu h2 rk).1 (zda_ I rb hu t (by simpa using hl) e.2 λi k' y' h1 h2=>hv (i+1) k' y' (by simpa using h1) (by simpa using h2))
theorem zmX_ (hu:X.A.units+60<cLine):OpR X (jG .NotEq) (mNeDL X.K):=by
 intro pins s σ H x y v u Q I rx ry h;unfold mNeDL at h;split at h
 ·cases rx;cases ry
  obtain⟨ks,xs,ys,bs,hp,hq,nd,lx,ly,e,h⟩:=h;obtain⟨_,la,va,ra,da⟩:=zeg_ I.hok hp;obtain⟨_,lb,vb,rb,db⟩:=zeg_ I.hok hq;refine W.keq_ne la lb da db (by lia) (λ_=>zda_ I rb (by show X.A.units+1+12<_;lia) ra lx e λi k y h1 h2=>zkt_ nd h1 h2) ?_
  have el:va.length=vb.length:=by rw[<- ra.length,<- rb.length,k5,k5,<- lx,<- ly]
  rw[el,beq_self_eq_true,Bool.true_and];exact⟨.bl _,H,I,rfl,h⟩
 ·exact h.elim
end
def Itk (d:iQ)(o:oN)(kvs:List (Key×V)):It:=
 ⟨λi H=>H d=qI (.frz o (.dK kvs))/\i<kvs.length,λi H y H'=>∃q,kvs[i]?=qI q/\y=kV q.1/\H'=H,λi H=>H d=qI (.frz o (.dK kvs))/\kvs.length<=i⟩
theorem zik_ {P:jr}{w:jH}{K:Fgg}{tg:i4}(it d:iQ)(o:oN)(kvs:List (Key×V))(ep:Nat)(dq:∃es,o.data=.dict es ep):
  Turn P w K tg (Itk d o kvs) [it] it (λi h=>h.IsKeyIter it d i kvs.length ep) where
 mem:=by simp
 obj:=λi h st b hb=>by
  have e:b=it:=by simpa using hb
  subst e;obtain⟨o,e,c,d⟩:=st;exact⟨o,e,λv z=>by rw[d]at z;cases z⟩
 keep:=λi h h' st k=>st.at λo e=>k it (by simp) o e
 item:=by
  intro X hP hw hK hc i pins s σ H E I hf st hg;subst hP hw hK;obtain⟨hd,hi⟩:=hg;obtain⟨aJ,z,hsys,vs,rel,dd⟩:=(show ObjOk X.prog X.w H s.heap d (.frz o (.dK kvs))from I.hok d _ hd)
  have hl:kvs.length=vs.length:=rel.length;obtain⟨bu,hat⟩:=dd.dictAt;obtain⟨es,hes⟩:=dq;have e:bu=ep:=by
   obtain⟨o2,es2,h1,h2,h3,_⟩:=hat;rw[aJ]at h1;cases h1;rw[hes]at h3;cases h3;rfl
  subst e;rcases zcd_ rel i with⟨a,_⟩|⟨q,qv,hq,hqv,r1,r2⟩
  ·have:=m5.mp a;lia
  rw[hl]at st;obtain⟨f0,f1,f2,f3,f4,f5⟩:=hf it (by simp)
  refine wpAny_pyNext_dict_item st hat (k:=qv.1) (v:=qv.2) hqv λkey h' bj aK sb=>?_
  have I1:Inv X pins σ H {s with heap:=h'}:=I.turned (t':=s.toks) (λb o hb e=>(sb.2 b hb).trans e) f0 f1 f3 f4 f5
  obtain⟨o',e',c',d'⟩:=id aK;rw[<- hl]at aK;exact⟨key,rfl,zmk_ (s:={s with heap:=h'}) e' c' d' (by decide) ⟨kV q.1,H,I1,by rw[r1];exact kV_of bj,⟨q,hq,rfl,rfl⟩,aK,λb hb=>(hf b hb).1⟩⟩
 done:=by
  intro X hP hw hK hc i pins s σ H E I hf st hg;subst hP hw hK;obtain⟨hd,hi⟩:=hg;obtain⟨aJ,z,hsys,vs,rel,dd⟩:=(show ObjOk X.prog X.w H s.heap d (.frz o (.dK kvs))from I.hok d _ hd)
  have hl:kvs.length=vs.length:=rel.length;obtain⟨bu,hat⟩:=dd.dictAt;obtain⟨es,hes⟩:=dq;have e:bu=ep:=by
   obtain⟨o2,es2,h1,h2,h3,_⟩:=hat;rw[aJ]at h1;cases h1;rw[hes]at h3;cases h3;rfl
  subst e;obtain⟨f0,f1,f2,f3,f4,f5⟩:=hf it (by simp)
  rw[hl]at st;exact wpAny_pyNext_dict_end (I.ok.hd hc) st hat (kd (by lia)) λh' eb=>⟨rfl,I.turned (t':=s.toks) (λb o hb e=>eb b o hb e) f0 f1 f3 f4 f5⟩
 self:=λA i s Q E st h=>wpAny_pyIter_keyiter st h
def iDct (J:iQ->oN->List (Key×V)->It)(Z:iQ->HO->Prop)(te:TE):TI:=λσ H R=>te σ H λx H1=>match x with
 |.ref d=>∃kvs,Rd H1 d (.dK kvs)/\∀o b,H1 d=qI b->(b=.dK kvs\/b=.frz o (.dK kvs))->Z d b->R (J d o kvs) (upd H1 d (.frz o (.dK kvs)))
 |_=>False
def thawB (Z:iQ->HO->Prop)(D:Ends):Ends:=
 {nx:=λσ H=>∃d o kvs b,Z d b/\H d=qI (.frz o (.dK kvs))/\(b=.dK kvs\/b=.frz o (.dK kvs))/\D.nx σ (upd H d b),rt:=λv H=>∃d o kvs b,Z d b/\H d=qI (.frz o (.dK kvs))/\(b=.dK kvs\/b=.frz o (.dK kvs))/\D.rt v (upd H d b)}
def mForJ (J:iQ->oN->List (Key×V)->It)(te:TE)(g:TG)(tb:TS):TS:=λD σ H=>∀Z,tFor (iDct J Z te) g tb (thawB Z D) σ H
def Zb (X:Cx)(d:iQ)(b:HO):Prop:=(∃kvs,b=.dK kvs)->Zf X d
section
variable {X:Cx}{pins:Pnn}{σ:St}{H:Hp}{s:iM}{d:iQ}{kvs:List (Key×V)}
theorem zl3_ {H:Hp}{d:iQ}{b:HO}(h:H d=qI b):upd H d b=H:=by
 funext q;unfold upd;split
 ·rename_i e;rw[e,h]
 ·rfl
theorem Inv.pinD (I:Inv X pins σ H s)(hd:Rd H d (.dK kvs)):∃o b,H d=qI b/\(b=.dK kvs\/b=.frz o (.dK kvs))/\Zb X d b/\s.heap.get? d=qI o/\Inv X pins σ (upd H d (.frz o (.dK kvs))) s:=by
 rcases hd with hd |⟨o,hd⟩
 ·obtain⟨z,hsys,vs,rel,dd⟩:=zpv_ I.hok hd
  obtain⟨ep,hat⟩:=dd.dictAt;obtain⟨od,es,aJ,hc1,hdat,bP⟩:=id hat;exact⟨od,_,hd,.inl rfl,(λ_ o u z=>by have:=I.base.frzs d o u z;rw[hd]at this;cases this),aJ,I.frzD hd aJ⟩
 ·obtain⟨aJ,_⟩:=(show ObjOk X.prog X.w H s.heap d (.frz o (.dK kvs))from I.hok d _ hd)
  exact⟨o,_,hd,.inr rfl,(λ⟨_,z⟩=>by cases z),aJ,by rw[zl3_ hd];exact I⟩
theorem Inv.unpin {o:oN}{b:HO}(I:Inv X pins σ H s)(hd:H d=qI (.frz o (.dK kvs)))(hb:b=.dK kvs\/b=.frz o (.dK kvs))(z:Zb X d b):Inv X pins σ (upd H d b) s:=by
 rcases hb with rfl |rfl
 ·exact I.thawD hd (z ⟨_,rfl⟩)
 ·rw[zl3_ hd];exact I
end
section
variable {X:Cx}{e:i4}{te:TE}{apos af pos d7:Pos}{elts:List i4}{kk:Nat}{tg:i4}
theorem zpz_ (he:PE X e te):PI X tg e (iDct Itk (Zb X) te):=by
 intro pins s σ H R I h;refine thn (he pins s σ H _ I h) λu s1 ae=>?_
 obtain⟨x,H1,I1,rx,hx⟩:=ae;cases x with
 |ref d=>
  obtain⟨kvs,hd,q⟩:=hx;obtain rfl:u=jK d:=rx;obtain⟨z,hsys,vs,rel,dd⟩:=zeg_ I1.hok hd;obtain⟨ep,hat⟩:=dd.dictAt;obtain⟨o,b,h1,h2,h3,h4,I2⟩:=I1.pinD hd;obtain⟨od,es,aJ,hc1,hdat,bP⟩:=id hat;rw[h4]at aJ;cases aJ;refine wpAny_pyIter_dict hsys hat ?_;have hl:kvs.length=vs.length:=rel.length;have I3:Inv X pins σ (upd H1 d (.frz o (.dK kvs))) {s1 with heap:=s1.heap.push {cls:=.type "dict_keyiterator",data:=.fields #[.ref d,.int 0 0,.int vs.length 0,.int ep 0]}}:=I2.kept (t':=s1.toks) λb o e=>iU _ e
  refine⟨_,[_],_,Itk d o kvs,_,rfl,I3,zik_ _ d o kvs ep ⟨es,hdat⟩,?_,λb hb=>?_,q o b h1 h2 h3⟩
  ·rw[hl];exact⟨_,jj _ rfl,rfl,rfl⟩
  ·have e:=j6.mp hb
   subst e;exact I2.fpOk (iW _) (I2.hok.fresh (iW _))
 |_=>exact hx.elim
theorem zim_ (he:PE X e te)(m:M0 X e "items" apos af):PI X (.Tuple elts kk d7) (.Call (.Attribute e "items" apos) [] [] af) (iDct Iti (Zb X) te):=by
 intro pins s σ H R I h;refine wpAny_Call_method m.base m.few m.line nC nE PySem.F.type_dict_items (thn (he pins s σ H _ I h) λu s1 ae=>?_)
 obtain⟨x,H1,I1,rx,hx⟩:=ae;cases x with
 |ref d=>
  obtain⟨kvs,hd,q⟩:=hx;obtain rfl:u=jK d:=rx;obtain⟨t1,t2,hsys⟩:=zj8_ I1 (.inl ⟨kvs,hd⟩);refine⟨t1,t2,?_⟩;rw[m.trees];refine Calls.callWith_builtin rfl (oy ?_);obtain⟨z,hsys,vs,rel,dd⟩:=zeg_ I1.hok hd;refine call_meetsIn nE dd.typeIs PySem.F.entry_dict_items (PySem.F.args_dict_items_1 _) (meets_dict_items (mixKind X.prog X.w) d hsys) ⟨⟨vs,dd⟩,?_⟩;obtain⟨ep,hat⟩:=dd.dictAt;obtain⟨o,b,h1,h2,h3,h4,I2⟩:=I1.pinD hd;obtain⟨od,es,aJ,hc1,hdat,bP⟩:=id hat;rw[h4]at aJ;cases aJ;have I3:Inv X pins σ (upd H1 d (.frz o (.dK kvs))) {s1 with heap:=s1.heap.push {cls:=.type "dict_items",data:=.fields #[.ref d]}}:=I2.kept (t':=s1.toks) λb o e=>iU _ e
  refine wpAny_pyIter_items (s:={s1 with heap:=s1.heap.push {cls:=.type "dict_items",data:=.fields #[.ref d]}}) (kvs:=vs) (ep:=ep) ⟨_,jj _ rfl,rfl,rfl⟩ (hat.push _) ?_;have hl:kvs.length=vs.length:=rel.length;refine⟨_,[_],_,Iti d o kvs,_,rfl,I3.kept (t':=s1.toks) λb o e=>iU _ e,zin_ _ d o kvs ep ⟨es,hdat⟩,⟨.none,.none,?_⟩,λb hb=>?_,q o b h1 h2 h3⟩
  ·rw[hl];exact jj _ rfl
  ·have e:=j6.mp hb
   subst e;exact I3.fpOk (iW _) (I3.hok.fresh (iW _))
 |_=>exact hx.elim
theorem zh6_ {J:iQ->oN->List (Key×V)->It}{it:i4}{body:List jI}{g:TG}{tb:TS}(hp:PassesOwn (model X.prog X.w) X.A X.env X.xe)(hc:X.calm=qK)(hi:PI X tg it (iDct J (Zb X) te))(hg:PG X tg g)(hb:PSs X body tb)
  (hs:∀x,foldedSetIterable it X.env x=pure x):
  PS X (.For tg it body [] pos) (mForJ J te g tb):=by
 intro pins s σ H D I h;refine thn (zkb_ hp hc hi hg hb hs pins s σ H (thawB (Zb X) D) I (h (Zb X))) λf s' q=>?_
 cases f with
 |next=>obtain⟨ab,H',I',d,o,kvs,b,z,hd,hb,q⟩:=q;exact⟨ab,_,I'.unpin hd hb z,q⟩
 |ret u=>obtain⟨v,ab,H',I',r,d,o,kvs,b,z,hd,hb,q⟩:=q;exact⟨v,ab,_,I'.unpin hd hb z,r,q⟩
 |brk=>obtain⟨_,_,_,q⟩:=q;exact q.elim
 |cont=>obtain⟨_,_,_,q⟩:=q;exact q.elim
end
end L2
namespace VI
open PySem PySem.Spec PyProof.Rows L2
inductive Nd where
 |tup |lst |dct (ks:List Key)|obj (c:Str) (ns:List Str)|scr |ktup
 deriving DecidableEq
inductive D where
 |non |bl (b:Bool)|int (i:Int)|str (l:List Nat)|nd (k:Nd) (ds:List D)|fz (d:D)|pin (v:V)|gone
def SqU (K:jl)(a:iQ)(xs:List V):Prop:=∃(o:oN) (its:Array fv) (n:Nat),K.lookup a=qI o/\o.cls=.type "tuple" /\ o.data=.seq its n/\its.size<=iZ/\Vals xs its.toList
def NdR (K:jl)(k:Nd)(p:iQ)(us:List V)(H:Hp):Prop:=match k with
 |.tup=>H p=qI (.tup us)
 |.lst=>H p=qI (.lst us)
 |.scr=>SqL K H p us
 |.ktup=>SqU K p us
 |.dct ks=>Rd H p (.dK (ks.zip us))/\ks.length=us.length/\ks.Nodup
 |.obj c ns=>∃dx,H p=qI (.ins (gA K c) dx (ns.zip us))/\ns.length=us.length
theorem zaU_ {H H':Hp}{p:iQ}{u:HO}(g:Same H H')(h:Rd H p u):Rd H' p u:=h.imp (g _ _) λ⟨o,e⟩=>⟨o,g _ _ e⟩
theorem NdR.mono {K:jl}{k:Nd}{p:iQ}{us:List V}{H H':Hp}(g:Same H H')(h:NdR K k p us H):NdR K k p us H':=by
 cases k with
 |tup=>exact g _ _ h
 |lst=>exact g _ _ h
 |scr=>exact g.seq h
 |ktup=>exact h
 |dct ks=>exact⟨zaU_ g h.1,h.2⟩
 |obj c ns=>obtain⟨dx,e,l⟩:=h;exact⟨dx,g _ _ e,l⟩
mutual
def DR (K:jl):D->V->Hp->Prop
 |.non,v,_=>v=.non
 |.bl b,v,_=>v=.bl b
 |.int i,v,_=>v=.int i
 |.str l,v,_=>v=tx l
 |.nd k ds,v,H=>∃p us,v=.ref p/\NdR K k p us H/\DRs K ds us H
 |.fz d,v,H=>DR K d v H
 |.pin u,v,_=>v=u
 |.gone,_,_=>True
def DRs (K:jl):List D->List V->Hp->Prop
 |[],us,_=>us=[]
 |d::ds,us,H=>∃v vs,us=v::vs/\DR K d v H/\DRs K ds vs H
end
def Nk (K:jl)(H H':Hp):Prop:=∀k p us,NdR K k p us H->NdR K k p us H'
theorem DR.up {K:jl}{H H':Hp}(g:Nk K H H'):∀{d:D}{v:V},DR K d v H->DR K d v H'
 |.non,_,h=>by unfold DR at h ⊢;exact h
 |.bl _,_,h=>by unfold DR at h ⊢;exact h
 |.int _,_,h=>by unfold DR at h ⊢;exact h
 |.str _,_,h=>by unfold DR at h ⊢;exact h
 |.pin _,_,h=>by unfold DR at h ⊢;exact h
 |.gone,_,h=>by unfold DR at h ⊢;exact h
 |.fz d,_,h=>by unfold DR at h ⊢;exact DR.up g h
 |.nd k ds,_,h=>by unfold DR at h ⊢;obtain⟨p,us,e,n,r⟩:=h;exact⟨p,us,e,g _ _ _ n,go r⟩
where go:∀{ds:List D}{us:List V},DRs K ds us H->DRs K ds us H'
 |[],_,h=>by unfold DRs at h ⊢;exact h
 |d::ds,_,h=>by unfold DRs at h ⊢;obtain⟨v,vs,e,a,r⟩:=h;exact⟨v,vs,e,DR.up g a,go r⟩
theorem zdY_ {K:jl}{H H':Hp}(g:Same H H'):Nk K H H':=λ_ _ _ n=>n.mono g
theorem DR.mono {K:jl}{H H':Hp}(g:Same H H'){d:D}{v:V}(h:DR K d v H):DR K d v H':=h.up (zdY_ g)
theorem DRs.mono {K:jl}{H H':Hp}(g:Same H H'){ds:List D}{us:List V}(h:DRs K ds us H):DRs K ds us H':=DR.up.go (zdY_ g) h
theorem DRs.prs {K:jl}{H:Hp}:∀{ds:List D}{us:List V},DRs K ds us H↔Paired (λd v=>DR K d v H) ds us
 |[],us=>⟨λh=>by unfold DRs at h;subst h;exact .nil,λh=>by cases h;unfold DRs;rfl⟩
 |d::ds,us=>⟨λh=>by unfold DRs at h;obtain⟨v,vs,rfl,a,r⟩:=h;exact .cons a (DRs.prs.mp r),λh=>by
  cases h with |cons a r=>unfold DRs;exact⟨_,_,rfl,a,DRs.prs.mpr r⟩⟩
mutual
noncomputable def D.imm:D->Bool
 |.nd .tup ds=>D.imms ds
 |.nd .ktup ds=>D.imms ds
 |.nd _ _=>qL
 |.fz d=>d.imm
 |.pin _=>qL
 |.gone=>qL
 |_=>qK
noncomputable def D.imms:List D->Bool
 |[]=>qK
 |d::ds=>d.imm && D.imms ds
end
mutual
def D.new:D->Bool
 |.nd _ ds=>D.news ds
 |.fz d=>d.imm
 |.pin _=>qL
 |.gone=>qL
 |_=>qK
def D.news:List D->Bool
 |[]=>qK
 |d::ds=>d.new && D.news ds
end
def Cell (K:jl)(k:Nd)(p:iQ)(us:List V)(F h:Hp):Prop:=match k with
 |.tup=>F p=qI (.tup us)/\∀q,h q=qJ
 |.scr=>False
 |.ktup=>SqU K p us/\∀q,h q=qJ
 |.lst=>h=one p (.lst us)
 |.dct ks=>h=one p (.dK (ks.zip us))/\ks.length=us.length/\ks.Nodup
 |.obj c ns=>∃dx,dx≠p/\h=two p dx (.ins (gA K c) dx (ns.zip us))/\ns.length=us.length
mutual
def OD (K:jl):D->V->Hp->Hp->Prop
 |.nd k ds,v,F,h=>∃p us h0 h2,v=.ref p/\Cell K k p us F h0/\Jn h0 h2 h/\ODs K ds us F h2
 |d,v,F,h=>(∀p,h p=qJ)/\DR K d v F
def ODs (K:jl):List D->List V->Hp->Hp->Prop
 |[],us,_,h=>us=[]/\∀p,h p=qJ
 |d::ds,us,F,h=>∃v vs h1 h2,us=v::vs/\Jn h1 h2 h/\OD K d v F h1/\ODs K ds vs F h2
end
section
variable {K:jF}{F F' h h1 h2 H:Hp}{d:D}{ds:List D}{v:V}{us:List V}{k:Nd}{p:iQ}
theorem zd_ {p q:iQ}{o:HO}:one p o q=if q=p then qI o else qJ:=rfl
theorem Cell.mono (g:Tups F F')(c:Cell K k p us F h):Cell K k p us F' h:=by
 cases k with
 |tup=>exact⟨g _ _ c.1,c.2⟩
 |lst=>exact c
 |scr=>exact c
 |ktup=>exact c
 |dct ks=>exact c
 |obj c' ns=>exact c
theorem Cell.notup (c:Cell K k p us F h)(q:iQ)(xs:List V):h q≠qI (.tup xs):=by
 cases k with
 |tup=>rw[c.2];exact λz=>by cases z
 |ktup=>rw[c.2];exact λz=>by cases z
 |scr=>exact jL c
 |lst=>rw[show h=_ from c,zd_];split<;>exact λz=>by cases z
 |dct ks=>rw[c.1,zd_];split<;>exact λz=>by cases z
 |obj c' ns=>
  obtain⟨dx,n,e,l⟩:=c;rw[e];unfold two;split
  ·exact λz=>by cases z
  ·split<;>exact λz=>by cases z
theorem Cell.nd (c:Cell K k p us F h)(g:Same F H)(g':Same h H):NdR K k p us H:=by
 cases k with
 |tup=>exact g _ _ c.1
 |ktup=>exact c.1
 |scr=>exact jL c
 |lst=>exact g' _ _ (by rw[show h=_ from c];exact zy_)
 |dct ks=>exact⟨.inl (g' _ _ (by rw[c.1];exact zy_)),c.2⟩
 |obj c' ns=>obtain⟨dx,n,e,l⟩:=c;exact⟨dx,g' _ _ (by rw[e];exact zm7_),l⟩
theorem OD.up (g:Nk K F F'):∀{d:D}{v:V}{h:Hp},OD K d v F h->OD K d v F' h
 |.nd k ds,_,_,q=>by unfold OD at q ⊢;obtain⟨p,us,h0,h2,e,c,j,r⟩:=q;exact⟨p,us,h0,h2,e,c.mono (λp xs=>g .tup p xs),j,go r⟩
 |.non,_,_,q=>by unfold OD at q ⊢;exact⟨q.1,q.2.up g⟩
 |.bl _,_,_,q=>by unfold OD at q ⊢;exact⟨q.1,q.2.up g⟩
 |.int _,_,_,q=>by unfold OD at q ⊢;exact⟨q.1,q.2.up g⟩
 |.str _,_,_,q=>by unfold OD at q ⊢;exact⟨q.1,q.2.up g⟩
 |.fz _,_,_,q=>by unfold OD at q ⊢;exact⟨q.1,q.2.up g⟩
 |.pin _,_,_,q=>by unfold OD at q ⊢;exact⟨q.1,q.2.up g⟩
 |.gone,_,_,q=>by unfold OD at q ⊢;exact⟨q.1,q.2.up g⟩
where go:∀{ds:List D}{us:List V}{h:Hp},ODs K ds us F h->ODs K ds us F' h
 |[],_,_,q=>by unfold ODs at q ⊢;exact q
 |d::ds,_,_,q=>by unfold ODs at q ⊢;obtain⟨v,vs,h1,h2,e,j,a,r⟩:=q;exact⟨v,vs,h1,h2,e,j,OD.up g a,go r⟩
theorem OD.mono (g:Same F F'){d:D}{v:V}{h:Hp}(q:OD K d v F h):OD K d v F' h:=q.up (zdY_ g)
theorem OD.mono.go (g:Same F F'){ds:List D}{us:List V}{h:Hp}(q:ODs K ds us F h):ODs K ds us F' h:=OD.up.go (zdY_ g) q
theorem OD.notup:∀{d:D}{v:V}{h:Hp},OD K d v F h->∀p xs,h p≠qI (.tup xs)
 |.nd k ds,_,_,q,p,xs=>by
  unfold OD at q;obtain⟨_,us,h0,h2,e,c,j,r⟩:=q;rcases j p with⟨_,y⟩|⟨_,y⟩
  ·rw[y];exact go r p xs
  ·rw[y];exact c.notup p xs
 |.non,_,_,q,p,xs=>by unfold OD at q;rw[q.1];exact λz=>by cases z
 |.bl _,_,_,q,p,xs=>by unfold OD at q;rw[q.1];exact λz=>by cases z
 |.int _,_,_,q,p,xs=>by unfold OD at q;rw[q.1];exact λz=>by cases z
 |.str _,_,_,q,p,xs=>by unfold OD at q;rw[q.1];exact λz=>by cases z
 |.fz _,_,_,q,p,xs=>by unfold OD at q;rw[q.1];exact λz=>by cases z
 |.pin _,_,_,q,p,xs=>by unfold OD at q;rw[q.1];exact λz=>by cases z
 |.gone,_,_,q,p,xs=>by unfold OD at q;rw[q.1];exact λz=>by cases z
where go:∀{ds:List D}{us:List V}{h:Hp},ODs K ds us F h->∀p xs,h p≠qI (.tup xs)
 |[],_,_,q,p,xs=>by unfold ODs at q;rw[q.2];exact λz=>by cases z
 |d::ds,_,_,q,p,xs=>by
  unfold ODs at q;obtain⟨v,vs,h1,h2,e,j,a,r⟩:=q;rcases j p with⟨_,y⟩|⟨_,y⟩
  ·rw[y];exact go r p xs
  ·rw[y];exact OD.notup a p xs
theorem OD.view (g:Same F H):∀{d:D}{v:V}{h:Hp},Same h H->OD K d v F h->DR K d v H
 |.nd k ds,_,_,g',q=>by
  unfold OD at q;unfold DR;obtain⟨p,us,h0,h2,e,c,j,r⟩:=q;exact⟨p,us,e,c.nd g (j.l.trans g'),go (j.r.trans g') r⟩
 |.non,_,_,_,q=>by unfold OD at q;exact q.2.mono g
 |.bl _,_,_,_,q=>by unfold OD at q;exact q.2.mono g
 |.int _,_,_,_,q=>by unfold OD at q;exact q.2.mono g
 |.str _,_,_,_,q=>by unfold OD at q;exact q.2.mono g
 |.fz _,_,_,_,q=>by unfold OD at q;exact q.2.mono g
 |.pin _,_,_,_,q=>by unfold OD at q;exact q.2.mono g
 |.gone,_,_,_,q=>by unfold OD at q;exact q.2.mono g
where go:∀{ds:List D}{us:List V}{h:Hp},Same h H->ODs K ds us F h->DRs K ds us H
 |[],_,_,_,q=>by unfold ODs at q;unfold DRs;exact q.1
 |d::ds,_,_,g',q=>by
  unfold ODs at q;unfold DRs;obtain⟨v,vs,h1,h2,e,j,a,r⟩:=q;exact⟨v,vs,e,OD.view g (j.l.trans g') a,go (j.r.trans g') r⟩
theorem DR.imm (g:Tups F F'):∀{d:D}{v:V},d.imm=qK->DR K d v F->DR K d v F'
 |.nd .tup ds,_,z,q=>by unfold D.imm at z;unfold DR at q ⊢;obtain⟨p,us,e,n,r⟩:=q;exact⟨p,us,e,g _ _ n,go z r⟩
 |.nd .ktup ds,_,z,q=>by unfold D.imm at z;unfold DR at q ⊢;obtain⟨p,us,e,n,r⟩:=q;exact⟨p,us,e,n,go z r⟩
 |.nd .scr _,_,z,_=>by simp[D.imm]at z
 |.nd .lst _,_,z,_=>by simp[D.imm]at z
 |.nd (.dct _) _,_,z,_=>by simp[D.imm]at z
 |.nd (.obj _ _) _,_,z,_=>by simp[D.imm]at z
 |.non,_,_,q=>by unfold DR at q ⊢;exact q
 |.bl _,_,_,q=>by unfold DR at q ⊢;exact q
 |.int _,_,_,q=>by unfold DR at q ⊢;exact q
 |.str _,_,_,q=>by unfold DR at q ⊢;exact q
 |.fz d,_,z,q=>by unfold D.imm at z;unfold DR at q ⊢;exact DR.imm g z q
 |.pin _,_,z,_=>by simp[D.imm]at z
 |.gone,_,z,_=>by simp[D.imm]at z
where go:∀{ds:List D}{us:List V},D.imms ds=qK->DRs K ds us F->DRs K ds us F'
 |[],_,_,q=>by unfold DRs at q ⊢;exact q
 |d::ds,_,z,q=>by
  unfold D.imms at z;obtain⟨z1,z2⟩:=jE.mp z;unfold DRs at q ⊢;obtain⟨v,vs,e,a,r⟩:=q;exact⟨v,vs,e,DR.imm g z1 a,go z2 r⟩
theorem OD.of_imm (hn:∀p,h p=qJ):∀{d:D}{v:V},d.imm=qK->DR K d v F->OD K d v F h
 |.nd .tup ds,_,z,q=>by
  unfold D.imm at z;unfold DR at q;unfold OD;obtain⟨p,us,e,n,r⟩:=q;exact⟨p,us,h,h,e,⟨n,hn⟩,λq=>.inl ⟨hn q,rfl⟩,go z r⟩
 |.nd .ktup ds,_,z,q=>by
  unfold D.imm at z;unfold DR at q;unfold OD;obtain⟨p,us,e,n,r⟩:=q;exact⟨p,us,h,h,e,⟨n,hn⟩,λq=>.inl ⟨hn q,rfl⟩,go z r⟩
 |.nd .scr _,_,z,_=>by simp[D.imm]at z
 |.nd .lst _,_,z,_=>by simp[D.imm]at z
 |.nd (.dct _) _,_,z,_=>by simp[D.imm]at z
 |.nd (.obj _ _) _,_,z,_=>by simp[D.imm]at z
 |.non,_,_,q=>by unfold OD;exact⟨hn,q⟩
 |.bl _,_,_,q=>by unfold OD;exact⟨hn,q⟩
 |.int _,_,_,q=>by unfold OD;exact⟨hn,q⟩
 |.str _,_,_,q=>by unfold OD;exact⟨hn,q⟩
 |.fz d,_,_,q=>by unfold OD;exact⟨hn,q⟩
 |.pin _,_,z,_=>by simp[D.imm]at z
 |.gone,_,z,_=>by simp[D.imm]at z
where go:∀{ds:List D}{us:List V},D.imms ds=qK->DRs K ds us F->ODs K ds us F h
 |[],_,_,q=>by unfold DRs at q;unfold ODs;exact⟨q,hn⟩
 |d::ds,_,z,q=>by
  unfold D.imms at z;obtain⟨z1,z2⟩:=jE.mp z;unfold DRs at q;unfold ODs;obtain⟨v,vs,e,a,r⟩:=q;exact⟨v,vs,h,h,e,λq=>.inl ⟨hn q,rfl⟩,OD.of_imm hn z1 a,go z2 r⟩
theorem OD.newImm (g:Tups F F'):∀{d:D}{v:V}{h:Hp},d.new=qK->OD K d v F h->OD K d v F' h
 |.nd k ds,_,_,z,q=>by unfold D.new at z;unfold OD at q ⊢;obtain⟨p,us,h0,h2,e,c,j,r⟩:=q;exact⟨p,us,h0,h2,e,c.mono g,j,go z r⟩
 |.non,_,_,_,q=>by unfold OD at q ⊢;exact⟨q.1,q.2.imm g rfl⟩
 |.bl _,_,_,_,q=>by unfold OD at q ⊢;exact⟨q.1,q.2.imm g rfl⟩
 |.int _,_,_,_,q=>by unfold OD at q ⊢;exact⟨q.1,q.2.imm g rfl⟩
 |.str _,_,_,_,q=>by unfold OD at q ⊢;exact⟨q.1,q.2.imm g rfl⟩
 |.fz d,_,_,z,q=>by unfold D.new at z;unfold OD at q ⊢;exact⟨q.1,q.2.imm g (by unfold D.imm;exact z)⟩
 |.pin _,_,_,z,_=>by simp[D.new]at z
 |.gone,_,_,z,_=>by simp[D.new]at z
where go:∀{ds:List D}{us:List V}{h:Hp},D.news ds=qK->ODs K ds us F h->ODs K ds us F' h
 |[],_,_,_,q=>by unfold ODs at q ⊢;exact q
 |d::ds,_,_,z,q=>by
  unfold D.news at z;obtain⟨z1,z2⟩:=jE.mp z;unfold ODs at q ⊢;obtain⟨v,vs,h1,h2,e,j,a,r⟩:=q;exact⟨v,vs,h1,h2,e,j,OD.newImm g z1 a,go z2 r⟩
end
abbrev tyD (K:jl):Ty D:=⟨DR K,λg h=>h.mono g⟩
abbrev owD (K:jl):Own D:=⟨OD K,tyD K,λg h=>h.mono g,λd h=>OD.view zaC_ (zdu_ d) h,λh=>h.notup⟩
noncomputable abbrev Env:=List (Option D)
def slot (K:jl):Option D->Sl
 |none=>.dead
 |some d=>.ow (owD K) d
abbrev Lof (K:jl)(env:Env):List Sl:=env.map (slot K)
noncomputable def D.un:D->D
 |.fz d=>d.un
 |d=>d
def D.vw (d:D):D:=if d.imm then d else match d with |.fz _=>d |_=>.fz d
section
variable {K:jF}{E:XK}{F h h1 h2 H:Hp}{d:D}{ds:List D}{v:V}{us:List V}{k:Nd}{p:iQ}{Q:VK}
theorem DR.un:∀{d:D},DR K d v H->DR K d.un v H
 |.fz d,q=>by unfold DR at q;unfold D.un;exact DR.un q
 |.non,q=>q
 |.bl _,q=>q
 |.int _,q=>q
 |.str _,q=>q
 |.nd _ _,q=>q
 |.pin _,q=>q
 |.gone,q=>q
theorem DR.int {i:Int}(h:DR K (.int i) v H):v=.int i:=by unfold DR at h;exact h
theorem DR.str {l:List Nat}(h:DR K (.str l) v H):v=tx l:=by unfold DR at h;exact h
theorem DR.bl {b:Bool}(h:DR K (.bl b) v H):v=.bl b:=by unfold DR at h;exact h
theorem DR.non (h:DR K .non v H):v=.non:=by unfold DR at h;exact h
theorem DR.nd (h:DR K (.nd k ds) v H):∃p us,v=.ref p/\NdR K k p us H/\DRs K ds us H:=by unfold DR at h;exact h
theorem OD.vw (hn:∀p,h p=qJ)(r:DR K d v F):OD K d.vw v F h:=by
 unfold D.vw;split
 ·exact OD.of_imm hn (by assumption) r
 ·split
  ·unfold OD;exact⟨hn,r⟩
  ·unfold OD;exact⟨hn,by unfold DR;exact r⟩
theorem ODs.vw (hn:∀p,h p=qJ):∀{ds:List D}{us:List V},DRs K ds us F->ODs K (ds.map D.vw) us F h
 |[],_,q=>by unfold DRs at q;unfold ODs;exact⟨q,hn⟩
 |d::ds,_,q=>by
  unfold DRs at q;obtain⟨v,vs,e,a,r⟩:=q;rw[iN];unfold ODs;exact⟨v,vs,h,h,e,λq=>.inl ⟨hn q,rfl⟩,OD.vw hn a,ODs.vw hn r⟩
theorem DRs.len (h:DRs K ds us H):ds.length=us.length:=Paired.length (DRs.prs.mp h)
theorem DRs.get (h:DRs K ds us H)(i:Nat):(ds[i]?=qJ/\us[i]?=qJ)\/∃d v,ds[i]?=qI d/\us[i]?=qI v/\DR K d v H:=Prs.get (T:=tyD K) (DRs.prs.mp h) i
theorem DRs.app {es:List D}{ws:List V}(a:DRs K ds us H)(b:DRs K es ws H):DRs K (ds++es) (us++ws) H:=DRs.prs.mpr (Prs.append (T:=tyD K) (DRs.prs.mp a) (DRs.prs.mp b))
theorem DRs.atI (h:DRs K ds us H){i:Int}{d:D}(e:atI ds i=qI d):∃v,L2.atI us i=qI v/\DR K d v H:=zlL_ (T:=tyD K) (DRs.prs.mp h) e
theorem gotV (q:After K (.ok d.vw) E F H (OwnK (owD K) H Q))(hs:Same F H)(r:DR K d v F):Q v H:=
 q.ok hs v (λ_=>qJ) (λp z=>absurd rfl z) (λp=>.inr rfl) (λp o z=>by cases z) (OD.vw (λ_=>rfl) r)
theorem got (q:After K (.ok d) E F H (OwnK (owD K) H Q))(hs:Same F H)(r:DR K d v F)(i:d.imm=qK:=by rfl):Q v H:=
 q.ok hs v (λ_=>qJ) (λp z=>absurd rfl z) (λp=>.inr rfl) (λp o z=>by cases z) (OD.of_imm (λ_=>rfl) i r)
theorem gotI {i:Int}(q:After K (.ok (.int i)) E F H (OwnK (owD K) H Q))(hs:Same F H):Q (.int i) H:=got q hs (by unfold DR;rfl)
theorem gotS {i:List Nat}(q:After K (.ok (.str i)) E F H (OwnK (owD K) H Q))(hs:Same F H):Q (tx i) H:=got q hs (by unfold DR;rfl)
theorem gotB {i:Bool}(q:After K (.ok (.bl i)) E F H (OwnK (owD K) H Q))(hs:Same F H):Q (.bl i) H:=got q hs (by unfold DR;rfl)
theorem gotN (q:After K (.ok .non) E F H (OwnK (owD K) H Q))(hs:Same F H):Q .non H:=got q hs (by unfold DR;rfl)
theorem no_r {h:Hp}(z:Hp)(hz:∀p,z p=qJ):Jn h z h:=λp=>.inr ⟨hz p,rfl⟩
theorem newL (q:After K (.ok (.nd .lst (ds.map .vw))) E F H (OwnK (owD K) H Q))(hs:Same F H)(hp:H p=qJ)(r:DRs K ds us F):Q (.ref p) (upd H p (.lst us)):=by
 refine q F _ (.heap hs (zax_ hp _)) (.ref p) (one p (.lst us)) (λb z=>?_) (λb=>?_) (λb o z=>?_) ?_
 ·rw[zd_]at z;split at z
  ·rename_i e;rw[e];exact hp
  ·exact absurd rfl z
 ·rw[zd_];split
  ·rename_i e;rw[e];exact .inl (hs.free hp)
  ·exact .inr rfl
 ·rw[zd_]at z;split at z
  ·rename_i e;rw[e];cases z;exact zm_
  ·cases z
 ·show OD K _ _ _ _
  unfold OD;exact⟨p,us,_,λ_=>qJ,rfl,rfl,no_r _ λ_=>rfl,ODs.vw (λ_=>rfl) r⟩
def addD (a b:D):Mo D:=match a.un,b.un with
 |.int i,.int j=>.ok (.int (i+j))
 |.str x,.str y=>.lim (x.length+y.length) (.ok (.str (x++y)))
 |.nd .lst xs,.nd .lst ys=>.lim (xs.length+ys.length) (.ok (.nd .lst ((xs++ys).map .vw)))
 |_,_=>.no
abbrev Op2D (K:jl)(m:R2)(E:XK)(g:D->D->Mo D):Prop:=Op2O K m E (tyD K) (tyD K) g (owD K)
theorem znG_:Op2D K mAdd E addD:=by
 intro a b x y F H Q hs ha hb q;have ha:=DR.un ha;have hb:=DR.un hb;unfold addD at q;split at q
 ·rename_i e1 e2;rw[e1]at ha;rw[e2]at hb;cases ha.int;cases hb.int;exact gotI q hs
 ·rename_i e1 e2;rw[e1]at ha;rw[e2]at hb;cases ha.str;cases hb.str
  obtain⟨c,q⟩:=q.lim;exact⟨c,gotS q hs⟩
 ·rename_i e1 e2;rw[e1]at ha;rw[e2]at hb
  obtain⟨p,us,rfl,n,r⟩:=ha.nd;obtain⟨p2,ws,rfl,n2,r2⟩:=hb.nd;obtain⟨c,q⟩:=q.lim;exact⟨us,ws,hs _ _ n,hs _ _ n2,by rw[<- r.len,<- r2.len];exact c,λl hl=>newL q hs hl (r.app r2)⟩
 ·exact q.elim
def i2D (g:Int->Int->Mo D)(a b:D):Mo D:=match a.un,b.un with |.int i,.int j=>g i j |_,_=>.no
theorem zpu_ {g:Int->Int->V}{f:Int->Int->D}(h:∀i j F,DR K (f i j) (g i j) F)(im:∀i j,(f i j).imm=qK):Op2D K (mI0 g) E (i2D λi j=>.ok (f i j)):=by
 intro a b x y F H Q hs ha hb q;have ha:=DR.un ha;have hb:=DR.un hb;unfold i2D at q;split at q
 ·rename_i e1 e2;rw[e1]at ha;rw[e2]at hb;cases ha.int;cases hb.int;exact got q hs (h _ _ _) (im _ _)
 ·exact q.elim
theorem od_i {C:Int->Int->Prop}[∀i j,Decidable (C i j)]{g:Int->Int->V}{f:Int->Int->D}(h:∀i j F,DR K (f i j) (g i j) F)(im:∀i j,(f i j).imm=qK):Op2D K (mI C g) E (i2D λi j=>.grd (C i j) (.ok (f i j))):=by
 intro a b x y F H Q hs ha hb q;have ha:=DR.un ha;have hb:=DR.un hb;unfold i2D at q;split at q
 ·rename_i e1 e2;rw[e1]at ha;rw[e2]at hb;cases ha.int;cases hb.int
  obtain⟨c,q⟩:=q.grd;exact⟨c,got q hs (h _ _ _) (im _ _)⟩
 ·exact q.elim
abbrev subD:=i2D λi j=>.ok (.int (i-j))
abbrev modD:=i2D λi j=>.grd (0<j) (.ok (.int (i % j)))
abbrev divD:=i2D λi j=>.grd (CDivG i j) (.ok (.int (i / j)))
theorem zpt_:Op2D K mSub E subD:=zpu_ (λ_ _ _=>by unfold DR;rfl) λ_ _=>rfl
theorem zno_:Op2D K mMod E modD:=od_i (C:=λ_ j=>0<j) (λ_ _ _=>by unfold DR;rfl) λ_ _=>rfl
theorem zpn_:Op2D K mDivG E divD:=od_i (λ_ _ _=>by unfold DR;rfl) λ_ _=>rfl
abbrev gtD:=i2D λi j=>.ok (.bl (decide (j<i)))
abbrev ltD:=i2D λi j=>.ok (.bl (decide (i<j)))
theorem od_gt:Op2D K mGt E gtD:=zpu_ (λ_ _ _=>by unfold DR;rfl) λ_ _=>rfl
theorem od_lt:Op2D K mLt E ltD:=zpu_ (λ_ _ _=>by unfold DR;rfl) λ_ _=>rfl
def mulD (a b:D):Mo D:=match a.un,b.un with
 |.int i,.int j=>.grd (IntMulOk i j) (.ok (.int (i*j)))
 |.str x,.int n=>.grd (CRep x.length n) (.ok (.str (repL x n)))
 |.nd .lst xs,.int n=>.grd (CRep xs.length n) (.ok (.nd .lst ((repL xs n).map .vw)))
 |_,_=>.no
theorem DRs.rep (r:DRs K ds us H)(n:Int):DRs K (repL ds n) (repL us n) H:=DRs.prs.mpr (zlN_ (T:=tyD K) (DRs.prs.mp r) n)
theorem DRs.cut (r:DRs K ds us H)(lo hi:Option Int):DRs K (cutG ds lo hi) (cutV us lo hi) H:=DRs.prs.mpr (zlx_ (T:=tyD K) (DRs.prs.mp r) lo hi)
theorem znK_:Op2D K mMulX E mulD:=by
 intro a b x y F H Q hs ha hb q;have ha:=DR.un ha;have hb:=DR.un hb;unfold mulD at q;split at q
 ·rename_i e1 e2;rw[e1]at ha;rw[e2]at hb;cases ha.int;cases hb.int
  obtain⟨c,q⟩:=q.grd;exact⟨c,gotI q hs⟩
 ·rename_i e1 e2;rw[e1]at ha;rw[e2]at hb;cases ha.str;cases hb.int
  obtain⟨c,q⟩:=q.grd;exact⟨c,gotS q hs⟩
 ·rename_i e1 e2;rw[e1]at ha;rw[e2]at hb
  obtain⟨p,us,rfl,n,r⟩:=ha.nd;cases hb.int;obtain⟨c,q⟩:=q.grd;exact⟨us,hs _ _ n,by rw[<- r.len];exact c,λl hl=>newL q hs hl (r.rep _)⟩
 ·exact q.elim
def ixD (a b:D):Mo D:=match a.un,b.un with
 |.nd .lst xs,.int i=>.opt ((atI xs i).map .vw)
 |.nd .tup xs,.int i=>.opt ((atI xs i).map .vw)
 |.nd .scr xs,.int i=>.opt ((atI xs i).map .vw)
 |.nd .ktup xs,.int i=>.opt ((atI xs i).map .vw)
 |.str l,.int i=>.lim l.length (.opt ((atI l i).map λc=>.str [c]))
 |_,_=>.no
theorem zgo_ {ds:List D}{i:Int}(hs:Same F H)(n:SqL K H p us\/SqT K H p us)(r:DRs K ds us F)(q:After K (.opt ((atI ds i).map .vw)) E F H (OwnK (owD K) H Q)):mIx K (.ref p) (.int i) H Q:=by
 obtain⟨d,e,q⟩:=q.opt;obtain⟨d',e',rfl⟩:=iV.mp e;obtain⟨v,e2,rv⟩:=r.atI e';refine⟨us,n,?_⟩;rw[e2];exact gotV q hs rv
theorem od_ix:Op2D K (mIx K) E ixD:=by
 intro a b x y F H Q hs ha hb q;have ha:=DR.un ha;have hb:=DR.un hb;unfold ixD at q;split at q
 ·rename_i e1 e2;rw[e1]at ha;rw[e2]at hb;obtain⟨p,us,rfl,n,r⟩:=ha.nd;cases hb.int;exact zgo_ hs (.inl (.of (hs _ _ n))) r q
 ·rename_i e1 e2;rw[e1]at ha;rw[e2]at hb;obtain⟨p,us,rfl,n,r⟩:=ha.nd;cases hb.int;exact zgo_ hs (.inr (.of (hs _ _ n))) r q
 ·rename_i e1 e2;rw[e1]at ha;rw[e2]at hb;obtain⟨p,us,rfl,n,r⟩:=ha.nd;cases hb.int;exact zgo_ hs (.inl (hs.seq n)) r q
 ·rename_i e1 e2;rw[e1]at ha;rw[e2]at hb;obtain⟨p,us,rfl,n,r⟩:=ha.nd;cases hb.int;exact zgo_ hs (.inr (.inr n)) r q
 ·rename_i l i e1 e2;rw[e1]at ha;rw[e2]at hb;cases ha.str;cases hb.int
  obtain⟨z,q⟩:=q.lim;obtain⟨d,e,q⟩:=q.opt;obtain⟨c,e',rfl⟩:=iV.mp e;refine⟨z,?_⟩;show(match atI l i with |some c=>Q (tx [c]) H |none=>False)
  rw[e'];exact gotS q hs
 ·exact q.elim
def keyD (d:D):Option Key:=match d.un with
 |.int i=>qI (.inl i)
 |.str l=>qI (.inr ⟨l.toArray⟩)
 |_=>qJ
theorem zjT_ {k:Key}(e:keyD d=qI k)(h:DR K d v H):keyV v=qI k/\v=kV k:=by
 have h:=DR.un h;unfold keyD at e;cases hd:d.un with
 |int i=>rw[hd]at e h;cases e;cases h.int;exact⟨rfl,rfl⟩
 |str l=>rw[hd]at e h;cases e;cases h.str;exact⟨rfl,rfl⟩
 |_=>rw[hd]at e;cases e
def valD (ks:List Key)(ds:List D)(k:Key):Option D:=((ks.zip ds).find? λq=>decide (q.1=k)).map (·.2)
theorem zm4_ {k:Key}:∀{ks:List Key}{ds:List D}{us:List V},DRs K ds us H->(valD ks ds k=qJ/\valV (ks.zip us) k=qJ)\/∃d v,valD ks ds k=qI d/\valV (ks.zip us) k=qI v/\DR K d v H
 |[],ds,us,h=>.inl ⟨rfl,rfl⟩
 |k0::ks,[],us,h=>by unfold DRs at h;subst h;exact .inl ⟨rfl,rfl⟩
 |k0::ks,d::ds,us,h=>by
  unfold DRs at h;obtain⟨v,vs,rfl,a,r⟩:=h;by_cases e:k0=k
  ·subst e
   exact .inr ⟨d,v,by simp[valD],by simp[valV],a⟩
  ·rcases zm4_ (k:=k) (ks:=ks) r with⟨h1,h2⟩|⟨d',v',h1,h2,h3⟩
   ·exact .inl ⟨by unfold valD at h1 ⊢;rw[jt,lh (by simpa using e)];exact h1,by unfold valV at h2 ⊢;rw[jt,lh (by simpa using e)];exact h2⟩
   ·exact .inr ⟨d',v',by unfold valD at h1 ⊢;rw[jt,lh (by simpa using e)];exact h1,by unfold valV at h2 ⊢;rw[jt,lh (by simpa using e)];exact h2,h3⟩
def dgetD (a b:D):Mo D:=match a.un,keyD b with
 |.nd (.dct ks) ds,qI k=>.opt ((valD ks ds k).map .vw)
 |_,_=>.no
def dinD (neg:Bool)(b a:D):Mo D:=match a.un,keyD b with
 |.nd (.dct ks) ds,qI k=>.ok (.bl (if neg then !(valD ks ds k).isSome else(valD ks ds k).isSome))
 |_,_=>.no
theorem zli_ {x y:V}{R:iQ->List (Key×V)->Key->Prop}{kvs:List (Key×V)}{k:Key}(hx:x=.ref p)(hy:keyV y=qI k)(h:H p=qI (.dK kvs))(r:R p kvs k):atD x y H R:=by
 subst hx;unfold atD;dsimp only;rw[hy];exact⟨kvs,h,r⟩
def atR (x y:V)(H:Hp)(R:iQ->List (Key×V)->Key->Prop):Prop:=match x with
 |.ref a=>(match keyV y with |some k=>∃kvs,Rd H a (.dK kvs)/\R a kvs k |none=>False)
 |_=>False
theorem ziA_ {x y:V}{H:Hp}{R:iQ->List (Key×V)->Key->Prop}(h:atR x y H R):∃a kvs k,x=.ref a/\y=kV k/\Rd H a (.dK kvs)/\R a kvs k:=by
 unfold atR at h;cases x with
 |ref a=>
  cases e:keyV y with
  |none=>rw[e]at h;exact h.elim
  |some k=>
   rw[e]at h;obtain⟨kvs,h1,h2⟩:=h;exact⟨a,kvs,k,rfl,zhT_ e,h1,h2⟩
 |_=>exact h.elim
theorem zjD_ {x y:V}{R:iQ->List (Key×V)->Key->Prop}{kvs:List (Key×V)}{k:Key}(hx:x=.ref p)(hy:keyV y=qI k)(h:Rd H p (.dK kvs))(r:R p kvs k):atR x y H R:=by
 subst hx;unfold atR;dsimp only;rw[hy];exact⟨kvs,h,r⟩
section
variable {t t1 t2:TE}{r r1 r2:Mo D}{env:Env}
abbrev EvX (K:jl)(t:TE)(E:XK)(env:Env)(r:Mo D):Prop:=EvO K t E (Lof K env) r (owD K)
abbrev EvV (K:jl)(t:TE)(E:XK)(env:Env)(r:Mo D):Prop:=EvF K t E (Lof K env) r (tyD K)
theorem ex_v (h:EvX K t E env r):EvV K t E env r:=h.fr
theorem ex_op {m:R2}{g:D->D->Mo D}(o:Op2D K m E g)(h1:EvX K t1 E env r1)(h2:EvX K t2 E env r2):EvX K (tOp m t1 t2) E env (r1.bind λa=>r2.bind λb=>g a b):=znw_ o (ex_v h1) (ex_v h2)
def getE (env:Env)(i:Nat):Mo D:=match env[i]? with |some (qI d)=>.ok d.vw |_=>.no
theorem znp_ (i:Nat):EvX K (mVar i) E env (getE env i):=by
 intro σ F H Q hL hs q;unfold getE at q;split at q
 ·rename_i d e
  obtain⟨v,ev,rv⟩:=hL i (slot K (qI d)) (by rw[iS,e];rfl)
  unfold mVar;cases z:σ[i]? with
  |none=>rw[z]at ev;cases ev
  |some o=>rw[z]at ev;cases(show o=qI v from ev);exact gotV q hs rv
 ·exact q.elim
theorem ex_c {d:D}{v:V}(h:∀F,DR K d v F)(i:d.imm=qK:=by rfl):EvX K (tC v) E env (.ok d):=λσ F H Q hL hs q=>got q hs (h F) i
def blD (d:D):Mo Bool:=match d.un with |.bl b=>.ok b |_=>.no
theorem zea_ (h:EvX K t E env r):EvT K (mTest t) E (Lof K env) (r.bind blD):=by
 intro σ F H Q hL hs q;refine ex_v h σ F H _ hL hs (q.bind.imp λa F1 H1 x1 k1 v1 aP=>?_)
 have ha:=DR.un aP;unfold blD at k1;split at k1
 ·rename_i b e;rw[e]at ha;cases ha.bl;exact k1.ok x1.2.1
 ·exact k1.elim
theorem zoZ_ (h:EvX K t E env r):EvX K (mNotV t) E env (r.bind λa=>(blD a).bind λb=>.ok (.bl (!b))):=by
 intro σ F H Q hL hs q;refine ex_v h σ F H _ hL hs (q.bind.imp λa F1 H1 x1 k1 v1 aP=>?_)
 have ha:=DR.un aP;unfold blD at k1;split at k1
 ·rename_i b e;rw[e]at ha;cases ha.bl
  exact gotB (k1.imp λa F3 H3 x3 k3=>k3.back x1.2.2.1) x1.2.1
 ·exact k1.elim
def andD (a:D)(r:Mo D):Mo D:=(blD a).bind λb=>if b then r else .ok (.bl qL)
def orD (a:D)(r:Mo D):Mo D:=(blD a).bind λb=>if b then .ok (.bl qK)else r
theorem zpi_ (h1:EvX K t1 E env r1)(h2:EvX K t2 E env r2):EvX K (mAndV t1 t2) E env (r1.bind λa=>andD a r2):=by
 intro σ F H Q hL hs q;refine ex_v h1 σ F H _ hL hs (q.bind.imp λa F1 H1 x1 k1 v1 aP=>?_)
 have ha:=DR.un aP;unfold andD blD at k1;split at k1
 ·rename_i b e;rw[e]at ha;cases ha.bl
  refine⟨λz=>?_,λz=>?_⟩
  ·subst z;exact h2 σ F1 H1 _ (hL.mono x1.1) x1.2.1 (After.imp (show After K r2 E F1 H1 _ from k1) λa F3 H3 x3 k3=>k3.back x1.2.2.1)
  ·subst z;exact gotB (After.imp (show After K (.ok (D.bl qL)) E F1 H1 (OwnK (owD K) H Q)from k1) λa F3 H3 x3 k3=>k3.back x1.2.2.1) x1.2.1
 ·exact k1.elim
theorem ex_or (h1:EvX K t1 E env r1)(h2:EvX K t2 E env r2):EvX K (mOrV t1 t2) E env (r1.bind λa=>orD a r2):=by
 intro σ F H Q hL hs q;refine ex_v h1 σ F H _ hL hs (q.bind.imp λa F1 H1 x1 k1 v1 aP=>?_)
 have ha:=DR.un aP;unfold orD blD at k1;split at k1
 ·rename_i b e;rw[e]at ha;cases ha.bl
  refine⟨λz=>?_,λz=>?_⟩
  ·subst z;exact gotB (After.imp (show After K (.ok (D.bl qK)) E F1 H1 (OwnK (owD K) H Q)from k1) λa F3 H3 x3 k3=>k3.back x1.2.2.1) x1.2.1
  ·subst z;exact h2 σ F1 H1 _ (hL.mono x1.1) x1.2.1 (After.imp (show After K r2 E F1 H1 _ from k1) λa F3 H3 x3 k3=>k3.back x1.2.2.1)
 ·exact k1.elim
theorem ex_if {tt:TT}{b:Mo Bool}(ht:EvT K tt E (Lof K env) b)(h1:EvX K t1 E env r1)(h2:EvX K t2 E env r2):EvX K (mIf tt t1 t2) E env (b.bind λc=>if c then r1 else r2):=znN_ ht h1 h2
end
end
section
variable {K:jF}{E:XK}{F F' h h1 h2 H H':Hp}{d:D}{ds:List D}{v:V}{us:List V}{k:Nd}{p:iQ}{Q:VK}{env:Env}{t:TE}{r r1 r2:Mo D}{ta:TA}{ra:Mo (List D)}
def allT (f:D->D->Option Bool):List D->List D->Option Bool
 |a::as,b::bs=>(f a b).bind λx=>(allT f as bs).map λy=>x && y
 |_,_=>qI qK
def D.flat?:D->Option V
 |.non=>qI .non
 |.bl b=>qI (.bl b)
 |.int i=>qI (.int i)
 |.str l=>qI (tx l)
 |_=>qJ
noncomputable def sqT:D->Option (Bool×List D)
 |.nd .lst xs=>qI (qK,xs)|.nd .tup xs=>qI (qL,xs)|_=>qJ
def eqS (f:D->D->Option Bool)(a b:D):Option Bool:=match sqT a with
 |none=>(match sqT b with |none=>a.flat?.bind λx=>b.flat?.map λy=>eqV x y |some _=>a.flat?.map λ_=>qL)
 |some (k,xs)=>(match sqT b with
  |none=>b.flat?.map λ_=>qL
  |some (k',ys)=>bif k == k' then(bif k then(if xs.length=ys.length then allT f xs ys else qI qL)else(allT f xs ys).map λb=>b && xs.length == ys.length)else qI qL)
def eqT:Nat->D->D->Option Bool
 |0,a,b=>a.un.flat?.bind λx=>b.un.flat?.map λy=>eqV x y
 |n+1,a,b=>eqS (eqT n) a.un b.un
theorem znD_ {k:Bool}{xs:List D}(e:sqT d=qI (k,xs))(h:DR K d v H):∃p us,v=.ref p/\DRs K xs us H/\H p=qI (bif k then .lst us else .tup us):=by
 cases d with
 |nd k ds=>
  obtain⟨p,us,rfl,m,r⟩:=h.nd;cases k with
  |lst=>cases e;exact⟨p,us,rfl,r,m⟩
  |tup=>cases e;exact⟨p,us,rfl,r,m⟩
  |_=>cases e
 |_=>cases e
theorem zc1_ {x:V}(e:d.flat?=qI x)(h:DR K d v H):v=x/\flatV x=qK:=by
 cases d with
 |non=>cases e;exact⟨h.non,rfl⟩
 |bl=>cases e;exact⟨h.bl,rfl⟩
 |int=>cases e;exact⟨h.int,rfl⟩
 |str=>cases e;exact⟨h.str,rfl⟩
 |_=>cases e
theorem zio_ {f:D->D->Option Bool}:∀{xs ys:List D}{b:Bool},allT f xs ys=qI b->∃e:Nat->Bool,(∀(i:Nat) x y,xs[i]?=qI x->ys[i]?=qI y->f x y=qI (e i))/\b=(jw (min xs.length ys.length)).all e
 |[],_,_,h=>by cases h;exact⟨λ_=>qK,λi x y hx=>by simp at hx,by simp⟩
 |_::_,[],_,h=>by cases h;exact⟨λ_=>qK,λi x y hx hy=>by simp at hy,by simp⟩
 |x::xs,y::ys,b,h=>by
  unfold allT at h;obtain⟨c,hc,h⟩:=iY.mp h;obtain⟨c',aW,rfl⟩:=iV.mp h;obtain⟨e,h1,h2⟩:=zio_ aW;refine⟨λi=>match i with |0=>c |i+1=>e i,λi u w hu hw=>?_,?_⟩
  ·cases i with
   |zero=>simp at hu hw;subst hu hw;exact hc
   |succ i=>exact h1 i u w (by simpa using hu) (by simpa using hw)
  ·rw[h2,iR,iR,Nat.succ_min_succ,List.range_succ_eq_map,jY,List.all_map];rfl
theorem zpB_:∀{n:Nat}{a b:D}{x y:V}{c:Bool},eqT n a b=qI c->DR K a x H->DR K b y H->EqD K H n x y c:=by
 intro n;induction n with
 |zero=>
  intro a b x y c h ha hb;unfold eqT at h;obtain⟨x',hx,h⟩:=iY.mp h;obtain⟨y',hy,rfl⟩:=iV.mp h;obtain⟨rfl,f1⟩:=zc1_ hx (DR.un ha);obtain⟨rfl,f2⟩:=zc1_ hy (DR.un hb);exact .flat f1 f2
 |succ n ih=>
  intro a b x y c h ha hb;have ha:=DR.un ha;have hb:=DR.un hb;have sub:∀{xs ys:List D}{us ws:List V}{e:Nat->Bool},DRs K xs us H->DRs K ys ws H->(∀(i:Nat) x y,xs[i]?=qI x->ys[i]?=qI y->eqT n x y=qI (e i))->∀(i:Nat) u w,us[i]?=qI u->ws[i]?=qI w->EqD K H n u w (e i):=λr r2 g i u w hu hw=>by
   rcases r.get i with⟨_,z⟩|⟨d,v,e1,e2,e3⟩
   ·rw[z]at hu;cases hu
   rcases r2.get i with⟨_,z⟩|⟨d',v',g1,g2,g3⟩
   ·rw[z]at hw;cases hw
   rw[e2]at hu;rw[g2]at hw;cases hu;cases hw;exact ih (g i _ _ e1 g1) e3 g3
  have fl:∀{a b:D},DR K a x H->DR K b y H->(a.flat?.bind λx=>b.flat?.map λy=>eqV x y)=qI c->EqD K H (n+1) x y c:=λha hb h=>by
   obtain⟨x',hx,h⟩:=iY.mp h;obtain⟨y',hy,rfl⟩:=iV.mp h;obtain⟨rfl,f1⟩:=zc1_ hx ha;obtain⟨rfl,f2⟩:=zc1_ hy hb;exact(EqD.flat f1 f2).le (kJ _)
  have h:eqS (eqT n) a.un b.un=qI c:=h;unfold eqS at h;cases ea:sqT a.un with
  |none=>
   rw[ea]at h;cases eb:sqT b.un with
   |none=>rw[eb]at h;exact fl ha hb h
   |some q=>
    rw[eb]at h;obtain⟨y',hy,rfl⟩:=iV.mp h;obtain⟨rfl,f2⟩:=zc1_ hy ha;obtain⟨p,us,rfl,r,m⟩:=znD_ (k:=q.1) (xs:=q.2) eb hb;cases z:q.1<;>rw[z]at m
    ·exact .ft (.of m) f2
    ·exact .fl (.of m) f2
  |some q=>
   rw[ea]at h;obtain⟨p,us,rfl,r1,n1⟩:=znD_ (k:=q.1) (xs:=q.2) ea ha;obtain⟨k,xs⟩:=q;cases eb:sqT b.un with
   |none=>
    rw[eb]at h;obtain⟨y',hy,rfl⟩:=iV.mp h;obtain⟨rfl,f2⟩:=zc1_ hy hb;cases k
    ·exact .tf (.of n1) f2
    ·exact .lf (.of n1) f2
   |some q=>
    rw[eb]at h;obtain⟨q',ws,rfl,r2,n2⟩:=znD_ (k:=q.1) (xs:=q.2) eb hb;obtain⟨k',ys⟩:=q;cases k<;>cases k'
    ·obtain⟨c',hc,rfl⟩:=iV.mp (show(allT (eqT n) xs ys).map _=_ from h)
     obtain⟨e,g1,rfl⟩:=zio_ hc;rw[r1.len,r2.len];exact .tup e (.of n1) (.of n2) (sub r1 r2 g1)
    ·cases h;exact .tl (.of n1) (.of n2)
    ·cases h;exact .lt (.of n1) (.of n2)
    ·have h:(if xs.length=ys.length then allT (eqT n) xs ys else qI qL)=qI c:=h
     split at h
     ·rename_i hl
      obtain⟨e,g1,rfl⟩:=zio_ h;rw[<- hl,l9,r1.len];exact .lst e (.of n1) (.of n2) (by rw[<- r1.len,<- r2.len,hl]) (sub r1 r2 g1)
     ·rename_i hl;cases h;exact .lstN (.of n1) (.of n2) (by rw[<- r1.len,<- r2.len];exact hl)
def eqD (neg:Bool)(a b:D):Mo D:=(Mo.opt (eqT 12 a b)).bind λc=>.ok (.bl (if neg then !c else c))
theorem od_eq:Op2D K (mEqA K) E (eqD qL):=by
 intro a b x y F H Q hs ha hb q;unfold eqD at q;cases e:eqT 12 a b with
 |none=>rw[e]at q;exact q.elim
 |some c=>rw[e]at q;exact⟨12,c,by decide,zpB_ e ((tyD K).mono hs ha) ((tyD K).mono hs hb),gotB q hs⟩
theorem od_ne:Op2D K (mNeA K) E (eqD qK):=by
 intro a b x y F H Q hs ha hb q;unfold eqD at q;cases e:eqT 12 a b with
 |none=>rw[e]at q;exact q.elim
 |some c=>rw[e]at q;exact⟨12,c,by decide,zpB_ e ((tyD K).mono hs ha) ((tyD K).mono hs hb),gotB q hs⟩
theorem un_fz:∀(d:D) {x:D},d.un≠.fz x
 |.fz d,x=>by unfold D.un;exact un_fz d
 |.non,_=>λz=>by cases z
 |.bl _,_=>λz=>by cases z
 |.int _,_=>λz=>by cases z
 |.str _,_=>λz=>by cases z
 |.nd _ _,_=>λz=>by cases z
 |.pin _,_=>λz=>by cases z
 |.gone,_=>λz=>by cases z
def isD (neg:Bool)(a b:D):Mo D:=match b with
 |.non=>(match a.un with |.pin _=>.no |.gone=>.no |.non=>.ok (.bl (!neg))|_=>.ok (.bl neg))
 |.bl c=>(match a.un with |.bl b=>.ok (.bl (if neg then !decide (b=c)else decide (b=c)))|_=>.no)
 |_=>.no
theorem zlf_ (ha:DR K d v H){neg:Bool}{b:D}{c:Mo Unit}(hc:isD neg d .non=.ok b):b=.bl (if neg then !decide (v=.non)else decide (v=.non)):=by
 have ha:=DR.un ha;unfold isD at hc;cases z:d.un with
 |non=>rw[z]at ha hc;cases ha.non;cases hc;cases neg<;>rfl
 |bl=>rw[z]at ha hc;cases ha.bl;cases hc;cases neg<;>rfl
 |int=>rw[z]at ha hc;cases ha.int;cases hc;cases neg<;>rfl
 |str=>rw[z]at ha hc;cases ha.str;cases hc;cases neg<;>rfl
 |nd=>rw[z]at ha hc;obtain⟨_,_,rfl,_⟩:=ha.nd;cases hc;cases neg<;>rfl
 |fz=>exact absurd z (un_fz d)
 |pin=>rw[z]at hc;cases hc
 |gone=>rw[z]at hc;cases hc
theorem zhm_ {neg:Bool}{a b:D}{k:D->Hp->Hp->Prop}(q:After K (isD neg a b) E F H k):(b=.non/\∃c,isD neg a .non=.ok c/\After K (.ok c) E F H k)\/∃c e,b=.bl c/\a.un=.bl e/\After K (.ok (.bl (if neg then !decide (e=c)else decide (e=c)))) E F H k:=by
 unfold isD at q ⊢;split at q
 ·refine .inl ⟨rfl,?_⟩
  split at q
  ·exact q.elim
  ·exact q.elim
  ·exact⟨_,rfl,q⟩
  ·exact⟨_,rfl,q⟩
 ·split at q
  ·exact .inr ⟨_,_,rfl,by assumption,q⟩
  ·exact q.elim
 ·exact q.elim
theorem od_is:Op2D K mIs E (isD qL):=by
 intro a b x y F H Q hs ha hb q;rcases zhm_ q with⟨rfl,c,e,q⟩|⟨c,e,rfl,z,q⟩
 ·cases DR.non (K:=K) (H:=F) hb
  cases zlf_ (c:=.no) ha e;exact gotB q hs
 ·have ha:=DR.un ha
  rw[z]at ha;cases ha.bl;cases DR.bl (K:=K) (H:=F) hb;exact gotB q hs
theorem znX_:Op2D K mIsNot E (isD qK):=by
 intro a b x y F H Q hs ha hb q;rcases zhm_ q with⟨rfl,c,e,q⟩|⟨c,e,rfl,z,q⟩
 ·cases DR.non (K:=K) (H:=F) hb
  cases zlf_ (c:=.no) ha e;exact gotB q hs
 ·have ha:=DR.un ha
  rw[z]at ha;cases ha.bl;cases DR.bl (K:=K) (H:=F) hb;exact gotB q hs
def flats:List D->Option (List V)
 |[]=>qI []
 |d::ds=>d.un.flat?.bind λx=>(flats ds).map λxs=>x::xs
theorem zhB_:∀{ds:List D}{xs us:List V},flats ds=qI xs->DRs K ds us H->us=xs/\xs.all flatV=qK
 |[],_,_,e,h=>by cases e;unfold DRs at h;exact⟨h,rfl⟩
 |d::ds,_,_,e,h=>by
  unfold flats at e;unfold DRs at h;obtain⟨x,ex,e⟩:=iY.mp e;obtain⟨xs,exs,rfl⟩:=iV.mp e;obtain⟨v,vs,rfl,a,r⟩:=h;obtain⟨rfl,f1⟩:=zc1_ ex (DR.un a);obtain⟨rfl,f2⟩:=zhB_ exs r;exact⟨rfl,by rw[jY,f1,f2];rfl⟩
def inSeq (neg:Bool)(a:D)(ys:List D):Mo D:=(Mo.opt (a.un.flat?.bind λx=>(flats ys).map λzs=>inV x zs)).bind λc=>.ok (.bl (if neg then !c else c))
def inD (neg:Bool)(a b:D):Mo D:=match b.un with
 |.str t=>(match a.un with |.str l=>.ok (.bl (if neg then !inS l t else inS l t))|_=>.no)
 |.nd .lst ys=>inSeq neg a ys
 |.nd .tup ys=>inSeq neg a ys
 |.nd .ktup ys=>inSeq neg a ys
 |_=>.no
theorem zjs_ {neg:Bool}{a:D}{ys:List D}{x:V}(hs:Same F H)(ha:DR K a x F)(n:SqL K H p us\/SqT K H p us)(r:DRs K ys us F)(q:After K (inSeq neg a ys) E F H (OwnK (owD K) H Q)):mIn K neg x (.ref p) H Q:=by
 unfold inSeq at q;cases e:(a.un.flat?.bind λx=>(flats ys).map λzs=>inV x zs)with
 |none=>rw[e]at q;exact q.elim
 |some c=>
  rw[e]at q;obtain⟨x',ex,e⟩:=iY.mp e;obtain⟨zs,ez,rfl⟩:=iV.mp e;obtain⟨rfl,f1⟩:=zc1_ ex (DR.un ha);obtain⟨rfl,f2⟩:=zhB_ ez r;exact⟨us,n,f1,f2,gotB q hs⟩
theorem od_in {neg:Bool}:Op2D K (mIn K neg) E (inD neg):=by
 intro a b x y F H Q hs ha hb q;have hb:=DR.un hb;unfold inD at q;split at q
 ·rename_i l e;rw[e]at hb;cases hb.str
  have ha:=DR.un ha;split at q
  ·rename_i e;rw[e]at ha;cases ha.str;exact gotB q hs
  ·exact q.elim
 ·rename_i e;rw[e]at hb;obtain⟨p,us,rfl,n,r⟩:=hb.nd;exact zjs_ hs ha (.inl (.of (hs _ _ n))) r q
 ·rename_i e;rw[e]at hb;obtain⟨p,us,rfl,n,r⟩:=hb.nd;exact zjs_ hs ha (.inr (.of (hs _ _ n))) r q
 ·rename_i e;rw[e]at hb;obtain⟨p,us,rfl,n,r⟩:=hb.nd;exact zjs_ hs ha (.inr (.inr n)) r q
 ·exact q.elim
def intD (d:D):Mo Int:=match d.un with |.int i=>.ok i |_=>.no
theorem ep_x (hx:EvX K t E env r):EvP K (mPart t) E (Lof K env) (r.bind λd=>(intD d).bind λi=>.ok (qI i)):=by
 intro σ F H Q hL hs q;refine ex_v hx σ F H _ hL hs (q.bind.imp λa F1 H1 x1 k1 v1 aP=>?_)
 have ha:=DR.un aP;unfold intD at k1;split at k1
 ·rename_i i e;rw[e]at ha;cases ha.int;exact k1.ok x1.2.1
 ·exact k1.elim
def slD (a:D)(lo hi:Option Int):Mo D:=match a.un with
 |.str l=>.lim l.length (.ok (.str (cutG l lo hi)))
 |.nd .lst xs=>.ok (.nd .lst ((cutG xs lo hi).map .vw))
 |.nd .scr xs=>.ok (.nd .lst ((cutG xs lo hi).map .vw))
 |_=>.no
def OwnKs (K:jl)(H:Hp)(Q:List V->Hp->Prop)(ds:List D)(F' H':Hp):Prop:=∀vs h,(∀p,h p≠qJ->H p=qJ)->Dj F' h->Same h H'->ODs K ds vs F' h->Q vs H'
def EvAs (K:jl)(t:TA)(E:XK)(env:Env)(r:Mo (List D)):Prop:=∀σ F H (Q:List V->Hp->Prop),HoldF (Lof K env) σ F->Same F H->After K r E F H (OwnKs K H Q)->t σ H Q
abbrev csD (K:jl):Cs (List D):=⟨DRs K,λg h=>h.mono g⟩
theorem zhn_:EvAs K tNil E env (.ok []):=λσ F H Q hL hs q=>q.ok hs [] (λ_=>qJ) (λp z=>absurd rfl z) (λp=>.inr rfl) (λp o z=>by cases z) (by unfold ODs;exact⟨rfl,λ_=>rfl⟩)
theorem zlV_ (x:Ext F H F' H')(d:Dj F h)(s:Same h H):Dj F' h:=λp=>by
 cases z:h p with
 |none=>exact .inr rfl
 |some o=>
  left;rcases d p with y |y
  ·cases w:F' p with
   |none=>rfl
   |some o'=>have:=x.2.2.2 p y (by rw[w];exact sN _);rw[s _ _ z]at this;cases this
  ·rw[y]at z;cases z
theorem zds_ (h1:EvX K t E env r)(h2:EvAs K ta E env ra):EvAs K (tCons t ta) E env (r.bind λa=>ra.bind λas=>.ok (a::as)):=by
 intro σ F H Q hL hs q;refine h1 σ F H _ hL hs (q.bind.imp λa F1 H1 x1 k1 v k bD cb s1 o1=>?_)
 refine h2 σ F1 H1 _ (hL.mono x1.1) x1.2.1 (k1.bind.imp λas F2 H2 x2 k2 vs k' dG fu s2 o2=>?_)
 have d1:Dj k k':=λp=>by
  cases z:k p with
  |none=>exact .inl rfl
  |some o=>
   right;cases y:k' p with
   |none=>rfl
   |some o'=>have:=dG p (by rw[y];exact sN _);rw[s1 _ _ z]at this;cases this
 refine k2.ok x2.2.1 (v::vs) (un k k') (λp z=>?_) (λp=>?_) (λp o z=>?_) ?_
 ·unfold un at z
  cases y:k p with
  |some o=>exact bD p (by rw[y];exact sN _)
  |none=>rw[y]at z;exact x1.2.2.1.free (dG p z)
 ·unfold un
  cases y:k p with
  |some o=>
   rcases zlV_ x2 cb s1 p with w |w
   ·exact .inl w
   ·rw[y]at w;cases w
  |none=>exact fu p
 ·unfold un at z
  cases y:k p with
  |some o'=>rw[y]at z;cases z;exact x2.2.2.1 _ _ (s1 _ _ y)
  |none=>rw[y]at z;exact s2 _ _ z
 ·unfold ODs
  exact⟨v,vs,k,k',rfl,zaX_ d1,o1.mono x2.1,o2⟩
theorem zeE_ (h:EvAs K ta E env ra):EvA K ta E (Lof K env) ra (csD K):=by
 intro σ F H Q hL hs q;refine h σ F H Q hL hs ?_;cases ra with
 |ok a=>
  intro F' H' x vs h' fresh d s o;refine q (un F' h') H' ⟨x.1.trans zaC_,λp o e=>?_,x.2.2.1,λp a b=>?_⟩ vs (OD.view.go zaC_ (zdu_ d) o)
  ·unfold un at e
   cases z:F' p with
   |some w=>rw[z]at e;cases e;exact x.2.1 _ _ z
   |none=>rw[z]at e;exact s _ _ e
  ·unfold un at b
   cases z:F' p with
   |some w=>exact x.2.2.2 p a (by rw[z];exact sN _)
   |none=>rw[z]at b;exact fresh p b
 |ex c=>exact q
 |no=>exact q
theorem ODs.len:∀{ds:List D}{us:List V}{h:Hp},ODs K ds us F h->ds.length=us.length
 |[],_,_,q=>by unfold ODs at q;rw[q.1];rfl
 |d::ds,_,_,q=>by unfold ODs at q;obtain⟨v,vs,h1,h2,rfl,j,a,r⟩:=q;rw[iR,iR,ODs.len r]
theorem zod_ (h:EvAs K ta E env ra):EvX K (tTup ta) E env (ra.bind λds=>.lim ds.length (.ok (.nd .tup ds))):=by
 intro σ F H Q hL hs q;refine h σ F H _ hL hs (q.bind.imp λds F1 H1 x1 k1 vs k bD cb s1 o1=>?_)
 obtain⟨c,k1⟩:=k1.lim;rw[ODs.len o1]at c;refine⟨c,λp hp=>?_⟩
 have nk:k p=qJ:=by
  cases z:k p with
  |none=>rfl
  |some o=>rw[s1 _ _ z]at hp;cases hp
 have y:=Ext.new x1.2.1 (o:=.tup vs) hp;refine k1 _ _ y (.ref p) k bD (zlV_ y cb s1) (s1.trans (zax_ hp _)) ?_;show OD K _ _ _ _
 unfold OD;exact⟨p,vs,λ_=>qJ,k,rfl,⟨zm_,λ_=>rfl⟩,λq=>.inl ⟨rfl,rfl⟩,OD.mono.go y.1 o1⟩
theorem zor_ (h:EvAs K ta E env ra):EvX K (tLst ta) E env (ra.bind λds=>.lim ds.length (.ok (.nd .lst ds))):=by
 intro σ F H Q hL hs q;refine h σ F H _ hL hs (q.bind.imp λds F1 H1 x1 k1 vs k bD cb s1 o1=>?_)
 obtain⟨c,k1⟩:=k1.lim;rw[ODs.len o1]at c;refine⟨c,λp hp=>?_⟩
 have nk:k p=qJ:=by
  cases z:k p with
  |none=>rfl
  |some o=>rw[s1 _ _ z]at hp;cases hp
 have d1:Dj (one p (.lst vs)) k:=λq=>by
  rw[zd_];split
  ·rename_i e;rw[e];exact .inr nk
  ·exact .inl rfl
 refine k1 F1 _ (.heap x1.2.1 (zax_ hp _)) (.ref p) (un (one p (.lst vs)) k) (λq z=>?_) (λq=>?_) (λq o z=>?_) ?_
 ·unfold un at z;rw[zd_]at z
  by_cases e:q=p
  ·subst e;exact x1.2.2.1.free hp
  ·rw[if_neg e]at z;exact bD q z
 ·unfold un;rw[zd_]
  by_cases e:q=p
  ·subst e;exact .inl (x1.2.1.free hp)
  ·rw[if_neg e];exact cb q
 ·unfold un at z;rw[zd_]at z
  by_cases e:q=p
  ·subst e;rw[if_pos rfl]at z;cases z;exact zm_
  ·rw[if_neg e]at z;rw[zl_ e];exact s1 _ _ z
 ·show OD K _ _ _ _
  unfold OD;exact⟨p,vs,_,k,rfl,rfl,zaX_ d1,o1⟩
abbrev BlD (K:jl)(m:List V->Hp->VK->Prop)(E:XK)(g:List D->Mo D):Prop:=BlO K m E (csD K) g (owD K)
theorem ex_cb {m:List V->Hp->VK->Prop}{g:List D->Mo D}(o:BlD K m E g)(h:EvAs K ta E env ra):EvX K (tCB m ta) E env (ra.bind g):=znO_ o (zeE_ h)
theorem DRs.one (h:DRs K [d] us H):∃v,us=[v]/\DR K d v H:=by
 unfold DRs at h;obtain⟨v,vs,rfl,a,r⟩:=h;unfold DRs at r;subst r;exact⟨v,rfl,a⟩
def on1 (f:D->Mo D)(ds:List D):Mo D:=match ds with |[d]=>f d.un |_=>.no
theorem zew_ {m:List V->Hp->VK->Prop}{f:D->Mo D}(h:∀d v F H (Q:VK),Same F H->DR K d v F->After K (f d) E F H (OwnK (owD K) H Q)->m [v] H Q):BlD K m E (on1 f):=by
 intro ds vs F H Q hs hd q;unfold on1 at q;split at q
 ·obtain⟨v,rfl,a⟩:=DRs.one hd;exact h _ _ F H Q hs (DR.un a) q
 ·exact q.elim
def lenD:List D->Mo D:=on1 λd=>match d with
 |.str l=>.lim l.length (.ok (.int l.length))
 |.nd .lst xs=>.ok (.int xs.length)
 |.nd .tup xs=>.ok (.int xs.length)
 |.nd .scr xs=>.ok (.int xs.length)
 |.nd .ktup xs=>.ok (.int xs.length)
 |_=>.no
theorem zoD_:BlD K (mLen K) E lenD:=zew_ λd v F H Q hs hd q=>by
 split at q
 ·cases hd.str;obtain⟨c,q⟩:=q.lim;exact⟨c,gotI q hs⟩
 ·obtain⟨p,us,rfl,n,r⟩:=hd.nd;exact⟨us,.inl (.of (hs _ _ n)),by rw[<- r.len];exact gotI q hs⟩
 ·obtain⟨p,us,rfl,n,r⟩:=hd.nd;exact⟨us,.inr (.of (hs _ _ n)),by rw[<- r.len];exact gotI q hs⟩
 ·obtain⟨p,us,rfl,n,r⟩:=hd.nd;exact⟨us,.inl (hs.seq n),by rw[<- r.len];exact gotI q hs⟩
 ·obtain⟨p,us,rfl,n,r⟩:=hd.nd;exact⟨us,.inr (.inr n),by rw[<- r.len];exact gotI q hs⟩
 ·exact q.elim
def dlenD:List D->Mo D:=on1 λd=>match d with |.nd (.dct ks) xs=>.ok (.int xs.length)|_=>.no
def mLenR:List V->Hp->VK->Prop:=λxs H Q=>match xs with |[.ref a]=>∃kvs,Rd H a (.dK kvs)/\Q (.int kvs.length) H |_=>False
theorem zgq_ {X:Cx}:CallR X (.builtin "len") mLenR:=by
 intro pins s σ H xs us Q I r h;unfold mLenR at h;split at h
 ·rename_i a
  obtain⟨kvs,ha,q⟩:=h;obtain⟨u,rfl,ru⟩:=vals1 r;cases ru;exact d_len I ha λt s' I'=>⟨.int kvs.length,H,I',⟨t,rfl⟩,q⟩
 ·exact h.elim
theorem zk3_:BlD K mLenR E dlenD:=zew_ λd v F H Q hs hd q=>by
 split at q
 ·rename_i ks xs
  obtain⟨p,us,rfl,n,r⟩:=hd.nd;refine⟨_,zaU_ hs n.1,?_⟩;rw[show(ks.zip us).length=xs.length from by rw[k5,n.2.1,l9,r.len]]
  exact gotI q hs
 ·exact q.elim
abbrev MeD (K:jl)(m:V->List V->Hp->VK->Prop)(E:XK)(g:List Nat->List D->Mo D):Prop:=MeO K m E (csD K) g (owD K)
def strOf (d:D):Mo (List Nat):=match d.un with |.str l=>.ok l |_=>.no
theorem ex_me {m:V->List V->Hp->VK->Prop}{g:List Nat->List D->Mo D}(o:MeD K m E g)(h0:EvX K t E env r)(h:EvAs K ta E env ra):EvX K (tBM K "str" m t ta) E env (r.bind λd=>(strOf d).bind λl=>ra.bind λc=>g l c):=by
 intro σ F H Q hL hs q;refine ex_v h0 σ F H _ hL hs (q.bind.imp λd F1 H1 x1 k1 v hv=>?_)
 have ha:=DR.un hv;unfold strOf at k1;split at k1
 ·rename_i l e;rw[e]at ha;cases ha.str
  refine⟨?_,?_⟩
  ·exact rfl
  ·refine zeE_ h σ F1 H1 _ (hL.mono x1.1) x1.2.1 (After.imp (After.bind (show After K (ra.bind λc=>g l c) E F1 H1 _ from k1)) λc F2 H2 x2 k2 vs ba=>?_)
   exact o l c vs F2 H2 Q x2.2.1 ba (k2.imp λa F3 H3 x3 k3=>k3.back (x1.2.2.1.trans x2.2.2.1))
 ·exact k1.elim
end
noncomputable def Nd.own:Nd->Bool
 |.scr=>qL |.ktup=>qL |_=>qK
def D.at:D->List Nat->Option D
 |d,[]=>qI d
 |.nd k ds,i::js=>bif k.own then ds[i]?.bind λd=>d.at js else qJ
 |_,_=>qJ
theorem zbk_ {k:Nd}{ds:List D}{j:Nat}{js:List Nat}:(D.nd k ds).at (j::js)=bif k.own then ds[j]?.bind λd=>d.at js else qJ:=by rw[D.at]
def kidsO:HO->List V
 |.tup us=>us |.lst us=>us |.dK kvs=>kvs.map (·.2)|.frz _ (.dK kvs)=>kvs.map (·.2)|.ins _ _ fs=>fs.map (·.2)|_=>[]
def vAt (H:Hp):V->List Nat->Option V
 |v,[]=>qI v
 |v,j::js=>(match v with |.ref p=>(H p).bind λo=>(kidsO o)[j]? |_=>qJ).bind λw=>vAt H w js
noncomputable def D.put:D->List Nat->D->D
 |_,[],x=>x
 |.nd k ds,i::js,x=>(match ds[i]? with |some d=>.nd k (ds.set i (d.put js x))|none=>.nd k ds)
 |d,_,_=>d
section
variable {K:jF}{F F' h h1 h2 H H':Hp}{d:D}{ds:List D}{v:V}{us:List V}{k:Nd}{p:iQ}
theorem ODs.focus:∀{ds:List D}{us:List V}{h:Hp}{i:Nat}{c:D},ODs K ds us F h->ds[i]?=qI c ->
  ∃u h1 h2,us[i]?=qI u/\Jn h1 h2 h/\OD K c u F h1/\∀c' F' u' h1' h',Same F F'->OD K c' u' F' h1'->Jn h1' h2 h'->ODs K (ds.set i c') (us.set i u') F' h'
 |[],_,_,_,_,_,e=>by simp at e
 |d::ds,_,h,0,c,q,e=>by
  unfold ODs at q;obtain⟨v,vs,h1,h2,rfl,j,a,r⟩:=q;simp at e;subst e;refine⟨v,h1,h2,rfl,j,a,λc' F' u' h1' h' g o j'=>?_⟩
  rw[mr,mr];unfold ODs;exact⟨u',vs,h1',h2,rfl,j',o,OD.mono.go g r⟩
 |d::ds,_,h,i+1,c,q,e=>by
  unfold ODs at q;obtain⟨v,vs,h1,h2,rfl,j,a,r⟩:=q;obtain⟨u,k1,k2,e1,j1,o1,f⟩:=ODs.focus r (by simpa using e)
  obtain⟨m,jm,jh⟩:=zn_ j1 (zau_ j);refine⟨u,k1,m,by simpa using e1,jh,o1,λc' F' u' bx h' g o' j'=>?_⟩
  rw[lX,lX];unfold ODs;exact⟨v,vs.set i u',h1,un bx k2,rfl,jn_re jm j',a.mono g,f c' F' u' bx _ g o' (zaX_ (dj_of jm j'))⟩
theorem zcO_ {α:Type}{l:List α}{i:Nat}{x:α}(h:l[i]?=qI x):l.set i x=l:=ziJ_ h
theorem Cell.same (g:Same F F')(c:Cell K k p us F h):Cell K k p us F' h:=c.mono g.tups
theorem zi3_ {k:Nd}(hk:k.own=qK)(n:NdR K k p us H):∃o,H p=qI o/\kidsO o=us:=by
 cases k with
 |tup=>exact⟨_,n,rfl⟩
 |lst=>exact⟨_,n,rfl⟩
 |dct ks=>exact n.1.elim (λe=>⟨_,e,nF (mS n.2.1.symm)⟩) λ⟨_,e⟩=>⟨_,e,nF (mS n.2.1.symm)⟩
 |obj c ns=>obtain⟨dx,e,l⟩:=n;exact⟨_,e,nF (mS l.symm)⟩
 |_=>cases hk
theorem zch_ (g:Same H H'):∀{js:List Nat}{v u:V},vAt H v js=qI u->vAt H' v js=qI u
 |[],_,_,h=>h
 |j::js,v,u,h=>by
  unfold vAt at h ⊢;obtain⟨w,hw,h2⟩:=iY.mp h;clear h;cases v with
  |ref p=>
   obtain⟨o,ho,hw⟩:=iY.mp hw;dsimp only;rw[g _ _ ho];exact iY.mpr ⟨w,hw,zch_ g h2⟩
  |_=>cases hw
theorem zff_ {k:Nd}{j:Nat}{js:List Nat}{w u:V}(hk:k.own=qK)(n:NdR K k p us H)(hw:us[j]?=qI w)(h:vAt H w js=qI u):vAt H (.ref p) (j::js)=qI u:=by
 obtain⟨o,ho,e⟩:=zi3_ hk n;unfold vAt;dsimp only;rw[ho];exact iY.mpr ⟨w,by rw[<- e]at hw;exact hw,h⟩
theorem zdn_ {k:Nd}{j:Nat}{w:V}(hk:k.own=qK)(n:NdR K k p us H)(hw:us[j]?=qI w):∀{js:List Nat}{v:V},vAt H v js=qI (.ref p)->vAt H v (js++[j])=qI w
 |[],_,h=>by cases h;exact zff_ hk n hw rfl
 |i::js,v,h=>by
  rw[jN];unfold vAt at h ⊢;obtain⟨x,hx,h⟩:=iY.mp h;exact iY.mpr ⟨x,hx,zdn_ hk n hw h⟩
theorem OD.focus:∀{js:List Nat}{d:D}{v:V}{h:Hp}{c:D},OD K d v F h->d.at js=qI c ->
  ∃u h1 h2,(∀H,Same F H->Same h H->vAt H v js=qI u)/\Jn h1 h2 h/\OD K c u F h1/\∀c' F' h1' h',Same F F'->OD K c' u F' h1'->Jn h1' h2 h'->OD K (d.put js c') v F' h'
 |[],d,v,h,c,q,e=>by
  unfold D.at at e;cases e;refine⟨v,h,λ_=>qJ,λH _ _=>rfl,λp=>.inr ⟨rfl,rfl⟩,q,λc' F' h1' h' g o j=>?_⟩
  unfold D.put;have:h'=h1':=by
   funext p;rcases j p with⟨a,b⟩|⟨a,b⟩
   ·rw[a,b]
   ·exact b
  rw[this];exact o
 |i::js,.nd k ds,v,h,c,q,e=>by
  rw[zbk_]at e;cases hk:k.own with
  |false=>rw[hk]at e;cases e
  |true=>
  rw[hk,cond_true]at e;obtain⟨d',e1,e2⟩:=iY.mp e;unfold OD at q;obtain⟨p,us,h0,hr,rfl,cl,j,r⟩:=q;obtain⟨u1,k1,k2,eu,jk,o1,f⟩:=ODs.focus r e1;obtain⟨u,m1,m2,vp,jm,o2,g⟩:=OD.focus o1 e2;obtain⟨a,ja,jb⟩:=zn_ jm jk;obtain⟨b,jc,jd⟩:=zn_ jb (zau_ j);refine⟨u,m1,b,λH s1 s2=>zff_ hk (cl.nd s1 (j.l.trans s2)) eu (vp H s1 (jk.l.trans (j.r.trans s2))),jd,o2,λc' F' h1' h' s o' j'=>?_⟩
  unfold D.put;rw[e1];dsimp only;unfold OD;have d1:Dj h1' a:=λq=>by
   rcases j'.dj q with z |z
   ·exact .inl z
   ·exact .inr (jc.l.free z)
  have d2:Dj h1' m2:=λq=>by
   rcases d1 q with z |z
   ·exact .inl z
   ·exact .inr (ja.l.free z)
  have jx:Jn (un h1' m2) k2 (un h1' a):=λq=>by
   unfold un;rcases ja q with⟨z,w⟩|⟨z,w⟩
   ·rw[z]
    cases y:h1' q with
    |none=>left;exact⟨rfl,w⟩
    |some o=>
     right;rcases d1 q with t |t
     ·rw[t]at y;cases y
     ·rw[w]at t;exact⟨t,rfl⟩
   ·right
    refine⟨z,?_⟩;cases y:h1' q with
    |none=>exact w
    |some o=>rfl
  have on:=g c' F' h1' (un h1' m2) s o' (zaX_ d2);have rn:=f _ F' u1 _ (un h1' a) s on jx;rw[zcO_ eu]at rn;refine⟨p,us,h0,un h1' a,rfl,cl.same s,?_,rn⟩;intro q;unfold un;rcases j' q with⟨z,w⟩|⟨z,w⟩
  ·rw[z,w]
   rcases jc q with⟨y,t⟩|⟨y,t⟩
   ·right;exact⟨y,t⟩
   ·left;exact⟨y,t⟩
  ·rw[w]
   have z0:h0 q=qJ:=jc.r.free z;left;refine⟨z0,?_⟩;cases y:h1' q with
   |none=>exact(jc.l.free z).symm
   |some o=>rfl
 |_::_,.non,_,_,_,_,e=>by simp[D.at]at e
 |_::_,.bl _,_,_,_,_,e=>by simp[D.at]at e
 |_::_,.int _,_,_,_,_,e=>by simp[D.at]at e
 |_::_,.str _,_,_,_,_,e=>by simp[D.at]at e
 |_::_,.fz _,_,_,_,_,e=>by simp[D.at]at e
 |_::_,.pin _,_,_,_,_,e=>by simp[D.at]at e
 |_::_,.gone,_,_,_,_,e=>by simp[D.at]at e
theorem Hold.atG:∀{L:List Sl}{σ:L2.St}{h:Hp}{i:Nat}{s:Sl},Hold L σ F h->L[i]?=qI s ->
  ∃o h1 h2,σ[i]?=qI o/\Jn h1 h2 h/\s.P o F h1/\∀s' o' F' h1' h',Same F F'->s'.P o' F' h1'->Jn h1' h2 h'->Hold (L.set i s') (σ.set i o') F' h'
 |[],_,_,_,_,_,e=>by simp at e
 |s::L,[],_,_,_,q,_=>q.elim
 |s::L,o::σ,h,0,t,q_,e=>by
  obtain⟨h1,h2,j,p,r⟩:=q_;simp at e;subst e;exact⟨o,h1,h2,rfl,j,p,λs' o' F' h1' h' g p' j'=>⟨h1',h2,j',p',r.mono g⟩⟩
 |s::L,o::σ,h,i+1,t,q_,e=>by
  obtain⟨h1,h2,j,p,r⟩:=q_;obtain⟨o1,k1,k2,e1,j1,p1,f⟩:=Hold.atG r (by simpa using e)
  obtain⟨m,jm,jh⟩:=zn_ j1 (zau_ j);exact⟨o1,k1,m,by simpa using e1,jh,p1,λs' o' F' bx h' g gq j'=>⟨h1,un bx k2,jn_re jm j',p.mono g,f s' o' F' bx _ g gq (zaX_ (dj_of jm j'))⟩⟩
theorem Hold.more:∀{L:List Sl}{σ:L2.St}{h g h':Hp},Hold L σ F h->Jn g h h'->Hold L σ F h'
 |[],[],_,_,_,_,_=>trivial
 |s::L,[],_,_,_,q,_=>q.elim
 |[],_::_,_,_,_,q,_=>q.elim
 |s::L,o::σ,h,g,h',q_,j'=>by
  obtain⟨h1,h2,j,p,r⟩:=q_;obtain⟨m,jm,jh⟩:=zn_ j (zau_ j');exact⟨h1,m,jh,p,Hold.more r (zau_ jm)⟩
noncomputable abbrev Ws:=Nat->Option V
def slotW (K:jl)(w:Option V)(o:Option D):Sl:=match o with
 |none=>.dead
 |some d=>(match w with |none=>.ow (owD K) d |some u=>.ow (owAt u (owD K)) d)
abbrev LofW (K:jl)(ws:Ws)(env:Env):List Sl:=env.mapIdx λi o=>slotW K (ws i) o
variable {ws:Ws}{env:Env}{σ:L2.St}{i:Nat}{js:List Nat}{c:D}
theorem zaO_ {o:Option D}(ho:env[i]?=qI o):(LofW K ws env)[i]?=qI (slotW K (ws i) o):=by
 rw[lN,ho];rfl
theorem zcJ_ {o:Option D}:(LofW K ws env).set i (slotW K (ws i) o)=LofW K ws (env.set i o):=by
 refine l5 λj=>?_
 rw[jW,lN,lN,jW,mw];by_cases e:i=j
 ·subst e;rw[if_pos rfl,if_pos rfl];split<;>rfl
 ·rw[if_neg e,if_neg e]
theorem zkj_ {w:Option V}{o:Option D}{x:Option V}(h:(slotW K w o).Z x F):(slot K o).Z x F:=by
 cases o with
 |none=>trivial
 |some d=>cases w with |none=>exact h |some u=>exact h
theorem zbs_ (h:HoldF (LofW K ws env) σ F):HoldF (Lof K env) σ F:=by
 intro i s e;rw[iS]at e;cases z:env[i]? with
 |none=>rw[z]at e;cases e
 |some o=>
  rw[z]at e;cases e;exact zkj_ (h i _ (zaO_ z))
theorem zbN_ {w:Option V}{d:D}{x:Option V}(h:(slotW K w (qI d)).P x F h1):∃v,x=qI v/\(∀u,w=qI u->v=u)/\OD K d v F h1:=by
 cases w with
 |none=>obtain⟨v,e,o⟩:=h;exact⟨v,e,(λu z=>by cases z),o⟩
 |some u=>obtain⟨v,e,z,o⟩:=h;exact⟨v,e,(λu' y=>by cases y;exact z),o⟩
theorem zcc_ {w:Option V}{d:D}{v:V}(hw:∀u,w=qI u->v=u)(o:OD K d v F h1):(slotW K w (qI d)).P (qI v) F h1:=by
 cases w with
 |none=>exact⟨v,rfl,o⟩
 |some u=>exact⟨v,rfl,hw u rfl,o⟩
theorem zbi_ (hL:Hold (LofW K ws env) σ F h)(hi:env[i]?=qI (qI d))(hc:d.at js=qI c):
  ∃v u h1 h2,σ[i]?=qI (qI v)/\(∀H,Same F H->Same h H->vAt H v js=qI u)/\Jn h1 h2 h/\OD K c u F h1/\∀c' F' h1' h',Same F F'->OD K c' u F' h1'->Jn h1' h2 h'->Hold (LofW K ws (env.set i (qI (d.put js c')))) σ F' h':=by
 obtain⟨o,k1,k2,e1,j,pp,f⟩:=Hold.atG hL (zaO_ hi);obtain⟨v,rfl,hv,od⟩:=zbN_ pp;obtain⟨u,m1,m2,vp,jm,o1,g⟩:=od.focus hc;obtain⟨a,ja,jb⟩:=zn_ jm j;refine⟨v,u,m1,a,e1,(λH s1 s2=>vp H s1 (j.l.trans s2)),jb,o1,λc' F' h1' h' s o' j'=>?_⟩
 have d1:Dj h1' m2:=λq=>by
  rcases j'.dj q with z |z
  ·exact .inl z
  ·exact .inr (ja.l.free z)
 have:=f (slotW K (ws i) (qI (d.put js c'))) (qI v) F' (un h1' m2) h' s (zcc_ hv (g c' F' h1' _ s o' (zaX_ d1))) ?_
 ·rw[zcJ_,zcO_ e1]at this;exact this
 ·intro q
  unfold un;rcases j' q with⟨z,w⟩|⟨z,w⟩
  ·rw[z,w]
   rcases ja q with⟨y,t⟩|⟨y,t⟩
   ·left;exact⟨y,t⟩
   ·right;exact⟨y,t⟩
  ·rw[w]
   have z0:k2 q=qJ:=ja.r.free z;right;refine⟨z0,?_⟩;cases y:h1' q with
   |none=>exact(ja.l.free z).symm
   |some o=>rfl
end
inductive Mr (s α:Type) where
 |ok (a:α) (t:s)|ex (c:Xc) (t:s)|no
noncomputable abbrev Fn:=List D->Mr (List D) D
def Fn.val (f:Fn)(ds:List D):Mo D:=match f ds with |.ok d _=>.ok d |.ex c _=>.ex c |.no=>.no
section
variable {K:jF}{E:XK}{F F' F0 H0 h h1 h2 H H':Hp}{d:D}{ds:List D}{v:V}{us vs:List V}{k:Nd}{p:iQ}{Q:VK}{env:Env}{t:TE}{r:Mo D}{ta:TA}{ra:Mo (List D)}{f:Fn}
def FinC (K:jl)(r:Mr (List D) D)(E:XK)(F0 H0:Hp)(vs:List V)(Q:VK):Prop:=match r with
 |.ok d ds=>∀v F h H hr h2,Okk F0 H0 F h H->Jn hr h2 h->OD K d v F hr->ODs K ds vs F h2->Q v H
 |.ex c ds=>∀F h H,Okk F0 H0 F h H->ODs K ds vs F h->Tell K E c H0 F H
 |.no=>False
def CtG (K:jl)(f:Fn):Sp:=λvs H Q E=>∃F h ds,Same F H/\Dj F h/\Same h H/\ODs K ds vs F h/\FinC K (f ds) E F (less H h) vs Q
theorem zkJ_ (hn:∀p,h p=qJ):less H h=H:=funext λp=>zaN_ (hn p)
theorem zdT_ (hs:Same F H)(hd:DRs K ds vs F)(q:After K (f.val (ds.map D.vw)) E F H (OwnK (owD K) H Q)):CtG K f vs H Q E:=by
 refine⟨F,λ_=>qJ,ds.map D.vw,hs,λ_=>.inr rfl,(λp o z=>by cases z),ODs.vw (λ_=>rfl) hd,?_⟩
 rw[zkJ_ λ_=>rfl]
 unfold Fn.val at q;cases e:f (ds.map D.vw)with
 |no=>rw[e]at q;exact q
 |ok d ds'=>
  rw[e]at q;intro v F' h' H' hr h2 ok j o _;refine q F' H' ok.1 v hr (λp z=>ok.2.2.2.1 p ?_) (dj_l ok.2.1 j) (j.l.trans ok.2.2.1) o
  cases y:hr p with
  |none=>exact absurd y z
  |some w=>rw[j.l _ _ y];exact sN _
 |ex c ds'=>rw[e]at q;exact λF' h' H' ok _=>q F' H' ok.1
theorem zmx_ (h:EvAs K ta E env ra):EvX K (tCall (CtG K f) [] E ta) E env (ra.bind λds=>f.val (ds.map D.vw)):=by
 intro σ F H Q hL hs q;refine zeE_ h σ F H _ hL hs (q.bind.imp λds F1 H1 x1 k1 vs ba=>?_)
 rw[jz];exact zdT_ x1.2.1 ba (k1.imp λr F2 H2 x2 k2=>k2.back x1.2.2.1)
theorem zcE_:∀{ns:List Str}{us:List V}{f:Str}{v:V},us[ns.idxOf f]?=qI v->ns.length=us.length->(ns.zip us).lookup f=qI v
 |[],us,f,v,h,l=>by cases us with |nil=>simp at h |cons=>simp at l
 |n::ns,[],f,v,h,l=>by simp at l
 |n::ns,u::us,f,v,h,l=>by
  rw[jt,l7];by_cases e:n=f
  ·subst e;simp at h;simp[h]
  ·rw[mn,show(n == f)=qL from beq_eq_false_iff_ne.mpr e,cond_false,kX]at h
   rw[show(f == n)=qL from beq_eq_false_iff_ne.mpr λz=>e z.symm]
   exact zcE_ h (by simpa using l)
def tFld (K:jl)(cs:List Str)(t:TE)(f:Str):TE:=λσ H Q=>∃c∈cs,mFld (gA K c) t f σ H Q
def fldD (cs:List Str)(f:Str)(d:D):Mo D:=match d.un with
 |.nd (.obj c ns) ds=>if c∈cs then .opt ((ds[ns.idxOf f]?).map .vw)else .no
 |_=>.no
theorem zpL_ {cs:List Str}{f:Str}(h0:cs≠[])(hx:EvX K t E env r):EvX K (tFld K cs t f) E env (r.bind (fldD cs f)):=by
 intro σ F H Q hL hs q;have main:∀c∈cs,(∀d,r=.ok d->∃ns ds,d.un=.nd (.obj c ns) ds)->tFld K cs t f σ H Q:=λc hc hd=>⟨c,hc,by
  refine ex_v hx σ F H _ hL hs ?_;cases e:r with
  |no=>rw[e]at q;exact q
  |ex x=>rw[e]at q;exact q
  |ok d=>
   obtain⟨ns,ds,e2⟩:=hd d e;rw[e]at q;intro F1 H1 x1 v hv;have hv:=DR.un hv;rw[e2]at hv;obtain⟨p,us,rfl,⟨dx,hp,l⟩,rs⟩:=hv.nd;have q:After K (fldD cs f d) E F H _:=q;unfold fldD at q;rw[e2]at q;dsimp only at q;rw[if_pos hc]at q;obtain⟨d',e3,q⟩:=q.opt;obtain⟨d0,e4,rfl⟩:=iV.mp e3;rcases rs.get (ns.idxOf f)with⟨z,_⟩|⟨d1,w,g1,g2,g3⟩
   ·rw[z]at e4;cases e4
   ·rw[g1]at e4;cases e4
    refine⟨dx,_,w,x1.2.1 _ _ hp,zcE_ g2 l,?_⟩;exact gotV (E:=E) (λF2 H2 x2=>(q F2 H2 (x1.trans x2)).back x1.2.2.1) x1.2.1 g3⟩
 cases e:r with
 |no=>rw[e]at q;exact q.elim
 |ok d=>
  rw[e]at q;have q':After K (fldD cs f d) E F H (OwnK (owD K) H Q):=q;unfold fldD at q';split at q'
  ·rename_i c ns ds e2
   by_cases hc:c∈cs
   ·exact main c hc λd' z=>by rw[e]at z;cases z;exact⟨ns,ds,e2⟩
   ·rw[if_neg hc]at q';exact q'.elim
  ·exact q'.elim
 |ex x=>
  cases cs with
  |nil=>exact absurd rfl h0
  |cons c cs=>exact main c (i5 ..) λd' z=>by rw[e]at z;cases z
def walkD (d:D):Mo (List D):=match d.un with
 |.str l=>.ok (l.map λc=>.str [c])
 |.nd .lst xs=>.ok xs
 |.nd .tup xs=>.ok xs
 |.nd .scr xs=>.ok xs
 |.nd .ktup xs=>.ok xs
 |_=>.no
theorem yl_L {F1:Hp}(hl:SqL K F1 p us)(r:DRs K ds us F1):Yl K (Itl K p) ds (tyD K) F1:=by
 refine⟨λi H x hH hx=>?_,λH hH=>⟨us,hH.seq hl,by rw[r.len];exact iW _⟩⟩
 rcases r.get i with⟨a,_⟩|⟨y,u,a,b,c⟩
 ·rw[a]at hx;cases hx
 ·rw[a]at hx;cases hx
  refine⟨⟨us,u,hH.seq hl,b⟩,?_⟩;rintro v H' ⟨rfl,z⟩ F hF b8;have e:=z us (hH.seq hl);rw[b]at e;cases e;exact⟨F,.refl b8,(tyD K).mono hF c⟩
theorem yl_T {F1:Hp}(hl:∀H,Same F1 H->SqT K H p us)(r:DRs K ds us F1):Yl K (Itt K p) ds (tyD K) F1:=by
 refine⟨λi H x hH hx=>?_,λH hH=>⟨us,hl H hH,by rw[r.len];exact iW _⟩⟩
 rcases r.get i with⟨a,_⟩|⟨y,u,a,b,c⟩
 ·rw[a]at hx;cases hx
 ·rw[a]at hx;cases hx
  refine⟨⟨us,u,hl H hH,b⟩,?_⟩;rintro v H' ⟨rfl,z⟩ F hF b8;have e:=z us (hl _ hH);rw[b]at e;cases e;exact⟨F,.refl b8,(tyD K).mono hF c⟩
def iAnyW (K:jl)(vs:List V)(σ:L2.St)(H1:Hp)(R:It->Hp->Prop):Prop:=match vs with |[x]=>iAny K (tC x) σ H1 R |_=>False
def WkW (K:jl)(E:XK)(wi:List V->L2.St->Hp->(It->Hp->Prop)->Prop)(g:List D->Mo (List D)):Prop:=
 ∀ds vs σ F1 H1 R,Same F1 H1->DRs K ds vs F1->After K (g ds) E F1 H1 (λxs F' H'=>∀J,Yl K J xs (tyD K) F'->R J H')->wi vs σ H1 R
theorem ei_w {wi:List V->L2.St->Hp->(It->Hp->Prop)->Prop}{g:List D->Mo (List D)}(w:WkW K E wi g)(hx:EvAs K ta E env ra):EvI K (λσ H R=>ta σ H λvs H1=>wi vs σ H1 R) E (Lof K env) (ra.bind g) (tyD K):=by
 intro σ F H R hL hs q;exact zeE_ hx σ F H _ hL hs (q.bind.imp λds F1 H1 x1 k1 vs hv=>w ds vs σ F1 H1 R x1.2.1 hv k1)
def walkA (ds:List D):Mo (List D):=match ds with |[d]=>walkD d |_=>.no
theorem w_any:WkW K E (iAnyW K) walkA:=by
 intro ds vs σ F1 H1 R x1 hv k1;unfold walkA at k1;split at k1
 rotate_left
 ·exact k1.elim
 obtain⟨v,rfl,aP⟩:=DRs.one hv;have ha:=DR.un aP;unfold walkD at k1;split at k1
 ·rename_i l e;rw[e]at ha;cases ha.str
  refine k1.ok x1 _ ⟨λi H x hH hx=>?_,λH hH=>?_⟩
  ·rw[iS]at hx
   cases e:l[i]? with
   |none=>rw[e]at hx;cases hx
   |some c=>
    rw[e]at hx;cases hx;have hi:=(i6.mp e).1;refine⟨hi,?_⟩;rintro v H' ⟨rfl,rfl⟩ F _ hF;refine⟨F,.refl hF,?_⟩;show DR K (.str [c]) (tx [l.getD i 0]) F
    rw[jP,e];unfold DR;rfl
  ·show l.length<=_
   rw[gf];exact iW _
 ·rename_i e;rw[e]at ha;obtain⟨p,us,rfl,n,r⟩:=ha.nd
  exact .inl ⟨⟨us,.of (x1 _ _ n)⟩,k1.ok x1 _ (yl_L (.of n) r)⟩
 ·rename_i e;rw[e]at ha;obtain⟨p,us,rfl,n,r⟩:=ha.nd
  exact .inr ⟨⟨us,.of (x1 _ _ n)⟩,k1.ok x1 _ (yl_T (λH hH=>.of (hH _ _ n)) r)⟩
 ·rename_i e;rw[e]at ha;obtain⟨p,us,rfl,n,r⟩:=ha.nd
  exact .inl ⟨⟨us,x1.seq n⟩,k1.ok x1 _ (yl_L n r)⟩
 ·rename_i e;rw[e]at ha;obtain⟨p,us,rfl,n,r⟩:=ha.nd
  exact .inr ⟨⟨us,.inr n⟩,k1.ok x1 _ (yl_T (λH hH=>.inr n) r)⟩
 ·exact k1.elim
theorem zm0_ {lo:Int}{n:Nat}{F1:Hp}:Yl K (Itr lo n) ((rngI lo n).map D.int) (tyD K) F1:=by
 have y:=zpF_ (K:=K) (lo:=lo) (n:=n) (F1:=F1);refine⟨λi H x hH hx=>?_,λH hH=>by rw[gf];exact y.stop H hH⟩
 rw[iS]at hx;obtain⟨a,ha,rfl⟩:=iV.mp hx;obtain⟨g,z⟩:=y.go i H a hH ha;refine⟨g,λv H' q F hF b8=>?_⟩
 obtain⟨F',x',e⟩:=z v H' q F hF b8;exact⟨F',x',by show DR K _ _ _;unfold DR;exact e⟩
def rng1D (ds:List D):Mo (List D):=match ds with
 |[d]=>(intD d).bind λj=>.grd (-(2 ^ 62)<=j/\j<2 ^ 62) (.ok ((rngI 0 j.toNat).map .int))
 |_=>.no
theorem zkU_ {α:Type}{k:Int->Mo α}{kk:α->Hp->Hp->Prop}(q:After K ((intD d).bind k) E F H kk)(hd:DR K d v H'):∃i,v=.int i/\After K (k i) E F H kk:=by
 have hd:=DR.un hd;unfold intD at q;split at q
 ·rename_i i e;rw[e]at hd;exact⟨i,hd.int,q⟩
 ·exact q.elim
theorem w_rg1:WkW K E (λvs _ H1 R=>match vs with |[.int j] => -(2 ^ 62)<=j/\j<2 ^ 62/\R (Itr 0 j.toNat) H1 |_=>False) rng1D:=by
 intro ds vs σ F1 H1 R x1 hv k1;unfold rng1D at k1;split at k1
 ·obtain⟨v,rfl,a⟩:=DRs.one hv
  obtain⟨i,rfl,k1⟩:=zkU_ k1 a;obtain⟨z,k1⟩:=k1.grd;exact⟨z.1,z.2,k1.ok x1 _ zm0_⟩
 ·exact k1.elim
structure Tg where
 tup:Bool
 is:List Nat
def tgD (g:Tg)(d:D):Option (List D):=if g.tup then(match d.un with |.nd .tup ds=>if ds.length=g.is.length then qI ds else qJ |_=>qJ)else if g.is.length=1 then qI [d]else qJ
def tgS:List Nat->TGs
 |[]=>gNilM
 |i::is=>gConsM (gName i) (tgS is)
def tgT (K:jl)(g:Tg):TG:=if g.tup then gTupM K g.is.length (tgS g.is)else gName (g.is.headD 0)
def tyTg (K:jl)(g:Tg):Ty (List D):=⟨λds v F=>ds.length=g.is.length/\if g.tup then∃p us,v=.ref p/\F p=qI (.tup us)/\DRs K ds us F else DRs K ds [v] F,
 λ{ds v H H'} s q=>⟨q.1,by
  have q:=q.2;split at q
  ·rename_i e;rw[if_pos e];obtain⟨p,us,e1,e2,e3⟩:=q;exact⟨p,us,e1,s _ _ e2,e3.mono s⟩
  ·rename_i e;rw[if_neg e];exact q.mono s⟩⟩
def ssT (K:jl)(is:List Nat)(ds:List D):List (Nat×Sl):=is.zip (ds.map λd=>.fz (tyD K) d)
theorem tgs_R:∀{is:List Nat}{ds:List D}{us:List V}{σ:L2.St}{F H:Hp}{Q:L2.St->Hp->Prop},ds.length=is.length->DRs K ds us F->(∀vs,Plain F (ssT K is ds) vs->Q (setS σ vs) H)->tgS is us σ H Q
 |[],[],us,σ,F,H,Q,_,r,q=>by unfold DRs at r;subst r;exact q [] .nil
 |i::is,d::ds,us,σ,F,H,Q,l,r,q=>by
  unfold DRs at r;obtain⟨v,vs,rfl,a,r⟩:=r;exact tgs_R (σ:=σ.set i (qI v)) (by simpa using l) r λws hw=>q ((i,qI v)::ws) (.cons a hw)
 |[],_::_,_,_,_,_,_,l,_,_=>by simp at l
 |_::_,[],_,_,_,_,_,l,_,_=>by simp at l
theorem tg_R (g:Tg):TgR K (tgT K g) (tyTg K g) (ssT K g.is):=by
 rintro ds v σ F H Q hs ⟨hl,hd⟩ q;unfold tgT;split at hd
 ·rename_i e;rw[if_pos e]
  obtain⟨p,us,rfl,hp,r⟩:=hd;exact⟨us,.of (hs _ _ hp),by rw[<- r.len,hl],tgs_R hl r q⟩
 ·rename_i e;rw[if_neg e]
  match h:g.is,ds,hl,hd,q with
  |[i],[d],_,hd,q=>
   obtain⟨_,e,a⟩:=DRs.one hd;cases e;exact q [(i,qI v)] (.cons a .nil)
  |[],ds,hl,hd,_=>rw[j4.mp hl]at hd;unfold DRs at hd;cases hd
  |_::_::_,d::e::ds,_,hd,_=>unfold DRs at hd;obtain⟨_,_,z,_,r⟩:=hd;cases z;unfold DRs at r;obtain⟨_,_,z,_⟩:=r;cases z
def tgsD (g:Tg):List D->Option (List (List D))
 |[]=>qI []
 |d::ds=>(tgD g d).bind λx=>(tgsD g ds).map λxs=>x::xs
theorem zoK_ {g:Tg}{x:List D}(e:tgD g d=qI x)(h:DR K d v F):(tyTg K g).R x v F:=by
 unfold tgD at e;split at e
 ·rename_i z
  have h:=DR.un h;split at e
  ·rename_i ds e2
   rw[e2]at h;obtain⟨p,us,rfl,n,r⟩:=h.nd;split at e
   ·rename_i l;cases e;exact⟨l,by rw[if_pos z];exact⟨p,us,rfl,n,r⟩⟩
   ·cases e
  ·cases e
 ·rename_i z
  split at e
  ·rename_i l;cases e;exact⟨l.symm,by rw[if_neg z];unfold DRs;exact⟨v,[],rfl,h,by unfold DRs;rfl⟩⟩
  ·cases e
theorem zcK_ {g:Tg}:∀{ds:List D}{xs:List (List D)},tgsD g ds=qI xs->xs.length=ds.length/\∀(i:Nat) x,xs[i]?=qI x->∃d,ds[i]?=qI d/\tgD g d=qI x
 |[],_,e=>by cases e;exact⟨rfl,λi x h=>by simp at h⟩
 |d::ds,_,e=>by
  unfold tgsD at e;obtain⟨x,e1,e⟩:=iY.mp e;obtain⟨xs,e2,rfl⟩:=iV.mp e;obtain⟨l,f⟩:=zcK_ e2;refine⟨by rw[iR,iR,l],λi y h=>?_⟩
  cases i with
  |zero=>simp at h;subst h;exact⟨d,rfl,e1⟩
  |succ i=>exact f i y (by simpa using h)
theorem ei_tg {wi:TI}{L:List Sl}{rs:Mo (List D)}(g:Tg)(h:EvI K wi E L rs (tyD K)):EvI K wi E L (rs.bind λl=>.opt (tgsD g l)) (tyTg K g):=by
 intro σ F H R hL hs q;refine h σ F H _ hL hs (q.bind.imp λds F1 H1 x1 k1 J Y=>?_)
 obtain⟨xs,e,k1⟩:=k1.opt;obtain⟨l,f⟩:=zcK_ e;refine k1.ok x1.2.1 J ⟨λi H x hH hx=>?_,λH hH=>by rw[l];exact Y.stop H hH⟩
 obtain⟨d,hd,e2⟩:=f i x hx;obtain⟨g1,z⟩:=Y.go i H d hH hd;refine⟨g1,λv H' q F hF b8=>?_⟩
 obtain⟨F',x',hv⟩:=z v H' q F hF b8;exact⟨F',x',zoK_ e2 hv⟩
def setE (env:Env):List Nat->List D->Env
 |i::is,d::ds=>setE (env.set i (qI d.vw)) is ds
 |_,_=>env
def cE (lv:List Str)(fr:List (Str×Nat))(env:Env):Env:=lv.map (λ_=>qJ)++fr.map λq=>(env[q.2]?).join
theorem cL_eq {lv:List Str}{fr:List (Str×Nat)}:cL lv fr (Lof K env)=Lof K (cE lv fr env):=by
 unfold cL cE;show _=List.map (slot K) (_++_)
 rw[jD,j5,j5];congr 1;refine ka λq _=>?_
 simp only[Function.comp,iS];cases env[q.2]? with
 |none=>rfl
 |some o=>rfl
def LeZ (L L':List Sl):Prop:=∀(i:Nat) s',L'[i]?=qI s'->∃s,L[i]?=qI s/\∀o F,s.Z o F->s'.Z o F
theorem LeZ.hold {L L':List Sl}{σ:L2.St}(z:LeZ L L')(h:HoldF L σ F):HoldF L' σ F:=λi s' e=>by
 obtain⟨s,e1,e2⟩:=z i s' e;exact e2 _ _ (h i s e1)
theorem zhx_:∀{is:List Nat}{ds:List D}{L:List Sl}{env:Env},LeZ L (Lof K env)->LeZ (setL L (ssT K is ds)) (Lof K (setE env is ds))
 |[],_,_,_,z=>z
 |_::_,[],_,_,z=>z
 |i::is,d::ds,L,env,z=>by
  refine zhx_ (is:=is) (ds:=ds) (L:=L.set i (.fz (tyD K) d)) (env:=env.set i (qI d.vw)) ?_;intro j s' e;rw[iS,jW]at e;by_cases hj:i=j
  ·subst hj
   rw[if_pos rfl]at e;by_cases hl:i<env.length
   ·rw[if_pos hl]at e
    cases e;obtain⟨s,e1,_⟩:=z i _ (by rw[iS,iL hl];rfl)
    refine⟨.fz (tyD K) d,by rw[kq (i6.mp e1).1],?_⟩
    rintro o F ⟨v,e2,hv⟩;refine⟨v,e2,?_⟩;show DR K d.vw v F
    unfold D.vw;split
    ·exact hv
    ·split
     ·exact hv
     ·unfold DR;exact hv
   ·rw[if_neg hl]at e;cases e
  ·rw[if_neg hj]at e
   obtain⟨s,e1,e2⟩:=z j s' (by rw[iS];exact e)
   exact⟨s,by rw[ji hj];exact e1,e2⟩
theorem ziX_ {L:List Sl}:LeZ L L:=λi s e=>⟨s,e,λ_ _ h=>h⟩
theorem znn_ (h:(owLO (owD K)).O ds v F h1):OD K (.nd .lst ds) v F h1:=by
 obtain⟨p,vs,h2,rfl,j,q⟩:=h;unfold OD;have go:∀{ds:List D}{vs:List V}{h:Hp},OwAll (owD K) F ds vs h->ODs K ds vs F h:=λ{ds}=>by
  induction ds with
  |nil=>intro vs h q;cases vs with |nil=>unfold ODs;exact⟨rfl,q⟩|cons=>exact q.elim
  |cons d ds ih=>intro vs h q;cases vs with |nil=>exact q.elim |cons v vs=>obtain⟨h1,h2,j,a,r⟩:=q;unfold ODs;exact⟨v,vs,h1,h2,rfl,j,a,ih r⟩
 exact⟨p,vs,_,h2,rfl,rfl,j,go q⟩
theorem zkf_ {lv:List Str}{fr:List (Str×Nat)}{wi:TI}{g:Tg}{tt:TT}{te:TE}{rs:Mo (List D)}{c:List D->Mo Bool}{f:List D->Mo D}(hi:EvI K wi E (Lof K env) rs (tyD K))(hg:∀i∈g.is,i<lv.length)
  (ht:∀a,EvT K tt E0 (Lof K (setE (cE lv fr env) g.is a)) (c a)) (he:∀a,EvX K te E0 (setE (cE lv fr env) g.is a) (f a)):
  EvX K (tComp lv fr wi (tgT K g) tt te) E env ((rs.bind λl=>.opt (tgsD g l)).bind λxs=>(compM (λx=>cond1 (c x) (f x)) xs []).bind λys=>.ok (.nd .lst ys)):=by
 have z:∀a,LeZ (setL (cL lv fr (Lof K env)) (ssT K g.is a)) (Lof K (setE (cE lv fr env) g.is a)):=λa=>zhx_ (by rw[cL_eq];exact ziX_)
 have dead:∀a,DeadAt (cL lv fr (Lof K env)) ((ssT K g.is a).map (·.1)):=λa i hi s e=>by
  have:i∈g.is:=by
   obtain⟨q,hq,rfl⟩:=jV.mp hi;exact(lZ hq).1
  have hl:=hg i this;unfold cL at e;rw[jS (by rw[gf];exact hl),iS,iL hl]at e
  cases e;rfl
 have:=zi0_ (lv:=lv) (fr:=fr) (ei_tg g hi) (tg_R g) dead (λa σ F H Q hL hs q=>ht a σ F H Q ((z a).hold hL) hs q) (λa σ F H Q hL hs q=>he a σ F H Q ((z a).hold hL) hs q)
 intro σ F H Q hL hs q;refine this σ F H Q hL hs ?_;have e:∀(m:Mo (List (List D))),(m.bind λxs=>(compM (λx=>cond1 (c x) (f x)) xs []).bind λys=>.ok (D.nd .lst ys))=(m.bind λxs=>compM (λx=>cond1 (c x) (f x)) xs []).bind λys=>.ok (.nd .lst ys):=λm=>(Mo.bind_assoc _ _ _).symm
 rw[e]at q;exact q.bind.imp λys F1 H1 x1 k1 v k bD dj s o=>k1.ok x1.2.1 v k bD dj s (znn_ o)
end
def rDGet:R2:=λx y H Q=>atR x y H λ_ kvs k=>∃v,valV kvs k=qI v/\Q v H
def rDIn (neg:Bool):R2:=λy x H Q=>atR x y H λ_ kvs k=>Q (.bl (if neg then !(valV kvs k).isSome else(valV kvs k).isSome)) H
def rIxA (K:jl):R2:=λx y H Q=>mIx K x y H Q\/rDGet x y H Q
def rInA (K:jl)(neg:Bool):R2:=λx y H Q=>mIn K neg x y H Q\/rDIn neg x y H Q
def mLenA (K:jl):List V->Hp->VK->Prop:=λvs H Q=>mLen K vs H Q\/mLenR vs H Q
section
variable {X:Cx}
theorem ziZ_ (hu:X.A.units+60<cLine):IxR X rDGet:=by
 intro value slice pins s σ H x y v u Q I rx ry h hs;obtain⟨a,kvs,k,rfl,rfl,hd,w,hw,q⟩:=ziA_ h;obtain rfl:v=jK a:=rx;have g:DGet H a (kV k) (qI w):=by rw[<- hw];exact .inl ⟨kvs,k,hd,rfl,rfl⟩
 have hT:=zep_ I g;unfold subscriptTail;refine iX ?_;rw[getitemInPython_of_ne hT.not_modules];refine iX (wpAny_specialOf hT PySem.F.slot_dict_getitem.lookup ?_);have fin:jq (model X.prog X.w) X.A (subscripted slice qL (.ref a) u) (λr av=>jq (model X.prog X.w) X.A (letTemporaryGo value (.ref a) r>>=λ_=>pure r) (EP X pins σ Q) X.xe av) X.xe s:=by
  rw[hs];exact wpAny_operating (kr (zgr_ (Q:=EP X pins σ Q) (by lia) I g ry λw' s3 I3 aY=>⟨w,H,I3,aY,q⟩) (λr av a9=>iX (wpAny_letTemporaryGo (je a9))) λ_ _ x=>x)
 first
  |exact je (iX fin)
  |exact iX (je (iX fin))
  |exact iX fin
theorem ix_A (hu:X.A.units+60<cLine):IxR X (rIxA X.K):=λvalue slice pins s σ H x y v u Q I rx ry h hs=>by
 rcases h with h |h
 ·exact ix_M value slice pins s σ H x y v u Q I rx ry h hs
 ·exact ziZ_ hu value slice pins s σ H x y v u Q I rx ry h hs
theorem zpp_ (hu:X.A.units+60<cLine):OpR X (jG .In) (rInA X.K qL):=λpins s σ H x y v u Q I rx ry h=>by
 rcases h with h |h
 ·exact zpE_ pins s σ H x y v u Q I rx ry h
 ·obtain⟨a,kvs,k,rfl,rfl,hd,q⟩:=ziA_ h
  cases ry;exact d_in (by lia) I (.inl ⟨kvs,k,hd,rfl,rfl⟩) rx λs3 I3=>⟨.bl (valV kvs k).isSome,H,I3,rfl,q⟩
theorem zgZ_ (hu:X.A.units+60<cLine):OpR X (jG .NotIn) (rInA X.K qK):=λpins s σ H x y v u Q I rx ry h=>by
 rcases h with h |h
 ·exact zgy_ pins s σ H x y v u Q I rx ry h
 ·obtain⟨a,kvs,k,rfl,rfl,hd,q⟩:=ziA_ h
  cases ry;exact zmM_ (by lia) I (.inl ⟨kvs,k,hd,rfl,rfl⟩) rx λs3 I3=>⟨.bl (!(valV kvs k).isSome),H,I3,rfl,q⟩
theorem zgO_:CallR X (.builtin "len") (mLenA X.K):=λpins s σ H xs us Q I r h=>by
 rcases h with h |h
 ·exact zgn_ pins s σ H xs us Q I r h
 ·exact zgq_ pins s σ H xs us Q I r h
end
section
variable {K:jF}{E:XK}{F F' h h1 h2 H H':Hp}{d:D}{ds:List D}{v:V}{us vs:List V}{k:Nd}{p:iQ}{Q:VK}{env:Env}{t:TE}{r r1 r2:Mo D}{ta:TA}{ra:Mo (List D)}{f:Fn}
def isDct (d:D):Bool:=match d.un with |.nd (.dct _) _=>qK |_=>qL
def ixA (a b:D):Mo D:=if isDct a then dgetD a b else ixD a b
theorem zlM_:Op2D K rDGet E dgetD:=by
 intro a b x y F H Q hs ha hb q;have ha:=DR.un ha;unfold dgetD at q;split at q
 ·rename_i ks ds k e1 e2
  rw[e1]at ha;obtain⟨p,us,rfl,n,r⟩:=ha.nd;obtain⟨d,e,q⟩:=q.opt;obtain⟨d0,e',rfl⟩:=iV.mp e;rcases zm4_ (k:=k) (ks:=ks) r with⟨h1,h2⟩|⟨d',v',g1,g2,g3⟩
  ·rw[h1]at e';cases e'
  ·rw[g1]at e';cases e'
   exact zjD_ rfl (zjT_ e2 hb).1 (zaU_ hs n.1) ⟨v',g2,gotV q hs g3⟩
 ·exact q.elim
theorem zpy_:Op2D K (rIxA K) E ixA:=by
 intro a b x y F H Q hs ha hb q;unfold ixA at q;split at q
 ·exact .inr (zlM_ a b x y F H Q hs ha hb q)
 ·exact .inl (od_ix a b x y F H Q hs ha hb q)
def inA (neg:Bool)(a b:D):Mo D:=if isDct b then dinD neg a b else inD neg a b
theorem znf_ {neg:Bool}:Op2D K (rDIn neg) E (dinD neg):=by
 intro a b x y F H Q hs ha hb q;have hb:=DR.un hb;unfold dinD at q;split at q
 ·rename_i ks ds k e1 e2
  rw[e1]at hb;obtain⟨p,us,rfl,n,r⟩:=hb.nd;refine zjD_ rfl (zjT_ e2 ha).1 (zaU_ hs n.1) ?_;have e:(valV (ks.zip us) k).isSome=(valD ks ds k).isSome:=by
   rcases zm4_ (k:=k) (ks:=ks) r with⟨h1,h2⟩|⟨d',v',g1,g2,g3⟩
   ·rw[h1,h2];rfl
   ·rw[g1,g2];rfl
  rw[e];exact gotB q hs
 ·exact q.elim
theorem zjY_ {neg:Bool}:Op2D K (rInA K neg) E (inA neg):=by
 intro a b x y F H Q hs ha hb q;unfold inA at q;split at q
 ·exact .inr (znf_ a b x y F H Q hs ha hb q)
 ·exact .inl (od_in a b x y F H Q hs ha hb q)
def lenA (ds:List D):Mo D:=match ds with |[d]=>if isDct d then dlenD ds else lenD ds |_=>.no
theorem zkN_:BlD K (mLenA K) E lenA:=by
 intro ds vs F H Q hs hd q;unfold lenA at q;split at q
 ·split at q
  ·exact .inr (zk3_ _ vs F H Q hs hd q)
  ·exact .inl (zoD_ _ vs F H Q hs hd q)
 ·exact q.elim
def makeD (f:Fn)(c:Str)(ds:List D):Mo D:=match f (.nd (.obj c []) []::ds.map .vw)with
 |.ok .non (o::_)=>.ok o
 |.ex x _=>.ex x
 |_=>.no
theorem zaL_ {p dx q:iQ}{o:HO}:two p dx o q=if q=p then qI o else if q=dx then qI (.own p)else qJ:=rfl
theorem zhf_:∀{ds es:List D}{vs us:List V}{F:Hp},DRs K ds vs F->DRs K es us F->DRs K (ds++es) (vs++us) F
 |[],_,_,_,_,h,g=>by unfold DRs at h;subst h;exact g
 |d::ds,_,_,_,_,h,g=>by unfold DRs at h;obtain⟨v,vs,rfl,a,r⟩:=h;rw[jN,jN];unfold DRs;exact⟨v,_,rfl,a,zhf_ r g⟩
theorem zpH_ {c:Str}{dv:List D}{aw:List V}(hx:EvAs K ta E env ra)(gX:∀F,DRs K dv aw F):EvX K (tMake (gA K c) (CtG K f) aw E ta) E env (ra.bind λds=>makeD f c (ds++dv)):=by
 intro σ F H Q hL hs q;refine zeE_ hx σ F H _ hL hs (q.bind.imp λds F1 H1 x1 k1 vs ba=>?_)
 intro x dx nx cy ne;have ba:=zhf_ ba (gX F1);have k1:=k1.imp λa F3 H3 x3 k3=>k3.back x1.2.2.1
 have sm:Same H1 (upd (upd H1 dx (.own x)) x (.ins (gA K c) dx [])):=(zax_ cy _).trans (zax_ (by rw[zl_ λz=>ne z.symm];exact nx) _)
 have eh:less (upd (upd H1 dx (.own x)) x (.ins (gA K c) dx [])) (two x dx (.ins (gA K c) dx []))=H1:=funext λp=>by
  unfold less;rw[zaL_];by_cases e:p=x
  ·subst e;rw[if_pos rfl];exact nx.symm
  ·rw[if_neg e]
   by_cases e2:p=dx
   ·subst e2;rw[if_pos rfl];exact cy.symm
   ·rw[if_neg e2,zl_ e,zl_ e2]
 refine⟨F1,two x dx (.ins (gA K c) dx []),.nd (.obj c []) []::(ds++dv).map .vw,x1.2.1.trans sm,λp=>?_,λp o z=>?_,?_,?_⟩
 ·rw[zaL_]
  by_cases e:p=x
  ·subst e;exact .inl (x1.2.1.free nx)
  ·rw[if_neg e]
   by_cases e2:p=dx
   ·subst e2;exact .inl (x1.2.1.free cy)
   ·rw[if_neg e2];exact .inr rfl
 ·rw[zaL_]at z
  by_cases e:p=x
  ·subst e;rw[if_pos rfl]at z;cases z;exact zm_
  ·rw[if_neg e]at z
   by_cases e2:p=dx
   ·subst e2;rw[if_pos rfl]at z;cases z;rw[zl_ e];exact zm_
   ·rw[if_neg e2]at z;cases z
 ·unfold ODs
  refine⟨.ref x,_,_,λ_=>qJ,rfl,no_r _ λ_=>rfl,?_,ODs.vw (λ_=>rfl) ba⟩
  unfold OD;exact⟨x,[],_,λ_=>qJ,rfl,⟨dx,ne,rfl,rfl⟩,no_r _ λ_=>rfl,by unfold ODs;exact⟨rfl,λ_=>rfl⟩⟩
 ·rw [eh]
  unfold makeD at k1;cases e:f (.nd (.obj c []) []::(ds++dv).map .vw)with
  |no=>rw[e]at k1;exact k1
  |ex x ds'=>rw[e]at k1;exact λF' h' H' ok _=>k1 F' H' ok.1
  |ok d ds'=>
   rw[e]at k1;intro v F' h' H' hr h2 ok j od os;split at k1
   ·rename_i o tl ee
    cases ee;refine⟨?_,?_⟩
    ·unfold OD at od;exact od.2.non
    ·unfold ODs at os
     obtain⟨w,ws,m1,m2,e3,jm,oo,_⟩:=os;cases e3;have s1:Same m1 h':=jm.l.trans j.r;refine k1 F' H' ok.1 (.ref x) m1 (λp z=>ok.2.2.2.1 p ?_) (dj_l (dj_r ok.2.1 j) jm) (s1.trans ok.2.2.1) oo
     cases y:m1 p with
     |none=>exact absurd y z
     |some w=>rw[s1 _ _ y];exact sN _
   ·rename_i ee;cases ee
   ·exact k1.elim
theorem zlm_ {c:Str}(hx:EvAs K ta E env ra):EvX K (tMake (gA K c) (CtG K f) [] E ta) E env (ra.bind (makeD f c)):=by
 have:=zpH_ (c:=c) (f:=f) (dv:=[]) hx λF=>by unfold DRs;rfl
 simpa only[jz]using this
def tMethA (K:jl)(fs:List (Str×Fn))(m:Str)(E:XK)(t:TE)(ta:TA):TE:=λσ H Q=>∃q∈fs,tMeth (gA K q.1) m (CtG K q.2) [] E t ta σ H Q
def methD (fs:List (Str×Fn))(m:Str)(d:D)(ra:Mo (List D)):Mo D:=match d.un with
 |.nd (.obj c ns) _=>(match fs.find? (λq=>q.1 == c)with |some q=>if m∈ns then .no else ra.bind λds=>q.2.val (d.vw::ds.map .vw)|none=>.no)
 |_=>.no
theorem zd4_:∀{ns:List Str}{us:List V}{f:Str},f∉ns->(ns.zip us).lookup f=qJ:=zbM_
theorem zlU_ {fs:List (Str×Fn)}{m:Str}(h0:fs≠[])(hx:EvX K t E env r)(ha:EvAs K ta E env ra):EvX K (tMethA K fs m E t ta) E env (r.bind λd=>methD fs m d ra):=by
 intro σ F H Q hL hs q;have main:∀g∈fs,(∀d,r=.ok d->∃ns ds,d.un=.nd (.obj g.1 ns) ds/\fs.find? (λq=>q.1 == g.1)=qI g)->tMethA K fs m E t ta σ H Q:=λg hg hd=>⟨g,hg,by
  refine ex_v hx σ F H _ hL hs ?_;cases e:r with
  |no=>rw[e]at q;exact q
  |ex x=>rw[e]at q;exact q
  |ok d=>
   obtain⟨ns,ds,e2,e3⟩:=hd d e;rw[e]at q;intro F1 H1 x1 v hv;have bM:=DR.un hv;rw[e2]at bM;obtain⟨p,us,rfl,⟨dx,hp,l⟩,rs⟩:=bM.nd;have q:After K (methD fs m d ra) E F H (OwnK (owD K) H Q):=q;unfold methD at q;rw[e2]at q;dsimp only at q;rw[e3]at q;dsimp only at q;split at q
   ·exact q.elim
   ·rename_i hm
    refine⟨p,dx,_,rfl,x1.2.1 _ _ hp,zd4_ hm,?_⟩;have q2:After K (ra.bind λds=>g.2.val (d.vw::ds.map D.vw)) E F1 H1 (OwnK (owD K) H Q):=by
     generalize ra.bind (λds=>g.2.val (d.vw::ds.map D.vw))=z at q ⊢
     cases z with
     |no=>exact q
     |ok a=>exact λF2 H2 x2=>q F2 H2 (x1.trans x2)
     |ex c=>exact λF2 H2 x2=>(q F2 H2 (x1.trans x2)).up x1.2.2.1
    refine zeE_ ha σ F1 H1 _ (hL.mono x1.1) x1.2.1 (q2.bind.imp λas F2 H2 x2 k2 vs ba=>?_)
    rw[jz];exact zdT_ (ds:=d::as) x2.2.1 (by unfold DRs;exact⟨_,_,rfl,(tyD K).mono x2.1 hv,ba⟩) (k2.imp λr F3 H3 x3 k3=>k3.back (x1.2.2.1.trans x2.2.2.1))⟩
 cases e:r with
 |no=>rw[e]at q;exact q.elim
 |ok d=>
  rw[e]at q;have q':After K (methD fs m d ra) E F H (OwnK (owD K) H Q):=q;unfold methD at q';split at q'
  ·rename_i c ns ds e2
   split at q'
   ·rename_i g eg
    have h1:g.1=c:=by simpa using o9 eg
    exact main g (m6 eg) λd' z=>by rw[e]at z;cases z;exact⟨ns,ds,by rw[h1];exact e2,by rw[h1];exact eg⟩
   ·exact q'.elim
  ·exact q'.elim
 |ex x=>
  cases fs with
  |nil=>exact absurd rfl h0
  |cons g fs=>exact main g (i5 ..) λd' z=>by rw[e]at z;cases z
def strsD:List D->Option (List (List Nat))
 |[]=>qI []
 |d::ds=>(match d.un with |.str l=>qI l |_=>qJ).bind λx=>(strsD ds).map λxs=>x::xs
theorem zl2_:∀{ds:List D}{xs:List (List Nat)}{us:List V},strsD ds=qI xs->DRs K ds us H->us=xs.map tx
 |[],_,_,e,h=>by cases e;unfold DRs at h;exact h
 |d::ds,_,_,e,h=>by
  unfold strsD at e;unfold DRs at h;obtain⟨x,ex,e⟩:=iY.mp e;obtain⟨xs,exs,rfl⟩:=iV.mp e;obtain⟨v,vs,rfl,a,r⟩:=h;have a:=DR.un a;split at ex
  ·rename_i e2;cases ex;rw[e2]at a;cases a.str;rw[zl2_ exs r];rfl
  ·cases ex
def joinD (l:List Nat)(ds:List D):Mo D:=match ds with
 |[d]=>(match d.un with |.nd .lst xs=>(Mo.opt (strsD xs)).bind λls=>.grd (JoinOk ⟨l.toArray⟩ (strsL ls)=qK) (.ok (.str (joinS l (strsL ls))))|_=>.no)
 |_=>.no
theorem zg7_:∀ls:List (List Nat),strsOf (ls.map tx)=qI (strsL ls):=λls=>strsOf_of' ls
 where strsOf_of':∀ls:List (List Nat),strsOf (ls.map tx)=qI (strsL ls)
 |[]=>rfl
 |l::ls=>by show(strsOf (ls.map tx)).map _=_;rw[strsOf_of' ls];rfl
theorem zmd_:MeD K (mJoin K) E joinD:=by
 intro l ds vs F H Q hs hd q;unfold joinD at q;split at q
 ·obtain⟨v,rfl,a⟩:=DRs.one hd
  have a:=DR.un a;split at q
  ·rename_i xs e;rw[e]at a;obtain⟨p,us,rfl,n,r⟩:=a.nd
   cases e3:strsD xs with
   |none=>rw[e3]at q;exact q.elim
   |some ls=>
    rw[e3]at q;obtain⟨z,q⟩:=After.grd (show After K (Mo.grd _ _) E F H _ from q)
    refine⟨us,.of (hs _ _ n),?_⟩;rw[zl2_ e3 r,zg7_];exact⟨z,gotS q hs⟩
  ·exact q.elim
 ·exact q.elim
theorem zhK_:∀ls:List (List Nat),DRs K (ls.map .str) (ls.map tx) F
 |[]=>by unfold DRs;rfl
 |l::ls=>by rw[iN,iN];unfold DRs;exact⟨_,_,rfl,by unfold DR;rfl,zhK_ ls⟩
def me1 (g:List Nat->List Nat->Mo D)(l:List Nat)(ds:List D):Mo D:=match ds with |[d]=>(match d.un with |.str c=>g l c |_=>.no)|_=>.no
theorem znT_ {m:V->List V->Hp->VK->Prop}{g:List Nat->List Nat->Mo D}(hm:∀l c F H (Q:VK),Same F H->After K (g l c) E F H (OwnK (owD K) H Q)->m (tx l) [tx c] H Q):MeD K m E (me1 g):=by
 intro l ds vs F H Q hs hd q;unfold me1 at q;split at q
 ·obtain⟨v,rfl,a⟩:=DRs.one hd
  have a:=DR.un a;split at q
  ·rename_i c e;rw[e]at a;cases a.str;exact hm l c F H Q hs q
  ·exact q.elim
 ·exact q.elim
abbrev indexD:=me1 λl c=>.grd (findS l c ≠ -1) (.ok (.int (findS l c)))
theorem zjd_:MeD K mIndex E indexD:=znT_ λl c F H Q hs q=>by obtain⟨z,q⟩:=q.grd;exact⟨z,gotI q hs⟩
noncomputable def tnD:D->Option String
 |.int _=>qI "int" |.bl _=>qI "bool" |.str _=>qI "str" |.non=>qI "NoneType" |.nd .lst _=>qI "list" |.nd .tup _=>qI "tuple" |_=>qJ
def isaD (n:String)(d:D):Mo D:=.opt (((tnD d.un).bind λT=>isaB T n).map .bl)
theorem tnD_S {T:String}(h:tnD d=qI T)(a:DR K d v F)(hs:Same F H):tyS K H v T:=by
 cases d with
 |int=>cases h;cases a.int;rfl
 |bl=>cases h;cases a.bl;rfl
 |str=>cases h;cases a.str;rfl
 |non=>cases h;cases a.non;rfl
 |nd k ds=>
  obtain⟨p,us,rfl,m,_⟩:=a.nd;cases k with
  |lst=>cases h;exact .inl ⟨rfl,us,hs _ _ m⟩
  |tup=>cases h;exact .inr ⟨rfl,us,hs _ _ m⟩
  |_=>cases h
 |_=>cases h
def mIsaV (K:jl):List V->Hp->VK->Prop:=λxs H Q=>∃x c T b,xs=[x,.ty c]/\tyS K H x T/\isaB T c=qI b/\Q (.bl b) H
theorem zgH_ {X:Cx}:CallR X (.builtin "isinstance") (mIsaV X.K):=by
 rintro pins s σ H xs us Q I r ⟨x,c,T,b,rfl,ht,eb,hq⟩;obtain⟨u,w',rfl,r1,r2⟩:=vals2 r;cases r2;exact zgJ_ I r1 (zoh_ ht) (zk6_ eb) λtk=>⟨.bl b,H,I.tok tk,rfl,hq⟩
theorem zos_ (n:String)(hx:EvX K t E env r):EvX K (tCB (mIsaV K) (tCons t (tCons (tC (.ty n)) tNil))) E env (r.bind (isaD n)):=by
 intro σ F H Q hL hs q;refine ex_v hx σ F H _ hL hs (q.bind.imp λd F1 H1 x1 k1 v hv=>?_)
 have k1:=k1.imp λa F3 H3 x3 k3=>k3.back x1.2.2.1
 obtain⟨w,e,k1⟩:=k1.opt;obtain⟨b,e0,rfl⟩:=iV.mp e;obtain⟨T,e1,e2⟩:=iY.mp e0;exact⟨v,n,T,b,rfl,tnD_S e1 (DR.un hv) x1.2.1,e2,gotB k1 x1.2.1⟩
theorem zki_:EvX K tDNewK E env (.ok (.nd (.dct []) [])):=by
 intro σ F H Q hL hs q p hp;refine q F _ (.heap hs (zax_ hp _)) (.ref p) (one p (.dK [])) (λb z=>?_) (λb=>?_) (λb o z=>?_) ?_
 ·rw[zd_]at z;split at z
  ·rename_i e;rw[e];exact hp
  ·exact absurd rfl z
 ·rw[zd_];split
  ·rename_i e;rw[e];exact .inl (hs.free hp)
  ·exact .inr rfl
 ·rw[zd_]at z;split at z
  ·rename_i e;rw[e];cases z;exact zm_
  ·cases z
 ·show OD K _ _ _ _
  unfold OD;exact⟨p,[],_,λ_=>qJ,rfl,⟨rfl,rfl,pz⟩,no_r _ λ_=>rfl,by unfold ODs;exact⟨rfl,λ_=>rfl⟩⟩
theorem newTp (q:After K (.ok (.nd .tup (ds.map .vw))) E F H (OwnK (owD K) H Q))(hs:Same F H)(hp:H p=qJ)(r:DRs K ds us F):Q (.ref p) (upd H p (.tup us)):=by
 have x:=Ext.new (o:=.tup us) hs hp;refine q _ _ x (.ref p) (λ_=>qJ) (λb z=>absurd rfl z) (λ_=>.inr rfl) (λb o z=>by cases z) ?_
 show OD K _ _ _ _
 unfold OD;exact⟨p,us,λ_=>qJ,λ_=>qJ,rfl,⟨zm_,λ_=>rfl⟩,no_r _ λ_=>rfl,ODs.vw (λ_=>rfl) (r.mono x.1)⟩
def mSlA (K:jl):V->Option Int->Option Int->Hp->VK->Prop:=λx lo hi H Q=>mSl K x lo hi H Q\/rSlT K x lo hi H Q
theorem sl_A {X:Cx}:SlR X (mSlA X.K):=SlR.or sl_M zpA_
def slA (a:D)(lo hi:Option Int):Mo D:=match a.un with
 |.nd .tup xs=>if HT.sIx xs.length 0 lo=0/\HT.sIx xs.length xs.length hi=xs.length then .no else .ok (.nd .tup ((cutG xs lo hi).map .vw))
 |_=>slD a lo hi
theorem znb_ {tl th:TO}{rl rh:Mo (Option Int)}(h0:EvX K t E env r)(hl:EvP K tl E (Lof K env) rl)(hh:EvP K th E (Lof K env) rh):EvX K (tSl (mSlA K) t tl th) E env (r.bind λl=>rl.bind λa=>rh.bind λb=>slA l a b):=by
 intro σ F H Q hL hs q;refine ex_v h0 σ F H _ hL hs (q.bind.imp λl F1 H1 x1 k1 v hv=>?_)
 refine hl σ F1 H1 _ (hL.mono x1.1) x1.2.1 (k1.bind.imp λlo F2 H2 x2 k2=>?_)
 refine hh σ F2 H2 _ (hL.mono (x1.1.trans x2.1)) x2.2.1 (k2.bind.imp λhi F3 H3 x3 k3=>?_)
 have ha:=DR.un ((tyD K).mono (x2.1.trans x3.1) hv);have k3:=k3.imp λc F4 H4 x4 k4=>k4.back (x1.2.2.1.trans (x2.2.2.1.trans x3.2.2.1))
 unfold slA at k3;split at k3
 ·rename_i xs e;rw[e]at ha;obtain⟨p,us,rfl,n,r⟩:=ha.nd
  split at k3
  ·exact k3.elim
  ·rename_i hn
   exact .inr ⟨p,us,rfl,.of (x3.2.1 _ _ n),by rw[<- r.len];exact hn,λp hp=>newTp k3 x3.2.1 hp (r.cut lo hi)⟩
 ·refine .inl ?_
  unfold slD at k3;split at k3
  ·rename_i l e;rw[e]at ha;cases ha.str
   obtain⟨c,k3⟩:=k3.lim;exact⟨c,gotS k3 x3.2.1⟩
  ·rename_i e;rw[e]at ha;obtain⟨p,us,rfl,n,r⟩:=ha.nd
   exact⟨us,.of (x3.2.1 _ _ n),λp hp=>newL k3 x3.2.1 hp (r.cut lo hi)⟩
  ·rename_i e;rw[e]at ha;obtain⟨p,us,rfl,n,r⟩:=ha.nd
   exact⟨us,x3.2.1.seq n,λp hp=>newL k3 x3.2.1 hp (r.cut lo hi)⟩
  ·exact k3.elim
def mAddA (K:jl):R2:=λx y H Q=>mAdd x y H Q\/rCatT K x y H Q
theorem zk1_ {X:Cx}:OpR X (k7 .Add) (mAddA X.K):=λpins s σ H x y v u Q I rx ry h=>by
 rcases h with h |h
 ·exact zkc_ pins s σ H x y v u Q I rx ry h
 ·exact zkk_ pins s σ H x y v u Q I rx ry h
def addA (a b:D):Mo D:=match a.un,b.un with
 |.nd .tup xs,.nd .tup ys=>if xs=[]\/ys=[]then .no else .lim (xs.length+ys.length) (.ok (.nd .tup ((xs++ys).map .vw)))
 |_,_=>addD a b
noncomputable instance (l:List D):Decidable (l=[]):=match l with |[]=>.isTrue rfl |_::_=>.isFalse λh=>by cases h
theorem zl7_:Op2D K (mAddA K) E addA:=by
 intro a b x y F H Q hs ha hb q;unfold addA at q;split at q
 ·rename_i xs ys e1 e2
  have ha:=DR.un ha;have hb:=DR.un hb;rw[e1]at ha;rw[e2]at hb;obtain⟨p,us,rfl,n,r⟩:=ha.nd;obtain⟨p2,ws,rfl,n2,r2⟩:=hb.nd;split at q
  ·exact q.elim
  ·rename_i hn
   obtain⟨c,q⟩:=q.lim;have h1:us≠[]:=λz=>hn (.inl (j4.mp (by rw[r.len,z];rfl)))
   have h2:ws≠[]:=λz=>hn (.inr (j4.mp (by rw[r2.len,z];rfl)))
   exact .inr ⟨p,p2,us,ws,rfl,rfl,.of (hs _ _ n),.of (hs _ _ n2),h1,by rw[<- r.len,<- r2.len];exact c,λz=>absurd z h2,λ_ l hl=>newTp q hs hl (r.app r2)⟩
 ·exact .inl (znG_ a b x y F H Q hs ha hb q)
def keysS:List Key->Option (List (List Nat))
 |[]=>qI []
 |.inr x::ks=>(keysS ks).map (x.cps.toList::·)
 |_=>qJ
def mListA (K:jl):List V->Hp->VK->Prop:=λxs H Q=>mList K xs H Q\/match xs with
 |[.ref p]=>∃kvs,Rd H p (.dK kvs)/\kvs.length<=iZ/\∀l,H l=qJ->Q (.ref l) (upd H l (.lst (kvs.map λq=>kV q.1)))
 |_=>False
theorem zmg_:∀(a:List (Key×V)) (b:List (Key×fv)) (i:Nat) q k' x,KV a b->a[i]?=qI q->b[i]?=qI (k',x)->q.1=k':=by
 intro a b i q k' x bt;unfold KV at bt;induction bt generalizing i with
 |nil=>intro e;simp at e
 |cons r t ih=>
  intro e1 e2;cases i with
  |zero=>simp at e1 e2;subst e1;have:=r.1;rw[e2]at this;exact this
  |succ i=>exact ih i (by simpa using e1) (by simpa using e2)
theorem zcR_:∀(ks:List (Key×V)) (us:List fv),ks.length=us.length->(∀(i:Nat) (q:Key×V) (u:fv),ks[i]?=qI q->us[i]?=qI u->RelV (kV q.1) u)->Vals (ks.map λq=>kV q.1) us
 |[],us,hl,_=>by cases us with |nil=>exact .nil |cons _ _=>simp at hl
 |q::ks,us,hl,hh=>by
  cases us with
  |nil=>simp at hl
  |cons u us=>exact .cons (hh 0 q u rfl rfl) (zcR_ ks us (by simpa using hl) λi q' u' e1 e2=>hh (i+1) q' u' (by simpa using e1) (by simpa using e2))
theorem zeS_ {X:Cx}(hc:X.calm=qK):CallR X (.type "list") (mListA X.K):=by
 intro pins s σ H xs us Q I r h;rcases h with h |h
 ·exact ze0_ hc pins s σ H xs us Q I r h
 ·split at h
  ·rename_i p
   obtain⟨kvs,hp,hl,q⟩:=h;obtain⟨u,rfl,rx⟩:=vals1 r;cases rx;obtain⟨z,hd,vs,rel,dd⟩:=zeg_ I.hok hp;obtain⟨ep,hat⟩:=dd.dictAt;have bg:kvs.length=vs.length:=rel.length;refine W.kdl_call (W.kdl_dict (knd:=mixKind X.prog X.w) (kvs:=vs) (ep:=ep) hd) (I.ok.hd hc) hat (by rw[<- bg];exact hl) λh' tk acc c kp ho ax=>?_
   refine⟨.ref s.heap.objs.size,_,I.laid (o:=.lst (kvs.map λq=>kV q.1)) (t':=tk) kp (iW _) ⟨by rw[gf];exact hl,acc.toList,c,?_,by simpa using ho⟩,rfl,q _ (I.hok.fresh (iW _))⟩
   have bJ:acc.toList.length=kvs.length:=by rw[k6,bg];exact ax.1
   refine zcR_ kvs acc.toList bJ.symm λi q u e1 e2=>?_
   obtain⟨k',x,ek,bz⟩:=ax.2 i u (by rw[<- mE];exact e2)
   rw[zmg_ kvs vs i q k' x rel e1 ek];exact is_kV bz
  ·exact h.elim
def kD:Key->D
 |.inl i=>.int i
 |.inr s=>.str s.cps.toList
theorem zfF_:∀(ks:List Key) (us:List V) {H:Hp},ks.length=us.length->DRs K (ks.map kD) ((ks.zip us).map λq=>kV q.1) H
 |[],us,_,_=>by unfold DRs;rfl
 |k::ks,[],_,hl=>by cases hl
 |k::ks,u::us,H,hl=>by
  rw[jt,iN,iN];unfold DRs;refine⟨_,_,rfl,?_,zfF_ ks us (by simpa using hl)⟩
  cases k with
  |inl i=>unfold kD DR;rfl
  |inr s=>unfold kD DR;rfl
def listA:List D->Mo D:=on1 λd=>match d with
 |.nd .lst xs=>.ok (.nd .lst (xs.map .vw))
 |.nd .tup xs=>.ok (.nd .lst (xs.map .vw))
 |.nd .scr xs=>.ok (.nd .lst (xs.map .vw))
 |.nd (.dct ks) _=>.lim ks.length (.ok (.nd .lst ((ks.map kD).map .vw)))
 |_=>.no
theorem zid_:BlD K (mListA K) E listA:=zew_ λd v F H Q hs hd q=>by
 split at q
 ·obtain⟨p,us,rfl,n,r⟩:=hd.nd;exact .inl (.inl ⟨us,.inl (.of (hs _ _ n)),λl hl=>newL q hs hl r⟩)
 ·obtain⟨p,us,rfl,n,r⟩:=hd.nd;exact .inl (.inl ⟨us,.inr (.of (hs _ _ n)),λl hl=>newL q hs hl r⟩)
 ·obtain⟨p,us,rfl,n,r⟩:=hd.nd;exact .inl (.inl ⟨us,.inl (hs.seq n),λl hl=>newL q hs hl r⟩)
 ·obtain⟨p,us,rfl,n,r⟩:=hd.nd
  obtain⟨c,q⟩:=q.lim;refine .inr ⟨_,zaU_ hs n.1,by rw[k5,n.2.1,l9,<- n.2.1];exact c,λl hl=>newL q hs hl (zfF_ _ _ n.2.1)⟩
 ·exact q.elim
end
section
variable {K:jF}{E:XK}{F H:Hp}{env:Env}
def taP:List (TE×TE)->TA
 |[]=>tNil
 |(k,v)::r=>tCons k (tCons v (taP r))
def prU:List V->List (V×V)
 |k::v::r=>(k,v)::prU r
 |_=>[]
theorem tp_eq:∀(trs:List (TE×TE)) (σ:L2.St) (H:Hp) (Q:List (V×V)->Hp->Prop),taP trs σ H (λvs H'=>Q (prU vs) H')=tPairs trs σ H Q
 |[],_,_,_=>rfl
 |(k,v)::r,σ,H,Q=>congrArg (k σ H) (funext λx=>funext λH1=>congrArg (v σ H1) (funext λy=>funext λH2=>tp_eq r σ H2 λps H3=>Q ((x,y)::ps) H3))
def prD:List D->Option (List Key×List D)
 |[]=>qI ([],[])
 |[_]=>qJ
 |k::d::r=>(keyD k).bind λk=>(prD r).map λq=>(k::q.1,d::q.2)
def dspD (ds:List D):Mo D:=(Mo.opt (prD ds)).bind λq=>.grd (q.1.Nodup/\q.1.length<=15) (.ok (.nd (.dct q.1) q.2))
theorem zne_ {d:D}{v:V}{h:Hp}{k:Key}(e:keyD d=qI k)(o:OD K d v F h):(∀p,h p=qJ)/\v=kV k:=by
 cases d with
 |nd=>cases e
 |_=>unfold OD at o;exact⟨o.1,(zjT_ e o.2).2⟩
theorem zmI_:∀{ds:List D}{vs:List V}{h:Hp}{ks:List Key}{es:List D},prD ds=qI (ks,es)->ODs K ds vs F h->∃us,prU vs=(ks.zip us).map (λkv=>(kV kv.1,kv.2))/\ks.length=us.length/\ODs K es us F h
 |[],vs,h,ks,es,e,o=>by
  cases e;have o':=o;unfold ODs at o';rw[o'.1]at o ⊢;exact⟨[],rfl,rfl,o⟩
 |[_],_,_,_,_,e,_=>by cases e
 |k::d::r,vs,h,ks,es,e,o=>by
  unfold prD at e;obtain⟨k',e1,e⟩:=iY.mp e;obtain⟨q,e2,e3⟩:=iV.mp e;cases e3;unfold ODs at o;obtain⟨v,vs,h1,h2,rfl,j,ok,o⟩:=o;obtain⟨n1,rfl⟩:=zne_ e1 ok;cases jn_no (zau_ j) n1;unfold ODs at o;obtain⟨v,vs,m1,m2,rfl,jm,od,o⟩:=o;obtain⟨us,p1,p2,p3⟩:=zmI_ (ks:=q.1) (es:=q.2) e2 o;refine⟨v::us,?_,by simpa using p2,?_⟩
  ·show(_,_)::prU vs=_
   rw[p1];rfl
  ·unfold ODs;exact⟨v,us,m1,m2,rfl,jm,od,p3⟩
theorem zfD_:∀(kvs acc:List (Key×V)),((acc++kvs).map (·.1)).Nodup->mergeK acc kvs=acc++kvs
 |[],acc,_=>by rw[jz];rfl
 |(k,v)::r,acc,h=>by
  show mergeK (putK acc k v) r=_
  have hk:(acc.any λkv=>decide (kv.1=k))=qL:=by
   rw[oP];intro x hx z;rw[jD,mC]at h;exact h.2.2 _ (List.mem_map_of_mem hx) k (by simp) (of_decide_eq_true z)
  have e:putK acc k v=acc++[(k,v)]:=by unfold putK;rw[hk];rfl
  rw[e,zfD_ r (acc++[(k,v)]) (by rw[lL];exact h),lL];rfl
theorem zl1_ {trs:List (TE×TE)}{ra:Mo (List D)}(h:EvAs K (taP trs) E env ra):EvX K (tDisp trs) E env (ra.bind dspD):=by
 intro σ F H Q hL hs q p hp;have sn:=zax_ (H:=H) hp (.dK []);have x0:Ext F H F (upd H p (.dK [])):=.heap hs sn;rw[<- tp_eq];refine h σ F (upd H p (.dK [])) _ hL x0.2.1 ?_;cases e:ra with
 |no=>rw[e]at q;exact q
 |ex c=>rw[e]at q;exact λF' H' x=>(q F' H' (x0.trans x)).up x0.2.2.1
 |ok ds=>
  rw[e]at q;have q:After K (dspD ds) E F H (OwnK (owD K) H Q):=q;unfold dspD at q;cases e2:prD ds with
  |none=>rw[e2]at q;exact q.elim
  |some r=>
   obtain⟨ks,es⟩:=r;rw[e2]at q;obtain⟨⟨nd,fi⟩,q⟩:=After.grd (show After K (.grd (ks.Nodup/\ks.length<=15) (.ok (D.nd (.dct ks) es))) E F H (OwnK (owD K) H Q)from q)
   intro F2 H2 x2 vs k bD cb s1 o1;obtain⟨us,p1,p2,o2⟩:=zmI_ e2 o1;have cZ:H2 p=qI (.dK []):=x2.2.2.1 _ _ zm_;have hF:F p=qJ:=hs.free hp;have fW:F2 p=qJ:=by
    cases y:F2 p with
    |none=>rfl
    |some o'=>
     have:=x2.2.2.2 p hF (by rw[y];exact sN _)
     rw[zm_]at this;cases this
   have nk:k p=qJ:=by
    cases z:k p with
    |none=>rfl
    |some o=>have:=bD p (by rw[z];exact sN _);rw[zm_]at this;cases this
   refine⟨cZ,ks.zip us,p1,by rw[k5,<- p2,l9];exact fi,?_⟩
   have em:((ks.zip us).map (·.1))=ks:=List.map_fst_zip (by lia)
   rw[zfD_ _ [] (by rw[j7,em];exact nd),j7]
   have ne:∀{G:Hp}{b:iQ}{o:HO},G p=qJ->G b=qI o->b≠p:=λg z e=>by rw[e,g]at z;cases z
   have xx:Ext F H F2 (upd H2 p (.dK (ks.zip us))):=⟨x2.1,λb o z=>by rw[zl_ (ne fW z)];exact x2.2.1 _ _ z,λb o z=>by rw[zl_ (ne hp z)];exact x2.2.2.1 _ _ (sn _ _ z),λb a1 a2=>sn.free (x2.2.2.2 b a1 a2)⟩
   have d1:Dj (one p (.dK (ks.zip us))) k:=λq=>by
    rw[zd_];split
    ·rename_i e;rw[e];exact .inr nk
    ·exact .inl rfl
   refine q F2 _ xx (.ref p) (un (one p (.dK (ks.zip us))) k) (λq z=>?_) (λq=>?_) (λq o z=>?_) ?_
   ·unfold un at z;rw[zd_]at z
    by_cases e:q=p
    ·subst e;exact hp
    ·rw[if_neg e]at z;exact sn.free (bD q z)
   ·unfold un;rw[zd_]
    by_cases e:q=p
    ·subst e;exact .inl fW
    ·rw[if_neg e];exact cb q
   ·unfold un at z;rw[zd_]at z
    by_cases e:q=p
    ·subst e;rw[if_pos rfl]at z;cases z;exact zm_
    ·rw[if_neg e]at z;rw[zl_ e];exact s1 _ _ z
   ·show OD K _ _ _ _
    unfold OD;exact⟨p,us,_,k,rfl,⟨rfl,p2,nd⟩,zaX_ d1,o2⟩
def eqsD:List D->List D->Option (List Bool)
 |[],[]=>qI []
 |d::ds,e::es=>(eqT 12 d e).bind λc=>(eqsD ds es).map λr=>c::r
 |_,_=>qJ
def nedD (a b:D):Mo D:=match a.un,b.un with
 |.nd (.dct ks) ds,.nd (.dct fL) es=>.grd (ks=fL) ((Mo.opt (eqsD ds es)).bind λbs=>.ok (.bl (!(bs.all id))))
 |_,_=>.no
theorem eqs_L:∀{ds es:List D}{us ws:List V}{bs:List Bool},eqsD ds es=qI bs->DRs K ds us H->DRs K es ws H->EqL K H 12 us ws bs
 |[],[],us,ws,bs,e,h,g=>by unfold DRs at h g;subst h g;cases e;exact ke
 |[],_::_,_,_,_,e,_,_=>by cases e
 |_::_,[],_,_,_,e,_,_=>by cases e
 |d::ds,e::es,us,ws,bs,h,g,g'=>by
  unfold eqsD at h;obtain⟨c,e1,h⟩:=iY.mp h;obtain⟨r,e2,rfl⟩:=iV.mp h;unfold DRs at g g';obtain⟨v,vs,rfl,a,q⟩:=g;obtain⟨v',aT,rfl,a',q'⟩:=g';exact⟨zpB_ e1 a a',eqs_L e2 q q'⟩
theorem zoB_:Op2D K (mNeDL K) E nedD:=by
 intro a b x y F H Q hs h1 h2 k;have d1:=DR.un (K:=K) h1;have d2:=DR.un (K:=K) h2;unfold nedD at k;split at k
 ·rename_i ks ds fL es e1 e2
  rw[e1]at d1;rw[e2]at d2;obtain⟨eq,k'⟩:=After.grd k;subst eq;obtain⟨p,us,rfl,n,r⟩:=d1.nd;obtain⟨p',aX,rfl,n',r'⟩:=d2.nd;obtain⟨bs,e3,k''⟩:=After.opt k'.bind;refine⟨ks,us,aX,bs,zaU_ hs n.1,zaU_ hs n'.1,n.2.2,n.2.1,n'.2.1,eqs_L e3 (r.mono hs) (r'.mono hs),?_⟩;have k3:After K (.ok (D.bl (!(bs.all id)))) E F H (OwnK (owD K) H Q):=k'' F H (Ext.refl hs);exact k3 F H (Ext.refl hs) _ (λ_=>qJ) (λp z=>absurd rfl z) (λp=>.inr rfl) (λp o z=>by cases z) (by show OD K _ _ _ _;unfold OD DR;exact⟨λ_=>rfl,rfl⟩)
 ·exact k.elim
end
section
variable {X:Cx}
def mTxt (f:List Nat->List Nat->Bool):R2:=λx y H Q=>∃i j,x=.str i/\y=.str j/\Q (.bl (f i.cps.toList j.cps.toList)) H
theorem znH_:OpR X (jG .Lt) (mTxt λi j=>decide (i<j)):=zgW_
theorem zed_:∀{ls:List (List Nat)}{us:List fv},Vals (ls.map tx) us->StrsAre us (ls.map λl=>⟨l.toArray⟩)
 |[],_,.nil=>.nil
 |l::ls,_,.cons r h=>by obtain⟨t,rfl⟩:=r;exact .cons _ t (zed_ h)
variable {K:jF}{E:XK}{F H:Hp}{d:D}{Q:VK}
def txtD (f:List Nat->List Nat->Bool)(a b:D):Mo D:=(strOf a).bind λi=>(strOf b).bind λj=>.ok (.bl (f i j))
theorem zmr_ {l:List Nat}{v:V}(e:strOf d=.ok l)(h:DR K d v F):v=tx l:=by
 have h:=DR.un h;unfold strOf at e;split at e
 ·rename_i l' e';cases e;rw[e']at h;exact h.str
 ·cases e
theorem zco_ (d:D):strOf d=.no\/∃l,strOf d=.ok l:=by unfold strOf;split<;>simp
theorem zok_ {f:List Nat->List Nat->Bool}:Op2D K (mTxt f) E (txtD f):=by
 intro a b x y F H Q hs ha hb q;unfold txtD at q;rcases zco_ a with e |⟨l,e⟩
 ·rw[e]at q;exact q.elim
 rcases zco_ b with e' |⟨l',e'⟩
 ·rw[e,e']at q;exact q.elim
 rw[e,e']at q;exact⟨_,_,zmr_ e ha,zmr_ e' hb,gotB q hs⟩
def intB:List D->Mo D:=on1 λd=>match d with |.bl b=>.ok (.int (if b=qK then 1 else 0))|_=>.no
theorem znW_:BlD K mIntC E intB:=zew_ λd v F H Q hs hd q=>by
 split at q
 ·cases hd.bl;exact gotI q hs
 ·exact q.elim
theorem zbq_:∀{ss:List Str}{vs:List fv},StrsAre vs ss->Vals ((ss.map λz=>z.cps.toList).map tx) vs
 |_,_,.nil=>.nil
 |_,_,.cons _ _ h=>.cons ⟨_,rfl⟩ (zbq_ h)
theorem zku_:∀{l:List Str}{p:Str},risingS p l=qK->(p::l).Pairwise λa b=>ltS b.cps.toList a.cps.toList=qL
 |[],_,_=>List.pairwise_singleton _ _
 |x::l,p,h=>by
  unfold risingS at h;rw[bR,nh,ltCps_eq]at h;have r:=zku_ h.2;refine mq.mpr ⟨λy hy=>?_,r⟩
  rcases ju.mp hy with rfl |hy
  ·exact h.1
  ·have a:=of_decide_eq_false h.1
   have b:=of_decide_eq_false ((mq.mp r).1 y hy);exact decide_eq_false λz=>(pG a b:_<=_) z
end
section
variable {K:jF}
theorem zek_ {F:Hp}:∀(ls:List (List Nat)),DRs K (ls.map .str) (ls.map tx) F
 |[]=>by unfold DRs;rfl
 |l::ls=>by rw[iN,iN];unfold DRs;exact⟨_,_,rfl,by unfold DR;rfl,zek_ ls⟩
end
section
def mSortU (_:jl):List V->Hp->VK->Prop:=λxs H Q=>match xs with
 |[.ref p]=>∃(ls:List (List Nat)) (kvs:List (Key×V)),Rd H p (.dK kvs)/\(kvs.map λq=>kV q.1)=ls.map tx/\ls.length<64/\∀cP:List (List Nat),cP.Perm ls->cP.Pairwise (λa b=>ltS b a=qL)->∀l,H l=qJ->Q (.ref l) (upd H l (.lst (cP.map tx)))
 |_=>False
theorem ziC_ {ss bT:List Str}{ls:List (List Nat)}(e:ss=ls.map λl=>(⟨l.toArray⟩:Str))(a2:bT.Perm ss)(a3:sortedS bT=qK):(bT.map λz:Str=>z.cps.toList).Perm ls/\(bT.map λz:Str=>z.cps.toList).Pairwise λa b=>ltS b a=qL:=by
 subst e;constructor
 ·have:=a2.map λz:Str=>z.cps.toList
  rw[j5,show((λz:Str=>z.cps.toList)∘λl:List Nat=>(⟨l.toArray⟩:Str))=id from rfl,oj]at this
  exact this
 ·rw[List.pairwise_map]
  cases bT with
  |nil=>exact .nil
  |cons x l=>exact zku_ a3
theorem zfG_ {X:Cx}(hc:X.calm=qK):CallR X (.builtin "sorted") (mSortU X.K):=by
 intro pins s σ H xs us Q I r h;unfold mSortU at h;split at h
 rotate_left
 ·exact h.elim
 rename_i p
 obtain⟨ls,kvs,hp,hk,h64,q⟩:=h;obtain⟨u,rfl,rx⟩:=vals1 r;cases rx;obtain⟨z,hd,vs,rel,dd⟩:=zeg_ I.hok hp;obtain⟨ep,hat⟩:=dd.dictAt;have bg:kvs.length=vs.length:=rel.length;have iH:kvs.length=ls.length:=by have:=congrArg jU hk;simpa using this
 refine Calls.call_function_entry kind_sorted plain_sorted entry_sorted (args_sorted1 _) ?_;unfold Builtin.«sorted»;refine iX (m:=checkCount "sorted" 1 1 _) (je ?_);refine iX (ziw_ (W.kdl_dict (knd:=mixKind X.prog X.w) (kvs:=vs) (ep:=ep) hd) (I.ok.hd hc) hat (by rw[<- bg,sizeLine_eq];lia) λh1 tk acc hsz k1 ax=>?_)
 have bJ:acc.toList.length=kvs.length:=by rw[k6,bg];exact ax.1
 have rv:Vals (ls.map tx) acc.toList:=by
  rw[<- hk];refine zcR_ kvs acc.toList bJ.symm λi q u e1 e2=>?_
  obtain⟨k',x,ek,bz⟩:=ax.2 i u (by rw[<- mE];exact e2)
  rw[zmg_ kvs vs i q k' x rel e1 ek];exact is_kV bz
 have hS:=zed_ rv;refine iX (wpAny_newList ?_ (by rw[sizeLine_eq];lia))
 have c7:(h1.push (seqObj "list" acc.toList.toArray 0)).get? h1.objs.size=qI (seqObj "list" acc.toList.toArray 0):=jj _ rfl;show jq _ _ _ _ _ {s with heap:=h1.push (seqObj "list" acc.toList.toArray 0),toks:=tk}
 refine iX (wpAny_holding (wpAny_call_entry slot_list_sort ⟨_,c7,rfl⟩ entry_list_sort (list_sort_treeK strKind_oneLt c7 hS.keysOf (λgf gd rest e=>keyKind_strs (by rw[<- e];exact hS)) (by lia) λaK hp hs=>⟨_,rfl,?_⟩) (args_list_sort _)))
 obtain⟨bT,a1,a2,a3⟩:=sorted_out_str hS hp hs;obtain⟨b1,b2⟩:=ziC_ rfl a2 a3
 generalize (arrOf aK).map (·.2)=out at a1 ⊢
 obtain⟨e,he⟩:=sortedHeap_at (out:=out) c7;have kp:∀b o,s.heap.get? b=qI o->(sortedHeap (h1.push (seqObj "list" acc.toList.toArray 0)) h1.objs.size acc.toList out).get? b=qI o:=λb o z=>by
  have hb:=i9 (k1 b o z);rw[sortedHeap_old (jQ hb) (by rw[size_push'];exact m9 hb)]
  exact iU _ (k1 b o z)
 exact je ⟨_,rfl,.ref h1.objs.size,_,I.laid (o:=.lst ((bT.map λz:Str=>z.cps.toList).map tx)) (t':=tk) kp (mP hsz) ⟨by rw[gf,b1.length_eq];exact zaB_ (by lia),out.toList,e,zbq_ a1,by simpa using he⟩,rfl,q _ b1 b2 _ (I.hok.fresh (mP hsz))⟩
variable {K:jF}{E:XK}
theorem zhj_:∀{ks:List Key}{ls:List (List Nat)}{us:List V},keysS ks=qI ls->ks.length=us.length->((ks.zip us).map λq=>kV q.1)=ls.map tx
 |[],ls,us,h,e=>by cases h;rfl
 |.inr i::ks,ls,[],h,e=>by cases e
 |.inr i::ks,ls,u::us,h,e=>by
  unfold keysS at h;obtain⟨cP,h',rfl⟩:=iV.mp h;rw[jt,iN,iN,zhj_ h' (by simpa using e)]
  show V.str i::_=_
  rw[show tx i.cps.toList=V.str i from by unfold tx;rw[om]]
 |.inl _::_,_,_,h,_=>by cases h
def srtU:List D->Mo D:=on1 λd=>match d with
 |.nd (.dct ks) _=>(match keysS ks with |some ls=>.grd (ls.length<64) (.ok (.nd .lst ((srtL ltS ls).map .str)))|none=>.no)
 |_=>.no
theorem zjj_:BlD K (mSortU K) E srtU:=zew_ λd v F H Q hs hd q=>by
 split at q
 ·obtain⟨p,us,rfl,n,r⟩:=hd.nd
  split at q
  rotate_left
  ·exact q.elim
  rename_i ls e
  obtain⟨c,q⟩:=q.grd;refine⟨ls,_,zaU_ hs n.1,zhj_ e n.2.1,c,λcP hp cA l hl=>?_⟩
  rw[zgf_ zoz_ hp cA];exact newL (by rw[j5];exact q) hs hl (zek_ _)
 ·exact q.elim
end
def mTupl (K:jl):List V->Hp->VK->Prop:=λxs H Q=>match xs with
 |[.ref p]=>∃ys:List V,SqL K H p ys/\∀l,H l=qJ->Q (.ref l) (upd H l (.tup ys))
 |_=>False
theorem zgg_ {X:Cx}:CallR X (.type "tuple") (mTupl X.K):=by
 intro pins s σ H xs us Q I r h;unfold mTupl at h;split at h
 rotate_left
 ·exact h.elim
 rename_i p
 obtain⟨ys,hp,q⟩:=h;obtain⟨u,rfl,rx⟩:=vals1 r;cases rx;obtain⟨its,rv,pl,hz⟩:=I.list hp;have hl:=rv.length;refine call_tuple_list pl.isList (λh' hk=>?_) (by rw[iO];lia)
 have I1:Inv X pins σ H {s with heap:=h'}:=I.kept (t':=s.toks) hk;exact⟨.ref h'.objs.size,_,I1.laid (t':=s.toks) (o:=.tup ys) (λb u e=>iU _ e) (iW _) ⟨hz,its,rv,⟨_,jj _ rfl,rfl,_,rfl⟩⟩,rfl,q _ (I1.hok.fresh (iW _))⟩
section
variable {K:jF}{E:XK}
def tuplD:List D->Mo D:=on1 λd=>match d with
 |.nd .lst ds=>.ok (.nd .tup (ds.map .vw))
 |_=>.no
theorem zlS_:BlD K (mTupl K) E tuplD:=zew_ λd v F H Q hs hd q=>by
 split at q
 ·obtain⟨p,us,rfl,n,r⟩:=hd.nd
  exact⟨us,.of (hs _ _ n),λl hl=>newTp q hs hl r⟩
 ·exact q.elim
variable {env:Env}{t1 t2 t3:TE}{r1 r2 r3:Mo D}
def dctD (d:D):Mo (List Key×List D):=match d.un with |.nd (.dct ks) ds=>.ok (ks,ds)|_=>.no
def getK (q:List Key×List D)(y z:D):Mo D:=match keyD y with |some k=>.ok ((valD q.1 q.2 k).getD z).vw |none=>.no
theorem zof_ (h1:EvX K t1 E env r1)(h2:EvX K t2 E env r2)(h3:EvX K t3 E env r3):EvX K (tDGet2 t1 t2 t3) E env (r1.bind λa=>(dctD a).bind λq=>r2.bind λy=>r3.bind λz=>getK q y z):=by
 intro σ F H Q hL hs q;refine ex_v h1 σ F H _ hL hs (q.bind.imp λd F1 H1 x1 k1 v hv=>?_)
 have hd:=DR.un hv;unfold dctD at k1;split at k1
 rotate_left
 ·exact k1.elim
 rename_i ks ds e
 rw[e]at hd;obtain⟨a,us,rfl,n,r⟩:=hd.nd;refine⟨a,rfl,.inl ⟨_,zaU_ x1.2.1 n.1⟩,?_⟩;refine ex_v h2 σ F1 H1 _ (hL.mono x1.1) x1.2.1 (After.imp (After.bind (show After K (r2.bind λy=>r3.bind λz=>getK (ks,ds) y z) E F1 H1 (OwnK (owD K) H Q)from k1)) λy F2 H2 x2 k2 w hw=>?_)
 refine ex_v h3 σ F2 H2 _ (hL.mono (x1.1.trans x2.1)) x2.2.1 (After.imp (After.bind k2) λz F3 H3 x3 k3 u hu=>?_)
 unfold getK at k3;cases ek:keyD y with
 |none=>rw[ek]at k3;exact k3.elim
 |some k=>
  rw[ek]at k3;have hb:=(x1.2.2.1.trans x2.2.2.1).trans x3.2.2.1;refine⟨_,.inl ⟨_,k,zaU_ ((x2.1.trans x3.1).trans x3.2.1) n.1,(zjT_ ek hw).2,rfl⟩,?_⟩;rcases zm4_ (k:=k) (ks:=ks) (r.mono (x2.1.trans x3.1))with⟨g1,g2⟩|⟨d',v',g1,g2,g3⟩
  ·rw[g2]
   refine gotV (d:=z) (After.imp (show After K (.ok z.vw) E F3 H3 (OwnK (owD K) H Q)from ?_) λa F4 H4 x4 k4=>k4.back hb) x3.2.1 hu
   have:=k3;dsimp only at this;rw[g1]at this;exact this
  ·rw[g2]
   refine gotV (d:=d') (After.imp (show After K (.ok d'.vw) E F3 H3 (OwnK (owD K) H Q)from ?_) λa F4 H4 x4 k4=>k4.back hb) x3.2.1 g3
   have:=k3;dsimp only at this;rw[g1]at this;exact this
end
structure Gi where
 cs:List Str
 kt:List (Str×List (List Nat)):=[]
structure Gi.Ok (G:Gi)(K:jl):Prop where
 cs:G.cs≠[]
 kt:∀q∈G.kt,SqU K (gA K q.1) (q.2.map tx)
inductive Bo where
 |add |sub |mul |mod |div |lt |gt |eq |ne |is |isn |inn |nin |ix |ned |ltT
inductive Bf where
 |len |list |int |sortU |tupl
inductive Sm where
 |join |index
inductive Ik where
 |any |r1
inductive X where
 |v (i:Nat)|k (d:D)|g (x:Str) (d:D)
 |gt (x:Str) (ls:List (List Nat))
 |bin (o:Bo) (a b:X)
 |and (a b:X)|or (a b:X)|not (a:X)|ifx (c a b:X)
 |sl (a:X) (lo hi:Option X)
 |tup (as:List X)|lst (as:List X)
 |fld (a:X) (f:Str)
 |call (f:Fn) (x:Str) (as:List X)
 |bf (o:Bf) (as:List X)
 |sm (o:Sm) (a:X) (as:List X)
 |comp (lv:List Str) (fr:List (Str×Nat)) (ik:Ik) (src:List X) (tg:Tg) (c:Option X) (e:X)
 |make (f:Fn) (c:Str) (as:List X)
 |meth (ms:List (Str×Fn)) (a:X) (m:Str) (as:List X)
 |ds1 (k v:X)
 |get (a w z:X)
 |isa (a:X) (n:String)|dct0
def Bo.r (K:jl):Bo->R2
 |.add=>mAddA K |.sub=>mSub |.mul=>mMulX |.mod=>mMod |.div=>mDivG
 |.lt=>mLt |.gt=>mGt |.eq=>mEqA K |.ne=>mNeA K |.is=>mIs |.isn=>mIsNot
 |.inn=>rInA K qL |.nin=>rInA K qK |.ix=>rIxA K |.ned=>mNeDL K |.ltT=>mTxt λi j=>decide (i<j)
def Bo.f:Bo->D->D->Mo D
 |.add=>addA |.sub=>subD |.mul=>mulD |.mod=>modD |.div=>divD
 |.lt=>ltD |.gt=>gtD |.eq=>eqD qL |.ne=>eqD qK |.is=>isD qL |.isn=>isD qK
 |.inn=>inA qL |.nin=>inA qK |.ix=>ixA |.ned=>nedD |.ltT=>txtD λi j=>decide (i<j)
def Bf.r (K:jl):Bf->List V->Hp->VK->Prop
 |.len=>mLenA K |.list=>mListA K |.int=>mIntC |.sortU=>mSortU K |.tupl=>mTupl K
def Bf.f:Bf->List D->Mo D
 |.len=>lenA |.list=>listA |.int=>intB |.sortU=>srtU |.tupl=>tuplD
def Sm.r (K:jl):Sm->V->List V->Hp->VK->Prop
 |.join=>mJoin K |.index=>mIndex
def Sm.f:Sm->List Nat->List D->Mo D
 |.join=>joinD |.index=>indexD
def Ik.w (K:jl):Ik->List V->L2.St->Hp->(It->Hp->Prop)->Prop
 |.any=>iAnyW K
 |.r1=>λvs _ H1 R=>match vs with |[.int j] => -(2 ^ 62)<=j/\j<2 ^ 62/\R (Itr 0 j.toNat) H1 |_=>False
def Ik.t (K:jl)(o:Ik)(ta:TA):TI:=λσ H R=>ta σ H λvs H1=>o.w K vs σ H1 R
def Ik.f:Ik->List D->Mo (List D)
 |.any=>walkA |.r1=>rng1D
theorem ik_w {K:jl}{E:XK}(o:Ik):WkW K E (o.w K) o.f:=by
 cases o with
 |any=>exact w_any
 |r1=>exact w_rg1
theorem ik_ok {K:jl}{E:XK}{env:Env}{ta:TA}{ra:Mo (List D)}(o:Ik)(h:EvAs K ta E env ra):EvI K (o.t K ta) E (Lof K env) (ra.bind o.f) (tyD K):=ei_w (ik_w o) h
section
variable (K:jF)(G:Gi)
mutual
def X.den:XK->X->TE
 |_,.v i=>mVar i
 |_,.k d=>tC (d.flat?.getD .non)
 |_,.g _ d=>tC (d.flat?.getD .non)
 |_,.gt x _=>tC (.ref (gA K x))
 |E,.bin o a b=>tOp (o.r K) (a.den E) (b.den E)
 |E,.and a b=>mAndV (a.den E) (b.den E)
 |E,.or a b=>mOrV (a.den E) (b.den E)
 |E,.not a=>mNotV (a.den E)
 |E,.ifx c a b=>mIf (mTest (c.den E)) (a.den E) (b.den E)
 |E,.sl a lo hi=>tSl (mSlA K) (a.den E) (X.denO E lo) (X.denO E hi)
 |E,.tup as=>tTup (X.dens E as)
 |E,.lst as=>tLst (X.dens E as)
 |E,.fld a f=>tFld K G.cs (a.den E) f
 |E,.call f _ as=>tCall (CtG K f) [] E (X.dens E as)
 |E,.bf o as=>tCB (o.r K) (X.dens E as)
 |E,.sm o a as=>tBM K "str" (o.r K) (a.den E) (X.dens E as)
 |E,.comp lv fr ik src tg c e=>tComp lv fr (ik.t K (X.dens E src)) (tgT K tg) (X.denT E0 c) (e.den E0)
 |E,.make f c as=>tMake (gA K c) (CtG K f) [] E (X.dens E as)
 |E,.meth ms a m as=>tMethA K ms m E (a.den E) (X.dens E as)
 |E,.ds1 a0 b0=>tDisp [(a0.den E,b0.den E)]
 |E,.get a w z=>tDGet2 (a.den E) (w.den E) (z.den E)
 |E,.isa a n=>tCB (mIsaV K) (tCons (a.den E) (tCons (tC (.ty n)) tNil))
 |_,.dct0=>tDNewK
def X.dens:XK->List X->TA
 |_,[]=>tNil
 |E,a::as=>tCons (a.den E) (X.dens E as)
def X.denO:XK->Option X->TO
 |_,qJ=>tNoPart
 |E,qI a=>mPart (a.den E)
def X.denT:XK->Option X->TT
 |_,qJ=>tTrue
 |E,qI a=>mTest (a.den E)
end
end
section
variable (G:Gi)
mutual
def X.ev:Env->X->Mo D
 |env,.v i=>getE env i
 |_,.k d=>if d.flat?.isSome then .ok d else .no
 |_,.g _ d=>if d.flat?.isSome then .ok d else .no
 |_,.gt x ls=>if(x,ls)∈G.kt then .ok (.nd .ktup (ls.map .str))else .no
 |env,.bin o a b=>(a.ev env).bind λx=>(b.ev env).bind λy=>o.f x y
 |env,.and a b=>(a.ev env).bind λx=>andD x (b.ev env)
 |env,.or a b=>(a.ev env).bind λx=>orD x (b.ev env)
 |env,.not a=>(a.ev env).bind λx=>(blD x).bind λb=>.ok (.bl (!b))
 |env,.ifx c a b=>((c.ev env).bind blD).bind λt=>if t then a.ev env else b.ev env
 |env,.sl a lo hi=>(a.ev env).bind λx=>(X.evO env lo).bind λl=>(X.evO env hi).bind λh=>slA x l h
 |env,.tup as=>(X.evs env as).bind λds=>.lim ds.length (.ok (.nd .tup ds))
 |env,.lst as=>(X.evs env as).bind λds=>.lim ds.length (.ok (.nd .lst ds))
 |env,.fld a f=>(a.ev env).bind (fldD G.cs f)
 |env,.call f _ as=>(X.evs env as).bind λds=>f.val (ds.map .vw)
 |env,.bf o as=>(X.evs env as).bind o.f
 |env,.sm o a as=>(a.ev env).bind λd=>(strOf d).bind λl=>(X.evs env as).bind λc=>o.f l c
 |env,.comp lv fr ik src tg c e=>if tg.is.all (·<lv.length)then(((X.evs env src).bind ik.f).bind λl=>.opt (tgsD tg l)).bind λxs=>(compM (λx=>cond1 (X.evT (setE (cE lv fr env) tg.is x) c) (e.ev (setE (cE lv fr env) tg.is x))) xs []).bind λys=>.ok (.nd .lst ys)else .no
 |env,.make f c as=>(X.evs env as).bind (makeD f c)
 |env,.meth ms a m as=>if ms.isEmpty then .no else(a.ev env).bind λd=>methD ms m d (X.evs env as)
 |env,.ds1 a0 b0=>(a0.ev env).bind λa=>(b0.ev env).bind λb=>dspD [a,b]
 |env,.get a w z=>(a.ev env).bind λx=>(dctD x).bind λq=>(w.ev env).bind λy=>(z.ev env).bind λz=>getK q y z
 |env,.isa a n=>(a.ev env).bind (isaD n)
 |_,.dct0=>.ok (.nd (.dct []) [])
def X.evs:Env->List X->Mo (List D)
 |_,[]=>.ok []
 |env,a::as=>(a.ev env).bind λd=>(X.evs env as).bind λds=>.ok (d::ds)
def X.evO:Env->Option X->Mo (Option Int)
 |_,qJ=>.ok qJ
 |env,qI a=>(a.ev env).bind λd=>(intD d).bind λi=>.ok (qI i)
def X.evT:Env->Option X->Mo Bool
 |_,qJ=>.ok qK
 |env,qI a=>(a.ev env).bind blD
end
end
section
variable {K:jF}{E:XK}{env:Env}{G:Gi}
theorem bo_ok (o:Bo):Op2D K (o.r K) E o.f:=by
 cases o with
 |add=>exact zl7_
 |sub=>exact zpt_
 |mul=>exact znK_
 |mod=>exact zno_
 |div=>exact zpn_
 |lt=>exact od_lt
 |gt=>exact od_gt
 |eq=>exact od_eq
 |ne=>exact od_ne
 |is=>exact od_is
 |isn=>exact znX_
 |inn=>exact zjY_
 |nin=>exact zjY_
 |ix=>exact zpy_
 |ned=>exact zoB_
 |ltT=>exact zok_
theorem bf_ok (o:Bf):BlD K (o.r K) E o.f:=by
 cases o with
 |len=>exact zkN_
 |list=>exact zid_
 |int=>exact znW_
 |sortU=>exact zjj_
 |tupl=>exact zlS_
theorem sm_ok (o:Sm):MeD K (o.r K) E o.f:=by
 cases o with
 |join=>exact zmd_
 |index=>exact zjd_
theorem ex_k {d:D}(i:Str):EvX K (tC (d.flat?.getD .non)) E env (if d.flat?.isSome then .ok d else .no):=by
 cases e:d.flat? with
 |none=>exact λσ F H Q hL hs q=>q.elim
 |some v=>
  intro σ F H Q hL hs q;have q:After K (.ok d) E F H (OwnK (owD K) H Q):=q;show Q v H
  cases d with
  |non=>cases e;exact gotN q hs
  |bl=>cases e;exact gotB q hs
  |int=>cases e;exact gotI q hs
  |str=>cases e;exact gotS q hs
  |_=>cases e
theorem zf1_:∀ls:List (List Nat),D.imms (ls.map .str)=qK
 |[]=>rfl
 |l::ls=>by rw[iN];unfold D.imms;rw[zf1_ ls];rfl
mutual
theorem X.sound (g0:G.Ok K):∀(x:X) (E:XK) (env:Env),EvX K (x.den K G E) E env (x.ev G env)
 |.v i,E,env=>znp_ i
 |.k d,E,env=>ex_k ""
 |.g x d,E,env=>ex_k x
 |.gt x ls,E,env=>by
  show EvX K _ E env (if _ then _ else _)
  by_cases h:(x,ls)∈G.kt
  ·rw[if_pos h]
   exact ex_c (λF=>by unfold DR;exact⟨_,_,rfl,g0.kt _ h,zhK_ ls⟩) (by unfold D.imm;exact zf1_ ls)
  ·rw[if_neg h];exact λσ F H Q hL hs q=>q.elim
 |.bin o a b,E,env=>ex_op (bo_ok o) (X.sound g0 a E env) (X.sound g0 b E env)
 |.and a b,E,env=>zpi_ (X.sound g0 a E env) (X.sound g0 b E env)
 |.or a b,E,env=>ex_or (X.sound g0 a E env) (X.sound g0 b E env)
 |.not a,E,env=>zoZ_ (X.sound g0 a E env)
 |.ifx c a b,E,env=>ex_if (zea_ (X.sound g0 c E env)) (X.sound g0 a E env) (X.sound g0 b E env)
 |.sl a lo hi,E,env=>znb_ (X.sound g0 a E env) (X.soundO g0 lo E env) (X.soundO g0 hi E env)
 |.tup as,E,env=>zod_ (X.sounds g0 as E env)
 |.lst as,E,env=>zor_ (X.sounds g0 as E env)
 |.fld a f,E,env=>zpL_ g0.cs (X.sound g0 a E env)
 |.call f x as,E,env=>zmx_ (X.sounds g0 as E env)
 |.bf o as,E,env=>ex_cb (bf_ok o) (X.sounds g0 as E env)
 |.sm o a as,E,env=>ex_me (sm_ok o) (X.sound g0 a E env) (X.sounds g0 as E env)
 |.comp lv fr ik src tg c e,E,env=>by
  show EvX K _ E env (if _ then _ else _)
  split
  ·rename_i h
   exact zkf_ (ik_ok ik (X.sounds g0 src E env)) (λi hi=>by simpa using km.mp h i hi) (λa=>X.soundT g0 c E0 _) (λa=>X.sound g0 e E0 _)
  ·exact λσ F H Q hL hs q=>q.elim
 |.make f c as,E,env=>zlm_ (X.sounds g0 as E env)
 |.meth ms a m as,E,env=>by
  show EvX K _ E env (if _ then _ else _)
  split
  ·exact λσ F H Q hL hs q=>q.elim
  ·rename_i h;exact zlU_ (λe=>h (by rw[e];rfl)) (X.sound g0 a E env) (X.sounds g0 as E env)
 |.get a w z,E,env=>zof_ (X.sound g0 a E env) (X.sound g0 w E env) (X.sound g0 z E env)
 |.isa a n,E,env=>zos_ n (X.sound g0 a E env)
 |.ds1 a0 b0,E,env=>by
  have:=zl1_ (trs:=[(_,_)]) (zds_ (X.sound g0 a0 E env) (zds_ (X.sound g0 b0 E env) zhn_));simp only[Mo.bind_assoc]at this;exact this
 |.dct0,E,env=>zki_
theorem X.sounds (g0:G.Ok K):∀(as:List X) (E:XK) (env:Env),EvAs K (X.dens K G E as) E env (X.evs G env as)
 |[],E,env=>zhn_
 |a::as,E,env=>zds_ (X.sound g0 a E env) (X.sounds g0 as E env)
theorem X.soundO (g0:G.Ok K):∀(a:Option X) (E:XK) (env:Env),EvP K (X.denO K G E a) E (Lof K env) (X.evO G env a)
 |none,E,env=>ep_no
 |some a,E,env=>ep_x (X.sound g0 a E env)
theorem X.soundT (g0:G.Ok K):∀(a:Option X) (E:XK) (env:Env),EvT K (X.denT K G E a) E (Lof K env) (X.evT G env a)
 |none,E,env=>zmz_
 |some a,E,env=>zea_ (X.sound g0 a E env)
end
end
mutual
def X.uses:X->List Nat
 |.v i=>[i]
 |.k _=>[]
 |.g _ _=>[]
 |.gt _ _=>[]
 |.bin _ a b=>a.uses++b.uses
 |.and a b=>a.uses++b.uses
 |.or a b=>a.uses++b.uses
 |.not a=>a.uses
 |.ifx c a b=>c.uses++a.uses++b.uses
 |.sl a lo hi=>a.uses++X.usesO lo++X.usesO hi
 |.tup as=>X.usesL as
 |.lst as=>X.usesL as
 |.fld a _=>a.uses
 |.call _ _ as=>X.usesL as
 |.bf _ as=>X.usesL as
 |.sm _ a as=>a.uses++X.usesL as
 |.comp _ fr _ src _ _ _=>X.usesL src++fr.map (·.2)
 |.make _ _ as=>X.usesL as
 |.meth _ a _ as=>a.uses++X.usesL as
 |.get a w z=>a.uses++w.uses++z.uses
 |.isa a _=>a.uses
 |.ds1 a0 b0=>a0.uses++b0.uses
 |.dct0=>[]
def X.usesL:List X->List Nat
 |[]=>[]
 |a::as=>a.uses++X.usesL as
def X.usesO:Option X->List Nat
 |none=>[]
 |some a=>a.uses
end
def Alike (is:List Nat)(e e':Env):Prop:=∀i∈is,getE e i=getE e' i
theorem Alike.l {is js:List Nat}{e e':Env}(h:Alike (is++js) e e'):Alike is e e':=λi hi=>h i (kg _ hi)
theorem Alike.r {is js:List Nat}{e e':Env}(h:Alike (is++js) e e'):Alike js e e':=λi hi=>h i (i8 _ hi)
section
variable {G:Gi}
theorem zmh_ {lv:List Str}{fr:List (Str×Nat)}{e e':Env}(h:Alike (fr.map (·.2)) e e')(j:Nat):getE (cE lv fr e) j=getE (cE lv fr e') j:=by
 unfold cE;by_cases hj:j<lv.length
 ·unfold getE
  rw[jS (by rw[gf];exact hj),jS (by rw[gf];exact hj)]
 ·have hj:=oV hj
  have key:∀e:Env,getE (lv.map (λ_=>qJ)++fr.map λq=>(e[q.2]?).join) j=match fr[j-lv.length]? with |some q=>getE e q.2 |none=>.no:=λe=>by
   unfold getE;rw[jy (by rw[gf];exact hj),gf,iS]
   cases fr[j-lv.length]? with
   |none=>rfl
   |some q=>
    rw[Option.map_some];dsimp only;cases e[q.2]? with |none=>rfl |some o=>cases o<;>rfl
  rw[key,key];cases z:fr[j-lv.length]? with
  |none=>rfl
  |some q=>exact h q.2 (jV.mpr ⟨q,kj z,rfl⟩)
theorem ziO_ {e e':Env}{i:Nat}{o:Option D}(hl:e.length=e'.length)(h:∀j,getE e j=getE e' j)(j:Nat):getE (e.set i o) j=getE (e'.set i o) j:=by
 by_cases hj:i=j
 ·subst hj
  unfold getE;rw[jW,jW,if_pos rfl,if_pos rfl,hl]
 ·have:=h j
  unfold getE at this ⊢;rw[ji hj,ji hj];exact this
theorem zd5_:∀{is:List Nat}{ds:List D}{e e':Env},e.length=e'.length->(∀j,getE e j=getE e' j)->∀j,getE (setE e is ds) j=getE (setE e' is ds) j
 |[],_,_,_,_,h=>h
 |_::_,[],_,_,_,h=>h
 |i::is,d::ds,e,e',hl,h=>λj=>zd5_ (is:=is) (ds:=ds) (e:=e.set i (qI d.vw)) (e':=e'.set i (qI d.vw)) (by rw[jO,jO,hl]) (ziO_ hl h) j
theorem zoP_ {lv:List Str}{fr:List (Str×Nat)}{e e':Env}:(cE lv fr e).length=(cE lv fr e').length:=by unfold cE;simp
mutual
theorem X.ev_uses:∀(x:X) {e e':Env},Alike x.uses e e'->x.ev G e=x.ev G e'
 |.v i,e,e',h=>h i (List.mem_singleton_self _)
 |.k d,e,e',h=>rfl
 |.g x d,e,e',h=>rfl
 |.gt x ls,e,e',h=>rfl
 |.bin o a b,e,e',h=>by show Mo.bind _ _=Mo.bind _ _;rw[X.ev_uses a h.l,X.ev_uses b h.r]
 |.and a b,e,e',h=>by show Mo.bind _ _=Mo.bind _ _;rw[X.ev_uses a h.l,X.ev_uses b h.r]
 |.or a b,e,e',h=>by show Mo.bind _ _=Mo.bind _ _;rw[X.ev_uses a h.l,X.ev_uses b h.r]
 |.not a,e,e',h=>by show Mo.bind _ _=Mo.bind _ _;rw[X.ev_uses a h]
 |.ifx c a b,e,e',h=>by show Mo.bind _ _=Mo.bind _ _;rw[X.ev_uses c h.l.l,X.ev_uses a h.l.r,X.ev_uses b h.r]
 |.sl a lo hi,e,e',h=>by show Mo.bind _ _=Mo.bind _ _;rw[X.ev_uses a h.l.l,X.evO_uses lo h.l.r,X.evO_uses hi h.r]
 |.tup as,e,e',h=>by show Mo.bind _ _=Mo.bind _ _;rw[X.evs_uses as h]
 |.lst as,e,e',h=>by show Mo.bind _ _=Mo.bind _ _;rw[X.evs_uses as h]
 |.fld a f,e,e',h=>by show Mo.bind _ _=Mo.bind _ _;rw[X.ev_uses a h]
 |.call f x as,e,e',h=>by show Mo.bind _ _=Mo.bind _ _;rw[X.evs_uses as h]
 |.bf o as,e,e',h=>by show Mo.bind _ _=Mo.bind _ _;rw[X.evs_uses as h]
 |.sm o a as,e,e',h=>by show Mo.bind _ _=Mo.bind _ _;rw[X.ev_uses a h.l,X.evs_uses as h.r]
 |.comp lv fr ik src tg c x,e,e',h=>by
  show(if _ then Mo.bind _ _ else _)=(if _ then Mo.bind _ _ else _)
  rw[X.evs_uses src h.l];have g:∀ds j,getE (setE (cE lv fr e) tg.is ds) j=getE (setE (cE lv fr e') tg.is ds) j:=λds=>zd5_ zoP_ (zmh_ h.r)
  have g1:∀ds,X.evT G (setE (cE lv fr e) tg.is ds) c=X.evT G (setE (cE lv fr e') tg.is ds) c:=λds=>X.evT_uses c λi _=>g ds i
  have g2:∀ds,x.ev G (setE (cE lv fr e) tg.is ds)=x.ev G (setE (cE lv fr e') tg.is ds):=λds=>X.ev_uses x λi _=>g ds i
  have g3:(λds=>cond1 (X.evT G (setE (cE lv fr e) tg.is ds) c) (x.ev G (setE (cE lv fr e) tg.is ds)))=λds=>cond1 (X.evT G (setE (cE lv fr e') tg.is ds) c) (x.ev G (setE (cE lv fr e') tg.is ds)):=funext λds=>by rw[g1,g2]
  rw[g3]
 |.make f c as,e,e',h=>by show Mo.bind _ _=Mo.bind _ _;rw[X.evs_uses as h]
 |.meth ms a m as,e,e',h=>by show(if _ then _ else Mo.bind _ _)=(if _ then _ else Mo.bind _ _);rw[X.ev_uses a h.l,X.evs_uses as h.r]
 |.get a w z,e,e',h=>by show Mo.bind _ _=Mo.bind _ _;rw[X.ev_uses a h.l.l,X.ev_uses w h.l.r,X.ev_uses z h.r]
 |.isa a n,e,e',h=>by show Mo.bind _ _=Mo.bind _ _;rw[X.ev_uses a h]
 |.ds1 a0 b0,e,e',h=>by show Mo.bind _ _=Mo.bind _ _;rw[X.ev_uses a0 h.l,X.ev_uses b0 h.r]
 |.dct0,e,e',h=>rfl
theorem X.evs_uses:∀(as:List X) {e e':Env},Alike (X.usesL as) e e'->X.evs G e as=X.evs G e' as
 |[],e,e',h=>rfl
 |a::as,e,e',h=>by show Mo.bind _ _=Mo.bind _ _;rw[X.ev_uses a h.l,X.evs_uses as h.r]
theorem X.evO_uses:∀(a:Option X) {e e':Env},Alike (X.usesO a) e e'->X.evO G e a=X.evO G e' a
 |none,e,e',h=>rfl
 |some a,e,e',h=>by show Mo.bind _ _=Mo.bind _ _;rw[X.ev_uses a h]
theorem X.evT_uses:∀(a:Option X) {e e':Env},Alike (X.usesO a) e e'->X.evT G e a=X.evT G e' a
 |none,e,e',h=>rfl
 |some a,e,e',h=>by show Mo.bind _ _=Mo.bind _ _;rw[X.ev_uses a h]
end
end
mutual
noncomputable def D.cold:D->Bool
 |.nd .tup ds=>D.colds ds
 |.nd .ktup ds=>D.colds ds
 |.nd _ _=>qL
 |_=>qK
noncomputable def D.colds:List D->Bool
 |[]=>qK
 |d::ds=>d.cold && D.colds ds
end
section
variable {K:jF}{E:XK}{F F' F0 F1 F2 H0 h h1 h2 h3 k H H' H1 H2:Hp}{d:D}{ds:List D}{v:V}{us vs:List V}{p:iQ}{Q:VK}{env:Env}{t:TE}{ws:Ws}{σ:L2.St}{G:Gi}
theorem OD.cold:∀{d:D}{v:V}{h:Hp},d.cold=qK->OD K d v F h->(∀p,h p=qJ)/\DR K d v F
 |.nd .tup ds,_,h,z,q=>by
  unfold D.cold at z;unfold OD at q;obtain⟨p,us,h0,h2,e,c,j,r⟩:=q;obtain⟨n,r⟩:=go z r;refine⟨λp=>?_,by unfold DR;exact⟨p,us,e,c.1,r⟩⟩
  rcases j p with⟨_,y⟩|⟨_,y⟩
  ·rw[y,n]
  ·rw[y,c.2]
 |.nd .ktup ds,_,h,z,q=>by
  unfold D.cold at z;unfold OD at q;obtain⟨p,us,h0,h2,e,c,j,r⟩:=q;obtain⟨n,r⟩:=go z r;refine⟨λp=>?_,by unfold DR;exact⟨p,us,e,c.1,r⟩⟩
  rcases j p with⟨_,y⟩|⟨_,y⟩
  ·rw[y,n]
  ·rw[y,c.2]
 |.nd .lst _,_,_,z,_=>by simp[D.cold]at z
 |.nd .scr _,_,_,z,_=>by simp[D.cold]at z
 |.nd (.dct _) _,_,_,z,_=>by simp[D.cold]at z
 |.nd (.obj _ _) _,_,_,z,_=>by simp[D.cold]at z
 |.non,_,_,_,q=>by unfold OD at q;exact q
 |.bl _,_,_,_,q=>by unfold OD at q;exact q
 |.int _,_,_,_,q=>by unfold OD at q;exact q
 |.str _,_,_,_,q=>by unfold OD at q;exact q
 |.fz _,_,_,_,q=>by unfold OD at q;exact q
 |.pin _,_,_,_,q=>by unfold OD at q;exact q
 |.gone,_,_,_,q=>by unfold OD at q;exact q
where go:∀{ds:List D}{us:List V}{h:Hp},D.colds ds=qK->ODs K ds us F h->(∀p,h p=qJ)/\DRs K ds us F
 |[],_,_,_,q=>by unfold ODs at q;exact⟨q.2,by unfold DRs;exact q.1⟩
 |d::ds,_,h,z,q=>by
  unfold D.colds at z;obtain⟨z1,z2⟩:=jE.mp z;unfold ODs at q;obtain⟨v,vs,h1,h2,e,j,a,r⟩:=q;obtain⟨n1,a⟩:=OD.cold z1 a;obtain⟨n2,r⟩:=go z2 r;refine⟨λp=>?_,by unfold DRs;exact⟨v,vs,e,a,r⟩⟩
  rcases j p with⟨_,y⟩|⟨_,y⟩
  ·rw[y,n2]
  ·rw[y,n1]
theorem zdK_:∀{d:D},d.imm=qK->d.cold=qK
 |.nd .tup ds,z=>by unfold D.imm at z;unfold D.cold;exact go z
 |.nd .ktup ds,z=>by unfold D.imm at z;unfold D.cold;exact go z
 |.nd .lst _,z=>by simp[D.imm]at z
 |.nd .scr _,z=>by simp[D.imm]at z
 |.nd (.dct _) _,z=>by simp[D.imm]at z
 |.nd (.obj _ _) _,z=>by simp[D.imm]at z
 |.non,_=>rfl
 |.bl _,_=>rfl
 |.int _,_=>rfl
 |.str _,_=>rfl
 |.fz _,_=>rfl
 |.pin _,_=>rfl
 |.gone,_=>rfl
where go:∀{ds:List D},D.imms ds=qK->D.colds ds=qK
 |[],_=>rfl
 |d::ds,z=>by
  unfold D.imms at z;obtain⟨z1,z2⟩:=jE.mp z;unfold D.colds;rw[zdK_ z1,go z2];rfl
theorem zly_ (d:D):d.vw.cold=qK:=by
 unfold D.vw;split
 ·exact zdK_ (by assumption)
 ·split<;>rfl
theorem vw_vw (d:D):d.vw.vw=d.vw:=by
 unfold D.vw;by_cases h:d.imm=qK
 ·rw[if_pos h,if_pos h]
 ·rw[if_neg h]
  cases d with
  |fz d=>dsimp only;rw[if_neg h]
  |_=>dsimp only;rw[if_neg (by unfold D.imm;exact h)]
theorem za4_ (ok:Okk F0 H0 F1 h H1)(j:Jn k h2 h)(aj:Okk F1 (less H1 h2) F2 h3 H2):Same F1 F2/\Dj k h3/\Okk F0 H0 F2 (un k h3) H2:=by
 obtain⟨x,d,s,fr,nt⟩:=ok;obtain⟨x2,d2,s2,dG,nt2⟩:=aj;have kh:∀p,k p≠qJ->(less H1 h2) p≠qJ:=λp z=>by
  cases y:k p with
  |none=>exact absurd y z
  |some o=>
   have n2:h2 p=qJ:=by
    rcases j.dj p with w |w
    ·rw[w]at y;cases y
    ·exact w
   rw[zaN_ n2,s _ _ (j.l _ _ y)];exact sN _
 have dk:Dj k h3:=λp=>by
  cases y:k p with
  |none=>exact .inl rfl
  |some o=>
   right;cases w:h3 p with
   |none=>rfl
   |some o'=>exact absurd (dG p (by rw[w];exact sN _)) (kh p (by rw[y];exact sN _))
 have fj:Same H0 (less H1 h2):=λp o e=>by
  have n2:h2 p=qJ:=by
   cases w:h2 p with
   |none=>rfl
   |some o'=>have:=fr p (by rw[j.r _ _ w];exact sN _);rw[this]at e;cases e
  rw[zaN_ n2];exact x.2.2.1 _ _ e
 refine⟨x2.1,dk,⟨x.1.trans x2.1,x2.2.1,fj.trans x2.2.2.1,λp a b=>?_⟩,λp=>?_,λp o e=>?_,λp z=>?_,λp xs e=>?_⟩
 ·cases y:F1 p with
  |some o=>exact x.2.2.2 p a (by rw[y];exact sN _)
  |none=>exact fj.free (x2.2.2.2 p y b)
 ·unfold un
  cases y:k p with
  |none=>exact d2 p
  |some o=>
   left;cases w:F2 p with
   |none=>rfl
   |some o'=>
    have n1:F1 p=qJ:=by
     rcases d p with z |z
     ·exact z
     ·rw[j.l _ _ y]at z;cases z
    exact absurd (x2.2.2.2 p n1 (by rw[w];exact sN _)) (kh p (by rw[y];exact sN _))
 ·unfold un at e
  cases y:k p with
  |none=>rw[y]at e;exact s2 _ _ e
  |some o'=>
   rw[y]at e;cases e;refine x2.2.2.1 _ _ ?_;have n2:h2 p=qJ:=by
    rcases j.dj p with w |w
    ·rw[w]at y;cases y
    ·exact w
   rw[zaN_ n2];exact s _ _ (j.l _ _ y)
 ·unfold un at z
  cases y:k p with
  |none=>rw[y]at z;exact fj.free (dG p z)
  |some o=>exact fr p (by rw[j.l _ _ y];exact sN _)
 ·unfold un at e
  cases y:k p with
  |none=>rw[y]at e;exact nt2 p xs e
  |some o=>rw[y]at e;cases e;exact nt p xs (j.l _ _ y)
theorem zfH_ (ok:Okk F0 H0 F1 h H1)(j:Jn k h2 h):Okk F1 (less H1 h2) F1 h2 H1:=
 zbD_ ok.1.2.1 (dj_r ok.2.1 j) (j.r.trans ok.2.2.1) λp xs e=>ok.2.2.2.2 p xs (j.r _ _ e)
theorem zce_ {c:Xc}(ok:Okk F0 H0 F1 h H1)(j:Jn k h2 h)(t:Tell K E c H0 F2 H2):Tell K E c (less H1 h2) F2 H2:=by
 refine t.up λp o e=>?_
 have n2:h2 p=qJ:=by
  cases w:h2 p with
  |none=>rfl
  |some o'=>have:=ok.2.2.2.1 p (by rw[j.r _ _ w];exact sN _);rw[this]at e;cases e
 rw[zaN_ n2];exact ok.1.2.2.1 _ _ e
def frz1 (env:Env)(i:Nat):Env:=match env[i]? with |some (qI d)=>env.set i (qI d.vw)|_=>env
def frzE (env:Env)(is:List Nat):Env:=is.foldl frz1 env
theorem zgL_ {i:Nat}(hL:Hold (LofW K ws env) σ F h)(ok:Okk F0 H0 F h H):∃F' h',Hold (LofW K ws (frz1 env i)) σ F' h'/\Okk F0 H0 F' h' H:=by
 unfold frz1;split
 ·rename_i d hi
  obtain⟨o,k1,k2,e1,j,pp,f⟩:=Hold.atG hL (zaO_ hi);obtain⟨v,rfl,hv,od⟩:=zbN_ pp;obtain⟨o1,o2,o3,o4,o5⟩:=ok;have d1:DR K d v (un F k1):=OD.view zaC_ (zdu_ (dj_l o2 j)) od;refine⟨un F k1,k2,?_,⟨o1.1.trans zaC_,λp o e=>?_,o1.2.2.1,λp a b=>?_⟩,λp=>?_,j.r.trans o3,λp z=>?_,λp xs e=>o5 p xs (j.r _ _ e)⟩
  ·have:=f (slotW K (ws i) (qI d.vw)) (qI v) (un F k1) (λ_=>qJ) k2 zaC_ (zcc_ hv (OD.vw (λ_=>rfl) d1)) λp=>.inl ⟨rfl,rfl⟩
   rw[zcJ_,zcO_ e1]at this;exact this
  ·unfold un at e
   cases z:F p with
   |some w=>rw[z]at e;cases e;exact o1.2.1 _ _ z
   |none=>rw[z]at e;exact o3 _ _ (j.l _ _ e)
  ·unfold un at b
   cases z:F p with
   |some w=>exact o1.2.2.2 p a (by rw[z];exact sN _)
   |none=>
    rw[z]at b;cases y:k1 p with
    |none=>exact absurd y b
    |some w=>exact o4 p (by rw[j.l _ _ y];exact sN _)
  ·unfold un
   cases z:F p with
   |some w=>
    rcases dj_r o2 j p with y |y
    ·rw[y]at z;cases z
    ·exact .inr y
   |none=>exact j.dj p
  ·cases y:k2 p with
   |none=>exact absurd y z
   |some w=>exact o4 p (by rw[j.r _ _ y];exact sN _)
 ·exact⟨F,h,hL,ok⟩
theorem zfP_:∀(is:List Nat) {env:Env}{F h:Hp},Hold (LofW K ws env) σ F h->Okk F0 H0 F h H->∃F' h',Hold (LofW K ws (frzE env is)) σ F' h'/\Okk F0 H0 F' h' H
 |[],env,F,h,hL,ok=>⟨F,h,hL,ok⟩
 |i::is,env,F,h,hL,ok=>by
  obtain⟨F1,h1,a,b⟩:=zgL_ (i:=i) hL ok;exact zfP_ is a b
theorem zg4_ (env:Env)(i j:Nat):getE (frz1 env i) j=getE env j:=by
 unfold frz1;split
 ·rename_i d hi
  unfold getE;by_cases e:i=j
  ·subst e;rw[kq (i6.mp hi).1,hi];dsimp only;rw[vw_vw]
  ·rw[ji e]
 ·rfl
theorem zeK_:∀(is:List Nat) (env:Env) (j:Nat),getE (frzE env is) j=getE env j
 |[],_,_=>rfl
 |i::is,env,j=>(zeK_ is (frz1 env i) j).trans (zg4_ env i j)
def coldE (env:Env):Env:=env.map λo=>o.bind λd=>if d.cold then qI d else qJ
def Cold (env:Env)(i:Nat):Prop:=∀d,env[i]?=qI (qI d)->d.cold=qK
theorem zdW_ {env:Env}{i j:Nat}(h:i=j\/Cold env j):Cold (frz1 env i) j:=by
 unfold frz1;split
 ·rename_i d hi
  intro d' e;by_cases z:i=j
  ·subst z;rw[kq (i6.mp hi).1]at e;cases e;exact zly_ d
  ·rw[ji z]at e
   rcases h with h |h
   ·exact absurd h z
   ·exact h d' e
 ·rename_i hi
  rcases h with h |h
  ·subst h;exact λd e=>absurd e (hi d)
  ·exact h
theorem zfW_:∀(is:List Nat) {env:Env}{j:Nat},(j∈is\/Cold env j)->Cold (frzE env is) j
 |[],env,j,h=>by rcases h with h |h;exact absurd h (by simp);exact h
 |i::is,env,j,h=>zfW_ is (by
  rcases h with h |h
  ·rcases ju.mp h with h |h
   ·exact .inr (zdW_ (.inl h.symm))
   ·exact .inl h
  ·exact .inr (zdW_ (.inr h)))
theorem zfC_ {i:Nat}(h:Cold env i):getE (coldE env) i=getE env i:=by
 unfold getE coldE;rw[iS];cases z:env[i]? with
 |none=>rfl
 |some o=>
  cases o with
  |none=>rfl
  |some d=>
   have:=h d z;simp[this]
theorem zeO_ (hL:Hold (LofW K ws env) σ F h):HoldF (Lof K (coldE env)) σ F:=by
 intro i s e;unfold coldE at e;rw[iS,iS]at e;cases z:env[i]? with
 |none=>rw[z]at e;cases e
 |some o=>
  rw[z]at e;cases e;cases o with
  |none=>trivial
  |some d=>
   by_cases c:d.cold=qK
   ·simp only[Option.bind,c,if_true]
    obtain⟨o,k1,k2,e1,j,pp,f⟩:=Hold.atG hL (zaO_ z);obtain⟨v,rfl,hv,od⟩:=zbN_ pp;rw[e1];exact⟨v,rfl,(OD.cold c od).2⟩
   ·simp only[Option.bind,c]
    trivial
def FinE (K:jl)(r:Mr Env D)(E:XK)(ws:Ws)(σ:L2.St)(F0 H0:Hp)(Q:VK):Prop:=match r with
 |.ok d env=>∀v F hr h2 h H,Hold (LofW K ws env) σ F h2->OD K d v F hr->Jn hr h2 h->Okk F0 H0 F h H->Q v H
 |.ex c env=>∀F h H,Hold (LofW K ws env) σ F h->Okk F0 H0 F h H->Tell K E c H0 F H
 |.no=>False
def EvE (K:jl)(t:TE)(E:XK)(ws:Ws)(env:Env)(r:Mr Env D):Prop:=
 ∀F0 H0 σ F h H (Q:VK),Hold (LofW K ws env) σ F h->Okk F0 H0 F h H->FinE K r E ws σ F0 H0 Q->t σ H Q
def FinK (K:jl)(r:Mr Env D)(E:XK)(ws:Ws)(σ:L2.St)(F0 H0 Hs:Hp)(Q:VK):Prop:=match r with
 |.ok d env=>∀v F hr h2 h H,Hold (LofW K ws env) σ F h2->OD K d v F hr->Jn hr h2 h->Okk F0 H0 F h H->Same Hs H->Q v H
 |.ex c env=>∀F h H,Hold (LofW K ws env) σ F h->Okk F0 H0 F h H->Tell K E c H0 F H
 |.no=>False
def EvK (K:jl)(t:TE)(E:XK)(ws:Ws)(env:Env)(r:Mr Env D):Prop:=
 ∀F0 H0 σ F h H (Q:VK),Hold (LofW K ws env) σ F h->Okk F0 H0 F h H->FinK K r E ws σ F0 H0 H Q->t σ H Q
theorem EvK.e {r:Mr Env D}(h:EvK K t E ws env r):EvE K t E ws env r:=λF0 H0 σ F hh H Q hL ok fin=>h F0 H0 σ F hh H Q hL ok (by
 cases r with
 |no=>exact fin
 |ex c e=>exact fin
 |ok d e=>exact λv F hr h2 h H' a b c d _=>fin v F hr h2 h H' a b c d)
def stX (G:Gi)(env:Env)(x:X):Mr Env D:=match x.ev G env with
 |.ok d=>if d.new then .ok d env else .ok d (frzE env x.uses)
 |.ex c=>.ex c env
 |.no=>.no
theorem ek_x (g0:G.Ok K)(x:X):EvK K (x.den K G E) E ws env (stX G env x):=by
 intro F0 H0 σ F h H Q hL ok fin;unfold stX at fin;cases e:x.ev G env with
 |no=>rw[e]at fin;exact fin.elim
 |ex c=>
  rw[e]at fin;refine X.sound g0 x E env σ (un F h) H _ (zbs_ (hL.froz ok.2.1)) ok.thaw ?_;rw[e];exact λF' H' y=>(fin _ _ _ (hL.mono (ok.back y).2.1) (ok.back y).1).back ok y
 |ok d=>
  rw[e]at fin;have fin:FinK K (if d.new then .ok d env else .ok d (frzE env x.uses)) E ws σ F0 H0 H Q:=fin
  by_cases dn:d.new=qK
  ·rw[if_pos dn]at fin
   refine X.sound g0 x E env σ (un F h) H _ (zbs_ (hL.froz ok.2.1)) ok.thaw ?_;rw[e];intro F' H' y v hn fresh dj hs o;obtain⟨o1,hsF,ht⟩:=ok.back y;have iy:Dj (less F' h) hn:=λp=>by
    unfold less;cases z:h p with
    |none=>exact dj p
    |some w=>exact .inl rfl
   have dh:Dj hn h:=zix_ ok.2.2.1 fresh;refine fin v (less F' h) hn h (un hn h) H' (hL.mono hsF) (OD.newImm ht dn o) (zaX_ dh) ⟨o1.1,λp=>?_,λp o e=>?_,λp z=>?_,λp xs z=>?_⟩ y.2.2.1
   ·unfold un
    cases z:hn p with
    |some w=>
     rcases iy p with y |y
     ·exact .inl y
     ·rw[y]at z;cases z
    |none=>exact o1.2.1 p
   ·unfold un at e
    cases z:hn p with
    |some w=>rw[z]at e;cases e;exact hs _ _ z
    |none=>rw[z]at e;exact o1.2.2.1 _ _ e
   ·unfold un at z
    cases y:hn p with
    |some w=>exact ok.1.2.2.1.free (fresh p (by rw[y];exact sN _))
    |none=>rw[y]at z;exact ok.2.2.2.1 p z
   ·unfold un at z
    cases y:hn p with
    |some w=>rw[y]at z;cases z;exact OD.notup o p xs y
    |none=>rw[y]at z;exact ok.2.2.2.2 p xs z
  ·rw[if_neg dn]at fin
   obtain⟨F1,hh,ak,ao⟩:=zfP_ x.uses hL ok;have al:Alike x.uses (coldE (frzE env x.uses)) env:=λi hi=>(zfC_ (zfW_ x.uses (.inl hi))).trans (zeK_ _ _ _)
   refine X.sound g0 x E (coldE (frzE env x.uses)) σ F1 H _ (zeO_ ak) ao.1.2.1 ?_;rw[X.ev_uses x al,e];intro F' H' y v hn fresh dj hs o;have o1:=ao.cold y;have dh:Dj hn hh:=zix_ ao.2.2.1 fresh;refine fin v F' hn hh (un hn hh) H' (ak.mono y.1) o (zaX_ dh) ⟨o1.1,λp=>?_,λp o e=>?_,λp z=>?_,λp xs z=>?_⟩ y.2.2.1
   ·unfold un
    cases z:hn p with
    |some w=>
     rcases dj p with y |y
     ·exact .inl y
     ·rw[y]at z;cases z
    |none=>exact o1.2.1 p
   ·unfold un at e
    cases z:hn p with
    |some w=>rw[z]at e;cases e;exact hs _ _ z
    |none=>rw[z]at e;exact o1.2.2.1 _ _ e
   ·unfold un at z
    cases y:hn p with
    |some w=>exact ao.1.2.2.1.free (fresh p (by rw[y];exact sN _))
    |none=>rw[y]at z;exact ao.2.2.2.1 p z
   ·unfold un at z
    cases y:hn p with
    |some w=>rw[y]at z;cases z;exact OD.notup o p xs y
    |none=>rw[y]at z;exact ao.2.2.2.2 p xs z
theorem ee_x (g0:G.Ok K)(x:X):EvE K (x.den K G E) E ws env (stX G env x):=(ek_x g0 x).e
end
noncomputable def apartL:List Nat->List Nat->Bool
 |j::js,i::is=>j != i ||apartL js is
 |_,_=>qL
theorem zN_ {k:Nd}{ds:List D}{j:Nat}{js:List Nat}{a c:D}(e:ds[j]?=qI c):(D.nd k ds).put (j::js) a=.nd k (ds.set j (c.put js a)):=by rw[D.put,e]
theorem z0_ {k:Nd}{ds:List D}{j:Nat}{js:List Nat}{a:D}(e:ds[j]?=qJ):(D.nd k ds).put (j::js) a=.nd k ds:=by rw[D.put,e]
theorem zbH_ {d a:D}{js:List Nat}(h:∀k ds,d≠.nd k ds)(hj:js≠[]):d.put js a=d:=by
 cases js with
 |nil=>exact absurd rfl hj
 |cons j js=>cases d with |nd k ds=>exact absurd rfl (h k ds)|_=>simp[D.put]
theorem zhp_ {d:D}{js:List Nat}(h:∀k ds,d≠.nd k ds)(hj:js≠[]):d.at js=qJ:=by
 cases js with
 |nil=>exact absurd rfl hj
 |cons j js=>cases d with |nd k ds=>exact absurd rfl (h k ds)|_=>simp[D.at]
theorem zmu_ (d:D):(∃k ds,d=.nd k ds)\/∀k ds,d≠.nd k ds:=by
 cases d with
 |nd k ds=>exact .inl ⟨k,ds,rfl⟩
 |_=>exact .inr λk ds z=>by cases z
theorem za7_ {α:Type}{l:List α}{j:Nat}{c x:α}(e:l[j]?=qI c):(l.set j x)[j]?=qI x:=kq (i6.mp e).1
theorem zhJ_:∀(js:List Nat) (d a b:D),(d.put js a).put js b=d.put js b
 |[],d,a,b=>by rw[D.put,D.put]
 |j::js,d,a,b=>by
  rcases zmu_ d with⟨k,ds,rfl⟩|h
  ·cases e:ds[j]? with
   |none=>rw[z0_ e,z0_ e]
   |some c=>rw[zN_ e,zN_ e,zN_ (za7_ e),lO,zhJ_ js c a b]
  ·rw[zbH_ h (by simp),zbH_ h (by simp)]
theorem zf7_:∀(js is:List Nat) (d a b:D),apartL js is=qK->(d.put js a).put is b=(d.put is b).put js a
 |[],_,_,_,_,h=>by cases h
 |_::_,[],_,_,_,h=>by cases h
 |j::js,i::is,d,a,b,h=>by
  rcases zmu_ d with⟨k,ds,rfl⟩|hd
  ·by_cases ij:j=i
   ·subst ij
    cases e:ds[j]? with
    |none=>rw[z0_ e,z0_ e,z0_ e]
    |some c=>rw[zN_ e,zN_ e,zN_ (za7_ e),zN_ (za7_ e),lO,lO,zf7_ js is c a b (by simpa [apartL]using h)]
   ·cases e:ds[j]? with
    |none=>
     cases e2:ds[i]? with
     |none=>rw[z0_ e,z0_ e2,z0_ e]
     |some c2=>rw[z0_ e,zN_ e2,z0_ (by rw[ji (λz=>ij z.symm)];exact e)]
    |some c=>
     cases e2:ds[i]? with
     |none=>rw[zN_ e,z0_ e2,zN_ e,z0_ (by rw[ji ij];exact e2)]
     |some c2=>rw[zN_ e,zN_ e2,zN_ (by rw[ji ij];exact e2),zN_ (by rw[ji (λz=>ij z.symm)];exact e),pH _ _ ij]
  ·rw[zbH_ hd (by simp),zbH_ hd (by simp),zbH_ hd (by simp)]
theorem zlu_:∀(js:List Nat) (d a x:D),d.at js=qI x->(d.put js a).at js=qI a
 |[],d,a,x,h=>by rw[D.put,D.at]
 |j::js,d,a,x,h=>by
  rcases zmu_ d with⟨k,ds,rfl⟩|hd
  ·cases hk:k.own with
   |false=>rw[zbk_,hk]at h;cases h
   |true=>
    rw[zbk_,hk,cond_true]at h;obtain⟨c,e,h⟩:=iY.mp h;rw[zN_ e,zbk_,hk,cond_true,za7_ e];exact zlu_ js c a x h
  ·rw[zhp_ hd (by simp)]at h;cases h
theorem zfO_:∀(js is:List Nat) (d a:D),apartL js is=qK->(d.put js a).at is=d.at is
 |[],_,_,_,h=>by cases h
 |_::_,[],_,_,h=>by cases h
 |j::js,i::is,d,a,h=>by
  rcases zmu_ d with⟨k,ds,rfl⟩|hd
  ·cases e:ds[j]? with
   |none=>rw[z0_ e]
   |some c=>
    rw[zN_ e,zbk_,zbk_];congr 1;by_cases ij:j=i
    ·subst ij
     rw[za7_ e,e];exact zfO_ js is c a (by simpa [apartL]using h)
    ·rw[ji ij]
  ·rw[zbH_ hd (by simp)]
theorem zcv_:∀{js is:List Nat},apartL js is=qK->apartL is js=qK
 |[],_,h=>by cases h
 |_::_,[],h=>by cases h
 |j::js,i::is,h=>by
  unfold apartL at h ⊢;rw[lK]at h ⊢;rcases h with h |h
  ·left;simpa [bne_iff_ne,ne_comm]using h
  ·right;exact zcv_ h
noncomputable abbrev Pl:=Nat×List Nat
def apart (q q':Pl):Bool:=q.1 != q'.1 ||apartL q.2 q'.2
def atE (env:Env)(q:Pl):Option D:=match env[q.1]? with |some (qI d)=>d.at q.2 |_=>qJ
def putE (env:Env)(q:Pl)(c:D):Env:=match env[q.1]? with |some (qI d)=>env.set q.1 (qI (d.put q.2 c))|_=>env
theorem zh_ {env:Env}{q:Pl}{c d:D}(e:env[q.1]?=qI (qI d)):putE env q c=env.set q.1 (qI (d.put q.2 c)):=by unfold putE;rw[e]
theorem zaE_ {env:Env}{q:Pl}{c:D}(e:∀d,env[q.1]?≠qI (qI d)):putE env q c=env:=by
 unfold putE;split
 ·rename_i d z;exact absurd z (e d)
 ·rfl
theorem zes_ (env:Env)(i:Nat):(∃d,env[i]?=qI (qI d))\/∀d,env[i]?≠qI (qI d):=by
 cases env[i]? with
 |none=>exact .inr λd z=>by cases z
 |some o=>cases o with |none=>exact .inr λd z=>by cases z |some d=>exact .inl ⟨d,rfl⟩
theorem zg8_ (env:Env)(q:Pl)(a b:D):putE (putE env q a) q b=putE env q b:=by
 rcases zes_ env q.1 with⟨d,e⟩|e
 ·rw[zh_ e,zh_ e,zh_ (za7_ e),lO,zhJ_]
 ·rw[zaE_ e]
theorem zeB_ {env:Env}{q:Pl}{c:D}{i:Nat}(h:q.1≠i):(putE env q c)[i]?=env[i]?:=by
 rcases zes_ env q.1 with⟨d,e⟩|e
 ·rw[zh_ e,ji h]
 ·rw[zaE_ e]
theorem zay_ {env:Env}{q:Pl}{d:D}(e:env[q.1]?=qI (qI d)):atE env q=d.at q.2:=by unfold atE;rw[e]
theorem zdX_ {env:Env}{q q':Pl}{c:D}(h:apart q q'=qK):atE (putE env q c) q'=atE env q':=by
 unfold apart at h;by_cases e:q.1=q'.1
 ·have h:apartL q.2 q'.2=qK:=by simpa [e]using h
  rcases zes_ env q.1 with⟨d,z⟩|z
  ·rw[zh_ z,zay_ (d:=d.put q.2 c) (by rw[<- e];exact za7_ z),zay_ (d:=d) (by rw[<- e];exact z)]
   exact zfO_ _ _ d c h
  ·rw[zaE_ z]
 ·unfold atE;rw[zeB_ e]
theorem zmU_ {env:Env}{q:Pl}{a x:D}(h:atE env q=qI x):atE (putE env q a) q=qI a:=by
 rcases zes_ env q.1 with⟨d,z⟩|z
 ·rw[zay_ z]at h
  rw[zh_ z,zay_ (d:=d.put q.2 a) (za7_ z)];exact zlu_ _ d a x h
 ·unfold atE at h
  split at h
  ·rename_i d e;exact absurd e (z d)
  ·cases h
theorem zg6_ {env:Env}{q q':Pl}{a b:D}(h:apart q q'=qK):putE (putE env q a) q' b=putE (putE env q' b) q a:=by
 unfold apart at h;by_cases e:q.1=q'.1
 ·have h:apartL q.2 q'.2=qK:=by simpa [e]using h
  rcases zes_ env q.1 with⟨d,z⟩|z
  ·have z':env[q'.1]?=qI (qI d):=by rw[<- e];exact z
   rw[zh_ z,zh_ z',zh_ (d:=d.put q.2 a) (by rw[<- e];exact za7_ z),zh_ (d:=d.put q'.2 b) (by rw[e];exact za7_ z'),<- e,lO,lO,zf7_ _ _ d a b h]
  ·have z':∀d,env[q'.1]?≠qI (qI d):=by rw[<- e];exact z
   rw[zaE_ z,zaE_ z',zaE_ z]
 ·rcases zes_ env q.1 with⟨d,z⟩|z
  ·rcases zes_ env q'.1 with⟨d2,z2⟩|z2
   ·rw[zh_ z,zh_ z2,zh_ (d:=d2) (by rw[ji e];exact z2),zh_ (d:=d) (by rw[ji (λy=>e y.symm)];exact z),pH _ _ e]
   ·rw[zaE_ z2,zh_ z,zaE_ (by rw[ji e];exact z2)]
  ·rcases zes_ env q'.1 with⟨d2,z2⟩|z2
   ·rw[zaE_ z,zh_ z2,zaE_ (by rw[ji (λy=>e y.symm)];exact z)]
   ·rw[zaE_ z,zaE_ z2,zaE_ z]
section
variable {K:jF}{E:XK}{F F' F1 F2 h k H H' H1 H2:Hp}{d c:D}{ds:List D}{v u:V}{us:List V}{p:iQ}{Q:VK}{env:Env}{t:TE}{σ:L2.St}{G:Gi}{q:Pl}
inductive Pt where
 |v (i:Nat)|f (p:Pt) (n:Str)|s (p:Pt) (x:X)
def Pt.x:Pt->X
 |.v i=>.v i
 |.f p n=>.fld p.x n
 |.s p y=>.bin .ix p.x y
def kIx:List Key->Key->Nat
 |[],_=>0
 |k0::ks,k=>if k0=k then 0 else kIx ks k+1
def stepF (cs:List Str)(n:Str)(c:D):Option Nat:=match c with
 |.nd (.obj c ns) ds=>if c∈cs/\ns.idxOf n<ds.length then qI (ns.idxOf n)else qJ
 |_=>qJ
def stepS (c d:D):Option Nat:=match c with
 |.nd .lst ds=>(match d.un with |.int i=>(ixN ds.length i).bind λj=>if j<ds.length then qI j else qJ |_=>qJ)
 |.nd .tup ds=>(match d.un with |.int i=>(ixN ds.length i).bind λj=>if j<ds.length then qI j else qJ |_=>qJ)
 |.nd (.dct ks) ds=>(keyD d).bind λk=>if kIx ks k<ks.length/\ks.length=ds.length then qI (kIx ks k)else qJ
 |_=>qJ
def Pt.ev (G:Gi)(env:Env):Pt->Mo Pl
 |.v i=>if(atE env (i,[])).isSome then .ok (i,[])else .no
 |.f p n=>(p.ev G env).bind λq=>.opt ((atE env q).bind λc=>(stepF G.cs n c).map λj=>(q.1,q.2++[j]))
 |.s p x=>(p.ev G env).bind λq=>(x.ev G env).bind λd=>.opt ((atE env q).bind λc=>(stepS c d).map λj=>(q.1,q.2++[j]))
def EvPa (K:jl)(t:TE)(E:XK)(env:Env)(r:Mo Pl):Prop:=∀σ F H (Q:VK),HoldF (Lof K env) σ F->Same F H ->
 (match r with
  |.ok q=>∀F' H' v u c,Ext F H F' H'->σ[q.1]?=qI (qI v)->vAt H' v q.2=qI u->atE env q=qI c->DR K c u H'->Q u H'
  |.ex c=>∀F' H',Ext F H F' H'->Tell K E c H F' H'
  |.no=>False)->t σ H Q
theorem zhk_:∀{ks:List Key}{us:List V}{k:Key}{w:V},us[kIx ks k]?=qI w->kIx ks k<ks.length->valV (ks.zip us) k=qI w
 |[],_,_,_,_,h=>by simp at h
 |k0::ks,[],k,w,h,_=>by simp at h
 |k0::ks,u::us,k,w,h,hl=>by
  unfold valV;rw[jt,kx];unfold kIx at h hl;by_cases e:k0=k
  ·rw[if_pos e]at h;simp at h;subst h
   rw[show decide ((k0,u).1=k)=qK from decide_eq_true e];rfl
  ·rw[if_neg e,kX]at h
   rw[if_neg e]at hl;rw[show decide ((k0,u).1=k)=qL from decide_eq_false e]
   exact zhk_ h (by simpa using hl)
theorem zhO_ {k:Nd}{ds:List D}{j:Nat}{c:D}(hk:k.own=qK)(hc:ds[j]?=qI c):∀{js:List Nat}{d:D},d.at js=qI (.nd k ds)->d.at (js++[j])=qI c
 |[],d,h=>by rw[D.at]at h;cases h;rw[j7,zbk_,hk,cond_true,hc];show D.at _ []=_;rw[D.at]
 |i::js,d,h=>by
  rcases zmu_ d with⟨k',ds',rfl⟩|hd
  ·rw[zbk_]at h
   cases bz:k'.own with
   |false=>rw[bz]at h;cases h
   |true=>
    rw[bz,cond_true]at h;obtain⟨c',e,h⟩:=iY.mp h;rw[jN,zbk_,bz,cond_true,e];exact zhO_ hk hc h
  ·rw[zhp_ hd (by simp)]at h;cases h
theorem zf3_ {env:Env}{q0:Pl}{k:Nd}{ds:List D}{j:Nat}{c:D}(hk:k.own=qK)(hc:ds[j]?=qI c)(h:atE env q0=qI (.nd k ds)):atE env (q0.1,q0.2++[j])=qI c:=by
 rcases zes_ env q0.1 with⟨d,hd⟩|hd
 ·rw[zay_ hd]at h
  rw[zay_ (q:=(q0.1,q0.2++[j])) hd];exact zhO_ hk hc h
 ·unfold atE at h;split at h
  ·rename_i d z;exact absurd z (hd d)
  ·cases h
theorem hL_at {i:Nat}{d:D}(hL:HoldF (Lof K env) σ F)(hd:env[i]?=qI (qI d)):∃v,σ[i]?=qI (qI v)/\DR K d v F:=by
 obtain⟨v,ev,rv⟩:=hL i (slot K (qI d)) (by rw[iS,hd];rfl)
 refine⟨v,?_,rv⟩;cases z:σ[i]? with
 |none=>rw[z]at ev;cases ev
 |some o=>rw[z]at ev;cases(show o=qI v from ev);rfl
theorem Pt.sound (g0:G.Ok K):∀(p:Pt) (E:XK) (env:Env),EvPa K (p.x.den K G E) E env (p.ev G env)
 |.v i,E,env=>by
  intro σ F H Q hL hs q;unfold Pt.ev at q;rcases zes_ env i with⟨d,hd⟩|hd
  ·have ha:atE env (i,[])=qI d:=by rw[zay_ (q:=(i,[])) hd];show d.at []=_;rw[D.at]
   rw[ha]at q;obtain⟨v,hv,rv⟩:=hL_at hL hd;show mVar i σ H Q
   unfold mVar;rw[hv];exact q F H v v d (.refl hs) hv rfl ha (rv.mono hs)
  ·rw[show atE env (i,[])=qJ from by
    unfold atE;split
    ·rename_i d z;exact absurd z (hd d)
    ·rfl]at q
   exact q.elim
 |.f p n,E,env=>by
  intro σ F H Q hL hs q;unfold Pt.ev at q;cases e:p.ev G env with
  |no=>rw[e]at q;exact q.elim
  |ex c=>
   rw[e]at q;cases hcs:G.cs with
   |nil=>exact absurd hcs g0.cs
   |cons c0 cs=>exact⟨c0,by rw[hcs];exact i5 ..,Pt.sound g0 p E env σ F H _ hL hs (by rw[e];exact q)⟩
  |ok q0=>
   rw[e]at q;dsimp only[Mo.bind]at q;cases e1:atE env q0 with
   |none=>rw[e1]at q;exact q.elim
   |some c=>
    rw[e1]at q;cases e2:stepF G.cs n c with
    |none=>rw[show(Option.bind (qI c) λc=>(stepF G.cs n c).map λj=>(q0.1,q0.2++[j]))=qJ from by simp[e2]]at q;exact q.elim
    |some j=>
     rw[show(Option.bind (qI c) λc=>(stepF G.cs n c).map λj=>(q0.1,q0.2++[j]))=qI (q0.1,q0.2++[j])from by simp[e2]]at q
     unfold stepF at e2;split at e2
     ·rename_i cn ns ds
      split at e2
      ·rename_i hz
       cases e2;refine⟨cn,hz.1,Pt.sound g0 p E env σ F H _ hL hs ?_⟩;rw[e];intro F1 H1 v u c' x1 hv hu hc hr;rw[e1]at hc;cases hc;obtain⟨p',us,rfl,nd,r⟩:=hr.nd;rcases r.get (ns.idxOf n)with⟨z,_⟩|⟨d',w,g4,g5,g6⟩
       ·rw[iL hz.2]at z;cases z
       have gr:=nd;obtain⟨dx,g3,gl⟩:=nd;exact⟨dx,_,w,g3,zcE_ g5 gl,q F1 H1 v w d' x1 hv (zdn_ rfl gr g5 hu) (zf3_ rfl g4 e1) g6⟩
      ·cases e2
     ·cases e2
 |.s p x,E,env=>by
  intro σ F H Q hL hs q;unfold Pt.ev at q;cases e:p.ev G env with
  |no=>rw[e]at q;exact q.elim
  |ex c=>rw[e]at q;exact Pt.sound g0 p E env σ F H _ hL hs (by rw[e];exact q)
  |ok q0=>
   rw[e]at q;refine Pt.sound g0 p E env σ F H _ hL hs ?_;rw[e];intro F1 H1 v u c x1 hv hu hc hr;dsimp only[Mo.bind]at q;cases ex:x.ev G env with
   |no=>rw[ex]at q;exact q.elim
   |ex c=>
    rw[ex]at q;refine X.sound g0 x E env σ F1 H1 _ (hL.mono x1.1) x1.2.1 ?_;rw[ex];exact λF2 H2 x2=>(q F2 H2 (x1.trans x2)).up x1.2.2.1
   |ok d0=>
    rw[ex]at q;dsimp only at q;rw[hc]at q;cases e2:stepS c d0 with
    |none=>rw[show(Option.bind (qI c) λc=>(stepS c d0).map λj=>(q0.1,q0.2++[j]))=qJ from by simp[e2]]at q;exact q.elim
    |some j=>
     rw[show(Option.bind (qI c) λc=>(stepS c d0).map λj=>(q0.1,q0.2++[j]))=qI (q0.1,q0.2++[j])from by simp[e2]]at q
     refine ex_v (X.sound g0 x E env) σ F1 H1 _ (hL.mono x1.1) x1.2.1 ?_;rw[ex];intro F2 H2 x2 y hy;have dU:=DR.un hy;have dW:=hr.mono x2.2.2.1;have fin:∀{k:Nd}{ds:List D}{p':iQ}{us:List V},k.own=qK->c=.nd k ds->u=.ref p'->NdR K k p' us H2->DRs K ds us H2->j<ds.length->∃w,us[j]?=qI w/\Q w H2:=λ{k ds p' us} hk ec eu nd r hj=>by
      subst ec;subst eu;rcases r.get j with⟨z,_⟩|⟨d',w,g4,g5,g6⟩
      ·rw[iL hj]at z;cases z
      exact⟨w,g5,q F2 H2 v w d' (x1.trans x2) hv (zdn_ hk nd g5 (zch_ x2.2.2.1 hu)) (zf3_ hk g4 hc) g6⟩
     unfold stepS at e2;split at e2
     ·split at e2
      ·rename_i i ei
       rw[ei]at dU;cases dU.int;obtain⟨j',ej,e2⟩:=iY.mp e2;split at e2
       ·rename_i hj
        cases e2;obtain⟨p',us,rfl,nd,r⟩:=dW.nd;obtain⟨w,g5,fin⟩:=fin rfl rfl rfl nd r hj;refine .inl ⟨us,.inl (.of nd),?_⟩;rw[show atI us i=qI w from by unfold atI;rw[<- r.len,ej];exact g5];exact fin
       ·cases e2
      ·cases e2
     ·split at e2
      ·rename_i i ei
       rw[ei]at dU;cases dU.int;obtain⟨j',ej,e2⟩:=iY.mp e2;split at e2
       ·rename_i hj
        cases e2;obtain⟨p',us,rfl,nd,r⟩:=dW.nd;obtain⟨w,g5,fin⟩:=fin rfl rfl rfl nd r hj;refine .inl ⟨us,.inr (.of nd),?_⟩;rw[show atI us i=qI w from by unfold atI;rw[<- r.len,ej];exact g5];exact fin
       ·cases e2
      ·cases e2
     ·rename_i ks ds
      obtain⟨k,ek,e2⟩:=iY.mp e2;split at e2
      ·rename_i hz
       cases e2;obtain⟨p',us,rfl,nd,r⟩:=dW.nd;obtain⟨w,g5,fin⟩:=fin rfl rfl rfl nd r (by rw[<- hz.2];exact hz.1)
       exact .inr (zjD_ rfl (zjT_ ek hy).1 nd.1 ⟨w,zhk_ g5 hz.1,fin⟩)
      ·cases e2
     ·cases e2
end
def Mr.bind {s α β:Type}(m:Mr s α)(k:α->s->Mr s β):Mr s β:=match m with |.ok a t=>k a t |.ex c t=>.ex c t |.no=>.no
inductive A where
 |x (x:X)|l (p:Pt)
 |m (p:Pt)
def A.t:A->X
 |.x y=>y
 |.l p=>p.x
 |.m p=>p.x
inductive Ag where
 |d (d:D)|l (q:Pl)
def mpM (G:Gi)(env:Env)(p:Pt):Mr Env D:=match p.ev G env with
 |.ok q=>(match atE env q with |some c=>.ok c (putE env q .gone)|none=>.no)
 |.ex c=>.ex c env
 |.no=>.no
def evG (G:Gi):Env->List A->Mr Env (List Ag)
 |env,[]=>.ok [] env
 |env,.x x::as=>(stX G env x).bind λd e=>(evG G e as).bind λgs e'=>.ok (.d d::gs) e'
 |env,.l p::as=>match p.ev G env with
  |.ok q=>(evG G env as).bind λgs e'=>.ok (.l q::gs) e'
  |.ex c=>.ex c env
  |.no=>.no
 |env,.m p::as=>(mpM G env p).bind λd e=>(evG G e as).bind λgs e'=>.ok (.d d::gs) e'
section
variable {K:jF}{E:XK}{F F' F0 F1 F2 H0 h h1 h2 H H' H1 H2:Hp}{d c:D}{ds:List D}{v u:V}{vs:List V}{p:iQ}{Q:VK}{env:Env}{t:TE}{ws:Ws}{σ:L2.St}{G:Gi}{q:Pl}{ta:TA}{f:Fn}
def AgR (K:jl)(σ:L2.St)(F H:Hp):List Ag->List V->Hp->Prop
 |[],vs,h=>vs=[]/\∀p,h p=qJ
 |.d d::gs,vs,h=>∃v aT h1 h2,vs=v::aT/\Jn h1 h2 h/\OD K d v F h1/\AgR K σ F H gs aT h2
 |.l q::gs,vs,h=>∃u v aT,vs=u::aT/\σ[q.1]?=qI (qI v)/\vAt H v q.2=qI u/\AgR K σ F H gs aT h
def FinG (K:jl)(r:Mr Env (List Ag))(E:XK)(ws:Ws)(σ:L2.St)(F0 H0 Hs:Hp)(Q:List V->Hp->Prop):Prop:=match r with
 |.ok gs env=>∀vs F hA hE h H,Hold (LofW K ws env) σ F hE->AgR K σ F H gs vs hA->Jn hA hE h->Okk F0 H0 F h H->Same Hs H->Q vs H
 |.ex c env=>∀F h H,Hold (LofW K ws env) σ F h->Okk F0 H0 F h H->Tell K E c H0 F H
 |.no=>False
def EvG (K:jl)(t:TA)(E:XK)(ws:Ws)(env:Env)(r:Mr Env (List Ag)):Prop:=
 ∀F0 H0 σ F h H (Q:List V->Hp->Prop),Hold (LofW K ws env) σ F h->Okk F0 H0 F h H->FinG K r E ws σ F0 H0 H Q->t σ H Q
theorem no_l (z:Hp)(hz:∀p,z p=qJ):Jn z h h:=λp=>.inl ⟨hz p,rfl⟩
theorem zm3_ {a b c:Hp}(d1:Dj a b)(d2:Dj a c)(d3:Dj b c):Jn (un a b) c (un a (un b c)):=λp=>by
 unfold un;cases x:a p with
 |some o=>
  right;rcases d2 p with y |y
  ·rw[y]at x;cases x
  ·exact⟨y,rfl⟩
 |none=>
  cases y:b p with
  |some o=>
   right;rcases d3 p with z |z
   ·rw[z]at y;cases y
   ·exact⟨z,rfl⟩
  |none=>left;exact⟨rfl,rfl⟩
theorem zcl_ (j:Jn h1 h2 h):h=un h1 h2:=funext λp=>by
 unfold un;rcases j p with⟨a,b⟩|⟨a,b⟩
 ·rw[a,b]
 ·rw[b]
  cases h1 p with
  |none=>exact a.symm
  |some o=>rfl
theorem zn4_:EvG K tNil E ws env (.ok [] env):=λF0 H0 σ F h H Q hL ok fin=>fin [] F (λ_=>qJ) h h H hL ⟨rfl,λ_=>rfl⟩ (no_l _ λ_=>rfl) ok (Same.refl _)
theorem eg_x {r:Mr Env D}{g:Env->Mr Env (List Ag)}(he:EvK K t E ws env r)(hg:∀e,EvG K ta E ws e (g e)):EvG K (tCons t ta) E ws env (r.bind λd e=>(g e).bind λgs e'=>.ok (.d d::gs) e'):=by
 intro F0 H0 σ F h H Q hL ok fin;refine he F0 H0 σ F h H _ hL ok ?_;cases r with
 |no=>exact fin
 |ex c e=>exact fin
 |ok d e=>
  intro v F1 hr hE h' H1 ak od j ao gm;have o2:=zfH_ ao j;refine hg e F1 (less H1 hE) σ F1 hE H1 _ ak o2 ?_;dsimp only[Mr.bind]at fin;cases e2:g e with
  |no=>rw[e2]at fin;exact fin
  |ex c e'=>
   rw[e2]at fin;intro F2 h2 H2 aZ aj;obtain⟨s,dk,aM⟩:=za4_ ao j aj;refine zce_ ao j (fin F2 (un hr h2) H2 (Hold.more aZ (zaX_ dk)) aM)
  |ok gs e'=>
   rw[e2]at fin;intro vs F2 hA dE h2 H2 aZ ag j2 aj dO;obtain⟨s,dk,aM⟩:=za4_ ao j aj;have eh:=zcl_ j2;subst eh;have d1:Dj hr hA:=λp=>by rcases dk p with z |z;exact .inl z;exact .inr ((zaX_ j2.dj).l.free z)
   have d2:Dj hr dE:=λp=>by rcases dk p with z |z;exact .inl z;exact .inr ((zaX_ j2.dj).r.free z)
   exact fin (v::vs) F2 (un hr hA) dE _ H2 aZ ⟨v,vs,hr,hA,rfl,zaX_ d1,od.mono s,ag⟩ (zm3_ d1 d2 j2.dj) aM (gm.trans dO)
theorem eg_l (g0:G.Ok K){pt:Pt}{r:Mr Env (List Ag)}(hg:EvG K ta E ws env r):EvG K (tCons (pt.x.den K G E) ta) E ws env (match pt.ev G env with |.ok q=>r.bind λgs e'=>.ok (.l q::gs) e' |.ex c=>.ex c env |.no=>.no):=by
 intro F0 H0 σ F h H Q hL ok fin;refine Pt.sound g0 pt E env σ (un F h) H _ (zbs_ (hL.froz ok.2.1)) ok.thaw ?_;cases e:pt.ev G env with
 |no=>rw[e]at fin;exact fin
 |ex c=>
  rw[e]at fin;exact λF' H' y=>(fin _ _ _ (hL.mono (ok.back y).2.1) (ok.back y).1).back ok y
 |ok q=>
  rw[e]at fin;intro F1 H1 v u c x1 hv hu _ _;obtain⟨o1,hsF,ht⟩:=ok.back x1;refine hg F0 H0 σ _ h H1 _ (hL.mono hsF) o1 ?_;cases r with
  |no=>exact fin
  |ex c e'=>exact fin
  |ok gs e'=>exact λvs F2 hA dE h2 H2 aZ ag j2 aj dO=>fin (u::vs) F2 hA dE h2 H2 aZ ⟨u,v,vs,rfl,hv,zch_ dO hu,ag⟩ j2 aj (x1.2.2.1.trans dO)
theorem zaY_ {h:Hp}(hn:∀p,h p=qJ):OD K .gone v F h:=by unfold OD;exact⟨hn,by unfold DR;trivial⟩
theorem ek_mv (g0:G.Ok K){pt:Pt}:EvK K (pt.x.den K G E) E ws env (mpM G env pt):=by
 intro F0 H0 σ F h H Q hL ok fin;unfold mpM at fin;refine Pt.sound g0 pt E env σ (un F h) H _ (zbs_ (hL.froz ok.2.1)) ok.thaw ?_;cases e:pt.ev G env with
 |no=>rw[e]at fin;exact fin
 |ex c=>
  rw[e]at fin;exact λF' H' y=>(fin _ _ _ (hL.mono (ok.back y).2.1) (ok.back y).1).back ok y
 |ok q=>
  rw[e]at fin;intro F1 H1 v u c x1 hv hu hc _;obtain⟨o1,hsF,ht⟩:=ok.back x1;have fin:FinK K (match atE env q with |some c=>.ok c (putE env q .gone)|none=>.no) E ws σ F0 H0 H Q:=fin
  rw[hc]at fin;unfold atE at hc;split at hc
  ·rename_i d hd
   obtain⟨v',u',h1,h2,e1,vp,j,od,back⟩:=zbi_ (hL.mono hsF) hd hc;have ev:qI (qI v')=qI (qI v):=e1.symm.trans hv;cases ev;have eu:=(vp H1 o1.1.2.1 o1.2.2.1).symm.trans hu;cases eu;exact fin u _ h1 h2 h H1 (by rw[zh_ hd];exact back .gone _ _ h2 (Same.refl _) (zaY_ λ_=>rfl) (no_l (λ_=>qJ) λ_=>rfl)) od j o1 x1.2.2.1
  ·cases hc
theorem zck_ (g0:G.Ok K):∀(as:List A) (env:Env),EvG K (X.dens K G E (as.map A.t)) E ws env (evG G env as)
 |[],env=>zn4_
 |.x x::as,env=>eg_x (ek_x g0 x) λe=>zck_ g0 as e
 |.l p::as,env=>eg_l g0 (zck_ g0 as env)
 |.m p::as,env=>eg_x (ek_mv g0) λe=>zck_ g0 as e
def resolve (env:Env):List Ag->Option (List D)
 |[]=>qI []
 |.d d::gs=>(resolve env gs).map λds=>d::ds
 |.l q::gs=>(atE env q).bind λc=>(resolve env gs).map λds=>c::ds
def apartOf (q:Pl):List Ag->Bool
 |[]=>qK
 |.d _::gs=>apartOf q gs
 |.l q'::gs=>apart q q' && apartOf q gs
def apartAll:List Ag->Bool
 |[]=>qK
 |.d _::gs=>apartAll gs
 |.l q::gs=>apartOf q gs && apartAll gs
def restE (env:Env):List Ag->List D->Env
 |.d _::gs,_::ds=>restE env gs ds
 |.l q::gs,d::ds=>putE (restE env gs ds) q d
 |_,_=>env
theorem zbA_ {c:D}:∀{gs:List Ag},apartOf q gs=qK->resolve (putE env q c) gs=resolve env gs
 |[],_=>rfl
 |.d d::gs,h=>by unfold apartOf at h;unfold resolve;rw[zbA_ h]
 |.l q'::gs,h=>by
  unfold apartOf at h;obtain⟨h1,h2⟩:=jE.mp h;unfold resolve;rw[zbA_ h2,zdX_ h1]
theorem zdN_ {c:D}:∀{gs:List Ag}{ds:List D},apartOf q gs=qK->restE (putE env q c) gs ds=putE (restE env gs ds) q c
 |[],_,_=>by unfold restE;rfl
 |.d d::gs,[],_=>by unfold restE;rfl
 |.l q'::gs,[],_=>by unfold restE;rfl
 |.d d::gs,_::ds,h=>by unfold apartOf at h;unfold restE;exact zdN_ h
 |.l q'::gs,d::ds,h=>by
  unfold apartOf at h;obtain⟨h1,h2⟩:=jE.mp h;unfold restE;rw[zdN_ h2,zg6_ h1]
theorem ze1_:∀{gs:List Ag}{ds:List D},apartOf q gs=qK->atE (restE env gs ds) q=atE env q
 |[],_,_=>by unfold restE;rfl
 |.d d::gs,[],_=>by unfold restE;rfl
 |.l q'::gs,[],_=>by unfold restE;rfl
 |.d d::gs,_::ds,h=>by unfold apartOf at h;unfold restE;exact ze1_ h
 |.l q'::gs,d::ds,h=>by
  unfold apartOf at h;obtain⟨h1,h2⟩:=jE.mp h;unfold restE;have h1':apart q' q=qK:=by
   unfold apart at h1 ⊢;rw[lK]at h1 ⊢;rcases h1 with h1 |h1
   ·left;simpa [bne_iff_ne,ne_comm]using h1
   ·right;exact zcv_ h1
  rw[zdX_ h1',ze1_ h2]
theorem lend:∀{gs:List Ag}{env:Env}{ds:List D}{vs:List V}{hA hE h:Hp},resolve env gs=qI ds->apartAll gs=qK->AgR K σ F H gs vs hA->Hold (LofW K ws env) σ F hE->Jn hA hE h->Same F H->Same h H ->
  ∃hD hR,Jn hD hR h/\ODs K ds vs F hD/\ds.length=gs.length/\∀ds' F' dF h',Same F F'->ODs K ds' vs F' dF->Jn dF hR h'->Hold (LofW K ws (restE env gs ds')) σ F' h'
 |[],env,ds,vs,hA,hE,h,e,_,ag,hL,j,sF,sH=>by
  unfold resolve at e;cases e;obtain⟨rfl,n⟩:=ag;refine⟨hA,hE,j,by unfold ODs;exact⟨rfl,n⟩,rfl,λds' F' dF h' s os j'=>?_⟩
  unfold restE;exact Hold.more (hL.mono s) j'
 |.d d::gs,env,ds,vs,hA,hE,h,e,ap,ag,hL,j,sF,sH=>by
  unfold resolve at e;obtain⟨ds1,e1,rfl⟩:=iV.mp e;obtain⟨v,aT,h1,h2,rfl,j1,od,ag⟩:=ag;obtain⟨m,jm,jh⟩:=zn_ j1 j;obtain⟨hD,hR,jd,os,ln,f⟩:=lend e1 (by unfold apartAll at ap;exact ap) ag hL jm sF (jh.r.trans sH)
  obtain⟨a,ja,jb⟩:=zn_ (zau_ jh |> λz=>z |> zau_) (show Jn h (λ_=>qJ) h from λp=>.inr ⟨rfl,rfl⟩)
  have dd:Dj h1 hD:=λp=>by rcases jh.dj p with z |z;exact .inl z;exact .inr (jd.l.free z)
  have dr:Dj h1 hR:=λp=>by rcases jh.dj p with z |z;exact .inl z;exact .inr (jd.r.free z)
  refine⟨un h1 hD,hR,?_,by unfold ODs;exact⟨v,aT,h1,hD,rfl,zaX_ dd,od,os⟩,by rw[iR,iR,ln],λds' F' dF h' s aA j'=>?_⟩
  ·have:=zm3_ dd dr jd.dj
   rw[<- zcl_ jd,<- zcl_ jh]at this;exact this
  ·cases ds' with
   |nil=>unfold ODs at aA;cases aA.1
   |cons d' ds'=>
    unfold ODs at aA;obtain⟨v',vs2,m1,m2,ee,jm2,_,aA⟩:=aA;cases ee;obtain⟨b,cQ,jb2⟩:=zn_ jm2 j';unfold restE;exact Hold.more (f ds' F' m2 b s aA cQ) jb2
 |.l q::gs,env,ds,vs,hA,hE,h,e,ap,ag,hL,j,sF,sH=>by
  unfold resolve at e;obtain⟨c,ec,e⟩:=iY.mp e;obtain⟨ds1,e1,rfl⟩:=iV.mp e;obtain⟨u,v,aT,rfl,ev,vp,ag⟩:=ag;unfold apartAll at ap;obtain⟨fw,ap2⟩:=jE.mp ap;rcases zes_ env q.1 with⟨d0,hd⟩|hd
  rotate_left
  ·unfold atE at ec;split at ec
   ·rename_i d z;exact absurd z (hd d)
   ·cases ec
  have hc:d0.at q.2=qI c:=by rw[<- zay_ hd];exact ec
  obtain⟨v',u',k1,k2,ev',vp',jk,oc,g⟩:=zbi_ hL hd hc;rw[ev]at ev';cases ev';have h9:Same hE H:=j.r.trans sH;have eu:u'=u:=jv ((vp' H sF h9).symm.trans vp);subst eu;have hp:putE env q (.pin u')=env.set q.1 (qI (d0.put q.2 (.pin u'))):=zh_ hd;have ak:Hold (LofW K ws (putE env q (.pin u'))) σ F k2:=by
   rw[hp];exact g (.pin u') F (λ_=>qJ) k2 (Same.refl _) (by unfold OD;exact⟨λ_=>rfl,by unfold DR;rfl⟩) (no_l _ λ_=>rfl)
  obtain⟨m,jm,jh⟩:=zn_ jk (zau_ j);have jA:Jn hA k2 m:=zau_ jm;obtain⟨hD,hR,jd,os,ln,f⟩:=lend (gs:=gs) (env:=putE env q (.pin u')) (by rw[zbA_ fw];exact e1) ap2 ag ak jA sF (jh.r.trans sH)
  have dd:Dj k1 hD:=λp=>by rcases jh.dj p with z |z;exact .inl z;exact .inr (jd.l.free z)
  have dr:Dj k1 hR:=λp=>by rcases jh.dj p with z |z;exact .inl z;exact .inr (jd.r.free z)
  refine⟨un k1 hD,hR,?_,by unfold ODs;exact⟨u',aT,k1,hD,rfl,zaX_ dd,oc,os⟩,by rw[iR,iR,ln],λds' F' dF h' s aA j'=>?_⟩
  ·have:=zm3_ dd dr jd.dj
   rw[<- zcl_ jd,<- zcl_ jh]at this;exact this
  ·cases ds' with
   |nil=>unfold ODs at aA;cases aA.1
   |cons d' ds'=>
    unfold ODs at aA;obtain⟨w,vs2,m1,m2,ee,jm2,eo,aA⟩:=aA;cases ee;obtain⟨b,cQ,jb2⟩:=zn_ jm2 j';have h2:=f ds' F' m2 b s aA cQ;have ea:atE (restE (putE env q (.pin u')) gs ds') q=qI (.pin u'):=by rw[ze1_ fw];exact zmU_ ec
    rcases zes_ (restE (putE env q (.pin u')) gs ds') q.1 with⟨d2,hd2⟩|hd2
    rotate_left
    ·unfold atE at ea;split at ea
     ·rename_i d z;exact absurd z (hd2 d)
     ·cases ea
    have bP:d2.at q.2=qI (.pin u'):=by rw[<- zay_ hd2];exact ea
    obtain⟨v3,u3,n1,n2,_,_,jn,on,g2⟩:=zbi_ h2 hd2 bP;unfold OD at on;obtain⟨nn,on⟩:=on;unfold DR at on;subst on;have en:b=n2:=by rw[zcl_ jn];funext p;unfold un;rw[nn p]
    subst en;have:=g2 d' F' m1 h' (Same.refl _) eo jb2;unfold restE;rw[show putE (restE env gs ds') q d'=putE (restE (putE env q (.pin u3)) gs ds') q d' from by rw[zdN_ fw,zg8_],zh_ hd2]
    exact this
def callG (f:Fn)(gs:List Ag)(env:Env):Mr Env D:=match resolve env gs with
 | some ds=>if apartAll gs then(match f ds with
   |.ok d ds'=>.ok d (restE env gs ds')
   |.ex c ds'=>.ex c (restE env gs ds')
   |.no=>.no)else .no
 |none=>.no
def CtX (K:jl)(f:Fn)(ds:List D)(vs:List V)(H:Hp)(Q:VK)(E:XK):Prop:=∃F h,Same F H/\Dj F h/\Same h H/\ODs K ds vs F h/\FinC K (f ds) E F (less H h) vs Q
theorem CtX.g {ds:List D}(h:CtX K f ds vs H Q E):CtG K f vs H Q E:=by obtain⟨F,h,a⟩:=h;exact⟨F,h,ds,a⟩
theorem zeT_ {gs:List Ag}{hA hE:Hp}(hL:Hold (LofW K ws env) σ F hE)(ag:AgR K σ F H gs vs hA)(j:Jn hA hE h)(ok:Okk F0 H0 F h H)(fin:FinE K (callG f gs env) E ws σ F0 H0 Q):∃ds,resolve env gs=qI ds/\CtX K f ds vs H Q E:=by
 unfold callG at fin;cases er:resolve env gs with
 |none=>rw[er]at fin;exact fin.elim
 |some ds=>
  rw[er]at fin;dsimp only at fin;by_cases ap:apartAll gs=qK
  rotate_left
  ·rw[if_neg ap]at fin;exact fin.elim
  rw[if_pos ap]at fin;obtain⟨hD,hR,jd,os,ln,g⟩:=lend er ap ag hL j ok.1.2.1 ok.2.2.1;have eE:=zau_ jd;refine⟨ds,rfl,F,hD,ok.1.2.1,dj_l ok.2.1 jd,jd.l.trans ok.2.2.1,os,?_⟩;cases ef:f ds with
  |no=>rw[ef]at fin;exact fin
  |ex c ds'=>
   rw[ef]at fin;intro F2 h2 H2 aj d9;obtain⟨s,dk,aM⟩:=za4_ ok eE aj;exact zce_ ok eE (fin F2 (un hR h2) H2 (g ds' F2 h2 _ s d9 (zau_ (zaX_ dk))) aM)
  |ok d ds'=>
   rw[ef]at fin;intro v F2 h2 H2 hr hm aj j2 od d9;obtain⟨s,dk,aM⟩:=za4_ ok eE aj;have d1:Dj hR hr:=λp=>by rcases dk p with z |z;exact .inl z;exact .inr (j2.l.free z)
   have d2:Dj hR hm:=λp=>by rcases dk p with z |z;exact .inl z;exact .inr (j2.r.free z)
   have dm:Dj hm hR:=λp=>(d2 p).symm
   refine fin v F2 hr (un hm hR) (un hR h2) H2 (g ds' F2 hm _ s d9 (zaX_ dm)) od ?_ aM;rw[zcl_ j2];intro p;unfold un;cases x:hr p with
   |some o=>
    right;rcases j2.dj p with z |z
    ·rw[z]at x;cases x
    ·rcases d1 p with y |y
     ·rw[z,y];exact⟨rfl,rfl⟩
     ·rw[y]at x;cases x
   |none=>
    left;refine⟨rfl,?_⟩;cases y:hR p with
    |some o=>
     rcases d2 p with z |z
     ·rw[z]at y;cases y
     ·rw[z]
    |none=>cases hm p<;>rfl
theorem zcz_ {gs:List Ag}{hA hE:Hp}(hL:Hold (LofW K ws env) σ F hE)(ag:AgR K σ F H gs vs hA)(j:Jn hA hE h)(ok:Okk F0 H0 F h H)(fin:FinE K (callG f gs env) E ws σ F0 H0 Q):CtG K f vs H Q E:=by
 obtain⟨ds,_,c⟩:=zeT_ hL ag j ok fin;exact c.g
theorem zh8_ {r:Mr Env (List Ag)}(hg:EvG K ta E ws env r):EvE K (tCall (CtG K f) [] E ta) E ws env (r.bind (callG f)):=by
 intro F0 H0 σ F h H Q hL ok fin;refine hg F0 H0 σ F h H _ hL ok ?_;cases r with
 |no=>exact fin
 |ex c e=>exact fin
 |ok gs e=>
  intro vs F1 hA hE h1 H1 ak ag j ao _;rw[jz];exact zcz_ ak ag j ao fin
end
inductive Fl where
 |nx |rt (d:D)|ct |bk
section
variable {K:jF}{E:XK}{F F' F0 F1 F2 H0 h h1 h2 k H H' H1 H2:Hp}{d c:D}{ds:List D}{v u:V}{us vs:List V}{p:iQ}{env:Env}{t:TE}{ws:Ws}{σ:L2.St}{G:Gi}{q:Pl}{ta:TA}{f:Fn}{s s1 s2:TS}{i:Nat}
def FinS (K:jl)(r:Mr Env Fl)(E:XK)(ws:Ws)(F0 H0:Hp)(N:Ends):Prop:=match r with
 |.ok .nx env=>∀σ F h H,Hold (LofW K ws env) σ F h->Okk F0 H0 F h H->N.nx σ H
 |.ok .ct env=>∀σ F h H,Hold (LofW K ws env) σ F h->Okk F0 H0 F h H->N.ct σ H
 |.ok .bk env=>∀σ F h H,Hold (LofW K ws env) σ F h->Okk F0 H0 F h H->N.bk σ H
 |.ok (.rt d) env=>∀v σ F hr h2 h H,Hold (LofW K ws env) σ F h2->OD K d v F hr->Jn hr h2 h->Okk F0 H0 F h H->N.rt v H
 |.ex c env=>∀σ F h H,Hold (LofW K ws env) σ F h->Okk F0 H0 F h H->Tell K E c H0 F H
 |.no=>False
def EvS (K:jl)(t:TS)(E:XK)(ws:Ws)(env:Env)(r:Mr Env Fl):Prop:=
 ∀F0 H0 σ F h H (N:Ends),Hold (LofW K ws env) σ F h->Okk F0 H0 F h H->FinS K r E ws F0 H0 N->t N σ H
theorem zhV_:EvS K tNext E ws env (.ok .nx env):=λF0 H0 σ F h H N hL ok fin=>fin σ F h H hL ok
def seqM (r:Mr Env Fl)(g:Env->Mr Env Fl):Mr Env Fl:=r.bind λo e=>match o with |.nx=>g e |_=>.ok o e
theorem zmb_ {r:Mr Env Fl}{g:Env->Mr Env Fl}(cX:EvS K s1 E ws env r)(a5:∀e,EvS K s2 E ws e (g e)):EvS K (tSeq s1 s2) E ws env (seqM r g):=by
 intro F0 H0 σ F h H N hL ok fin;refine cX F0 H0 σ F h H {N with nx:=s2 N} hL ok ?_;cases r with
 |no=>exact fin
 |ex c e=>exact fin
 |ok o e=>
  cases o with
  |nx=>exact λσ F h H hL ok=>a5 e F0 H0 σ F h H N hL ok fin
  |rt d=>exact fin
  |ct=>exact fin
  |bk=>exact fin
theorem zeN_ {hr hE:Hp}(hw:ws i=qJ)(hi:i<env.length)(hL:Hold (LofW K ws env) σ F hE)(od:OD K d v F hr)(j:Jn hr hE h):Hold (LofW K ws (env.set i (qI d))) (σ.set i (qI v)) F h:=by
 obtain⟨o,k1,k2,e1,jk,pp,g⟩:=Hold.atG hL (zaO_ (iL hi));have d1:Dj hr k2:=λp=>by rcases j.dj p with z |z;exact .inl z;exact .inr (jk.r.free z)
 have:=g (slotW K (ws i) (qI d)) (qI v) F hr (un hr k2) (Same.refl _) (zcc_ (λu z=>by rw[hw]at z;cases z) od) (zaX_ d1)
 rw[zcJ_]at this;refine Hold.more this (g:=k1) ?_;rw[zcl_ j,zcl_ jk];intro p;unfold un;cases x:hr p with
 |some o=>
  left;refine⟨?_,rfl⟩;rcases j.dj p with z |z
  ·rw[z]at x;cases x
  ·exact jk.l.free z
 |none=>
  cases y:k1 p with
  |some o=>
   right;refine⟨?_,rfl⟩;rcases jk.dj p with z |z
   ·rw[z]at y;cases y
   ·exact z
  |none=>left;exact⟨rfl,rfl⟩
def asgM (pn:Nat->Bool)(i:Nat)(r:Mr Env D):Mr Env Fl:=r.bind λd e=>if pn i=qL/\i<e.length then .ok .nx (e.set i (qI d))else .no
theorem zpe_ {pn:Nat->Bool}{r:Mr Env D}(hp:∀i,pn i=qL->ws i=qJ)(he:EvE K t E ws env r):EvS K (tAsg t (gName i)) E ws env (asgM pn i r):=by
 intro F0 H0 σ F h H N hL ok fin;refine he F0 H0 σ F h H _ hL ok ?_;cases r with
 |no=>exact fin
 |ex c e=>exact λF h H hL ok=>fin σ F h H hL ok
 |ok d e=>
  have fin:FinS K (if pn i=qL/\i<e.length then .ok .nx (e.set i (qI d))else .no) E ws F0 H0 N:=fin
  split at fin
  ·rename_i z
   exact λv F1 hr hE h1 H1 ak od j ao=>fin _ F1 h1 H1 (zeN_ (hp i z.1) z.2 ak od j) ao
  ·exact fin.elim
def dropM (r:Mr Env D):Mr Env Fl:=r.bind λ_ e=>.ok .nx e
theorem zmi_ {r:Mr Env D}(he:EvE K t E ws env r):EvS K (tDrop t) E ws env (dropM r):=by
 intro F0 H0 σ F h H N hL ok fin;refine he F0 H0 σ F h H _ hL ok ?_;cases r with
 |no=>exact fin
 |ex c e=>exact λF h H hL ok=>fin σ F h H hL ok
 |ok d e=>exact λv F1 hr hE h1 H1 ak od j ao=>fin σ F1 h1 H1 (Hold.more ak j) ao
def retM (r:Mr Env D):Mr Env Fl:=r.bind λd e=>.ok (.rt d) e
theorem zoq_ {r:Mr Env D}(he:EvE K t E ws env r):EvS K (tRet t) E ws env (retM r):=by
 intro F0 H0 σ F h H N hL ok fin;refine he F0 H0 σ F h H _ hL ok ?_;cases r with
 |no=>exact fin
 |ex c e=>exact λF h H hL ok=>fin σ F h H hL ok
 |ok d e=>exact λv F1 hr hE h1 H1 ak od j ao=>fin v σ F1 hr hE h1 H1 ak od j ao
theorem zmZ_:EvS K tRetN E ws env (.ok (.rt .non) env):=λF0 H0 σ F h H N hL ok fin=>
 fin .non σ F (λ_=>qJ) h h H hL (by unfold OD;exact⟨λ_=>rfl,by unfold DR;rfl⟩) (no_l _ λ_=>rfl) ok
def ifM (env:Env)(b:Mo Bool)(r1 r2:Mr Env Fl):Mr Env Fl:=match b with
 |.ok c=>if c then r1 else r2
 |.ex c=>.ex c env
 |.no=>.no
theorem es_if {tt:TT}{b:Mo Bool}{r1 r2:Mr Env Fl}(hc:EvT K tt E (Lof K env) b)(cX:EvS K s1 E ws env r1)(a5:EvS K s2 E ws env r2):EvS K (mIfS tt s1 s2) E ws env (ifM env b r1 r2):=by
 intro F0 H0 σ F h H N hL ok fin;refine hc σ (un F h) H _ (zbs_ (hL.froz ok.2.1)) ok.thaw ?_;cases b with
 |no=>exact fin
 |ex c=>exact λF' H' y=>(fin σ _ _ _ (hL.mono (ok.back y).2.1) (ok.back y).1).back ok y
 |ok c=>
  intro F' H' y;obtain⟨o,hsF,ht⟩:=ok.back y;refine⟨λz=>?_,λz=>?_⟩
  ·subst z;exact cX F0 H0 σ _ h H' N (hL.mono hsF) o fin
  ·subst z;exact a5 F0 H0 σ _ h H' N (hL.mono hsF) o fin
def forM (step:Env->List D->Mr Env Fl):List (List D)->Env->Mr Env Fl
 |[],e=>.ok .nx e
 |x::xs,e=>(step e x).bind λo e'=>match o with |.nx=>forM step xs e' |.ct=>forM step xs e' |.bk=>.ok .nx e' |.rt d=>.ok (.rt d) e'
def setG (pn:Nat->Bool):Env->List Nat->List D->Option Env
 |e,i::is,d::ds=>if pn i=qL/\i<e.length then setG pn (e.set i (qI d.vw)) is ds else qJ
 |e,[],[]=>qI e
 |_,_,_=>qJ
theorem zcQ_ {pn:Nat->Bool}(hp:∀i,pn i=qL->ws i=qJ):∀{is:List Nat}{ds:List D}{env e:Env}{σ:L2.St}{vs:List (Nat×Option V)},setG pn env is ds=qI e->Plain F (ssT K is ds) vs->Hold (LofW K ws env) σ F h->Hold (LofW K ws e) (setS σ vs) F h
 |[],[],env,e,σ,vs,z,pl,hL=>by unfold setG at z;cases z;cases pl;exact hL
 |i::is,d::ds,env,e,σ,vs,z,pl,hL=>by
  unfold setG at z;split at z
  ·rename_i y
   cases pl with
   |cons hv pl=>
    refine zcQ_ hp (is:=is) (ds:=ds) (σ:=σ.set i (qI _)) z pl ?_;exact zeN_ (hp i y.1) y.2 hL (OD.vw (h:=λ_=>qJ) (λ_=>rfl) hv) (no_l _ λ_=>rfl)
  ·cases z
 |[],_::_,_,_,_,_,z,_,_=>by unfold setG at z;cases z
 |_::_,[],_,_,_,_,z,_,_=>by unfold setG at z;cases z
theorem zfQ_ {hr hE:Hp}(od:ODs K ds vs F hr)(j:Jn hr hE h)(ok:Okk F0 H0 F h H):DRs K ds vs (un F hr)/\Same F (un F hr)/\Okk F0 H0 (un F hr) hE H:=by
 obtain⟨o1,o2,o3,o4,o5⟩:=ok;refine⟨OD.view.go zaC_ (zdu_ (dj_l o2 j)) od,zaC_,⟨o1.1.trans zaC_,λp o e=>?_,o1.2.2.1,λp a b=>?_⟩,λp=>?_,j.r.trans o3,λp z=>?_,λp xs e=>o5 p xs (j.r _ _ e)⟩
 ·unfold un at e
  cases z:F p with
  |some w=>rw[z]at e;cases e;exact o1.2.1 _ _ z
  |none=>rw[z]at e;exact o3 _ _ (j.l _ _ e)
 ·unfold un at b
  cases z:F p with
  |some w=>exact o1.2.2.2 p a (by rw[z];exact sN _)
  |none=>
   rw[z]at b;cases y:hr p with
   |none=>exact absurd y b
   |some w=>exact o4 p (by rw[j.l _ _ y];exact sN _)
 ·unfold un
  cases z:F p with
  |some w=>
   rcases dj_r o2 j p with y |y
   ·rw[y]at z;cases z
   ·exact .inr y
  |none=>exact j.dj p
 ·cases y:hE p with
  |none=>exact absurd y z
  |some w=>exact o4 p (by rw[j.r _ _ y];exact sN _)
noncomputable def dsOf:List Ag->Option (List D)
 |[]=>qI []
 |.d d::gs=>(dsOf gs).map λds=>d::ds
 |.l _::_=>qJ
theorem ag_ds:∀{gs:List Ag}{ds:List D}{vs:List V}{h:Hp},dsOf gs=qI ds->AgR K σ F H gs vs h->ODs K ds vs F h
 |[],_,_,_,e,r=>by unfold dsOf at e;cases e;unfold ODs;exact r
 |.d d::gs,_,_,_,e,q_=>by
  obtain⟨v,aT,h1,h2,e1,j,o,r⟩:=q_;unfold dsOf at e;obtain⟨ds,e2,rfl⟩:=iV.mp e;unfold ODs;exact⟨v,aT,h1,h2,e1,j,o,ag_ds e2 r⟩
 |.l _::_,_,_,_,e,_=>by unfold dsOf at e;cases e
def forS (pn:Nat->Bool)(ik:Ik)(g:Tg)(r:Mr Env (List Ag))(body:Env->Mr Env Fl):Mr Env Fl:=r.bind λgs e=>match dsOf gs with
 |some ds=>(match ik.f ds with
  |.ok items=>(match tgsD g items with
   |some xs=>forM (λe x=>match setG pn e g.is x with |some e'=>body e' |none=>.no) xs e
   |none=>.no)
  |_=>.no)
 |none=>.no
theorem znA_ {pn:Nat->Bool}{ik:Ik}{g:Tg}{r:Mr Env (List Ag)}{body:Env->Mr Env Fl}(hp:∀i,pn i=qL->ws i=qJ)(hg:EvG K ta E ws env r)(hb:∀e,EvS K s E ws e (body e)):EvS K (tFor (ik.t K ta) (tgT K g) s) E ws env (forS pn ik g r body):=by
 intro F0 H0 σ F h H N hL ok fin;refine hg F0 H0 σ F h H _ hL ok ?_;cases r with
 |no=>exact fin
 |ex c e=>exact λF h H hL ok=>fin σ F h H hL ok
 |ok gs e=>
  intro vs F1 hA hE h1 H1 ak ag j ao _
  have fin:FinS K (match dsOf gs with
   |some ds=>(match ik.f ds with
    |.ok items=>(match tgsD g items with
     |some xs=>forM (λe x=>match setG pn e g.is x with |some e'=>body e' |none=>.no) xs e
     |none=>.no)
    |_=>.no)
   |none=>.no) E ws F0 H0 N:=fin
  cases e1:dsOf gs with
  |none=>rw[e1]at fin;exact fin.elim
  |some ds=>
   rw[e1]at fin;dsimp only at fin;obtain⟨dr,sF,aj⟩:=zfQ_ (ag_ds e1 ag) j ao;cases e2:ik.f ds with
   |no=>rw[e2]at fin;exact fin.elim
   |ex c=>rw[e2]at fin;exact fin.elim
   |ok items=>
    rw[e2]at fin;dsimp only at fin;cases e3:tgsD g items with
    |none=>rw[e3]at fin;exact fin.elim
    |some xs=>
     rw[e3]at fin;dsimp only at fin;refine ik_w (E:=E) ik ds vs σ (un F1 hA) H1 _ aj.1.2.1 dr ?_;rw[e2];intro F2 H2 x2 J Y;have aM:=aj.cold x2;obtain⟨l,gx⟩:=zcK_ e3;have xx:Ext F0 H0 F2 H2:=aM.1
     refine⟨λn m σ H=>m=xs.length-n/\n<=xs.length/\∃e F h,Hold (LofW K ws e) σ F h/\Okk F2 H0 F h H/\FinS K (forM (λe x=>match setG pn e g.is x with |some e'=>body e' |none=>.no) (xs.drop n) e) E ws F0 H0 N,
      ⟨_,rfl,kJ _,e,F2,hE,ak.mono (sF.trans x2.1),aM.rebase xx (Same.refl _),fin⟩,?_⟩
     rintro n m σ H ⟨rfl,hn,e,F,h,hL,ok,fin⟩;have s1:Same F2 H:=ok.1.1.trans ok.1.2.1;by_cases ay:n<xs.length
     ·right
      obtain⟨d,hd,td⟩:=gx n xs[n] (iL ay);obtain⟨g1,g2⟩:=Y.go n H d s1 hd;refine⟨g1,λab H'=>n+1<=xs.length/\∃e F h,Hold (LofW K ws e) ab F h/\Okk F2 H0 F h H'/\FinS K (forM (λe x=>match setG pn e g.is x with |some e'=>body e' |none=>.no) (xs.drop (n+1)) e) E ws F0 H0 N,λab H' z=>⟨xs.length-(n+1),by lia,rfl,z⟩,λv H3 hy=>?_⟩
      obtain⟨F3,x3,hv⟩:=g2 v H3 hy F ok.1.1 ok.1.2.1;refine tg_R g xs[n] v σ F3 H3 _ x3.2.1 (zoK_ td hv) λvs pl=>?_
      rw[lE ay]at fin;unfold forM at fin;cases es:setG pn e g.is xs[n]with
      |none=>rw[es]at fin;exact fin.elim
      |some e'=>
       rw[es]at fin;refine hb e' F2 H0 _ F3 h H3 _ (zcQ_ hp es pl (hL.mono x3.1)) (ok.cold x3) ?_;dsimp only[Mr.bind]at fin;cases eb:body e' with
       |no=>rw[eb]at fin;exact fin
       |ex c e2=>rw[eb]at fin;exact λσ F h H hL ok=>fin σ F h H hL (ok.unbase xx)
       |ok o e2=>
        rw[eb]at fin;cases o with
        |nx=>exact λab F' h' H' aE aq=>⟨ay,e2,F',h',aE,aq,fin⟩
        |ct=>exact λab F' h' H' aE aq=>⟨ay,e2,F',h',aE,aq,fin⟩
        |bk=>exact λab F' h' H' aE aq=>fin ab F' h' H' aE (aq.unbase xx)
        |rt a=>exact λv σ F hr h2 h H a1 a2 a3 ok=>fin v σ F hr h2 h H a1 a2 a3 (ok.unbase xx)
     ·left
      have en:n=xs.length:=by lia
      subst en;rw[mK]at fin;exact⟨by rw[l];exact Y.stop H s1,fin σ F h H hL (ok.unbase xx)⟩
set_option genSizeOf false
set_option genSizeOfSpec false
set_option bootstrap.genMatcherCode false
noncomputable section
open Classical
def mp (f:iQ->HO->HO)(G:Hp):Hp:=λq=>(G q).map (f q)
variable {f:iQ->HO->HO}{G G':Hp}
theorem zdf_ {q:iQ}:mp f G q=qJ↔G q=qJ:=Option.map_eq_none_iff
theorem zfE_ (g:Same G G'):Same (mp f G) (mp f G'):=λq o e=>by
 obtain⟨u,h1,h2⟩:=iV.mp e;exact iV.mpr ⟨u,g _ _ h1,h2⟩
theorem zmB_ (ok:Okk F0 H0 F h H)(hf:∀q u,h q=qI u->f q u=u):Okk (mp f F0) (mp f H0) (mp f F) h (mp f H):=
 ⟨⟨zfE_ ok.1.1,zfE_ ok.1.2.1,zfE_ ok.1.2.2.1,λq a b=>zdf_.mpr (ok.1.2.2.2 q (zdf_.mp a) λz=>b (zdf_.mpr z))⟩,λq=>(ok.2.1 q).imp zdf_.mpr id,
  λq u e=>by show(H q).map _=_;rw[ok.2.2.1 _ _ e];show qI (f q u)=_;rw[hf q u e],λq z=>zdf_.mpr (ok.2.2.2.1 q z),ok.2.2.2.2⟩
theorem zc7_ (g:Nk K F F'):∀{env:Env}{ws:Ws}{σ:L2.St}{h:Hp},Hold (LofW K ws env) σ F h->Hold (LofW K ws env) σ F' h
 |[],_,[],_,_=>trivial
 |[],_,_::_,_,q=>q.elim
 |o::env,ws,[],h,q=>by unfold LofW at q;rw[nG]at q;exact q.elim
 |o::env,ws,x::σ,h,q=>by
  unfold LofW at q ⊢;rw[nG]at q ⊢;obtain⟨h1,h2,j,p,r⟩:=q;refine⟨h1,h2,j,?_,zc7_ g (ws:=λi=>ws (i+1)) r⟩
  cases o with
  |none=>exact p
  |some d=>obtain⟨v,rfl,hv,od⟩:=zbN_ p;exact zcc_ hv (od.up g)
noncomputable def sw (p:iQ)(a b:HO)(q:iQ)(u:HO):HO:=if q=p/\u=a then b else u
theorem sw_ne {a b u:HO}{q:iQ}(h:u≠a):sw p a b q u=u:=if_neg λz=>h z.2
theorem sw_p {a b:HO}:sw p a b p a=b:=if_pos ⟨rfl,rfl⟩
theorem mp_nk {a b:HO}(ha:∀us,a≠.tup us/\a≠.lst us)(hJ:∀o us,a≠.frz o (.lst us))(g_:∀c dx fs,a≠.ins c dx fs){kvs:List (Key×V)}(hk:a=.dK kvs\/∃o,a=.frz o (.dK kvs))(hb:b=.dK kvs\/∃o,b=.frz o (.dK kvs)):Nk K F (mp (sw p a b) F):=by
 have st:∀{q u},u≠a->F q=qI u->mp (sw p a b) F q=qI u:=λ{q u} n e=>by show(F q).map _=_;rw[e];show qI _=_;rw[sw_ne n]
 intro k q us n;cases k with
 |tup=>exact st (ha us).1.symm n
 |lst=>exact st (ha us).2.symm n
 |scr=>exact n.imp (λn=>n.imp (st (ha us).2.symm) λ⟨o,e⟩=>⟨o,st (hJ o us).symm e⟩) id
 |ktup=>exact n
 |dct ks=>
  refine⟨?_,n.2⟩;by_cases z:F q=qI a/\q=p
  ·obtain⟨z,rfl⟩:=z
   have e:mp (sw q a b) F q=qI b:=by show(F q).map _=_;rw[z];show qI _=_;rw[sw_p]
   have ek:ks.zip us=kvs:=by
    rcases n.1 with y |⟨o,y⟩
    ·rw[z]at y;cases y
     rcases hk with w |⟨o,w⟩
     ·cases w;rfl
     ·cases w
    ·rw[z]at y;cases y
     rcases hk with w |⟨o,w⟩
     ·cases w
     ·cases w;rfl
   rw[ek];rcases hb with rfl |⟨o,rfl⟩
   ·exact .inl e
   ·exact .inr ⟨o,e⟩
  ·have bK:∀{u},F q=qI u->mp (sw p a b) F q=qI u:=λ{u} e=>by
    show(F q).map _=_;rw[e];show qI _=_
    unfold sw;rw[if_neg λy=>z ⟨by rw[e,y.2],y.1⟩]
   exact n.1.imp bK λ⟨o,e⟩=>⟨o,bK e⟩
 |obj c ns=>obtain⟨dx,e,l⟩:=n;exact⟨dx,st (g_ _ _ _).symm e,l⟩
theorem zig_ {a b:HO}(h:G p=qI a):mp (sw p a b) G=upd G p b:=by
 funext q;unfold mp upd;split
 ·rename_i e;rw[e,h];show qI _=_;rw[sw_p]
 ·rename_i e
  cases G q with
  |none=>rfl
  |some u=>show qI _=_;unfold sw;rw[if_neg λz=>e z.1]
theorem zh2_ {a b:HO}(h:∀u,G p=qI u->u=a):mp (sw p b a) (mp (sw p a b) G)=G:=by
 funext q;unfold mp;cases e:G q with
 |none=>rfl
 |some u=>
  show qI _=_
  by_cases z:q=p
  ·subst z;rw[h u e,sw_p,sw_p]
  ·unfold sw;rw[if_neg λy=>z y.1,if_neg λy=>z y.1]
inductive Dk where
 |keys |items
def Dk.J:Dk->iQ->oN->List (Key×V)->It
 |.keys=>Itk |.items=>Iti
def Dk.its:Dk->List Key->List D->List D
 |.keys,ks,_=>ks.map kD
 |.items,ks,ds=>(ks.zip ds).map λq=>.nd .tup [kD q.1,q.2]
theorem zlo_ (k:Key):DR K (kD k) (kV k) F:=by
 cases k with
 |inl i=>show DR K (.int i) (.int i) F;unfold DR;rfl
 |inr x=>show DR K (.str x.cps.toList) (.str x) F;unfold DR;show V.str x=tx x.cps.toList;unfold tx;rw[om]
theorem zoL_ (k:Dk){ks:List Key}(l:ks.length=us.length)(r:DRs K ds us F):(k.its ks ds).length=(ks.zip us).length:=by
 have:=r.len;cases k<;>simp[Dk.its]<;>lia
theorem dk_go (k:Dk){o:oN}{kvs:List (Key×V)}{n:Nat}(e:H p=qI (.frz o (.dK kvs)))(hn:n<kvs.length):(k.J p o kvs).go n H:=by cases k<;>exact⟨e,hn⟩
theorem zlg_ (k:Dk){o:oN}{kvs:List (Key×V)}{n:Nat}(e:H p=qI (.frz o (.dK kvs)))(hn:kvs.length<=n):(k.J p o kvs).stop n H:=by cases k<;>exact⟨e,hn⟩
theorem zoY_ (k:Dk){o:oN}{ks:List Key}{n:Nat}(r:DRs K ds us F2)(hd:(k.its ks ds)[n]?=qI d)(hy:(k.J p o (ks.zip us)).yld n H v H')(g:Same F2 F)(gh:Same F H):∃F3,Ext F H F3 H'/\DR K d v F3:=by
 cases k with
 |keys=>
  obtain⟨q,hq,rfl,rfl⟩:=hy;refine⟨F,.refl gh,?_⟩;rw[show(Dk.keys.its ks ds)=ks.map kD from rfl,iS]at hd
  obtain⟨h1,h2⟩:=lF.mp (show(ks.zip us)[n]?=qI (q.1,q.2)from hq)
  rw[h1]at hd;cases hd;exact zlo_ _
 |items=>
  obtain⟨p',q,hq,c5,rfl,rfl⟩:=hy;rw[show(Dk.items.its ks ds)=(ks.zip ds).map _ from rfl,iS]at hd
  obtain⟨q',hz,rfl⟩:=iV.mp hd;obtain⟨a1,a2⟩:=lF.mp (show(ks.zip us)[n]?=qI (q.1,q.2)from hq)
  obtain⟨b1,b2⟩:=lF.mp (show(ks.zip ds)[n]?=qI (q'.1,q'.2)from hz)
  rw[a1]at b1;rcases r.get n with⟨z,_⟩|⟨y,u,c1,c2,c3⟩
  ·rw[z]at b2;cases b2
  rw[c1]at b2;rw[c2]at a2;have c4:DR K q'.2 q.2 F2:=by rw[<- jv b2,<- jv a2];exact c3
  have x':=Ext.new (o:=.tup [kV q.1,q.2]) gh c5;refine⟨_,x',?_⟩;unfold DR;refine⟨p',_,rfl,zm_,?_⟩;unfold DRs;refine⟨_,_,rfl,by rw[<- jv b1];exact zlo_ _,?_⟩
  unfold DRs;exact⟨_,_,rfl,DR.mono (g.trans x'.1) c4,by unfold DRs;rfl⟩
def noEx (r:Mr Env Fl):Mr Env Fl:=match r with |.ex _ _=>.no |r=>r
def forJM (pn:Nat->Bool)(k:Dk)(g:Tg)(r:Mr Env D)(body:Env->Mr Env Fl):Mr Env Fl:=r.bind λd e=>match d.un with
 |.nd (.dct ks) ds=>(match tgsD g (k.its ks ds)with
  |some xs=>noEx (forM (λe x=>match setG pn e g.is x with |some e'=>body e' |none=>.no) xs e)
  |none=>.no)
 |_=>.no
theorem zmm_ {pn:Nat->Bool}{k:Dk}{g:Tg}{r:Mr Env D}{body:Env->Mr Env Fl}(hp:∀i,pn i=qL->ws i=qJ)(he:EvE K t E ws env r)(hb:∀e,EvS K s E ws e (body e)):EvS K (mForJ k.J t (tgT K g) s) E ws env (forJM pn k g r body):=by
 intro F0 H0 σ F h H N hL ok fin Z;refine he F0 H0 σ F h H _ hL ok ?_;cases r with
 |no=>exact fin
 |ex c e=>exact λF h H hL ok=>fin σ F h H hL ok
 |ok d e=>
  intro v F1 hr hE h1 H1 ak od j ao
  have fin:FinS K (match d.un with
   |.nd (.dct ks) ds=>(match tgsD g (k.its ks ds)with
    |some xs=>noEx (forM (λe x=>match setG pn e g.is x with |some e'=>body e' |none=>.no) xs e)
    |none=>.no)
   |_=>.no) E ws F0 H0 N:=fin
  obtain⟨dr,sF,aj⟩:=zfQ_ (ds:=[d]) (vs:=[v]) (by unfold ODs;exact⟨v,[],hr,λ_=>qJ,rfl,no_r _ λ_=>rfl,od,by unfold ODs;exact⟨rfl,λ_=>rfl⟩⟩) j ao
  obtain⟨v',ev,r0⟩:=DRs.one dr;cases ev;have ha:=DR.un r0
  generalize d.un=du at fin ha
  cases du with
  |nd kk ds=>
   cases kk with
   |dct ks=>
    dsimp only at fin;cases e3:tgsD g (k.its ks ds)with
    |none=>rw[e3]at fin;exact fin.elim
    |some xs=>
     rw[e3]at fin;dsimp only at fin;obtain⟨p,us,rfl,n,rs⟩:=ha.nd;refine⟨ks.zip us,zaU_ aj.1.2.1 n.1,λo a dZ bt hZ=>?_⟩
     have fg:un F1 hr p=qI a:=by
      rcases n.1 with z |⟨o',z⟩
      ·rw[<- dZ,z];exact(aj.1.2.1 _ _ z).symm
      ·rw[<- dZ,z];exact(aj.1.2.1 _ _ z).symm
     have xx:=aj.1
     generalize un F1 hr=Fa at *
     have nP:Nk K Fa (mp (sw p a (.frz o (.dK (ks.zip us)))) Fa):=mp_nk (λaX=>by rcases bt with rfl |rfl<;>exact⟨λz=>(by cases z),λz=>by cases z⟩) (λo' aX=>by rcases bt with rfl |rfl<;>exact λz=>by cases z) (λc dx fs=>by rcases bt with rfl |rfl<;>exact λz=>by cases z) (bt.imp id λz=>⟨o,z⟩) (.inr ⟨o,rfl⟩)
     have nU:∀F,Nk K F (mp (sw p (.frz o (.dK (ks.zip us))) a) F):=λF=>mp_nk (λaX=>⟨λz=>(by cases z),λz=>by cases z⟩) (λo' aX=>λz=>by cases z) (λc dx fs=>λz=>by cases z) (.inr ⟨o,rfl⟩) (bt.imp id λz=>⟨o,z⟩)
     have fp:∀{F h:Hp}{x y:HO},Dj F h->F p≠qJ->∀q u,h q=qI u->sw p x y q u=u:=λ{F h x y} dj hF q u e=>if_neg λz=>by
      rcases dj q with w |w
      ·exact hF (z.1 ▸ w)
      ·rw[w]at e;cases e
     have fH:=zmB_ (f:=sw p a (.frz o (.dK (ks.zip us)))) aj (fp aj.2.1 (by rw[fg];exact sN _))
     have bF:mp (sw p (.frz o (.dK (ks.zip us))) a) (mp (sw p a (.frz o (.dK (ks.zip us)))) Fa)=Fa:=zh2_ λu e=>by rw[fg]at e;exact(jv e).symm
     have bH:mp (sw p (.frz o (.dK (ks.zip us))) a) (mp (sw p a (.frz o (.dK (ks.zip us)))) H0)=H0:=zh2_ λu e=>by have:=xx.2.2.1 _ _ e;rw[dZ]at this;exact(jv this).symm
     have rP:=DR.up.go nP rs;have hX:mp (sw p a (.frz o (.dK (ks.zip us)))) Fa p=qI (.frz o (.dK (ks.zip us))):=by rw[zig_ fg];exact zm_
     rw[<- zig_ dZ];have aM:=fH.rebase fH.1 (Same.refl _);have hW:=zc7_ nP (ak.mono sF)
     generalize mp (sw p a (.frz o (.dK (ks.zip us)))) Fa=F2 at *
     generalize mp (sw p a (.frz o (.dK (ks.zip us)))) H0=cm at *
     have back:∀{F h H:Hp},Okk F2 cm F h H->H p=qI (.frz o (.dK (ks.zip us)))/\Okk F0 H0 (mp (sw p (.frz o (.dK (ks.zip us))) a) F) h (upd H p a):=λ{F h H} ok=>by
      have eF:=ok.1.1 _ _ hX;have eH:=ok.1.2.1 _ _ eF;refine⟨eH,?_⟩;have:=zmB_ (f:=sw p (.frz o (.dK (ks.zip us))) a) ok (fp ok.2.1 (by rw[eF];exact sN _))
      rw[bF,bH,zig_ eH]at this;exact this.unbase xx
     obtain⟨l,gx⟩:=zcK_ e3;have kl:=zoL_ k n.2.1 rs
     refine⟨λn m σ H=>m=xs.length-n/\n<=xs.length/\∃e F h,Hold (LofW K ws e) σ F h/\Okk F2 cm F h H/\FinS K (noEx (forM (λe x=>match setG pn e g.is x with |some e'=>body e' |none=>.no) (xs.drop n) e)) E ws F0 H0 N,
      ⟨_,rfl,kJ _,e,F2,hE,hW,aM,fin⟩,?_⟩
     rintro n' m σ H ⟨rfl,hn,e,F,h,hL,ok,fin⟩;obtain⟨eH,okB⟩:=back ok;by_cases ay:n'<xs.length
     ·right
      obtain⟨d,hd,td⟩:=gx n' xs[n'] (iL ay);refine⟨dk_go k eH (by rw[<- kl,<- l];exact ay),λab H'=>n'+1<=xs.length/\∃e F h,Hold (LofW K ws e) ab F h/\Okk F2 cm F h H'/\FinS K (noEx (forM (λe x=>match setG pn e g.is x with |some e'=>body e' |none=>.no) (xs.drop (n'+1)) e)) E ws F0 H0 N,λab H' z=>⟨xs.length-(n'+1),by lia,rfl,z⟩,λv H3 hy=>?_⟩
      obtain⟨F3,x3,hv⟩:=zoY_ k rP hd hy ok.1.1 ok.1.2.1;refine tg_R g xs[n'] v σ F3 H3 _ x3.2.1 (zoK_ td hv) λvs pl=>?_
      rw[lE ay]at fin;unfold forM at fin;cases es:setG pn e g.is xs[n']with
      |none=>rw[es]at fin;exact fin.elim
      |some e'=>
       rw[es]at fin;refine hb e' F2 cm _ F3 h H3 _ (zcQ_ hp es pl (hL.mono x3.1)) (ok.cold x3) ?_;dsimp only[Mr.bind]at fin;cases eb:body e' with
       |no=>rw[eb]at fin;exact fin
       |ex c e2=>rw[eb]at fin;exact fin.elim
       |ok o2 e2=>
        rw[eb]at fin;cases o2 with
        |nx=>exact λab F' h' H' aE aq=>⟨ay,e2,F',h',aE,aq,fin⟩
        |ct=>exact λab F' h' H' aE aq=>⟨ay,e2,F',h',aE,aq,fin⟩
        |bk=>exact λab F' h' H' aE aq=>⟨p,o,_,a,hZ,(back aq).1,bt,fin ab _ h' _ (zc7_ (nU _) aE) (back aq).2⟩
        |rt d2=>exact λv σ F hr h2 h H a1 a2 a3 aq=>⟨p,o,_,a,hZ,(back aq).1,bt,fin v σ _ hr h2 h _ (zc7_ (nU _) a1) (a2.up (nU _)) a3 (back aq).2⟩
     ·left
      have en:n'=xs.length:=by lia
      subst en;rw[mK]at fin;exact⟨zlg_ k eH (by rw[<- kl,<- l];exact iW _),⟨p,o,_,a,hZ,eH,bt,fin σ _ h _ (zc7_ (nU _) hL) okB⟩⟩
   |_=>exact fin.elim
  |_=>exact fin.elim
end
def whileM (c:Env->Mo Bool)(body:Env->Mr Env Fl):Nat->Env->Mr Env Fl
 |0,_=>.no
 |n+1,e=>ifM e (c e) ((body e).bind λo e'=>match o with |.nx=>whileM c body n e' |.ct=>whileM c body n e' |.bk=>.ok .nx e' |.rt d=>.ok (.rt d) e') (.ok .nx e)
theorem zjJ_ {tt:TT}(n:Nat){c:Env->Mo Bool}{body:Env->Mr Env Fl}(hc:∀e,EvT K tt E (Lof K e) (c e))(hb:∀e,EvS K s E ws e (body e)):EvS K (tWhile tt s) E ws env (whileM c body n env):=by
 intro F0 H0 σ F h H N hL ok fin;refine⟨λm σ H=>∃e F h,Hold (LofW K ws e) σ F h/\Okk F0 H0 F h H/\FinS K (whileM c body m e) E ws F0 H0 N,⟨n,env,F,h,hL,ok,fin⟩,?_⟩
 rintro m σ H ⟨e,F,h,hL,ok,fin⟩;cases m with
 |zero=>exact fin.elim
 |succ m=>
  unfold whileM at fin;refine hc e σ (un F h) H _ (zbs_ (hL.froz ok.2.1)) ok.thaw ?_;cases ec:c e with
  |no=>rw[ec]at fin;exact fin
  |ex x=>rw[ec]at fin;exact λF' H' y=>(fin σ _ _ _ (hL.mono (ok.back y).2.1) (ok.back y).1).back ok y
  |ok b=>
   rw[ec]at fin;intro F' H' y;obtain⟨o,hsF,ht⟩:=ok.back y;cases b with
   |false=>rw[if_neg (by decide)];exact fin σ _ h H' (hL.mono hsF) o
   |true=>
    rw[if_pos rfl];refine⟨λab cp=>∃e F h,Hold (LofW K ws e) ab F h/\Okk F0 H0 F h cp/\FinS K (whileM c body m e) E ws F0 H0 N,λab cp z=>⟨m,lU _,z⟩,?_⟩
    refine hb e F0 H0 σ _ h H' _ (hL.mono hsF) o ?_;have aF:FinS K ((body e).bind λo e'=>match o with |.nx=>whileM c body m e' |.ct=>whileM c body m e' |.bk=>.ok .nx e' |.rt d=>.ok (.rt d) e') E ws F0 H0 N:=fin
    cases eb:body e with
    |no=>rw[eb]at aF;exact aF
    |ex x e2=>rw[eb]at aF;exact aF
    |ok o e2=>
     rw[eb]at aF;cases o with
     |nx=>exact λab F' h' H' aE aq=>⟨e2,F',h',aE,aq,aF⟩
     |ct=>exact λab F' h' H' aE aq=>⟨e2,F',h',aE,aq,aF⟩
     |bk=>exact aF
     |rt a=>exact aF
theorem zgB_:∀{gs:List Ag}{vs:List V}{h:Hp},AgR K σ F H gs vs h->vs.length=gs.length
 |[],_,_,r=>by rw[r.1];rfl
 |.d d::gs,_,_,r=>by obtain⟨v,aT,h1,h2,e,j,o,r⟩:=r;rw[e,iR,iR,zgB_ r]
 |.l q::gs,_,_,r=>by obtain⟨u,v,aT,e,e1,f,r⟩:=r;rw[e,iR,iR,zgB_ r]
end
section
variable {K:jF}{E:XK}{F F' F0 F1 F2 H0 h h1 h2 h3 k H H' H1 H2:Hp}{d c:D}{ds:List D}{v u:V}{us vs:List V}{p:iQ}{Q:VK}{env:Env}{t:TE}{ws:Ws}{σ:L2.St}{G:Gi}{q:Pl}{f:Fn}{s:TS}{i:Nat}
theorem ODs.snoc:∀{ds:List D}{us:List V}{h1 h:Hp},ODs K ds us F h1->OD K d v F h2->Jn h1 h2 h->ODs K (ds++[d]) (us++[v]) F h
 |[],_,h1,h,q,o,j=>by
  unfold ODs at q;rw[q.1,j7,j7];have:h=h2:=by rw[zcl_ j];funext p;unfold un;rw[q.2 p]
  subst this;unfold ODs;exact⟨v,[],h,λ_=>qJ,rfl,no_r _ λ_=>rfl,o,by unfold ODs;exact⟨rfl,λ_=>rfl⟩⟩
 |e::es,_,h1,h,q,o,j=>by
  unfold ODs at q;obtain⟨w,ws,k1,k2,rfl,jk,a,r⟩:=q;obtain⟨m,jm,jh⟩:=zn_ jk j;rw[jN,jN];unfold ODs;exact⟨w,ws++[v],k1,m,rfl,jh,a,ODs.snoc r o jm⟩
theorem ODs.app:∀{ds es:List D}{us ws:List V}{h1 h2 h:Hp},ODs K ds us F h1->ODs K es ws F h2->Jn h1 h2 h->ODs K (ds++es) (us++ws) F h
 |[],es,_,ws,h1,h2,h,q,o,j=>by
  unfold ODs at q;rw[q.1,j7,j7];have:h=h2:=by rw[zcl_ j];funext p;unfold un;rw[q.2 p]
  subst this;exact o
 |e::ds,es,_,ws,h1,h2,h,q,o,j=>by
  unfold ODs at q;obtain⟨w,cC,k1,k2,rfl,jk,a,r⟩:=q;obtain⟨m,jm,jh⟩:=zn_ jk j;rw[jN,jN];unfold ODs;exact⟨w,cC++ws,k1,m,rfl,jh,a,ODs.app r o jm⟩
theorem zb4_ {o o':HO}{hc ha k:Hp}{ds':List D}(hs:Same F H)(dj:Dj F h)(sh:Same h H)(nt:∀p xs,h p≠qI (.tup xs))(jh:Jn (one p o) k h)(n':∀xs,o'≠.tup xs){d:D}{v:V}{hr h2:Hp}(jk:Jn hr h2 (un (one p o') k))
  (od:OD K d v F hr) (os:ODs K ds' vs F h2) (fin:∀v F' h' H' hr h2,Okk F (less H h) F' h' H'->Jn hr h2 h'->OD K d v F' hr->ODs K ds' vs F' h2->Q v H'):Q v (upd H p o'):=by
 have ok:=zbD_ hs dj sh nt;have hp:h p≠qJ:=by rw[jh.l _ _ zy_];exact sN _
 have aq:=zdZ_ (h1':=h) (hr:=h) (h':=h) ok hp n' (un (one p o') k) λq=>by
  unfold un;rw[zd_];by_cases e:q=p
  ·rw[if_pos e,if_pos e]
  ·rw[if_neg e,if_neg e]
   rcases jh q with⟨_,b⟩|⟨a,b⟩
   ·exact b.symm
   ·rw[a,b,zd_,if_neg e]
 exact fin v F _ _ hr h2 aq jk od os
def BmOk (K:jl)(r:V->List V->Hp->VK->Prop)(f:Fn):Prop:=∀x xs H Q E,CtG K f (x::xs) H Q E->r x xs H Q
def appendF:Fn:=λds=>match ds with
 |[.nd .lst xs,d]=>if xs.length<iZ then .ok .non [.nd .lst (xs++[d]),.gone]else .no
 |_=>.no
theorem zc6_ (os:ODs K ds vs F h):∀p xs,h p≠qI (.tup xs):=OD.notup.go os
theorem zbZ_ {h:Hp}(hn:∀p,h p=qJ):OD K .non .non F h:=by unfold OD;exact⟨hn,by unfold DR;rfl⟩
theorem zgC_:BmOk K rAppend appendF:=by
 rintro x xs H Q E ⟨F,h,ds,hs,dj,sh,os,fin⟩;have nt:=zc6_ os;unfold appendF at fin;split at fin
 ·rename_i ys d
  split at fin
  ·rename_i hl
   unfold ODs at os;obtain⟨w,ws,m1,m2,e1,jm,o1,os⟩:=os;cases e1;unfold ODs at os;obtain⟨y,ws2,n1,n2,e2,jn,o2,os⟩:=os;cases e2;unfold ODs at os;obtain⟨rfl,nn⟩:=os;unfold OD at o1;obtain⟨p,us,h0,hc,rfl,cl,jc,oc⟩:=o1;have e0:h0=one p (.lst us):=cl;subst e0;have em:m2=n1:=by rw[zcl_ jn];funext q;unfold un;cases z:n1 q with |none=>exact nn q |some o=>rfl
   subst em;obtain⟨a,ja,jb⟩:=zn_ jc jm;have hp:H p=qI (.lst us):=sh _ _ (jb.l _ _ zy_);refine⟨p,us,y,rfl,rfl,hp,by rw[<- ODs.len oc];exact hl,?_⟩
   have d1:Dj (one p (.lst (us++[y]))) a:=λq=>by
    rw[zd_];split
    ·rename_i e;subst e;right;exact(by rcases jb.dj q with z |z;rw[zy_]at z;cases z;exact z)
    ·exact .inl rfl
   refine zb4_ (vs:=[.ref p,y]) (ds':=[.nd .lst (ys++[d]),.gone]) (hr:=λ_=>qJ) (h2:=un (one p (.lst (us++[y]))) a) (hc:=h) (ha:=h) hs dj sh nt jb (λxs z=>by cases z) (no_l _ λ_=>rfl) (zbZ_ λ_=>rfl) ?_ fin
   unfold ODs;refine⟨.ref p,[y],_,λ_=>qJ,rfl,no_r _ λ_=>rfl,?_,?_⟩
   ·unfold OD
    exact⟨p,us++[y],_,a,rfl,rfl,zaX_ d1,ODs.snoc oc o2 ja⟩
   ·unfold ODs
    exact⟨y,[],λ_=>qJ,λ_=>qJ,rfl,no_r _ λ_=>rfl,zaY_ λ_=>rfl,by unfold ODs;exact⟨rfl,λ_=>rfl⟩⟩
  ·exact fin.elim
 ·exact fin.elim
theorem recv1 {k:Nd}{ys args:List D}{x:V}{xs:List V}(os:ODs K (.nd k ys::args) (x::xs) F h):∃p us h0 hc ha a,x=.ref p/\Cell K k p us F h0/\Jn h0 a h/\Jn hc ha a/\ODs K ys us F hc/\ODs K args xs F ha:=by
 unfold ODs at os;obtain⟨w,ws,m1,m2,e1,jm,o1,os⟩:=os;cases e1;unfold OD at o1;obtain⟨p,us,h0,hc,rfl,cl,jc,oc⟩:=o1;obtain⟨a,ja,jb⟩:=zn_ jc jm;exact⟨p,us,h0,hc,m2,a,rfl,cl,jb,ja,oc,os⟩
theorem zdj_ {o o':HO}{a:Hp}(jb:Jn (one p o) a h):Dj (one p o') a:=λq=>by
 rw[zd_];split
 ·rename_i e;subst e;right;rcases jb.dj q with z |z
  ·rw[zy_]at z;cases z
  ·exact z
 ·exact .inl rfl
theorem recv2 {bE bQ:List D}{aX:List V}{xs:List V}{a b aW:Hp}(d1:Dj (one p (.lst aX)) a)(jc:Jn aW b a)(oc:ODs K bE aX F aW)(oa:ODs K bQ xs F b):ODs K (.nd .lst bE::bQ) (.ref p::xs) F (un (one p (.lst aX)) a):=by
 have d2:Dj (one p (.lst aX)) aW:=λq=>by rcases d1 q with z |z;exact .inl z;exact .inr (jc.l.free z)
 have d3:Dj (one p (.lst aX)) b:=λq=>by rcases d1 q with z |z;exact .inl z;exact .inr (jc.r.free z)
 unfold ODs;refine⟨.ref p,xs,un (one p (.lst aX)) aW,b,rfl,?_,?_,oa⟩
 ·have:=zm3_ d2 d3 jc.dj
  rw[<- zcl_ jc]at this;exact this
 ·unfold OD
  exact⟨p,aX,_,aW,rfl,rfl,zaX_ d2,oc⟩
theorem zgU_ {y:V}:ODs K [.gone] [y] F (λ_=>qJ):=by
 unfold ODs;exact⟨y,[],λ_=>qJ,λ_=>qJ,rfl,no_r _ λ_=>rfl,zaY_ λ_=>rfl,by unfold ODs;exact⟨rfl,λ_=>rfl⟩⟩
theorem zd3_:∀{ds:List D}{us:List V},ds.length=us.length->ODs K (ds.map λ_=>.gone) us F (λ_=>qJ)
 |[],[],_=>by rw[jM];unfold ODs;exact⟨rfl,λ_=>rfl⟩
 |d::ds,u::us,l=>by rw[iN];unfold ODs;exact⟨u,us,λ_=>qJ,λ_=>qJ,rfl,no_r _ λ_=>rfl,zaY_ λ_=>rfl,zd3_ (by simpa using l)⟩
 |[],_::_,l=>by simp at l
 |_::_,[],l=>by simp at l
theorem zaV_:ODs K [] [] F (λ_=>qJ):=by unfold ODs;exact⟨rfl,λ_=>rfl⟩
theorem zcU_ {y:V}(h1:ODs K [d] [y] F h):OD K d y F h:=by
 unfold ODs at h1;obtain⟨v,vs,m1,m2,e,j,o,r⟩:=h1;cases e;unfold ODs at r;have:h=m1:=by rw[zcl_ j];funext q;unfold un;cases z:m1 q with |none=>exact r.2 q |some o=>rfl
 rw[this];exact o
theorem zdS_ {xs:List V}(h1:ODs K [d] xs F h):∃y,xs=[y]:=lY.mp (ODs.len h1).symm
theorem len2_ {l:List V}(h:l.length=2):∃a b,l=[a,b]:=by
 obtain⟨a,t,rfl⟩:=ma h;obtain⟨b,rfl⟩:=lY.mp (nS h);exact⟨a,b,rfl⟩
theorem len3_ {l:List V}(h:l.length=3):∃a b c,l=[a,b,c]:=by
 obtain⟨a,t,rfl⟩:=ma h;obtain⟨b,c,rfl⟩:=len2_ (nS h);exact⟨a,b,c,rfl⟩
theorem zjx_ {xs:List V}(h1:ODs K [] xs F h):xs=[]:=by unfold ODs at h1;exact h1.1
def extendF:Fn:=λds=>match ds with
 |[.nd .lst xs,.nd .lst ys]=>if xs.length+ys.length<=iZ then .ok .non [.nd .lst (xs++ys),.nd .lst (ys.map λ_=>.gone)]else .no
 |[.nd .lst xs,.fz d]=>(match d.un with |.nd .lst ys=>if xs.length+ys.length<=iZ then .ok .non [.nd .lst (xs++ys.map .vw),.gone]else .no |_=>.no)
 |_=>.no
theorem zgM_:BmOk K rExtend extendF:=by
 rintro x xs H Q E ⟨F,h,ds,hs,dj,sh,os,fin⟩;have nt:=zc6_ os;unfold extendF at fin;split at fin
 ·rename_i ys zs
  split at fin
  ·rename_i hl
   obtain⟨p,us,h0,hc,ha,a,rfl,cl,jb,ja,oc,oa⟩:=recv1 os;have e0:h0=one p (.lst us):=cl;subst e0;obtain⟨y,rfl⟩:=zdS_ oa;have o2:=zcU_ oa;unfold OD at o2;obtain⟨p2,us2,h2,bP,rfl,cl2,jc2,oc2⟩:=o2;have e2:h2=one p2 (.lst us2):=cl2;subst e2;have hp:H p=qI (.lst us):=sh _ _ (jb.l _ _ zy_);have cZ:H p2=qI (.lst us2):=sh _ _ (jb.r _ _ (ja.r _ _ (jc2.l _ _ zy_)));refine⟨p,p2,us,us2,rfl,rfl,hp,cZ,by rw[<- ODs.len oc,<- ODs.len oc2];exact hl,?_⟩
   obtain⟨m,jm,jh⟩:=zn_ (zau_ jc2) (zau_ ja);obtain⟨m3,jm3,jh3⟩:=zn_ jm (zau_ jh);have gp:=ODs.app oc oc2 jm3;have jg:Jn m3 (one p2 (.lst us2)) a:=zau_ jh3;refine zb4_ (vs:=[.ref p,.ref p2]) (ds':=[.nd .lst (ys++zs),.nd .lst (zs.map λ_=>.gone)]) (hr:=λ_=>qJ) (h2:=un (one p (.lst (us++us2))) a) (hc:=h) (ha:=h) hs dj sh nt jb (λxs z=>by cases z) (no_l _ λ_=>rfl) (zbZ_ λ_=>rfl) (recv2 (zdj_ jb) jg gp ?_) fin
   unfold ODs;refine⟨.ref p2,[],_,λ_=>qJ,rfl,no_r _ λ_=>rfl,?_,zaV_⟩
   unfold OD;exact⟨p2,us2,_,λ_=>qJ,rfl,rfl,no_r _ λ_=>rfl,zd3_ (ODs.len oc2)⟩
  ·exact fin.elim
 ·rename_i ys d
  split at fin
  ·rename_i zs e
   split at fin
   ·rename_i hl
    obtain⟨p,us,h0,hc,ha,a,rfl,cl,jb,ja,oc,oa⟩:=recv1 os;have e0:h0=one p (.lst us):=cl;subst e0;obtain⟨y,rfl⟩:=zdS_ oa;have o2:=zcU_ oa;unfold OD at o2;obtain⟨n2,r2⟩:=o2;have r2:=DR.un r2;rw[show(D.fz d).un=d.un from by rw[D.un],e]at r2
    obtain⟨p2,us2,rfl,n,r⟩:=r2.nd;have hp:H p=qI (.lst us):=sh _ _ (jb.l _ _ zy_);refine⟨p,p2,us,us2,rfl,rfl,hp,hs _ _ n,by rw[<- ODs.len oc,<- r.len];exact hl,?_⟩
    have ea:a=hc:=by rw[zcl_ ja];funext q;unfold un;cases z:hc q with |none=>exact n2 q |some o=>rfl
    subst ea;exact zb4_ (vs:=[.ref p,.ref p2]) (ds':=[.nd .lst (ys++zs.map D.vw),.gone]) (hr:=λ_=>qJ) (h2:=un (one p (.lst (us++us2))) a) (hc:=h) (ha:=h) hs dj sh nt jb (λxs z=>by cases z) (no_l _ λ_=>rfl) (zbZ_ λ_=>rfl) (recv2 (zdj_ jb) (no_r _ λ_=>rfl) (ODs.app oc (ODs.vw (h:=λ_=>qJ) (λ_=>rfl) r) (no_r _ λ_=>rfl)) zgU_) fin
   ·exact fin.elim
  ·exact fin.elim
 ·exact fin.elim
def clearF:Fn:=λds=>match ds with
 |[.nd .lst xs]=>.ok .non [.nd .lst []]
 |_=>.no
theorem zir_:BmOk K rClear clearF:=by
 rintro x xs H Q E ⟨F,h,ds,hs,dj,sh,os,fin⟩;have nt:=zc6_ os;unfold clearF at fin;split at fin
 ·rename_i ys
  obtain⟨p,us,h0,hc,ha,a,rfl,cl,jb,ja,oc,oa⟩:=recv1 os;have e0:h0=one p (.lst us):=cl;subst e0;have ex:=zjx_ oa;subst ex;refine⟨p,us,rfl,rfl,sh _ _ (jb.l _ _ zy_),?_⟩;have ok:=zbD_ hs dj sh nt;have hp:h p≠qJ:=by rw[jb.l _ _ zy_];exact sN _
  have aq:=zdZ_ (h1':=h) (hr:=h) (h':=h) ok hp (o':=.lst []) (λxs z=>by cases z) (un (one p (.lst [])) a) λq=>by
   unfold un;rw[zd_];by_cases e:q=p
   ·rw[if_pos e,if_pos e]
   ·rw[if_neg e,if_neg e]
    rcases jb q with⟨_,b⟩|⟨a',b⟩
    ·exact b.symm
    ·rw[a',b,zd_,if_neg e]
  have aj:=zcy_ aq (k:=one p (.lst [])) zaC_;refine fin .non F _ _ (λ_=>qJ) (one p (.lst [])) aj (no_l _ λ_=>rfl) (zbZ_ λ_=>rfl) ?_
  unfold ODs;refine⟨.ref p,[],_,λ_=>qJ,rfl,no_r _ λ_=>rfl,?_,zaV_⟩
  unfold OD;exact⟨p,[],_,λ_=>qJ,rfl,rfl,no_r _ λ_=>rfl,zaV_⟩
 ·exact fin.elim
theorem ODs.erase:∀{ds:List D}{us:List V}{h:Hp}{i:Nat}{c:D},ODs K ds us F h->ds[i]?=qI c->∃u h1 h2,us[i]?=qI u/\Jn h1 h2 h/\OD K c u F h1/\ODs K (ds.eraseIdx i) (us.eraseIdx i) F h2
 |[],_,_,_,_,_,e=>by simp at e
 |d::ds,_,h,0,c,q,e=>by
  unfold ODs at q;obtain⟨v,vs,h1,h2,rfl,j,a,r⟩:=q;simp at e;subst e;exact⟨v,h1,h2,rfl,j,a,r⟩
 |d::ds,_,h,i+1,c,q,e=>by
  unfold ODs at q;obtain⟨v,vs,h1,h2,rfl,j,a,r⟩:=q;obtain⟨u,k1,k2,e1,j1,o1,f⟩:=ODs.erase r (by simpa using e)
  obtain⟨m,jm,jh⟩:=zn_ j1 (zau_ j);refine⟨u,k1,m,by simpa using e1,jh,o1,?_⟩
  rw[mz,mz];unfold ODs;exact⟨v,vs.eraseIdx i,h1,k2,rfl,zau_ jm,a,f⟩
def popAtF:Fn:=λds=>match ds with
 |[.nd .lst xs,.int i]=>if -(2 ^ 63)<=i/\i<2 ^ 63 then(match ixN xs.length i with |some j=>(match xs[j]? with |some d=>.ok d [.nd .lst (xs.eraseIdx j),.int i]|none=>.no)|none=>.no)else .no
 |_=>.no
theorem zjC_:BmOk K rPopAt popAtF:=by
 rintro x xs H Q E ⟨F,h,ds,hs,dj,sh,os,fin⟩;have nt:=zc6_ os;unfold popAtF at fin;split at fin
 ·rename_i ys i
  split at fin
  ·rename_i hi
   obtain⟨p,us,h0,hc,ha,a,rfl,cl,jb,ja,oc,oa⟩:=recv1 os;have e0:h0=one p (.lst us):=cl;subst e0;obtain⟨y,rfl⟩:=zdS_ oa;have o2:=zcU_ oa;unfold OD at o2;obtain⟨n2,r2⟩:=o2;cases r2.int;cases ej:ixN ys.length i with
   |none=>rw[ej]at fin;exact fin.elim
   |some j=>
    rw[ej]at fin;dsimp only at fin;cases ed:ys[j]? with
    |none=>rw[ed]at fin;exact fin.elim
    |some d=>
     rw[ed]at fin;dsimp only at fin;obtain⟨w,k1,k2,ew,jk,ow,oe⟩:=ODs.erase oc ed;have ea:a=hc:=by rw[zcl_ ja];funext q;unfold un;cases z:hc q with |none=>exact n2 q |some o=>rfl
     subst ea;have el:=ODs.len oc;refine⟨p,us,i,j,w,rfl,rfl,sh _ _ (jb.l _ _ zy_),hi.1,hi.2,by rw[<- el];exact(zdV_ ej).1,ew,?_⟩
     have iu:Dj (one p (.lst (us.eraseIdx j))) k1:=λq=>by rcases zdj_ (o':=.lst (us.eraseIdx j)) jb q with z |z;exact .inl z;exact .inr (jk.l.free z)
     have ir:Dj (one p (.lst (us.eraseIdx j))) k2:=λq=>by rcases zdj_ (o':=.lst (us.eraseIdx j)) jb q with z |z;exact .inl z;exact .inr (jk.r.free z)
     refine zb4_ (vs:=[.ref p,.int i]) (ds':=[.nd .lst (ys.eraseIdx j),.int i]) (d:=d) (v:=w) (hr:=k1) (h2:=un (one p (.lst (us.eraseIdx j))) k2) (hc:=h) (ha:=h) hs dj sh nt jb (λxs z=>by cases z) ?_ ow (recv2 ir (no_r _ λ_=>rfl) oe ?_) fin
     ·rw[zcl_ jk]
      intro q;unfold un;cases x1:one p (.lst (us.eraseIdx j)) q with
      |some o=>
       left;rcases iu q with z |z
       ·rw[z]at x1;cases x1
       ·exact⟨z,rfl⟩
      |none=>
       cases x2:k1 q with
       |some o=>
        right;rcases jk.dj q with z |z
        ·rw[z]at x2;cases x2
        ·exact⟨z,rfl⟩
       |none=>left;exact⟨rfl,rfl⟩
     ·unfold ODs
      exact⟨.int i,[],λ_=>qJ,λ_=>qJ,rfl,no_r _ λ_=>rfl,by unfold OD;exact⟨λ_=>rfl,by unfold DR;rfl⟩,zaV_⟩
  ·exact fin.elim
 ·exact fin.elim
def insL {α:Type}(i:Nat)(x:α)(l:List α):List α:=l.take i++x::l.drop i
def rInsert:V->List V->Hp->VK->Prop:=λx vs H Q=>∃(l:iQ) (xs:List V) (i:Int) (y:V),x=.ref l/\vs=[.int i,y]/\H l=qI (.lst xs)/\0<=i/\i.toNat<=xs.length/\xs.length<iZ/\Q .non (upd H l (.lst (insL i.toNat y xs)))
theorem zei_ {X:Cx}:MtM X "list.insert" rInsert:=by
 intro pins s σ H x vs v us Q I rx rv h;obtain⟨l,xs,i,y,rfl,rfl,hH,hi0,hi,hz,q⟩:=h;cases rx;obtain⟨u1,u2,rfl,r1,r2⟩:=vals2 rv;obtain⟨t,rfl⟩:=r1;obtain⟨z,its,n,r,hl,e⟩:=I.lstM hH;have hf:pA i=qK:=fitsIndex_both (by lia) (by rw[sizeLine_eq]at hz;lia)
 refine call_meets mm ⟨_,e,rfl⟩ PySem.F.entry_list_insert (PySem.F.args_list_insert_3 _ _ _) (n4 l its.toArray n i t u2 (by simp[hf]) (by rw[iO];lia)) ⟨e,?_⟩
 refine⟨.non,_,I.lset (its':=insL i.toNat u2 its) hH e ?_ ?_ ?_,rfl,q⟩
 ·have e1:(if i<0 then(i+(its.toArray.size:Int)).toNat else min i.toNat its.toArray.size)=i.toNat:=by
   rw[if_neg (by lia),iO];lia
  show(its.toArray.extract 0 (if i<0 then(i+(its.toArray.size:Int)).toNat else min i.toNat its.toArray.size)).push u2++its.toArray.extract (if i<0 then(i+(its.toArray.size:Int)).toNat else min i.toNat its.toArray.size)=_
  rw[e1];apply Array.ext';unfold insL;simp[List.extract_eq_drop_take,nR]
 ·exact(r.take _).append (.cons r2 (r.drop _))
 ·unfold insL;rw[iP,ki,iR,lp];lia
def insertF:Fn:=λds=>match ds with
 |[.nd .lst xs,.int i,d]=>if 0<=i/\i.toNat<=xs.length/\xs.length<iZ/\d.flat?.isSome=qK then .ok .non [.nd .lst (insL i.toNat d xs),.int i,d]else .no
 |_=>.no
theorem zk5_ {d:D}(hd:d.flat?.isSome=qK)(o:OD K d v F h):(∀q,h q=qJ)/\OD K d v F λ_=>qJ:=by
 cases d with
 |non=>unfold OD at o ⊢;exact⟨o.1,λ_=>rfl,o.2⟩
 |bl=>unfold OD at o ⊢;exact⟨o.1,λ_=>rfl,o.2⟩
 |int=>unfold OD at o ⊢;exact⟨o.1,λ_=>rfl,o.2⟩
 |str=>unfold OD at o ⊢;exact⟨o.1,λ_=>rfl,o.2⟩
 |_=>cases hd
theorem ODs.ins (o:OD K d v F λ_=>qJ):∀{ds:List D}{us:List V}{h:Hp}(i:Nat),ODs K ds us F h->ODs K (insL i d ds) (insL i v us) F h
 |ds,us,h,0,q=>by show ODs K (d::ds) (v::us) F h;unfold ODs;exact⟨v,us,λ_=>qJ,h,rfl,no_l _ λ_=>rfl,o,q⟩
 |[],us,h,i+1,q=>by
  have e:us=[]:=by unfold ODs at q;exact q.1
  subst e;show ODs K [d] [v] F h;unfold ODs;exact⟨v,[],λ_=>qJ,h,rfl,no_l _ λ_=>rfl,o,q⟩
 |x::ds,us,h,i+1,q=>by
  unfold ODs at q;obtain⟨u,vs,h1,h2,rfl,j,a,r⟩:=q;show ODs K (x::insL i d ds) (u::insL i v vs) F h
  unfold ODs;exact⟨u,_,h1,h2,rfl,j,a,ODs.ins o i r⟩
theorem zgk_:BmOk K rInsert insertF:=by
 rintro x xs H Q E ⟨F,h,ds,hs,dj,sh,os,fin⟩;have nt:=zc6_ os;unfold insertF at fin;split at fin
 ·rename_i ys i d
  split at fin
  ·rename_i hi
   obtain⟨p,us,h0,hc,ha,a,rfl,cl,jb,ja,oc,oa⟩:=recv1 os;have e0:h0=one p (.lst us):=cl;subst e0;unfold ODs at oa;obtain⟨vi,ws,b1,b2,rfl,cQ,oi,oa⟩:=oa;unfold ODs at oa;obtain⟨y,ws2,c1,c2,rfl,gu,od,oa⟩:=oa;unfold ODs at oa;obtain⟨rfl,nn⟩:=oa;obtain⟨m1,od0⟩:=zk5_ hi.2.2.2 od;unfold OD at oi;obtain⟨n1,ri⟩:=oi;cases ri.int;have n2:∀q,ha q=qJ:=λq=>by
    rcases cQ q with⟨_,z⟩|⟨_,z⟩
    ·rw[z];rcases gu q with⟨_,w⟩|⟨_,w⟩
     ·rw[w];exact nn q
     ·rw[w];exact m1 q
    ·rw[z];exact n1 q
   have ea:a=hc:=by rw[zcl_ ja];funext q;unfold un;cases z:hc q with |none=>exact n2 q |some o=>rfl
   subst ea;have hp:H p=qI (.lst us):=sh _ _ (jb.l _ _ zy_);have el:=ODs.len oc;refine⟨p,us,i,y,rfl,rfl,hp,hi.1,by rw[<- el];exact hi.2.1,by rw[<- el];exact hi.2.2.1,?_⟩
   refine zb4_ (vs:=[.ref p,.int i,y]) (ds':=[.nd .lst (insL i.toNat d ys),.int i,d]) (hr:=λ_=>qJ) (h2:=un (one p (.lst (insL i.toNat y us))) a) (hc:=h) (ha:=h) hs dj sh nt jb (λxs z=>by cases z) (no_l _ λ_=>rfl) (zbZ_ λ_=>rfl) (recv2 (zdj_ jb) (no_r _ λ_=>rfl) (ODs.ins od0 i.toNat oc) ?_) fin
   unfold ODs;refine⟨.int i,[y],λ_=>qJ,λ_=>qJ,rfl,no_r _ λ_=>rfl,by unfold OD;exact⟨λ_=>rfl,by unfold DR;rfl⟩,?_⟩
   unfold ODs;exact⟨y,[],λ_=>qJ,λ_=>qJ,rfl,no_r _ λ_=>rfl,od0,zaV_⟩
  ·exact fin.elim
 ·exact fin.elim
theorem recvV {v0 d0:D}{args:List D}{x y:V}{xs:List V}(os:ODs K (v0::d0::args) (x::y::xs) F h):∃h1 h2 h3 a,Jn h1 a h/\Jn h2 h3 a/\OD K v0 x F h1/\OD K d0 y F h2/\ODs K args xs F h3:=by
 unfold ODs at os;obtain⟨w,ws,m1,m2,e1,jm,o1,os⟩:=os;cases e1;unfold ODs at os;obtain⟨w2,ws2,n1,n2,e2,jn,o2,os⟩:=os;cases e2;exact⟨m1,n1,n2,m2,jm,jn,o1,o2,os⟩
def rSetD:TSet:=λo i v H Q=>atD o i H λa kvs k=>kvs.length<iZ/\Q (upd H a (.dK (putK kvs k v)))
def rSetA:TSet:=λo i v H Q=>mSet o i v H Q\/rSetD o i v H Q
theorem set_A {X:Cx}(hu:X.A.units+60<cLine):PSet X rSetA:=by
 intro pins s σ H o i v ov iv u Q I ro ri rv h;rcases h with h |h
 ·exact set_M pins s σ H o i v ov iv u Q I ro ri rv h
 ·obtain⟨a,kvs,k,rfl,rfl,hd,hl,q⟩:=zpd_ h
  cases ro;exact zgY_ (by lia) I (DPut.k hd hl) ri rv λs4 I4=>⟨_,I4,q⟩
def setIF:Fn:=λds=>match ds with
 |[v,.nd .lst xs,.int i]=>(match ixN xs.length i with |some j=>.ok .non [.gone,.nd .lst (xs.set j v),.int i]|none=>.no)
 |[v,.nd (.dct ks) xs,k]=>(match keyD k with
  |some k'=>if kIx ks k'<ks.length/\xs.length<iZ then .ok .non [.gone,.nd (.dct ks) (xs.set (kIx ks k') v),k]else if xs.length<iZ/\¬kIx ks k'<ks.length then .ok .non [.gone,.nd (.dct (ks++[k'])) (xs++[v]),k]else .no
  |none=>.no)
 |_=>.no
theorem zfy_ {o o':HO}{k m:Hp}{ds':List D}(hs:Same F H)(dj:Dj F h)(sh:Same h H)(nt:∀p xs,h p≠qI (.tup xs))(jh:Jn (one p o) k h)(n':∀xs,o'≠.tup xs)(sm:Same m (un (one p o') k)){d:D}{v:V}{hr h2:Hp}(jk:Jn hr h2 m)
  (od:OD K d v F hr) (os:ODs K ds' vs F h2) (fin:∀v F' h' H' hr h2,Okk F (less H h) F' h' H'->Jn hr h2 h'->OD K d v F' hr->ODs K ds' vs F' h2->Q v H'):Q v (upd H p o'):=by
 have ok:=zbD_ hs dj sh nt;have hp:h p≠qJ:=by rw[jh.l _ _ zy_];exact sN _
 have aq:=zdZ_ (h1':=h) (hr:=h) (h':=h) ok hp n' (un (one p o') k) λq=>by
  unfold un;rw[zd_];by_cases e:q=p
  ·rw[if_pos e,if_pos e]
  ·rw[if_neg e,if_neg e]
   rcases jh q with⟨_,b⟩|⟨a,b⟩
   ·exact b.symm
   ·rw[a,b,zd_,if_neg e]
 exact fin v F _ _ hr h2 (zcy_ aq sm) jk od os
theorem ziM_:∀{ks:List Key}{k:Key},kIx ks k<ks.length↔k∈ks
 |[],k=>by simp[kIx]
 |k0::ks,k=>by
  unfold kIx;by_cases e:k0=k
  ·subst e;simp
  ·rw[if_neg e,iR,Nat.succ_lt_succ_iff,ziM_,ju]
   exact⟨.inr,λz=>by rcases z with z |z;exact absurd z.symm e;exact z⟩
theorem zle_:∀{ks:List Key}{us:List V}{k:Key}{v:V},k∈ks->ks.Nodup->ks.length=us.length->putK (ks.zip us) k v=ks.zip (us.set (kIx ks k) v):=λ{ks us k v} hk nd hl=>by
 have ha:((ks.zip us).any λkv=>decide (kv.1=k))=qK:=by
  rw[nH];obtain⟨i,hi,e⟩:=List.getElem_of_mem hk;exact⟨(ks[i],us[i]'(by lia)),kj (i:=i) (by rw[lF];exact⟨by rw[iL hi],by rw[iL]⟩),by simpa using e⟩
 unfold putK;rw[if_pos ha];clear ha;induction ks generalizing us with
 |nil=>simp at hk
 |cons k0 ks ih=>
  cases us with
  |nil=>simp at hl
  |cons u us=>
   obtain⟨n1,n2⟩:=lJ.mp nd;rw[jt,iN];unfold kIx;by_cases e:k0=k
   ·subst e
    rw[if_pos rfl,if_pos rfl,mr,jt];congr 1;have:∀q∈ks.zip us,(if q.1=k0 then(q.1,v)else q)=q:=λq hq=>by
     have h1:=(lZ (a:=q.1) (b:=q.2) hq).1;rw[if_neg (show¬q.1=k0 from λz=>n1 (z ▸ h1))]
    exact(ka this).trans (oj _)
   ·rw[if_neg e,if_neg e,lX,jt]
    congr 1;exact ih (by rcases ju.mp hk with z |z;exact absurd z.symm e;exact z) n2 (by simpa using hl)
theorem zjt_ {ks:List Key}{us:List V}{k:Key}{v:V}(hk:k∉ks)(hl:ks.length=us.length):putK (ks.zip us) k v=(ks++[k]).zip (us++[v]):=by
 have ha:¬((ks.zip us).any λkv=>decide (kv.1=k))=qK:=by
  rw[nH];rintro⟨q,hq,e⟩;exact hk (by have:=(lZ hq).1;simp at e;rw[<- e];exact this)
 unfold putK;rw[if_neg ha,List.zip_append hl];rfl
theorem zjV_ {k:Nd}{ys:List D}(o:OD K (.nd k ys) v F h):∃p us h0 hc,v=.ref p/\Cell K k p us F h0/\Jn h0 hc h/\ODs K ys us F hc:=by unfold OD at o;exact o
theorem ods3 {a b c:D}{x y z:V}{h1 h2 h3 m:Hp}(o1:OD K a x F h1)(o2:OD K b y F h2)(o3:OD K c z F h3)(j1:Jn h2 h3 m)(j2:Jn h1 m h):ODs K [a,b,c] [x,y,z] F h:=by
 unfold ODs;refine⟨x,[y,z],h1,m,rfl,j2,o1,?_⟩;unfold ODs;refine⟨y,[z],h2,h3,rfl,j1,o2,?_⟩;unfold ODs;exact⟨z,[],h3,λ_=>qJ,rfl,no_r _ λ_=>rfl,o3,zaV_⟩
theorem zoQ_ {x o i:V}{QQ:Hp->Prop}(h0:CtG K setIF [x,o,i] H (λv H'=>v=.non->QQ H') E):rSetA o i x H QQ:=by
 obtain⟨F,h,ds,hs,dj,sh,os,fin⟩:=h0;have nt:=zc6_ os;unfold setIF at fin;split at fin
 ·rename_i v0 ys j0
  obtain⟨h1,h2,h3,a,ja,jb,ov,orr,oi⟩:=recvV os;have oi:=zcU_ oi;unfold OD at oi;obtain⟨n3,r3⟩:=oi;cases r3.int;obtain⟨p,us,c0,hc,rfl,cl,jc,oc⟩:=zjV_ orr;have e0:c0=one p (.lst us):=cl;subst e0;have ea:a=h2:=by rw[zcl_ jb];funext q;unfold un;cases z:h2 q with |none=>exact n3 q |some o=>rfl
  subst ea;cases ej:ixN ys.length j0 with
  |none=>rw[ej]at fin;exact fin.elim
  |some j=>
   rw[ej]at fin;dsimp only at fin;have eY:=(zdV_ ej).2.1;obtain⟨u,k1,k2,eu,jk,ow,g⟩:=ODs.focus oc (iL eY);obtain⟨m,jm,jh⟩:=zn_ jc (zau_ ja);have d1:Dj h1 hc:=λq=>(jm.dj q).symm
   have d2:Dj h1 k2:=λq=>by rcases d1 q with z |z;exact .inl z;exact .inr (jk.r.free z)
   have on:=g v0 F x h1 (un h1 k2) (Same.refl _) ov (zaX_ d2);have hp:H p=qI (.lst us):=sh _ _ (jh.l _ _ zy_);have sm:Same (un h1 k2) m:=λq o e=>by
    unfold un at e;cases z:h1 q with
    |some w=>rw[z]at e;cases e;exact jm.r _ _ z
    |none=>rw[z]at e;exact jm.l _ _ (jk.r _ _ e)
   have dp:Dj (one p (.lst (us.set j x))) (un h1 k2):=λq=>by
    rcases zdj_ (o':=.lst (us.set j x)) jh q with z |z
    ·exact .inl z
    ·exact .inr (sm.free z)
   refine .inl ⟨us,hp,?_⟩;rw[<- ODs.len oc,ej];refine zfy_ (vs:=[x,.ref p,.int j0]) (m:=un (one p (.lst (us.set j x))) (un h1 k2)) (d:=.non) (v:=.non) (Q:=λv H'=>v=.non->QQ H') (hr:=λ_=>qJ) hs dj sh nt jh (λxs z=>by cases z) (λq o e=>?_) (no_l _ λ_=>rfl) (zbZ_ λ_=>rfl) (ods3 (zaY_ λ_=>rfl) ?_ (by unfold OD;exact⟨λ_=>rfl,by unfold DR;rfl⟩) (no_r _ λ_=>rfl) (no_l _ λ_=>rfl)) fin rfl
   ·unfold un at e ⊢
    cases z:one p (.lst (us.set j x)) q with
    |some w=>rw[z]at e;exact e
    |none=>rw[z]at e;exact sm _ _ e
   ·unfold OD
    exact⟨p,us.set j x,_,un h1 k2,rfl,rfl,zaX_ dp,on⟩
 ·rename_i v0 ks ys key
  obtain⟨h1,h2,h3,a,ja,jb,ov,orr,oi⟩:=recvV os;have oi:=zcU_ oi;obtain⟨p,us,c0,hc,rfl,cl,jc,oc⟩:=zjV_ orr;obtain⟨e0,el,nd⟩:=cl;subst e0;cases ek:keyD key with
  |none=>rw[ek]at fin;exact fin.elim
  |some k'=>
   rw[ek]at fin;dsimp only at fin;have ck:(∀q,h3 q=qJ)/\DR K key i F:=by
    have:∀{d:D}{k:Key},keyD d=qI k->d.cold=qK:=λ{d}=>by
     cases d with
     |nd=>intro k e;cases e
     |_=>intro k e;rfl
    exact OD.cold (this ek) oi
   obtain⟨n3,r3⟩:=ck;have kv:=zjT_ ek r3;have ea:a=h2:=by rw[zcl_ jb];funext q;unfold un;cases z:h2 q with |none=>exact n3 q |some o=>rfl
   subst ea;obtain⟨m,jm,jh⟩:=zn_ jc (zau_ ja);have hp:H p=qI (.dK (ks.zip us)):=sh _ _ (jh.l _ _ zy_);have d1:Dj h1 hc:=λq=>(jm.dj q).symm
   split at fin
   ·rename_i gR
    obtain⟨hk,c_⟩:=gR;have hj:kIx ks k'<ys.length:=by rw[ODs.len oc,<- el];exact hk
    obtain⟨u,k1,k2,eu,jk,ow,g⟩:=ODs.focus oc (iL hj);have d2:Dj h1 k2:=λq=>by rcases d1 q with z |z;exact .inl z;exact .inr (jk.r.free z)
    have on:=g v0 F x h1 (un h1 k2) (Same.refl _) ov (zaX_ d2);have sm:Same (un h1 k2) m:=λq o e=>by
     unfold un at e;cases z:h1 q with
     |some w=>rw[z]at e;cases e;exact jm.r _ _ z
     |none=>rw[z]at e;exact jm.l _ _ (jk.r _ _ e)
    have dp:Dj (one p (.dK (ks.zip (us.set (kIx ks k') x)))) (un h1 k2):=λq=>by
     rcases zdj_ (o':=.dK (ks.zip (us.set (kIx ks k') x))) jh q with z |z
     ·exact .inl z
     ·exact .inr (sm.free z)
    refine .inr (zli_ rfl kv.1 hp ⟨?_,?_⟩)
    ·rw[k5,el,l9,<- ODs.len oc];exact c_
    ·rw[zle_ (ziM_.mp hk) nd el]
     refine zfy_ (vs:=[x,.ref p,i]) (m:=un (one p (.dK (ks.zip (us.set (kIx ks k') x)))) (un h1 k2)) (d:=.non) (v:=.non) (Q:=λv H'=>v=.non->QQ H') (hr:=λ_=>qJ) hs dj sh nt jh (λxs z=>by cases z) (λq o e=>?_) (no_l _ λ_=>rfl) (zbZ_ λ_=>rfl) (ods3 (zaY_ λ_=>rfl) ?_ oi (λq=>.inr ⟨n3 q,rfl⟩) (no_l _ λ_=>rfl)) fin rfl
     ·unfold un at e ⊢
      cases z:one p (.dK (ks.zip (us.set (kIx ks k') x))) q with
      |some w=>rw[z]at e;exact e
      |none=>rw[z]at e;exact sm _ _ e
     ·unfold OD
      exact⟨p,us.set (kIx ks k') x,_,un h1 k2,rfl,⟨rfl,by rw[jO];exact el,nd⟩,zaX_ dp,on⟩
   ·split at fin
    ·rename_i c_
     obtain⟨hl,hk⟩:=c_;have bz:k'∉ks:=λz=>hk (ziM_.mpr z)
     refine .inr (zli_ rfl kv.1 hp ⟨by rw[k5,el,l9,<- ODs.len oc];exact hl,?_⟩)
     rw[zjt_ bz el];have on:=ODs.snoc oc ov jm;have dp:=zdj_ (o':=.dK ((ks++[k']).zip (us++[x]))) jh;refine zfy_ (vs:=[x,.ref p,i]) (m:=un (one p (.dK ((ks++[k']).zip (us++[x])))) m) (d:=.non) (v:=.non) (Q:=λv H'=>v=.non->QQ H') (hr:=λ_=>qJ) hs dj sh nt jh (λxs z=>by cases z) (Same.refl _) (no_l _ λ_=>rfl) (zbZ_ λ_=>rfl) (ods3 (zaY_ λ_=>rfl) ?_ oi (λq=>.inr ⟨n3 q,rfl⟩) (no_l _ λ_=>rfl)) fin rfl
     unfold OD;exact⟨p,us++[x],_,m,rfl,⟨rfl,by simp[el],mC.mpr ⟨nd,by simp,by rintro a ha b hb rfl;simp at hb;subst hb;exact bz ha⟩⟩,zaX_ dp,on⟩
    ·exact fin.elim
 ·exact fin.elim
theorem zf6_ {dx:iQ}{o o':HO}{k m:Hp}{ds':List D}(hs:Same F H)(dj:Dj F h)(sh:Same h H)(nt:∀p xs,h p≠qI (.tup xs))(jh:Jn (two p dx o) k h)(n':∀xs,o'≠.tup xs)(sm:Same m (un (two p dx o') k)){d:D}{v:V}{hr h2:Hp}(jk:Jn hr h2 m)
  (od:OD K d v F hr) (os:ODs K ds' vs F h2) (fin:∀v F' h' H' hr h2,Okk F (less H h) F' h' H'->Jn hr h2 h'->OD K d v F' hr->ODs K ds' vs F' h2->Q v H'):Q v (upd H p o'):=by
 have ok:=zbD_ hs dj sh nt;have hp:h p≠qJ:=by rw[jh.l _ _ zm7_];exact sN _
 have aq:=zdZ_ (h1':=h) (hr:=h) (h':=h) ok hp n' (un (two p dx o') k) λq=>by
  unfold un;rw[zaL_];by_cases e:q=p
  ·rw[if_pos e,if_pos e]
  ·rw[if_neg e,if_neg e]
   rcases jh q with⟨a,b⟩|⟨a,b⟩
   ·rw[zaL_,if_neg e]at a
    rw[b];split at a
    ·cases a
    ·rename_i z;rw[if_neg z]
   ·rw[a,b,zaL_,if_neg e];split<;>(rename_i z;exact z.symm)
 exact fin v F _ _ hr h2 (zcy_ aq sm) jk od os
theorem zhl_:∀{ns:List Str}{us:List V}{f:Str}{v:V},f∈ns->ns.length=us.length->putF f v (ns.zip us)=ns.zip (us.set (ns.idxOf f) v)
 |[],_,_,_,h,_=>by simp at h
 |n::ns,[],_,_,_,l=>by simp at l
 |n::ns,u::us,f,v,h,l=>by
  rw[jt,putF];by_cases e:n=f
  ·subst e;rw[if_pos rfl];simp
  ·rw[if_neg e,zhl_ (by rcases ju.mp h with z |z;exact absurd z.symm e;exact z) (by simpa using l),mn,show(n == f)=qL from beq_eq_false_iff_ne.mpr e,cond_false,lX,jt]
def setFF (f:Str):Fn:=λds=>match ds with
 |[v,.nd (.obj c ns) xs]=>if ns.length<1000 then(if f∈ns then .ok .non [.gone,.nd (.obj c ns) (xs.set (ns.idxOf f) v)]else .ok .non [.gone,.nd (.obj c (ns++[f])) (xs++[v])])else .no
 |_=>.no
theorem zlz_ {dx:iQ}{o o':HO}{a:Hp}(jb:Jn (two p dx o) a h):Dj (two p dx o') a:=λq=>by
 rcases jb.dj q with z |z
 ·left
  rw[zaL_]at z ⊢;split at z
  ·cases z
  ·rename_i e;rw[if_neg e];exact z
 ·exact .inr z
theorem ods2 {a b:D}{x y:V}{h1 h2:Hp}(o1:OD K a x F h1)(o2:OD K b y F h2)(j2:Jn h1 h2 h):ODs K [a,b] [x,y] F h:=by
 unfold ODs;refine⟨x,[y],h1,h2,rfl,j2,o1,?_⟩;unfold ODs;exact⟨y,[],h2,λ_=>qJ,rfl,no_r _ λ_=>rfl,o2,zaV_⟩
theorem zlY_ {x o:V}{n:Str}{v0:D}{c':Str}{ns:List Str}{ys:List D}{QQ:Hp->Prop}(h0:CtX K (setFF n) [v0,.nd (.obj c' ns) ys] [x,o] H (λv H'=>v=.non->QQ H') E):
  ∃a,o=.ref a/\∃dx fs,H a=qI (.ins (gA K c') dx fs)/\fs.length<1000/\QQ (upd H a (.ins (gA K c') dx (putF n x fs))):=by
 obtain⟨F,h,hs,dj,sh,os,fin⟩:=h0;have nt:=zc6_ os;unfold setFF at fin;dsimp only at fin
 ·split at fin
  ·rename_i hl
   obtain⟨h1,h2,h3,a,ja,jb,ov,orr,oi⟩:=recvV os;obtain⟨p,us,c0,hcc,rfl,cl,jc,oc⟩:=zjV_ orr;obtain⟨dx,cy,e0,el⟩:=cl;subst e0;unfold ODs at oi;have ea:a=h2:=by rw[zcl_ jb];funext q;unfold un;cases z:h2 q with |none=>exact oi.2 q |some o=>rfl
   subst ea;obtain⟨m,jm,jh⟩:=zn_ jc (zau_ ja);have hp:H p=qI (.ins (gA K c') dx (ns.zip us)):=sh _ _ (jh.l _ _ zm7_);have d1:Dj h1 hcc:=λq=>(jm.dj q).symm
   refine⟨p,rfl,dx,ns.zip us,hp,by rw[k5,el,l9,<- el];exact hl,?_⟩
   split at fin
   ·rename_i hn
    have hj:ns.idxOf n<ys.length:=by rw[ODs.len oc,<- el];exact lR.mpr hn
    obtain⟨u,k1,k2,eu,jk,ow,g⟩:=ODs.focus oc (iL hj);have d2:Dj h1 k2:=λq=>by rcases d1 q with z |z;exact .inl z;exact .inr (jk.r.free z)
    have on:=g v0 F x h1 (un h1 k2) (Same.refl _) ov (zaX_ d2);have sm:Same (un h1 k2) m:=λq o e=>by
     unfold un at e;cases z:h1 q with
     |some w=>rw[z]at e;cases e;exact jm.r _ _ z
     |none=>rw[z]at e;exact jm.l _ _ (jk.r _ _ e)
    have dp:Dj (two p dx (.ins (gA K c') dx (ns.zip (us.set (ns.idxOf n) x)))) (un h1 k2):=λq=>by
     rcases zlz_ (o':=.ins (gA K c') dx (ns.zip (us.set (ns.idxOf n) x))) jh q with z |z
     ·exact .inl z
     ·exact .inr (sm.free z)
    rw[zhl_ hn el];refine zf6_ (vs:=[x,.ref p]) (m:=un (two p dx (.ins (gA K c') dx (ns.zip (us.set (ns.idxOf n) x)))) (un h1 k2)) (d:=.non) (v:=.non) (Q:=λv H'=>v=.non->QQ H') (hr:=λ_=>qJ) hs dj sh nt jh (λxs z=>by cases z) (λq o e=>?_) (no_l _ λ_=>rfl) (zbZ_ λ_=>rfl) (ods2 (zaY_ λ_=>rfl) ?_ (no_l _ λ_=>rfl)) fin rfl
    ·unfold un at e ⊢
     cases z:two p dx (.ins (gA K c') dx (ns.zip (us.set (ns.idxOf n) x))) q with
     |some w=>rw[z]at e;exact e
     |none=>rw[z]at e;exact sm _ _ e
    ·unfold OD
     exact⟨p,us.set (ns.idxOf n) x,_,un h1 k2,rfl,⟨dx,cy,rfl,by rw[jO];exact el⟩,zaX_ dp,on⟩
   ·rename_i hn
    rw[zfI_ x hn el.symm];have on:=ODs.snoc oc ov jm;have dp:=zlz_ (o':=.ins (gA K c') dx ((ns++[n]).zip (us++[x]))) jh;refine zf6_ (vs:=[x,.ref p]) (m:=un (two p dx (.ins (gA K c') dx ((ns++[n]).zip (us++[x])))) m) (d:=.non) (v:=.non) (Q:=λv H'=>v=.non->QQ H') (hr:=λ_=>qJ) hs dj sh nt jh (λxs z=>by cases z) (Same.refl _) (no_l _ λ_=>rfl) (zbZ_ λ_=>rfl) (ods2 (zaY_ λ_=>rfl) ?_ (no_l _ λ_=>rfl)) fin rfl
    unfold OD;exact⟨p,us++[x],_,m,rfl,⟨dx,cy,rfl,by simp[el]⟩,zaX_ dp,on⟩
  ·exact fin.elim
def tSFldA (K:jl)(cs:List Str)(t tv:TE)(f:Str):TS:=λN σ H=>∃c∈cs,mSFld (gA K c) t tv f N σ H
def clsAt (env:Env)(q:Pl):Option Str:=match atE env q with |some (.nd (.obj c _) _)=>qI c |_=>qJ
def setFM (G:Gi)(n:Str)(p:Pt)(x:A)(env:Env):Mr Env Fl:=(evG G env [x,.l p]).bind λgs e=>match gs with
 |[g,.l q]=>(match clsAt e q with |some c=>if c∈G.cs then dropM (callG (setFF n) [g,.l q] e)else .no |none=>.no)
 |_=>.no
theorem zhZ_ (g0:G.Ok K)(n:Str)(pt:Pt)(x:A):EvS K (tSFldA K G.cs (pt.x.den K G E) (x.t.den K G E) n) E ws env (setFM G n pt x env):=by
 intro F0 H0 σ F h H N hL ok fin;unfold setFM at fin;have main:∀c∈G.cs,(∀gs e,evG G env [x,.l pt]=.ok gs e->∃g q,gs=[g,.l q]/\clsAt e q=qI c)->tSFldA K G.cs (pt.x.den K G E) (x.t.den K G E) n N σ H:=λc hc hg=>⟨c,hc,by
  have:=zck_ (K:=K) (E:=E) (ws:=ws) g0 [x,.l pt] env;rw[show X.dens K G E ([x,.l pt].map A.t)=tCons (x.t.den K G E) (tCons (pt.x.den K G E) tNil)from rfl]at this
  have key:FinG K (evG G env [x,.l pt]) E ws σ F0 H0 H (λvs H2=>match vs with |[y,.ref a]=>∃dx fs,H2 a=qI (.ins (gA K c) dx fs)/\fs.length<1000/\N.nx σ (upd H2 a (.ins (gA K c) dx (putF n y fs)))|_=>False):=by
   cases e:evG G env [x,.l pt]with
   |no=>rw[e]at fin;exact fin
   |ex c e'=>rw[e]at fin;exact λF h H hL ok=>fin σ F h H hL ok
   |ok gs e'=>
    rw[e]at fin;obtain⟨g,q,rfl,ecl⟩:=hg gs e' e;dsimp only[Mr.bind]at fin;rw[ecl]at fin;dsimp only at fin;rw[if_pos hc]at fin;intro vs F1 hA hE h1 H1 ak ag j ao _;have fe:FinE K (callG (setFF n) [g,.l q] e') E ws σ F0 H0 (λv H'=>v=.non->N.nx σ H'):=by
     cases ec:callG (setFF n) [g,.l q] e' with
     |no=>rw[ec]at fin;exact fin
     |ex c e2=>rw[ec]at fin;exact λF h H hL ok=>fin σ F h H hL ok
     |ok d e2=>rw[ec]at fin;exact λv F hr h2 h H hL od j ok _=>fin σ F h H (Hold.more hL j) ok
    obtain⟨ds,er,cx⟩:=zeT_ ak ag j ao fe;have hlen:=zgB_ ag;obtain⟨y,o,rfl⟩:=len2_ hlen;unfold clsAt at ecl;split at ecl
    ·rename_i c1 ns ys ea
     cases ecl;have ed:∃v0,ds=[v0,.nd (.obj c ns) ys]:=by
      cases g with
      |d v0=>simp[resolve,ea]at er;exact⟨v0,er.symm⟩
      |l q'=>
       cases eq':atE e' q' with
       |none=>simp[resolve,eq']at er
       |some v0=>simp[resolve,ea,eq']at er;exact⟨v0,er.symm⟩
     obtain⟨v0,rfl⟩:=ed;obtain⟨a,rfl,r⟩:=zlY_ cx;exact r
    ·cases ecl
  ·-- the same,read as an assignment
   have z:=this F0 H0 σ F h H _ hL ok key;unfold mSFld;unfold tCons tNil at z;have e:(λ(y:V) (H1:Hp)=>(pt.x.den K G E) σ H1 λo H2=>(match([y,o]:List V)with |[y,.ref a]=>∃dx fs,H2 a=qI (.ins (gA K c) dx fs)/\fs.length<1000/\N.nx σ (upd H2 a (.ins (gA K c) dx (putF n y fs)))|_=>False))=λy H1=>(pt.x.den K G E) σ H1 λo H2=>(match o with |.ref a=>∃dx fs,H2 a=qI (.ins (gA K c) dx fs)/\fs.length<1000/\N.nx σ (upd H2 a (.ins (gA K c) dx (putF n y fs)))|_=>False):=by
    funext y H1;congr 1;funext o H2;cases o<;>rfl
   have z2:=z;rw[e]at z2;exact z2⟩
 cases e:evG G env [x,.l pt]with
 |no=>rw[e]at fin;exact fin.elim
 |ex c e'=>
  cases hcs:G.cs with
  |nil=>exact absurd hcs g0.cs
  |cons c0 cs=>
   have:=main c0 (by rw[hcs];exact i5 ..) λgs e2 z=>by rw[e]at z;cases z
   rw[hcs]at this;exact this
 |ok gs e'=>
  rw[e]at fin;dsimp only[Mr.bind]at fin;split at fin
  ·rename_i g q
   cases ec:clsAt e' q with
   |none=>rw[ec]at fin;exact fin.elim
   |some c=>
    rw[ec]at fin;dsimp only at fin;by_cases hc:c∈G.cs
    ·exact main c hc λgs e2 z=>by rw[e]at z;cases z;exact⟨g,q,rfl,ec⟩
    ·rw[if_neg hc]at fin;exact fin.elim
  ·exact fin.elim
def setIM (G:Gi)(p:Pt)(k x:X)(env:Env):Mr Env Fl:=dropM ((evG G env [.x x,.l p,.x k]).bind (callG setIF))
theorem zm1_ (g0:G.Ok K)(pt:Pt)(k x:X):EvS K (tAsg (x.den K G E) (gSub (pt.x.den K G E) (k.den K G E) rSetA)) E ws env (setIM G pt k x env):=by
 intro F0 H0 σ F h H N hL ok fin;unfold setIM at fin;have:=zck_ (K:=K) (E:=E) (ws:=ws) g0 [.x x,.l pt,.x k] env;rw[show X.dens K G E ([A.x x,.l pt,.x k].map A.t)=tCons (x.den K G E) (tCons (pt.x.den K G E) (tCons (k.den K G E) tNil))from rfl]at this
 refine this F0 H0 σ F h H (λvs H2=>match vs with |[y,o,i]=>rSetA o i y H2 (N.nx σ)|_=>False) hL ok ?_
 cases e:evG G env [.x x,.l pt,.x k]with
 |no=>rw[e]at fin;exact fin
 |ex c e'=>rw[e]at fin;exact λF h H hL ok=>fin σ F h H hL ok
 |ok gs e'=>
  rw[e]at fin;intro vs F1 hA hE h1 H1 ak ag j ao _;have fin:FinS K (dropM (callG setIF gs e')) E ws F0 H0 N:=fin;have fe:FinE K (callG setIF gs e') E ws σ F0 H0 (λv H'=>v=.non->N.nx σ H'):=by
   cases ec:callG setIF gs e' with
   |no=>rw[ec]at fin;exact fin
   |ex c e2=>rw[ec]at fin;exact λF h H hL ok=>fin σ F h H hL ok
   |ok d e2=>rw[ec]at fin;exact λv F hr h2 h H hL od j ok _=>fin σ F h H (Hold.more hL j) ok
  have cx:=zcz_ ak ag j ao fe;have hlen:=zgB_ ag;have gU:gs.length=3:=by
   have:∀{as:List A}{env e:Env}{gs:List Ag},evG G env as=.ok gs e->gs.length=as.length:=λ{as}=>by
    induction as with
    |nil=>intro env e gs h;unfold evG at h;cases h;rfl
    |cons a as ih=>
     intro env e gs h;have k:∀{r:Mr Env D},(r.bind λd e=>(evG G e as).bind λgs e'=>.ok (.d d::gs) e')=.ok gs e->gs.length=(a::as).length:=λ{r} h=>by
      cases r with
      |no=>cases h
      |ex c t=>cases h
      |ok d t=>
       dsimp only[Mr.bind]at h;cases e2:evG G t as with
       |no=>rw[e2]at h;cases h
       |ex c t=>rw[e2]at h;cases h
       |ok gs' t'=>rw[e2]at h;cases h;rw[iR,iR,ih e2]
     cases a with
     |x y=>unfold evG at h;exact k h
     |m y=>unfold evG at h;exact k h
     |l p=>
      unfold evG at h;split at h
      ·cases e2:evG G env as with
       |no=>rw[e2]at h;cases h
       |ex c t=>rw[e2]at h;cases h
       |ok gs' t'=>rw[e2]at h;cases h;rw[iR,iR,ih e2]
      ·cases h
      ·cases h
   exact this e
  rw[gU]at hlen;obtain⟨y,o,i,rfl⟩:=len3_ hlen;exact zoQ_ cx
theorem zdi_ (g0:G.Ok K){pt:Pt}(hL:Hold (LofW K ws env) σ F h)(ok:Okk F0 H0 F h H)(e:pt.ev G env=.ok q)(hc:atE env q=qI c)
  (hk:∀u F1 H1 k1 v,Okk F0 H0 F1 h H1->Hold (LofW K ws env) σ F1 h->Same k1 h->OD K c u F1 k1->σ[q.1]?=qI (qI v)->vAt H1 v q.2=qI u->Q u H1):pt.x.den K G E σ H Q:=by
 refine Pt.sound g0 pt E env σ (un F h) H _ (zbs_ (hL.froz ok.2.1)) ok.thaw ?_;rw[e];intro F1 H1 v u c' x1 hv hu _ _;obtain⟨o1,hsF,ht⟩:=ok.back x1;rcases zes_ env q.1 with⟨d,hd⟩|hd
 ·rw[zay_ hd]at hc
  obtain⟨v',u',k1,k2,ev,vp,j,oc,_⟩:=zbi_ hL hd hc;rw[hv]at ev;cases ev;cases jv ((zch_ x1.2.2.1 (vp H ok.1.2.1 ok.2.2.1)).symm.trans hu);exact hk u _ H1 k1 v o1 (hL.mono hsF) j.l (oc.mono hsF) hv hu
 ·unfold atE at hc;split at hc
  ·rename_i d z;exact absurd z (hd d)
  ·cases hc
theorem pt_ex (g0:G.Ok K){pt:Pt}{x:Xc}(hL:Hold (LofW K ws env) σ F h)(ok:Okk F0 H0 F h H)(e:pt.ev G env=.ex x)(fin:∀F h H,Hold (LofW K ws env) σ F h->Okk F0 H0 F h H->Tell K E x H0 F H):pt.x.den K G E σ H Q:=by
 refine Pt.sound g0 pt E env σ (un F h) H _ (zbs_ (hL.froz ok.2.1)) ok.thaw ?_;rw[e];exact λF' H' y=>(fin _ _ _ (hL.mono (ok.back y).2.1) (ok.back y).1).back ok y
def lentG (G:Gi)(env:Env)(p:Pt)(as:List A)(ok:D->Bool)(k:Pl->List Ag->Env->Mr Env D):Mr Env D:=match p.ev G env with
 |.ok q=>(match atE env q with |some c=>if ok c then(evG G env as).bind (k q)else .no |none=>.no)
 |.ex c=>.ex c env
 |.no=>.no
theorem zhr_ {gs:List Ag}{v:V}{hA:Hp}(ev:σ[q.1]?=qI (qI v))(vp:vAt H1 v q.2=qI u)(sm:Same H1 H2)(ag:AgR K σ F2 H2 gs vs hA):AgR K σ F2 H2 (.l q::gs) (u::vs) hA:=⟨u,v,vs,rfl,ev,zch_ sm vp,ag⟩
def isK (T:String)(c:D):Bool:=match c with |.nd .lst _=>T=="list" |.nd (.dct _) _=>T=="dict" |_=>qL
theorem zoE_ {T:String}(h0:isK T c=qK)(oc:OD K c u F k)(sF:Same F H)(sk:Same k H):tyV K T u H:=by
 unfold isK at h0;split at h0
 ·obtain⟨p,us,c0,hc,rfl,cl,jc,_⟩:=zjV_ oc
  have e0:c0=one p (.lst us):=cl;subst e0;have:T="list":=by simpa using h0
  exact .inl ⟨this,us,.of (sk _ _ (jc.l _ _ zy_))⟩
 ·obtain⟨p,us,c0,hc,rfl,cl,jc,_⟩:=zjV_ oc
  obtain⟨e0,_⟩:=cl;subst e0;have:T="dict":=by simpa using h0
  exact .inr (.inr (.inl ⟨this,.inl ⟨_,sk _ _ (jc.l _ _ zy_)⟩⟩))
 ·cases h0
theorem ee_bm (g0:G.Ok K){T:String}{r:V->List V->Hp->VK->Prop}(b:BmOk K r f)(pt:Pt)(as:List A):EvE K (tBM K T r (pt.x.den K G E) (X.dens K G E (as.map A.t))) E ws env (lentG G env pt as (isK T) λq gs e=>callG f (.l q::gs) e):=by
 intro F0 H0 σ F h H Q hL ok fin;unfold lentG at fin;cases e:pt.ev G env with
 |no=>rw[e]at fin;exact fin.elim
 |ex c=>rw[e]at fin;exact pt_ex g0 hL ok e fin
 |ok q=>
  rw[e]at fin;dsimp only at fin;cases hc:atE env q with
  |none=>rw[hc]at fin;exact fin.elim
  |some c=>
   rw[hc]at fin;dsimp only at fin;by_cases hk:isK T c=qK
   rotate_left
   ·rw[if_neg hk]at fin;exact fin.elim
   rw[if_pos hk]at fin;refine zdi_ g0 hL ok e hc λu F1 H1 k1 v o1 ak sk oc ev vp=>⟨zoE_ hk oc o1.1.2.1 (sk.trans o1.2.2.1),?_⟩
   refine zck_ (K:=K) (E:=E) (ws:=ws) g0 as env F0 H0 σ F1 h H1 _ ak o1 ?_;cases eg:evG G env as with
   |no=>rw[eg]at fin;exact fin
   |ex x e'=>rw[eg]at fin;exact fin
   |ok gs e'=>
    rw[eg]at fin;intro vs F2 hA hE h2 H2 aZ ag j aj sm;exact b u vs H2 Q E (zcz_ aZ (zhr_ ev vp sm ag) j aj fin)
theorem zpb_ (g0:G.Ok K){T:String}{r:V->List V->Hp->VK->Prop}(b:BmOk K r f)(pt:Pt):EvE K (tBM0 K T r (pt.x.den K G E)) E ws env (lentG G env pt [] (isK T) λq gs e=>callG f (.l q::gs) e):=by
 intro F0 H0 σ F h H Q hL ok fin;have:=ee_bm (ws:=ws) (env:=env) (E:=E) g0 (T:=T) b pt [] F0 H0 σ F h H Q hL ok fin;exact this
def isObj (fs:List (Str×Fn))(m:Str)(c:D):Bool:=match c with |.nd (.obj c ns) _=>(fs.find? (λq=>q.1 == c)).isSome && !decide (m∈ns)|_=>qL
def fnAt (fs:List (Str×Fn))(env:Env)(q:Pl):Fn:=match atE env q with
 |some (.nd (.obj c _) _)=>(match fs.find? (λg=>g.1 == c)with |some g=>g.2 |none=>λ_=>.no)
 |_=>λ_=>.no
def methG (G:Gi)(fs:List (Str×Fn))(m:Str)(p:Pt)(as:List A)(env:Env):Mr Env D:=if fs.isEmpty then .no else lentG G env p as (isObj fs m) λq gs e=>callG (fnAt fs env q) (.l q::gs) e
theorem zkz_ (g0:G.Ok K)(fs:List (Str×Fn))(m:Str)(pt:Pt)(as:List A):EvE K (tMethA K fs m E (pt.x.den K G E) (X.dens K G E (as.map A.t))) E ws env (methG G fs m pt as env):=by
 intro F0 H0 σ F h H Q hL ok fin;unfold methG at fin;split at fin
 ·exact fin.elim
 rename_i gW
 unfold lentG at fin;cases e:pt.ev G env with
 |no=>rw[e]at fin;exact fin.elim
 |ex c=>
  rw[e]at fin;cases fs with
  |nil=>exact absurd rfl gW
  |cons g fs=>exact⟨g,i5 ..,pt_ex g0 hL ok e fin⟩
 |ok q=>
  rw[e]at fin;dsimp only at fin;cases hc:atE env q with
  |none=>rw[hc]at fin;exact fin.elim
  |some c=>
   rw[hc]at fin;dsimp only at fin;by_cases hk:isObj fs m c=qK
   rotate_left
   ·rw[if_neg hk]at fin;exact fin.elim
   rw[if_pos hk]at fin;unfold isObj at hk;split at hk
   ·rename_i cn ns ys
    obtain⟨gQ,hk2⟩:=jE.mp hk;obtain⟨g,eg⟩:=mj.mp gQ;have h1:g.1=cn:=by simpa using o9 eg
    have hm:m∉ns:=by simpa using hk2
    have ef:fnAt fs env q=g.2:=by unfold fnAt;rw[hc];dsimp only;rw[eg]
    rw[ef]at fin;refine⟨g,m6 eg,?_⟩;refine zdi_ g0 hL ok e hc λu F1 H1 k1 v o1 ak sk oc ev vp=>?_
    obtain⟨p,us,c0,hcc,rfl,cl,jc,_⟩:=zjV_ oc;obtain⟨dx,_,e0,el⟩:=cl;subst e0;refine⟨p,dx,_,rfl,by rw[h1];exact o1.2.2.1 _ _ (sk _ _ (jc.l _ _ zm7_)),zd4_ hm,?_⟩
    refine zck_ (K:=K) (E:=E) (ws:=ws) g0 as env F0 H0 σ F1 h H1 _ ak o1 ?_;cases egs:evG G env as with
    |no=>rw[egs]at fin;exact fin
    |ex x e'=>rw[egs]at fin;exact fin
    |ok gs e'=>
     rw[egs]at fin;intro vs F2 hA hE h2 H2 aZ ag j aj sm;rw[jz];exact zcz_ aZ (zhr_ ev vp sm ag) j aj fin
   ·cases hk
end
inductive Bm where
 |append |extend |popAt |clear |insert
noncomputable def Bm.ty:Bm->String
 |_ => "list"
def Bm.r:Bm->V->List V->Hp->VK->Prop
 |.append=>rAppend |.extend=>rExtend |.popAt=>rPopAt |.clear=>rClear |.insert=>rInsert
def Bm.f:Bm->Fn
 |.append=>appendF |.extend=>extendF |.popAt=>popAtF |.clear=>clearF |.insert=>insertF
theorem bm_ok {K:jl}(o:Bm):BmOk K o.r o.f:=by
 cases o with
 |append=>exact zgC_
 |extend=>exact zgM_
 |popAt=>exact zjC_
 |clear=>exact zir_
 |insert=>exact zgk_
inductive Y where
 |pu (x:X)|mv (i:Nat)
 |mp (p:Pt)
 |call (f:Fn) (x:Str) (as:List A)
 |cls (f:Fn) (c m:Str) (as:List A)
 |meth (ms:List (Str×Fn)) (p:Pt) (m:Str) (as:List A)
 |bm (o:Bm) (p:Pt) (as:List A)
 |bin (o:Bo) (y z:Y)
 |not (y:Y)
 |or (y z:Y)|and (y z:Y)
inductive S where
 |asg (i:Nat) (y:Y)
 |setM (p:Pt) (n:Str) (q:Pt)
 |setF (p:Pt) (n:Str) (x:X)|setI (p:Pt) (k x:X)
 |ex (y:Y)|ret (y:Y)|retN
 |if_ (c:X) (a b:List S)|ifY (c:Y) (a b:List S)|ifL (c:X) (a b:List S)
 |for_ (ik:Ik) (src:List X) (tg:Tg) (b:List S)
 |while_ (c:X) (b:List S)
 |forJ (k:Dk) (x:X) (tg:Tg) (b:List S)
 |pass |never
 |try0 (b aS:List S)
 |view (is:List Nat) (s:S)
section
variable (K:jF)(G:Gi)
def Y.den (E:XK):Y->TE
 |.pu x=>x.den K G E
 |.mv i=>mVar i
 |.mp p=>p.x.den K G E
 |.call f _ as=>tCall (CtG K f) [] E (X.dens K G E (as.map A.t))
 |.cls f _ _ as=>tCall (CtG K f) [] E (X.dens K G E (as.map A.t))
 |.meth ms p m as=>tMethA K ms m E (p.x.den K G E) (X.dens K G E (as.map A.t))
 |.bm o p as=>(match as with |[]=>tBM0 K o.ty o.r (p.x.den K G E)|_=>tBM K o.ty o.r (p.x.den K G E) (X.dens K G E (as.map A.t)))
 |.bin o y z=>tOp (o.r K) (y.den E) (z.den E)
 |.not y=>mNotV (y.den E)
 |.or y z=>mOrV (y.den E) (z.den E)
 |.and y z=>mAndV (y.den E) (z.den E)
mutual
def S.den (E:XK):S->TS
 |.asg i y=>tAsg (y.den K G E) (gName i)
 |.setM p n q=>tSFldA K G.cs (p.x.den K G E) (q.x.den K G E) n
 |.setF p n x=>tSFldA K G.cs (p.x.den K G E) (x.den K G E) n
 |.setI p k x=>tAsg (x.den K G E) (gSub (p.x.den K G E) (k.den K G E) rSetA)
 |.ex y=>tDrop (y.den K G E)
 |.ret y=>tRet (y.den K G E)
 |.retN=>tRetN
 |.if_ c a b=>mIfS (mTest (c.den K G E)) (S.dens E a) (S.dens E b)
 |.ifY c a b=>mIfS (mTest (c.den K G E)) (S.dens E a) (S.dens E b)
 |.ifL c a b=>mIfS (mTrL K (c.den K G E)) (S.dens E a) (S.dens E b)
 |.for_ ik src tg b=>tFor (ik.t K (X.dens K G E src)) (tgT K tg) (S.dens E b)
 |.while_ c b=>tWhile (mTest (c.den K G E)) (S.dens E b)
 |.forJ k x tg b=>mForJ k.J (x.den K G E) (tgT K tg) (S.dens E b)
 |.pass=>tNext
 |.never=>tNever
 |.try0 b aS=>tSeq (S.dens E0 b) (S.dens E aS)
 |.view _ s=>s.den E
def S.dens (E:XK):List S->TS
 |[]=>tNext
 |s::ss=>tSeq (s.den E) (S.dens E ss)
end
end
def trD (d:D):Mo Bool:=match d.un with |.bl b=>.ok b |.nd .lst xs=>.ok (!xs.isEmpty)|_=>.no
theorem zpj_ {K:jl}{E:XK}{env:Env}{t:TE}{r:Mo D}(h:EvX K t E env r):EvT K (mTrL K t) E (Lof K env) (r.bind trD):=by
 intro σ F H Q hL hs q;refine ex_v h σ F H _ hL hs (q.bind.imp λa F1 H1 x1 k1 v1 aP=>?_)
 have ha:=DR.un aP;unfold trD at k1;split at k1
 ·rename_i b e;rw[e]at ha;cases ha.bl;exact k1.ok x1.2.1
 ·rename_i xs e;rw[e]at ha;obtain⟨p,us,rfl,n,r⟩:=ha.nd
  refine⟨us,.of (x1.2.1 _ _ n),?_⟩;rw[show us.isEmpty=xs.isEmpty from by have:=r.len;cases us<;>cases xs<;>first |rfl |cases this]
  exact k1.ok x1.2.1
 ·exact k1.elim
def moTo {α:Type}(m:Mo α)(e:Env):Mr Env α:=match m with |.ok a=>.ok a e |.ex c=>.ex c e |.no=>.no
section
variable (G:Gi)
def mvM (env:Env)(i:Nat):Mr Env D:=match env[i]? with |some (qI d)=>.ok d (env.set i qJ)|_=>.no
def boY (w:Bool)(d:D)(e:Env)(r:Mr Env D):Mr Env D:=match blD d with |.ok b=>if b=w then .ok (.bl w) e else r |_=>.no
def Y.ev:Y->Env->Mr Env D
 |.pu x,env=>stX G env x
 |.mv i,env=>mvM env i
 |.mp p,env=>mpM G env p
 |.call f _ as,env=>(evG G env as).bind (callG f)
 |.cls f _ _ as,env=>(evG G env as).bind (callG f)
 |.meth ms p m as,env=>methG G ms m p as env
 |.bm o p as,env=>lentG G env p as (isK o.ty) λq gs e=>callG o.f (.l q::gs) e
 |.bin o y z,env=>(y.ev env).bind λd e=>(z.ev e).bind λd2 e2=>moTo (o.f d d2) e2
 |.not y,env=>(y.ev env).bind λd e=>moTo ((blD d).bind λb=>.ok (.bl (!b))) e
 |.or y z,env=>(y.ev env).bind λd e=>boY qK d e (z.ev e)
 |.and y z,env=>(y.ev env).bind λd e=>boY qL d e (z.ev e)
def vwE (env:Env):Env:=env.map λo=>o.map D.vw
def deadAt (env:Env)(is:List Nat):Bool:=is.all λi=>match env[i]? with |some qJ=>qK |_=>qL
def liveB:Env->Env->Bool
 |[],[]=>qK
 |o::e,o'::e'=>(!o.isSome ||o'.isSome) && liveB e e'
 |_,_=>qL
def viewM (is:List Nat)(env:Env)(r:Mr Env Fl):Mr Env Fl:=if deadAt env is=qK then(match r with
 |.ok .nx e=>if liveB env e=qK then .ok .nx env else .no
 |.ok (.rt d) _=>if d.flat?.isSome=qK then .ok (.rt d) env else .no
 |_=>.no)else .no
noncomputable def pnV (is:List Nat)(i:Nat):Bool:=!is.contains i
mutual
def S.run:(Nat->Bool)->S->Env->Mr Env Fl
 |pn,.asg i y,env=>asgM pn i (y.ev G env)
 |pn,.setM p n q,env=>setFM G n p (.m q) env
 |pn,.setF p n x,env=>setFM G n p (.x x) env
 |pn,.setI p k x,env=>setIM G p k x env
 |pn,.ex y,env=>dropM (y.ev G env)
 |pn,.ret y,env=>retM (y.ev G env)
 |pn,.retN,env=>.ok (.rt .non) env
 |pn,.if_ c a b,env=>ifM env ((c.ev G env).bind blD) (S.runs pn a env) (S.runs pn b env)
 |pn,.ifY c a b,env=>(c.ev G env).bind λd e=>ifM e (blD d) (S.runs pn a e) (S.runs pn b e)
 |pn,.ifL c a b,env=>ifM env ((c.ev G env).bind trD) (S.runs pn a env) (S.runs pn b env)
 |pn,.for_ ik src tg b,env=>forS pn ik tg (evG G env (src.map .x)) (λe=>S.runs pn b e)
 |pn,.while_ c b,env=>whileM (λe=>(c.ev G e).bind blD) (λe=>S.runs pn b e) fuelW env
 |pn,.forJ k x tg b,env=>forJM pn k tg (stX G env x) (λe=>S.runs pn b e)
 |pn,.pass,env=>.ok .nx env
 |pn,.never,env=>.no
 |pn,.view is s,env=>viewM is env (S.run (pnV is) s (vwE env))
 |pn,.try0 b aS,env=>seqM (noEx (S.runs pn b env)) λe=>S.runs pn aS e
def S.runs:(Nat->Bool)->List S->Env->Mr Env Fl
 |pn,[],env=>.ok .nx env
 |pn,s::ss,env=>seqM (S.run pn s env) (λe=>S.runs pn ss e)
end
end
section
variable {K:jF}{E:XK}{F F0 H0 h H:Hp}{env:Env}{t:TE}{ws:Ws}{G:Gi}{i:Nat}{pn:Nat->Bool}{s1 s2:TS}
theorem ee_mv:EvE K (mVar i) E ws env (mvM env i):=by
 intro F0 H0 σ F h H Q hL ok fin;unfold mvM at fin;split at fin
 ·rename_i d hd
  obtain⟨o,k1,k2,e1,j,pp,g⟩:=Hold.atG hL (zaO_ hd);obtain⟨v,rfl,hv,od⟩:=zbN_ pp;unfold mVar;rw[e1];refine fin v F k1 k2 h H ?_ od j ok;have:=g (slotW K (ws i) qJ) (qI v) F (λ_=>qJ) k2 (Same.refl _) trivial (no_l _ λ_=>rfl)
  rw[zcJ_,zcO_ e1]at this;exact this
 ·exact fin.elim
theorem zh1_ {m:Mo D}{e:Env}{σ:L2.St}{Q:VK}{hE:Hp}(hL:Hold (LofW K ws e) σ F hE)(ok:Okk F0 H0 F hE H)(fin:FinE K (moTo m e) E ws σ F0 H0 Q):After K m E F H (OwnK (owD K) H Q):=by
 cases m with
 |no=>exact fin
 |ex c=>exact λF' H' x=>Tell.up ok.1.2.2.1 (fin F' hE H' (hL.mono x.1) (ok.cold x))
 |ok d=>
  intro F' H' x v hn fresh dj s o;have o1:=ok.cold x;have dh:Dj hn hE:=zix_ ok.2.2.1 fresh;refine fin v F' hn hE (un hn hE) H' (hL.mono x.1) o (zaX_ dh) ⟨o1.1,λp=>?_,λp o e=>?_,λp z=>?_,λp xs z=>?_⟩
  ·unfold un
   cases z:hn p with
   |some w=>
    rcases dj p with y |y
    ·exact .inl y
    ·rw[y]at z;cases z
   |none=>exact o1.2.1 p
  ·unfold un at e
   cases z:hn p with
   |some w=>rw[z]at e;cases e;exact s _ _ z
   |none=>rw[z]at e;exact o1.2.2.1 _ _ e
  ·unfold un at z
   cases y:hn p with
   |some w=>exact ok.1.2.2.1.free (fresh p (by rw[y];exact sN _))
   |none=>rw[y]at z;exact ok.2.2.2.1 p z
  ·unfold un at z
   cases y:hn p with
   |some w=>rw[y]at z;cases z;exact OD.notup o p xs y
   |none=>rw[y]at z;exact ok.2.2.2.2 p xs z
theorem zeL_ {d:D}{v:V}{hr hE:Hp}(od:OD K d v F hr)(j:Jn hr hE h)(ok:Okk F0 H0 F h H):DR K d v (un F hr)/\Same F (un F hr)/\Okk F0 H0 (un F hr) hE H:=by
 obtain⟨a,b,c⟩:=zfQ_ (ds:=[d]) (vs:=[v]) (by unfold ODs;exact⟨v,[],hr,λ_=>qJ,rfl,no_r _ λ_=>rfl,od,zaV_⟩) j ok
 obtain⟨v',e,r⟩:=DRs.one a;cases e;exact⟨r,b,c⟩
theorem zn0_ {o:Bo}{r:Mr Env D}{g:Env->Mr Env D}{t2:TE}(h1:EvE K t E ws env r)(h2:∀e,EvE K t2 E ws e (g e)):EvE K (tOp (o.r K) t t2) E ws env (r.bind λd e=>(g e).bind λd2 e2=>moTo (o.f d d2) e2):=by
 intro F0 H0 σ F h H Q hL ok fin;refine h1 F0 H0 σ F h H _ hL ok ?_;cases r with
 |no=>exact fin
 |ex c e=>exact fin
 |ok d e=>
  intro v F1 hr hE h' H1 ak od j ao;obtain⟨dr,sF,aj⟩:=zeL_ od j ao;have dR:Jn (λ_=>qJ) hE hE:=no_l _ λ_=>rfl
  have ob:=zfH_ aj dR;have fB:∀x:Hp,un (λ_=>qJ) x=x:=λx=>rfl
  refine h2 e _ (less H1 hE) σ _ hE H1 _ (ak.mono sF) ob ?_;dsimp only[Mr.bind]at fin;cases e2:g e with
  |no=>rw[e2]at fin;exact fin
  |ex c e'=>
   rw[e2]at fin;intro F2 h2 H2 aZ aM;obtain⟨s,_,ok4⟩:=za4_ aj dR aM;rw[fB]at ok4;exact zce_ aj dR (fin F2 h2 H2 aZ ok4)
  |ok d2 e'=>
   rw[e2]at fin;intro v2 F2 dW dE bC H2 aZ d_ j2 aM;obtain⟨s,_,ok4⟩:=za4_ aj dR aM;rw[fB]at ok4;obtain⟨iq,sF2,ok5⟩:=zeL_ d_ j2 ok4;exact bo_ok o d d2 v v2 _ H2 Q ok5.1.2.1 (dr.mono (s.trans sF2)) iq (zh1_ (aZ.mono sF2) ok5 fin)
theorem zoc_ {r:Mr Env D}(h1:EvE K t E ws env r):EvE K (mNotV t) E ws env (r.bind λd e=>moTo ((blD d).bind λb=>.ok (.bl (!b))) e):=by
 intro F0 H0 σ F h H Q hL ok fin;refine h1 F0 H0 σ F h H _ hL ok ?_;cases r with
 |no=>exact fin
 |ex c e=>exact fin
 |ok d e=>
  intro v F1 hr hE h' H1 ak od j ao;obtain⟨dr,sF,aj⟩:=zeL_ od j ao;have k1:=zh1_ (m:=(blD d).bind λb=>.ok (.bl (!b))) (ak.mono sF) aj fin
  have ha:=DR.un dr;unfold blD at k1;split at k1
  ·rename_i b e2;rw[e2]at ha;cases ha.bl;exact gotB k1 aj.1.2.1
  ·exact k1.elim
theorem ee_bo {w:Bool}{r:Mr Env D}{g:Env->Mr Env D}{t2:TE}(h1:EvE K t E ws env r)(h2:∀e,EvE K t2 E ws e (g e)):EvE K (match w with |true=>mOrV t t2 |false=>mAndV t t2) E ws env (r.bind λd e=>boY w d e (g e)):=by
 intro F0 H0 σ F h H Q hL ok fin;have key:t σ H (λx H1=>match x with |.bl c=>br (c == w) (Q (.bl w) H1) (t2 σ H1 Q)|_=>False):=by
  refine h1 F0 H0 σ F h H _ hL ok ?_;cases r with
  |no=>exact fin
  |ex c e=>exact fin
  |ok d e=>
   intro v F1 hr hE h' H1 ak od j ao;obtain⟨dr,sF,aj⟩:=zeL_ od j ao;have ha:=DR.un dr;have fin:FinE K (boY w d e (g e)) E ws σ F0 H0 Q:=fin;unfold boY blD at fin;split at fin
   ·rename_i b eb
    split at eb
    ·rename_i e2
     cases eb;rw[e2]at ha;cases ha.bl;refine⟨λz=>?_,λz=>?_⟩
     ·rw[if_pos (eq_of_beq z)]at fin
      exact fin (.bl w) _ (λ_=>qJ) hE hE H1 (ak.mono sF) (by unfold OD;exact⟨λ_=>rfl,by unfold DR;rfl⟩) (no_l _ λ_=>rfl) aj
     ·rw[if_neg (ne_of_beq_false z)]at fin
      exact h2 e F0 H0 σ _ hE H1 Q (ak.mono sF) aj fin
    ·cases eb
   ·exact fin.elim
 cases w with
 |true=>
  refine(show mOrV t t2 σ H Q from ?_)
  refine(show t σ H (λx H1=>match x with |.bl c=>br c (Q (.bl qK) H1) (t2 σ H1 Q)|_=>False)from ?_)
  have e:(λ(x:V) (H1:Hp)=>(match x with |.bl c=>br c (Q (.bl qK) H1) (t2 σ H1 Q)|_=>False:Prop))=λx H1=>match x with |.bl c=>br (c == qK) (Q (.bl qK) H1) (t2 σ H1 Q)|_=>False:=by
   funext x H1;cases x<;>first |rfl |(rename_i c;cases c<;>rfl)
  rw[e];exact key
 |false=>
  refine(show t σ H (λx H1=>match x with |.bl c=>br c (t2 σ H1 Q) (Q (.bl qL) H1)|_=>False)from ?_)
  have e:(λ(x:V) (H1:Hp)=>(match x with |.bl c=>br c (t2 σ H1 Q) (Q (.bl qL) H1)|_=>False:Prop))=λx H1=>match x with |.bl c=>br (c == qL) (Q (.bl qL) H1) (t2 σ H1 Q)|_=>False:=by
   funext x H1;cases x<;>first |rfl |(rename_i c;unfold br;cases c<;>simp)
  rw[e];exact key
theorem Y.sound (g0:G.Ok K):∀(y:Y) (env:Env),EvE K (y.den K G E) E ws env (y.ev G env)
 |.pu x,env=>ee_x g0 x
 |.mv i,env=>ee_mv
 |.mp p,env=>(ek_mv g0).e
 |.call f x as,env=>zh8_ (zck_ g0 as env)
 |.cls f c m as,env=>zh8_ (zck_ g0 as env)
 |.meth ms p m as,env=>zkz_ g0 ms m p as
 |.bm o p as,env=>by
  cases as with
  |nil=>exact zpb_ g0 (bm_ok o) p
  |cons a as=>exact ee_bm g0 (bm_ok o) p (a::as)
 |.bin o y z,env=>zn0_ (Y.sound g0 y env) λe=>Y.sound g0 z e
 |.not y,env=>zoc_ (Y.sound g0 y env)
 |.or y z,env=>ee_bo (w:=qK) (Y.sound g0 y env) λe=>Y.sound g0 z e
 |.and y z,env=>ee_bo (w:=qL) (Y.sound g0 y env) λe=>Y.sound g0 z e
theorem zox_ {r:Mr Env D}{g1 g2:Env->Mr Env Fl}(he:EvE K t E ws env r)(cX:∀e,EvS K s1 E ws e (g1 e))(a5:∀e,EvS K s2 E ws e (g2 e)):EvS K (mIfS (mTest t) s1 s2) E ws env (r.bind λd e=>ifM e (blD d) (g1 e) (g2 e)):=by
 intro F0 H0 σ F h H N hL ok fin;refine he F0 H0 σ F h H _ hL ok ?_;cases r with
 |no=>exact fin
 |ex c e=>exact λF h H hL ok=>fin σ F h H hL ok
 |ok d e=>
  intro v F1 hr hE h1 H1 ak od j ao;obtain⟨dr,sF,aj⟩:=zeL_ od j ao;have ha:=DR.un dr;have fin:FinS K (ifM e (blD d) (g1 e) (g2 e)) E ws F0 H0 N:=fin;unfold blD at fin;split at fin
  ·rename_i b e2
   rw[e2]at ha;cases ha.bl;refine⟨λz=>?_,λz=>?_⟩
   ·subst z;exact cX e F0 H0 σ _ hE H1 N (ak.mono sF) aj fin
   ·subst z;exact a5 e F0 H0 σ _ hE H1 N (ak.mono sF) aj fin
  ·exact fin.elim
theorem zkm_ {t:TS}{r:Mr Env Fl}(h:EvS K t E0 ws env r):EvS K t E ws env (noEx r):=by
 intro F0 H0 σ F h0 H N hL ok fin;refine h F0 H0 σ F h0 H N hL ok ?_;cases r with
 |no=>exact fin
 |ex c e=>exact fin.elim
 |ok a e=>cases a<;>exact fin
theorem map_x (as:List X):(as.map A.x).map A.t=as:=by
 rw[j5];exact(ka λa _=>rfl).trans (oj _)
theorem zhL_:∀{L:List Sl}{σ:L2.St}{F:Hp},L.length=σ.length->(∀(i:Nat) s,L[i]?=qI s->s.P (σ[i]?.join) F λ_=>qJ)->Hold L σ F λ_=>qJ
 |[],[],_,_,_=>trivial
 |s::L,o::σ,F,hl,h=>⟨λ_=>qJ,λ_=>qJ,no_l _ λ_=>rfl,h 0 s rfl,zhL_ (by simpa using hl) λi s e=>h (i+1) s (by simpa using e)⟩
 |[],_::_,_,hl,_=>by cases hl
 |_::_,[],_,hl,_=>by cases hl
theorem zft_:∀{L:List Sl}{σ ab:L2.St}{F h:Hp},Hold L σ F h->ab.length=σ.length->(∀(i:Nat) s,L[i]?=qI s->s=.dead\/ab[i]?=σ[i]?)->Hold L ab F h
 |[],[],[],_,_,_,_,_=>trivial
 |s::L,o::σ,o'::ab,F,h,q_,hl,hs=>by
  obtain⟨h1,h2,j,p,q⟩:=q_;refine⟨h1,h2,j,?_,zft_ q (by simpa using hl) λi s e=>by simpa using hs (i+1) s (by simpa using e)⟩
  rcases hs 0 s rfl with z |z
  ·subst z;trivial
  ·simp at z;rw[z];exact p
 |[],[],_::_,_,_,_,hl,_=>by cases hl
 |_::_,_::_,[],_,_,_,hl,_=>by cases hl
 |[],_::_,_,_,_,q,_,_=>q.elim
 |_::_,[],_,_,_,q,_,_=>q.elim
theorem zf0_:∀{e e':Env},liveB e e'=qK->e.length=e'.length
 |[],[],_=>rfl
 |_::e,_::e',h=>by unfold liveB at h;rw[bR]at h;rw[iR,iR,zf0_ h.2]
 |[],_::_,h=>by cases h
 |_::_,[],h=>by cases h
theorem zh5_:∀{e e':Env}{i:Nat}{d:D},liveB e e'=qK->e[i]?=qI (qI d)->∃d',e'[i]?=qI (qI d')
 |o::e,o'::e',0,d,h,z=>by
  unfold liveB at h;rw[bR]at h;simp at z;subst z;cases o' with
  |none=>cases h.1
  |some d'=>exact⟨d',rfl⟩
 |o::e,o'::e',i+1,d,h,z=>by
  unfold liveB at h;rw[bR]at h;obtain⟨d',q⟩:=zh5_ h.2 (by simpa using z)
  exact⟨d',by simpa using q⟩
 |[],_,_,_,_,z=>by simp at z
 |_::_,[],_,_,h,_=>by cases h
theorem zkP_ {t:TS}{is:List Nat}{r:Mr Env Fl}(hv:∀cC:Ws,(∀i,pnV is i=qL->cC i=qJ)->EvS K t E cC (vwE env) r):EvS K t E ws env (viewM is env r):=by
 intro F0 H0 σ F h H N hL ok fin;unfold viewM at fin;split at fin
 rotate_left
 ·exact fin.elim
 rename_i dd
 have hlen:env.length=σ.length:=by have:=hL.len;rw[mw]at this;exact this
 have dead:∀i,is.contains i=qK->∀d,env[i]?≠qI (qI d):=λi hi d z=>by
  unfold deadAt at dd;have:=km.mp dd i (by simpa using hi)
  rw[z]at this;cases this
 refine hv (λi=>if is.contains i=qK then qJ else σ[i]?.join) (λi hi=>by unfold pnV at hi;rw[if_pos (by simpa using hi)]) (un F h) H σ (un F h) (λ_=>qJ) H N (zhL_ (by rw[mw];unfold vwE;rw[gf];exact hlen) λi s e=>?_) ⟨Ext.refl ok.thaw,λp=>.inr rfl,(λp o z=>by cases z),λp z=>absurd rfl z,(λp xs z=>by cases z)⟩ ?_
 ·rw [lN]at e
  unfold vwE at e;rw[iS]at e;cases z:env[i]? with
  |none=>rw[z]at e;cases e
  |some o=>
   rw[z]at e;cases o with
   |none=>cases e;trivial
   |some d=>
    cases e;obtain⟨o,k1,k2,e1,j,pp,g⟩:=Hold.atG hL (zaO_ z);obtain⟨v,rfl,bM,od⟩:=zbN_ pp;have hf:=zbs_ (hL.froz ok.2.1) i (slot K (qI d)) (by show(env.map (slot K))[i]?=_;rw[iS,z];rfl)
    rw[e1]at hf ⊢;obtain⟨v',e2,dr⟩:=hf;cases e2;have eo:OD K d.vw v (un F h) λ_=>qJ:=OD.vw (h:=λ_=>qJ) (λ_=>rfl) dr
    have nc:is.contains i=qL:=by
     cases y:is.contains i with
     |false=>rfl
     |true=>exact absurd z (dead i y d)
    show(slotW K (if is.contains i=qK then qJ else σ[i]?.join) (qI d.vw)).P (qI v) (un F h) λ_=>qJ
    rw[nc,if_neg (by decide),e1]
    exact⟨v,rfl,rfl,eo⟩
 ·cases r with
  |no=>exact fin
  |ex c e=>exact fin.elim
  |ok o e=>
   cases o with
   |ct=>exact fin.elim
   |bk=>exact fin.elim
   |nx=>
    intro ab F' h' H' aE aq;have fin:FinS K (if liveB env e=qK then .ok .nx env else .no) E ws F0 H0 N:=fin
    split at fin
    rotate_left
    ·exact fin.elim
    rename_i lv
    obtain⟨o1,hsF,ht⟩:=ok.back aq.1;have c9:e.length=ab.length:=by have:=aE.len;rw[mw]at this;exact this
    refine fin ab (less F' h) h H' (zft_ (hL.mono hsF) (by rw[<- hlen,<- c9,zf0_ lv]) λi s z=>?_) o1
    rw[lN]at z;cases y:env[i]? with
    |none=>rw[y]at z;cases z
    |some o=>
     rw[y]at z;cases o with
     |none=>cases z;exact .inl rfl
     |some d=>
      right;obtain⟨d',y'⟩:=zh5_ lv y;obtain⟨o,k1,k2,e1,j,pp,g⟩:=Hold.atG hL (zaO_ y);obtain⟨v,rfl,bM,od⟩:=zbN_ pp;obtain⟨o2,k3,k4,e2,j2,pp2,g2⟩:=Hold.atG aE (zaO_ y');have nc:is.contains i=qL:=by
       cases y:is.contains i with
       |false=>rfl
       |true=>exact absurd (by assumption) (dead i y d)
      rw[nc,if_neg (by decide),e1]at pp2
      obtain⟨v2,rfl,q2⟩:=pp2;rw[e1,e2,q2.1]
   |rt d=>
    intro v ab F' hr h2 h' H' aE od j aq;have fin:FinS K (if d.flat?.isSome=qK then .ok (.rt d) env else .no) E ws F0 H0 N:=fin
    split at fin
    rotate_left
    ·exact fin.elim
    rename_i fl
    obtain⟨o1,hsF,ht⟩:=ok.back aq.1;have d_:OD K d v (less F' h) λ_=>qJ:=by
     cases d with
     |non=>unfold OD at od ⊢;exact⟨λ_=>rfl,by have:=od.2;unfold DR at this ⊢;exact this⟩
     |bl=>unfold OD at od ⊢;exact⟨λ_=>rfl,by have:=od.2;unfold DR at this ⊢;exact this⟩
     |int=>unfold OD at od ⊢;exact⟨λ_=>rfl,by have:=od.2;unfold DR at this ⊢;exact this⟩
     |str=>unfold OD at od ⊢;exact⟨λ_=>rfl,by have:=od.2;unfold DR at this ⊢;exact this⟩
     |_=>cases fl
    exact fin v σ (less F' h) (λ_=>qJ) h h H' (hL.mono hsF) d_ (no_l _ λ_=>rfl) o1
mutual
theorem S.sound (g0:G.Ok K):∀(s:S) {pn:Nat->Bool}{ws:Ws}(hp:∀i,pn i=qL->ws i=qJ) {E:XK}(env:Env),EvS K (s.den K G E) E ws env (S.run G pn s env)
 |.asg i y,pn,ws,hp,E,env=>zpe_ hp (Y.sound g0 y env)
 |.setM p n q,pn,ws,hp,E,env=>zhZ_ g0 n p (.m q)
 |.setF p n x,pn,ws,hp,E,env=>zhZ_ g0 n p (.x x)
 |.setI p k x,pn,ws,hp,E,env=>zm1_ g0 p k x
 |.ex y,pn,ws,hp,E,env=>zmi_ (Y.sound g0 y env)
 |.ret y,pn,ws,hp,E,env=>zoq_ (Y.sound g0 y env)
 |.retN,pn,ws,hp,E,env=>zmZ_
 |.if_ c a b,pn,ws,hp,E,env=>es_if (zea_ (X.sound g0 c E env)) (S.sounds g0 a hp env) (S.sounds g0 b hp env)
 |.ifL c a b,pn,ws,hp,E,env=>es_if (zpj_ (X.sound g0 c E env)) (S.sounds g0 a hp env) (S.sounds g0 b hp env)
 |.ifY c a b,pn,ws,hp,E,env=>zox_ (Y.sound g0 c env) (λe=>S.sounds g0 a hp e) λe=>S.sounds g0 b hp e
 |.for_ ik src tg b,pn,ws,hp,E,env=>by
  have:=zck_ (K:=K) (E:=E) (ws:=ws) g0 (src.map .x) env;rw[map_x]at this;exact znA_ hp this λe=>S.sounds g0 b hp e
 |.while_ c b,pn,ws,hp,E,env=>zjJ_ fuelW (λe=>zea_ (X.sound g0 c E e)) λe=>S.sounds g0 b hp e
 |.forJ k x tg b,pn,ws,hp,E,env=>zmm_ hp (ee_x g0 x) λe=>S.sounds g0 b hp e
 |.pass,pn,ws,hp,E,env=>zhV_
 |.never,pn,ws,hp,E,env=>λF0 H0 σ F h H N hL ok fin=>fin.elim
 |.view is s,pn,ws,hp,E,env=>zkP_ (λcC c5=>S.sound g0 s c5 (vwE env))
 |.try0 b aS,pn,ws,hp,E,env=>by
  show EvS K (tSeq (S.dens K G E0 b) (S.dens K G E aS)) E ws env (seqM (noEx (S.runs G pn b env)) λe=>S.runs G pn aS e)
  exact zmb_ (zkm_ (S.sounds g0 b hp env)) λe=>S.sounds g0 aS hp e
theorem S.sounds (g0:G.Ok K):∀(ss:List S) {pn:Nat->Bool}{ws:Ws}(hp:∀i,pn i=qL->ws i=qJ) {E:XK}(env:Env),EvS K (S.dens K G E ss) E ws env (S.runs G pn ss env)
 |[],pn,ws,hp,E,env=>zhV_
 |s::ss,pn,ws,hp,E,env=>zmb_ (S.sound g0 s hp env) λe=>S.sounds g0 ss hp e
end
end
def pins (ds:List D)(i:Nat):Bool:=match ds[i]? with |some d=>!d.cold |none=>qL
def outs:List D->Env->List D
 |[],_=>[]
 |d::ds,o::env=>(if d.cold then d else match o with |some d'=>d' |none=>.gone)::outs ds env
 |d::ds,[]=>(if d.cold then d else .gone)::outs ds []
def fnOf (G:Gi)(n m:Nat)(body:List S):Fn:=λds=>if ds.length=n then(match S.runs G (pins ds) body (ds.map qI++iT m qJ)with
 |.ok (.rt d) env=>.ok d (outs ds env)
 |.ok .nx env=>.ok .non (outs ds env)
 |.ex c env=>.ex c (outs ds env)
 |_=>.no)else .no
section
variable {K:jF}{E:XK}{F F' h H:Hp}{env:Env}{ws:Ws}{G:Gi}{σ:L2.St}
theorem zbX_ {o:Option D}:LofW K ws (o::env)=slotW K (ws 0) o::LofW K (λi=>ws (i+1)) env:=by
 show List.mapIdx _ _=_
 rw[nG]
theorem zcX_:∀(m:Nat) {ws:Ws}{h:Hp},Hold (LofW K ws (iT m qJ)) (iT m qJ) F h
 |0,ws,h=>trivial
 |m+1,ws,h=>by
  rw[jJ,jJ,zbX_];exact⟨λ_=>qJ,h,no_l _ λ_=>rfl,trivial,zcX_ m⟩
def wsOf (ds:List D)(vs:List V):Ws:=λi=>if pins ds i then vs[i]? else qJ
theorem zd6_ (m:Nat):∀{ds:List D}{vs:List V}{h:Hp}{ws:Ws},(∀(i:Nat) u,ws i=qI u->vs[i]?=qI u)->ODs K ds vs F h->Hold (LofW K ws (ds.map qI++iT m qJ)) (vs.map qI++iT m qJ) F h
 |[],_,h,ws,hw,q=>by
  unfold ODs at q;rw[q.1];exact zcX_ m
 |d::ds,_,h,ws,hw,q=>by
  unfold ODs at q;obtain⟨v,vs,h1,h2,rfl,j,o,r⟩:=q;rw[iN,iN,jN,jN,zbX_];exact⟨h1,h2,j,zcc_ (λu z=>by have:=hw 0 u z;simpa using this) o,zd6_ m (λi u z=>by have:=hw (i+1) u z;simpa using this) r⟩
theorem zbg_:∀{ds:List D}{vs:List V}{env:Env}{σ:L2.St}{h h0:Hp}{ws:Ws},(∀(i:Nat) d,ds[i]?=qI d->d.cold=qL->ws i=vs[i]?)->ODs K ds vs F h0->Same F F'->Hold (LofW K ws env) σ F' h->∃h3,Same h3 h/\ODs K (outs ds env) vs F' h3
 |[],_,env,σ,h,h0,ws,hw,q,s,hL=>by
  unfold ODs at q;rw[q.1];refine⟨λ_=>qJ,(λp o z=>by cases z),?_⟩
  unfold outs ODs;exact⟨rfl,λ_=>rfl⟩
 |d::ds,_,[],σ,h,h0,ws,hw,q,s,hL=>by
  unfold ODs at q;obtain⟨v,vs,h1,h2,rfl,j,od,r⟩:=q;obtain⟨h3,s3,os⟩:=zbg_ (env:=[]) (σ:=σ) (h:=h) (ws:=λi=>ws (i+1)) (λi d' e c=>by have:=hw (i+1) d' (by simpa using e) c;simpa using this) r s hL
  refine⟨h3,s3,?_⟩;unfold outs ODs;refine⟨v,vs,λ_=>qJ,h3,rfl,no_l _ λ_=>rfl,?_,os⟩
  by_cases hc:d.cold=qK
  ·rw[if_pos hc]
   have:=od.mono s;obtain⟨n,_⟩:=OD.cold hc this;have e:h1=λ_=>qJ:=funext n
   rw[e]at this;exact this
  ·rw[if_neg hc];exact zaY_ λ_=>rfl
 |d::ds,_,o::env,[],h,h0,ws,hw,q,s,hL=>by rw[zbX_]at hL;exact hL.elim
 |d::ds,_,o::env,x::σ,h,h0,ws,hw,q,s,hL=>by
  unfold ODs at q;obtain⟨v,vs,h1,h2,rfl,j,od,r⟩:=q;rw[zbX_]at hL;obtain⟨k1,k2,jk,pp,hL⟩:=hL;obtain⟨h3,s3,os⟩:=zbg_ (ws:=λi=>ws (i+1)) (λi d' e c=>by have:=hw (i+1) d' (by simpa using e) c;simpa using this) r s hL
  have d1:∀{m:Hp},Same m k1->Dj m h3:=λ{m} sm p=>by
   rcases jk.dj p with z |z
   ·exact .inl (sm.free z)
   ·exact .inr (s3.free z)
  have key:∃c m,Same m k1/\(if d.cold then d else match o with |some d'=>d' |none=>.gone)=c/\OD K c v F' m:=by
   by_cases hc:d.cold=qK
   ·obtain⟨_,dr⟩:=OD.cold hc od
    refine⟨d,λ_=>qJ,(λp o z=>by cases z),by rw[if_pos hc],?_⟩
    have:=od.mono s;obtain⟨n,_⟩:=OD.cold hc this;have e:h1=λ_=>qJ:=funext n
    rw[e]at this;exact this
   ·have hf:d.cold=qL:=by simpa using hc
    rw[if_neg hc];cases o with
    |none=>exact⟨.gone,λ_=>qJ,(λp o z=>by cases z),rfl,zaY_ λ_=>rfl⟩
    |some d'=>
     obtain⟨v',e1,e2,o'⟩:=zbN_ pp;have:ws 0=qI v:=by have:=hw 0 d (by simp) hf;simpa using this
     have:=e2 v this;subst this;exact⟨d',k1,Same.refl _,rfl,o'⟩
  obtain⟨c,m,sm,ec,oc⟩:=key;refine⟨un m h3,λp o z=>?_,?_⟩
  ·unfold un at z
   cases y:m p with
   |some w=>rw[y]at z;cases z;exact jk.l _ _ (sm _ _ y)
   |none=>rw[y]at z;exact jk.r _ _ (s3 _ _ z)
  ·unfold outs;rw[ec]
   unfold ODs;exact⟨v,vs,m,h3,rfl,zaX_ (d1 sm),oc,os⟩
theorem znB_ (g0:G.Ok K){N:List Str}{n m:Nat}{body:List S}(hN:N.length=n+m):
  ∀vs H Q E,CtG K (fnOf G n m body) vs H Q E->S.dens K G E body {nx:=λ_ H'=>Q .non H',rt:=Q} (L2.start N vs) H:=by
 rintro vs H Q E ⟨F,h,ds,hs,dj,sh,os,fin⟩;have nt:=zc6_ os;have ln:=ODs.len os;unfold fnOf at fin;split at fin
 rotate_left
 ·exact fin.elim
 rename_i hd
 have bU:L2.start N vs=vs.map qI++iT m qJ:=by unfold L2.start;rw[hN,<- ln,hd,Nat.add_sub_cancel_left]
 rw[bU];have hw:∀(i:Nat) u,wsOf ds vs i=qI u->vs[i]?=qI u:=λi u z=>by
  unfold wsOf at z;split at z
  ·exact z
  ·cases z
 have hp:∀i,pins ds i=qL->wsOf ds vs i=qJ:=λi z=>by unfold wsOf;rw[z];rfl
 have eM:∀(i:Nat) d,ds[i]?=qI d->d.cold=qL->wsOf ds vs i=vs[i]?:=λi d e c=>by
  unfold wsOf pins;rw[e];simp[c]
 refine S.sounds g0 body hp _ F (less H h) _ F h H _ (zd6_ m hw os) (zbD_ hs dj sh nt) ?_;cases e:S.runs G (pins ds) body (ds.map qI++iT m qJ)with
 |no=>rw[e]at fin;exact fin
 |ex c env=>
  rw[e]at fin;intro σ F' h' H' hL ok;obtain⟨h3,s3,aA⟩:=zbg_ eM os ok.1.1 hL;exact fin F' h3 H' (zcy_ ok s3) aA
 |ok o env=>
  rw[e]at fin;cases o with
  |nx=>
   intro σ F' h' H' hL ok;obtain⟨h3,s3,aA⟩:=zbg_ eM os ok.1.1 hL;exact fin .non F' h3 H' (λ_=>qJ) h3 (zcy_ ok s3) (no_l _ λ_=>rfl) (zbZ_ λ_=>rfl) aA
  |rt d=>
   intro v σ F' hr h2 h' H' hL od j ok;obtain⟨h3,s3,aA⟩:=zbg_ eM os ok.1.1 hL;have dd:Dj hr h3:=λp=>by rcases j.dj p with z |z;exact .inl z;exact .inr (s3.free z)
   refine fin v F' (un hr h3) H' hr h3 (zcy_ ok λp o z=>?_) (zaX_ dd) od aA
   unfold un at z;cases y:hr p with
   |some w=>rw[y]at z;cases z;exact j.l _ _ y
   |none=>rw[y]at z;exact j.r _ _ (s3 _ _ z)
  |ct=>exact fin.elim
  |bk=>exact fin.elim
end
noncomputable def noStar (e:i4):Bool:=e.ctorIdx != 22
def noSup:i4->Bool
 |.Call (.Name x _) [] [] _=>x != "super" |_=>qK
noncomputable def noIf (e:i4):Bool:=e.ctorIdx != 5
noncomputable def noSl (e:i4):Bool:=e.ctorIdx != 26
noncomputable def noSet (e:i4):Bool:=e.ctorIdx != 7
noncomputable def noCmp (e:i4):Bool:=e.ctorIdx<8 ||10<e.ctorIdx
section
variable {env:PySem.Env}{e o:i4}{es:List i4}{pos apos:Pos}{m:Str}
theorem zP_ (h:noStar e=qK):jo (e::es) env=(qL,eval e env)::jo es env:=by
 cases e<;>first |rfl |cases h
theorem zcg_:∀{es:List i4},es.all noStar=qK->jo es env=es.map λe=>(qL,eval e env)
 |[],_=>rfl
 |e::es,h=>by
  rw[jY,bR]at h;rw[zP_ h.1,zcg_ h.2];rfl
theorem za0_ (h:es.all noStar=qK):((kz pos (jo es env)).any λx=>x.1)=qL:=by
 rw[zcg_ h];unfold kz;simp
theorem zi6_ (h:es.all noStar=qK):((kz pos (jo es env)).all λx=>!x.1)=qK:=by
 rw[zcg_ h];unfold kz;simp
theorem zcx_ (h:noSup o=qK):attributeBase o m env (eval o env)=eval o env:=by
 cases o with
 |Call f es ks q=>cases f with
  |Name id p=>cases es with
   |nil=>cases ks with
    |nil=>
     have h:(id != "super")=qK:=h;unfold attributeBase;dsimp only;rw[h];rfl
    |cons=>rfl
   |cons=>rfl
  |_=>rfl
 |_=>rfl
theorem zhH_ (h:es.all noStar=qK)(hl:es.length<29):methodCallForm (es.length+([]:List Keyword).length) (kz pos (jo es env)) (mi pos (lj [] env))=qK:=by
 unfold methodCallForm;rw[zi6_ h];simp[lj,mi];lia
theorem zgw_ (h:es.all noStar=qK)(hl:es.length<29):((((kz pos (jo es env)).all λx=>!x.fst) && (mi pos (lj [] env)).all λx=>x.fst.isSome) && decide ((es.length+([]:List Keyword).length+if([]:List Keyword).isEmpty=qK then 0 else 1)<30))=qK:=zhH_ h hl
theorem zh0_ (hb:noSup o=qK)(hl:(apos.endLine == pos.line)=qK)(h:es.all noStar=qK)(hn:es.length<29):eval (.Call (.Attribute o m apos) es [] pos) env=(do
   let ov <- eval o env
   standAt apos.atName
   let(f,first) <- holding [ov] (getMethod ov m (do return (<- importBound o env).getD qK))
   callWith pos f first (kz pos (jo es env)) (mi pos (lj [] env))):=by
 have hf:=zhH_ (pos:=pos) (env:=env) h hn
 have:eval (.Call (.Attribute o m apos) es [] pos) env=(do
  let ov <- attributeBase o m env (eval o env)
  standAt apos.atName
  methodCall o m apos pos env ov (es.length+([]:List Keyword).length) (kz pos (jo es env)) (mi pos (lj [] env))):=by rw[eval]
 rw[this,zcx_ hb];unfold methodCall calleeOf methodCallPos;rw[hf,hl];simp
theorem ziQ_ (h:noSl e=qK):PlainIx e:=λ_ _=>by
 cases e<;>first |rfl |cases h
theorem zd7_ {op:CmpOp}(h:noSet e=qK):behindInMarks op e=qL:=by
 cases e<;>first |rfl |cases h
theorem zbY_ (h:noSet e=qK)(x:fv):foldedSetIterable e env x=pure x:=by
 cases e<;>first |rfl |cases h
theorem zfe_ (h:noCmp e=qK)(t:Option i4)(n:Nat):swapsWith e t n env=pure qL:=by
 cases e<;>first |rfl |cases h
theorem zfJ_ {o i:i4}{p:Pos}:swappedStores [.Subscript o i p] e env=pure qJ:=by
 unfold swappedStores;rfl
noncomputable def plainT:i4->Bool
 |.UnaryOp .Not ..=>qL |.BoolOp ..=>qL |.IfExp ..=>qL |.Compare ..=>qL |_=>qK
theorem zdl_ (h:plainT e=qK)(whole:Sem fv):isTrue e env whole=(do let v <- whole;standAt e.pos;holding [v] (truthy v)):=by
 cases e with
 |UnaryOp op a p=>cases op<;>first |rfl |cases h
 |_=>first |rfl |cases h
end
structure Ck where
 N:List Str
 nm:List (Str×lB)
structure Ft where
 bs:List Str
 at_:List Str
 gc:List (Str×V)
structure Ft.Ok (T:Ft)(G:Gi)(K:jl)(mg:Str->Option fv):Prop where
 bs:∀x∈T.bs,mg x=qJ
 cls:∀c∈G.cs,Cls K (gA K c)
 at_:∀c∈G.cs,∀a∈T.at_,NoAttr K (gA K c) a
 gc:∀q∈T.gc,Gc mg q.1 q.2
 kt:∀q∈G.kt,Gc mg q.1 (.ref (gA K q.1))
inductive Fc where
 |call (f:Fn) (x:Str)|make (f:Fn) (c:Str)|meth (m:Str) (c:Str) (f:Fn)|cls (f:Fn) (c m:Str)
def Fc.H (P:jr)(w:jH)(K:jl)(mg:Str->Option fv)(base:Heap)(k:Nat):Fc->Prop
 |.call f x=>∃ps j,j<=k/\Gd P w K mg base CX0 j x ps (CtG K f)
 |.make f c=>∃ps j,j+1<=k/\Gk P w K mg base CX0 j c (gA K c) ps (CtG K f)
 |.meth m c f=>∃ps j,j<=k/\Gm P w K mg base CX0 j (gA K c) m ps (CtG K f)
 |.cls f c m=>∃ps j,j<=k/\Gs P w K mg base CX0 j c m ps (CtG K f)
mutual
def X.fcs:X->List Fc
 |.v _=>[]|.k _=>[]|.g _ _=>[]|.gt _ _=>[]
 |.bin _ a b=>a.fcs++b.fcs
 |.and a b=>a.fcs++b.fcs
 |.or a b=>a.fcs++b.fcs
 |.not a=>a.fcs
 |.ifx c a b=>c.fcs++(a.fcs++b.fcs)
 |.sl a lo hi=>a.fcs++(X.fcsO lo++X.fcsO hi)
 |.tup as=>X.fcss as
 |.lst as=>X.fcss as
 |.fld a _=>a.fcs
 |.call f x as=>.call f x::X.fcss as
 |.bf _ as=>X.fcss as
 |.sm _ a as=>a.fcs++X.fcss as
 |.comp _ _ _ src _ c e=>X.fcss src++(X.fcsO c++e.fcs)
 |.make f c as=>.make f c::X.fcss as
 |.meth ms a m as=>ms.map (λq=>.meth m q.1 q.2)++(a.fcs++X.fcss as)
 |.get a w z=>a.fcs++(w.fcs++z.fcs)
 |.isa a _=>a.fcs
 |.ds1 a0 b0=>a0.fcs++b0.fcs
 |.dct0=>[]
def X.fcss:List X->List Fc
 |[]=>[]
 |a::as=>a.fcs++X.fcss as
def X.fcsO:Option X->List Fc
 |none=>[]
 |some a=>a.fcs
end
noncomputable def visB:Option lB->Bool
 |some .local=>qK |some .cell=>qK |some .free=>qK |_=>qL
noncomputable def locB:Option lB->Bool
 |some .local=>qK |some .cell=>qK |_=>qL
def nmOk (x:Str):Bool:=!(x=="__debug__") && !(x=="__classdict__")
def glB (c:Ck)(x:Str):Bool:=c.nm.lookup x==qI .globalImplicit && !(x=="__debug__")
def constB (d:D):Const->Bool
 |.int i=>(match d with |.int j=>i == j |_=>qL)
 |.bool b=>(match d with |.bl c=>b == c |_=>qL)
 |.none=>(match d with |.non=>qK |_=>qL)
 |.str x=>(match d with |.str l=>x.cps.toList == l |_=>qL)
 |_=>qL
noncomputable def Bo.op:Bo->Option Operator
 |.add=>qI .Add |.sub=>qI .Sub |.mul=>qI .Mult |.mod=>qI .Mod |.div=>qI .FloorDiv |_=>qJ
noncomputable def Bo.cmp:Bo->Option CmpOp
 |.lt=>qI .Lt |.gt=>qI .Gt |.eq=>qI .Eq |.ne=>qI .NotEq |.is=>qI .Is |.isn=>qI .IsNot |.inn=>qI .In |.nin=>qI .NotIn |.ned=>qI .NotEq |.ltT=>qI .Lt |_=>qJ
noncomputable def Bo.isIx:Bo->Bool
 |.ix=>qK |_=>qL
noncomputable def Bf.nm:Bf->Str
 |.len => "len" |.list => "list" |.int => "int" |.sortU => "sorted" |.tupl => "tuple"
noncomputable def Sm.nm:Sm->Str
 |.join => "join" |.index => "index"
noncomputable def tyNm:String->Option Str
 |"int" => qI "int" |"bool" => qI "bool" |"str" => qI "str" |"list" => qI "list" |"tuple" => qI "tuple" |"dict" => qI "dict" |_=>qJ
def relab (nm names:List (Str×lB)):List (Str×lB):=names.map λ(n,k)=>if k == .free && nm.lookup n == qI .cell then(n,.cell)else(n,k)
def tgB (c:Ck)(i:Nat):i4->Bool
 |.Name x _=>c.N[i]? == qI x && locB (c.nm.lookup x)
 |_=>qL
def tgsB (c:Ck):List Nat->List i4->Bool
 |[],[]=>qK
 |i::is,e::es=>tgB c i e && tgsB c is es
 |_,_=>qL
def tgOk (c:Ck)(g:Tg)(e:i4):Bool:=match g.tup,e with
 |true,.Tuple es _ _=>tgsB c g.is es
 |false,e=>g.is.length == 1 && tgB c (g.is.headD 0) e
 |_,_=>qL
def locals? (c:Ck)(g:Tg):Bool:=g.is.all λi=>match c.N[i]? with |some x=>c.nm.lookup x == qI .local |none=>qL
def scB (c:Ck)(sc:Scope)(lv:List Str)(fr:List (Str×Nat)):Bool:=
 sc.names.all (λy=>y.2 != .cell && (y.2 != .free ||c.nm.lookup y.1 == qI .cell ||c.nm.lookup y.1 == qI .free) && (y.2 != .local ||sc.names.lookup y.1 == qI .local)) && sc.kind == .function &&
 fr.all (λq=>c.N[q.2]? == qI q.1 && sc.names.contains (q.1,NameKind.free) && (c.nm.lookup q.1 == qI .cell ||c.nm.lookup q.1 == qI .free) && ((relab c.nm sc.names).lookup q.1 == qI .cell ||(relab c.nm sc.names).lookup q.1 == qI .free)) && decide (cN lv fr).Nodup
def kN:i4->(Str->Bool)->Bool
 |.Name x _,k=>k x |_,_=>qL
def kC:i4->(i4->List i4->Pos->Bool)->Bool
 |.Call f es [] q,k=>k f es q |_,_=>qL
noncomputable def kA:i4->(i4->Str->Pos->Bool)->Bool
 |.Attribute o m p,k=>k o m p |_,_=>qL
def kB:i4->(i4->Operator->i4->Bool)->Bool
 |.BinOp l o r _,k=>k l o r |_,_=>qL
def kM:i4->(i4->List CmpOp->List i4->Bool)->Bool
 |.Compare l o r _,k=>k l o r |_,_=>qL
def kS:i4->(i4->i4->Bool)->Bool
 |.Subscript l r _,k=>k l r |_,_=>qL
def kL:i4->(Option i4->Option i4->Option i4->Bool)->Bool
 |.Slice a b c _,k=>k a b c |_,_=>qL
def kU:i4->(UnaryOp->i4->Bool)->Bool
 |.UnaryOp o x _,k=>k o x |_,_=>qL
def kI:i4->(i4->i4->i4->Bool)->Bool
 |.IfExp t x y _,k=>k t x y |_,_=>qL
noncomputable def kT:i4->(List i4->Bool)->Bool
 |.Tuple es _ _,k=>k es |_,_=>qL
noncomputable def kW:i4->(List i4->Bool)->Bool
 |.List es _,k=>k es |_,_=>qL
def kK:i4->(Const->Bool)->Bool
 |.Constant c _ _,k=>k c |_,_=>qL
def kG:i4->(i4->List Comprehension->Scope->Bool)->Bool
 |.ListComp x g s _,k=>k x g s |_,_=>qL
noncomputable def kDi:i4->Bool
 |.Dict [] [] _=>qK |_=>qL
noncomputable def kDd:i4->(List (Option i4)->List i4->Bool)->Bool
 |.Dict a b _,k=>k a b |_,_=>qL
noncomputable def kco:List (Option i4)->(i4->List (Option i4)->Bool)->Bool
 |some a::l,k=>k a l |_,_=>qL
def kO (o:BoolOp):i4->(i4->i4->Bool->Bool)->Bool
 |.BoolOp o' (x::y::l) p,k=>o' == o && k x (bif l.isEmpty then y else .BoolOp o (y::l) p) l.isEmpty |_,_=>qL
noncomputable def kc:List i4->(i4->List i4->Bool)->Bool
 |a::l,k=>k a l |[],_=>qL
section
variable {e:i4}{C:i4->Prop}
theorem kN_ {k}(h:kN e k=qK)(H:∀x p,k x=qK->C (.Name x p)):C e:=by cases e<;>first |exact H _ _ h |cases h
theorem kC_ {k}(h:kC e k=qK)(H:∀f es q,k f es q=qK->C (.Call f es [] q)):C e:=by
 cases e with
 |Call f es ks q=>cases ks with |nil=>exact H _ _ _ h |cons=>cases h
 |_=>cases h
theorem kA_ {k}(h:kA e k=qK)(H:∀o m p,k o m p=qK->C (.Attribute o m p)):C e:=by cases e<;>first |exact H _ _ _ h |cases h
theorem kB_ {k}(h:kB e k=qK)(H:∀l o r p,k l o r=qK->C (.BinOp l o r p)):C e:=by cases e<;>first |exact H _ _ _ _ h |cases h
theorem kM_ {k}(h:kM e k=qK)(H:∀l o r p,k l o r=qK->C (.Compare l o r p)):C e:=by cases e<;>first |exact H _ _ _ _ h |cases h
theorem kS_ {k}(h:kS e k=qK)(H:∀l r p,k l r=qK->C (.Subscript l r p)):C e:=by cases e<;>first |exact H _ _ _ h |cases h
theorem kL_ {k}(h:kL e k=qK)(H:∀a b c p,k a b c=qK->C (.Slice a b c p)):C e:=by cases e<;>first |exact H _ _ _ _ h |cases h
theorem kU_ {k}(h:kU e k=qK)(H:∀o x p,k o x=qK->C (.UnaryOp o x p)):C e:=by cases e<;>first |exact H _ _ _ h |cases h
theorem kI_ {k}(h:kI e k=qK)(H:∀t x y p,k t x y=qK->C (.IfExp t x y p)):C e:=by cases e<;>first |exact H _ _ _ _ h |cases h
theorem kT_ {k}(h:kT e k=qK)(H:∀es n p,k es=qK->C (.Tuple es n p)):C e:=by cases e<;>first |exact H _ _ _ h |cases h
theorem kW_ {k}(h:kW e k=qK)(H:∀es p,k es=qK->C (.List es p)):C e:=by cases e<;>first |exact H _ _ h |cases h
theorem kK_ {k}(h:kK e k=qK)(H:∀c n p,k c=qK->C (.Constant c n p)):C e:=by cases e<;>first |exact H _ _ _ h |cases h
theorem kG_ {k}(h:kG e k=qK)(H:∀x g s p,k x g s=qK->C (.ListComp x g s p)):C e:=by cases e<;>first |exact H _ _ _ _ h |cases h
theorem kDi_ (h:kDi e=qK)(H:∀p,C (.Dict [] [] p)):C e:=by
 unfold kDi at h;split at h
 ·exact H _
 ·cases h
theorem kDd_ {k}(h:kDd e k=qK)(H:∀a b p,k a b=qK->C (.Dict a b p)):C e:=by cases e<;>first |exact H _ _ _ h |cases h
theorem kco_ {l:List (Option i4)}{C:List (Option i4)->Prop}{k}(h:kco l k=qK)(H:∀a t,k a t=qK->C (qI a::t)):C l:=by
 cases l with
 |nil=>cases h
 |cons a t=>cases a with |none=>cases h |some a=>exact H a t h
theorem kc_ {l:List i4}{C:List i4->Prop}{k}(h:kc l k=qK)(H:∀a t,k a t=qK->C (a::t)):C l:=by cases l with |nil=>cases h |cons a t=>exact H a t h
theorem kO_ {o:BoolOp}{k}(h:kO o e k=qK)(H:∀x y l p,k x (bif l.isEmpty then y else .BoolOp o (y::l) p) l.isEmpty=qK->C (.BoolOp o (x::y::l) p)):C e:=by
 cases e with
 |BoolOp o' es p=>
  cases es with
  |nil=>cases h
  |cons x es=>cases es with
   |nil=>cases h
   |cons y l=>have h:=jE.mp h;cases eq_of_beq h.1;exact H x y l p h.2
 |_=>cases h
end
noncomputable def Ik.isAny:Ik->Bool
 |.any=>qK |_=>qL
noncomputable def Ik.nm:Ik->Str
 |_ => "range"
noncomputable def Ik.ar:Ik->Nat
 |_=>1
noncomputable def Ik.tp:Ik->Bool
 |_=>qL
section
variable (T:Ft)(G:Gi)
def srcB (c:Ck)(ik:Ik)(tg:Tg)(it:i4)(k1:Bool)(ks:List i4->Bool):Bool:=bif ik.isAny then k1 else
 kC it λf es _=>kN f λy=>y == ik.nm && es.length == ik.ar && glB c y && T.bs.contains y && (tg.tup || !ik.tp) && ks es
mutual
def chkE:Ck->X->i4->Bool
 |c,.v i,e=>kN e λx=>c.N[i]? == qI x && visB (c.nm.lookup x) && nmOk x
 |c,.k d,e=>kK e (constB d)
 |c,.g x d,e=>kN e λy=>x == y && glB c x && (d.flat?).any λv=>T.gc.contains (x,v)
 |c,.gt x ls,e=>kN e λy=>x == y && glB c x && G.kt.any (λq=>q.1 == x)
 | c,.bin o a b,e=>kB e (λl op r=>o.op == qI op && chkE c a l && chkE c b r)||
   (kM e (λl os rs=>kc rs λr t=>os.map qI == [o.cmp] && t.isEmpty && noSet r && chkE c a l && chkE c b r)||
   kS e (λl r=>o.isIx && noSl r && chkE c a l && chkE c b r))
 |c,.and a b,e=>kO .And e λx y l=>noIf x && (!l ||noIf y) && chkE c a x && chkE c b y
 |c,.or a b,e=>kO .Or e λx y l=>noIf x && (!l ||noIf y) && chkE c a x && chkE c b y
 |c,.not a,e=>kU e λo x=>o == .Not && noIf x && chkE c a x
 |c,.ifx d a b,e=>kI e λt x y=>noIf t && chkE c d t && chkE c a x && chkE c b y
 |c,.sl a lo hi,e=>kS e λl r=>kL r λl1 l2 l3=>l3.isNone && chkE c a l && chkO c lo l1 && chkO c hi l2
 |c,.tup as,e=>kT e (chkEs c as)
 |c,.lst as,e=>kW e (chkEs c as)
 |c,.fld a f,e=>kA e λo f' _=>f == f' && T.at_.contains f && noSup o && chkE c a o
 |c,.call f x as,e=>kC e λy es _=>kN y λy=>x == y && glB c x && chkEs c as es
 |c,.bf o as,e=>kC e λy es _=>kN y λy=>y == o.nm && glB c y && T.bs.contains y && !as.isEmpty && chkEs c as es
 |c,.sm o a as,e=>kC e λr es q=>kA r λr m p=>m == o.nm && noSup r && p.endLine == q.line && decide (es.length<29) && !as.isEmpty && chkE c a r && chkEs c as es
 | c,.comp lv fr ik src tg d x,e=>kG e λelt gs sc=>gs.length == 1 && gs.all λq=>q.is_async == 0 && scB c sc lv fr && tgOk ⟨cN lv fr,relab c.nm sc.names⟩ tg q.target && locals? ⟨cN lv fr,relab c.nm sc.names⟩ tg && noSet q.iter &&
   srcB T c ik tg q.iter (chk1 c src q.iter) (λes=>chkEs c src es) && chkIf ⟨cN lv fr,relab c.nm sc.names⟩ d q.ifs && chkE ⟨cN lv fr,relab c.nm sc.names⟩ x elt
 |c,.make f k as,e=>kC e λy es _=>kN y λy=>k == y && glB c y && chkEs c as es
 |c,.meth ms a m as,e=>kC e λr es q=>kA r λr m' p=>m == m' && noSup r && p.endLine == q.line && decide (es.length<29) && chkE c a r && chkEs c as es
 |c,.isa a n,e=>kC e λy es _=>kN y λy=>kc es λx t=>kc t λz t2=>kN z λz=>y=="isinstance" && t2.isEmpty && glB c y && T.bs.contains y && noStar x && tyNm n==qI z && glB c z && T.bs.contains z && chkE c a x
 |c,.get a w z,e=>kC e λr es q=>kA r λr m p=>kc es λx t=>kc t λy t=>m=="get" && t.isEmpty && noSup r && p.endLine==q.line && noStar x && noStar y && chkE c a r && chkE c w x && chkE c z y
 |c,.ds1 a b,e=>kDd e λks vs=>kco ks λk kt=>kc vs λv vt=>kt.isEmpty && vt.isEmpty && chkE c a k && chkE c b v
 |_,.dct0,e=>kDi e
def chk1:Ck->List X->i4->Bool
 |_,[],_=>qL
 |c,a::as,e=>as.isEmpty && chkE c a e
def chkEs:Ck->List X->List i4->Bool
 |_,[],es=>es.isEmpty
 |c,a::as,es=>kc es λe es=>noStar e && chkE c a e && chkEs c as es
def chkO:Ck->Option X->Option i4->Bool
 |_,qJ,e=>e.isNone
 |c,qI a,e=>e.any (chkE c a)
def chkIf:Ck->Option X->List i4->Bool
 |_,qJ,es=>es.isEmpty
 |c,qI a,es=>kc es λe t=>t.isEmpty && noIf e && chkE c a e
end
end
theorem zic_ {X:Cx}{E:XK}:Passes CX0 X E:=λ_ _ _ _ _ _ _ h=>h.elim
structure Cg (Z:Cx)(c:Ck)(k:Nat)(E:XK):Prop where
 N:Z.N=c.N
 nm:Z.env.scope.names=c.nm
 kind:Z.env.scope.kind=.function
 calm:Z.calm=qK
 room:Room k Z.A
 pass:Passes CX0 Z E
 cells:∀x,(c.nm.lookup x=qI .cell\/c.nm.lookup x=qI .free)->∃a,Z.env.cells.lookup x=qI a
section
variable {Z:Cx}{c:Ck}{k:Nat}{E:XK}{x m:Str}{e o:i4}{es:List i4}{t:TE}{ta:TA}{p pos apos:Pos}
theorem Cg.units (g:Cg Z c k E):Z.A.units+60<cLine:=by have:=g.room.un;lia
theorem znI_ (g:Cg Z c k E)(h:visB (c.nm.lookup x)=qK):Vis Z.env.scope x:=by
 unfold Vis;rw[g.nm]
 revert h;cases c.nm.lookup x with
 |none=>intro h;cases h
 |some k=>cases k<;>intro h<;>first |exact .inl rfl |exact .inr (.inl rfl)|exact .inr (.inr rfl)|cases h
theorem zj4_ (g:Cg Z c k E)(h:locB (c.nm.lookup x)=qK):L2.Loc Z.env.scope x:=by
 unfold L2.Loc;rw[g.nm]
 revert h;cases c.nm.lookup x with
 |none=>intro h;cases h
 |some k=>cases k<;>intro h<;>first |exact .inl rfl |exact .inr rfl |cases h
theorem zg5_ (g:Cg Z c k E)(h:glB c x=qK):Gl Z x/\(x==("__debug__":Str))=qL:=by
 unfold glB at h;rw[bR]at h;refine⟨?_,by simpa using h.2⟩
 unfold Gl nI;rw[g.nm];exact eq_of_beq h.1
structure Rd (Z:Cx)(e:i4)(t:TE):Prop where
 pe:PE Z e t
 pt:noIf e=qK->PT Z e (mTest t)
 pw:∀op vs p,e=.BoolOp op vs p->PW Z e (mTest t)
theorem zj_ (h:PE Z e t)(hp:plainT e=qK):Rd Z e t:=⟨h,λ_=>zlB_ h (zdl_ hp),λop vs p z=>by rw[z]at hp;cases hp⟩
theorem rd_if (h:PE Z e t)(hp:noIf e=qL):Rd Z e t:=⟨h,(λz=>by rw[hp]at z;cases z),(λop vs p z=>by rw[z]at hp;cases hp)⟩
theorem zlj_ {a b:i4}{t1 t2:TE}{op:CmpOp}{r:R2}(ho:OpR Z (jG op) r)(ha:Rd Z a t1)(hb:Rd Z b t2)(hs:noSet b=qK):Rd Z (.Compare a [op] [b] pos) (tOp r t1 t2):=
 ⟨zmq_ ho ha.pe hb.pe (zd7_ hs),λ_=>zlC_ ho ha.pe hb.pe (zd7_ hs),λ_ _ _ z=>by cases z⟩
theorem zfs_ (t1 t2:TE):mTest (mAndV t1 t2)=mAnd (mTest t1) (mTest t2):=by
 funext σ H Q;exact congrArg (t1 σ H) (funext λx=>funext λH1=>by cases x<;>rfl)
theorem zhe_ (t1 t2:TE):mTest (mOrV t1 t2)=mOr (mTest t1) (mTest t2):=by
 funext σ H Q;exact congrArg (t1 σ H) (funext λx=>funext λH1=>by cases x<;>rfl)
theorem zjL_ (t1:TE):mTest (mNotV t1)=tNot (mTest t1):=by
 funext σ H Q;exact congrArg (t1 σ H) (funext λx=>funext λH1=>by cases x<;>rfl)
theorem zd8_ {op:BoolOp}{vs:List i4}(h:PE Z (.BoolOp op vs pos) t)(h2:PW Z (.BoolOp op vs pos) (mTest t)):Rd Z (.BoolOp op vs pos) t:=⟨h,λ_=>h2.pt,λ_ _ _ _=>h2⟩
theorem zhq_ {a b:i4}{t1 t2:TE}(ha:Rd Z a t1)(hb:Rd Z b t2)(na:noIf a=qK)(nb:noIf b=qK):Rd Z (.BoolOp .And [a,b] pos) (mAndV t1 t2):=
 zd8_ (zhi_ ha.pe (zj7_ hb.pe)) (by rw[zfs_];exact zh7_ (ha.pt na) (zk2_ (hb.pt nb)))
theorem zj6_ {a b d:i4}{r:List i4}{t1 t2:TE}(ha:Rd Z a t1)(hb:Rd Z (.BoolOp .And (b::d::r) pos) t2)(na:noIf a=qK):Rd Z (.BoolOp .And (a::b::d::r) pos) (mAndV t1 t2):=
 zd8_ (zhi_ ha.pe hb.pe) (by rw[zfs_];exact zh7_ (ha.pt na) (hb.pw _ _ _ rfl))
theorem zkd_ {a b:i4}{t1 t2:TE}(ha:Rd Z a t1)(hb:Rd Z b t2)(na:noIf a=qK)(nb:noIf b=qK):Rd Z (.BoolOp .Or [a,b] pos) (mOrV t1 t2):=
 zd8_ (zmY_ ha.pe (zj7_ hb.pe)) (by rw[zhe_];exact zkQ_ (ha.pt na) (znd_ (hb.pt nb)))
theorem rd_or {a b d:i4}{r:List i4}{t1 t2:TE}(ha:Rd Z a t1)(hb:Rd Z (.BoolOp .Or (b::d::r) pos) t2)(na:noIf a=qK):Rd Z (.BoolOp .Or (a::b::d::r) pos) (mOrV t1 t2):=
 zd8_ (zmY_ ha.pe hb.pe) (by rw[zhe_];exact zkQ_ (ha.pt na) (hb.pw _ _ _ rfl))
theorem zlI_ {a:i4}{t1:TE}(ha:Rd Z a t1)(na:noIf a=qK):Rd Z (.UnaryOp .Not a pos) (mNotV t1):=
 ⟨zmn_ ha.pe,λ_=>by rw[zjL_];exact zna_ (ha.pt na),λ_ _ _ z=>by cases z⟩
theorem bo_op {b:Bo}{op:Operator}(h:b.op=qI op):OpR Z (k7 op) (b.r Z.K):=by
 cases b<;>cases h
 ·exact zk1_
 ·exact zla_
 ·exact zls_
 ·exact zms_
 ·exact zlp_
theorem zmy_ (hu:Z.A.units+60<cLine){b:Bo}{op:CmpOp}(h:b.cmp=qI op):OpR Z (jG op) (b.r Z.K):=by
 cases b<;>cases h
 ·exact zpC_
 ·exact zn3_
 ·exact znV_ hu
 ·exact zoa_ hu
 ·exact znQ_
 ·exact zgD_
 ·exact zpp_ hu
 ·exact zgZ_ hu
 ·exact zmX_ hu
 ·exact znH_
theorem zi9_ {d:D}{kc:Const}{j:Nat}(h:constB d kc=qK):PE Z (.Constant kc j pos) (tC (d.flat?.getD .non)):=by
 cases kc with
 |int i=>cases d<;>first |(cases eq_of_beq h;exact zo3_)|cases h
 |bool b=>cases d<;>first |(cases eq_of_beq h;exact pe_bl)|cases h
 |none=>cases d<;>first |exact zoN_ |cases h
 |str z=>cases d<;>first |(have h:=eq_of_beq h;subst h;exact zoe_ (by cases z;rfl))|cases h
 |_=>cases h
theorem zih_ {sp:Sp}{ps:List Str}{j:Nat}(F:Gd Z.prog Z.w Z.K Z.mg Z.base CX0 j x ps sp)(hr:Room j Z.A)(hx:Passes CX0 Z E)(ha:PA Z es ta)(hs:es.all noStar=qK)(hg:Gl Z x)(hd:(x==("__debug__":Str))=qL)(h0:es=[]->ta=tNil):
  PE Z (.Call (.Name x p) es [] pos) (tCall sp [] E ta):=by
 cases es with
 |nil=>
  rw[h0 rfl];obtain⟨f,fd,F,hm,hk,hb⟩:=F;exact zjw_ F hr hg hm hk hb .nil hx hd
 |cons e es=>
  rw[jY,bR]at hs;obtain⟨f,fd,F,hm,hk,hb⟩:=F;exact zlH_ F hr hg hm hk hb .nil hx ha hd (zP_ hs.1) (za0_ hs.2)
theorem zjK_ {sp:Sp}{ps:List Str}{j:Nat}{C:iQ}(F:Gk Z.prog Z.w Z.K Z.mg Z.base CX0 j x C ps sp)(hr:Room (j+1) Z.A)(hx:Passes CX0 Z E)(ha:PA Z es ta)(hs:es.all noStar=qK)(hg:Gl Z x)(hd:(x==("__debug__":Str))=qL)(h0:es=[]->ta=tNil):
  PE Z (.Call (.Name x p) es [] pos) (tMake C sp [] E ta):=by
 cases es with
 |nil=>
  rw[h0 rfl];obtain⟨f,fd,F,M,hm,hb⟩:=F;exact zjp_ M F hr hg hm hb .nil hx hd
 |cons e es=>
  rw[jY,bR]at hs;obtain⟨f,fd,F,M,hm,hb⟩:=F;exact zlD_ M F hr hg hm hb .nil hx ha hd (zP_ hs.1) (za0_ hs.2)
theorem zma_ {C:Str}{sp:Sp}{ps:List Str}{j:Nat}(F:Gs Z.prog Z.w Z.K Z.mg Z.base CX0 j C m ps sp)(hr:Room j Z.A)(hx:Passes CX0 Z E)(ha:PA Z es ta)(hs:es.all noStar=qK)(hg:Gl Z C)(hd:(C==("__debug__":Str))=qL)(hl:(apos.endLine==pos.line)=qK)(hn:es.length<29)(h0:es≠[]):
  PE Z (.Call (.Attribute (.Name C p) m apos) es [] pos) (tCall sp [] E ta):=by
 cases es with
 |nil=>exact absurd rfl h0
 |cons e es=>
  have dY:=zh0_ (env:=Z.env) (m:=m) (o:=.Name C p) rfl hl hs hn;rw[jY,bR]at hs;obtain⟨D,f,fd,F,hm,hS,hb⟩:=F;intro pins s σ H Q I h;have hN:PE Z (.Name C p) (tC (.ref D)):=zhD_ hg hm rfl hd;refine nX (thn (hN pins s σ H (λv H1=>v=.ref D/\tCall sp [] E ta σ H1 Q) I ⟨rfl,h⟩) λu s1 ae=>?_) dY
  obtain⟨x,H1,I1,rx,ex,q⟩:=ae;subst ex;obtain rfl:u=jK D:=rx;refine W.method_cls I1.kIn hS.sp (W.cls_value I1.kIn hS.rd hS.fd hS.hd ?_);refine nM (first:=[]) (h₀:=Z.base) I.ok.mod.kin hS.kp (thn (ha pos pins _ σ H1 _ (I1.tok _) q) λus s2 ⟨vs,H2,I2,r,q2⟩=>⟨I2.kIn,?_⟩) (zP_ hs.1) (za0_ hs.2)
  exact zfp_ F hr hb .nil hx I2 r q2
theorem zip_ {sp:Sp}{ps:List Str}{j:Nat}{C:iQ}(F:Gm Z.prog Z.w Z.K Z.mg Z.base CX0 j C m ps sp)(hr:Room j Z.A)(hx:Passes CX0 Z E)(ho:PE Z o t)(ha:PA Z es ta)(hs:es.all noStar=qK)(hb:noSup o=qK)(hl:(apos.endLine == pos.line)=qK)(hn:es.length<29)(h0:es=[]->ta=tNil):
  PE Z (.Call (.Attribute o m apos) es [] pos) (tMeth C m sp [] E t ta):=by
 have dY:=zh0_ (env:=Z.env) (m:=m) hb hl hs hn;cases es with
 |nil=>
  rw[h0 rfl];obtain⟨f,fd,F,c,hm,hb⟩:=F;exact ziF_ ho c hm F hr hb .nil hx dY
 |cons e es=>
  rw[jY,bR]at hs;obtain⟨f,fd,F,c,hm,hb⟩:=F;exact zj3_ ho c hm F hr hb .nil hx ha (zP_ hs.1) (za0_ hs.2) dY
theorem bf_pe (g:Cg Z c k E){b:Bf}(hm:Z.mg b.nm=qJ)(ha:PA Z es ta)(hs:es.all noStar=qK)(h0:es≠[])(hg:glB c b.nm=qK):PE Z (.Call (.Name b.nm p) es [] pos) (tCB (b.r Z.K) ta):=by
 obtain⟨g1,g2⟩:=zg5_ g hg;cases es with
 |nil=>exact absurd rfl h0
 |cons e es=>
  rw[jY,bR]at hs;have s1:=zP_ (env:=Z.env) (es:=es) hs.1;have s2:=za0_ (env:=Z.env) (pos:=pos) hs.2;cases b with
  |len=>exact znc_ zgO_ hm ha g1 rfl (by decide) g2 s1 s2
  |list=>exact zn6_ "list" (zeS_ g.calm) hm ha g1 rfl (by decide) g2 s1 s2
  |int=>exact zn6_ "int" zgX_ hm ha g1 rfl (by decide) g2 s1 s2
  |sortU=>exact znc_ (zfG_ g.calm) hm ha g1 rfl (by decide) g2 s1 s2
  |tupl=>exact zn6_ "tuple" zgg_ hm ha g1 rfl (by decide) g2 s1 s2
theorem sm_pe {b:Sm}(ho:PE Z o t)(ha:PA Z es ta)(hs:es.all noStar=qK)(hb:noSup o=qK)(hl:(apos.endLine==pos.line)=qK)(hn:es.length<29)(h0:es≠[]):PE Z (.Call (.Attribute o b.nm apos) es [] pos) (tBM Z.K "str" (b.r Z.K) t ta):=by
 cases es with
 |nil=>exact absurd rfl h0
 |cons e es=>
  have f:=zgw_ (env:=Z.env) (pos:=pos) hs hn;rw[jY,bR]at hs;have s1:=zP_ (env:=Z.env) (es:=es) hs.1;have s2:=za0_ (env:=Z.env) (pos:=pos) hs.2;have b0:=λn=>zcx_ (env:=Z.env) (m:=n) hb
  cases b with
  |join=>exact pe_sm zer_ zev_ zlb_ ho ha (b0 _) f hl s1 s2
  |index=>exact pe_sm zdm_ zdO_ ziT_ ho ha (b0 _) f hl s1 s2
variable {T:Ft}{G:Gi}
theorem zb8_ {cells:List (Str×iQ)}:∀(names:List (Str×lB)) (acc:List (Str×iQ)),(∀y∈names,y.2=.free->∃a,cells.lookup y.1=qI a)->∃cl,closeL cells names acc=qI cl
 |[],acc,_=>⟨acc,rfl⟩
 |(n,k)::r,acc,h=>by
  unfold closeL;split
  ·rename_i hk
   obtain⟨a,ha⟩:=h (n,k) (i5 ..) (eq_of_beq hk);rw[show cells.lookup n=qI a from ha]
   exact zb8_ r _ λy hy=>h y (i7 _ hy)
  ·exact zb8_ r _ λy hy=>h y (i7 _ hy)
theorem zdo_ (g:Cg Z c k E){sc:Scope}:(relabel sc Z.env).names=relab c.nm sc.names:=by
 unfold relabel relab nI;rw[g.kind,g.nm];simp
theorem zf2_ (g:Cg Z c k E){sc:Scope}{lv:List Str}{fr:List (Str×Nat)}(h:scB c sc lv fr=qK):
  (cN lv fr).Nodup/\∃cl,CScope Z sc cl lv fr/\∀C fp s2 H2,Cg (cxComp Z sc cl C (cN lv fr) fp s2 H2) ⟨cN lv fr,relab c.nm sc.names⟩ k E0:=by
 unfold scB at h;rw[bR,bR,bR]at h;obtain⟨⟨⟨h1,h2⟩,h3⟩,h4⟩:=h;have h1:=km.mp h1;have h3:=km.mp h3;have h2:sc.kind=.function:=eq_of_beq h2;have hc:∀y∈sc.names,y.2≠.cell:=λy hy=>by have:=h1 y hy;simp at this;exact this.1.1
 have hf:∀y∈sc.names,y.2=.free->c.nm.lookup y.1=qI .cell\/c.nm.lookup y.1=qI .free:=λy hy z=>by
  have:=h1 y hy;simp[z]at this;exact this
 obtain⟨cl,bA⟩:=zb8_ (cells:=Z.env.cells) sc.names [] λy hy z=>g.cells _ (hf y hy z)
 refine⟨of_decide_eq_true h4,cl,⟨bA,hc,h2,λz hz e=>?_,λq hq=>?_⟩,λC fp s2 H2=>⟨rfl,zdo_ g,h2,g.calm,g.room,zic_,λx hx=>?_⟩⟩
 ·have:=h1 z hz;simp[e]at this;exact this
 ·have:=h3 q hq
  simp at this;obtain⟨⟨⟨a,b⟩,d⟩,e⟩:=this;unfold nI;rw[g.N,g.nm,zdo_ g];exact⟨a,b,d,e⟩
 ·have hx:(relabel sc Z.env).names.lookup x=qI .cell\/(relabel sc Z.env).names.lookup x=qI .free:=by rw[zdo_ g];exact hx
  have hm:(x,NameKind.free)∈sc.names:=hx.elim (λz=>za3_ z (.inl rfl) hc) λz=>za3_ z (.inr rfl) hc
  exact zbv_ sc.names [] cl bA x (.inl hm)
theorem zil_ (g:Cg Z c k E)(nd:c.N.Nodup){i:Nat}(hf:(∀x,Z.fn x=qK)\/∀x,c.N[i]?=qI x->c.nm.lookup x=qI .local)(h:tgB c i e=qK):PG Z e (gName i)/\∃x p,e=.Name x p:=by
 unfold tgB at h;split at h
 ·rename_i x p
  rw[bR]at h;have hi:c.N[i]?=qI x:=eq_of_beq h.1;exact⟨zmK_ (by rw[g.N];exact nd) (by rw[g.N];exact hi) (zj4_ g h.2) (hf.elim (λz=>.inl (z x)) λz=>.inr (by rw[g.nm];exact z x hi)),x,p,rfl⟩
 ·cases h
theorem zlA_ (g:Cg Z c k E)(nd:c.N.Nodup):∀{is:List Nat}{es:List i4},((∀x,Z.fn x=qK)\/∀i∈is,∀x,c.N[i]?=qI x->c.nm.lookup x=qI .local)->tgsB c is es=qK->PGs Z es (tgS is)/\(kE es Z.env).length=is.length/\(kE es Z.env).findIdx? (·.1)=qJ
 |[],[],_,_=>⟨ziV_,rfl,rfl⟩
 |[],_::_,_,h=>by cases h
 |_::_,[],_,h=>by cases h
 |i::is,e::es,hf,h=>by
  unfold tgsB at h;rw[bR]at h;obtain⟨h1,x,p,rfl⟩:=zil_ g nd (i:=i) (hf.imp id λz=>z i (i5 ..)) h.1
  obtain⟨a,b,d⟩:=zlA_ g nd (is:=is) (es:=es) (hf.imp id λz j hj=>z j (i7 _ hj)) h.2
  refine⟨zgT_ h1 a,?_,?_⟩
  ·show(kE es Z.env).length+1=_;rw[b];rfl
  ·show List.findIdx? _ ((qL,_)::kE es Z.env)=qJ
   rw[List.findIdx?_cons];simp[d]
theorem zny_ (g:Cg Z c k E)(nd:c.N.Nodup){tg:Tg}(hf:(∀x,Z.fn x=qK)\/locals? c tg=qK)(h:tgOk c tg e=qK):PG Z e (tgT Z.K tg):=by
 have hf:(∀x,Z.fn x=qK)\/∀i∈tg.is,∀x,c.N[i]?=qI x->c.nm.lookup x=qI .local:=hf.imp id λz i hi x hx=>by
  have:=km.mp z i hi;rw[hx]at this;exact eq_of_beq this
 unfold tgOk at h;unfold tgT;split at h
 ·rename_i es _ _ ht
  rw[if_pos ht];obtain⟨a,b,d⟩:=zlA_ g nd hf h;exact zmH_ g.calm a b d
 ·rename_i ht
  rw[if_neg (by rw[ht];decide)]
  rw[bR]at h;refine(zil_ g nd (hf.imp id λz=>?_) h.2).1
  have hl:=eq_of_beq h.1;cases hi:tg.is with
  |nil=>rw[hi]at hl;cases hl
  |cons i r=>rw[hi]at z;exact z i (i5 ..)
 ·cases h
theorem zkr_ {f:Str}(hc:∀d∈G.cs,Cls Z.K (gA Z.K d)/\NoAttr Z.K (gA Z.K d) f)(he:PE Z e t)(hb:noSup e=qK):PE Z (.Attribute e f pos) (tFld Z.K G.cs t f):=by
 intro pins s σ H Q I h;obtain⟨d,hd,h⟩:=h;exact zmT_ (hc d hd).1 (hc d hd).2 he (zcx_ hb) pins s σ H Q I h
theorem zju_ {ms:List (Str×Fn)}(hm:∀q∈ms,∃ps j,j<=k/\Gm Z.prog Z.w Z.K Z.mg Z.base CX0 j (gA Z.K q.1) m ps (CtG Z.K q.2))(hr:Room k Z.A)(hx:Passes CX0 Z E)(ho:PE Z o t)(ha:PA Z es ta)(hs:es.all noStar=qK)(hb:noSup o=qK)(hl:(apos.endLine == pos.line)=qK)(hn:es.length<29)(h0:es=[]->ta=tNil):
  PE Z (.Call (.Attribute o m apos) es [] pos) (tMethA Z.K ms m E t ta):=by
 intro pins s σ H Q I h;obtain⟨q,hq,h⟩:=h;obtain⟨ps,j,hj,F⟩:=hm q hq;exact zip_ F (hr.mono hj) hx ho ha hs hb hl hn h0 pins s σ H Q I h
theorem znF_ (g:Cg Z c k E){n:String}{y:Str}{p1 p2:Pos}(ha:PE Z e t)(he:noStar e=qK)(h1:glB c "isinstance"=qK)(h2:Z.mg "isinstance"=qJ)(hn:tyNm n=qI y)(h3:glB c y=qK)(h4:Z.mg y=qJ):PE Z (.Call (.Name "isinstance" p1) [e,.Name y p2] [] pos) (tCB (mIsaV Z.K) (tCons t (tCons (tC (.ty n)) tNil))):=by
 obtain⟨g1,g2⟩:=zg5_ g h1;obtain⟨g3,g4⟩:=zg5_ g h3;have hb:k9 y=qI (.type n)/\y ≠ "__name__":=by
  unfold tyNm at hn;split at hn<;>cases hn<;>exact⟨rfl,by decide⟩
 exact znc_ zgH_ h2 (zeX_ ha (zeX_ (pe_ty n h4 g3 hb.1 hb.2 g4) zmN_ (zP_ rfl)) (zP_ he)) g1 rfl (by decide) g2 (zP_ he) (za0_ rfl)
theorem os1 {os:List CmpOp}{a:Option CmpOp}(h:[a]=os.map qI):∃x,a=qI x/\os=[x]:=by
 cases os with
 |nil=>cases h
 |cons x l=>cases l with |nil=>cases h;exact⟨x,rfl,rfl⟩|cons=>cases h
theorem zq_:∀{as:List X}{es:List i4},chkEs T G c as es=qK->es.all noStar=qK/\(es=[]↔as=[])
 |[],es,h=>by
  unfold chkEs at h;rw[jT.mp h];exact⟨rfl,Iff.rfl.trans ⟨λ_=>rfl,λ_=>rfl⟩⟩
 |a::as,es,h=>by
  apply kc_ h;intro e es h;simp only[bR]at h;exact⟨by rw[jY,h.1.1,(zq_ h.2).1];rfl,(λz=>by cases z),(λz=>by cases z)⟩
theorem zdC_ {K:jl}{as:List X}(h:chkEs T G c as es=qK)(h0:es=[]):X.dens K G E as=tNil:=by rw[(zq_ h).2.mp h0,X.dens]
theorem zlW_ {as:List X}(h:chkEs T G c as es=qK)(h0:(!as.isEmpty)=qK):es≠[]:=λz=>by
 rw[(zq_ h).2.mp z]at h0;cases h0
theorem zj2_ {os:List CmpOp}{l:List (Option CmpOp)}(h:(os.map qI == l)=qK):l=os.map qI:=(eq_of_beq h).symm
abbrev AllH (Z:Cx)(k:Nat)(l:List Fc):Prop:=∀φ∈l,φ.H Z.prog Z.w Z.K Z.mg Z.base k
theorem AllH.l {a b:List Fc}(h:AllH Z k (a++b)):AllH Z k a:=λφ bG=>h φ (kg _ bG)
theorem AllH.r {a b:List Fc}(h:AllH Z k (a++b)):AllH Z k b:=λφ bG=>h φ (i8 _ bG)
theorem ziv_ {tg:Tg}(h:tgOk c tg e=qK)(ht:tg.tup=qK):∃es k p,e=.Tuple es k p:=by
 unfold tgOk at h;split at h
 ·exact⟨_,_,_,rfl⟩
 ·rename_i z;rw[z]at ht;cases ht
 ·cases h
theorem zk0_ {ik:Ik}{src:List X}{tg:Tg}{t it:i4}{k1:Bool}{ks:List i4->Bool}(fo:T.Ok G Z.K Z.mg)(g:Cg Z c k E)(h3:tg.tup=qK->∃es k p,t=.Tuple es k p)(h:srcB T c ik tg it k1 ks=qK)
  (H0:k1=qK->∃s,src=[s]/\PE Z it (s.den Z.K G E)) (H1:∀es,ks es=qK->PA Z es (X.dens Z.K G E src)/\es.all noStar=qK):PI Z t it (ik.t Z.K (X.dens Z.K G E src)):=by
 unfold srcB at h;cases ha:ik.isAny with
 |true=>
  rw[ha,cond_true]at h;obtain⟨s,rfl,hs⟩:=H0 h;cases ik<;>first |exact zo2_ hs |cases ha
 |false=>
  rw[ha,cond_false]at h;apply kC_ h;intro f es q h;apply kN_ h;intro y p h;simp only[bR]at h;obtain⟨⟨⟨⟨⟨h1,h2⟩,h4⟩,h5⟩,h6⟩,h7⟩:=h;obtain⟨pa,st⟩:=H1 es h7;have b:=fo.bs y (by simpa using h5)
  have gl:=(zg5_ g h4).1;have hy:=eq_of_beq h1;have hl:=eq_of_beq h2;have tp:ik.tp=qK->∃es k p,t=.Tuple es k p:=λz=>h3 (by rw[z]at h6;simpa using h6)
  have sm:=zcg_ (env:=Z.env) st;cases ik with
  |any=>cases ha
  |r1=>obtain⟨a,rfl⟩:=lY.mp hl;cases hy;exact zjr_ b pa gl sm
theorem zhF_ (lv:List Str)(fr:List (Str×Nat))(ik:Ik)(src:List X)(tg:Tg)(d:Option X)(x:X)
  (H0:∀{Z:Cx}{c:Ck}{E:XK}{e:i4},T.Ok G Z.K Z.mg->Cg Z c k E->AllH Z k (X.fcss src)->chk1 T G c src e=qK->∃s,src=[s]/\PE Z e (s.den Z.K G E))
  (H1:∀{Z:Cx}{c:Ck}{E:XK}{es:List i4},T.Ok G Z.K Z.mg->Cg Z c k E->AllH Z k (X.fcss src)->chkEs T G c src es=qK->PA Z es (X.dens Z.K G E src))
  (H2:∀{Z:Cx}{c:Ck}{E:XK}{es:List i4},T.Ok G Z.K Z.mg->Cg Z c k E->AllH Z k (X.fcsO d)->chkIf T G c d es=qK->PIf Z es (X.denT Z.K G E d))
  (H3:∀{Z:Cx}{c:Ck}{E:XK}{e:i4},T.Ok G Z.K Z.mg->Cg Z c k E->AllH Z k x.fcs->chkE T G c x e=qK->Rd Z e (x.den Z.K G E)):∀{Z:Cx}{c:Ck}{E:XK}{e:i4},T.Ok G Z.K Z.mg->Cg Z c k E->AllH Z k (X.comp lv fr ik src tg d x).fcs->chkE T G c (.comp lv fr ik src tg d x) e=qK ->
  ∃t it ifs elt sc pos,e=.ListComp elt [⟨t,it,ifs,0⟩] sc pos/\∃cl,CScope Z sc cl lv fr/\PI Z t it (ik.t Z.K (X.dens Z.K G E src))/\(∀C fp s2 H2,PG (cxComp Z sc cl C (cN lv fr) fp s2 H2) t (tgT Z.K tg)) /\
   (∀C fp s2 H2,PIf (cxComp Z sc cl C (cN lv fr) fp s2 H2) ifs (X.denT Z.K G E0 d))/\(∀C fp s2 H2,PE (cxComp Z sc cl C (cN lv fr) fp s2 H2) elt (x.den Z.K G E0))/\noSet it=qK:=by
 intro Z c E e fo g fs h;apply kG_ h;intro elt gs sc pos h;rw[bR]at h;obtain⟨⟨t,it,ifs,as⟩,rfl⟩:=lY.mp (eq_of_beq h.1);have h:=h.2;rw[jY,List.all_nil,Bool.and_true]at h;simp only[bR]at h;obtain⟨⟨⟨⟨⟨⟨⟨h1,h2⟩,h3⟩,h4⟩,h5⟩,h6⟩,h7⟩,h8⟩:=h;cases eq_of_beq h1;obtain⟨nd,cl,S,cg⟩:=zf2_ g h2
 exact⟨t,it,ifs,elt,sc,pos,rfl,cl,S,zk0_ fo g (ziv_ h3) h6 (H0 fo g fs.l) λes z=>⟨H1 fo g fs.l z,(zq_ z).1⟩,λC fp s2 H2=>zny_ (Z:=cxComp Z sc cl C (cN lv fr) fp s2 H2) (cg C fp s2 H2) nd (.inr h4) h3,λC fp s2 f9=>H2 (Z:=cxComp Z sc cl C (cN lv fr) fp s2 f9) fo (cg C fp s2 f9) fs.r.l h7,
   λC fp s2 H2=>(H3 (Z:=cxComp Z sc cl C (cN lv fr) fp s2 H2) fo (cg C fp s2 H2) fs.r.r h8).pe,h5⟩
mutual
theorem za_:∀(x:X) {Z:Cx}{c:Ck}{E:XK}{e:i4},T.Ok G Z.K Z.mg->Cg Z c k E->AllH Z k x.fcs->chkE T G c x e=qK->Rd Z e (x.den Z.K G E)
 |.v i,Z,c,E,e,fo,g,fs,h=>by
  apply kN_ h;intro x p h;rw[bR,bR]at h;have h3:=h.2;unfold nmOk at h3;rw[bR]at h3;exact zj_ (zlQ_ i (by rw[g.N];exact eq_of_beq h.1.1) (znI_ g h.1.2) (by simpa using h3.1) (by simpa using h3.2)) rfl
 |.k d,Z,c,E,e,fo,g,fs,h=>by
  apply kK_ h;intro x n p h;exact zj_ (zi9_ h) rfl
 |.g x d,Z,c,E,e,fo,g,fs,h=>by
  show Rd Z e (tC (d.flat?.getD .non))
  apply kN_ h;intro y p h;rw[bR,bR]at h;cases eq_of_beq h.1.1;obtain⟨g1,g2⟩:=zg5_ g h.1.2;have h2:=h.2;cases hv:d.flat? with
  |none=>rw[hv]at h2;cases h2
  |some v=>rw[hv]at h2;exact zj_ (pe_gc (fo.gc _ (by simpa using h2)) g1 g2) rfl
 |.gt x ls,Z,c,E,e,fo,g,fs,h=>by
  apply kN_ h;intro y p h;rw[bR,bR]at h;cases eq_of_beq h.1.1;obtain⟨g1,g2⟩:=zg5_ g h.1.2;obtain⟨q,hq,e⟩:=nH.mp h.2;have:=fo.kt q hq;rw[eq_of_beq e]at this;exact zj_ (pe_gc this g1 g2) rfl
 |.bin o a b,Z,c,E,e,fo,g,fs,h=>by
  rcases(lK _ _).mp h with h |h
  rotate_left
  rcases(lK _ _).mp h with h |h
  rotate_right
  ·apply kB_ h;intro l op r p h
   simp only[bR]at h;exact zj_ (pe_op (bo_op (eq_of_beq h.1.1)) (za_ a fo g fs.l h.1.2).pe (za_ b fo g fs.r h.2).pe) rfl
  ·apply kM_ h;intro l os rs p h
   apply kc_ h;intro r t h;simp only[bR]at h;cases jT.mp h.1.1.1.2;obtain⟨op,ho,rfl⟩:=os1 (zj2_ h.1.1.1.1);exact zlj_ (zmy_ g.units ho) (za_ a fo g fs.l h.1.2) (za_ b fo g fs.r h.2) h.1.1.2
  ·apply kS_ h;intro l r p h
   simp only[bR]at h;have ho:o=.ix:=by
    have:=h.1.1.1;cases o<;>first |rfl |cases this
   subst ho;exact zj_ (pe_ix (ix_A g.units) (za_ a fo g fs.l h.1.2).pe (za_ b fo g fs.r h.2).pe (ziQ_ h.1.1.2)) rfl
 |.and a b,Z,c,E,e,fo,g,fs,h=>by
  apply kO_ h;intro x y l p h;simp only[bR]at h;cases l with
  |nil=>exact zhq_ (za_ a fo g fs.l h.1.2) (za_ b fo g fs.r h.2) h.1.1.1 h.1.1.2
  |cons z l=>exact zj6_ (za_ a fo g fs.l h.1.2) (za_ b fo g fs.r h.2) h.1.1.1
 |.or a b,Z,c,E,e,fo,g,fs,h=>by
  apply kO_ h;intro x y l p h;simp only[bR]at h;cases l with
  |nil=>exact zkd_ (za_ a fo g fs.l h.1.2) (za_ b fo g fs.r h.2) h.1.1.1 h.1.1.2
  |cons z l=>exact rd_or (za_ a fo g fs.l h.1.2) (za_ b fo g fs.r h.2) h.1.1.1
 |.not a,Z,c,E,e,fo,g,fs,h=>by
  apply kU_ h;intro o x p h;simp only[bR]at h;cases eq_of_beq h.1.1;exact zlI_ (za_ a fo g fs h.2) h.1.2
 |.ifx d a b,Z,c,E,e,fo,g,fs,h=>by
  apply kI_ h;intro t x y p h;simp only[bR]at h;exact rd_if (zo1_ ((za_ d fo g fs.l h.1.1.2).pt h.1.1.1) (za_ a fo g fs.r.l h.1.2).pe (za_ b fo g fs.r.r h.2).pe) rfl
 |.sl a lo hi,Z,c,E,e,fo,g,fs,h=>by
  apply kS_ h;intro l r p h;apply kL_ h;intro l1 l2 l3 q h;simp only[bR]at h;cases ky.mp h.1.1.1;exact zj_ (ziy_ sl_A (za_ a fo g fs.l h.1.1.2).pe (zho_ lo fo g fs.r.l h.1.2) (zho_ hi fo g fs.r.r h.2)) rfl
 |.tup as,Z,c,E,e,fo,g,fs,h=>by
  apply kT_ h;intro es n p h;exact zj_ (zoI_ (z3_ as fo g fs h)) rfl
 |.lst as,Z,c,E,e,fo,g,fs,h=>by
  apply kW_ h;intro es p h;exact zj_ (zow_ (z3_ as fo g fs h)) rfl
 |.fld a f,Z,c,E,e,fo,g,fs,h=>by
  apply kA_ h;intro o f' p h;simp only[bR]at h;cases eq_of_beq h.1.1.1;exact zj_ (zkr_ (λd hd=>⟨fo.cls d hd,fo.at_ d hd _ (by simpa using h.1.1.2)⟩) (za_ a fo g fs h.2).pe h.1.2) rfl
 |.call f x as,Z,c,E,e,fo,g,fs,h=>by
  apply kC_ h;intro y es q h;apply kN_ h;intro y p h;simp only[bR]at h;cases eq_of_beq h.1.1;obtain⟨g1,g2⟩:=zg5_ g h.1.2;obtain⟨ps,j,hj,F⟩:=fs _ (i5 ..);exact zj_ (zih_ F (g.room.mono hj) g.pass (z3_ as fo g (λφ bG=>fs φ (i7 _ bG)) h.2) (zq_ h.2).1 g1 g2 (zdC_ h.2)) rfl
 |.bf o as,Z,c,E,e,fo,g,fs,h=>by
  apply kC_ h;intro y es q h;apply kN_ h;intro y p h;simp only[bR]at h;cases eq_of_beq h.1.1.1.1;exact zj_ (bf_pe g (fo.bs _ (by simpa using h.1.1.2)) (z3_ as fo g fs h.2) (zq_ h.2).1 (zlW_ h.2 h.1.2) h.1.1.1.2) rfl
 |.sm o a as,Z,c,E,e,fo,g,fs,h=>by
  apply kC_ h;intro y es q h;apply kA_ h;intro r m p h;simp only[bR]at h;cases eq_of_beq h.1.1.1.1.1.1;exact zj_ (sm_pe (za_ a fo g fs.l h.1.2).pe (z3_ as fo g fs.r h.2) (zq_ h.2).1 h.1.1.1.1.1.2 h.1.1.1.1.2 (of_decide_eq_true h.1.1.1.2) (zlW_ h.2 h.1.1.2)) rfl
 |.get a w z,Z,c,E,e,fo,g,fs,h=>by
  apply kC_ h;intro r es q h;apply kA_ h;intro r m ap h;apply kc_ h;intro x t h;apply kc_ h;intro y t h;simp only[bR]at h;obtain⟨⟨⟨⟨⟨⟨⟨⟨h1,ht⟩,h2⟩,h3⟩,h4⟩,h5⟩,h6⟩,h7⟩,h8⟩:=h;cases eq_of_beq h1;cases jT.mp ht;have st:[x,y].all noStar=qK:=by simp[h4,h5]
  have hu:Z.A.units+1<cLine:=by have:=g.units;lia
  exact zj_ (zja_ hu (za_ a fo g fs.l h6).pe (za_ w fo g fs.r.l h7).pe (za_ z fo g fs.r.r h8).pe ⟨zcx_ h2,zgw_ st (show 2<29 by decide),h3,by rw[zcg_ st];rfl⟩) rfl
 |.comp lv fr ik src tg d x,Z,c,E,e,fo,g,fs,h=>by
  obtain⟨t,it,ifs,elt,sc,pos,rfl,cl,S,q1,q2,q3,q4,q5⟩:=zhF_ lv fr ik src tg d x (zfv_ src) (z3_ src) (ze4_ d) (za_ x) fo g fs h;exact zj_ (zj1_ g.calm S q1 q2 q3 q4 (zbY_ q5)) rfl
 |.make f d as,Z,c,E,e,fo,g,fs,h=>by
  apply kC_ h;intro y es q h;apply kN_ h;intro y p h;simp only[bR]at h;cases eq_of_beq h.1.1;obtain⟨g1,g2⟩:=zg5_ g h.1.2;obtain⟨ps,j,hj,F⟩:=fs _ (i5 ..);exact zj_ (zjK_ F (g.room.mono hj) g.pass (z3_ as fo g (λφ bG=>fs φ (i7 _ bG)) h.2) (zq_ h.2).1 g1 g2 (zdC_ h.2)) rfl
 |.meth ms a m as,Z,c,E,e,fo,g,fs,h=>by
  apply kC_ h;intro y es q h;apply kA_ h;intro r m p h;simp only[bR]at h;cases eq_of_beq h.1.1.1.1.1;exact zj_ (zju_ (λq hq=>fs.l _ (jV.mpr ⟨q,hq,rfl⟩)) g.room g.pass (za_ a fo g fs.r.l h.1.2).pe (z3_ as fo g fs.r.r h.2) (zq_ h.2).1 h.1.1.1.1.2 h.1.1.1.2 (of_decide_eq_true h.1.1.2) (zdC_ h.2)) rfl
 |.isa a n,Z,c,E,e,fo,g,fs,h=>by
  apply kC_ h;intro y es q h;apply kN_ h;intro y p h;apply kc_ h;intro x t h;apply kc_ h;intro z t2 h;apply kN_ h;intro z p2 h;simp only[bR]at h;obtain⟨⟨⟨⟨⟨⟨⟨⟨h1,ht⟩,h2⟩,h3⟩,h4⟩,h5⟩,h6⟩,h7⟩,h8⟩:=h;cases eq_of_beq h1;cases jT.mp ht;exact zj_ (znF_ g (za_ a fo g fs h8).pe h4 h2 (fo.bs _ (by simpa using h3)) (eq_of_beq h5) h6 (fo.bs _ (by simpa using h7))) rfl
 |.ds1 a b,Z,c,E,e,fo,g,fs,h=>by
  apply kDd_ h;intro ks vs p h;apply kco_ h;intro k kt h;apply kc_ h;intro v vt h;simp only[bR]at h;cases jT.mp h.1.1.1;cases jT.mp h.1.1.2;exact zj_ (zkI_ (zjA_ (za_ a fo g fs.l h.1.2).pe (za_ b fo g fs.r h.2).pe zmD_) rfl rfl (λz=>by cases z) (mG rfl)) rfl
 |.dct0,Z,c,E,e,fo,g,fs,h=>by
  apply kDi_ h;intro p;exact zj_ zjP_ rfl
theorem zfv_:∀(as:List X) {Z:Cx}{c:Ck}{E:XK}{e:i4},T.Ok G Z.K Z.mg->Cg Z c k E->AllH Z k (X.fcss as)->chk1 T G c as e=qK->∃s,as=[s]/\PE Z e (s.den Z.K G E)
 |[],Z,c,E,e,fo,g,fs,h=>by unfold chk1 at h;cases h
 |s::as,Z,c,E,e,fo,g,fs,h=>by
  have h:=jE.mp h;cases jT.mp h.1;exact⟨s,rfl,(za_ s fo g fs.l h.2).pe⟩
theorem z3_:∀(as:List X) {Z:Cx}{c:Ck}{E:XK}{es:List i4},T.Ok G Z.K Z.mg->Cg Z c k E->AllH Z k (X.fcss as)->chkEs T G c as es=qK->PA Z es (X.dens Z.K G E as)
 |[],Z,c,E,es,fo,g,fs,h=>by
  show PA Z es tNil;rw[jT.mp h]
  exact zmN_
 |a::as,Z,c,E,es,fo,g,fs,h=>by
  apply kc_ h;intro e t h;simp only[bR]at h;exact zeX_ (za_ a fo g fs.l h.1.2).pe (z3_ as fo g fs.r h.2) (zP_ h.1.1)
theorem zho_:∀(a:Option X) {Z:Cx}{c:Ck}{E:XK}{e:Option i4},T.Ok G Z.K Z.mg->Cg Z c k E->AllH Z k (X.fcsO a)->chkO T G c a e=qK->PO Z e (X.denO Z.K G E a)
 |none,Z,c,E,e,fo,g,fs,h=>by
  show PO Z e tNoPart;rw[ky.mp h]
  exact zmG_
 |some a,Z,c,E,e,fo,g,fs,h=>by
  cases e with
  |none=>cases h
  |some e=>exact po_M (za_ a fo g fs h).pe
theorem ze4_:∀(a:Option X) {Z:Cx}{c:Ck}{E:XK}{es:List i4},T.Ok G Z.K Z.mg->Cg Z c k E->AllH Z k (X.fcsO a)->chkIf T G c a es=qK->PIf Z es (X.denT Z.K G E a)
 |none,Z,c,E,es,fo,g,fs,h=>by
  show PIf Z es tTrue;rw[jT.mp h]
  exact zlG_
 |some a,Z,c,E,es,fo,g,fs,h=>by
  apply kc_ h;intro e t h;simp only[bR]at h;cases jT.mp h.1.1;exact zmv_ ((za_ a fo g fs h.2).pt h.1.2)
end
end
structure Cq (Z:Cx)(c:Ck)(k:Nat)(E:XK):Prop extends Cg Z c k E where
 fn:∀x,Z.fn x=qK
 nd:c.N.Nodup
 own:PassesOwn (model Z.prog Z.w) Z.A Z.env Z.xe
 ex:Z.ex=[]
 stack:Z.stack=Z.env::Z.outer/\Z.env.frame=qI Z.env.locals
noncomputable def Y.isC:Y->Bool
 |.pu (.comp ..)=>qK |_=>qL
noncomputable def Bm.nm:Bm->Str
 |.append => "append" |.extend => "extend" |.popAt => "pop" |.clear => "clear" |.insert => "insert"
def Y.fcs:Y->List Fc
 |.pu x=>x.fcs
 |.mv i=>[]
 |.mp p=>p.x.fcs
 |.call f x as=>(X.call f x (as.map A.t)).fcs
 |.cls f c m as=>.cls f c m::X.fcss (as.map A.t)
 |.meth ms p m as=>(X.meth ms p.x m (as.map A.t)).fcs
 |.bm _ p as=>p.x.fcs++X.fcss (as.map A.t)
 |.bin _ y z=>y.fcs++z.fcs
 |.not y=>y.fcs
 |.or y z=>y.fcs++z.fcs
 |.and y z=>y.fcs++z.fcs
mutual
def S.fcs:S->List Fc
 |.asg _ y=>y.fcs
 |.setM p _ q=>p.x.fcs++q.x.fcs
 |.setF p _ x=>p.x.fcs++x.fcs
 |.setI p k x=>p.x.fcs++(k.fcs++x.fcs)
 |.ex y=>y.fcs
 |.ret y=>y.fcs
 |.retN=>[]
 |.if_ c a b=>c.fcs++(S.fcss a++S.fcss b)
 |.ifY c a b=>c.fcs++(S.fcss a++S.fcss b)
 |.ifL c a b=>c.fcs++(S.fcss a++S.fcss b)
 |.view _ s=>s.fcs
 |.for_ _ src _ b=>X.fcss src++S.fcss b
 |.forJ _ x _ b=>x.fcs++S.fcss b
 |.while_ c b=>c.fcs++S.fcss b
 |.pass=>[]
 |.never=>[]
 |.try0 b aS=>S.fcss b++S.fcss aS
def S.fcss:List S->List Fc
 |[]=>[]
 |s::ss=>s.fcs++S.fcss ss
end
section
variable (T:Ft)(G:Gi)
def chkY (c:Ck):Y->i4->Bool
 |.pu x,e=>chkE T G c x e
 |.mv i,e=>chkE T G c (.v i) e
 |.mp p,e=>chkE T G c p.x e
 |.call f x as,e=>chkE T G c (.call f x (as.map A.t)) e
 |.cls f C m as,e=>kC e λr es q=>kA r λo n p=>kN o λx=>x == C && n == m && glB c C && p.endLine == q.line && decide (es.length<29) && !es.isEmpty && chkEs T G c (as.map A.t) es
 |.meth ms p m as,e=>chkE T G c (.meth ms p.x m (as.map A.t)) e
 |.bm o p as,e=>kC e λr es q=>kA r λr m ap=>m == o.nm && noSup r && ap.endLine == q.line && decide (es.length<29) && chkE T G c p.x r && chkEs T G c (as.map A.t) es
 | .bin o y z,e=>kB e (λl op r=>o.op == qI op && chkY c y l && chkY c z r)||
   kM e (λl os rs=>kc rs λr t=>os.map qI == [o.cmp] && t.isEmpty && noSet r && chkY c y l && chkY c z r)
 |.not y,e=>kU e λo x=>o == .Not && noIf x && chkY c y x
 |.or y z,e=>kO .Or e λa b l=>noIf a && (!l ||noIf b) && chkY c y a && chkY c z b
 |.and y z,e=>kO .And e λa b l=>noIf a && (!l ||noIf b) && chkY c y a && chkY c z b
noncomputable def sA:jI->(i4->i4->Bool)->Bool
 |.Assign [g] e _,k=>k g e |_,_=>qL
noncomputable def sE:jI->(i4->Bool)->Bool
 |.Expr e _,k=>k e |_,_=>qL
noncomputable def sR:jI->(Option i4->Bool)->Bool
 |.Return e _,k=>k e |_,_=>qL
noncomputable def sI:jI->(i4->List jI->List jI->Bool)->Bool
 |.If e a b _,k=>k e a b |_,_=>qL
def sF:jI->(i4->i4->List jI->Bool)->Bool
 |.For t i b [] _,k=>k t i b |_,_=>qL
noncomputable def sW:jI->(i4->List jI->Bool)->Bool
 |.While e b [] _,k=>k e b |_,_=>qL
noncomputable def sT:jI->(List jI->List jI->Bool)->Bool
 |.Try b (_::_) l [] _,k=>k b l |_,_=>qL
noncomputable def sP:jI->Bool
 |.Pass _=>qK |_=>qL
section
variable {s:jI}{C:jI->Prop}
theorem sA_ {k}(h:sA s k=qK)(H:∀g e q,k g e=qK->C (.Assign [g] e q)):C s:=by
 unfold sA at h;split at h
 ·exact H _ _ _ h
 ·cases h
theorem sE_ {k}(h:sE s k=qK)(H:∀e q,k e=qK->C (.Expr e q)):C s:=by cases s<;>first |exact H _ _ h |cases h
theorem sR_ {k}(h:sR s k=qK)(H:∀e q,k e=qK->C (.Return e q)):C s:=by cases s<;>first |exact H _ _ h |cases h
theorem sI_ {k}(h:sI s k=qK)(H:∀e a b q,k e a b=qK->C (.If e a b q)):C s:=by cases s<;>first |exact H _ _ _ _ h |cases h
theorem sF_ {k}(h:sF s k=qK)(H:∀t i b q,k t i b=qK->C (.For t i b [] q)):C s:=by
 unfold sF at h;split at h
 ·exact H _ _ _ _ h
 ·cases h
theorem sW_ {k}(h:sW s k=qK)(H:∀e b q,k e b=qK->C (.While e b [] q)):C s:=by
 unfold sW at h;split at h
 ·exact H _ _ _ h
 ·cases h
theorem sT_ {k}(h:sT s k=qK)(H:∀b a r l q,k b l=qK->C (.Try b (a::r) l [] q)):C s:=by
 unfold sT at h;split at h
 ·exact H _ _ _ _ _ h
 ·cases h
theorem sP_ (h:sP s=qK)(H:∀q,C (.Pass q)):C s:=by cases s<;>first |exact H _ |cases h
end
noncomputable def sc:List jI->(jI->List jI->Bool)->Bool
 |a::l,k=>k a l |[],_=>qL
theorem sc_ {l:List jI}{C:List jI->Prop}{k}(h:sc l k=qK)(H:∀a t,k a t=qK->C (a::t)):C l:=by cases l with |nil=>cases h |cons a t=>exact H a t h
noncomputable def isStr:Const->Bool
 |.str _=>qK |_=>qL
mutual
def chkS (c:Ck):S->jI->Bool
 |.asg i y,s=>sA s λg e=>tgB c i g && (noCmp e ||y.isC) && chkY T G c y e
 |.setM p n q,s=>sA s λg e=>kA g λo f _=>n == f && T.at_.contains n && chkE T G c p.x o && chkE T G c q.x e
 |.setF p n x,s=>sA s λg e=>kA g λo f _=>n == f && T.at_.contains n && chkE T G c p.x o && chkE T G c x e
 |.setI p k x,s=>sA s λg e=>kS g λo i=>noSl i && chkE T G c p.x o && chkE T G c k i && chkE T G c x e
 |.ex y,s=>sE s λe=>noCmp e && chkY T G c y e
 |.ret y,s=>sR s λe=>e.any (chkY T G c y)
 |.retN,s=>sR s λe=>e.isNone
 |.if_ d a b,s=>sI s λe x y=>noIf e && chkE T G c d e && chkSs c a x && chkSs c b y
 |.view _ d,s=>chkS c d s
 |.ifL d a b,s=>sI s λe x y=>plainT e && chkE T G c d e && chkSs c a x && chkSs c b y
 |.ifY d a b,s=>sI s λe x y=>noIf e && chkY T G c d e && chkSs c a x && chkSs c b y
 |.for_ ik src tg b,s=>sF s λt it x=>noSet it && tgOk c tg t && srcB T c ik tg it (chk1 T G c src it) (chkEs T G c src) && chkSs c b x
 |.forJ k a tg b,s=>sF s λt it x=>noSet it && tgOk c tg t && (match k with |.keys=>chkE T G c a it |.items=>tg.tup && kC it λf es q=>kA f λr m p=>m=="items" && noSup r && p.endLine==q.line && es.isEmpty && chkE T G c a r) && chkSs c b x
 |.while_ d b,s=>sW s λe x=>noIf e && chkE T G c d e && chkSs c b x
 |.pass,s=>sP s ||sE s λe=>kK e isStr
 |.never,_=>qK
 |.try0 b aS,s=>sT s λx y=>chkSs c b x && chkSs c aS y
def chkSs (c:Ck):List S->List jI->Bool
 |[],ss=>ss.isEmpty
 |a::as,ss=>sc ss λs ss=>chkS c a s && chkSs c as ss
end
end
section
variable {Z:Cx}{c:Ck}{k:Nat}{E:XK}{T:Ft}{G:Gi}{e o:i4}{es:List i4}{t:TE}{p pos apos:Pos}
def bmT (K:jl)(G:Gi)(E:XK)(b:Bm)(t:TE)(as:List A):TE:=match as with |[]=>tBM0 K b.ty b.r t |_=>tBM K b.ty b.r t (X.dens K G E (as.map A.t))
theorem bm_pe {b:Bm}{as:List A}(ho:PE Z o t)(ha:PA Z es (X.dens Z.K G E (as.map A.t)))(hs:es.all noStar=qK)(hb:noSup o=qK)(hl:(apos.endLine == pos.line)=qK)(hn:es.length<29)(h0:es=[]↔as=[]):PE Z (.Call (.Attribute o b.nm apos) es [] pos) (bmT Z.K G E b t as):=by
 have b0:=λn=>zcx_ (env:=Z.env) (m:=n) hb
 cases as with
 |nil=>
  rw[h0.mpr rfl];cases b with
  |append=>exact zfk_ za8_ zbj_ zbu_ zcB_ ho (b0 _) hl
  |extend=>exact zfk_ za8_ zbt_ zbe_ zem_ ho (b0 _) hl
  |popAt=>exact zfk_ za8_ zct_ zcu_ zeW_ ho (b0 _) hl
  |clear=>exact zfk_ za8_ zbI_ zbL_ ze5_ ho (b0 _) hl
  |insert=>exact zfk_ za8_ mm nr zei_ ho (b0 _) hl
 |cons a as=>
  cases es with
  |nil=>cases h0.mp rfl
  |cons e es=>
   have f:=zgw_ (env:=Z.env) (pos:=pos) hs hn;rw[jY,bR]at hs;have s1:=zP_ (env:=Z.env) (es:=es) hs.1;have s2:=za0_ (env:=Z.env) (pos:=pos) hs.2;cases b with
   |append=>exact zjW_ za8_ zbj_ zbu_ zcB_ ho ha (b0 _) f hl s1 s2
   |extend=>exact zjW_ za8_ zbt_ zbe_ zem_ ho ha (b0 _) f hl s1 s2
   |popAt=>exact zjW_ za8_ zct_ zcu_ zeW_ ho ha (b0 _) f hl s1 s2
   |clear=>exact zjW_ za8_ zbI_ zbL_ ze5_ ho ha (b0 _) f hl s1 s2
   |insert=>exact zjW_ za8_ mm nr zei_ ho ha (b0 _) f hl s1 s2
theorem z8_:∀(y:Y) {e:i4},T.Ok G Z.K Z.mg->Cg Z c k E->AllH Z k y.fcs->chkY T G c y e=qK->Rd Z e (y.den Z.K G E)
 |.pu x,e,fo,g,fs,h=>za_ x fo g fs h
 |.mp p,e,fo,g,fs,h=>za_ p.x fo g fs h
 |.mv i,e,fo,g,fs,h=>by
  exact za_ (.v i) fo g (λ_ z=>by cases z) h
 |.cls f C m as,e,fo,g,fs,h=>by
  apply kC_ h;intro r es q h;apply kA_ h;intro o n p h;apply kN_ h;intro x p2 h;simp only[bR]at h;cases eq_of_beq h.1.1.1.1.1.1;cases eq_of_beq h.1.1.1.1.1.2;obtain⟨g1,g2⟩:=zg5_ g h.1.1.1.1.2;obtain⟨ps,j,hj,F⟩:=fs _ (i5 ..);exact zj_ (zma_ F (g.room.mono hj) g.pass (z3_ _ fo g (λφ bG=>fs φ (i7 _ bG)) h.2) (zq_ h.2).1 g1 g2 h.1.1.1.2 (of_decide_eq_true h.1.1.2) (λz=>by have:=h.1.2;rw[z]at this;cases this)) rfl
 |.call f x as,e,fo,g,fs,h=>by
  exact za_ (.call f x (as.map A.t)) fo g fs h
 |.meth ms p m as,e,fo,g,fs,h=>by
  have:=za_ (.meth ms p.x m (as.map A.t)) fo g fs h;rw[X.den]at this;exact this
 |.bm b p as,e,fo,g,fs,h=>by
  apply kC_ h;intro r es q h;apply kA_ h;intro r m ap h;simp only[bR]at h;cases eq_of_beq h.1.1.1.1.1;exact zj_ (bm_pe (b:=b) (za_ p.x fo g fs.l h.1.2).pe (z3_ _ fo g fs.r h.2) (zq_ h.2).1 h.1.1.1.1.2 h.1.1.1.2 (of_decide_eq_true h.1.1.2) ((zq_ h.2).2.trans List.map_eq_nil_iff)) rfl
 |.bin o y z,e,fo,g,fs,h=>by
  rcases(lK _ _).mp h with h |h
  ·apply kB_ h;intro l op r p h
   simp only[bR]at h;exact zj_ (pe_op (bo_op (eq_of_beq h.1.1)) (z8_ y fo g fs.l h.1.2).pe (z8_ z fo g fs.r h.2).pe) rfl
  ·apply kM_ h;intro l os rs p h
   apply kc_ h;intro r t h;simp only[bR]at h;cases jT.mp h.1.1.1.2;obtain⟨op,ho,rfl⟩:=os1 (zj2_ h.1.1.1.1);exact zlj_ (zmy_ g.units ho) (z8_ y fo g fs.l h.1.2) (z8_ z fo g fs.r h.2) h.1.1.2
 |.not y,e,fo,g,fs,h=>by
  apply kU_ h;intro o x p h;simp only[bR]at h;cases eq_of_beq h.1.1;exact zlI_ (z8_ y fo g fs h.2) h.1.2
 |.or y z,e,fo,g,fs,h=>by
  apply kO_ h;intro a b l p h;simp only[bR]at h;cases l with
  |nil=>exact zkd_ (z8_ y fo g fs.l h.1.2) (z8_ z fo g fs.r h.2) h.1.1.1 h.1.1.2
  |cons q l=>exact rd_or (z8_ y fo g fs.l h.1.2) (z8_ z fo g fs.r h.2) h.1.1.1
 |.and y z,e,fo,g,fs,h=>by
  apply kO_ h;intro a b l p h;simp only[bR]at h;cases l with
  |nil=>exact zhq_ (z8_ y fo g fs.l h.1.2) (z8_ z fo g fs.r h.2) h.1.1.1 h.1.1.2
  |cons q l=>exact zj6_ (z8_ y fo g fs.l h.1.2) (z8_ z fo g fs.r h.2) h.1.1.1
theorem zfb_ {elt:i4}{gs:List Comprehension}{sc:Scope}{x:Str}{p:Pos}{env:PySem.Env}{n:Nat}:∃b,swapsWith (.ListComp elt gs sc pos) (qI (.Name x p)) n env=pure b:=⟨_,rfl⟩
theorem zc3_ {f:Str}{n:Nat}:swapsWith e (qI (.Attribute o f p)) n Z.env=pure qL:=by cases e<;>rfl
theorem zg9_ {i:i4}{n:Nat}:swapsWithSole [.Subscript o i p] e n Z.env=pure qL:=by cases e<;>rfl
theorem znP_ {i:i4}(h:noSl i=qK)(v:fv):assign (.Subscript o i p) Z.env v=(do
   let ov <- holding [v] (eval o Z.env)
   let iv <- holding [v,ov] (eval i Z.env)
   standAt p
   holding [v,ov,iv] (setItem ov iv v)
   release [v,ov,iv] []):=by
 cases i<;>first |rfl |cases h
theorem znk_ (fo:T.Ok G Z.K Z.mg)(g:Cq Z c k E){i:Nat}{y:Y}{q:Pos}(fs:AllH Z k y.fcs)(h1:tgB c i o=qK)(h2:(noCmp e ||y.isC)=qK)(h3:chkY T G c y e=qK):
  PS Z (.Assign [o] e q) (tAsg (y.den Z.K G E) (gName i)):=by
 have hv:=(z8_ y fo g.toCg fs h3).pe;obtain⟨gF,x,p,rfl⟩:=zil_ g.toCg g.nd (.inl g.fn) h1;unfold tgB at h1;rw[bR]at h1;have hi:Z.N[i]?=qI x:=by rw[g.N];exact eq_of_beq h1.1
 have hn:Z.N.Nodup:=by rw[g.N];exact g.nd
 have hl:=zj4_ g.toCg h1.2;by_cases hc:noCmp e=qK
 ·exact zlT_ hn hi hl hv (zfe_ hc _ _) (.inl (g.fn x))
 ·have hc:noCmp e=qL:=by simpa using hc
  rw[hc,pD]at h2;unfold Y.isC at h2;split at h2
  ·rename_i lv fr ik src tg d z
   obtain⟨t,it,ifs,elt,sc,pos,rfl,cl,S,q1,q2,q3,q4,q5⟩:=zhF_ lv fr ik src tg d z (zfv_ src) (z3_ src) (ze4_ d) (za_ z) fo g.toCg fs h3;obtain⟨b,hb⟩:=zfb_ (elt:=elt) (gs:=[⟨t,it,ifs,0⟩]) (sc:=sc) (pos:=pos) (x:=x) (p:=p) (env:=Z.env) (n:=q.line);cases b with
   |true=>
    exact zfX_ g.calm S q1 q2 q3 q4 gF hb (zbY_ q5)
   |false=>exact zlT_ hn hi hl hv hb (.inl (g.fn x))
  ·cases h2
theorem Cq.nox (g:Cq Z c k E):Cq Z.nox c k E0 where
 N:=g.N
 nm:=g.nm
 kind:=g.kind
 calm:=g.calm
 room:=g.room
 pass:=zic_
 cells:=g.cells
 fn:=g.fn
 nd:=g.nd
 own:=PassesOwn.never
 ex:=g.ex
 stack:=g.stack
theorem zjZ_ {body orelse:List jI}{h₀:ExceptHandler}{hs:List ExceptHandler}{tb te:TS}(hb:PSs Z.nox body tb)(hl:PSs Z orelse te):PS Z (.Try body (h₀::hs) orelse [] pos) (tSeq tb te):=by
 intro pins s σ H D I h;refine wpAny_Try_except (kr (hb pins s σ H _ (I.wish _) h) (λf s1 q=>?_) λe s1 q=>jL q)
 replace q:=q.unwish;cases f with
 |next=>obtain⟨ab,H',I',q⟩:=q;exact hl pins s1 ab H' D I' q
 |ret v=>exact q
 |brk=>exact q
 |cont=>exact q
mutual
theorem zhU_:∀{Z:Cx}{E:XK}(fo:T.Ok G Z.K Z.mg) (g:Cq Z c k E) (s:S) {st:jI},AllH Z k s.fcs->chkS T G c s st=qK->PS Z st (s.den Z.K G E)
 |Z,E,fo,g,.asg i y,st,fs,h=>by
  apply sA_ h;intro o e q h;simp only[bR]at h;exact znk_ fo g fs h.1.1 h.1.2 h.2
 |Z,E,fo,g,.setM p n qq,st,fs,h=>by
  apply sA_ h;intro o e q h;apply kA_ h;intro o f r h;simp only[bR]at h;cases eq_of_beq h.1.1.1;have ha:=(za_ p.x fo g.toCg fs.l h.1.2).pe;have hv:=(za_ qq.x fo g.toCg fs.r h.2).pe;intro pins s σ H D I q;obtain⟨d,hd,q⟩:=q;exact zia_ (fo.cls d hd) (fo.at_ d hd _ (by simpa using h.1.1.2)) ha hv zc3_ pins s σ H D I q
 |Z,E,fo,g,.setF p n x,st,fs,h=>by
  apply sA_ h;intro o e q h;apply kA_ h;intro o f r h;simp only[bR]at h;cases eq_of_beq h.1.1.1;have ha:=(za_ p.x fo g.toCg fs.l h.1.2).pe;have hv:=(za_ x fo g.toCg fs.r h.2).pe;intro pins s σ H D I q;obtain⟨d,hd,q⟩:=q;exact zia_ (fo.cls d hd) (fo.at_ d hd _ (by simpa using h.1.1.2)) ha hv zc3_ pins s σ H D I q
 |Z,E,fo,g,.setI p k x,st,fs,h=>by
  apply sA_ h;intro o e q h;apply kS_ h;intro o i r h;simp only[bR]at h;exact zoT_ (za_ x fo g.toCg fs.r.r h.2).pe (znE_ (za_ p.x fo g.toCg fs.l h.1.1.2).pe (za_ k fo g.toCg fs.r.l h.1.2).pe (set_A g.units) (znP_ h.1.1.1)) zg9_ zfJ_
 |Z,E,fo,g,.ex y,st,fs,h=>by
  apply sE_ h;intro e q h;simp only[bR]at h;exact zkT_ (z8_ y fo g.toCg fs h.2).pe (zfe_ h.1 _ _)
 |Z,E,fo,g,.ret y,st,fs,h=>by
  apply sR_ h;intro e q h;cases e with
  |none=>cases h
  |some e=>exact zpq_ (z8_ y fo g.toCg fs h).pe
 |Z,E,fo,g,.retN,st,fs,h=>by
  apply sR_ h;intro e q h;cases ky.mp h;exact zl0_
 |Z,E,fo,g,.if_ d a b,st,fs,h=>by
  apply sI_ h;intro e x y q h;simp only[bR]at h;exact ziE_ ((za_ d fo g.toCg fs.l h.1.1.2).pt h.1.1.1) (z1_ fo g a fs.r.l h.1.2) (z1_ fo g b fs.r.r h.2)
 |Z,E,fo,g,.view is d,st,fs,h=>zhU_ fo g d fs h
 |Z,E,fo,g,.ifL d a b,st,fs,h=>by
  apply sI_ h;intro e x y q h;simp only[bR]at h;exact ziE_ (zpG_ (za_ d fo g.toCg fs.l h.1.1.2).pe (zdl_ h.1.1.1)) (z1_ fo g a fs.r.l h.1.2) (z1_ fo g b fs.r.r h.2)
 |Z,E,fo,g,.ifY d a b,st,fs,h=>by
  apply sI_ h;intro e x y q h;simp only[bR]at h;exact ziE_ ((z8_ d fo g.toCg fs.l h.1.1.2).pt h.1.1.1) (z1_ fo g a fs.r.l h.1.2) (z1_ fo g b fs.r.r h.2)
 |Z,E,fo,g,.for_ ik src tg b,st,fs,h=>by
  apply sF_ h;intro t it x q h;simp only[bR]at h;exact zkb_ g.own g.calm (zk0_ fo g.toCg (ziv_ h.1.1.2) h.1.2 (zfv_ src fo g.toCg fs.l) λes z=>⟨z3_ src fo g.toCg fs.l z,(zq_ z).1⟩) (zny_ g.toCg g.nd (.inl g.fn) h.1.1.2) (z1_ fo g b fs.r h.2) (zbY_ h.1.1.1)
 |Z,E,fo,g,.forJ k a tg b,st,fs,h=>by
  apply sF_ h;intro t it x q h;simp only[bR]at h;have hg:=zny_ g.toCg g.nd (.inl g.fn) h.1.1.2;have hb:=z1_ fo g b fs.r h.2;have hs:=zbY_ (env:=Z.env) h.1.1.1;cases k with
  |keys=>exact zh6_ g.own g.calm (zpz_ (za_ a fo g.toCg fs.l h.1.2).pe) hg hb hs
  |items=>
   have h3:=h.1.2;simp only[bR]at h3;obtain⟨d5,kk,p',rfl⟩:=ziv_ h.1.1.2 h3.1;refine zh6_ g.own g.calm ?_ hg hb hs;clear hs hg hb h;have h4:=h3.2;clear h3;apply kC_ h4;intro f es q h;apply kA_ h;intro r m p h;simp only[bR]at h;cases eq_of_beq h.1.1.1.1;cases jT.mp h.1.2;exact zim_ (za_ a fo g.toCg fs.l h.2).pe ⟨zcx_ h.1.1.1.2,zgw_ rfl (by decide),h.1.1.2,rfl⟩
 |Z,E,fo,g,.while_ d b,st,fs,h=>by
  apply sW_ h;intro e x q h;simp only[bR]at h;exact zjm_ g.own ((za_ d fo g.toCg fs.l h.1.2).pt h.1.1) (z1_ fo g b fs.r h.2)
 |Z,E,fo,g,.pass,st,fs,h=>by
  rcases(lK _ _).mp h with h |h
  ·apply sP_ h;intro q;exact zl8_
  ·apply sE_ h;intro e q h
   apply kK_ h;intro d n p h;cases d<;>first |exact zoX_ |cases h
 |Z,E,fo,g,.never,st,fs,h=>ziK_
 |Z,E,fo,g,.try0 b aS,st,fs,h=>by
  apply sT_ h;intro x a r y q h;simp only[bR]at h;have hb:=z1_ (Z:=Z.nox) (E:=E0) fo g.nox b fs.l h.1;have hl:=z1_ fo g aS fs.r h.2;exact(show PS Z _ (tSeq (S.dens Z.K G E0 b) (S.dens Z.K G E aS))from zjZ_ hb hl)
theorem z1_:∀{Z:Cx}{E:XK}(fo:T.Ok G Z.K Z.mg) (g:Cq Z c k E) (ss:List S) {st:List jI},AllH Z k (S.fcss ss)->chkSs T G c ss st=qK->PSs Z st (S.dens Z.K G E ss)
 |Z,E,fo,g,[],st,fs,h=>by
  unfold chkSs at h;rw[S.dens,jT.mp h];exact zlZ_
 |Z,E,fo,g,s::ss,st,fs,h=>by
  apply sc_ h;intro a t h;simp only[bR]at h;exact ziS_ (zhU_ fo g s fs.l h.1) (z1_ fo g ss fs.r h.2)
end
end
theorem zcD_ {α:Type}{p:α->Prop}:∀x∈([]:List α),p x:=λ_ h=>by cases h
theorem zb_ {α:Type}{p:α->Prop}{a:α}{l:List α}(h:p a)(t:∀x∈l,p x):∀x∈a::l,p x:=λx hx=>by
 rcases ju.mp hx with rfl |hx
 ·exact h
 ·exact t x hx
noncomputable def AllF (Φ:Fc->Prop):List Fc->Prop
 |[]=>True
 |φ::l=>Φ φ/\AllF Φ l
theorem AllF.mem {Φ:Fc->Prop}:∀{l:List Fc},AllF Φ l->∀φ∈l,Φ φ
 |[],_,_,h=>by cases h
 |ψ::l,h,φ,hm=>by
  rcases ju.mp hm with rfl |hm
  ·exact h.1
  ·exact AllF.mem h.2 φ hm
section
variable {P:jr}{w:jH}{K:jF}{mg:Str->Option fv}{base:Heap}{x q:Str}{st:jI}{N ps:List Str}{k:Nat}{T:Ft}{G:Gi}{body:List S}
theorem cq_of (S:FnScope N ps (defScope st)){f:iQ}{ah:fv}{A:j3}{outer:List PySem.Env}{s:iM}{H:Hp}{E:XK}(hr:Room k (A.deeper (envOfC q (defScope st) s.heap.objs.size f ah))):
  Cq (cxOf CX0 P w K mg base N q (defScope st) f ah A outer s H E) ⟨N,(defScope st).names⟩ k E where
 N:=rfl
 nm:=rfl
 kind:=S.kind
 calm:=rfl
 room:=hr
 pass:=zic_
 cells:=λx hx=>by
  rcases hx with hx |hx
  ·exact zdU_ hx
  ·exact absurd rfl (S.nofree _ (ku hx))
 fn:=λ_=>rfl
 nd:=S.nd
 own:=PassesOwn.leaving
 ex:=rfl
 stack:=⟨rfl,rfl⟩
theorem zkB_ {n m:Nat}{vs:List V}{H:Hp}{Q:VK}{E:XK}(h:CtG K (fnOf G n m body) vs H Q E):vs.length=n:=by
 obtain⟨F,h,ds,hs,dj,sh,os,fin⟩:=h;unfold fnOf at fin;split at fin
 ·rename_i hd
  rw[<- ODs.len os,hd]
 ·exact fin.elim
theorem _root_.L2.Fun.ok0 {f:iQ}{fd:kf}{sp:Sp}(F:Fun K x q st f fd)(S:FnScope N ps (defScope st))(len:∀vs H Q E,sp vs H Q E->vs.length=ps.length)
  (hb:∀(ah:fv) (A:j3) (outer:List PySem.Env) (s:iM) (H:Hp) (vs:List V) (Q:VK) (E:XK),Room k (A.deeper (envOfC q (defScope st) s.heap.objs.size f ah))->sp vs H Q E ->
   ∃t,PSs (cxOf CX0 P w K mg base N q (defScope st) f ah A outer s H E) (defBody st) t/\t {nx:=λ_ H'=>Q .non H',rt:=Q} (start N vs) H):FnOk P w K mg base CX0 (k+1) f fd ps sp:=by
 obtain⟨oc,od,kV,doc,pm,an,ah,ct,az,rfl,lk,au⟩:=F.ex;exact fn_of lk au S len (hb ah)
theorem okV {n m:Nat}(g0:G.Ok K)(fo:T.Ok G K mg)(fs:AllF (Fc.H P w K mg base k) (S.fcss body))(hc:chkSs T G ⟨N,(defScope st).names⟩ body (defBody st)=qK)
  (S:FnScope N ps (defScope st)) (b:Bnd K x q st ps) (hp:ps.length=n) (hm:N.length=n+m):OkF P w K mg base CX0 (k+1) x q st ps (CtG K (fnOf G n m body)):=λf fd F=>
 ⟨F.ok0 S (λvs H Q E h=>(zkB_ h).trans hp.symm) λah A outer s H vs Q E hr h=>⟨VI.S.dens K G E body,z1_ fo (cq_of S hr) body fs.mem hc,znB_ g0 hm vs H Q E h⟩,b f fd F⟩
noncomputable abbrev X.n (i:Int):X:=.k (.int i)
abbrev X.i (a:X)(n:Int):X:=.bin .ix a (.k (.int n))
abbrev GG (P:jr)(w:jH)(K:jl)(mg:Str->Option fv)(base:Heap)(k:Nat)(x:Str)(ps:List Str)(f:Fn):Prop:=Gd P w K mg base CX0 k x ps (CtG K f)
theorem fkc {j:Nat}{f:Fn}(g:GG P w K mg base j x ps f)(h:j<=k:=by decide):Fc.H P w K mg base k (.call f x):=⟨ps,j,h,g⟩
theorem fkk {j:Nat}{f:Fn}(g:Gk P w K mg base CX0 j x (gA K x) ps (CtG K f))(h:j+1<=k:=by decide):Fc.H P w K mg base k (.make f x):=⟨ps,j,h,g⟩
theorem fks {j:Nat}{f:Fn}{c:Str}(g:Gs P w K mg base CX0 j c x ps (CtG K f))(h:j<=k:=by decide):Fc.H P w K mg base k (.cls f c x):=⟨ps,j,h,g⟩
theorem fkm {j:Nat}{f:Fn}{c:Str}(g:Gm P w K mg base CX0 j (gA K c) x ps (CtG K f))(h:j<=k:=by decide):Fc.H P w K mg base k (.meth x c f):=⟨ps,j,h,g⟩
theorem okW {n m:Nat}(g0:G.Ok K)(fo:T.Ok G K mg)(fs:AllF (Fc.H P w K mg base k) (S.fcss body))(hc:chkSs T G ⟨N,(defScope st).names⟩ body (defBody st)=qK:=by decide +kernel)
  (S:FnScope N ps (defScope st):=by exact⟨rfl,rfl,rfl,by decide +kernel,rfl,by decide +kernel,by decide +kernel⟩)
  (b:Bnd K x q st ps:=by first |exact λ_ _ F=>Fun.binds1 rfl F λ_ _ _ _ _ _ _=>rfl |exact λ_ _ F=>Fun.binds2 rfl F λ_ _ _ _ _ _ _ _=>rfl |exact λ_ _ F=>Fun.binds3 rfl F λ_ _ _ _ _ _ _ _ _=>rfl |exact λ_ _ F=>Fun.binds4 rfl F λ_ _ _ _ _ _ _ _ _ _=>rfl)
  (hp:ps.length=n:=by rfl) (hm:N.length=n+m:=by rfl):OkF P w K mg base CX0 (k+1) x q st ps (CtG K (fnOf G n m body)):=okV g0 fo fs hc S b hp hm
theorem FnOk.cx0 {f:iQ}{fd:kf}{sp fF:Sp}(F:FnOk P w K mg base CX0 k f fd ps sp)(h:∀vs H Q E,fF vs H Q E->sp vs H Q E0):FnOk P w K mg base CX0 k f fd ps fF:=by
 refine⟨λvs H Q E q=>F.len _ _ _ _ (h _ _ _ _ q),λA outer s H args us vs Q E hr e0 hb r q=>codeAny_mono (F.run A outer s H args us vs Q E0 hr e0 hb r (h _ _ _ _ q)) λr s' z=>?_⟩
 cases r with
 |ok fl=>cases fl<;>exact z
 |error e=>exact z.elim
theorem zfc_:∀(ns:List Int) {H:Hp},DRs K (ns.map D.int) (ns.map V.int) H
 |[],_=>by unfold DRs;rfl
 |n::ns,H=>by rw[iN,iN];unfold DRs;exact⟨_,_,rfl,by unfold DR;rfl,zfc_ ns⟩
noncomputable def scr (ns:List Int):D:=.fz (.nd .scr (ns.map .int))
theorem zlr_ {f:Fn}(hf:∀ns:List Int,ns.length<=63->BitsOk ns->f.val [scr ns]=.ok (.bl qK)):∀vs H Q E,spL K vs H Q E->CtG K f vs H Q E0:=by
 rintro vs H Q E ⟨a,ns,rfl,hS,hl,hb,q⟩;refine zdT_ (ds:=[.nd .scr (ns.map .int)]) (Same.refl H) ?_ ?_
 ·unfold DRs;exact⟨_,_,rfl,by unfold DR;exact⟨a,_,rfl,hS,zfc_ ns⟩,by unfold DRs;rfl⟩
 ·have:[D.nd .scr (ns.map .int)].map D.vw=[scr ns]:=by
   unfold D.vw scr D.imm;rfl
  rw[this,hf ns hl hb];rintro F' H' x v h fresh d s o;have o:(∀p,h p=qJ)/\DR K (.bl qK) v F':=by
   have o:OD K (.bl qK) v F' h:=o;unfold OD at o;exact o
  cases o.2.bl;exact q H'
theorem okLV {fa:iQ}{fd:kf}{f:Fn}(F:FnOk P w K mg base CX0 k fa fd ps (CtG K f))(hf:∀ns:List Int,ns.length<=63->BitsOk ns->f.val [scr ns]=.ok (.bl qK)):FnOk P w K mg base CX0 k fa fd ps (spL K):=FnOk.cx0 F (zlr_ hf)
end
section
variable {G:Gi}{pn:Nat->Bool}{env e:Env}{ss a b:List S}{y:Y}{d:D}{i:Nat}{ds:List D}
theorem rf_ {α:Type}{a:α}:a=a:=of_eq_true (eq_self a)
theorem znz_ (h:y.ev G env=.ok d e)(hp:pn i=qL)(hi:i<e.length):S.runs G pn (.asg i y::ss) env=S.runs G pn ss (e.set i (qI d)):=by
 rw[S.runs,S.run,h];show seqM (if pn i=qL/\i<e.length then .ok .nx (e.set i (qI d))else .no) _=_
 rw[if_pos ⟨hp,hi⟩];rfl
theorem zlE_ (h:y.ev G env=.ok d e):S.runs G pn (.ret y::ss) env=.ok (.rt d) e:=by
 rw[S.runs,S.run,h];rfl
theorem za5_ (h:D.colds ds=qK)(i:Nat):pins ds i=qL:=by
 unfold pins;induction ds generalizing i with
 |nil=>rfl
 |cons d ds ih=>
  unfold D.colds at h;rw[bR]at h;cases i with
  |zero=>show(!d.cold)=qL;rw[h.1];rfl
  |succ i=>exact ih h.2 i
theorem zbm_:∀{ds:List D}{env:Env},D.colds ds=qK->outs ds env=ds
 |[],_,_=>by unfold outs;rfl
 |d::ds,[],h=>by
  unfold D.colds at h;rw[bR]at h;unfold outs;rw[if_pos h.1,zbm_ h.2]
 |d::ds,o::env,h=>by
  unfold D.colds at h;rw[bR]at h;unfold outs;rw[if_pos h.1,zbm_ h.2]
theorem zen_ {f:Fn}{ds':List D}(h:f ds=.ok d ds'):f.val ds=.ok d:=by unfold Fn.val;rw[h]
theorem zdd_ (ns:List Int):(scr ns).vw=scr ns:=by unfold scr D.vw D.imm;rfl
theorem zpI_ (i:Int):(D.int i).vw=.int i:=rfl
theorem zpD_ (l:List Nat):(D.str l).vw=.str l:=rfl
theorem bl_vw (b:Bool):(D.bl b).vw=.bl b:=rfl
theorem zph_:D.non.vw=.non:=rfl
theorem zhQ_ (ns:List Int):lenA [scr ns]=.ok (.int ns.length):=by
 show Mo.ok (D.int ((ns.map D.int).length:Nat))=_
 rw[gf]
theorem atI_nn {α:Type}{l:List α}{i:Int}{a:α}(h0:0<=i)(h:l[i.toNat]?=qI a):atI l i=qI a:=by
 have hi:=(i6.mp h).1;unfold atI ixN;rw[if_pos h0,if_pos (by omega)]
 exact h
section
variable (i j:Int)
theorem vd_lt:ltD (.int i) (.int j)=.ok (.bl (decide (i<j))):=rfl
theorem vd_gt:gtD (.int i) (.int j)=.ok (.bl (decide (j<i))):=rfl
theorem znJ_:addA (.int i) (.int j)=.ok (.int (i+j)):=rfl
theorem zoj_:subD (.int i) (.int j)=.ok (.int (i-j)):=rfl
theorem vd_bl (b:Bool):blD (.bl b)=.ok b:=rfl
theorem vd_int:intD (.int i)=.ok i:=rfl
theorem zn9_ (l:List Nat):strOf (.str l)=.ok l:=rfl
end
theorem vd_mod {i j:Int}(h:0<j):modD (.int i) (.int j)=.ok (.int (i % j)):=by
 show Mo.grd _ _=_
 exact if_pos h
theorem zoW_ {i j:Int}(h:CDivG i j):divD (.int i) (.int j)=.ok (.int (i / j)):=by
 show Mo.grd _ _=_
 exact if_pos h
theorem zmj_ {i j:Int}(h:IntMulOk i j):mulD (.int i) (.int j)=.ok (.int (i*j)):=by
 show Mo.grd _ _=_
 exact if_pos h
theorem vd_ix {ns:List Int}{k:Int}(h0:0<=k)(h:k<ns.length):ixA (scr ns) (.int k)=.ok (.int (ns.getD k.toNat 0)):=by
 show Mo.opt ((atI (ns.map D.int) k).map D.vw)=_
 have hk:k.toNat<ns.length:=by lia
 rw[atI_nn h0 (a:=.int (ns.getD k.toNat 0)) (by rw[iS,iL hk];simp[jP,hk])]
 rfl
end
section
variable {α β s:Type}{G:Gi}{pn:Nat->Bool}{env e:Env}{d x y:D}
theorem zge_ (g:Env->Mr Env Fl):seqM (.ok .nx e) g=g e:=of_eq_true (eq_self _)
theorem zpk_ (g:Env->Mr Env Fl):seqM (.ok (.rt d) e) g=.ok (.rt d) e:=of_eq_true (eq_self _)
theorem zbW_ (a:α)(t:s)(k:α->s->Mr s β):(Mr.ok a t).bind k=k a t:=of_eq_true (eq_self _)
theorem zb5_ (a:α)(k:α->Mo β):(Mo.ok a).bind k=k a:=of_eq_true (eq_self _)
theorem zkn_ (a:α):Mo.opt (qI a)=.ok a:=of_eq_true (eq_self _)
theorem ziI_ (r1 r2:Mr Env Fl):ifM env (.ok qK) r1 r2=r1:=of_eq_true (eq_self _)
theorem zjc_ (r1 r2:Mr Env Fl):ifM env (.ok qL) r1 r2=r2:=of_eq_true (eq_self _)
theorem and_t (r:Mo D):andD (.bl qK) r=r:=of_eq_true (eq_self _)
theorem and_f (r:Mo D):andD (.bl qL) r=.ok (.bl qL):=of_eq_true (eq_self _)
theorem zhE_ (i:Nat)(hp:pn i=qL)(hi:i<e.length):asgM pn i (.ok d e)=.ok .nx (e.set i (qI d)):=by
 unfold asgM;rw[zbW_,if_pos ⟨hp,hi⟩]
theorem zkO_:dropM (.ok d e)=.ok .nx e:=of_eq_true (eq_self _)
theorem zoJ_:retM (.ok d e)=.ok (.rt d) e:=of_eq_true (eq_self _)
theorem get_0 (l:Env):getE (qI d::l) 0=.ok d.vw:=of_eq_true (eq_self _)
theorem get_s (o:Option D)(l:Env)(n:Nat):getE (o::l) (n+1)=getE l n:=of_eq_true (eq_self _)
theorem mv_0 (l:Env):mvM (qI d::l) 0=.ok d (qJ::l):=of_eq_true (eq_self _)
theorem mv_s (o:Option D)(l:Env)(n:Nat):mvM (o::l) (n+1)=match mvM l n with |.ok d e=>.ok d (o::e)|.ex c e=>.ex c (o::e)|.no=>.no:=by
 unfold mvM;rw[kX]
 match l[n]? with
 |some (qI d)=>rfl
 |some qJ=>rfl
 |none=>rfl
def keep (m:Mo D)(env:Env)(u:List Nat):Mr Env D:=match m with
 |.ok d=>if d.new then .ok d env else .ok d (frzE env u)
 |.ex c=>.ex c env
 |.no=>.no
theorem zga_ (x:X):stX G env x=keep (x.ev G env) env x.uses:=rfl
theorem zs_ (u:List Nat)(hn:d.new=qK):keep (.ok d) env u=.ok d env:=if_pos hn
theorem zcs_ (u:List Nat)(hn:d.new=qL):keep (.ok d) env u=.ok d (frzE env u):=if_neg (by rw[hn];decide)
section
variable (neg:Bool)(lo hi:Option Int)
theorem fz_un:(D.fz d).un=d.un:=of_eq_true (eq_self _)
theorem fz_ix:ixA (.fz d) x=ixA d x:=of_eq_true (eq_self _)
theorem fz_in:inA neg x (.fz d)=inA neg x d:=of_eq_true (eq_self _)
theorem zoO_:lenA [.fz d]=lenA [d]:=of_eq_true (eq_self _)
theorem zlF_:addA (.fz d) x=addA d x:=of_eq_true (eq_self _)
theorem zkw_:addA x (.fz d)=addA x d:=of_eq_true (eq_self _)
theorem fz_sl:slA (.fz d) lo hi=slA d lo hi:=of_eq_true (eq_self _)
theorem zps_ (cs:List Str)(f:Str):fldD cs f (.fz d)=fldD cs f d:=of_eq_true (eq_self _)
theorem zml_:listA [.fz d]=listA [d]:=of_eq_true (eq_self _)
theorem zmO_:walkA [.fz d]=walkA [d]:=of_eq_true (eq_self _)
theorem fz_is:isD neg (.fz d) x=isD neg d x:=of_eq_true (eq_self _)
theorem znZ_ (n:String):isaD n (.fz d)=isaD n d:=of_eq_true (eq_self _)
theorem znx_ (n:Nat):eqT n (.fz d) x=eqT n d x:=by cases n<;>rfl
theorem zlk_ (n:Nat):eqT n x (.fz d)=eqT n x d:=by cases n<;>rfl
theorem fz_eq:eqD neg (.fz d) x=eqD neg d x:=by unfold eqD;rw[znx_]
theorem znS_:eqD neg x (.fz d)=eqD neg x d:=by unfold eqD;rw[zlk_]
theorem fz_vw (h:d.imm=qL):(D.fz d).vw=.fz d:=by unfold D.vw;rw[if_neg];rw[show(D.fz d).imm=d.imm from by rw[D.imm]];rw[h];decide
end
theorem zmQ_ (i:Int):X.ev G env (.k (.int i))=.ok (.int i):=rf_
theorem zot_ (l:List Nat):X.ev G env (.k (.str l))=.ok (.str l):=rf_
theorem xk_bl (b:Bool):X.ev G env (.k (.bl b))=.ok (.bl b):=rf_
theorem zo5_:X.ev G env (.k .non)=.ok .non:=rf_
theorem zoC_ (n:Str)(i:Int):X.ev G env (.g n (.int i))=.ok (.int i):=rf_
theorem znR_ (n:Str)(l:List Nat):X.ev G env (.g n (.str l))=.ok (.str l):=rf_
theorem or_b (a b:Bool):orD (.bl a) (.ok (.bl b))=.ok (.bl (a ||b)):=by cases a<;>rfl
theorem and_b (a b:Bool):andD (.bl a) (.ok (.bl b))=.ok (.bl (a && b)):=by cases a<;>rfl
theorem zkX_ {i j:Int}(h0:0<j)(h1:j<1073741824):divD (.int i) (.int j)=.ok (.int (i / j)):=zoW_ (zkh_ h0 (by lia))
theorem zcr_ {i j:Int}(h0 : -18446744073709551616<i)(h1:i<18446744073709551616):mulD (.int i) (.int j)=.ok (.int (i*j)):=zmj_ (zcZ_ (.inl ⟨by lia,by lia⟩))
theorem zeZ_ {i j:Int}(h0 : -18446744073709551616<j)(h1:j<18446744073709551616):mulD (.int i) (.int j)=.ok (.int (i*j)):=zmj_ (zcZ_ (.inr ⟨by lia,by lia⟩))
theorem nw_bl (b:Bool):(D.bl b).new=qK:=by rw[D.new]<;>simp
theorem zeI_ (i:Int):(D.int i).new=qK:=by rw[D.new]<;>simp
theorem zdL_ (l:List Nat):(D.str l).new=qK:=by rw[D.new]<;>simp
theorem zha_:D.non.new=qK:=by rw[D.new]<;>simp
theorem nw_nd (k:Nd)(ds:List D):(D.nd k ds).new=D.news ds:=by rw[D.new]
theorem nw_c (d:D)(ds:List D):D.news (d::ds)=(d.new && D.news ds):=by rw[D.news]
theorem nw_0:D.news []=qK:=by rw[D.news]
section
variable (a b c x:X)(as:List X)
theorem xv_v (i:Nat):X.ev G env (.v i)=getE env i:=rf_
theorem zmf_ (o:Bo):X.ev G env (.bin o a b)=(a.ev G env).bind λx=>(b.ev G env).bind λy=>o.f x y:=rf_
theorem zn1_:X.ev G env (.and a b)=(a.ev G env).bind λx=>andD x (b.ev G env):=rf_
theorem xv_or:X.ev G env (.or a b)=(a.ev G env).bind λx=>orD x (b.ev G env):=rf_
theorem zoR_:X.ev G env (.not a)=(a.ev G env).bind λx=>(blD x).bind λb=>.ok (.bl (!b)):=rf_
theorem zkp_:X.ev G env (.ifx c a b)=((c.ev G env).bind blD).bind λt=>if t=qK then a.ev G env else b.ev G env:=rf_
theorem xv_sl (lo hi:Option X):X.ev G env (.sl a lo hi)=(a.ev G env).bind λx=>(X.evO G env lo).bind λl=>(X.evO G env hi).bind λh=>slA x l h:=rf_
theorem zo8_:X.ev G env (.tup as)=(X.evs G env as).bind λds=>.lim ds.length (.ok (.nd .tup ds)):=rf_
theorem znh_:X.ev G env (.lst as)=(X.evs G env as).bind λds=>.lim ds.length (.ok (.nd .lst ds)):=rf_
theorem znt_ (f:Str):X.ev G env (.fld a f)=(a.ev G env).bind (fldD G.cs f):=rf_
theorem zhd_ (f:Fn)(n:Str):X.ev G env (.call f n as)=(X.evs G env as).bind λds=>f.val (ds.map .vw):=rf_
theorem xv_bf (o:Bf):X.ev G env (.bf o as)=(X.evs G env as).bind o.f:=rf_
theorem zht_ (f:Fn)(n:Str):X.ev G env (.make f n as)=(X.evs G env as).bind (makeD f n):=rf_
theorem xv_sm (o:Sm):X.ev G env (.sm o a as)=(a.ev G env).bind λd=>(strOf d).bind λl=>(X.evs G env as).bind λc=>o.f l c:=rf_
theorem zld_ (n:String):X.ev G env (.isa a n)=(a.ev G env).bind (isaD n):=rf_
theorem zoM_:X.ev G env .dct0=.ok (.nd (.dct []) []):=rf_
theorem xs_0:X.evs G env []=.ok []:=rf_
theorem xs_c:X.evs G env (a::as)=(a.ev G env).bind λd=>(X.evs G env as).bind λds=>.ok (d::ds):=rf_
theorem xo_0:X.evO G env qJ=.ok qJ:=rf_
theorem xo_s:X.evO G env (qI a)=(a.ev G env).bind λd=>(intD d).bind λi=>.ok (qI i):=rf_
theorem xt_0:X.evT G env qJ=.ok qK:=rf_
theorem xt_s:X.evT G env (qI a)=(a.ev G env).bind blD:=rf_
end
def En (r:Mr Env Fl)(Q:Fl->Env->Prop):Prop:=∃o e,r=.ok o e/\Q o e
theorem zkL_ {l:List β}{enc:β->List D}{is:List Nat}{body k:Env->Mr Env Fl}{Q:Fl->Env->Prop}(P:List β->Env->Prop)(h0:P [] env)
  (hs:∀d x r e,l=d++x::r->P d e->∃e',setG pn e is (enc x)=qI e'/\En (body e') λo aL=>((o=.nx\/o=.ct)/\P (d++[x]) aL)\/((∃v,o=.rt v)/\Q o aL))
  (hk:∀e,P l e->En (k e) Q):En (seqM (forM (λe x=>match setG pn e is x with |some e'=>body e' |none=>.no) (l.map enc) env) k) Q:=by
 suffices main:∀(r d:List β) (e:Env),l=d++r->P d e->En (forM (λe x=>match setG pn e is x with |some e'=>body e' |none=>.no) (r.map enc) e) (λo e=>(o=.nx/\P l e)\/((∃v,o=.rt v)/\Q o e)) by
  obtain⟨o,e,h,q⟩:=main l [] env rfl h0;rw[h];rcases q with⟨rfl,q⟩|⟨⟨v,rfl⟩,q⟩
  ·rw[zge_];exact hk e q
  ·rw[zpk_];exact⟨_,_,rfl,q⟩
 intro r;induction r with
 |nil=>intro d e hl hp;rw[jz]at hl;subst hl;exact⟨.nx,e,rfl,.inl ⟨rfl,hp⟩⟩
 |cons x r ih=>
  intro d e hl hp;obtain⟨e',h1,o,aL,h2,q⟩:=hs d x r e hl hp;rw[iN];unfold forM;simp only[h1,h2];rcases q with⟨h |h,q⟩|⟨⟨v,h⟩,q⟩
  ·subst h;exact ih (d++[x]) aL (by rw[hl,lL];rfl) q
  ·subst h;exact ih (d++[x]) aL (by rw[hl,lL];rfl) q
  ·subst h;exact⟨_,_,rfl,.inr ⟨⟨v,rfl⟩,q⟩⟩
theorem zhz_ {l:List β}{enc:β->List D}{ik:Ik}{x:X}{tg:Tg}{b ss:List S}{Q:Fl->Env->Prop}{e1:Env}{items:List D}(P:List β->Env->Prop)(hg:keep (x.ev G env) env x.uses=.ok d e1)(hi:ik.f [d]=.ok items)(ht:tgsD tg items=qI (l.map enc))(h0:P [] e1)
  (hs:∀d x r e,l=d++x::r->P d e->∃e',setG pn e tg.is (enc x)=qI e'/\En (S.runs G pn b e') λo aL=>((o=.nx\/o=.ct)/\P (d++[x]) aL)\/((∃v,o=.rt v)/\Q o aL))
  (hk:∀e,P l e->En (S.runs G pn ss e) Q):En (S.runs G pn (.for_ ik [x] tg b::ss) env) Q:=by
 have e0:evG G env ([x].map .x)=.ok [.d d] e1:=by
  show((stX G env x).bind λd e=>(evG G e []).bind λgs e'=>.ok (.d d::gs) e')=_
  rw[zga_,hg];rfl
 rw[S.runs,S.run,e0];have e1:forS pn ik tg (.ok [.d d] e1) (λe=>S.runs G pn b e)=forM (λe x=>match setG pn e tg.is x with |some e'=>S.runs G pn b e' |none=>.no) (l.map enc) e1:=by
  unfold forS;show(match ik.f [d]with |.ok items=>_ |_=>_)=_
  rw[hi];show(match tgsD tg items with |some xs=>_ |none=>_)=_
  rw[ht]<;>rfl
 rw[e1];exact zkL_ P h0 hs hk
theorem zaw_ {y:Y}{i:Nat}{ss:List S}(h:y.ev G env=.ok d env)(hp:pn i=qL)(hi:Nat.ble (i+1) env.length=qK:=by rfl):S.runs G pn (.asg i y::ss) env=S.runs G pn ss (env.set i (qI d)):=znz_ h hp (mG hi)
theorem za2_ {l:List β}{enc:β->List D}{ik:Ik}{x:X}{tg:Tg}{b ss:List S}{Q:Fl->Env->Prop}{items:List D}(P:List β->Env->Prop)(hg:keep (x.ev G env) env x.uses=.ok d env)(hi:ik.f [d]=.ok items)(ht:tgsD tg items=qI (l.map enc))(h0:P [] env)
  (hs:∀d x r e,l=d++x::r->P d e->∃e',setG pn e tg.is (enc x)=qI e'/\En (S.runs G pn b e') λo aL=>((o=.nx\/o=.ct)/\P (d++[x]) aL)\/((∃v,o=.rt v)/\Q o aL))
  (hk:∀e,P l e->En (S.runs G pn ss e) Q):En (S.runs G pn (.for_ ik [x] tg b::ss) env) Q:=zhz_ P hg hi ht h0 hs hk
theorem frz_0 (l:Env):frz1 (qI d::l) 0=qI d.vw::l:=of_eq_true (eq_self _)
theorem frz_s (o:Option D)(l:Env)(n:Nat):frz1 (o::l) (n+1)=o::frz1 l n:=by
 unfold frz1;rw[kX]
 match l[n]? with
 |some (qI d)=>rfl
 |some qJ=>rfl
 |none=>rfl
theorem ziP_ {c:Env->Mo Bool}{body k:Env->Mr Env Fl}{Q:Fl->Env->Prop}(P:Nat->Env->Prop)(m:Nat)(hm:m<100000)(h0:P 0 env)
  (hs:∀i e,i<=m->P i e->(c e=.ok qL/\En (k e) Q)\/(i<m/\c e=.ok qK/\En (body e) λo e'=>o=.nx/\P (i+1) e')):En (seqM (whileM c body fuelW env) k) Q:=by
 have fl:m<fuelW:=by unfold fuelW;lia
 suffices main:∀(n i:Nat) (e:Env),m<n+i->i<=m->P i e->En (whileM c body n e) (λo e=>o=.nx/\En (k e) Q) by
  obtain⟨o,e,h,rfl,q⟩:=main fuelW 0 env (by lia) (by lia) h0
  rw[h,zge_];exact q
 intro n;induction n with
 |zero=>intro i e h1 h2;lia
 |succ n ih=>
  intro i e h1 h2 hp;unfold whileM;rcases hs i e h2 hp with⟨h,q⟩|⟨hi,h,o,e',hb,rfl,q⟩
  ·rw[h,zjc_];exact⟨_,_,rfl,rfl,q⟩
  ·rw[h,ziI_,hb];exact ih (i+1) e' (by lia) (by lia) q
def agD (ds:List D):List Ag:=ds.map .d
theorem zkS_:∀(ds:List D),resolve e (agD ds)=qI ds
 |[]=>rfl
 |d::ds=>by show(resolve e (agD ds)).map _=_;rw[zkS_ ds];rfl
theorem zmV_ (q:Pl):∀(ds:List D),apartOf q (agD ds)=qK
 |[]=>rfl
 |d::ds=>zmV_ q ds
theorem zkH_:∀(ds:List D),apartAll (agD ds)=qK
 |[]=>rfl
 |d::ds=>zkH_ ds
theorem zk8_:∀(ds ds':List D),restE e (agD ds) ds'=e
 |[],ds'=>by cases ds'<;>rfl
 |d::ds,[]=>rfl
 |d::ds,_::ds'=>zk8_ ds ds'
theorem zeu_ (x:X):Y.ev G (.pu x) env=keep (x.ev G env) env x.uses:=by rw[Y.ev,zga_]
theorem ye_mv (i:Nat):Y.ev G (.mv i) env=mvM env i:=by rw[Y.ev]
theorem zkq_ (y:Y):Y.ev G (.not y) env=(y.ev G env).bind λd e=>moTo ((blD d).bind λb=>.ok (.bl (!b))) e:=by rw[Y.ev]
theorem zij_ (o:Bo)(y z:Y):Y.ev G (.bin o y z) env=(y.ev G env).bind λd e=>(z.ev G e).bind λd2 e2=>moTo (o.f d d2) e2:=by rw[Y.ev]
theorem fn_en {ds:List D}{n m:Nat}{body:List S}(hl:ds.length=n)(hc:D.colds ds=qK)(h:∀pn,(∀i,pn i=qL)->En (S.runs G pn body (ds.map qI++iT m qJ)) λo _=>o=.rt d\/(o=.nx/\d=.non)):fnOf G n m body ds=.ok d ds:=by
 obtain⟨o,e,h,q⟩:=h _ (za5_ hc);unfold fnOf;rw[if_pos hl,h];rcases q with rfl |⟨rfl,rfl⟩
 ·show Mr.ok d (outs ds e)=_;rw[zbm_ hc]
 ·show Mr.ok D.non (outs ds e)=_;rw[zbm_ hc]
theorem zbw_ {ds:List D}{n m:Nat}{body:List S}(hl:ds.length=n)(hc:D.colds ds=qK)(h:∀pn,(∀i,pn i=qL)->En (S.runs G pn body (ds.map qI++iT m qJ)) λo _=>o=.rt d\/(o=.nx/\d=.non)):(fnOf G n m body).val ds=.ok d:=zen_ (fn_en hl hc h)
theorem zc4_ {ds:List D}{n m:Nat}{body:List S}(hl:ds.length=n)(h:S.runs G (pins ds) body (ds.map qI++iT m qJ)=.ok .nx e):fnOf G n m body ds=.ok .non (outs ds e):=by
 unfold fnOf;rw[if_pos hl,h]
end
class Im {α:Type}(g:α->D):Prop where
 im:∀x,(g x).imm=qK
section
variable {α:Type}{g:α->D}[Im g]{l:List α}{x:α}
theorem zcY_ (x:α):(g x).vw=g x:=by unfold D.vw;rw[if_pos (Im.im x)]
theorem ziW_ (l:List α):D.imms (l.map g)=qK:=by
 induction l with
 |nil=>rw[jM,D.imms]
 |cons x l ih=>rw[iN,D.imms,Im.im x,ih];rfl
theorem zeP_ (l:List α):(l.map g).map D.vw=l.map g:=by
 rw[j5];exact ka λx _=>zcY_ x
mutual
theorem zhg_:∀(d:D),d.imm=qK->d.new=qK
 |.non,_=>by rw[D.new]<;>simp
 |.bl _,_=>by rw[D.new]<;>simp
 |.int _,_=>by rw[D.new]<;>simp
 |.str _,_=>by rw[D.new]<;>simp
 |.nd .tup ds,h=>by rw[D.imm]at h;rw[D.new];exact zcM_ ds h
 |.nd .ktup ds,h=>by rw[D.imm]at h;rw[D.new];exact zcM_ ds h
 |.nd .lst _,h=>by simp[D.imm]at h
 |.nd .scr _,h=>by simp[D.imm]at h
 |.nd (.dct _) _,h=>by simp[D.imm]at h
 |.nd (.obj _ _) _,h=>by simp[D.imm]at h
 |.fz d,h=>by rw[D.imm]at h;rw[D.new];exact h
 |.pin _,h=>by simp[D.imm]at h
 |.gone,h=>by simp[D.imm]at h
theorem zcM_:∀(ds:List D),D.imms ds=qK->D.news ds=qK
 |[],_=>by rw[D.news]
 |d::ds,h=>by rw[D.imms,bR]at h;rw[D.news,zhg_ d h.1,zcM_ ds h.2];rfl
end
theorem zhb_ (x:α):(g x).new=qK:=zhg_ _ (Im.im x)
theorem zfN_ (x:α):(g x).cold=qK:=zdK_ (Im.im x)
instance:Im D.int:=⟨λ_=>rfl⟩
instance:Im D.str:=⟨λ_=>rfl⟩
instance:Im D.bl:=⟨λ_=>rfl⟩
noncomputable def LS (g:α->D)(l:List α):D:=.nd .lst (l.map g)
theorem ls_vw:(LS g l).vw=.fz (LS g l):=rfl
theorem zag_:(D.fz (LS g l)).vw=.fz (LS g l):=fz_vw rfl
theorem zaT_:(LS g l).new=qK:=by unfold LS;rw[D.new];exact zcM_ _ (ziW_ l)
theorem zbC_:(D.fz (LS g l)).new=qL:=by rw[D.new];rfl
theorem zgi_:lenA [LS g l]=.ok (.int l.length):=by
 show Mo.ok (D.int ((l.map g).length:Nat))=_;rw[gf]
theorem zeM_:ixA (LS g l) (.int i)=.opt ((atI l i).map g):=by
 show Mo.opt ((atI (l.map g) i).map D.vw)=_
 unfold atI;rw[gf];cases ixN l.length i with
 |none=>rfl
 |some k=>
  show Mo.opt (((l.map g)[k]?).map D.vw)=_
  rw[iS,Option.map_map];show _=Mo.opt ((l[k]?).map g)
  congr 2;funext x;exact zcY_ x
theorem zhW_ (lo hi:Option Int)(l:List α)(g:α->β):cutG (l.map g) lo hi=(cutG l lo hi).map g:=by
 unfold cutG;rw[gf,<- List.map_drop,<- List.map_take]
theorem ls_sl (lo hi:Option Int):slA (LS g l) lo hi=.ok (LS g (cutG l lo hi)):=by
 show Mo.ok (D.nd .lst ((cutG (l.map g) lo hi).map .vw))=_
 rw[zhW_,zeP_];rfl
theorem zg0_ (h:a.length+b.length<=100000):addA (LS g a) (LS g b)=.ok (LS g (a++b)):=by
 show Mo.lim ((a.map g).length+(b.map g).length) (Mo.ok (D.nd .lst ((a.map g++b.map g).map .vw)))=_
 rw[Mo.lim_ok (by rw[gf,gf];exact h),<- jD,zeP_,LS]
theorem zmt_:listA [LS g l]=.ok (LS g l):=by
 show Mo.ok (D.nd .lst ((l.map g).map .vw))=_;rw[zeP_];rfl
theorem zmS_:walkA [LS g l]=.ok (l.map g):=of_eq_true (eq_self _)
theorem zom_:isK "list" (LS g l)=qK:=rfl
theorem zdP_ (h:l.length<100000):appendF [LS g l,g x]=.ok .non [LS g (l++[x]),.gone]:=by
 have h2:l.length<iZ:=by have:=zaB_ (n:=l.length+1) (by lia);lia
 show(if(l.map g).length<iZ then _ else _)=_
 rw[gf,if_pos h2];unfold LS;rw[jD];rfl
theorem zj0_ (h:a.length+b.length<=100000):extendF [LS g a,LS g b]=.ok .non [LS g (a++b),.nd .lst (b.map λ_=>.gone)]:=by
 show(if(a.map g).length+(b.map g).length<=iZ then Mr.ok D.non [D.nd .lst (a.map g++b.map g),D.nd .lst ((b.map g).map λ_=>D.gone)]else _)=_
 rw[gf,gf,if_pos (zaB_ h),j5];unfold LS;rw[jD];rfl
theorem zmE_ (h:a.length+b.length<=100000):extendF [LS g a,.fz (LS g b)]=.ok .non [LS g (a++b),.gone]:=by
 show(if(a.map g).length+(b.map g).length<=iZ then Mr.ok D.non [D.nd .lst (a.map g++(b.map g).map D.vw),D.gone]else _)=_
 rw[gf,gf,if_pos (zaB_ h),zeP_];unfold LS;rw[jD]
theorem zgE_:∀(l:List Int),flats (l.map .int)=qI (l.map .int)
 |[]=>rfl
 |i::l=>by rw[iN,flats,zgE_ l];rfl
theorem zln_ (i:Int):∀(l:List Int),inV (.int i) (l.map .int)=decide (i∈l)
 |[]=>rfl
 |j::l=>by
  have:=zln_ i l;unfold inV at this ⊢;rw[iN,ml,this];by_cases h:i=j
  ·subst h;simp[eqV]
  ·simp[eqV,h,m7 h]
end
section
variable {β γ:Type}{G:Gi}{env:Env}{lv:List Str}{fr:List (Str×Nat)}{ik:Ik}{src:List X}{tg:Tg}{p:β->Bool}{f:β->γ}{o:γ->D}
theorem zfd_ {F:List D->Mo (Option D)}{T:β->List D}:∀{l:List β}{acc:List D},(∀b∈l,F (T b)=.ok (if p b=qK then qI (o (f b))else qJ))->acc.length+l.length<=100000->compM F (l.map T) acc=.ok (acc++((l.filter p).map f).map o)
 |[],acc,_,_=>by rw[jM];unfold compM;simp
 |b::l,acc,h,hl=>by
  rw[iR]at hl;rw[iN];unfold compM;rw[h b i5,zb5_,j9];cases e:p b with
  |false=>
   rw[if_neg (by decide),if_neg (by decide)]
   exact zfd_ (λy hy=>h y (i7 _ hy)) (by lia)
  |true=>
   rw[if_pos rfl,if_pos rfl];show Mo.lim _ _=_
   rw[Mo.lim_ok (by lia),zfd_ (λy hy=>h y (i7 _ hy)) (by rw[iP,lC];lia)]
   simp
theorem xcomp {c:Option X}{e:X}{items:List D}{T:β->List D}(l:List β)(hi:tg.is.all (·<lv.length)=qK)(hs:(X.evs G env src).bind ik.f=.ok items)(ht:tgsD tg items=qI (l.map T))(hc:∀b∈l,X.evT G (setE (cE lv fr env) tg.is (T b)) c=.ok (p b))(he:∀b∈l,p b=qK->X.ev G (setE (cE lv fr env) tg.is (T b)) e=.ok (o (f b)))(hl:l.length<=100000):X.ev G env (.comp lv fr ik src tg c e)=.ok (LS o ((l.filter p).map f)):=by
 show(if tg.is.all (·<lv.length)then(((X.evs G env src).bind ik.f).bind λl=>.opt (tgsD tg l)).bind λxs=>(compM (λx=>cond1 (X.evT G (setE (cE lv fr env) tg.is x) c) (e.ev G (setE (cE lv fr env) tg.is x))) xs []).bind λys=>Mo.ok (D.nd .lst ys)else .no)=_
 rw[if_pos hi,hs,zb5_,ht,zkn_,zb5_,zfd_ (p:=p) (f:=f) (o:=o) (λb hb=>?_) (by rw[nZ,qa];exact hl),zb5_]
 ·rfl
 ·unfold cond1
  rw[hc b hb,zb5_];cases hb':p b with
  |false=>rfl
  |true=>rw[if_pos rfl,if_pos rfl,he b hb hb'];rfl
theorem xcompN {e:X}{items:List D}{T:β->List D}(l:List β)(hi:tg.is.all (·<lv.length)=qK)(hs:(X.evs G env src).bind ik.f=.ok items)(ht:tgsD tg items=qI (l.map T))(he:∀b∈l,X.ev G (setE (cE lv fr env) tg.is (T b)) e=.ok (o (f b)))(hl:l.length<=100000):X.ev G env (.comp lv fr ik src tg qJ e)=.ok (LS o (l.map f)):=by
 rw[xcomp (p:=λ_=>qK) l hi hs ht (λ_ _=>xt_0) (λb hb _=>he b hb) hl]
 rw[List.filter_eq_self.mpr λ_ _=>rfl]
theorem tgs_1 (ds:List D)(i:Nat):tgsD ⟨qL,[i]⟩ ds=qI (ds.map λd=>[d]):=by
 induction ds with
 |nil=>rw[tgsD];rfl
 |cons d ds ih=>rw[tgsD,ih];rfl
theorem zaK_ {g:β->D}(l:List β)(i:Nat):tgsD ⟨qL,[i]⟩ (l.map g)=qI (l.map λd=>[g d]):=by rw[tgs_1,j5];rfl
theorem zjO_ {g h:β->D}(l:List β)(i j:Nat):tgsD ⟨qK,[i,j]⟩ (l.map λb=>.nd .tup [g b,h b])=qI (l.map λb=>[g b,h b]):=by
 induction l with
 |nil=>rw[jM,tgsD];rfl
 |cons d ds ih=>rw[iN,tgsD,ih];rfl
end
section
variable {α:Type}{g:α->D}[Im g]{i:Int}{neg:Bool}
theorem key_i (i:Int):keyD (.int i)=qI (.inl i):=rfl
theorem ziL_ (n:Nat)(i j:Int):eqT n (.int i) (.int j)=qI (decide (i=j)):=by
 cases n with
 |zero=>show qI (eqV (.int i) (.int j))=_;rfl
 |succ n=>show qI (eqV (.int i) (.int j))=_;rfl
theorem zdB_ (n:Nat)(a b:List Nat):eqT n (.str a) (.str b)=qI (decide (a=b)):=by
 have:eqV (tx a) (tx b)=decide (a=b):=by
  by_cases h:a=b
  ·subst h;simp[tx,eqV]
  ·rw[decide_eq_false h]
   show(_ == _)=qL
   refine beq_eq_false_iff_ne.mpr λz=>h ?_
   injection z with z;exact List.toArray_inj z
 cases n with
 |zero=>show qI (eqV (tx a) (tx b))=_;rw[this]
 |succ n=>show qI (eqV (tx a) (tx b))=_;rw[this]
theorem zks_ {a b:D}{c:Bool}(h:eqT 12 a b=qI c):eqD neg a b=.ok (.bl (if neg=qK then !c else c)):=by
 unfold eqD;rw[h];rfl
theorem zhN_ (a b:Int):eqD neg (.int a) (.int b)=.ok (.bl (if neg=qK then !decide (a=b)else decide (a=b))):=zks_ (ziL_ 12 a b)
theorem zfi_ (a b:List Nat):eqD neg (.str a) (.str b)=.ok (.bl (if neg=qK then !decide (a=b)else decide (a=b))):=zks_ (zdB_ 12 a b)
end
end VI
namespace K60
open PySem PySem.Spec PyProof.Rows L2 VI
open Mo renaming bind→Mb,ok→Mq
open Sl renaming fz→Zf,dead→Zd,ow→Zo
noncomputable abbrev Jx:=List Nat
abbrev Jy:=List Jx
noncomputable abbrev Qm0:List Nat:=[32,48,49,50,51,52,53,54,55,56,57,65,66,67,68,69,70,71,72,73,74,75,76,77,78,79,80,81,82,83,84,85,86,87,88,89,90]
noncomputable abbrev Qm1:List Nat:=[97,98,99,100,101,102,103,104,105,106,107,108,109,110,111,112,113,114,115,116,117,118,119,120,121,122]
noncomputable abbrev Qn0:List Str:=["trays", "plan", "done", "machine", "hopper", "lines"]
abbrev Qn1:List Str:=["self"]
noncomputable def gi:Gi:={cs:=["Clerk", "Dealer", "Picker"],kt:=[]}
def zam_:List S:=[.asg 1 (.pu (.k (.str Qm1))),.asg 2 (.pu (.bin .add (.n 1) (.bin .mod (.v 0) (.n 8)))),.asg 3 (.pu (.bin .mod (.bin .div (.v 0) (.n 8)) (.v 2))),.asg 4 (.pu (.lst [])),.for_ .r1 [(.n 3)] ⟨qL,[5]⟩ [.asg 6 (.pu (.k (.str []))),.for_ .r1 [(.v 2)] ⟨qL,[7]⟩ [.asg 8 (.pu (.bin .mul (.v 5) (.bf .int [(.bin .eq (.v 7) (.v 3))]))),.asg 6 (.pu (.bin .add (.v 6) (.bin .ix (.v 1) (.bin .mod (.bin .add (.bin .add (.bin .div (.v 0) (.n 64)) (.bin .mul (.v 7) (.v 7))) (.v 8)) (.n 26)))))],.ex (.bm .append (.v 4) [(.x (.v 6))])],.ret (.mv 4)]
def zaJ_:Fn:=fnOf gi 1 8 zam_
def zaj_:List S:=[.if_ (.bin .lt (.v 1) (.bf .len [(.v 0)])) [.ret (.pu (.bin .ix (.v 0) (.v 1)))] [],.ret (.pu (.n 0))]
def zaM_:Fn:=fnOf gi 2 0 zaj_
noncomputable abbrev zu_:=X.call zaM_ "_law_cell_at"
def z9_:List S:=[.asg 2 (.pu (.lst [])),.asg 3 (.pu (.bin .add (.bin .mod (.v 0) (.n 2147483647)) (.n 48271))),.for_ .r1 [(.v 1)] ⟨qL,[4]⟩ [.asg 3 (.pu (.bin .mod (.bin .add (.bin .add (.bin .mul (.v 3) (.v 3)) (.bin .mul (.n 48271) (.v 3))) (.v 4)) (.n 2147483647))),.ex (.bm .append (.v 2) [(.x (.v 3))])],.ret (.mv 2)]
def zar_:Fn:=fnOf gi 2 3 z9_
def zaA_:List S:=[.asg 3 (.pu (.k (.str Qm0))),.asg 4 (.pu (.call zar_ "_law_stream" [(.v 0),(.bin .mul (.n 36) (.v 1))])),.asg 5 (.pu (.lst [])),.for_ .r1 [(.v 1)] ⟨qL,[6]⟩ [.asg 7 (.pu (.k (.str []))),.for_ .r1 [(.n 36)] ⟨qL,[8]⟩ [.asg 9 (.pu (.bin .mod (.bin .div (.bin .ix (.v 4) (.bin .add (.bin .mul (.n 36) (.v 6)) (.v 8))) (.n 7)) (.v 2))),.asg 7 (.pu (.bin .add (.v 7) (.bin .ix (.v 3) (.bin .mod (.bin .add (.v 0) (.v 9)) (.n 37)))))],.asg 10 (.pu (.bin .mul (.lst [(.bin .ix (.v 3) (.bin .mod (.bin .div (.v 0) (.n 37)) (.n 37)))]) (.n 4))),.setI (.v 10) (.bin .mod (.v 0) (.n 4)) (.bin .ix (.v 3) (.bin .mod (.bin .add (.v 0) (.v 6)) (.n 37))),.ex (.bm .append (.v 5) [(.x (.bin .add (.v 7) (.sm .join (.k (.str [])) [(.v 10)])))])],.if_ (.and (.bin .gt (.v 1) (.n 2)) (.bin .eq (.bin .mod (.v 0) (.n 5)) (.n 1))) [.setI (.v 5) (.n 1) (.i (.v 5) 0)] [],.ret (.mv 5)]
def zak_:Fn:=fnOf gi 3 8 zaA_
def zap_:List S:=[.asg 2 (.pu .dct0),.for_ .r1 [(.bf .len [(.v 1)])] ⟨qL,[3]⟩ [.asg 4 (.pu (zu_ [(.v 0),(.bin .add (.n 1) (.v 3))])),.setI (.v 2) (.bin .ix (.v 1) (.v 3)) (.call zak_ "_law_deck" [(.v 4),(.bin .mod (.bin .div (.v 4) (.n 4)) (.n 7)),(.bin .ix (.lst [(.n 2),(.n 3),(.n 37),(.n 1)]) (.bin .mod (.v 4) (.n 4)))])],.if_ (.bin .eq (.bin .mod (zu_ [(.v 0),(.n 0)]) (.n 3)) (.n 1)) [.setI (.v 2) (.k (.str [45])) (.call zak_ "_law_deck" [(zu_ [(.v 0),(.n 0)]),(.n 2),(.n 37)])] [],.ret (.mv 2)]
def zaH_:Fn:=fnOf gi 2 3 zap_
def zbd_:List S:=[.asg 2 (.pu (.bin .add (.bin .add (.bin .mod (.v 0) (.n 2147483647)) (.n 69621)) (.bin .mul (.n 7) (.v 1)))),.ret (.pu (.bin .mod (.bin .mul (.v 2) (.v 2)) (.n 2147483629)))]
def zba_:Fn:=fnOf gi 2 1 zbd_
def zao_:List S:=[.asg 3 (.pu (.k (.str Qm0))),.asg 4 (.pu (.call zba_ "_law_mixed" [(.v 0),(.n 0)])),.asg 5 (.pu (.bin .ix (.bin .add (.bin .add (.v 1) (.v 1)) (.lst [(.k (.str [45]))])) (.bin .mod (.v 4) (.n 5)))),.asg 6 (.pu (.bin .add (.n 1) (.bin .mod (.bin .div (.v 4) (.n 5)) (.n 36)))),.if_ (.bin .gt (.bin .mod (.bin .div (.v 4) (.n 180)) (.n 3)) (.n 0)) [.ret (.pu (.tup [(.k (.str [100,101,97,108])),(.v 5),(.v 6)]))] [],.asg 7 (.pu (.bin .ix (.v 3) (.bin .mod (.bin .div (.v 4) (.n 540)) (.n 37)))),.if_ (.and (.bin .gt (.bin .mod (.bin .div (.v 4) (.n 540)) (.n 4)) (.n 0)) (.bin .ne (.get (.v 2) (.v 5) (.lst [])) (.lst []))) [.asg 7 (.pu (.bin .ix (.i (.bin .ix (.v 2) (.v 5)) 0) (.bin .sub (.v 6) (.n 1))))] [],.ret (.pu (.tup [(.k (.str [112,105,99,107])),(.v 5),(.v 6),(.v 7)]))]
def zR_:Fn:=fnOf gi 3 5 zao_
noncomputable def zaQ_:List S:=[.ret (.pu (.bf .tupl [(.comp ["part"] [] .any [(.v 0)] ⟨qL,[0]⟩ qJ (.ifx (.isa (.v 0) "list") (.bf .list [(.v 0)]) (.v 0)))]))]
def zv_:Fn:=fnOf gi 1 0 zaQ_
def zJ_:List S:=[.setF (.v 0) "trays" (.ds1 (.g "ASIDE" (.str [45])) (.lst [])),.forJ .keys (.v 1) ⟨qL,[3]⟩ [.setI (.f (.v 0) "trays") (.v 3) (.bf .list [(.bin .ix (.v 1) (.v 3))])],.setF (.v 0) "plan" (.comp ["going"] [] .any [(.v 2)] ⟨qL,[0]⟩ qJ (.call zv_ "copied_going" [(.v 0)])),.setF (.v 0) "done" (.n 0),.setF (.v 0) "machine" (.k .non),.setF (.v 0) "hopper" (.lst []),.setF (.v 0) "lines" (.lst [])]
def zi_:Fn:=fnOf gi 3 1 zJ_
noncomputable def zad_:List S:=[.ret (.pu (.bf .sortU [(.fld (.v 0) "trays")]))]
def zac_:Fn:=fnOf gi 1 0 zad_
noncomputable def zaf_:List S:=[.ret (.pu (.bf .list [(.fld (.v 0) "lines")]))]
def zae_:Fn:=fnOf gi 1 0 zaf_
noncomputable def zY_:List S:=[.if_ (.bin .nin (.v 1) (.fld (.v 0) "trays")) [.never] []]
def zM_:Fn:=fnOf gi 2 0 zY_
def z2_:List S:=[.ret (.pu (.i (.bin .ix (.fld (.v 0) "plan") (.fld (.v 0) "done")) 1))]
def zt_:Fn:=fnOf gi 1 0 z2_
def zb0_:List S:=[.asg 2 (.pu (.comp ["pocket"] [] .any [(.v 0)] ⟨qL,[0]⟩ qJ (.n 0))),.asg 3 (.pu (.lst [])),.for_ .any [(.v 1)] ⟨qL,[4]⟩ [.ex (.bm .append (.v 3) [(.x (.bin .ix (.bin .ix (.v 0) (.v 4)) (.bin .ix (.v 2) (.v 4))))]),.setI (.v 2) (.v 4) (.bin .add (.bin .ix (.v 2) (.v 4)) (.n 1))],.ret (.mv 3)]
def zb2_:Fn:=fnOf gi 2 3 zb0_
def zai_:List S:=[.ret (.pu (.call zb2_ "put_back" [(.fld (.v 0) "pockets"),(.fld (.v 0) "log")]))]
def zx_:Fn:=fnOf gi 1 0 zai_
def z4_:List S:=[.ex (.pu (.meth [("Clerk",zM_)] (.v 0) "check_name" [(.v 1)])),.if_ (.and (.bin .isn (.fld (.v 0) "machine") (.k .non)) (.bin .eq (.v 1) (.meth [("Clerk",zt_)] (.v 0) "going_name" []))) [.ret (.pu (.bin .add (.meth [("Dealer",zx_),("Picker",zx_)] (.fld (.v 0) "machine") "back" []) (.fld (.v 0) "hopper")))] [],.ret (.pu (.bf .list [(.bin .ix (.fld (.v 0) "trays") (.v 1))]))]
def zO_:Fn:=fnOf gi 2 0 z4_
def zbB_:List S:=[.asg 3 (.pu (.meth [("Clerk",zO_)] (.v 0) "deck_of" [(.v 1)])),.if_ (.or (.not (.isa (.v 3) "list")) (.bin .ne (.v 3) (.v 2))) [.ret (.pu (.k (.bl qL)))] [],.view [4] (.for_ .any [(.v 3)] ⟨qL,[4]⟩ [.if_ (.not (.isa (.v 4) "str")) [.ret (.pu (.k (.bl qL)))] []]),.ex (.bm .append (.v 3) [(.x (.k (.str [])))]),.ret (.pu (.k (.bl qK)))]
def zL_:Fn:=fnOf gi 3 2 zbB_
def zaz_:List S:=[.asg 2 (.pu (.meth [("Clerk",zac_)] (.v 0) "names_now" [])),.if_ (.or (.not (.isa (.v 2) "list")) (.or (.bin .ne (.v 2) (.bf .sortU [(.v 1)])) (.bin .ne (.meth [("Clerk",zae_)] (.v 0) "lines_out" []) (.lst [])))) [.ret (.pu (.k (.bl qL)))] [],.ex (.bm .clear (.v 2) []),.forJ .items (.v 1) ⟨qK,[3,4]⟩ [.if_ (.not (.call zL_ "_law_told" [(.v 0),(.v 3),(.v 4)])) [.ret (.pu (.k (.bl qL)))] []],.ret (.pu (.k (.bl qK)))]
def zat_:Fn:=fnOf gi 2 3 zaz_
noncomputable abbrev zG_:=X.call zat_ "_law_all_told"
def zr_:List S:=[.ex (.bm .append (.s (.f (.v 0) "pockets") (.v 2)) [(.x (.v 1))]),.ex (.bm .append (.f (.v 0) "log") [(.x (.v 2))])]
def zc_:Fn:=fnOf gi 3 0 zr_
def zcH_:List S:=[.ret (.pu (.and (.bin .eq (.bf .len [(.v 0)]) (.n 1)) (.bin .inn (.v 0) (.g "SIGNS" (.str Qm0)))))]
def zcI_:Fn:=fnOf gi 1 0 zcH_
def zcN_:List S:=[.if_ (.not (.call zcI_ "is_sign" [(.v 0)])) [.never] [],.ret (.pu (.sm .index (.g "SIGNS" (.str Qm0)) [(.v 0)]))]
def zbh_:Fn:=fnOf gi 1 0 zcN_
def zcA_:List S:=[.ret (.pu (.bin .ix (.v 0) (.bin .sub (.v 1) (.n 1))))]
def zah_:Fn:=fnOf gi 2 0 zcA_
def zaa_:List S:=[.ex (.meth [("Dealer",zc_)] (.v 0) "lay_in" [(.x (.v 1)),(.x (.call zbh_ "rank_of" [(.call zah_ "sign_at" [(.v 1),(.fld (.v 0) "column")])]))])]
def zS_:Fn:=fnOf gi 2 0 zaa_
def z7_:List S:=[.ex (.meth [("Picker",zc_)] (.v 0) "lay_in" [(.x (.v 1)),(.x (.ifx (.bin .eq (.call zah_ "sign_at" [(.v 1),(.fld (.v 0) "column")]) (.fld (.v 0) "sign")) (.n 0) (.n 1)))])]
def zT_:Fn:=fnOf gi 2 0 z7_
def zz_:List S:=[.try0 [.ex (.meth [("Dealer",zS_),("Picker",zT_)] (.f (.v 0) "machine") "feed" [(.x (.i (.fld (.v 0) "hopper") 0))])] [],.ex (.bm .popAt (.f (.v 0) "hopper") [(.x (.n 0))])]
def zC_:Fn:=fnOf gi 1 1 zz_
noncomputable def zW_:List S:=[.retN]
def zk_:Fn:=fnOf gi 1 0 zW_
def zdH_:List S:=[.asg 1 (.pu (.lst [])),.for_ .any [(.v 0)] ⟨qL,[2]⟩ [.ex (.bm .extend (.v 1) [(.x (.v 2))])],.ret (.mv 1)]
def zbz_:Fn:=fnOf gi 1 2 zdH_
def zav_:List S:=[.ret (.pu (.call zbz_ "gather" [(.fld (.v 0) "pockets")]))]
def z5_:Fn:=fnOf gi 1 0 zav_
def zal_:List S:=[.ret (.pu (.bf .list [(.i (.fld (.v 0) "pockets") 0)]))]
def zV_:Fn:=fnOf gi 1 0 zal_
noncomputable def zX_:List S:=[.ret (.pu (.lst []))]
def zH_:Fn:=fnOf gi 1 0 zX_
def zQ_:List S:=[.ret (.pu (.call zbz_ "gather" [(.sl (.fld (.v 0) "pockets") (qI (.n 1)) qJ)]))]
def zw_:Fn:=fnOf gi 1 0 zQ_
noncomputable def zI_:List S:=[.ret (.pu (.lst []))]
def ze_:Fn:=fnOf gi 1 0 zI_
def zD_:List S:=[.ex (.pu (.meth [("Dealer",zk_),("Picker",zk_)] (.fld (.v 0) "machine") "finish" [])),.setI (.f (.v 0) "trays") (.meth [("Clerk",zt_)] (.v 0) "going_name" []) (.meth [("Dealer",z5_),("Picker",zV_)] (.fld (.v 0) "machine") "stayed" []),.ex (.bm .extend (.s (.f (.v 0) "trays") (.g "ASIDE" (.str [45]))) [(.x (.meth [("Dealer",zH_),("Picker",zw_)] (.fld (.v 0) "machine") "laid_aside" []))]),.ex (.bm .extend (.f (.v 0) "lines") [(.x (.meth [("Dealer",ze_),("Picker",ze_)] (.fld (.v 0) "machine") "lines_out" []))]),.setF (.v 0) "machine" (.k .non),.setF (.v 0) "done" (.bin .add (.fld (.v 0) "done") (.n 1))]
def zE_:Fn:=fnOf gi 1 0 zD_
noncomputable def zaG_:List S:=[.setF (.v 0) "pockets" (.lst []),.setF (.v 0) "log" (.lst [])]
def zZ_:Fn:=fnOf gi 1 0 zaG_
noncomputable def zK_:List S:=[.setF (.v 0) "pockets" (.comp ["number"] [] .r1 [(.v 1)] ⟨qL,[0]⟩ qJ (.lst []))]
def zp_:Fn:=fnOf gi 2 0 zK_
def zaR_:List S:=[.ex (.cls zZ_ "Machine" "__init__" [(.l (.v 0))]),.ex (.meth [("Dealer",zp_)] (.v 0) "make_pockets" [(.x (.bf .len [(.g "SIGNS" (.str Qm0))]))]),.setF (.v 0) "column" (.v 1)]
def zB_:Fn:=fnOf gi 2 0 zaR_
def zaS_:List S:=[.ex (.cls zZ_ "Machine" "__init__" [(.l (.v 0))]),.ex (.meth [("Picker",zp_)] (.v 0) "make_pockets" [(.x (.n 2))]),.setF (.v 0) "column" (.v 1),.setF (.v 0) "sign" (.v 2)]
def zA_:Fn:=fnOf gi 3 0 zaS_
def zaP_:List S:=[.asg 2 (.pu (.i (.v 0) 0)),.if_ (.bin .eq (.v 2) (.k (.str [100,101,97,108]))) [.ret (.pu (.make zB_ "Dealer" [(.i (.v 0) 2)]))] [],.if_ (.bin .eq (.v 2) (.k (.str [112,105,99,107]))) [.ret (.pu (.make zA_ "Picker" [(.i (.v 0) 2),(.i (.v 0) 3)]))] [],.if_ (.bin .eq (.v 2) (.k (.str [109,97,116,101]))) [.never] [],.if_ (.bin .eq (.v 2) (.k (.str [102,105,114,115,116]))) [.never] [],.if_ (.bin .eq (.v 2) (.k (.str [112,117,110,99,104]))) [.never] [],.never]
def zaI_:Fn:=fnOf gi 2 1 zaP_
def zo_:List S:=[.asg 1 (.pu (.meth [("Clerk",zt_)] (.v 0) "going_name" [])),.ex (.pu (.meth [("Clerk",zM_)] (.v 0) "check_name" [(.v 1)])),.setF (.v 0) "machine" (.call zaI_ "machine_of" [(.bin .ix (.fld (.v 0) "plan") (.fld (.v 0) "done")),(.fld (.v 0) "trays")]),.setM (.v 0) "hopper" (.s (.f (.v 0) "trays") (.v 1)),.setI (.f (.v 0) "trays") (.v 1) (.lst [])]
def zU_:Fn:=fnOf gi 1 1 zo_
def zf_:List S:=[.if_ (.bin .isn (.fld (.v 0) "machine") (.k .non)) [.ifL (.fld (.v 0) "hopper") [.ex (.meth [("Clerk",zC_)] (.v 0) "feed_next" [])] [.ex (.meth [("Clerk",zE_)] (.v 0) "end_going" [])],.ret (.pu (.k (.bl qK)))] [],.if_ (.bin .eq (.fld (.v 0) "done") (.bf .len [(.fld (.v 0) "plan")])) [.ret (.pu (.k (.bl qL)))] [],.ex (.meth [("Clerk",zU_)] (.v 0) "begin_going" []),.ret (.pu (.k (.bl qK)))]
def zg_:Fn:=fnOf gi 1 0 zf_
def zbb_:List S:=[.asg 2 (.pu (.lst [])),.for_ .any [(.v 0)] ⟨qL,[3]⟩ [.asg 4 (.pu (.bf .len [(.v 2)])),.while_ (.and (.bin .gt (.v 4) (.n 0)) (.bin .ltT (.bin .ix (.v 3) (.bin .sub (.v 1) (.n 1))) (.bin .ix (.bin .ix (.v 2) (.bin .sub (.v 4) (.n 1))) (.bin .sub (.v 1) (.n 1))))) [.asg 4 (.pu (.bin .sub (.v 4) (.n 1)))],.ex (.bm .insert (.v 2) [(.x (.v 4)),(.x (.v 3))])],.ret (.mv 2)]
def zaq_:Fn:=fnOf gi 2 3 zbb_
def zaW_:List S:=[.asg 2 (.mp (.s (.v 1) (.i (.v 0) 1))),.if_ (.bin .eq (.i (.v 0) 0) (.k (.str [100,101,97,108]))) [.setI (.v 1) (.i (.v 0) 1) (.call zaq_ "_law_dealt" [(.v 2),(.i (.v 0) 2)])] [.setI (.v 1) (.i (.v 0) 1) (.comp ["_law_card"] [("_law_going_here",0)] .any [(.v 2)] ⟨qL,[0]⟩ (qI (.bin .eq (.bin .ix (.v 0) (.bin .sub (.i (.v 1) 2) (.n 1))) (.i (.v 1) 3))) (.v 0)),.setI (.v 1) (.k (.str [45])) (.bin .add (.bin .ix (.v 1) (.k (.str [45]))) (.comp ["_law_card"] [("_law_going_here",0)] .any [(.v 2)] ⟨qL,[0]⟩ (qI (.bin .ne (.bin .ix (.v 0) (.bin .sub (.i (.v 1) 2) (.n 1))) (.i (.v 1) 3))) (.v 0)))]]
def zbn_:Fn:=fnOf gi 2 1 zaW_
def zaD_:List S:=[.asg 3 (.pu (.i (.v 1) 1)),.asg 4 (.pu (.bf .len [(.bin .ix (.v 2) (.v 3))])),.for_ .r1 [(.bin .add (.v 4) (.n 2))] ⟨qL,[5]⟩ [.ifY (.or (.pu (.not (.call zL_ "_law_told" [(.v 0),(.v 3),(.bin .ix (.v 2) (.v 3))]))) (.bin .isn (.meth [("Clerk",zg_)] (.v 0) "step" []) (.pu (.k (.bl qK))))) [.ret (.pu (.k (.bl qL)))] []],.ex (.call zbn_ "_law_end" [(.x (.v 1)),(.l (.v 2))]),.ret (.pu (.k (.bl qK)))]
def zaF_:Fn:=fnOf gi 3 3 zaD_
def zo6_:List S:=[.asg 1 (.pu (.sl (.call zaJ_ "_law_names" [(zu_ [(.v 0),(.n 0)])]) qJ (qI (.n 2)))),.asg 2 (.pu (.call zaH_ "_law_trays" [(.v 0),(.v 1)])),.asg 3 (.pu (.comp ["_law_cell"] [("_law_names_here",1),("_law_trays_here",2)] .any [(.sl (.v 0) (qI (.n 3)) (qI (.n 43)))] ⟨qL,[0]⟩ qJ (.call zR_ "_law_going" [(.v 0),(.v 1),(.v 2)]))),.asg 4 (.pu .dct0),.asg 5 (.pu (.ds1 (.k (.str [45])) (.lst []))),.forJ .items (.v 2) ⟨qK,[6,7]⟩ [.setI (.v 4) (.v 6) (.bf .list [(.v 7)]),.setI (.v 5) (.v 6) (.bf .list [(.v 7)])],.asg 8 (.pu (.bf .list [(.v 3)])),.asg 9 (.pu (.make zi_ "Clerk" [(.v 4),(.v 8)])),.if_ (.or (.bin .ned (.v 4) (.v 2)) (.or (.bin .ne (.v 8) (.v 3)) (.not (zG_ [(.v 9),(.v 5)])))) [.ret (.pu (.k (.bl qL)))] [],.ex (.bm .clear (.s (.v 4) (.i (.v 1) 0)) []),.ex (.bm .clear (.v 8) []),.for_ .any [(.v 3)] ⟨qL,[10]⟩ [.ifY (.or (.not (.call zaF_ "_law_gone" [(.l (.v 9)),(.x (.v 10)),(.l (.v 5))])) (.pu (.not (zG_ [(.v 9),(.v 5)])))) [.ret (.pu (.k (.bl qL)))] []],.ret (.and (.bin .is (.meth [("Clerk",zg_)] (.v 9) "step" []) (.pu (.k (.bl qL)))) (.and (.bin .is (.meth [("Clerk",zg_)] (.v 9) "step" []) (.pu (.k (.bl qL)))) (.pu (zG_ [(.v 9),(.v 5)]))))]
def f_law:Fn:=fnOf gi 1 10 zo6_
set_option hygiene false in
local macro_rules | `(tactic|exists $ts,*) => `(tactic|first |simp only[S.runs, S.run, trD, zeu_, ye_mv, zkq_, zij_, Bm.ty, Bm.f, zom_, ↓zge_, ↓zpk_, ↓zbW_, ↓zb5_, zge_, zpk_, zbW_, zb5_, zkn_, ziI_, zjc_, and_t, and_f, or_b, and_b, vd_mod, zkX_, zeZ_, nw_bl, zeI_, zdL_, zha_, nw_nd, nw_c, nw_0, Bool.and_true, Mo.lim_ok, zhE_, zkO_, zoJ_, get_0, get_s, mv_0, mv_s, zga_, zs_, zcs_, zbC_, frzE, List.foldl_cons, List.foldl_nil, frz_0, frz_s, X.uses, X.usesL, X.usesO, zaK_, zjO_, xv_v, zmf_, zn1_, xv_or, zoR_, zkp_, xv_sl, zo8_, znh_, znt_, zhd_, xv_bf, zht_, zld_, zoM_, xs_0, xs_c, xo_0, xo_s, xt_0, xt_s, zmQ_, zot_, xk_bl, zo5_, zoC_, znR_, fz_ix, fz_in, zoO_, zlF_, zkw_, fz_sl, zps_, zml_, zmO_, fz_is, znZ_, fz_eq, znS_, Bo.f, Bf.f, Ik.f, forS, evG, List.map_cons, List.map_nil, List.length_cons, List.length_nil, List.set_cons_zero, List.set_cons_succ, List.replicate_succ, List.replicate_zero, List.cons_append, List.nil_append, zpI_, zpD_, bl_vw, zph_, zcY_, zhb_, ls_vw, zag_, zaT_, zgi_, zeM_, ls_sl, zmt_, zmS_, zhN_, zfi_, vd_lt, vd_gt, znJ_, zoj_, vd_bl, vd_int, zn9_, Bool.not_true, Bool.not_false, if_true, if_false, Bool.false_eq_true, Bool.true_eq_false, Option.map_some, Option.map_none, Nat.reduceAdd, Nat.reduceLT, Nat.reduceLeDiff, Int.reduceLT, Int.reduceLE, Int.reduceNeg, Int.reduceAdd, Int.reduceSub, Nat.lt_add_one, Nat.zero_lt_succ, Nat.zero_add, setE, cE, List.getElem?_cons_succ, List.getElem?_cons_zero, Option.join_some, setG, true_and, Int.toNat_natCast, zdd_, $[$ts:term],*]|skip)
set_option hygiene false in
local macro_rules | `(tactic|fail "q") => `(tactic|first |exact⟨_, _, rfl, .inl rfl⟩|exact⟨_, _, rfl, .inr ⟨rfl, rfl⟩⟩|exact⟨_, _, rfl, .inr ⟨rfl, trivial⟩⟩)
def SG:List Nat:=Qm0
theorem lnS_ {l:List Nat}(h:l.length<=100000):lenA [.str l]=.ok (.int l.length):=by
 show Mo.lim _ _=_
 rw[Mo.lim_ok h]
abbrev Cds:=Jy
def kN_t (n:Jx):Key:=.inr ⟨n.toArray⟩
theorem zgI_ {a b:List Nat}:kN_t a=kN_t b↔a=b:=by
 constructor
 ·intro h;injection h with h;injection h with h;simpa using congrArg nL h
 ·rintro rfl;rfl
def TG {α:Type}(g:α->D)(m:List (List Nat×α)):D:=.nd (.dct (m.map λq=>kN_t q.1)) (m.map λq=>g q.2)
abbrev TD (m:List (List Nat×Cds)):D:=TG (LS .str) m
section
variable {α:Type}{g:α->D}
theorem zc5_ (m:List (List Nat×α)):(D.fz (TG g m)).vw=.fz (TG g m):=rfl
theorem zjU_ (m:List (List Nat×α)):(TG g m).vw=.fz (TG g m):=rfl
theorem zjS_:∀(m:List (List Nat×α)) (n:Jx),valD (m.map λq=>kN_t q.1) (m.map λq=>g q.2) (kN_t n)=((m.find? λq=>decide (q.1=n)).map λq=>g q.2)
 |[],n=>rfl
 |q::m,n=>by
  have ih:=zjS_ m n;unfold valD at ih ⊢;rw[iN,iN,jt,kx,kx];by_cases e:q.1=n
  ·rw[decide_eq_true (zgI_.mpr e),decide_eq_true e];rfl
  ·rw[decide_eq_false (λz=>e (zgI_.mp z)),decide_eq_false e];exact ih
theorem td_ix {m:List (List Nat×Cds)}{n:List Nat}{cs:Cds}(h:(m.find? λq=>decide (q.1=n))=qI (n,cs)):ixA (TD m) (.str n)=.ok (.fz (LS .str cs)):=by
 show Mo.opt ((valD _ _ (kN_t n)).map D.vw)=_
 rw[zjS_,h];rfl
theorem td_in (neg:Bool)(m:List (List Nat×α))(n:Jx):inA neg (.str n) (TG g m)=.ok (.bl (if neg then !decide (n∈m.map (·.1))else decide (n∈m.map (·.1)))):=by
 have e:(valD (m.map λq=>kN_t q.1) (m.map λq=>g q.2) (kN_t n)).isSome=decide (n∈m.map (·.1)):=by
  rw[zjS_,mB,pb,List.find?_isSome,decide_eq_true_eq,jV];exact⟨λ⟨q,h,e⟩=>⟨q,h,by simpa using e⟩,λ⟨q,h,e⟩=>⟨q,h,by simpa using e⟩⟩
 show Mq (D.bl (if neg=qK then !(valD _ _ (kN_t n)).isSome else(valD _ _ (kN_t n)).isSome))=_
 rw[e]
end
def rk (c:Nat):Int:=(SG.idxOf c:Nat)
def CD (c:Jx):Prop:=c.length=40/\∀i,i<36->c.getD i 0∈SG
theorem sg_in {c:Nat}(h:c∈SG):inA qL (.str [c]) (.str SG)=.ok (.bl qK):=by
 show Mq (D.bl (decide (c∈SG)))=_
 rw[decide_eq_true h]
theorem sgf (c:Nat):c∈SG->findS SG [c]=rk c/\rk c ≠ -1:=by rw[zjo_];revert c;decide
theorem zhX_ {c:Nat}(h:c∈SG):zbh_.val [.str [c]]=.ok (.int (rk c)):=by
 have e0:=sg_in h;unfold SG at e0;have e1:zcI_.val [.str [c]]=.ok (.bl qK):=by
  refine zbw_ rfl rfl λpn hp=>?_
  unfold zcH_;have el:lenA [.str [c]]=.ok (.int 1):=lnS_ (l:=[c]) (mG rfl)
  exists hp,el,zhN_,decide_true,e0
  fail "q"
 have e2:Sm.f .index SG [.str [c]]=.ok (.int (rk c)):=by
  show Mo.grd (findS SG [c] ≠ -1) (.ok (D.int (findS SG [c])))=_
  rw[(sgf c h).1,Mo.grd_ok (sgf c h).2]
 unfold SG at e2;have e3:∀l,strOf (.str l)=.ok l:=λ_=>rfl
 refine zbw_ rfl rfl λpn hp=>?_
 unfold zcN_
 exists hp,e1,xv_sm,e3,e2
 fail "q"
theorem zkA_:∀a∈SG,∀b∈SG,(rk a<rk b↔a<b)/\(rk a=rk b↔a=b):=by decide
theorem rg1 {j:Int}(h0:0<=j)(h:j<=100000):rng1D [D.int j]=Mq ((jw j.toNat).map λi:Nat=>D.int (0+(i:Int))):=by
 unfold rng1D;dsimp only;rw[VI.vd_int,zb5_,Mo.grd_ok ⟨by lia,by lia⟩]
 unfold rngI;rw[j5];rfl
theorem sg_ix {i:Int}(h0:0<=i)(h1:i<37):∃s,s∈SG/\ixA (.str SG) (.int i)=.ok (.str [s]):=by
 obtain⟨s,e,hs⟩:=ze3_ (xs:=SG) h0 (show i<(SG.length:Int)from h1)
 refine⟨s,hs,?_⟩;show Mo.lim SG.length (Mo.opt ((atI SG i).map λc=>D.str [c]))=_
 rw[Mo.lim_ok (by decide),e];rfl
theorem ze7_ {n m:Nat}{body:List S}{ds:List D}{d:D}{e:VI.Env}(hl:ds.length=n)(hc:D.colds ds=qK)(h:S.runs gi (pins ds) body (ds.map qI++iT m qJ)=.ok (.rt d) e):fnOf gi n m body ds=.ok d ds:=by
 unfold fnOf;rw[if_pos hl,h];show Mr.ok d (outs ds e)=_
 rw[zbm_ hc]
section
variable {env e1:VI.Env}{q q':Pl}{p p':Pt}{c c' d a r d' a':D}{ds ds':List D}{x k:X}{as:List A}{n:Str}
theorem ag1 (hx:keep (x.ev gi env) env x.uses=.ok d env):evG gi env [.x x]=.ok (agD [d]) env:=by
 show((stX gi env x).bind λd e=>(evG gi e []).bind λgs e'=>.ok (.d d::gs) e')=_
 rw[zga_,hx];rfl
theorem ag2 {y:X}(hx:keep (x.ev gi env) env x.uses=.ok d env)(hy:keep (y.ev gi env) env y.uses=.ok a env):evG gi env [.x x,.x y]=.ok (agD [d,a]) env:=by
 have e:=ag1 hy;show((stX gi env x).bind λd e=>(evG gi e [.x y]).bind λgs e'=>.ok (.d d::gs) e')=_
 rw[zga_,hx,zbW_,e];rfl
theorem zh3_ {ok:D->Bool}{F:Pl->Fn}(hp:Pt.ev gi env p=.ok q)(hc:atE env q=qI c)(hk:ok c=qK)(ha:evG gi env as=.ok (agD ds) env)(hf:F q (c::ds)=.ok r (c'::ds')):lentG gi env p as ok (λq gs e=>callG (F q) (.l q::gs) e)=.ok r (putE env q c'):=by
 unfold lentG;rw[hp];show(match atE env q with |some c=>if ok c=qK then(evG gi env as).bind λgs e=>callG (F q) (.l q::gs) e else .no |none=>.no)=_
 rw[hc];show(if ok c=qK then(evG gi env as).bind λgs e=>callG (F q) (.l q::gs) e else .no)=_
 rw[if_pos hk,ha,zbW_];unfold callG;have e2:resolve env (.l q::agD ds)=qI (c::ds):=by
  show(atE env q).bind (λc=>(resolve env (agD ds)).map λds=>c::ds)=_
  rw[hc,zkS_];rfl
 rw[e2];show(if(apartOf q (agD ds) && apartAll (agD ds))=qK then(match F q (c::ds)with |.ok r ds'=>Mr.ok r (restE env (.l q::agD ds) ds')|.ex x ds'=>.ex x (restE env (.l q::agD ds) ds')|.no=>.no)else _)=_
 rw[zmV_,zkH_,if_pos (show(qK && qK)=qK from rfl),hf]
 show Mr.ok r (putE (restE env (agD ds) ds') q c')=_
 rw[zk8_]
theorem zdw_ {o:Bm}(hp:Pt.ev gi env p=.ok q)(hc:atE env q=qI c)(hk:isK o.ty c=qK)(ha:evG gi env as=.ok (agD ds) env)(hf:o.f (c::ds)=.ok r (c'::ds')):Y.ev gi (.bm o p as) env=.ok r (putE env q c'):=by
 rw[Y.ev];exact zh3_ (F:=λ_=>o.f) hp hc hk ha hf
theorem zlh_ {ms:List (Str×Fn)}{C:Str}{ns:List Str}{xs:List D}{f:Str×Fn}(hp:Pt.ev gi env p=.ok q)(hc:atE env q=qI (.nd (.obj C ns) xs))(hm:ms.find? (λq=>q.1 == C)=qI f)(hn:n∉ns)(ha:evG gi env as=.ok (agD ds) env)(hf:f.2 (.nd (.obj C ns) xs::ds)=.ok r (c'::ds')):Y.ev gi (.meth ms p n as) env=.ok r (putE env q c'):=by
 rw[Y.ev];unfold methG;have h0:ms.isEmpty=qL:=by cases ms with |nil=>cases hm |cons=>rfl
 rw[h0];show lentG gi env p as (VI.isObj ms n) (λq gs e=>callG (fnAt ms env q) (.l q::gs) e)=_
 refine zh3_ (ds':=ds') (ok:=VI.isObj ms n) (F:=λq=>fnAt ms env q) hp hc ?_ ha ?_
 ·unfold VI.isObj;simp only[hm,decide_eq_false hn];rfl
 ·unfold fnAt;simp only[hc,hm];exact hf
theorem xmeth {ms:List (Str×Fn)}{y:X}{C:Str}{ns:List Str}{xs:List D}{f:Str×Fn}{ys:List X}(hx:y.ev gi env=.ok d)(hu:d.un=.nd (.obj C ns) xs)(hm:ms.find? (λq=>q.1 == C)=qI f)(hn:n∉ns)(ha:X.evs gi env ys=.ok ds)(hf:f.2.val (d.vw::ds.map .vw)=.ok r):X.ev gi env (.meth ms y n ys)=.ok r:=by
 have e:X.ev gi env (.meth ms y n ys)=(y.ev gi env).bind λd=>methD ms n d (X.evs gi env ys):=by cases ms with |nil=>cases hm |cons=>rfl
 rw[e,hx,zb5_];unfold methD;rw[hu];simp only[hm,if_neg hn,ha];exact hf
theorem zgp_ (hx:keep (x.ev gi env) env x.uses=.ok d env)(hp:Pt.ev gi env p=.ok q){C:Str}{ns:List Str}{xs:List D}(hc:atE env q=qI (.nd (.obj C ns) xs))(hC:C∈gi.cs)(hf:setFF n [d,.nd (.obj C ns) xs]=.ok r [d',c']):setFM gi n p (.x x) env=.ok .nx (putE env q c'):=by
 unfold setFM;have e1:evG gi env [.x x,.l p]=.ok [.d d,.l q] env:=by
  unfold evG;rw[zga_,hx,zbW_];unfold evG;rw[hp];rfl
 rw[e1,zbW_];have e3:clsAt env q=qI C:=by unfold clsAt;rw[hc]
 simp only[e3,if_pos hC];unfold callG;have e2:resolve env [.d d,.l q]=qI [d,.nd (.obj C ns) xs]:=by
  show((atE env q).bind λc=>qI [c]).map (λds=>d::ds)=_
  rw[hc];rfl
 rw[e2];show dropM (if _ then(match setFF n [d,.nd (.obj C ns) xs]with |.ok r ds'=>Mr.ok r (restE env [.d d,.l q] ds')|.ex x ds'=>_ |.no=>_)else _)=_
 rw[hf,if_pos (show apartAll _=qK from rfl)]
 rfl
theorem sm_at (c5:Pt.ev gi env p'=.ok q')(hd:atE env q'=qI d)(he:putE env q' .gone=e1)(hp:Pt.ev gi e1 p=.ok q){C:Str}{ns:List Str}{xs:List D}(hc:atE e1 q=qI (.nd (.obj C ns) xs))(hC:C∈gi.cs)(hf:setFF n [d,.nd (.obj C ns) xs]=.ok r [d',c']):setFM gi n p (.m p') env=.ok .nx (putE e1 q c'):=by
 unfold setFM;have e0:mpM gi env p'=.ok d e1:=by unfold mpM;rw[c5];simp only[hd,he]
 have ip:evG gi env [.m p',.l p]=.ok [.d d,.l q] e1:=by
  unfold evG;rw[e0,zbW_];unfold evG;rw[hp];rfl
 rw[ip,zbW_];have e3:clsAt e1 q=qI C:=by unfold clsAt;rw[hc]
 simp only[e3,if_pos hC];unfold callG;have e2:resolve e1 [.d d,.l q]=qI [d,.nd (.obj C ns) xs]:=by
  show((atE e1 q).bind λc=>qI [c]).map (λds=>d::ds)=_
  rw[hc];rfl
 rw[e2];show dropM (if _ then(match setFF n [d,.nd (.obj C ns) xs]with |.ok r ds'=>Mr.ok r (restE e1 [.d d,.l q] ds')|.ex x ds'=>_ |.no=>_)else _)=_
 rw[hf,if_pos (show apartAll _=qK from rfl)]
 rfl
theorem zeo_ (hx:keep (x.ev gi env) env x.uses=.ok d env)(hp:Pt.ev gi env p=.ok q)(hk:keep (k.ev gi env) env k.uses=.ok a env)(hc:atE env q=qI c)(hf:setIF [d,c,a]=.ok r [d',c',a']):setIM gi p k x env=.ok .nx (putE env q c'):=by
 unfold setIM;have e1:evG gi env [.x x,.l p,.x k]=.ok [.d d,.l q,.d a] env:=by
  unfold evG;rw[zga_,hx,zbW_];unfold evG;rw[hp];show(Mr.bind (Mr.bind (evG gi env [.x k]) _) _)=_
  rw[ag1 hk];rfl
 rw[e1,zbW_];unfold callG;have e2:resolve env [.d d,.l q,.d a]=qI [d,c,a]:=by
  show((atE env q).bind λc=>qI [c,a]).map (λds=>d::ds)=_
  rw[hc];rfl
 rw[e2];show dropM (if _ then(match setIF [d,c,a]with |.ok r ds'=>Mr.ok r (restE env [.d d,.l q,.d a] ds')|.ex x ds'=>_ |.no=>_)else _)=_
 rw[hf,if_pos (show apartAll _=qK from rfl)]
 rfl
theorem pt_s {j:Nat}(hp:Pt.ev gi env p=.ok q)(hx:x.ev gi env=.ok d)(hc:atE env q=qI c)(hs:stepS c d=qI j):Pt.ev gi env (.s p x)=.ok (q.1,q.2++[j]):=by
 rw[Pt.ev,hp,zb5_,hx,zb5_,hc];show Mo.opt ((stepS c d).map _)=_
 rw[hs];rfl
theorem rn_s {pn:Nat->Bool}{s:S}{ss:List S}(h:S.run gi pn s env=.ok .nx e1):S.runs gi pn (s::ss) env=S.runs gi pn ss e1:=by rw[S.runs,h,zge_]
theorem rn_e {pn:Nat->Bool}{y:Y}{ss:List S}(h:Y.ev gi y env=.ok d e1):S.runs gi pn (.ex y::ss) env=S.runs gi pn ss e1:=by rw[S.runs,S.run,h,zkO_,zge_]
end
abbrev TT:=List (List Nat×Cds)
def ix (n:Jx)(m:TT):Nat:=(m.map (·.1)).idxOf n
def gt (n:Jx)(m:TT):Cds:=((m.map (·.2))[ix n m]?).getD []
def up (n:Jx)(d:Cds)(m:TT):TT:=if n∈m.map (·.1)then m.set (ix n m) (n,d)else m++[(n,d)]
section
variable {n k:List Nat}{d:Cds}{m:TT}
theorem kix:∀(m:TT),kIx (m.map λq=>kN_t q.1) (kN_t n)=ix n m
 |[]=>rfl
 |q::m=>by
  have ih:=kix m;unfold ix at ih ⊢;rw[iN,iN,kIx,mn,ih];by_cases e:q.1=n
  ·rw[if_pos (zgI_.mpr e),e,BEq.rfl];rfl
  ·rw[if_neg (λz=>e (zgI_.mp z)),beq_false_of_ne e];rfl
theorem zf8_:ix n m<m.length↔n∈m.map (·.1):=by
 unfold ix;have:=lR (l:=m.map (·.1)) (a:=n);rw[gf]at this;exact this
theorem zi5_ (h:n∈m.map (·.1)):m[ix n m]?=qI (n,gt n m):=by
 have hl:=zf8_.mpr h;rw[iL hl];have e1:(m.map (·.1))[ix n m]'(by rw[gf];exact hl)=n:=List.getElem_idxOf (lR.mpr h)
 rw[oW]at e1;have e2:gt n m=(m[ix n m]).2:=by
  unfold gt;rw[iS,iL hl];rfl
 rw[e2];exact congrArg qI (Prod.ext e1 rfl)
theorem zf9_ (h:n∈m.map (·.1)):up n d m=m.set (ix n m) (n,d):=if_pos h
theorem zbK_ (h:n∈m.map (·.1)):(up n d m).map (·.1)=m.map (·.1):=by
 rw[zf9_ h,mW];show(m.map (·.1)).set (ix n m) n=_
 apply l5;intro i;rw[jW];by_cases e:ix n m=i
 ·subst e
  have hl:=zf8_.mpr h;rw[if_pos rfl,gf,if_pos hl,iS,zi5_ h];rfl
 ·rw[if_neg e]
theorem zl4_:n∈(up n d m).map (·.1):=by
 by_cases h:n∈m.map (·.1)
 ·rw[zbK_ h];exact h
 ·unfold up;rw[if_neg h];simp
theorem zab_ (h:k∈m.map (·.1)):k∈(up n d m).map (·.1):=by
 by_cases e:n∈m.map (·.1)
 ·rw[zbK_ e];exact h
 ·unfold up;rw[if_neg e,jD];exact kg _ h
theorem zpl_ (h:(m.map (·.1)).Nodup):((up n d m).map (·.1)).Nodup:=by
 by_cases e:n∈m.map (·.1)
 ·rw[zbK_ e];exact h
 ·unfold up;rw[if_neg e,jD,mC]
  exact⟨h,by simp,λa ha b hb z=>by simp at hb;subst hb z;exact e ha⟩
theorem zhy_ {m':TT}(h:m'.map (·.1)=m.map (·.1)):ix n m'=ix n m:=by unfold ix;rw[h]
theorem gt_up (h:n∈m.map (·.1)):gt n (up n d m)=d:=by
 have hl:=zf8_.mpr h;unfold gt;rw[zhy_ (zbK_ h),zf9_ h,iS,jW,if_pos rfl,if_pos hl];rfl
theorem up_up {d':Cds}(h:n∈m.map (·.1)):up n d (up n d' m)=up n d m:=by
 rw[zf9_ (zab_ h),zhy_ (zbK_ h),zf9_ h,zf9_ h,lO]
theorem zmo_ (h:n∈m.map (·.1)):up n (gt n m) m=m:=by
 rw[zf9_ h];apply l5;intro i;rw[jW];by_cases e:ix n m=i
 ·subst e;rw[if_pos rfl,if_pos (zf8_.mpr h),zi5_ h]
 ·rw[if_neg e]
theorem zcF_ (h:n∈m.map (·.1)):(n,gt n m)∈m:=kj (zi5_ h)
theorem zdv_ (h:n∈m.map (·.1)):ixA (TD m) (.str n)=.ok (.fz (LS .str (gt n m))):=by
 refine td_ix ?_;have hl:=zf8_.mpr h;have e:=zi5_ h;rw[List.find?_eq_some_iff_getElem];refine⟨by simp,ix n m,hl,?_,λj hj=>?_⟩
 ·rw[iL hl]at e;exact jv e
 ·have:(m.map (·.1))[j]'(by rw[gf];lia)≠n:=λz=>by
   have:=List.not_of_lt_findIdx (p:=(· == n)) (xs:=m.map (·.1)) (i:=j) (by unfold ix at hj;exact hj)
   rw[z]at this;simp at this
  rw[oW]at this
  simpa using this
theorem zd2_ (h:n∈m.map (·.1)):stepS (TD m) (.str n)=qI (ix n m):=by
 show(if kIx (m.map λq=>kN_t q.1) (kN_t n)<(m.map λq=>kN_t q.1).length/\(m.map λq=>kN_t q.1).length=(m.map λq=>LS D.str q.2).length then qI (kIx (m.map λq=>kN_t q.1) (kN_t n))else qJ)=_
 rw[kix,gf,gf,if_pos ⟨zf8_.mpr h,rfl⟩]
theorem zm5_ (h:n∈m.map (·.1)):D.nd (.dct (m.map λq=>kN_t q.1)) ((m.map λq=>LS D.str q.2).set (ix n m) (LS .str d))=TD (up n d m):=by
 have e:(up n d m).map (λq=>kN_t q.1)=m.map λq=>kN_t q.1:=by
  have:=congrArg (List.map kN_t) (zbK_ (d:=d) h);rw[j5,j5]at this;exact this
 show _=D.nd (.dct ((up n d m).map λq=>kN_t q.1)) ((up n d m).map λq=>LS D.str q.2)
 rw[e,zf9_ h,mW]
theorem zdE_ (hm:m.length<1000):setIF [LS .str d,TD m,.str n]=.ok .non [.gone,TD (up n d m),.str n]:=by
 have hs:m.length<iZ:=by have:=zaB_ (n:=m.length+1) (by lia);lia
 show(if kIx (m.map λq=>kN_t q.1) (kN_t n)<(m.map λq=>kN_t q.1).length/\(m.map λq=>LS D.str q.2).length<iZ then Mr.ok D.non [.gone,D.nd (.dct (m.map λq=>kN_t q.1)) ((m.map λq=>LS D.str q.2).set (kIx (m.map λq=>kN_t q.1) (kN_t n)) (LS .str d)),.str n]else if(m.map λq=>LS D.str q.2).length<iZ/\¬kIx (m.map λq=>kN_t q.1) (kN_t n)<(m.map λq=>kN_t q.1).length then Mr.ok D.non [.gone,D.nd (.dct ((m.map λq=>kN_t q.1)++[kN_t n])) ((m.map λq=>LS D.str q.2)++[LS .str d]),.str n]else .no)=_
 rw[kix,gf,gf];by_cases h:n∈m.map (·.1)
 ·rw[if_pos ⟨zf8_.mpr h,hs⟩,zm5_ h]
 ·rw[if_neg (λz=>h (zf8_.mp z.1)),if_pos ⟨hs,λz=>h (zf8_.mp z)⟩]
  unfold up;rw[if_neg h];show _=Mr.ok D.non [.gone,D.nd (.dct ((m++[(n,d)]).map λq=>kN_t q.1)) ((m++[(n,d)]).map λq=>LS D.str q.2),.str n]
  rw[jD,jD];rfl
theorem zgQ_ (m:TT):(TD m).new=qK:=by
 show(D.nd _ _).new=qK
 rw[D.new];induction m with
 |nil=>rw[jM,D.news]
 |cons q m ih=>rw[iN,D.news,ih,zaT_];rfl
end
def sz (m:TT):Nat:=(m.map λq=>q.2.length).sum
theorem ziD_:∀{m:TT}{q:List Nat×Cds},q∈m->q.2.length<=sz m
 |q'::m,q,h=>by
  have e:sz (q'::m)=q'.2.length+sz m:=by unfold sz;rw[iN,nu]
  rcases ju.mp h with rfl |h
  ·lia
  ·have:=ziD_ h;lia
theorem zkv_:∀{m:TT}{i:Nat}{q q':List Nat×Cds},m[i]?=qI q->sz (m.set i q')+q.2.length=sz m+q'.2.length
 |a::m,0,q,q',h=>by
  have e:∀(b:List Nat×Cds),sz (b::m)=b.2.length+sz m:=λb=>by unfold sz;rw[iN,nu]
  rw[mr,e,e];rw[nJ]at h;cases h;lia
 |a::m,i+1,q,q',h=>by
  have e:∀(m:TT),sz (a::m)=a.2.length+sz m:=λb=>by unfold sz;rw[iN,nu]
  rw[kX]at h;have:=zkv_ (q':=q') h;rw[lX,e,e];lia
theorem zm8_ {n:List Nat}{d:Cds}{m:TT}(h:n∈m.map (·.1)):sz (up n d m)+(gt n m).length=sz m+d.length:=by
 rw[zf9_ h];exact zkv_ (zi5_ h)
theorem znq_ {n:List Nat}{d:Cds}{m:TT}(h:n∈m.map (·.1))(hm:∀q∈m,∀c∈q.2,CD c)(hd:∀c∈d,CD c):∀q∈up n d m,∀c∈q.2,CD c:=by
 rw[zf9_ h];intro q hq;rcases me hq with z |z
 ·exact hm q z
 ·subst z;exact hd
structure Go where
 nm:List Nat
 col:Int
 sg:Option Nat
noncomputable def WD:List Nat:=[100,101,97,108]
noncomputable def WP:List Nat:=[112,105,99,107]
def GO (g:Go):D:=match g.sg with
 |none=>.nd .tup [.str WD,.str g.nm,.int g.col]
 |some s=>.nd .tup [.str WP,.str g.nm,.int g.col,.str [s]]
instance:Im GO:=⟨λg=>by unfold GO;cases g.sg<;>rfl⟩
def sgn (g:Go)(c:Jx):Nat:=c.getD (g.col-1).toNat 0
def pn (g:Go)(c:Jx):Nat:=match g.sg with |none=>SG.idxOf (sgn g c)|some s=>if sgn g c=s then 0 else 1
noncomputable def np (g:Go):Nat:=match g.sg with |none=>37 |some _=>2
def OkG (g:Go):Prop:=1<=g.col/\g.col<=36
def LL (ps:List Cds):D:=.nd .lst (ps.map (LS .str))
def pks (f:List Nat->Nat)(n:Nat)(l:Cds):List Cds:=(jw n).map λr=>l.filter λc=>f c == r
def lgs (f:List Nat->Nat)(l:Cds):List Int:=l.map λc=>(f c:Int)
abbrev MO (C:Str)(ns:List Str)(ps:List Cds)(lg:List Int)(xs:List D):D:=.nd (.obj C ("pockets" :: "log" :: ns)) (LL ps::LS .int lg::xs)
def MC (g:Go)(l:Cds):D:=match g.sg with
 |none=>MO "Dealer" ["column"] (pks (pn g) (np g) l) (lgs (pn g) l) [.int g.col]
 |some s=>MO "Picker" ["column", "sign"] (pks (pn g) (np g) l) (lgs (pn g) l) [.int g.col,.str [s]]
theorem zj9_ (ps:List Cds):(LL ps).new=qK:=by
 unfold LL;rw[D.new];induction ps with
 |nil=>rw[jM,D.news]
 |cons p ps ih=>rw[iN,D.news,ih,zaT_];rfl
theorem zjf_ (g:Go)(l:Cds):(MC g l).new=qK:=by
 unfold MC;cases g.sg with
 |none=>show(D.nd _ _).new=qK;rw[D.new,D.news,D.news,D.news,D.news,zj9_,zaT_,zeI_];rfl
 |some s=>show(D.nd _ _).new=qK;rw[D.new,D.news,D.news,D.news,D.news,D.news,zj9_,zaT_,zeI_,zdL_];rfl
theorem zky_ {g:Go}(hg:OkG g){c:List Nat}(h:CD c):pn g c<np g:=by
 unfold pn np;cases g.sg with
 |none=>
  have:=h.2 (g.col-1).toNat (by obtain⟨a,b⟩:=hg;lia)
  exact lR.mpr this
 |some s=>show(if _ then 0 else 1)<2;split<;>lia
theorem zmc_ {c:List Nat}(h:CD c){j:Int}(h1:1<=j)(h2:j<=36):zah_.val [.str c,.int j]=.ok (.str [c.getD (j-1).toNat 0]):=by
 have hk:=h.1;have e:ixA (.str c) (.int (j-1))=.ok (.str [c.getD (j-1).toNat 0]):=by
  show Mo.lim c.length (Mo.opt ((atI c (j-1)).map λc=>D.str [c]))=_
  rw[Mo.lim_ok (by lia),atI_nn (by lia) (iL (by lia)),jP,iL (by lia)];rfl
 refine zbw_ rfl rfl λpn hp=>?_
 unfold zcA_
 exists hp,e
 fail "q"
theorem zlt_ {ds:List D}{n:Nat}(h:n<ds.length):stepS (.nd .lst ds) (.int (n:Int))=qI n:=by
 show((ixN ds.length (n:Int)).bind λj=>if j<ds.length then qI j else qJ)=_
 have:ixN ds.length (n:Int)=qI n:=by unfold ixN;rw[if_pos (by lia),kY,if_pos (by lia)]
 rw[this];show(if n<ds.length then qI n else qJ)=_
 rw[if_pos h]
theorem zoS_ {ps:List Cds}{n:Nat}{p:Cds}(h:n<ps.length):(LL ps).put [n] (LS .str p)=LL (ps.set n p):=by
 unfold LL;rw[D.put,iS,iL h];show D.nd .lst ((ps.map (LS .str)).set n (D.put _ [] (LS .str p)))=_
 rw[D.put,mW]
theorem at_ll {ps:List Cds}{n:Nat}{p:Cds}(h:ps[n]?=qI p):(LL ps).at [n]=qI (LS .str p):=by
 unfold LL;rw[D.at,iS,h];show D.at _ []=_
 rw[D.at]
theorem pt_f {env:VI.Env}{p:Pt}{q:Pl}{C n:Str}{ns:List Str}{xs:List D}{j:Nat}(hp:Pt.ev gi env p=.ok q)(hc:atE env q=qI (.nd (.obj C ns) xs))(hC:C∈gi.cs)(hi:ns.idxOf n=j)(hj:j<xs.length):Pt.ev gi env (.f p n)=.ok (q.1,q.2++[j]):=by
 rw[Pt.ev,hp,zb5_,hc];show Mo.opt ((if C∈gi.cs/\ns.idxOf n<xs.length then qI (ns.idxOf n)else qJ).map _)=_
 rw[hi,if_pos ⟨hC,hj⟩];rfl
theorem zpw_ {C:Str}{ns:List Str}{xs:List D}{ps:List Cds}{lg:List Int}{c:List Nat}{n:Nat}{p:Cds}(hC:C∈gi.cs)(hp:ps[n]?=qI p)(hl:p.length<1000)(hg:lg.length<1000):zc_ [MO C ns ps lg xs,.str c,.int n]=.ok .non [MO C ns (ps.set n (p++[c])) (lg++[(n:Int)]) xs,.str c,.int n]:=by
 have hn:n<ps.length:=(i6.mp hp).1;have i0:((("pockets":Str)::("log":Str)::ns)).idxOf ("pockets":Str)=0:=by simp
 have i1:((("pockets":Str)::("log":Str)::ns)).idxOf ("log":Str)=1:=by rw[mn,mn];rfl
 have run:∀q,S.runs gi q zr_ ([MO C ns ps lg xs,.str c,.int n].map qI++iT 0 qJ)=.ok .nx [qI (MO C ns (ps.set n (p++[c])) (lg++[(n:Int)]) xs),qI (.str c),qI (.int n)]:=λq=>by
  unfold zr_;have e1:Pt.ev gi [qI (MO C ns ps lg xs),qI (.str c),qI (.int n)] (.f (.v 0) "pockets")=.ok (0,[0]):=pt_f (q:=(0,[])) rfl rfl hC i0 (by simp)
  have e2:Pt.ev gi [qI (MO C ns ps lg xs),qI (.str c),qI (.int n)] (.s (.f (.v 0) "pockets") (.v 2))=.ok (0,[0,n]):=pt_s (d:=.int n) (c:=LL ps) e1 rfl rfl (zlt_ (by rw[gf];exact hn))
  have e3:atE [qI (MO C ns ps lg xs),qI (.str c),qI (.int n)] (0,[0,n])=qI (LS .str p):=at_ll hp;rw[iN,iN,iN,jM,jR,jz,rn_e (zdw_ (o:=.append) (ds:=[.str c]) e2 e3 rfl (ag1 rfl) (zdP_ (g:=.str) (by lia)))]
  have e4:putE [qI (MO C ns ps lg xs),qI (.str c),qI (.int n)] (0,[0,n]) (LS .str (p++[c]))=[qI (MO C ns (ps.set n (p++[c])) lg xs),qI (.str c),qI (.int n)]:=by
   have:=zoS_ (p:=p++[c]) hn;show[qI (D.nd (.obj C ("pockets" :: "log" :: ns)) ((LL ps).put [n] (LS .str (p++[c]))::LS .int lg::xs)),qI (.str c),qI (.int n)]=_
   rw[this]
  rw[e4];have f1:Pt.ev gi [qI (MO C ns (ps.set n (p++[c])) lg xs),qI (.str c),qI (.int n)] (.f (.v 0) "log")=.ok (0,[1]):=pt_f (q:=(0,[])) rfl rfl hC i1 (by simp)
  rw[rn_e (zdw_ (o:=.append) (ds:=[.int n]) f1 (c:=LS .int lg) rfl rfl (ag1 rfl) (zdP_ (g:=.int) (by lia)))]
  rfl
 have:=zc4_ (G:=gi) (n:=3) (m:=0) (body:=zr_) (ds:=[MO C ns ps lg xs,.str c,.int n]) rfl (run _);exact this
theorem zet_ {f:List Nat->Nat}{n r:Nat}(l:Cds)(h:r<n):(pks f n l)[r]?=qI (l.filter λc=>f c == r):=by
 unfold pks;rw[iS,oA h];rfl
theorem zlO_ {f:List Nat->Nat}{n:Nat}{l:Cds}{c:List Nat}(h:f c<n):(pks f n l).set (f c) ((l.filter λx=>f x == f c)++[c])=pks f n (l++[c]):=by
 apply l5;intro i;have hl:(pks f n l).length=n:=by unfold pks;rw[gf,jC]
 rw[jW,hl];by_cases e:f c=i
 ·subst e
  rw[if_pos rfl,if_pos h,zet_ _ h,kF];congr 2;rw[j9,BEq.rfl];rfl
 ·rw[if_neg e]
  by_cases hi:i<n
  ·rw[zet_ _ hi,zet_ _ hi,kF,j9,beq_false_of_ne e]
   show _=qI (_++[])
   rw[jz]
  ·unfold pks
   rw[kd (by rw[gf,jC];lia),kd (by rw[gf,jC];lia)]
theorem zkl_ {f:List Nat->Nat}{l:Cds}{c:List Nat}:lgs f l++[(f c:Int)]=lgs f (l++[c]):=by unfold lgs;rw[jD];rfl
theorem zmF_ {C:Str}{ns:List Str}{xs:List D}{f:List Nat->Nat}{n:Nat}{l:Cds}{c:List Nat}(hC:C∈gi.cs)(h:f c<n)(hl:l.length<1000):zc_ [MO C ns (pks f n l) (lgs f l) xs,.str c,.int (f c)]=.ok .non [MO C ns (pks f n (l++[c])) (lgs f (l++[c])) xs,.str c,.int (f c)]:=by
 rw[zpw_ hC (zet_ l h) (Nat.lt_of_le_of_lt (List.length_filter_le _ _) hl) (by unfold lgs;rw[gf];exact hl),zlO_ h,zkl_]
theorem ziz_ {g:Go}(hg:OkG g)(hs:g.sg=qJ){l:Cds}{c:List Nat}(hc:CD c)(hl:l.length<1000):zS_ [MC g l,.str c]=.ok .non [MC g (l++[c]),.str c]:=by
 have e0:∀l,MC g l=MO "Dealer" ["column"] (pks (pn g) (np g) l) (lgs (pn g) l) [.int g.col]:=λl=>by unfold MC;rw[hs]
 have ep:(pn g c:Int)=rk (sgn g c):=by unfold pn;rw[hs];rfl
 have hm:sgn g c∈SG:=hc.2 _ (by obtain⟨a,b⟩:=hg;lia)
 have run:∀q,S.runs gi q zaa_ ([MC g l,.str c].map qI++iT 0 qJ)=.ok .nx [qI (MC g (l++[c])),qI (.str c)]:=λq=>by
  unfold zaa_;rw[e0,e0,iN,iN,jM,jR,jz];have ex:X.ev gi [qI (MO "Dealer" ["column"] (pks (pn g) (np g) l) (lgs (pn g) l) [.int g.col]),qI (.str c)] (.call zbh_ "rank_of" [(.call zah_ "sign_at" [(.v 1),(.fld (.v 0) "column")])])=.ok (.int (pn g c)):=by
   have h1:fldD gi.cs "column" (D.vw (MO "Dealer" ["column"] (pks (pn g) (np g) l) (lgs (pn g) l) [.int g.col]))=.ok (.int g.col):=rfl;rw[ep]
   exists h1,zmc_ hc hg.1 hg.2,zhX_ hm
   exact zhX_ hm
  have e2:=zlh_ (env:=[qI (MO "Dealer" ["column"] (pks (pn g) (np g) l) (lgs (pn g) l) [.int g.col]),qI (.str c)]) (ms:=[("Dealer",zc_)]) (p:=.v 0) (q:=(0,[])) (f:=("Dealer",zc_)) (n:="lay_in") (as:=[(.x (.v 1)),(.x (.call zbh_ "rank_of" [(.call zah_ "sign_at" [(.v 1),(.fld (.v 0) "column")])]))]) (ds:=[.str c,.int (pn g c)]) rfl rfl rfl (by decide) (ag2 rfl (by rw[ex];exact zs_ _ (zeI_ _))) (zmF_ (C:="Dealer") (ns:=["column"]) (xs:=[.int g.col]) (f:=pn g) (n:=np g) (l:=l) (c:=c) (by decide) (zky_ hg hc) hl)
  rw[rn_e e2];rfl
 have:=zc4_ (G:=gi) (n:=2) (m:=0) (body:=zaa_) (ds:=[MC g l,.str c]) rfl (run _);rw[e0]at this ⊢;exact this
theorem ziN_ {g:Go}{s:Nat}(hg:OkG g)(hs:g.sg=qI s){l:Cds}{c:List Nat}(hc:CD c)(hl:l.length<1000):zT_ [MC g l,.str c]=.ok .non [MC g (l++[c]),.str c]:=by
 have e0:∀l,MC g l=MO "Picker" ["column", "sign"] (pks (pn g) (np g) l) (lgs (pn g) l) [.int g.col,.str [s]]:=λl=>by unfold MC;rw[hs]
 have run:∀q,S.runs gi q z7_ ([MC g l,.str c].map qI++iT 0 qJ)=.ok .nx [qI (MC g (l++[c])),qI (.str c)]:=λq=>by
  unfold z7_;rw[e0,e0,iN,iN,jM,jR,jz];have ex:X.ev gi [qI (MO "Picker" ["column", "sign"] (pks (pn g) (np g) l) (lgs (pn g) l) [.int g.col,.str [s]]),qI (.str c)] (.ifx (.bin .eq (.call zah_ "sign_at" [(.v 1),(.fld (.v 0) "column")]) (.fld (.v 0) "sign")) (.n 0) (.n 1))=.ok (.int (pn g c)):=by
   have h1:fldD gi.cs "column" (D.vw (MO "Picker" ["column", "sign"] (pks (pn g) (np g) l) (lgs (pn g) l) [.int g.col,.str [s]]))=.ok (.int g.col):=rfl;have h2:fldD gi.cs "sign" (D.vw (MO "Picker" ["column", "sign"] (pks (pn g) (np g) l) (lgs (pn g) l) [.int g.col,.str [s]]))=.ok (.str [s]):=rfl;have h3:zah_.val [.str c,.int g.col]=.ok (.str [sgn g c]):=zmc_ hc hg.1 hg.2;have ep:pn g c=if sgn g c=s then 0 else 1:=by unfold pn;rw[hs]
   rw[ep];by_cases e:sgn g c=s
   ·rw[if_pos e]
    exists h1,h2,h3,e,decide_true
    rfl
   ·rw[if_neg e]
    have:¬[sgn g c]=[s]:=λz=>e (oF z).1
    exists h1,h2,h3,decide_eq_false this
    rfl
  have e2:=zlh_ (env:=[qI (MO "Picker" ["column", "sign"] (pks (pn g) (np g) l) (lgs (pn g) l) [.int g.col,.str [s]]),qI (.str c)]) (ms:=[("Picker",zc_)]) (p:=.v 0) (q:=(0,[])) (f:=("Picker",zc_)) (n:="lay_in") (as:=[(.x (.v 1)),(.x (.ifx (.bin .eq (.call zah_ "sign_at" [(.v 1),(.fld (.v 0) "column")]) (.fld (.v 0) "sign")) (.n 0) (.n 1)))]) (ds:=[.str c,.int (pn g c)]) rfl rfl rfl (by decide) (ag2 rfl (by rw[ex];exact zs_ _ (zeI_ _))) (zmF_ (C:="Picker") (ns:=["column", "sign"]) (xs:=[.int g.col,.str [s]]) (f:=pn g) (n:=np g) (l:=l) (c:=c) (by decide) (zky_ hg hc) hl)
  rw[rn_e e2];rfl
 have:=zc4_ (G:=gi) (n:=2) (m:=0) (body:=z7_) (ds:=[MC g l,.str c]) rfl (run _);rw[e0]at this ⊢;exact this
theorem mk_eq {g:Go}(m:TT):zaI_.val [GO g,.fz (TD m)]=.ok (MC g []):=by
 obtain⟨nm,col,sg⟩:=g;cases sg with
 |none=>
  have hi:zB_ [.nd (.obj "Dealer" []) [],.int col]=.ok .non [MC ⟨nm,col,qJ⟩ [],.int col]:=rfl;have hm:makeD zB_ "Dealer" [.int col]=.ok (MC ⟨nm,col,qJ⟩ []):=by
   unfold makeD;show(match zB_ [.nd (.obj "Dealer" []) [],.int col]with |.ok .non (o::_)=>Mq o |.ex x _=>.ex x |_=>.no)=_
   rw[hi]
  refine zbw_ rfl rfl λpn hp=>?_
  unfold zaP_ GO;have h0:ixA (.nd .tup [.str WD,.str nm,.int col]) (.int 0)=.ok (.str WD):=rfl;have h2:ixA (.nd .tup [.str WD,.str nm,.int col]) (.int 2)=.ok (.int col):=rfl;have e0:(D.nd .tup [.str WD,.str nm,.int col]).vw=.nd .tup [.str WD,.str nm,.int col]:=rfl
  exists hp,e0,h0,h2,hm,show decide (WD=[100,101,97,108])=qK from rfl,zjf_
  fail "q"
 |some s=>
  have hi:zA_ [.nd (.obj "Picker" []) [],.int col,.str [s]]=.ok .non [MC ⟨nm,col,qI s⟩ [],.int col,.str [s]]:=rfl;have hm:makeD zA_ "Picker" [.int col,.str [s]]=.ok (MC ⟨nm,col,qI s⟩ []):=by
   unfold makeD;show(match zA_ [.nd (.obj "Picker" []) [],.int col,.str [s]]with |.ok .non (o::_)=>Mq o |.ex x _=>.ex x |_=>.no)=_
   rw[hi]
  refine zbw_ rfl rfl λpn hp=>?_
  unfold zaP_ GO;have h0:ixA (.nd .tup [.str WP,.str nm,.int col,.str [s]]) (.int 0)=.ok (.str WP):=rfl;have h2:ixA (.nd .tup [.str WP,.str nm,.int col,.str [s]]) (.int 2)=.ok (.int col):=rfl;have h3:ixA (.nd .tup [.str WP,.str nm,.int col,.str [s]]) (.int 3)=.ok (.str [s]):=rfl;have e0:(D.nd .tup [.str WP,.str nm,.int col,.str [s]]).vw=.nd .tup [.str WP,.str nm,.int col,.str [s]]:=rfl
  exists hp,e0,h0,h2,h3,hm,show decide (WP=[100,101,97,108])=qL from rfl,show decide (WP=[112,105,99,107])=qK from rfl,zjf_
  fail "q"
theorem ll_ix {ps:List Cds}{n:Nat}{p:Cds}(h:ps[n]?=qI p):ixA (LL ps) (.int (n:Int))=.ok (.fz (LS .str p)):=by
 show Mo.opt ((atI (ps.map (LS .str)) (n:Int)).map D.vw)=_
 rw[atI_nn (by lia) (by rw[kY,iS,h];rfl)];rfl
theorem zmC_ (ps:List Cds):walkA [LL ps]=.ok (ps.map (LS .str)):=rfl
theorem keepF (ds:List D)(a b:Option D):keep (X.ev gi [qI (.fz (.nd .lst ds)),a,b] (.v 0)) [qI (.fz (.nd .lst ds)),a,b] (X.uses (.v 0))=.ok (.fz (.nd .lst ds)) [qI (.fz (.nd .lst ds)),a,b]:=by
 have:(D.fz (.nd .lst ds)).new=qL:=by rw[D.new];rfl
 show keep (.ok (.fz (.nd .lst ds))) _ _=_
 rw[zcs_ _ this];rfl
theorem zfg_ {F:Cds->D}(hF:∀p,(F p).vw=.fz (LS .str p)){ps:List Cds}(h:ps.flatten.length<=1000):zbz_.val [.fz (.nd .lst (ps.map F))]=.ok (LS .str ps.flatten):=by
 refine zbw_ rfl rfl λpn hp=>?_
 unfold zdH_;show En (S.runs gi pn _ [qI (.fz (.nd .lst (ps.map F))),qJ,qJ]) _
 rw[zaw_ (d:=LS .str []) (by exists hp;rfl) (hp _)]
 refine za2_ (l:=ps) (enc:=λp=>[F p]) (d:=.fz (.nd .lst (ps.map F))) (items:=ps.map F) (λd e=>∃o,e=[qI (.fz (.nd .lst (ps.map F))),qI (LS .str d.flatten),o]) (keepF _ _ _) rfl (zaK_ _ _) ⟨qJ,rfl⟩ (λd p r e hl he=>?_) λe he=>?_
 ·obtain⟨o,rfl⟩:=he
  have hle:d.flatten.length+p.length<=1000:=by rw[hl,k8,iP,kR,iP]at h;lia
  refine⟨[qI (.fz (.nd .lst (ps.map F))),qI (LS .str d.flatten),qI (.fz (LS .str p))],(by exists hp,hF),?_⟩
  rw[rn_e (zdw_ (o:=.extend) (q:=(1,[])) (c:=LS .str d.flatten) (ds:=[.fz (LS .str p)]) rfl rfl rfl (ag1 (by exists zag_,zbC_)) (zmE_ (g:=.str) (by lia)))]
  refine⟨_,_,rfl,.inl ⟨.inl rfl,qI (.fz (LS .str p)),?_⟩⟩;rw[k8];show[_,qI (LS .str (d.flatten++p)),_]=[_,qI (LS .str (d.flatten++(p++[]))),_]
  rw[jz]
 ·obtain⟨o,rfl⟩:=he
  exists hp
  fail "q"
theorem zpm_ {ps:List Cds}(hl:ps.length<=1000)(env:VI.Env)(h:getE env 0=.ok (.fz (LL ps))):X.ev gi env (.comp ["pocket"] [] .any [(.v 0)] ⟨qL,[0]⟩ qJ (.n 0))=.ok (LS .int (ps.map λ_=>0)):=
 xcompN (f:=λ_:Cds=>(0:Int)) (o:=.int) (T:=λx:Cds=>[LS .str x]) ps rfl (by exists h;exact zmC_ ps) (zaK_ _ _) (λj hj=>by exists zmQ_) (by lia)
def cnt (f:List Nat->Nat)(n:Nat)(d:Cds):List Int:=(jw n).map λr=>((d.filter λc=>f c == r).length:Int)
theorem zgF_ {f:List Nat->Nat}{n r:Nat}{d:Cds}(h:r<n):(cnt f n d)[r]?=qI ((d.filter λc=>f c == r).length:Int):=by
 unfold cnt;rw[iS,oA h];rfl
theorem zkR_ {f:List Nat->Nat}{n:Nat}{d:Cds}{c:List Nat}(h:f c<n):(cnt f n d).set (f c) (((d.filter λx=>f x == f c).length:Int)+1)=cnt f n (d++[c]):=by
 apply l5;intro i;have hl:(cnt f n d).length=n:=by unfold cnt;rw[gf,jC]
 rw[jW,hl];by_cases e:f c=i
 ·subst e
  rw[if_pos rfl,if_pos h,zgF_ h,kF,j9,BEq.rfl,iP];rfl
 ·rw[if_neg e]
  by_cases hi:i<n
  ·rw[zgF_ hi,zgF_ hi,kF,j9,beq_false_of_ne e,iP];rfl
  ·unfold cnt
   rw[kd (by rw[gf,jC];lia),kd (by rw[gf,jC];lia)]
theorem zif_ {l:List Int}{v:Int}{n:Nat}(h:n<l.length):setIF [.int v,LS .int l,.int n]=.ok .non [.gone,LS .int (l.set n v),.int n]:=by
 show(match ixN (l.map D.int).length (n:Int)with |some j=>Mr.ok D.non [D.gone,D.nd .lst ((l.map D.int).set j (D.int v)),D.int n]|none=>Mr.no)=_
 have:ixN (l.map D.int).length (n:Int)=qI n:=by unfold ixN;rw[gf,if_pos (by lia),kY,if_pos (by lia)]
 rw[this];show Mr.ok D.non [D.gone,D.nd .lst ((l.map D.int).set n (D.int v)),D.int n]=_
 rw[<- mW];rfl
theorem zlP_ {f:List Nat->Nat}{n:Nat}{l:Cds}(hf:∀c∈l,f c<n)(hl:l.length<=1000)(hn:n<=1000):zb2_.val [.fz (LL (pks f n l)),.fz (LS .int (lgs f l))]=.ok (LS .str l):=by
 refine zbw_ rfl rfl λpn hp=>?_
 unfold zb0_
 generalize hP:pks f n l=ps
 have aI:ps.length=n:=by rw[<- hP];unfold pks;rw[gf,jC]
 show En (S.runs gi pn _ [qI (.fz (LL ps)),qI (.fz (LS .int (lgs f l))),qJ,qJ,qJ]) _
 have z0:ps.map (λ_=>(0:Int))=cnt f n []:=by
  unfold cnt;rw[<- hP];unfold pks;rw[j5];rfl
 have e0:=zpm_ (ps:=ps) (by lia) [qI (.fz (LL ps)),qI (.fz (LS .int (lgs f l))),qJ,qJ,qJ] rfl
 rw[zaw_ (d:=LS .int (cnt f n [])) (by rw[zeu_,e0,z0];exact zs_ _ zaT_) (hp _)]
 show En (S.runs gi pn _ [qI (.fz (LL ps)),qI (.fz (LS .int (lgs f l))),qI (LS .int (cnt f n [])),qJ,qJ]) _
 rw[zaw_ (d:=LS .str []) (by exists hp;rfl) (hp _)]
 refine za2_ (l:=l) (enc:=λc=>[.int (f c)]) (d:=.fz (LS .int (lgs f l))) (items:=l.map λc=>D.int (f c)) (λd e=>∃o,e=[qI (.fz (LL ps)),qI (.fz (LS .int (lgs f l))),qI (LS .int (cnt f n d)),qI (LS .str d),o]) (by exists zag_,zbC_) (by show Mq ((lgs f l).map D.int)=_;unfold lgs;rw[j5];rfl) (zaK_ _ _) ⟨qJ,rfl⟩ (λd x r e bo he=>?_) λe he=>?_
 ·obtain⟨o,rfl⟩:=he
  have hx:f x<n:=hf x (by rw[bo];simp)
  have hd:d.length<1000:=by have:=congrArg jU bo;simp at this;lia
  refine⟨[qI (.fz (LL ps)),qI (.fz (LS .int (lgs f l))),qI (LS .int (cnt f n d)),qI (LS .str d),qI (.int (f x))],(by exists hp),?_⟩
  have i1:ixA (LL ps) (.int (f x))=.ok (.fz (LS .str (l.filter λc=>f c == f x))):=ll_ix (by rw[<- hP];exact zet_ l hx)
  have i2:ixA (LS .int (cnt f n d)) (.int (f x))=.ok (.int ((d.filter λc=>f c == f x).length:Nat)):=by
   rw[zeM_,atI_nn (by lia) (by rw[kY];exact zgF_ hx)];rfl
  have i3:ixA (LS .str (l.filter λc=>f c == f x)) (.int ((d.filter λc=>f c == f x).length:Nat))=.ok (.str x):=by
   rw[zeM_,VI.atI_nn (by lia) (a:=x) (by
    rw[kY,bo,kF,jy (iW _),nW,j9,BEq.rfl];rfl)];rfl
  have v0:(D.fz (LL ps)).vw=.fz (LL ps):=rfl;rw[rn_e (zdw_ (o:=.append) (q:=(3,[])) (c:=LS .str d) (ds:=[.str x]) rfl rfl rfl (ag1 (by exists v0,i1,i2,i3)) (zdP_ (g:=.str) (by lia)))]
  show En (S.runs gi pn _ [qI (.fz (LL ps)),qI (.fz (LS .int (lgs f l))),qI (LS .int (cnt f n d)),qI (LS .str (d++[x])),qI (.int (f x))]) _
  rw[rn_s (by rw[S.run];exact zeo_ (q:=(2,[])) (d:=.int ((d.filter λc=>f c == f x).length+1)) (a:=.int (f x)) (by exists i2) rfl rfl rfl (zif_ (by unfold cnt;rw[gf,jC];exact hx)))]
  refine⟨_,_,rfl,.inl ⟨.inl rfl,qI (.int (f x)),?_⟩⟩;rw[<- zkR_ hx];rfl
 ·obtain⟨o,rfl⟩:=he
  exists hp
  fail "q"
abbrev KO (m:TT)(P:List Go)(k:Nat)(M:D)(h:Cds):D:=.nd (.obj "Clerk" Qn0) [TD m,LS GO P,.int k,M,LS .str h,LS .str []]
section
variable {m:TT}{P:List Go}{k:Nat}{M:D}{h:Cds}{n:List Nat}{g:Go}{l:Cds}
theorem ko_t:fldD gi.cs "trays" (KO m P k M h)=.ok (.fz (TD m)):=rfl
theorem ko_p:fldD gi.cs "plan" (KO m P k M h)=.ok (.fz (LS GO P)):=rfl
theorem ko_d:fldD gi.cs "done" (KO m P k M h)=.ok (.int k):=rfl
theorem ko_n:fldD gi.cs "machine" (KO m P k .non h)=.ok .non:=rfl
theorem ko_m:fldD gi.cs "machine" (KO m P k (MC g l) h)=.ok (.fz (MC g l)):=by
 show Mq (MC g l).vw=_
 unfold MC;cases g.sg<;>rfl
theorem ko_h:fldD gi.cs "hopper" (KO m P k M h)=.ok (.fz (LS .str h)):=rfl
theorem ko_l:fldD gi.cs "lines" (KO m P k M h)=.ok (.fz (LS .str [])):=rfl
theorem zeJ_:(D.fz (KO m P k M h)).vw=.fz (KO m P k M h):=rfl
theorem za6_:(KO m P k M h).vw=.fz (KO m P k M h):=rfl
theorem zi8_ (hn:n∈m.map (·.1)):zM_.val [.fz (KO m P k M h),.str n]=.ok .non:=by
 refine zbw_ rfl rfl λpn hp=>?_
 unfold zY_
 exists hp,zeJ_,ko_t,td_in,decide_eq_true hn
 fail "q"
theorem go_1 (g:Go):ixA (GO g) (.int 1)=.ok (.str g.nm):=by unfold GO;cases g.sg<;>rfl
theorem pl_ix (hk:P[k]?=qI g):ixA (LS GO P) (.int (k:Int))=.ok (GO g):=by
 rw[zeM_,atI_nn (by lia) (by rw[kY];exact hk)];rfl
theorem zjg_ (hk:P[k]?=qI g):zt_.val [.fz (KO m P k M h)]=.ok (.str g.nm):=by
 refine zbw_ rfl rfl λpn hp=>?_
 unfold z2_
 exists hp,zeJ_,ko_p,ko_d,pl_ix hk,go_1
 fail "q"
theorem mc_un:∃C ns xs,(MC g l)=.nd (.obj C ns) xs/\(C="Dealer" /\ g.sg=qJ/\ns=(["pockets", "log", "column"]:List Str)\/C="Picker" /\ ∃s,g.sg=qI s/\ns=(["pockets", "log", "column", "sign"]:List Str)):=by
 unfold MC;cases hs:g.sg with
 |none=>exact⟨_,_,_,rfl,.inl ⟨rfl,rfl,rfl⟩⟩
 |some s=>exact⟨_,_,_,rfl,.inr ⟨rfl,s,rfl,rfl⟩⟩
theorem mc_p:fldD gi.cs "pockets" (MC g l)=.ok (.fz (LL (pks (pn g) (np g) l))):=by unfold MC;cases g.sg<;>rfl
theorem mc_l:fldD gi.cs "log" (MC g l)=.ok (.fz (LS .int (lgs (pn g) l))):=by unfold MC;cases g.sg<;>rfl
theorem zjX_:(D.fz (MC g l)).vw=.fz (MC g l):=by unfold MC;cases g.sg<;>rfl
theorem mc_vw':(MC g l).vw=.fz (MC g l):=by unfold MC;cases g.sg<;>rfl
theorem np_le (g:Go):np g<=37:=by unfold np;cases g.sg<;>simp
theorem zhP_ (hg:OkG g)(hc:∀c∈l,CD c)(hl:l.length<=1000):zx_.val [.fz (MC g l)]=.ok (LS .str l):=by
 refine zbw_ rfl rfl λq hp=>?_
 unfold zai_;have v1:(D.fz (LL (pks (pn g) (np g) l))).vw=.fz (LL (pks (pn g) (np g) l)):=rfl
 exists hp,zjX_,mc_p,mc_l,v1,zlP_ (f:=pn g) (n:=np g) (l:=l) (λc h=>zky_ hg (hc c h)) hl (by have:=np_le g;lia)
 fail "q"
theorem mmeth {env:VI.Env}{fD fP:Fn}{nm:Str}{y:X}{r:D}(hy:y.ev gi env=.ok (.fz (MC g l)))(hn:nm∉(["pockets", "log", "column", "sign"]:List Str))(hD:g.sg=qJ->fD.val [.fz (MC g l)]=.ok r)(hP:∀s,g.sg=qI s->fP.val [.fz (MC g l)]=.ok r):X.ev gi env (.meth [("Dealer",fD),("Picker",fP)] y nm [])=.ok r:=by
 obtain⟨C,ns,xs,e,h⟩:=mc_un (g:=g) (l:=l);rcases h with⟨rfl,hs,rfl⟩|⟨rfl,s,hs,rfl⟩
 ·refine xmeth (f:=("Dealer",fD)) (ds:=[]) hy (by rw[fz_un,e];rfl) rfl (λz=>hn (kg (bs:=[("sign":Str)]) z)) rfl ?_
  rw[zjX_];exact hD hs
 ·refine xmeth (f:=("Picker",fP)) (ds:=[]) hy (by rw[fz_un,e];rfl) rfl hn rfl ?_
  rw[zjX_];exact hP s hs
theorem xk (y:X){env:VI.Env}{f:Fn}{nm:Str}{ys:List X}{ds:List D}{r:D}(hy:y.ev gi env=.ok (.fz (KO m P k M h)))(hn:nm∉(Qn0:List Str))(ha:X.evs gi env ys=.ok ds)(hf:f.val (.fz (KO m P k M h)::ds.map .vw)=.ok r):X.ev gi env (.meth [("Clerk",f)] y nm ys)=.ok r:=
 xmeth (f:=("Clerk",f)) hy rfl rfl hn ha hf
theorem zkV_ (hn:n∈m.map (·.1)):zO_.val [.fz (KO m P k .non h),.str n]=.ok (LS .str (gt n m)):=by
 refine zbw_ rfl rfl λpn hp=>?_
 unfold z4_;have e1:=xk (.v 0) (env:=[qI (.fz (KO m P k .non h)),qI (.str n)]) (nm:="check_name") (ys:=[.v 1]) (ds:=[.str n]) rfl (by decide) rfl (zi8_ (P:=P) (k:=k) (M:=.non) (h:=h) hn)
 have e2:isD qK .non .non=.ok (.bl qL):=rfl
 exists hp,e1,zeJ_,ko_n,e2,ko_t,zdv_ hn
 fail "q"
theorem zkW_ (hk:P[k]?=qI g)(hn:g.nm∈m.map (·.1))(hg:OkG g)(hc:∀c∈l,CD c)(hl:l.length+h.length<=1000):zO_.val [.fz (KO m P k (MC g l) h),.str g.nm]=.ok (LS .str (l++h)):=by
 refine zbw_ rfl rfl λpn hp=>?_
 unfold z4_;have e1:=xk (.v 0) (env:=[qI (.fz (KO m P k (MC g l) h)),qI (.str g.nm)]) (nm:="check_name") (ys:=[.v 1]) (ds:=[.str g.nm]) rfl (by decide) rfl (zi8_ (P:=P) (k:=k) (M:=MC g l) (h:=h) hn)
 have e2:isD qK (.fz (MC g l)) .non=.ok (.bl qK):=by unfold MC;cases g.sg<;>rfl
 have il:isD qK (MC g l) .non=.ok (.bl qK):=e2;have e3:=xk (.v 0) (env:=[qI (.fz (KO m P k (MC g l) h)),qI (.str g.nm)]) (nm:="going_name") (ys:=[]) (ds:=[]) rfl (by decide) rfl (zjg_ (m:=m) (M:=MC g l) (h:=h) hk)
 have e4:=mmeth (env:=[qI (.fz (KO m P k (MC g l) h)),qI (.str g.nm)]) (y:=.fld (.v 0) "machine") (nm:="back") (fD:=zx_) (fP:=zx_) (by exists zeJ_,ko_m) (by decide) (λ_=>zhP_ hg hc (by lia)) (λ_ _=>zhP_ hg hc (by lia))
 exists hp,e1,zeJ_,ko_m,e2,il,e3,decide_true,e4,ko_h,zg0_ (g:=.str) (a:=l) (b:=h) (by lia)
 fail "q"
end
theorem zfr_:∀(l:Cds),eqT 12 (LS .str l) (LS .str l)=qI qK:=λl=>by
 show(if(l.map D.str).length=(l.map D.str).length then allT (eqT 11) (l.map D.str) (l.map D.str)else qI qL)=_
 rw[if_pos rfl];induction l with
 |nil=>rfl
 |cons c l ih=>
  rw[iN,allT,ih,zdB_];simp
theorem zhY_ {K:D}{n:List Nat}{d:Cds}{m:TT}{P:List Go}{k:Nat}{M:D}{h:Cds}(hK:K=.fz (KO m P k M h))(hd:zO_.val [K,.str n]=.ok (LS .str d))(hl:d.length<1000):zL_.val [K,.str n,.fz (LS .str d)]=.ok (.bl qK):=by
 subst hK;refine zbw_ rfl rfl λpn hp=>?_
 unfold zbB_;show En (S.runs gi pn _ [qI (.fz (KO m P k M h)),qI (.str n),qI (.fz (LS .str d)),qJ,qJ]) _
 have e1:=xk (.v 0) (env:=[qI (.fz (KO m P k M h)),qI (.str n),qI (.fz (LS .str d)),qJ,qJ]) (nm:="deck_of") (ys:=[.v 1]) (ds:=[.str n]) rfl (by decide) rfl hd
 rw[zaw_ (d:=LS .str d) (by rw[zeu_,e1];exact zs_ _ zaT_) (hp _)]
 show En (S.runs gi pn _ [qI (.fz (KO m P k M h)),qI (.str n),qI (.fz (LS .str d)),qI (LS .str d),qJ]) _
 have e2:isaD "list" (LS .str d)=.ok (.bl qK):=rfl;have e3:eqD qK (LS .str d) (LS .str d)=.ok (.bl qL):=by unfold eqD;rw[zfr_];rfl
 rw[rn_s (e1:=[qI (.fz (KO m P k M h)),qI (.str n),qI (.fz (LS .str d)),qI (LS .str d),qJ]) (by exists hp,e2,e3;rfl)]
 have e4:En (S.runs gi (pnV [4]) [.for_ .any [(.v 3)] ⟨qL,[4]⟩ [.if_ (.not (.isa (.v 4) "str")) [.ret (.pu (.k (.bl qL)))] []]] [qI (.fz (KO m P k M h)),qI (.str n),qI (.fz (LS .str d)),qI (.fz (LS .str d)),qJ]) λo e=>o=.nx/\∃o,e=[qI (.fz (KO m P k M h)),qI (.str n),qI (.fz (LS .str d)),qI (.fz (LS .str d)),o]:=by
  refine za2_ (l:=d) (enc:=λc=>[.str c]) (d:=.fz (LS .str d)) (λ_ e=>∃o,e=[qI (.fz (KO m P k M h)),qI (.str n),qI (.fz (LS .str d)),qI (.fz (LS .str d)),o]) (by exists zag_,zbC_) rfl (zaK_ _ _) ⟨qJ,rfl⟩ (λd' c r e hl he=>?_) λe he=>?_
  ·obtain⟨o,rfl⟩:=he
   refine⟨[qI (.fz (KO m P k M h)),qI (.str n),qI (.fz (LS .str d)),qI (.fz (LS .str d)),qI (.str c)],rfl,?_⟩;have:isaD "str" (.str c)=.ok (.bl qK):=rfl
   exists this
   exact⟨_,_,rfl,.inl ⟨.inl rfl,_,rfl⟩⟩
  ·exact⟨_,_,rfl,rfl,he⟩
 obtain⟨o,e,h1,rfl,o',rfl⟩:=e4;have e5:S.run gi pn (.view [4] (.for_ .any [(.v 3)] ⟨qL,[4]⟩ [.if_ (.not (.isa (.v 4) "str")) [.ret (.pu (.k (.bl qL)))] []])) [qI (.fz (KO m P k M h)),qI (.str n),qI (.fz (LS .str d)),qI (LS .str d),qJ]=.ok .nx [qI (.fz (KO m P k M h)),qI (.str n),qI (.fz (LS .str d)),qI (LS .str d),qJ]:=by
  rw[S.run];have e6:S.run gi (pnV [4]) (.for_ .any [(.v 3)] ⟨qL,[4]⟩ [.if_ (.not (.isa (.v 4) "str")) [.ret (.pu (.k (.bl qL)))] []]) [qI (.fz (KO m P k M h)),qI (.str n),qI (.fz (LS .str d)),qI (.fz (LS .str d)),qJ]=.ok .nx [qI (.fz (KO m P k M h)),qI (.str n),qI (.fz (LS .str d)),qI (.fz (LS .str d)),o']:=by
   rw[S.runs]at h1;cases z:S.run gi (pnV [4]) (.for_ .any [(.v 3)] ⟨qL,[4]⟩ [.if_ (.not (.isa (.v 4) "str")) [.ret (.pu (.k (.bl qL)))] []]) [qI (.fz (KO m P k M h)),qI (.str n),qI (.fz (LS .str d)),qI (.fz (LS .str d)),qJ]with
   |ok o e=>
    rw[z]at h1;cases o with
    |nx=>rw[zge_,S.runs]at h1;exact h1
    |_=>cases h1
   |ex c e=>rw[z]at h1;cases h1
   |no=>rw[z]at h1;cases h1
  show viewM [4] _ (S.run gi (pnV [4]) _ [qI (.fz (KO m P k M h)),qI (.str n),qI (.fz (LS .str d)),qI (.fz (LS .str d)),qJ])=_
  rw[e6];rfl
 rw[rn_s e5];rw[rn_e (zdw_ (o:=.append) (q:=(3,[])) (c:=LS .str d) (ds:=[.str []]) rfl rfl rfl (ag1 rfl) (zdP_ (g:=.str) (by lia)))]
 exists hp
 fail "q"
theorem zfR_ {G:Gi}{ds:List D}{n m:Nat}{body:List S}{d:D}{e:VI.Env}(hl:ds.length=n)(h:S.runs G (pins ds) body (ds.map qI++iT m qJ)=.ok (.rt d) e):fnOf G n m body ds=.ok d (outs ds e):=by
 unfold fnOf;rw[if_pos hl,h]
section
variable {m:TT}{P:List Go}{k:Nat}{h:Cds}{n:List Nat}{g:Go}{l:Cds}{c:List Nat}
theorem pop0 {c:List Nat}{h:Cds}:popAtF [LS .str (c::h),.int 0]=.ok (.str c) [LS .str h,.int 0]:=by
 show(if -(2 ^ 63)<=(0:Int)/\(0:Int)<2 ^ 63 then(match ixN (((c::h).map D.str)).length 0 with |some j=>(match((c::h).map D.str)[j]? with |some d=>Mr.ok d [D.nd .lst (((c::h).map D.str).eraseIdx j),D.int 0]|none=>.no)|none=>.no)else .no)=_
 have:ixN ((c::h).map D.str).length 0=qI 0:=by unfold ixN;rw[if_pos (by lia),gf];exact if_pos (by rw[iR];lia)
 rw[if_pos (by decide),this];rfl
theorem zkM_ (hg:OkG g)(hc:CD c)(hl:l.length<1000){env:VI.Env}{p:Pt}{q:Pl}{x:X}(hp:Pt.ev gi env p=.ok q)(hq:atE env q=qI (MC g l))(hx:keep (x.ev gi env) env x.uses=.ok (.str c) env):Y.ev gi (.meth [("Dealer",zS_),("Picker",zT_)] p "feed" [(.x x)]) env=.ok .non (putE env q (MC g (l++[c]))):=by
 obtain⟨C,ns,xs,e,h⟩:=mc_un (g:=g) (l:=l);rw[e]at hq;rcases h with⟨rfl,hs,rfl⟩|⟨rfl,s,hs,rfl⟩
 ·exact zlh_ (f:=("Dealer",zS_)) hp hq rfl (by decide) (ag1 hx) (by rw[<- e];exact ziz_ hg hs hc hl)
 ·exact zlh_ (f:=("Picker",zT_)) hp hq rfl (by decide) (ag1 hx) (by rw[<- e];exact ziN_ hg hs hc hl)
theorem zn7_ (hg:OkG g)(hc:CD c)(hl:l.length<1000):zC_ [KO m P k (MC g l) (c::h)]=.ok .non [KO m P k (MC g (l++[c])) h]:=by
 have run:∀q,S.runs gi q zz_ ([KO m P k (MC g l) (c::h)].map qI++iT 1 qJ)=.ok .nx [qI (KO m P k (MC g (l++[c])) h),qJ]:=λq=>by
  unfold zz_;rw[iN,jM,jJ,jR,jN,j7];have ex:ixA (LS .str (c::h)) (.int 0)=.ok (.str c):=by rw[zeM_,VI.atI_nn (by lia) (a:=c) rfl];rfl
  have e1:=zkM_ (env:=[qI (KO m P k (MC g l) (c::h)),qJ]) (p:=.f (.v 0) "machine") (q:=(0,[3])) (x:=.i (.fld (.v 0) "hopper") 0) hg hc hl rfl rfl (by exists za6_,ko_h,ex)
  have e2:S.run gi q (.try0 [.ex (.meth [("Dealer",zS_),("Picker",zT_)] (.f (.v 0) "machine") "feed" [(.x (.i (.fld (.v 0) "hopper") 0))])] []) [qI (KO m P k (MC g l) (c::h)),qJ]=.ok .nx [qI (KO m P k (MC g (l++[c])) (c::h)),qJ]:=by
   rw[S.run,rn_e e1,S.runs];rfl
  rw[rn_s e2,rn_e (zdw_ (o:=.popAt) (q:=(0,[4])) (c:=LS .str (c::h)) (ds:=[.int 0]) rfl rfl rfl (ag1 rfl) pop0)];rfl
 exact zc4_ (G:=gi) (n:=1) (m:=1) (body:=zz_) (ds:=[KO m P k (MC g l) (c::h)]) rfl (run _)
noncomputable def DS:List Nat:=[45]
def stay (g:Go)(l:Cds):Cds:=match g.sg with
 |none=>(pks (pn g) 37 l).flatten
 |some _=>l.filter λc=>pn g c == 0
def asid (g:Go)(l:Cds):Cds:=match g.sg with
 |none=>[]
 |some _=>l.filter λc=>pn g c == 1
def en (g:Go)(l:Cds)(m:TT):TT:=up DS (gt DS (up g.nm (stay g l) m)++asid g l) (up g.nm (stay g l) m)
theorem sty_D (hs:g.sg=qJ)(hl:(stay g l).length<=1000):z5_.val [.fz (MC g l)]=.ok (LS .str (stay g l)):=by
 have es:stay g l=(pks (pn g) (np g) l).flatten:=by unfold stay np;rw[hs]
 rw[es]at hl ⊢;refine zbw_ rfl rfl λq hp=>?_
 unfold zav_;have v1:(D.fz (LL (pks (pn g) (np g) l))).vw=.fz (LL (pks (pn g) (np g) l)):=rfl
 exists hp,zjX_,mc_p,v1,show zbz_.val [.fz (LL (pks (pn g) (np g) l))]=_ from zfg_ (F:=LS .str) (λ_=>rfl) hl
 fail "q"
theorem sty_P {s:Nat}(hs:g.sg=qI s):zV_.val [.fz (MC g l)]=.ok (LS .str (stay g l)):=by
 have es:stay g l=l.filter λc=>pn g c == 0:=by unfold stay;rw[hs]
 have en:np g=2:=by unfold np;rw[hs]
 have e0:ixA (LL (pks (pn g) (np g) l)) (.int 0)=.ok (.fz (LS .str (stay g l))):=by
  rw[es];exact ll_ix (n:=0) (zet_ l (by lia))
 refine zbw_ rfl rfl λq hp=>?_
 unfold zal_;have v1:(D.fz (LL (pks (pn g) (np g) l))).vw=.fz (LL (pks (pn g) (np g) l)):=rfl
 exists hp,zjX_,mc_p,v1,e0
 fail "q"
theorem asd_D (hs:g.sg=qJ):zH_.val [.fz (MC g l)]=.ok (LS .str (asid g l)):=by
 have es:asid g l=[]:=by unfold asid;rw[hs]
 rw[es];refine zbw_ rfl rfl λq hp=>?_
 unfold zX_;have:D.nd .lst []=LS .str []:=rfl
 exists hp,this
 fail "q"
theorem asd_P {s:Nat}(hs:g.sg=qI s)(hl:(asid g l).length<=1000):zw_.val [.fz (MC g l)]=.ok (LS .str (asid g l)):=by
 have es:asid g l=l.filter λc=>pn g c == 1:=by unfold asid;rw[hs]
 have en:np g=2:=by unfold np;rw[hs]
 have e0:slA (LL (pks (pn g) (np g) l)) (qI 1) qJ=.ok (.nd .lst [.fz (LS .str (asid g l))]):=by
  rw[es,en];rfl
 have e1:zbz_.val [.fz (.nd .lst [.fz (LS .str (asid g l))])]=.ok (LS .str (asid g l)):=by
  have:=zfg_ (F:=λp=>.fz (LS .str p)) (λ_=>zag_) (ps:=[asid g l]) (by simp;lia)
  rw[show[asid g l].flatten=asid g l by simp]at this
  exact this
 refine zbw_ rfl rfl λq hp=>?_
 unfold zQ_;have v1:(D.nd .lst [D.fz (LS .str (asid g l))]).vw=.fz (.nd .lst [D.fz (LS .str (asid g l))]):=rfl
 exists hp,zjX_,mc_p,e0,v1,e1
 fail "q"
variable {M:D}
theorem zcV_ (hm:m.length<1000)(hn:n∈m.map (·.1)){d:Cds}:(up n d m).length<1000:=by rw[zf9_ hn,jO];exact hm
theorem zm6_ (hn:n∈m.map (·.1)):(TD m).at [ix n m]=qI (LS .str (gt n m)):=by
 show(bif (qK:Bool)then(m.map λq:List Nat×Cds=>LS D.str q.2)[ix n m]?.bind λd=>d.at []else qJ)=_
 rw[iS,zi5_ hn];show D.at _ []=_
 rw[D.at]
theorem zjq_ {x:D}(hn:n∈m.map (·.1)):(TD m).put [ix n m] x=.nd (.dct (m.map λq:List Nat×Cds=>kN_t q.1)) ((m.map λq:List Nat×Cds=>LS D.str q.2).set (ix n m) x):=by
 show(match(m.map λq:List Nat×Cds=>LS D.str q.2)[ix n m]? with |some d=>D.nd (.dct (m.map λq:List Nat×Cds=>kN_t q.1)) ((m.map λq:List Nat×Cds=>LS D.str q.2).set (ix n m) (d.put [] x))|none=>_)=_
 rw[iS,zi5_ hn];show D.nd _ (List.set _ _ (D.put _ [] x))=_
 rw[D.put]
theorem zoi_ (hk:P[k]?=qI g)(hn:g.nm∈m.map (·.1))(hm:m.length<1000)(h0:Cds):zU_ [KO m P k .non h0]=.ok .non [KO (up g.nm [] m) P k (MC g []) (gt g.nm m)]:=by
 have run:∀q,q 1=qL->S.runs gi q zo_ ([KO m P k .non h0].map qI++iT 1 qJ)=.ok .nx [qI (KO (up g.nm [] m) P k (MC g []) (gt g.nm m)),qI (.str g.nm)]:=λq hq=>by
  unfold zo_;rw[iN,jM,jJ,jR,jN,j7];have e1:=xk (.v 0) (env:=[qI (KO m P k .non h0),qJ]) (nm:="going_name") (ys:=[]) (ds:=[]) rfl (by decide) rfl (zjg_ (m:=m) (M:=.non) (h:=h0) hk)
  rw[zaw_ (d:=.str g.nm) (by rw[zeu_,e1];exact zs_ _ (zdL_ _)) hq]
  show S.runs gi q _ [qI (KO m P k .non h0),qI (.str g.nm)]=_
  have e2:=xk (.v 0) (env:=[qI (KO m P k .non h0),qI (.str g.nm)]) (nm:="check_name") (ys:=[.v 1]) (ds:=[.str g.nm]) rfl (by decide) rfl (zi8_ (P:=P) (k:=k) (M:=.non) (h:=h0) hn)
  rw[rn_e (e1:=[qI (KO m P k .non h0),qI (.str g.nm)]) (d:=.non) (by rw[zeu_,e2];exact zs_ _ zha_)]
  have e3:X.ev gi [qI (KO m P k .non h0),qI (.str g.nm)] (.call zaI_ "machine_of" [(.bin .ix (.fld (.v 0) "plan") (.fld (.v 0) "done")),(.fld (.v 0) "trays")])=.ok (MC g []):=by
   exists za6_,ko_p,ko_d,pl_ix hk,ko_t,zc5_,mk_eq (g:=g) m
  rw[rn_s (by rw[S.run];exact zgp_ (q:=(0,[])) (d:=MC g []) (by rw[e3];exact zs_ _ (zjf_ _ _)) rfl rfl (by decide) rfl)]
  show S.runs gi q _ [qI (KO m P k (MC g []) h0),qI (.str g.nm)]=_
  have p1:Pt.ev gi [qI (KO m P k (MC g []) h0),qI (.str g.nm)] (.s (.f (.v 0) "trays") (.v 1))=.ok (0,[0,ix g.nm m]):=pt_s (q:=(0,[0])) (d:=.str g.nm) (c:=TD m) rfl rfl rfl (zd2_ hn);have p2:putE [qI (KO m P k (MC g []) h0),qI (.str g.nm)] (0,[0,ix g.nm m]) .gone=[qI (.nd (.obj "Clerk" Qn0) [.nd (.dct (m.map λq:List Nat×Cds=>kN_t q.1)) ((m.map λq:List Nat×Cds=>LS D.str q.2).set (ix g.nm m) .gone),LS GO P,.int k,MC g [],LS .str h0,LS .str []]),qI (.str g.nm)]:=by
   have:=zjq_ (x:=.gone) hn;show[qI (D.nd (.obj "Clerk" Qn0) [(TD m).put [ix g.nm m] .gone,LS GO P,.int k,MC g [],LS .str h0,LS .str []]),qI (.str g.nm)]=_
   rw[this]
  rw[rn_s (by rw[S.run];exact sm_at (q':=(0,[0,ix g.nm m])) (q:=(0,[])) (d:=LS .str (gt g.nm m)) p1 (zm6_ hn) p2 rfl rfl (by decide) rfl)]
  show S.runs gi q _ [qI (.nd (.obj "Clerk" Qn0) [.nd (.dct (m.map λq:List Nat×Cds=>kN_t q.1)) ((m.map λq:List Nat×Cds=>LS D.str q.2).set (ix g.nm m) .gone),LS GO P,.int k,MC g [],LS .str (gt g.nm m),LS .str []]),qI (.str g.nm)]=_
  have e4:setIF [.nd .lst [],.nd (.dct (m.map λq:List Nat×Cds=>kN_t q.1)) ((m.map λq:List Nat×Cds=>LS D.str q.2).set (ix g.nm m) .gone),.str g.nm]=.ok .non [.gone,TD (up g.nm [] m),.str g.nm]:=by
   have hs:m.length<iZ:=by have:=zaB_ (n:=m.length+1) (by lia);lia
   show(if kIx (m.map λq:List Nat×Cds=>kN_t q.1) (kN_t g.nm)<(m.map λq:List Nat×Cds=>kN_t q.1).length/\((m.map λq:List Nat×Cds=>LS D.str q.2).set (ix g.nm m) .gone).length<iZ then Mr.ok D.non [.gone,D.nd (.dct (m.map λq:List Nat×Cds=>kN_t q.1)) (((m.map λq:List Nat×Cds=>LS D.str q.2).set (ix g.nm m) .gone).set (kIx (m.map λq:List Nat×Cds=>kN_t q.1) (kN_t g.nm)) (LS .str [])),.str g.nm]else _)=_
   rw[kix,gf,jO,gf,if_pos ⟨zf8_.mpr hn,hs⟩,lO,zm5_ hn]
  rw[rn_s (by rw[S.run];exact zeo_ (q:=(0,[0])) (a:=.str g.nm) (d:=.nd .lst []) rfl rfl rfl rfl e4)]
  rfl
 exact zc4_ (G:=gi) (n:=1) (m:=1) (body:=zo_) (ds:=[KO m P k .non h0]) rfl (run _ rfl)
theorem zmL_:zk_.val [.fz (MC g l)]=.ok .non:=by
 refine zbw_ rfl rfl λq hp=>?_
 unfold zW_
 exists hp
 fail "q"
theorem zl6_:ze_.val [.fz (MC g l)]=.ok (LS .str []):=by
 refine zbw_ rfl rfl λq hp=>?_
 unfold zI_;have:D.nd .lst []=LS .str []:=rfl
 exists hp,this
 fail "q"
theorem zn2_ (hk:P[k]?=qI g)(hn:g.nm∈m.map (·.1))(hd:DS∈m.map (·.1))(hm:m.length<1000)(h0:Cds)(hl:(gt DS (up g.nm (stay g l) m)).length+(asid g l).length<=1000)(bY:(stay g l).length<=1000):zE_ [KO m P k (MC g l) h0]=.ok .non [KO (en g l m) P (k+1) .non h0]:=by
 have run:∀q,S.runs gi q zD_ ([KO m P k (MC g l) h0].map qI++iT 0 qJ)=.ok .nx [qI (KO (en g l m) P (k+1) .non h0)]:=λq=>by
  unfold zD_;rw[iN,jM,jR,jz];have e1:=mmeth (g:=g) (l:=l) (env:=[qI (KO m P k (MC g l) h0)]) (y:=.fld (.v 0) "machine") (nm:="finish") (fD:=zk_) (fP:=zk_) (by exists za6_,ko_m) (by decide) (λ_=>zmL_) (λ_ _=>zmL_)
  rw[rn_e (e1:=[qI (KO m P k (MC g l) h0)]) (d:=.non) (by rw[zeu_,e1];exact zs_ _ zha_)]
  have e2:=mmeth (g:=g) (l:=l) (env:=[qI (KO m P k (MC g l) h0)]) (y:=.fld (.v 0) "machine") (nm:="stayed") (fD:=z5_) (fP:=zV_) (by exists za6_,ko_m) (by decide) (λhs=>sty_D hs bY) (λ_ hs=>sty_P hs)
  have e3:=xk (.v 0) (env:=[qI (KO m P k (MC g l) h0)]) (nm:="going_name") (ys:=[]) (ds:=[]) rfl (by decide) rfl (zjg_ (m:=m) (M:=MC g l) (h:=h0) hk)
  rw[rn_s (by rw[S.run];exact zeo_ (q:=(0,[0])) (d:=LS .str (stay g l)) (a:=.str g.nm) (by rw[e2];exact zs_ _ zaT_) rfl (by rw[e3];exact zs_ _ (zdL_ _)) (c:=TD m) rfl (zdE_ hm))]
  show S.runs gi q _ [qI (KO (up g.nm (stay g l) m) P k (MC g l) h0)]=_
  have a6:DS∈(up g.nm (stay g l) m).map (·.1):=zab_ hd;have e4:=mmeth (g:=g) (l:=l) (env:=[qI (KO (up g.nm (stay g l) m) P k (MC g l) h0)]) (y:=.fld (.v 0) "machine") (nm:="laid_aside") (fD:=zH_) (fP:=zw_) (by exists za6_,ko_m) (by decide) (λhs=>asd_D hs) (λ_ hs=>asd_P hs (by lia))
  have p1:Pt.ev gi [qI (KO (up g.nm (stay g l) m) P k (MC g l) h0)] (.s (.f (.v 0) "trays") (.g "ASIDE" (.str [45])))=.ok (0,[0,ix DS (up g.nm (stay g l) m)]):=pt_s (q:=(0,[0])) (d:=.str DS) (c:=TD (up g.nm (stay g l) m)) rfl rfl rfl (zd2_ a6);rw[rn_e (zdw_ (o:=.extend) (ds:=[LS .str (asid g l)]) p1 (zm6_ a6) rfl (ag1 (by rw[e4];exact zs_ _ zaT_)) (zj0_ (g:=.str) (by lia)))]
  have p2:putE [qI (KO (up g.nm (stay g l) m) P k (MC g l) h0)] (0,[0,ix DS (up g.nm (stay g l) m)]) (LS .str (gt DS (up g.nm (stay g l) m)++asid g l))=[qI (KO (en g l m) P k (MC g l) h0)]:=by
   have:=zjq_ (x:=LS .str (gt DS (up g.nm (stay g l) m)++asid g l)) a6;show[qI (D.nd (.obj "Clerk" Qn0) [(TD (up g.nm (stay g l) m)).put [ix DS (up g.nm (stay g l) m)] _,LS GO P,.int k,MC g l,LS .str h0,LS .str []])]=_
   rw[this,zm5_ a6];rfl
  rw[p2];have e5:=mmeth (g:=g) (l:=l) (env:=[qI (KO (en g l m) P k (MC g l) h0)]) (y:=.fld (.v 0) "machine") (nm:="lines_out") (fD:=ze_) (fP:=ze_) (by exists za6_,ko_m) (by decide) (λ_=>zl6_) (λ_ _=>zl6_)
  rw[rn_e (zdw_ (o:=.extend) (q:=(0,[5])) (c:=LS .str []) (ds:=[LS .str []]) rfl rfl rfl (ag1 (by rw[e5];exact zs_ _ zaT_)) (zj0_ (g:=.str) (a:=[]) (b:=[]) (by simp)))]
  show S.runs gi q _ [qI (KO (en g l m) P k (MC g l) h0)]=_
  rw[rn_s (by rw[S.run];exact zgp_ (q:=(0,[])) (d:=.non) rfl rfl rfl (by decide) rfl)]
  show S.runs gi q _ [qI (KO (en g l m) P k .non h0)]=_
  rw[rn_s (by rw[S.run];exact zgp_ (q:=(0,[])) (d:=.int ((k:Int)+1)) rfl rfl rfl (by decide) rfl)]
  rfl
 exact zc4_ (G:=gi) (n:=1) (m:=0) (body:=zD_) (ds:=[KO m P k (MC g l) h0]) rfl (run _)
theorem ym {env:VI.Env}{i:Nat}{f:Fn}{nm:Str}{r:D}{K':D}(hi:atE env (i,[])=qI (KO m P k M h))(hn:nm∉(Qn0:List Str))(hf:f [KO m P k M h]=.ok r [K']):Y.ev gi (.meth [("Clerk",f)] (.v i) nm []) env=.ok r (putE env (i,[]) K'):=
 zlh_ (q:=(i,[])) (f:=("Clerk",f)) (ds:=[]) (ds':=[]) (by rw[Pt.ev,hi];rfl) hi rfl hn rfl hf
theorem mc_is:isD qK (MC g l) .non=.ok (.bl qK):=by unfold MC;cases g.sg<;>rfl
theorem zpM_ (hk:P[k]?=qI g)(hn:g.nm∈m.map (·.1))(hm:m.length<1000):zg_ [KO m P k .non []]=.ok (.bl qK) [KO (up g.nm [] m) P k (MC g []) (gt g.nm m)]:=by
 have iI:k<P.length:=(i6.mp hk).1;have run:∀q,S.runs gi q zf_ ([KO m P k .non []].map qI++iT 0 qJ)=.ok (.rt (.bl qK)) [qI (KO (up g.nm [] m) P k (MC g []) (gt g.nm m))]:=λq=>by
  unfold zf_;rw[iN,jM,jR,jz];have e2:isD qK .non .non=.ok (.bl qL):=rfl;have e3:decide ((k:Int)=(P.length:Int))=qL:=decide_eq_false (by lia)
  rw[rn_s (e1:=[qI (KO m P k .non [])]) (by exists za6_,ko_n,e2),rn_s (e1:=[qI (KO m P k .non [])]) (by exists za6_,ko_d,ko_p,e3),rn_e (ym rfl (by decide) (zoi_ hk hn hm []))]
  rfl
 exact zfR_ (G:=gi) (n:=1) (m:=0) (body:=zf_) (ds:=[KO m P k .non []]) rfl (run _)
theorem zoo_ (hk:k=P.length):zg_ [KO m P k .non []]=.ok (.bl qL) [KO m P k .non []]:=by
 have run:∀q,S.runs gi q zf_ ([KO m P k .non []].map qI++iT 0 qJ)=.ok (.rt (.bl qL)) [qI (KO m P k .non [])]:=λq=>by
  unfold zf_;rw[iN,jM,jR,jz];have e2:isD qK .non .non=.ok (.bl qL):=rfl;have e3:decide ((k:Int)=(P.length:Int))=qK:=decide_eq_true (by lia)
  rw[rn_s (e1:=[qI (KO m P k .non [])]) (by exists za6_,ko_n,e2)]
  exists za6_,ko_d,ko_p,e3
 exact zfR_ (G:=gi) (n:=1) (m:=0) (body:=zf_) (ds:=[KO m P k .non []]) rfl (run _)
theorem znv_ (hg:OkG g)(hc:CD c)(hl:l.length<1000):zg_ [KO m P k (MC g l) (c::h)]=.ok (.bl qK) [KO m P k (MC g (l++[c])) h]:=by
 have run:∀q,S.runs gi q zf_ ([KO m P k (MC g l) (c::h)].map qI++iT 0 qJ)=.ok (.rt (.bl qK)) [qI (KO m P k (MC g (l++[c])) h)]:=λq=>by
  unfold zf_;rw[iN,jM,jR,jz];have fm:(X.ev gi [qI (KO m P k (MC g l) (c::h))] (.fld (.v 0) "hopper")).bind trD=.ok qK:=rfl;have e4:=rn_e (pn:=q) (ss:=[]) (ym (env:=[qI (KO m P k (MC g l) (c::h))]) (i:=0) (nm:="feed_next") rfl (by decide) (zn7_ (m:=m) (P:=P) (k:=k) (h:=h) hg hc hl))
  have e5:S.runs gi q [.ifL (.fld (.v 0) "hopper") [.ex (.meth [("Clerk",zC_)] (.v 0) "feed_next" [])] [.ex (.meth [("Clerk",zE_)] (.v 0) "end_going" [])],.ret (.pu (.k (.bl qK)))] [qI (KO m P k (MC g l) (c::h))]=.ok (.rt (.bl qK)) [qI (KO m P k (MC g (l++[c])) h)]:=by
   rw[rn_s (e1:=[qI (KO m P k (MC g (l++[c])) h)]) (by
    rw[S.run,e4,S.runs,fm,ziI_];rfl)]
   rfl
  rw[S.runs,S.run,e5]
  exists za6_,ko_m,mc_is
 exact zfR_ (G:=gi) (n:=1) (m:=0) (body:=zf_) (ds:=[KO m P k (MC g l) (c::h)]) rfl (run _)
theorem znl_ (hk:P[k]?=qI g)(hn:g.nm∈m.map (·.1))(hd:DS∈m.map (·.1))(hm:m.length<1000)(hl:(gt DS (up g.nm (stay g l) m)).length+(asid g l).length<=1000)(bY:(stay g l).length<=1000):zg_ [KO m P k (MC g l) []]=.ok (.bl qK) [KO (en g l m) P (k+1) .non []]:=by
 have run:∀q,S.runs gi q zf_ ([KO m P k (MC g l) []].map qI++iT 0 qJ)=.ok (.rt (.bl qK)) [qI (KO (en g l m) P (k+1) .non [])]:=λq=>by
  unfold zf_;rw[iN,jM,jR,jz];have fm:(X.ev gi [qI (KO m P k (MC g l) [])] (.fld (.v 0) "hopper")).bind trD=.ok qL:=rfl;have e4:=rn_e (pn:=q) (ss:=[]) (ym (env:=[qI (KO m P k (MC g l) [])]) (i:=0) (nm:="end_going") rfl (by decide) (zn2_ hk hn hd hm [] hl bY))
  have e5:S.runs gi q [.ifL (.fld (.v 0) "hopper") [.ex (.meth [("Clerk",zC_)] (.v 0) "feed_next" [])] [.ex (.meth [("Clerk",zE_)] (.v 0) "end_going" [])],.ret (.pu (.k (.bl qK)))] [qI (KO m P k (MC g l) [])]=.ok (.rt (.bl qK)) [qI (KO (en g l m) P (k+1) .non [])]:=by
   rw[rn_s (e1:=[qI (KO (en g l m) P (k+1) .non [])]) (by
    rw[S.run,e4,S.runs,fm,zjc_];rfl)]
   rfl
  rw[S.runs,S.run,e5]
  exists za6_,ko_m,mc_is
 exact zfR_ (G:=gi) (n:=1) (m:=0) (body:=zf_) (ds:=[KO m P k (MC g l) []]) rfl (run _)
end
theorem zeR_ {β:Type}{q:Nat->Bool}{env e1:VI.Env}{l:List β}{enc:β->List D}{k:Dk}{x:X}{d:D}{ks:List Key}{ds:List D}{tg:Tg}{b ss:List S}{Q:Fl->VI.Env->Prop}(P:List β->VI.Env->Prop)(hg:keep (x.ev gi env) env x.uses=.ok d e1)(hu:d.un=.nd (.dct ks) ds)(ht:tgsD tg (k.its ks ds)=qI (l.map enc))(h0:P [] e1)
  (hs:∀d x r e,l=d++x::r->P d e->∃e',setG q e tg.is (enc x)=qI e'/\En (S.runs gi q b e') λo aL=>((o=.nx\/o=.ct)/\P (d++[x]) aL)\/((∃v,o=.rt v)/\Q o aL))
  (hk:∀e,P l e->En (S.runs gi q ss e) Q):En (S.runs gi q (.forJ k x tg b::ss) env) Q:=by
 rw[S.runs,S.run,zga_,hg];unfold forJM;rw[zbW_,hu];show En (seqM (match tgsD tg (k.its ks ds)with |some xs=>_ |none=>_) _) Q
 rw[ht];have:=zkL_ (pn:=q) (env:=e1) (is:=tg.is) (body:=λe=>S.runs gi q b e) (k:=λe=>S.runs gi q ss e) P h0 hs hk
 dsimp only at this ⊢
 generalize forM _ _ _=r at this ⊢
 cases r with
 |ok o e=>exact this
 |ex c e=>obtain⟨o,e,h,_⟩:=this;cases h
 |no=>exact this
theorem zhv_ {β:Type}{q:Nat->Bool}{env:VI.Env}{l:List β}{enc:β->List D}{k:Dk}{x:X}{d:D}{ks:List Key}{ds:List D}{tg:Tg}{b ss:List S}{Q:Fl->VI.Env->Prop}(P:List β->VI.Env->Prop)(hg:keep (x.ev gi env) env x.uses=.ok d env)(hu:d.un=.nd (.dct ks) ds)(ht:tgsD tg (k.its ks ds)=qI (l.map enc))(h0:P [] env)
  (hs:∀d x r e,l=d++x::r->P d e->∃e',setG q e tg.is (enc x)=qI e'/\En (S.runs gi q b e') λo aL=>((o=.nx\/o=.ct)/\P (d++[x]) aL)\/((∃v,o=.rt v)/\Q o aL))
  (hk:∀e,P l e->En (S.runs gi q ss e) Q):En (S.runs gi q (.forJ k x tg b::ss) env) Q:=zeR_ P hg hu ht h0 hs hk
theorem zkx_ (m:TT):Dk.its .items (m.map λq=>kN_t q.1) (m.map λq=>LS D.str q.2)=m.map λq=>.nd .tup [.str q.1,LS .str q.2]:=by
 show((m.map λq=>kN_t q.1).zip (m.map λq=>LS D.str q.2)).map (λq=>D.nd .tup [kD q.1,q.2])=_
 rw[List.zip_map',j5];rfl
theorem zob_ (m:TT):Dk.its .keys (m.map λq=>kN_t q.1) (m.map λq=>LS D.str q.2)=m.map λq=>.str q.1:=by
 show(m.map λq=>kN_t q.1).map kD=_
 rw[j5];rfl
theorem zhA_:∀(m:TT),keysS (m.map λq=>kN_t q.1)=qI (m.map (·.1))
 |[]=>rfl
 |q::m=>by
  show(keysS (m.map λq=>kN_t q.1)).map (λx=>q.1::x)=_
  rw[zhA_ m];rfl
def sks (m:TT):Cds:=srtL ltS (m.map (·.1))
theorem zhM_ {m:TT}(hm:m.length<64):srtU [TD m]=.ok (LS .str (sks m)):=by
 show(match keysS (m.map λq=>kN_t q.1)with |some ls=>Mo.grd (ls.length<64) (.ok (D.nd .lst ((srtL ltS ls).map .str)))|none=>.no)=_
 rw[zhA_];show Mo.grd _ _=_
 rw[Mo.grd_ok (by rw[gf];exact hm)];rfl
theorem zib_ (d:D):srtU [.fz d]=srtU [d]:=rfl
theorem zpf_ {m:TT}{P:List Go}{k:Nat}{M:D}{h:Cds}(hm:m.length<64):zac_.val [.fz (KO m P k M h)]=.ok (LS .str (sks m)):=by
 refine zbw_ rfl rfl λpn hp=>?_
 unfold zad_
 exists hp,zeJ_,ko_t,zib_,zhM_ hm
 fail "q"
theorem lo_eq {m:TT}{P:List Go}{k:Nat}{M:D}{h:Cds}:zae_.val [.fz (KO m P k M h)]=.ok (LS .str []):=by
 refine zbw_ rfl rfl λpn hp=>?_
 unfold zaf_
 exists hp,zeJ_,ko_l
 fail "q"
theorem gt_of {m:TT}(nd:(m.map (·.1)).Nodup){q:List Nat×Cds}(h:q∈m):gt q.1 m=q.2:=by
 have hm:q.1∈m.map (·.1):=jV.mpr ⟨q,h,rfl⟩;have e:=zcF_ hm;have:∀{m:TT},(m.map (·.1)).Nodup->∀{a b:List Nat×Cds},a∈m->b∈m->a.1=b.1->a=b:=λ{m} nd {a b} ha hb e=>by
  induction m with
  |nil=>cases ha
  |cons c m ih=>
   rw[iN,lJ]at nd;rcases ju.mp ha with za |ha'
   ·rcases ju.mp hb with zb |hb'
    ·rw[za,zb]
    ·subst za;exact absurd (jV.mpr ⟨b,hb',e.symm⟩) nd.1
   ·rcases ju.mp hb with zb |hb'
    ·subst zb;exact absurd (jV.mpr ⟨a,ha',e⟩) nd.1
    ·exact ih nd.2 ha' hb'
 exact congrArg Prod.snd (this nd e h rfl)
theorem zjQ_ {m:TT}{P:List Go}{k:Nat}{h:Cds}(nd:(m.map (·.1)).Nodup)(hm:m.length<64)(hs:sz m<1000):zat_.val [.fz (KO m P k .non h),.fz (TD m)]=.ok (.bl qK):=by
 refine zbw_ rfl rfl λpn hp=>?_
 unfold zaz_;show En (S.runs gi pn _ [qI (.fz (KO m P k .non h)),qI (.fz (TD m)),qJ,qJ,qJ]) _
 have e1:=xk (.v 0) (env:=[qI (.fz (KO m P k .non h)),qI (.fz (TD m)),qJ,qJ,qJ]) (nm:="names_now") (ys:=[]) (ds:=[]) rfl (by decide) rfl (zpf_ (P:=P) (k:=k) (M:=.non) (h:=h) hm)
 rw[zaw_ (d:=LS .str (sks m)) (by rw[zeu_,e1];exact zs_ _ zaT_) (hp _)]
 show En (S.runs gi pn _ [qI (.fz (KO m P k .non h)),qI (.fz (TD m)),qI (LS .str (sks m)),qJ,qJ]) _
 have e2:=xk (.v 0) (env:=[qI (.fz (KO m P k .non h)),qI (.fz (TD m)),qI (LS .str (sks m)),qJ,qJ]) (nm:="lines_out") (ys:=[]) (ds:=[]) rfl (by decide) rfl (lo_eq (m:=m) (P:=P) (k:=k) (M:=.non) (h:=h))
 have e3:isaD "list" (LS .str (sks m))=.ok (.bl qK):=rfl;have e4:∀l:Cds,eqD qK (LS .str l) (LS .str l)=.ok (.bl qL):=λl=>by unfold eqD;rw[zfr_];rfl
 have e5:eqD qK (LS .str []) (.nd .lst [])=.ok (.bl qL):=e4 [];rw[rn_s (e1:=[qI (.fz (KO m P k .non h)),qI (.fz (TD m)),qI (LS .str (sks m)),qJ,qJ]) (by exists hp,e3,zc5_,zib_,zhM_ hm,e4,e2,e5;rfl)]
 rw[rn_e (zdw_ (o:=.clear) (as:=[]) (q:=(2,[])) (c:=LS .str (sks m)) (ds:=[]) (ds':=[]) (c':=LS .str []) (r:=.non) rfl rfl rfl rfl rfl)];show En (S.runs gi pn _ [qI (.fz (KO m P k .non h)),qI (.fz (TD m)),qI (LS .str []),qJ,qJ]) _
 refine zhv_ (l:=m) (enc:=λq=>[.str q.1,LS .str q.2]) (d:=.fz (TD m)) (λ_ e=>∃a b,e=[qI (.fz (KO m P k .non h)),qI (.fz (TD m)),qI (LS .str []),a,b]) (by
  have:(D.fz (TD m)).new=qL:=by rw[D.new];rfl
  show keep (.ok (.fz (TD m))) _ _=_
  rw[zcs_ _ this];rfl) rfl (by rw[zkx_];exact zjO_ _ _ _) ⟨qJ,qJ,rfl⟩ (λd q r e hl he=>?_) λe he=>?_
 ·obtain⟨a,b,rfl⟩:=he
  have hq:q∈m:=by rw[hl];simp
  refine⟨[qI (.fz (KO m P k .non h)),qI (.fz (TD m)),qI (LS .str []),qI (.str q.1),qI (.fz (LS .str q.2))],(by exists hp),?_⟩
  have e6:=zhY_ (n:=q.1) (d:=q.2) rfl (by rw[zkV_ (P:=P) (k:=k) (h:=h) (jV.mpr ⟨q,hq,rfl⟩),gt_of nd hq]) (by have:=ziD_ hq;lia)
  exists hp,zeJ_,e6
  exact⟨_,_,rfl,.inl ⟨.inl rfl,_,_,rfl⟩⟩
 ·obtain⟨a,b,rfl⟩:=he
  exists hp
  fail "q"
theorem zhs_ {f:List Nat->Nat}{n:Nat}(l:Cds){x:List Nat}(hx:f x<n):∃A B,(pks f n l).flatten=A++B/\(pks f n (l++[x])).flatten=A++x::B/\(∀z∈B,f x<f z)/\∀y∈A,¬f x<f y:=by
 have key:∀k,f x<k->(pks f k (l++[x])).flatten=(pks f (f x+1) l).flatten++x::((nj (f x+1) (k-(f x+1))).map λr=>l.filter λc=>f c == r).flatten/\(pks f k l).flatten=(pks f (f x+1) l).flatten++((nj (f x+1) (k-(f x+1))).map λr=>l.filter λc=>f c == r).flatten:=λk hk=>by
  have er:jw k=jw (f x+1)++nj (f x+1) (k-(f x+1)):=by
   have:=List.range'_append_1 (s:=0) (m:=f x+1) (n:=k-(f x+1));rw[qa]at this;rw[oq,oq,this];congr 1;lia
  have e0:∀r,f x≠r->((l++[x]).filter λc=>f c == r)=l.filter λc=>f c == r:=λr hr=>by
   rw[kF,j9,beq_false_of_ne hr];simp
  unfold pks;refine⟨?_,by rw[er,jD,k8]⟩
  rw[er,jD,k8,List.range_succ,jD,k8,jD,k8];have h1:(jw (f x)).map (λr=>(l++[x]).filter λc=>f c == r)=(jw (f x)).map λr=>l.filter λc=>f c == r:=ka λr hr=>e0 r (by have:=ko.mp hr;lia)
  have h2:(nj (f x+1) (k-(f x+1))).map (λr=>(l++[x]).filter λc=>f c == r)=(nj (f x+1) (k-(f x+1))).map λr=>l.filter λc=>f c == r:=ka λr hr=>e0 r (by have:=oQ.mp hr;lia)
  rw[h1,h2];have h3:((l++[x]).filter λc=>f c == f x)=(l.filter λc=>f c == f x)++[x]:=by rw[kF,j9,BEq.rfl];rfl
  simp[h3]
 obtain⟨a,b⟩:=key n hx;refine⟨_,_,b,a,?_,?_⟩
 ·intro z hz
  obtain⟨t,ht,hz⟩:=mL.mp hz;obtain⟨r,hr,rfl⟩:=jV.mp ht;have:=oQ.mp hr;have e:=(lG.mp hz).2;have:f z=r:=by simpa using e
  lia
 ·intro y hz
  obtain⟨t,ht,hz⟩:=mL.mp hz;unfold pks at ht;obtain⟨r,hr,rfl⟩:=jV.mp ht;have:=ko.mp hr;have e:=(lG.mp hz).2;have:f y=r:=by simpa using e
  lia
theorem zhu_ {f:List Nat->Nat}{n:Nat}{l:Cds}(h:∀c∈l,f c<n):(pks f n l).flatten.length=l.length:=by
 suffices∀r d:Cds,l=d++r->(pks f n d).flatten.length=d.length->(pks f n l).flatten.length=l.length from this l [] rfl (by
  have:∀c∈(pks f n []).flatten,False:=λc hc=>by
   obtain⟨t,ht,hz⟩:=mL.mp hc;unfold pks at ht;obtain⟨r,hr,rfl⟩:=jV.mp ht;cases hz
  rw[List.eq_nil_iff_forall_not_mem.mpr this])
 intro r;induction r with
 |nil=>intro d hd e;rw[jz]at hd;subst hd;exact e
 |cons x r ih=>
  intro d hd e;refine ih (d++[x]) (by rw[hd,lL];rfl) ?_
  obtain⟨A,B,h1,h2,_,_⟩:=zhs_ d (h x (by rw[hd];simp))
  rw[h1]at e;rw[h2,iP,iR,iP,lC];rw[iP]at e;lia
theorem zhR_ {f:List Nat->Nat}{n:Nat}{l:Cds}{c:List Nat}(h:c∈(pks f n l).flatten):c∈l:=by
 obtain⟨t,ht,hz⟩:=mL.mp h;unfold pks at ht;obtain⟨r,hr,rfl⟩:=jV.mp ht;exact(lG.mp hz).1
theorem zkg_ {α:Type}(x:α)(A B:List α):VI.insL A.length x (A++B)=A++x::B:=by
 unfold VI.insL;rw[List.take_left,List.drop_left]
theorem zlK_ (a b:Nat):decide ([a]<[b])=decide (a<b):=by
 rw[pb,decide_eq_true_eq,decide_eq_true_eq,List.cons_lt_cons_iff];exact⟨λh=>h.elim id λz=>absurd z.2 (by simp),.inl⟩
theorem ziq_ {g:Go}(hg:OkG g)(hs:g.sg=qJ){l:Cds}(hc:∀c∈l,CD c)(hl:l.length<1000):zaq_.val [.fz (LS .str l),.int g.col]=.ok (LS .str (stay g l)):=by
 have es:∀l,stay g l=(pks (pn g) 37 l).flatten:=λl=>by unfold stay;rw[hs]
 have ep:∀c,pn g c=SG.idxOf (sgn g c):=λc=>by unfold pn;rw[hs]
 have en:np g=37:=by unfold np;rw[hs]
 have ay:∀c,CD c->pn g c<37:=λc h=>by have:=zky_ hg h;lia
 have hm:∀c,CD c->sgn g c∈SG:=λc h=>h.2 _ (by obtain⟨a,b⟩:=hg;lia)
 have cmp:∀x y,CD x->CD y->(pn g x<pn g y↔sgn g x<sgn g y):=λx y hx hy=>by
  have:=(zkA_ _ (hm x hx) _ (hm y hy)).1;unfold rk at this;rw[ep,ep,<- this];lia
 have six:∀c,CD c->ixA (.str c) (.int (g.col-1))=.ok (.str [sgn g c]):=λc h=>by
  have hk:=h.1;obtain⟨a,b⟩:=hg;show Mo.lim c.length (Mo.opt ((atI c (g.col-1)).map λc=>D.str [c]))=_
  unfold sgn;rw[Mo.lim_ok (by lia),atI_nn (by lia) (iL (by lia)),jP,iL (by lia)];rfl
 refine zbw_ rfl rfl λq hp=>?_
 unfold zbb_;show En (S.runs gi q _ [qI (.fz (LS .str l)),qI (.int g.col),qJ,qJ,qJ]) _
 rw[zaw_ (d:=LS .str []) (by exists hp;rfl) (hp _)]
 refine za2_ (l:=l) (enc:=λc=>[.str c]) (d:=.fz (LS .str l)) (λd e=>∃a b,e=[qI (.fz (LS .str l)),qI (.int g.col),qI (LS .str (pks (pn g) 37 d).flatten),a,b]) (by exists zag_,zbC_) rfl (zaK_ _ _) ⟨qJ,qJ,rfl⟩ (λd x r e bo he=>?_) λe he=>?_
 ·obtain⟨a,b,rfl⟩:=he
  have hx:CD x:=hc x (by rw[bo];simp)
  have hd:∀c∈d,CD c:=λc h=>hc c (by rw[bo];simp[h])
  have dw:d.length<1000:=by have:=congrArg jU bo;simp at this;lia
  have fR:=zhu_ (f:=pn g) (n:=37) (l:=d) λc h=>ay c (hd c h)
  have au:∀c∈(pks (pn g) 37 d).flatten,CD c:=λc h=>hd c (zhR_ h)
  obtain⟨A,B,h1,h2,h3,h4⟩:=zhs_ d (ay x hx);rw[h1]at au fR;rw[h1];rw[iP]at fR;refine⟨[qI (.fz (LS .str l)),qI (.int g.col),qI (LS .str (A++B)),qI (.str x),b],(by exists hp),?_⟩
  rw[zaw_ (d:=.int ((A++B).length:Nat)) (by exists zgi_) (hp _)]
  show En (S.runs gi q _ [qI (.fz (LS .str l)),qI (.int g.col),qI (LS .str (A++B)),qI (.str x),qI (.int ((A++B).length:Nat))]) _
  rw[S.runs,S.run];refine ziP_ (λi e=>e=[qI (.fz (LS .str l)),qI (.int g.col),qI (LS .str (A++B)),qI (.str x),qI (.int ((A.length+B.length:Nat)-(i:Int)))]) B.length (by lia) (by rw[iP];simp) λi e hi he=>?_
  subst he;by_cases hB:i<B.length
  ·right
   have hy:∃y,(A++B)[A.length+B.length-i-1]?=qI y/\y∈B:=by
    refine⟨B[B.length-i-1]'(by lia),?_,mJ _⟩
    rw[jy (by lia),show A.length+B.length-i-1-A.length=B.length-i-1 by lia,iL]
   obtain⟨y,hy,hyB⟩:=hy;have cU:CD y:=au y (i8 _ hyB);have i1:ixA (LS .str (A++B)) (.int ((A.length+B.length:Nat)-(i:Int)-1))=.ok (.str y):=by
    rw[zeM_,atI_nn (by lia) (by rw[show((A.length+B.length:Nat)-(i:Int)-1).toNat=A.length+B.length-i-1 by lia];exact hy)];rfl
   have i2:Bo.f .ltT (.str [sgn g x]) (.str [sgn g y])=.ok (.bl qK):=by
    show Mq (D.bl (decide ([sgn g x]<[sgn g y])))=_
    rw[zlK_,decide_eq_true ((cmp x y hx cU).mp (h3 y hyB))]
   have i3:decide ((0:Int)<(A.length+B.length:Nat)-(i:Int))=qK:=decide_eq_true (by lia)
   refine⟨hB,?_,?_⟩
   ·exists zag_,i1,six x hx,six y cU,i3
    exact congrArg (Mb · blD) i2
   ·rw[zaw_ (d:=.int ((A.length+B.length:Nat)-(i:Int)-1)) (by exists hp) (hp _)]
    refine⟨_,_,rfl,rfl,?_⟩;show[_,_,_,_,qI (D.int ((A.length+B.length:Nat)-(i:Int)-1))]=_
    rw[show((A.length+B.length:Nat):Int)-(i:Int)-1=((A.length+B.length:Nat):Int)-((i+1:Nat):Int) by lia]
  ·left
   have eZ:i=B.length:=by lia
   subst eZ;have e0:((A.length+B.length:Nat):Int)-(B.length:Int)=(A.length:Int):=by lia
   rw[e0];refine⟨?_,?_⟩
   ·cases hA:A.reverse with
    |nil=>
     have:A=[]:=List.reverse_eq_nil_iff.mp hA;subst this
     exists hp
     rfl
    |cons y A'=>
     have eA:A=A'.reverse++[y]:=by have:=congrArg List.reverse hA;rw[List.reverse_reverse,List.reverse_cons]at this;exact this
     have fM:y∈A:=by rw[eA];simp
     have cU:CD y:=au y (kg _ fM);have iJ:A.length=A'.length+1:=by rw[eA];simp
     have i1:ixA (LS .str (A++B)) (.int ((A.length:Int)-1))=.ok (.str y):=by
      rw[zeM_,VI.atI_nn (by lia) (a:=y) (by
       rw[show((A.length:Int)-1).toNat=A'.length by lia,jS (by lia),eA,jy (by simp),List.length_reverse,nW];rfl)];rfl
     have i2:Bo.f .ltT (.str [sgn g x]) (.str [sgn g y])=.ok (.bl qL):=by
      show Mq (D.bl (decide ([sgn g x]<[sgn g y])))=_
      rw[zlK_,decide_eq_false (λz=>h4 y fM ((cmp x y hx cU).mpr z))]
     have i3:decide ((0:Int)<(A.length:Int))=qK:=decide_eq_true (by lia)
     exists zag_,i1,six x hx,six y cU,i3
     exact congrArg (Mb · blD) i2
   ·have hf:insertF [LS .str (A++B),.int (A.length:Nat),.str x]=.ok .non [LS .str (A++x::B),.int (A.length:Nat),.str x]:=by
     show(if(0:Int)<=(A.length:Nat)/\(A.length:Int).toNat<=((A++B).map D.str).length/\((A++B).map D.str).length<iZ/\_ then Mr.ok D.non [D.nd .lst (VI.insL (A.length:Int).toNat (D.str x) ((A++B).map D.str)),D.int (A.length:Nat),D.str x]else .no)=_
     have hz:(A++B).length<iZ:=by have:=zaB_ (n:=(A++B).length+1) (by rw[iP];lia);lia
     rw[if_pos ⟨by lia,by rw[gf,iP];lia,by rw[gf];exact hz,rfl⟩,kY,jD]
     have:=zkg_ (D.str x) (A.map D.str) (B.map D.str);rw[gf]at this;rw[this];unfold LS;rw[jD];rfl
    rw[rn_e (zdw_ (o:=.insert) (q:=(2,[])) (c:=LS .str (A++B)) (ds:=[.int (A.length:Nat),.str x]) rfl rfl rfl (ag2 rfl rfl) hf)];refine⟨_,_,rfl,.inl ⟨.inl rfl,qI (.str x),qI (.int (A.length:Nat)),?_⟩⟩;rw[h2];rfl
 ·obtain⟨a,b,rfl⟩:=he
  rw[es]
  exists hp
  fail "q"
section
variable {m:TT}{k:Nat}{n:List Nat}{g:Go}{l:Cds}{c:List Nat}
theorem zoy_ {d:Cds}(hn:n∈m.map (·.1))(hm:m.length<1000):setIF [LS .str d,.nd (.dct (m.map λq:List Nat×Cds=>kN_t q.1)) ((m.map λq:List Nat×Cds=>LS D.str q.2).set (ix n m) .gone),.str n]=.ok .non [.gone,TD (up n d m),.str n]:=by
 have hs:m.length<iZ:=by have:=zaB_ (n:=m.length+1) (by lia);lia
 show(if kIx (m.map λq=>kN_t q.1) (kN_t n)<(m.map λq=>kN_t q.1).length/\((m.map λq=>LS D.str q.2).set (ix n m) .gone).length<iZ then Mr.ok D.non [.gone,D.nd (.dct (m.map λq=>kN_t q.1)) (((m.map λq=>LS D.str q.2).set (ix n m) .gone).set (kIx (m.map λq=>kN_t q.1) (kN_t n)) (LS .str d)),.str n]else _)=_
 rw[kix,gf,jO,gf,if_pos ⟨zf8_.mpr hn,hs⟩,lO,zm5_ hn]
theorem go_0D (h:g.sg=qJ):ixA (GO g) (.int 0)=.ok (.str WD):=by unfold GO;rw[h];rfl
theorem go_0P {s:Nat}(h:g.sg=qI s):ixA (GO g) (.int 0)=.ok (.str WP):=by unfold GO;rw[h];rfl
theorem go_2:ixA (GO g) (.int 2)=.ok (.int g.col):=by unfold GO;cases g.sg<;>rfl
theorem go_3 {s:Nat}(h:g.sg=qI s):ixA (GO g) (.int 3)=.ok (.str [s]):=by unfold GO;rw[h];rfl
theorem six (hg:OkG g)(h:CD c):ixA (.str c) (.int (g.col-1))=.ok (.str [sgn g c]):=by
 have hk:=h.1;obtain⟨a,b⟩:=hg;show Mo.lim c.length (Mo.opt ((atI c (g.col-1)).map λc=>D.str [c]))=_
 unfold sgn;rw[Mo.lim_ok (by lia),atI_nn (by lia) (iL (by lia)),jP,iL (by lia)];rfl
theorem flt {s:Nat}(hg:OkG g)(hs:g.sg=qI s)(hc:∀c∈l,CD c)(hl:l.length<=1000){o:Bo}{r:Nat}(h0:∀x:Nat,o.f (.str [x]) (.str [s])=.ok (.bl ((if x=s then 0 else 1)==r))){env:VI.Env}(e0:env[0]?=qI (qI (GO g)))(e2:getE env 2=.ok (.fz (LS .str l))):X.ev gi env (.comp ["_law_card"] [("_law_going_here",0)] .any [(.v 2)] ⟨qL,[0]⟩ (qI (.bin o (.bin .ix (.v 0) (.bin .sub (.i (.v 1) 2) (.n 1))) (.i (.v 1) 3))) (.v 0))=.ok (LS .str (l.filter λc=>pn g c==r)):=by
 have ep:∀c,pn g c=if sgn g c=s then 0 else 1:=λc=>by unfold pn;rw[hs]
 have ec:cE ["_law_card"] [("_law_going_here",0)] env=[qJ,qI (GO g)]:=by show[qJ,(env[0]?).join]=_;rw[e0];rfl
 have:=xcomp (G:=gi) (env:=env) (lv:=["_law_card"]) (fr:=[("_law_going_here",0)]) (ik:=.any) (src:=[.v 2]) (tg:=⟨qL,[0]⟩) (p:=λc=>pn g c==r) (f:=λc:List Nat=>c) (o:=.str) (c:=qI (.bin o (.bin .ix (.v 0) (.bin .sub (.i (.v 1) 2) (.n 1))) (.i (.v 1) 3))) (e:=.v 0) (items:=l.map D.str) (T:=λx:List Nat=>[.str x]) l rfl (by exists e2) (zaK_ _ _) (λc h=>by
  rw[ec];have e3:getE (setE [qJ,qI (GO g)] [0] [.str c]) 0=.ok (.str c):=rfl;have e4:getE (setE [qJ,qI (GO g)] [0] [.str c]) 1=.ok (GO g):=by show Mq (GO g).vw=_;rw[zcY_]
  show X.evT gi (setE [qJ,qI (GO g)] [0] [.str c]) _=Mq (pn g c == r)
  rw[ep]
  exists e3,e4,go_2,go_3 hs,six hg (hc c h)
  exact congrArg (Mb · blD) (h0 _)) (λc h _=>by rw[ec];rfl) (by lia)
 rw[this,mD]
theorem zlv_ (hg:OkG g)(hn:g.nm∈m.map (·.1))(hd:DS∈m.map (·.1))(hm:m.length<1000)(hc:∀c∈gt g.nm m,CD c)(hl:(gt g.nm m).length<1000)(bY:(gt DS (up g.nm (stay g (gt g.nm m)) m)).length+(asid g (gt g.nm m)).length<=1000):zbn_ [GO g,TD m]=.ok .non [GO g,TD (en g (gt g.nm m) m)]:=by
 generalize hL:gt g.nm m=l at hc hl bY ⊢
 have gK:pins [GO g,TD m] 2=qL:=rfl;have bp:(GO g).cold=qK:=zfN_ g;have run:∃o,S.runs gi (pins [GO g,TD m]) zaW_ ([GO g,TD m].map qI++iT 1 qJ)=.ok .nx [qI (GO g),qI (TD (en g l m)),o]:=by
  unfold zaW_;rw[iN,iN,jM,jJ,jR,jN,jN,j7];have x1:X.ev gi [qI (GO g),qI (TD m),qJ] (.i (.v 0) 1)=.ok (.str g.nm):=by exists zcY_,go_1
  have p1:Pt.ev gi [qI (GO g),qI (TD m),qJ] (.s (.v 1) (.i (.v 0) 1))=.ok (1,[ix g.nm m]):=pt_s (q:=(1,[])) (d:=.str g.nm) (c:=TD m) rfl x1 rfl (zd2_ hn);have p2:putE [qI (GO g),qI (TD m),qJ] (1,[ix g.nm m]) .gone=[qI (GO g),qI (.nd (.dct (m.map λq:List Nat×Cds=>kN_t q.1)) ((m.map λq:List Nat×Cds=>LS D.str q.2).set (ix g.nm m) .gone)),qJ]:=by
   show[qI (GO g),qI ((TD m).put [ix g.nm m] .gone),qJ]=_
   rw[zjq_ hn]
  have y1:Y.ev gi (.mp (.s (.v 1) (.i (.v 0) 1))) [qI (GO g),qI (TD m),qJ]=.ok (LS .str l) [qI (GO g),qI (.nd (.dct (m.map λq:List Nat×Cds=>kN_t q.1)) ((m.map λq:List Nat×Cds=>LS D.str q.2).set (ix g.nm m) .gone)),qJ]:=by
   rw[Y.ev];unfold mpM;rw[p1];have:atE [qI (GO g),qI (TD m),qJ] (1,[ix g.nm m])=qI (LS .str l):=by rw[<- hL];exact zm6_ hn
   simp only[this,p2]
  rw[rn_s (s:=.asg 2 _) (by rw[S.run,y1];exact zhE_ 2 gK (lU 2))]
  show∃o,S.runs gi _ _ [qI (GO g),qI (.nd (.dct (m.map λq:List Nat×Cds=>kN_t q.1)) ((m.map λq:List Nat×Cds=>LS D.str q.2).set (ix g.nm m) .gone)),qI (LS .str l)]=_
  generalize hT:D.nd (.dct (m.map λq:List Nat×Cds=>kN_t q.1)) ((m.map λq:List Nat×Cds=>LS D.str q.2).set (ix g.nm m) .gone)=T
  have fG:∀d,setIF [LS .str d,T,.str g.nm]=.ok .non [.gone,TD (up g.nm d m),.str g.nm]:=λd=>by rw[<- hT];exact zoy_ hn hm
  have x2:X.ev gi [qI (GO g),qI T,qI (LS .str l)] (.i (.v 0) 1)=.ok (.str g.nm):=by exists zcY_,go_1
  cases hs:g.sg with
  |none=>
   have x3:X.ev gi [qI (GO g),qI T,qI (LS .str l)] (.call zaq_ "_law_dealt" [(.v 2),(.i (.v 0) 2)])=.ok (LS .str (stay g l)):=by
    exists zcY_,go_2,zag_,ziq_ hg hs hc hl
   have x4:(X.ev gi [qI (GO g),qI T,qI (LS .str l)] (.bin .eq (.i (.v 0) 0) (.k (.str [100,101,97,108])))).bind blD=.ok qK:=by
    exists zcY_,go_0D hs,show decide (WD=[100,101,97,108])=qK from rfl
   have r1:=rn_s (pn:=pins [GO g,TD m]) (ss:=[]) (s:=.setI (.v 1) (.i (.v 0) 1) (.call zaq_ "_law_dealt" [(.v 2),(.i (.v 0) 2)])) (by rw[S.run];exact zeo_ (env:=[qI (GO g),qI T,qI (LS .str l)]) (q:=(1,[])) (a:=.str g.nm) (d:=LS .str (stay g l)) (by rw[x3];exact zs_ _ zaT_) rfl (by rw[x2];exact zs_ _ (zdL_ _)) rfl (fG _))
   have ee:en g l m=up g.nm (stay g l) m:=by
    have ea:asid g l=[]:=by unfold asid;rw[hs]
    unfold en;rw[ea,jz,zmo_ (zab_ hd)]
   rw[S.runs,S.run,x4,ziI_,r1,ee];exact⟨_,rfl⟩
  |some s=>
   have x4:(X.ev gi [qI (GO g),qI T,qI (LS .str l)] (.bin .eq (.i (.v 0) 0) (.k (.str [100,101,97,108])))).bind blD=.ok qL:=by
    exists zcY_,go_0P hs,show decide (WP=[100,101,97,108])=qL from rfl
   have h0:∀x:Nat,Bo.f .eq (.str [x]) (.str [s])=.ok (.bl ((if x=s then 0 else 1) == 0)):=λx=>by
    show eqD qL _ _=_
    rw[zfi_];by_cases e:x=s
    ·subst e;simp
    ·have:¬[x]=[s]:=λz=>e (oF z).1
     simp[e]
   have h1:∀x:Nat,Bo.f .ne (.str [x]) (.str [s])=.ok (.bl ((if x=s then 0 else 1) == 1)):=λx=>by
    show eqD qK _ _=_
    rw[zfi_];by_cases e:x=s
    ·subst e;simp
    ·have:¬[x]=[s]:=λz=>e (oF z).1
     simp[e]
   have es:stay g l=l.filter λc=>pn g c == 0:=by unfold stay;rw[hs]
   have ea:asid g l=l.filter λc=>pn g c == 1:=by unfold asid;rw[hs]
   have x5:=flt (l:=l) hg hs hc (by lia) h0 (env:=[qI (GO g),qI T,qI (LS .str l)]) rfl rfl
   rw[<- es]at x5;have r1:=λss=>rn_s (pn:=pins [GO g,TD m]) (ss:=ss) (s:=.setI (.v 1) (.i (.v 0) 1) _) (by rw[S.run];exact zeo_ (env:=[qI (GO g),qI T,qI (LS .str l)]) (q:=(1,[])) (a:=.str g.nm) (d:=LS .str (stay g l)) (by rw[x5];exact zs_ _ zaT_) rfl (by rw[x2];exact zs_ _ (zdL_ _)) rfl (fG _))
   have a6:DS∈(up g.nm (stay g l) m).map (·.1):=zab_ hd;have x6:=flt (l:=l) hg hs hc (by lia) h1 (env:=[qI (GO g),qI (TD (up g.nm (stay g l) m)),qI (LS .str l)]) rfl rfl
   rw[<- ea]at x6;have x7:X.ev gi [qI (GO g),qI (TD (up g.nm (stay g l) m)),qI (LS .str l)] (.bin .ix (.v 1) (.k (.str [45])))=.ok (.fz (LS .str (gt DS (up g.nm (stay g l) m)))):=by
    have:=zdv_ a6;show(Mq (D.fz (TD (up g.nm (stay g l) m)))).bind (λx=>(Mq (D.str [45])).bind λy=>ixA x y)=_
    rw[zb5_,zb5_];exact this
   have r2:=rn_s (pn:=pins [GO g,TD m]) (ss:=[]) (s:=.setI (.v 1) (.k (.str [45])) _) (by rw[S.run];exact zeo_ (env:=[qI (GO g),qI (TD (up g.nm (stay g l) m)),qI (LS .str l)]) (q:=(1,[])) (a:=.str DS) (x:=.bin .add (.bin .ix (.v 1) (.k (.str [45]))) (.comp ["_law_card"] [("_law_going_here",0)] .any [(.v 2)] ⟨qL,[0]⟩ (qI (.bin .ne (.bin .ix (.v 0) (.bin .sub (.i (.v 1) 2) (.n 1))) (.i (.v 1) 3))) (.v 0))) (d:=LS .str (gt DS (up g.nm (stay g l) m)++asid g l)) (by rw[zmf_,x7,zb5_,x6,zb5_];show keep (addA (LS .str _) (LS .str _)) _ _=_;rw[zg0_ (g:=.str) (by lia)];exact zs_ _ zaT_) rfl rfl rfl (zdE_ (zcV_ hm hn)))
   rw[S.runs,S.run,x4,zjc_,r1];show∃o,seqM (S.runs gi _ _ [qI (GO g),qI (TD (up g.nm (stay g l) m)),qI (LS .str l)]) _=_
   rw[r2];exact⟨_,rfl⟩
 obtain⟨o,run⟩:=run;rw[show zbn_=fnOf gi 2 1 zaW_ from rfl,zc4_ (n:=2) rfl run]
 show Mr.ok D.non [if(GO g).cold=qK then GO g else GO g,TD (en g l m)]=_
 rw[if_pos bp]
variable {P:List Go}
theorem zjb_ (hg:OkG g)(hc:∀c∈l,CD c):(stay g l).length+(asid g l).length=l.length:=by
 cases hs:g.sg with
 |none=>
  have es:stay g l=(pks (pn g) 37 l).flatten:=by unfold stay;rw[hs]
  have ea:asid g l=[]:=by unfold asid;rw[hs]
  have en:np g=37:=by unfold np;rw[hs]
  rw[es,ea,zhu_ λc h=>by have:=zky_ hg (hc c h);lia];rfl
 |some s=>
  have es:stay g l=l.filter λc=>pn g c == 0:=by unfold stay;rw[hs]
  have ea:asid g l=l.filter λc=>pn g c == 1:=by unfold asid;rw[hs]
  have ep:∀c,pn g c=if sgn g c=s then 0 else 1:=λc=>by unfold pn;rw[hs]
  rw[es,ea];clear es ea hc;induction l with
  |nil=>rfl
  |cons c l ih=>
   rw[j9,j9,ep];by_cases e:sgn g c=s
   ·rw[if_pos e];show(jU (c::_))+_=_;rw[iR,iR];show _+jU (qz _ l)=_;lia
   ·rw[if_neg e];show jU (qz _ l)+(jU (c::_))=_;rw[iR,iR];lia
theorem znr_ (h:c∈stay g l):c∈l:=by
 unfold stay at h;cases hs:g.sg with
 |none=>rw[hs]at h;exact zhR_ h
 |some s=>rw[hs]at h;exact(lG.mp h).1
theorem zpJ_ (h:c∈asid g l):c∈l:=by
 unfold asid at h;cases hs:g.sg with
 |none=>rw[hs]at h;cases h
 |some s=>rw[hs]at h;exact(lG.mp h).1
theorem zm2_ (hn:n∈m.map (·.1)):(gt n m).length<=sz m:=ziD_ (zcF_ hn)
theorem zlw_ (hg:OkG g)(hn:g.nm∈m.map (·.1))(hd:DS∈m.map (·.1))(hc:∀c∈gt g.nm m,CD c):(gt DS (up g.nm (stay g (gt g.nm m)) m)).length+(asid g (gt g.nm m)).length<=sz m:=by
 have a:=zm8_ (d:=stay g (gt g.nm m)) hn;have b:=zjb_ hg hc;have c:=zm2_ (n:=DS) (m:=up g.nm (stay g (gt g.nm m)) m) (zab_ hd);lia
theorem zmA_ (hn:g.nm∈m.map (·.1))(hd:DS∈m.map (·.1)):(en g l m).map (·.1)=m.map (·.1):=by
 unfold en;rw[zbK_ (zab_ hd),zbK_ hn]
theorem en_sz (hg:OkG g)(hn:g.nm∈m.map (·.1))(hd:DS∈m.map (·.1))(hc:∀c∈gt g.nm m,CD c):sz (en g (gt g.nm m) m)=sz m:=by
 have a:=zm8_ (d:=stay g (gt g.nm m)) hn;have b:=zjb_ hg hc;have d:=zm8_ (d:=gt DS (up g.nm (stay g (gt g.nm m)) m)++asid g (gt g.nm m)) (zab_ (n:=g.nm) (d:=stay g (gt g.nm m)) hd);rw[iP]at d;unfold en;lia
theorem en_cd (hn:g.nm∈m.map (·.1))(hd:DS∈m.map (·.1))(hm:∀q∈m,∀c∈q.2,CD c):∀q∈en g (gt g.nm m) m,∀c∈q.2,CD c:=by
 have h0:∀c∈gt g.nm m,CD c:=hm _ (zcF_ hn);have h1:∀q∈up g.nm (stay g (gt g.nm m)) m,∀c∈q.2,CD c:=znq_ hn hm λc h=>h0 c (znr_ h)
 unfold en;refine znq_ (zab_ hd) h1 λc h=>?_
 rcases lH.mp h with h |h
 ·exact h1 _ (zcF_ (zab_ hd)) c h
 ·exact h0 c (zpJ_ h)
def stt (m:TT)(P:List Go)(k:Nat)(g:Go)(l:Cds)(i:Nat):D:=if i=0 then KO m P k .non []else if i<=l.length+1 then KO (up g.nm [] m) P k (MC g (l.take (i-1))) (l.drop (i-1))else KO (en g l m) P (k+1) .non []
theorem zmJ_ (i:Nat):∃m' P' k' M h,stt m P k g l i=KO m' P' k' M h:=by
 unfold stt;split
 ·exact⟨_,_,_,_,_,rfl⟩
 ·split<;>exact⟨_,_,_,_,_,rfl⟩
theorem ziR_ (hk:P[k]?=qI g)(hg:OkG g)(hn:g.nm∈m.map (·.1))(au:∀q∈m,∀c∈q.2,CD c)(hs:sz m<900){i:Nat}(hi:i<=(gt g.nm m).length+1):zL_.val [.fz (stt m P k g (gt g.nm m) i),.str g.nm,.fz (LS .str (gt g.nm m))]=.ok (.bl qK):=by
 have hl:=zm2_ hn;have h0:∀c∈gt g.nm m,CD c:=au _ (zcF_ hn);obtain⟨m',P',k',M,h,e⟩:=zmJ_ (m:=m) (P:=P) (k:=k) (g:=g) (l:=gt g.nm m) i;refine zhY_ (by rw[e]) ?_ (by lia)
 unfold stt;by_cases z:i=0
 ·rw[if_pos z];exact zkV_ hn
 ·rw[if_neg z,if_pos hi,zkW_ hk (zab_ hn) hg (λc h=>h0 c (List.mem_of_mem_take h)) (by rw[<- iP,n5];lia),n5]
theorem zii_ (hk:P[k]?=qI g)(hg:OkG g)(hn:g.nm∈m.map (·.1))(hd:DS∈m.map (·.1))(hm:m.length<1000)(au:∀q∈m,∀c∈q.2,CD c)(hs:sz m<900){i:Nat}(hi:i<=(gt g.nm m).length+1):zg_ [stt m P k g (gt g.nm m) i]=.ok (.bl qK) [stt m P k g (gt g.nm m) (i+1)]:=by
 have hl:=zm2_ hn;have h0:∀c∈gt g.nm m,CD c:=au _ (zcF_ hn);have h1:=zlw_ hg hn hd h0;have h2:=zjb_ hg h0
 generalize hL:gt g.nm m=l at *
 unfold stt;by_cases z:i=0
 ·rw[if_pos z,if_neg (by lia),if_pos (by lia),z,zpM_ hk hn hm,hL];rfl
 ·rw[if_neg z,if_pos hi,if_neg (by lia)]
  obtain⟨j,rfl⟩:∃j,i=j+1:=⟨i-1,by lia⟩
  rw[oM];by_cases y:j<l.length
  ·rw[if_pos (by lia),lE y,znv_ hg (h0 _ (mJ y)) (by rw[ki];lia)]
   rw[oM];have:l.take j++[l[j]]=l.take (j+1):=by rw[List.take_succ,iL y];rfl
   rw[this]
  ·have:j=l.length:=by lia
   subst this;rw[if_neg (by lia),mK,List.take_length]
   have e1:up g.nm (stay g l) (up g.nm [] m)=up g.nm (stay g l) m:=up_up hn;have e2:en g l (up g.nm [] m)=en g l m:=by unfold en;rw[e1]
   rw[znl_ hk (zab_ hn) (zab_ hd) (zcV_ hm hn) (by rw[e1];lia) (by lia),e2]
theorem gbody {K K' G:D}{o4 o5:Option D}(hK:∃m' P' k' M h,K=KO m' P' k' M h)(hn:n∈m.map (·.1))(ht:zL_.val [.fz K,.str n,.fz (LS .str (gt n m))]=.ok (.bl qK))(bO:zg_ [K]=.ok (.bl qK) [K'])(q:Nat->Bool):S.runs gi q [.ifY (.or (.pu (.not (.call zL_ "_law_told" [(.v 0),(.v 3),(.bin .ix (.v 2) (.v 3))]))) (.bin .isn (.meth [("Clerk",zg_)] (.v 0) "step" []) (.pu (.k (.bl qK))))) [.ret (.pu (.k (.bl qL)))] []] [qI K,qI G,qI (TD m),qI (.str n),o4,o5]=.ok .nx [qI K',qI G,qI (TD m),qI (.str n),o4,o5]:=by
 obtain⟨m',P',k',M,h,rfl⟩:=hK;have x1:X.ev gi [qI (KO m' P' k' M h),qI G,qI (TD m),qI (.str n),o4,o5] (.not (.call zL_ "_law_told" [(.v 0),(.v 3),(.bin .ix (.v 2) (.v 3))]))=.ok (.bl qL):=by
  exists zjU_,za6_,zeJ_,zdv_ hn,ht
 have y2:=ym (env:=[qI (KO m' P' k' M h),qI G,qI (TD m),qI (.str n),o4,o5]) (i:=0) (nm:="step") rfl (by decide) bO
 have y3:Y.ev gi (.or (.pu (.not (.call zL_ "_law_told" [(.v 0),(.v 3),(.bin .ix (.v 2) (.v 3))]))) (.bin .isn (.meth [("Clerk",zg_)] (.v 0) "step" []) (.pu (.k (.bl qK))))) [qI (KO m' P' k' M h),qI G,qI (TD m),qI (.str n),o4,o5]=.ok (.bl qL) [qI K',qI G,qI (TD m),qI (.str n),o4,o5]:=by
  rw[Y.ev,zeu_,x1,zs_ _ (nw_bl _),zbW_];show Y.ev gi _ _=_
  rw[zij_,y2,zbW_];rfl
 rw[S.runs,S.run,y3,zbW_];rfl
theorem zk9_ {f:Fn}{nm:Str}{env:VI.Env}{x:X}{i:Nat}{d c d' c' r:D}(hx:keep (x.ev gi env) env x.uses=.ok d env)(hc:atE env (i,[])=qI c)(hf:f [d,c]=.ok r [d',c']):Y.ev gi (.call f nm [(.x x),(.l (.v i))]) env=.ok r (putE env (i,[]) c'):=by
 rw[Y.ev];have e1:evG gi env [.x x,.l (.v i)]=.ok [.d d,.l (i,[])] env:=by
  unfold evG;rw[zga_,hx,zbW_];unfold evG;rw[Pt.ev,hc];rfl
 rw[e1,zbW_];unfold callG;have e2:resolve env [.d d,.l (i,[])]=qI [d,c]:=by
  show((atE env (i,[])).bind λc=>qI [c]).map (λds=>d::ds)=_
  rw[hc];rfl
 rw[e2];show(if _ then(match f [d,c]with |.ok r ds'=>Mr.ok r (restE env [.d d,.l (i,[])] ds')|.ex x ds'=>_ |.no=>_)else _)=_
 rw[hf,if_pos (show apartAll _=qK from rfl)]
 rfl
theorem zkE_ (hk:P[k]?=qI g)(hg:OkG g)(hn:g.nm∈m.map (·.1))(hd:DS∈m.map (·.1))(hm:m.length<1000)(au:∀q∈m,∀c∈q.2,CD c)(hs:sz m<900):zaF_ [KO m P k .non [],GO g,TD m]=.ok (.bl qK) [KO (en g (gt g.nm m) m) P (k+1) .non [],GO g,TD (en g (gt g.nm m) m)]:=by
 have hl:=zm2_ hn;have h0:∀c∈gt g.nm m,CD c:=au _ (zcF_ hn);have bp:(GO g).cold=qK:=zfN_ g;have run:∀q:Nat->Bool,q 3=qL->q 4=qL->q 5=qL->En (S.runs gi q zaD_ ([KO m P k .non [],GO g,TD m].map qI++iT 3 qJ)) λo e=>o=.rt (.bl qK)/\∃a b c,e=[qI (KO (en g (gt g.nm m) m) P (k+1) .non []),qI (GO g),qI (TD (en g (gt g.nm m) m)),a,b,c]:=λq q3 q4 q5=>by
  unfold zaD_;show En (S.runs gi q _ [qI (KO m P k .non []),qI (GO g),qI (TD m),qJ,qJ,qJ]) _
  rw[zaw_ (d:=.str g.nm) (by exists zcY_,go_1) q3]
  show En (S.runs gi q _ [qI (KO m P k .non []),qI (GO g),qI (TD m),qI (.str g.nm),qJ,qJ]) _
  rw[zaw_ (d:=.int ((gt g.nm m).length:Nat)) (by exists zjU_,zdv_ hn) q4]
  show En (S.runs gi q _ [qI (KO m P k .non []),qI (GO g),qI (TD m),qI (.str g.nm),qI (.int ((gt g.nm m).length:Nat)),qJ]) _
  refine za2_ (l:=jw ((gt g.nm m).length+2)) (enc:=λi:Nat=>[.int (0+(i:Int))]) (d:=.int ((gt g.nm m).length+2:Int)) (λd e=>∃o,e=[qI (stt m P k g (gt g.nm m) d.length),qI (GO g),qI (TD m),qI (.str g.nm),qI (.int ((gt g.nm m).length:Nat)),o]) (by exists zgi_) (items:=(jw ((gt g.nm m).length+2)).map λi:Nat=>D.int (0+(i:Int))) (by
   have:=rg1 (j:=(gt g.nm m).length+2) (by lia) (by lia)
   rw[show((gt g.nm m).length+2:Int).toNat=(gt g.nm m).length+2 by lia]at this
   exact this) (zaK_ _ _) ⟨qJ,rfl⟩ (λd i r e bo he=>?_) λe he=>?_
  ·obtain⟨o,rfl⟩:=he
   have dw:d.length<=(gt g.nm m).length+1:=by have:=congrArg jU bo;simp at this;lia
   refine⟨[qI (stt m P k g (gt g.nm m) d.length),qI (GO g),qI (TD m),qI (.str g.nm),qI (.int ((gt g.nm m).length:Nat)),qI (.int (0+(i:Int)))],(by exists q5),?_⟩
   rw[gbody (zmJ_ _) hn (ziR_ hk hg hn au hs dw) (zii_ hk hg hn hd hm au hs dw)];exact⟨_,_,rfl,.inl ⟨.inl rfl,_,by rw[iP];rfl⟩⟩
  ·obtain⟨o,rfl⟩:=he
   have e1:stt m P k g (gt g.nm m) (jw ((gt g.nm m).length+2)).length=KO (en g (gt g.nm m) m) P (k+1) .non []:=by
    rw[jC];unfold stt;rw[if_neg (by lia),if_neg (by lia)]
   rw[e1,rn_e (zk9_ (d:=GO g) (c:=TD m) (by exists zcY_,zhb_) rfl (zlv_ hg hn hd hm h0 (by lia) (by have:=zlw_ hg hn hd h0;lia)))]
   exists q3
   exact⟨_,_,rfl,rfl,_,_,_,rfl⟩
 obtain⟨o,e,h1,rfl,a,b,c,rfl⟩:=run (pins [KO m P k .non [],GO g,TD m]) rfl rfl rfl;rw[show zaF_=fnOf gi 3 3 zaD_ from rfl,zfR_ (n:=3) rfl h1]
 show Mr.ok (D.bl qK) [KO (en g (gt g.nm m) m) P (k+1) .non [],if(GO g).cold=qK then GO g else GO g,TD (en g (gt g.nm m) m)]=_
 rw[if_pos bp]
end
theorem zjv_ (ns:List Int){k:Int}(h0:0<=k):∃c,zaM_.val [scr ns,.int k]=.ok (.int c):=by
 by_cases hk:k<(ns.length:Int)
 ·refine⟨ns.getD k.toNat 0,zbw_ rfl rfl λpn hp=>?_⟩
  unfold zaj_
  exists hp,zhQ_,decide_eq_true hk,VI.vd_ix h0 hk
  fail "q"
 ·refine⟨0,zbw_ rfl rfl λpn hp=>?_⟩
  unfold zaj_
  exists hp,zhQ_,decide_eq_false hk
  fail "q"
theorem zpK_ (c:Int){n:Int}(h0:0<=n)(h1:n<=1000):∃l:List Int,zar_.val [.int c,.int n]=.ok (LS .int l)/\l.length=n.toNat:=by
 have key:∀pn:Nat->Bool,(∀i,pn i=qL)->En (S.runs gi pn z9_ ([.int c,.int n].map qI++iT 3 qJ)) λo _=>∃l:List Int,o=.rt (LS .int l)/\l.length=n.toNat:=λpn hp=>by
  unfold z9_;show En (S.runs gi pn _ [qI (.int c),qI (.int n),qJ,qJ,qJ]) _
  rw[zaw_ (d:=LS .int []) (by exists hp;rfl) (hp _)]
  have m0:=j8 c (show(2147483647:Int)≠0 by lia)
  have m1:=jZ c (show(0:Int)<2147483647 by lia)
  show En (S.runs gi pn _ [qI (.int c),qI (.int n),qI (LS .int []),qJ,qJ]) _
  rw[zaw_ (d:=.int (c % 2147483647+48271)) (by exists hp) (hp _)]
  refine za2_ (l:=jw n.toNat) (enc:=λi:Nat=>[.int (0+(i:Int))]) (d:=.int n) (λd e=>∃l x o,e=[qI (.int c),qI (.int n),qI (LS .int l),qI (.int x),o]/\l.length=d.length/\0<=x/\x<3000000000) (by exists hp) (rg1 h0 (by lia)) (zaK_ _ _) ⟨[],c % 2147483647+48271,qJ,rfl,rfl,by lia,by lia⟩ (λd i r e hl he=>?_) λe he=>?_
  ·obtain⟨l,x,o,rfl,hll,x0,x1⟩:=he
   have hd:d.length<1000:=by have:=congrArg jU hl;simp at this;lia
   refine⟨[qI (.int c),qI (.int n),qI (LS .int l),qI (.int x),qI (.int (0+(i:Int)))],(by exists hp),?_⟩
   have n0:=j8 (x*x+48271*x+(0+(i:Int))) (show(2147483647:Int)≠0 by lia)
   have n1:=jZ (x*x+48271*x+(0+(i:Int))) (show(0:Int)<2147483647 by lia)
   have e1:mulD (.int x) (.int x)=.ok (.int (x*x)):=zcr_ (by lia) (by lia)
   have e2:mulD (.int 48271) (.int x)=.ok (.int (48271*x)):=zcr_ (by lia) (by lia)
   rw[zaw_ (d:=.int ((x*x+48271*x+(0+(i:Int))) % 2147483647)) (by exists hp,e1,e2) (hp _)]
   rw[rn_e (zdw_ (o:=.append) (q:=(2,[])) (c:=LS .int l) (ds:=[.int ((x*x+48271*x+(0+(i:Int))) % 2147483647)]) rfl rfl rfl (ag1 rfl) (zdP_ (g:=.int) (by lia)))]
   exact⟨_,_,rfl,.inl ⟨.inl rfl,_,_,_,rfl,by rw[iP,iP,hll];rfl,n0,by lia⟩⟩
  ·obtain⟨l,x,o,rfl,hll,_,_⟩:=he
   exists hp
   exact⟨_,_,rfl,l,rfl,by rw[hll,jC]⟩
 have hf:zar_=fnOf gi 2 3 z9_:=rfl;obtain⟨o,e,h1,l,rfl,h2⟩:=key (pins [.int c,.int n]) (za5_ rfl);exact⟨l,by rw[hf];exact zen_ (ze7_ rfl rfl h1),h2⟩
theorem ad_s {a b:List Nat}(h:a.length+b.length<=1000):addA (.str a) (.str b)=.ok (.str (a++b)):=by
 show Mo.lim _ _=_;rw[Mo.lim_ok (by lia)]
theorem smf_j (l:Jx)(ds:List D):Sm.f .join l ds=joinD l ds:=rfl
theorem zkZ_ (l:Jx):strOf (.str l)=.ok l:=rfl
theorem zhC_:∀(l:Cds),strsD (l.map D.str)=qI l
 |[]=>rfl
 |c::l=>by rw[iN];unfold strsD;rw[zhC_ l];rfl
theorem zoA_ {row:Cds}(hl:row.length=4)(h2:∀t∈row,t.length=1):∃t,joinD [] [.fz (LS .str row)]=.ok (.str t)/\t.length=4:=by
 have e:joinS [] (strsL row)=row.flatten:=by
  rw[L2.zi2_];have e:((strsL row).map λz:Str=>z.cps.toList)=row:=by
   unfold strsL;rw[j5];exact(ka λt _=>rfl).trans (mD row)
  rw[e]
 refine⟨row.flatten,?_,?_⟩
 ·show(Mo.opt (strsD (row.map D.str))).bind _=_
  rw[zhC_,<- e];show Mo.grd _ _=_
  rw[Mo.grd_ok (zdD_ (by unfold strsL;rw[gf,hl];decide) ?_)]
  intro z hz;obtain⟨t,ht,rfl⟩:=jV.mp hz;show t.toArray.size<=1
  rw[iO,h2 t ht];exact iW _
 ·rw[List.length_flatten,List.eq_replicate_of_mem (a:=1) (l:=row.map jU) (λx hx=>by obtain⟨t,ht,rfl⟩:=jV.mp hx;exact h2 t ht),gf,hl];rfl
theorem zh4_ {row:Cds}{s:List Nat}{i:Int}(h0:0<=i)(h1:i<row.length):setIF [.str s,LS .str row,.int i]=.ok .non [.gone,LS .str (row.set i.toNat s),.int i]:=by
 show(match ixN (row.map D.str).length i with |some j=>Mr.ok D.non [D.gone,D.nd .lst ((row.map D.str).set j (D.str s)),D.int i]|none=>Mr.no)=_
 have:ixN (row.map D.str).length i=qI i.toNat:=by unfold ixN;rw[gf,if_pos h0,if_pos (by lia)]
 rw[this];show Mr.ok D.non [D.gone,D.nd .lst ((row.map D.str).set i.toNat (D.str s)),D.int i]=_
 rw[<- mW];rfl
theorem sgm (x:Int):∃s,s∈SG/\ixA (.str SG) (.int (x % 37))=.ok (.str [s]):=sg_ix (j8 x (show(37:Int)≠0 by lia)) (jZ x (show(0:Int)<37 by lia))
theorem zhw_ (c:Int){n p:Int}(h0:0<=n)(h1:n<=7)(p0:0<p)(p1:p<=37):∃l:Cds,zak_.val [.int c,.int n,.int p]=.ok (LS .str l)/\l.length=n.toNat/\∀c∈l,CD c:=by
 obtain⟨st,es,bO⟩:=zpK_ c (n:=36*n) (by lia) (by lia)
 have key:∀pn:Nat->Bool,(∀i,pn i=qL)->En (S.runs gi pn zaA_ ([.int c,.int n,.int p].map qI++iT 8 qJ)) λo _=>∃l:Cds,o=.rt (LS .str l)/\l.length=n.toNat/\∀c∈l,CD c:=λpn hp=>by
  unfold zaA_;show En (S.runs gi pn _ [qI (.int c),qI (.int n),qI (.int p),qJ,qJ,qJ,qJ,qJ,qJ,qJ,qJ]) _
  rw[zaw_ (d:=.str SG) (by exists hp;rfl) (hp _)]
  show En (S.runs gi pn _ [qI (.int c),qI (.int n),qI (.int p),qI (.str SG),qJ,qJ,qJ,qJ,qJ,qJ,qJ]) _
  rw[zaw_ (d:=LS .int st) (by exists hp,zcr_ (i:=36) (j:=n) (by lia) (by lia),es) (hp _)]
  show En (S.runs gi pn _ [qI (.int c),qI (.int n),qI (.int p),qI (.str SG),qI (LS .int st),qJ,qJ,qJ,qJ,qJ,qJ]) _
  rw[zaw_ (d:=LS .str []) (by exists hp;rfl) (hp _)]
  show En (S.runs gi pn _ [qI (.int c),qI (.int n),qI (.int p),qI (.str SG),qI (LS .int st),qI (LS .str []),qJ,qJ,qJ,qJ,qJ]) _
  refine za2_ (l:=jw n.toNat) (enc:=λi:Nat=>[.int (0+(i:Int))]) (d:=.int n) (λd e=>∃l a b x y z,e=[qI (.int c),qI (.int n),qI (.int p),qI (.str SG),qI (LS .int st),qI (LS .str l),a,b,x,y,z]/\l.length=d.length/\∀c∈l,CD c) (by exists hp) (rg1 h0 (by lia)) (zaK_ _ _) ⟨[],qJ,qJ,qJ,qJ,qJ,rfl,rfl,λ_ h=>by cases h⟩ (λd i r e hl he=>?_) λe he=>?_
  ·obtain⟨l,a,b,x,y,z,rfl,hll,au⟩:=he
   have hi:i<n.toNat:=by
    have:i∈jw n.toNat:=by rw[hl];simp
    exact ko.mp this
   have hd:d.length<1000:=by have:=congrArg jU hl;simp at this;lia
   refine⟨[qI (.int c),qI (.int n),qI (.int p),qI (.str SG),qI (LS .int st),qI (LS .str l),qI (.int (0+(i:Int))),b,x,y,z],(by exists hp),?_⟩
   rw[zaw_ (d:=.str []) (by exists hp) (hp _)]
   show En (S.runs gi pn _ [qI (.int c),qI (.int n),qI (.int p),qI (.str SG),qI (LS .int st),qI (LS .str l),qI (.int (0+(i:Int))),qI (.str []),x,y,z]) _
   refine za2_ (l:=jw 36) (enc:=λi:Nat=>[.int (0+(i:Int))]) (d:=.int 36) (λd e=>∃t a b,e=[qI (.int c),qI (.int n),qI (.int p),qI (.str SG),qI (LS .int st),qI (LS .str l),qI (.int (0+(i:Int))),qI (.str t),a,b,z]/\t.length=d.length/\∀c∈t,c∈SG) (by exists hp) (rg1 (by lia) (by lia)) (zaK_ _ _) ⟨[],x,y,rfl,rfl,λ_ h=>by cases h⟩ (λd' j r' e bJ he=>?_) λe he=>?_
   ·obtain⟨t,a,b,rfl,bN,hts⟩:=he
    have hj:j<36:=by
     have:j∈jw 36:=by rw[bJ];simp
     exact ko.mp this
    have a6:d'.length<36:=by have:=congrArg jU bJ;simp at this;lia
    refine⟨[qI (.int c),qI (.int n),qI (.int p),qI (.str SG),qI (LS .int st),qI (LS .str l),qI (.int (0+(i:Int))),qI (.str t),qI (.int (0+(j:Int))),b,z],(by exists hp),?_⟩
    obtain⟨v,hv⟩:∃v,st[36*i+j]?=qI v:=⟨_,iL (by lia)⟩
    have e1:ixA (LS .int st) (.int (36*(0+(i:Int))+(0+(j:Int))))=.ok (.int v):=by
     rw[zeM_,VI.atI_nn (by lia) (a:=v) (by rw[show(36*(0+(i:Int))+(0+(j:Int))).toNat=36*i+j by lia];exact hv)];rfl
    have e2:mulD (.int 36) (.int (0+(i:Int)))=.ok (.int (36*(0+(i:Int)))):=zcr_ (by lia) (by lia)
    rw[zaw_ (d:=.int (v / 7 % p)) (by exists hp,e2,e1,VI.vd_mod p0) (hp _)]
    show En (S.runs gi pn _ [qI (.int c),qI (.int n),qI (.int p),qI (.str SG),qI (LS .int st),qI (LS .str l),qI (.int (0+(i:Int))),qI (.str t),qI (.int (0+(j:Int))),qI (.int (v / 7 % p)),z]) _
    obtain⟨s,hs,e3⟩:=sgm (c+v / 7 % p);rw[zaw_ (d:=.str (t++[s])) (by exists hp,e3,ad_s (a:=t) (b:=[s]) (by simp;lia)) (hp _)]
    refine⟨_,_,rfl,.inl ⟨.inl rfl,_,_,_,rfl,by rw[iP,iP,bN];rfl,λc hc=>?_⟩⟩
    rcases lH.mp hc with hc |hc
    ·exact hts c hc
    ·rw[j6.mp hc];exact hs
   ·obtain⟨t,a,b,rfl,bN,hts⟩:=he
    rw[jC]at bN;obtain⟨s,hs,e3⟩:=sgm (c / 37);obtain⟨s',cA,e4⟩:=sgm (c+(0+(i:Int)));have e5:mulD (.nd .lst [.str [s]]) (.int 4)=.ok (LS .str [[s],[s],[s],[s]]):=by
     show Mo.grd (CRep 1 4) _=_
     rw[Mo.grd_ok (by decide)];rfl
    rw[zaw_ (d:=LS .str [[s],[s],[s],[s]]) (by exists hp,e3,e5) (hp _)]
    show En (S.runs gi pn _ [qI (.int c),qI (.int n),qI (.int p),qI (.str SG),qI (LS .int st),qI (LS .str l),qI (.int (0+(i:Int))),qI (.str t),a,b,qI (LS .str [[s],[s],[s],[s]])]) _
    have m0:=j8 c (show(4:Int)≠0 by lia)
    have m1:=jZ c (show(0:Int)<4 by lia)
    rw[rn_s (by rw[S.run];exact zeo_ (q:=(10,[])) (d:=.str [s']) (a:=.int (c % 4)) (by exists hp,e4) rfl (by exists hp) rfl (zh4_ m0 (by simpa using m1)))]
    show En (S.runs gi pn _ [qI (.int c),qI (.int n),qI (.int p),qI (.str SG),qI (LS .int st),qI (LS .str l),qI (.int (0+(i:Int))),qI (.str t),a,b,qI (LS .str ([[s],[s],[s],[s]].set (c % 4).toNat [s']))]) _
    generalize hR:[[s],[s],[s],[s]].set (c % 4).toNat [s']=R
    obtain⟨w,ew,wl⟩:=zoA_ (row:=R) (by rw[<- hR,jO];rfl) (λt ht=>by
     rw[<- hR]at ht;rcases me ht with h |h
     ·simp at h;rw[h];rfl
     ·rw[h];rfl)
    rw[rn_e (zdw_ (o:=.append) (q:=(5,[])) (c:=LS .str l) (ds:=[.str (t++w)]) rfl rfl rfl (ag1 (by exists hp,xv_sm,zkZ_,smf_j,ew,ad_s (a:=t) (b:=w) (by lia))) (zdP_ (g:=.str) (by lia)))]
    refine⟨_,_,rfl,.inl ⟨.inl rfl,_,_,_,_,_,_,rfl,by rw[iP,iP,hll];rfl,λc hc=>?_⟩⟩
    rcases lH.mp hc with hc |hc
    ·exact au c hc
    ·rw[j6.mp hc]
     refine⟨by rw[iP,bN,wl],λi hi=>?_⟩
     rw[jP,jS (by lia),iL (by lia)]
     exact hts _ (mJ _)
  ·obtain⟨l,a,b,x,y,z,rfl,hll,au⟩:=he
   rw[jC]at hll;by_cases hb:(2<n/\c % 5=1)
   ·have hx:∃f,l[0]?=qI f:=⟨_,iL (by lia)⟩
    obtain⟨f,hf⟩:=hx;have e1:ixA (LS .str l) (.int 0)=.ok (.str f):=by rw[zeM_,VI.atI_nn (by lia) (a:=f) hf];rfl
    have r1:=rn_s (pn:=pn) (ss:=[]) (s:=.setI (.v 5) (.n 1) (.i (.v 5) 0)) (by rw[S.run];exact zeo_ (env:=[qI (.int c),qI (.int n),qI (.int p),qI (.str SG),qI (LS .int st),qI (LS .str l),a,b,x,y,z]) (q:=(5,[])) (d:=.str f) (a:=.int 1) (by exists hp,e1) rfl rfl rfl (zh4_ (i:=1) (by lia) (by lia)))
    have x4:(X.ev gi [qI (.int c),qI (.int n),qI (.int p),qI (.str SG),qI (LS .int st),qI (LS .str l),a,b,x,y,z] (.and (.bin .gt (.v 1) (.n 2)) (.bin .eq (.bin .mod (.v 0) (.n 5)) (.n 1)))).bind blD=.ok qK:=by
     exists decide_eq_true hb.1,decide_eq_true hb.2
    rw[S.runs,S.run,x4,ziI_,r1]
    exists hp
    refine⟨_,_,rfl,_,rfl,by rw[jO];lia,λc hc=>?_⟩
    rcases me hc with h |h
    ·exact au c h
    ·rw[h];exact au f (kj hf)
   ·have x4:(X.ev gi [qI (.int c),qI (.int n),qI (.int p),qI (.str SG),qI (LS .int st),qI (LS .str l),a,b,x,y,z] (.and (.bin .gt (.v 1) (.n 2)) (.bin .eq (.bin .mod (.v 0) (.n 5)) (.n 1)))).bind blD=.ok qL:=by
     have e1:(decide (2<n) && decide (c % 5=1))=qL:=by
      rw[<- Bool.not_eq_true,bR,decide_eq_true_eq,decide_eq_true_eq];exact hb
     exists e1
    rw[S.runs,S.run,x4,zjc_]
    exists hp
    exact⟨_,_,rfl,l,rfl,by lia,au⟩
 have hf:zak_=fnOf gi 3 8 zaA_:=rfl;obtain⟨o,e,h1,l,rfl,h2⟩:=key (pins [.int c,.int n,.int p]) (za5_ rfl);exact⟨l,by rw[hf];exact zen_ (ze7_ rfl rfl h1),h2⟩
def LZ:List Nat:=Qm1
theorem lz_ix (x:Int):∃s,ixA (.str LZ) (.int (x % 26))=.ok (.str [s]):=by
 obtain⟨s,e,hs⟩:=ze3_ (xs:=LZ) (j8 x (show(26:Int)≠0 by lia)) (show x % 26<(LZ.length:Int)from jZ x (show(0:Int)<26 by lia))
 refine⟨s,?_⟩;show Mo.lim LZ.length (Mo.opt ((atI LZ (x % 26)).map λc=>D.str [c]))=_
 rw[Mo.lim_ok (by decide),e];rfl
theorem zpx_ (c:Int):∃l:Cds,zaJ_.val [.int c]=.ok (LS .str l)/\l.length=3:=by
 have m0:=j8 c (show(8:Int)≠0 by lia)
 have m1:=jZ c (show(0:Int)<8 by lia)
 have key:∀pn:Nat->Bool,(∀i,pn i=qL)->En (S.runs gi pn zam_ ([.int c].map qI++iT 8 qJ)) λo _=>∃l:Cds,o=.rt (LS .str l)/\l.length=3:=λpn hp=>by
  unfold zam_;show En (S.runs gi pn _ [qI (.int c),qJ,qJ,qJ,qJ,qJ,qJ,qJ,qJ]) _
  rw[zaw_ (d:=.str LZ) (by exists hp;rfl) (hp _)]
  show En (S.runs gi pn _ [qI (.int c),qI (.str LZ),qJ,qJ,qJ,qJ,qJ,qJ,qJ]) _
  rw[zaw_ (d:=.int (1+c % 8)) (by exists hp) (hp _)]
  show En (S.runs gi pn _ [qI (.int c),qI (.str LZ),qI (.int (1+c % 8)),qJ,qJ,qJ,qJ,qJ,qJ]) _
  rw[zaw_ (d:=.int (c / 8 % (1+c % 8))) (by exists hp,VI.vd_mod (i:=c / 8) (j:=1+c % 8) (by lia)) (hp _)]
  show En (S.runs gi pn _ [qI (.int c),qI (.str LZ),qI (.int (1+c % 8)),qI (.int (c / 8 % (1+c % 8))),qJ,qJ,qJ,qJ,qJ]) _
  rw[zaw_ (d:=LS .str []) (by exists hp;rfl) (hp _)]
  generalize c / 8 % (1+c % 8)=at_
  show En (S.runs gi pn _ [qI (.int c),qI (.str LZ),qI (.int (1+c % 8)),qI (.int at_),qI (LS .str []),qJ,qJ,qJ,qJ]) _
  refine za2_ (l:=jw 3) (enc:=λi:Nat=>[.int (0+(i:Int))]) (d:=.int 3) (λd e=>∃l w x y z,e=[qI (.int c),qI (.str LZ),qI (.int (1+c % 8)),qI (.int at_),qI (LS .str l),w,x,y,z]/\l.length=d.length) (by exists hp) (rg1 (by lia) (by lia)) (zaK_ _ _) ⟨[],qJ,qJ,qJ,qJ,rfl,rfl⟩ (λd i r e hl he=>?_) λe he=>?_
  ·obtain⟨l,w,x,y,z,rfl,hll⟩:=he
   have hd:d.length<3:=by have:=congrArg jU hl;simp at this;lia
   refine⟨[qI (.int c),qI (.str LZ),qI (.int (1+c % 8)),qI (.int at_),qI (LS .str l),qI (.int (0+(i:Int))),x,y,z],(by exists hp),?_⟩
   rw[zaw_ (d:=.str []) (by exists hp) (hp _)]
   show En (S.runs gi pn _ [qI (.int c),qI (.str LZ),qI (.int (1+c % 8)),qI (.int at_),qI (LS .str l),qI (.int (0+(i:Int))),qI (.str []),y,z]) _
   refine za2_ (l:=jw (1+c % 8).toNat) (enc:=λi:Nat=>[.int (0+(i:Int))]) (d:=.int (1+c % 8)) (λd e=>∃t y z,e=[qI (.int c),qI (.str LZ),qI (.int (1+c % 8)),qI (.int at_),qI (LS .str l),qI (.int (0+(i:Int))),qI (.str t),y,z]/\t.length=d.length) (by exists hp) (rg1 (by lia) (by lia)) (zaK_ _ _) ⟨[],y,z,rfl,rfl⟩ (λd' j r' e bJ he=>?_) λe he=>?_
   ·obtain⟨t,y,z,rfl,bN⟩:=he
    have a6:d'.length<8:=by have:=congrArg jU bJ;simp at this;lia
    have hj:j<8:=by
     have:j∈jw (1+c % 8).toNat:=by rw[bJ];simp
     have:=ko.mp this;lia
    refine⟨[qI (.int c),qI (.str LZ),qI (.int (1+c % 8)),qI (.int at_),qI (LS .str l),qI (.int (0+(i:Int))),qI (.str t),qI (.int (0+(j:Int))),z],(by exists hp),?_⟩
    have ib:∀b:Bool,intB [.bl b]=.ok (.int (if b=qK then 1 else 0)):=λb=>rfl
    generalize hv:(if decide (0+(j:Int)=at_)=qK then(1:Int)else 0)=v
    have fN:v=1\/v=0:=by rw[<- hv];split<;>simp
    have e1:mulD (.int (0+(i:Int))) (.int v)=.ok (.int ((0+(i:Int))*v)):=zeZ_ (by lia) (by lia)
    have e2:mulD (.int (0+(j:Int))) (.int (0+(j:Int)))=.ok (.int ((0+(j:Int))*(0+(j:Int)))):=zeZ_ (by lia) (by lia)
    rw[zaw_ (d:=.int ((0+(i:Int))*v)) (by exists hp,ib,hv,e1) (hp _)]
    show En (S.runs gi pn _ [qI (.int c),qI (.str LZ),qI (.int (1+c % 8)),qI (.int at_),qI (LS .str l),qI (.int (0+(i:Int))),qI (.str t),qI (.int (0+(j:Int))),qI (.int ((0+(i:Int))*v))]) _
    obtain⟨s,es⟩:=lz_ix (c / 64+(0+(j:Int))*(0+(j:Int))+(0+(i:Int))*v);rw[zaw_ (d:=.str (t++[s])) (by exists hp,e2,es,ad_s (a:=t) (b:=[s]) (by simp;lia)) (hp _)]
    exact⟨_,_,rfl,.inl ⟨.inl rfl,_,_,_,rfl,by rw[iP,iP,bN];rfl⟩⟩
   ·obtain⟨t,y,z,rfl,bN⟩:=he
    rw[rn_e (zdw_ (o:=.append) (q:=(4,[])) (c:=LS .str l) (ds:=[.str t]) rfl rfl rfl (ag1 (by exists hp)) (zdP_ (g:=.str) (by lia)))]
    exact⟨_,_,rfl,.inl ⟨.inl rfl,_,_,_,_,_,rfl,by rw[iP,iP,hll];rfl⟩⟩
  ·obtain⟨l,w,x,y,z,rfl,hll⟩:=he
   exists hp
   exact⟨_,_,rfl,l,rfl,hll⟩
 have hf:zaJ_=fnOf gi 1 8 zam_:=rfl;obtain⟨o,e,h1,l,rfl,h2⟩:=key (pins [.int c]) (za5_ rfl);exact⟨l,by rw[hf];exact zen_ (ze7_ rfl rfl h1),h2⟩
theorem ziG_ {n:List Nat}{d:Cds}{m:TT}:sz (up n d m)<=sz m+d.length:=by
 by_cases h:n∈m.map (·.1)
 ·have:=zm8_ (d:=d) h;lia
 ·unfold up sz;rw[if_neg h,jD,List.sum_append];simp
theorem zfz_ {n:List Nat}{d:Cds}{m:TT}:(up n d m).length<=m.length+1:=by
 unfold up;split
 ·rw[jO];lia
 ·rw[iP];simp
theorem ziU_ {n:List Nat}{d:Cds}{m:TT}(hm:∀q∈m,∀c∈q.2,CD c)(hd:∀c∈d,CD c):∀q∈up n d m,∀c∈q.2,CD c:=by
 by_cases h:n∈m.map (·.1)
 ·exact znq_ h hm hd
 ·unfold up;rw[if_neg h];intro q hq
  rcases lH.mp hq with z |z
  ·exact hm q z
  ·rw[j6.mp z];exact hd
structure OkT (t:TT):Prop where
 nd:(t.map (·.1)).Nodup
 ln:t.length<=3
 sz:sz t<=30
 cd:∀q∈t,∀c∈q.2,CD c
theorem zpr_ (ns:List Int)(a b:Jx):∃t:TT,zaH_.val [scr ns,.fz (LS .str [a,b])]=.ok (TD t)/\OkT t/\a∈t.map (·.1)/\b∈t.map (·.1):=by
 have key:∀pn:Nat->Bool,(∀i,pn i=qL)->En (S.runs gi pn zap_ ([scr ns,.fz (LS .str [a,b])].map qI++iT 3 qJ)) λo _=>∃t:TT,o=.rt (TD t)/\OkT t/\a∈t.map (·.1)/\b∈t.map (·.1):=λpn hp=>by
  unfold zap_;show En (S.runs gi pn _ [qI (scr ns),qI (.fz (LS .str [a,b])),qJ,qJ,qJ]) _
  rw[zaw_ (d:=TD []) (by exists hp;rfl) (hp _)]
  show En (S.runs gi pn _ [qI (scr ns),qI (.fz (LS .str [a,b])),qI (TD []),qJ,qJ]) _
  have rr:=rg1 (j:=2) (by lia) (by lia)
  refine za2_ (l:=jw 2) (enc:=λi:Nat=>[.int (0+(i:Int))]) (d:=.int 2) (λd e=>∃(t:TT) (w x:Option D),e=[qI (scr ns),qI (.fz (LS .str [a,b])),qI (TD t),w,x]/\(t.map (·.1)).Nodup/\t.length<=d.length/\sz t<=7*d.length/\(∀q∈t,∀c∈q.2,CD c)/\∀i<d.length,([a,b].getD i [])∈t.map (·.1)) (by exists zag_,zgi_;rfl) rr (zaK_ _ _) ⟨[],qJ,qJ,rfl,pz,kJ _,kJ _,(λ_ h=>by cases h),(λ_ h=>by cases h)⟩ (λd i r e hl he=>?_) λe he=>?_
  ·obtain⟨t,w,x,rfl,h1,h2,h3,h4,h5⟩:=he
   have hi:i=d.length:=by
    have:=congrArg (·[d.length]?) hl;simp only[jy (iW _),nW,nJ]at this;rw[i6]at this;obtain⟨h,e⟩:=this;rw[m4]at e;exact e.symm
   have hd:d.length<2:=by have:=congrArg jU hl;simp at this;lia
   subst hi;refine⟨[qI (scr ns),qI (.fz (LS .str [a,b])),qI (TD t),qI (.int (0+(d.length:Int))),x],(by exists hp),?_⟩
   obtain⟨c,ec⟩:=zjv_ ns (k:=1+(0+(d.length:Int))) (by lia)
   rw[zaw_ (d:=.int c) (by exists hp,zdd_,ec) (hp _)]
   show En (S.runs gi pn _ [qI (scr ns),qI (.fz (LS .str [a,b])),qI (TD t),qI (.int (0+(d.length:Int))),qI (.int c)]) _
   have m0:=j8 c (show(4:Int)≠0 by lia)
   have m1:=jZ c (show(0:Int)<4 by lia)
   have n0:=j8 (c / 4) (show(7:Int)≠0 by lia)
   have n1:=jZ (c / 4) (show(0:Int)<7 by lia)
   obtain⟨p,ep,p0,p1⟩:∃p:Int,ixA (.nd .lst [.int 2,.int 3,.int 37,.int 1]) (.int (c % 4))=.ok (.int p)/\0<p/\p<=37:=by
    rcases(show c % 4=0\/c % 4=1\/c % 4=2\/c % 4=3 by lia)with h |h |h |h<;>rw[h]<;>exact⟨_,rfl,by lia,by lia⟩
   obtain⟨l,el,ll,lc⟩:=zhw_ c (n:=c / 4 % 7) (p:=p) n0 (by lia) p0 p1
   have e1:ixA (LS .str [a,b]) (.int (0+(d.length:Int)))=.ok (.str ([a,b].getD d.length [])):=by
    rw[zeM_,VI.atI_nn (by lia) (a:=[a,b].getD d.length []) (by rw[show(0+(d.length:Int)).toNat=d.length by lia,jP,iL (by simpa using hd)];rfl)];rfl
   rw[rn_s (by rw[S.run];exact zeo_ (q:=(2,[])) (d:=LS .str l) (a:=.str ([a,b].getD d.length [])) (c:=TD t) (by exists hp,ep,el) rfl (by exists hp,e1) rfl (zdE_ (by lia)))]
   have hz:=ziG_ (n:=[a,b].getD d.length []) (d:=l) (m:=t);have bg:=zfz_ (n:=[a,b].getD d.length []) (d:=l) (m:=t);refine⟨_,_,rfl,.inl ⟨.inl rfl,_,_,_,rfl,zpl_ h1,by rw[iP,lC];lia,by rw[iP,lC];lia,ziU_ h4 lc,λj hj=>?_⟩⟩
   rw[iP]at hj;by_cases z:j<d.length
   ·exact zab_ (h5 j z)
   ·rw[show j=d.length by simp at hj;lia];exact zl4_
  ·obtain⟨t,w,x,rfl,h1,h2,h3,h4,h5⟩:=he
   have ha:a∈t.map (·.1):=h5 0 (by simp)
   have hb:b∈t.map (·.1):=h5 1 (by simp)
   have h2:t.length<=2:=h2;have h3:sz t<=14:=h3;obtain⟨c,ec⟩:=zjv_ ns (k:=0) (by lia)
   by_cases hc:c % 3=1
   ·obtain⟨l,el,ll,lc⟩:=zhw_ c (n:=2) (p:=37) (by lia) (by lia) (by lia) (by lia)
    have x4:(X.ev gi [qI (scr ns),qI (.fz (LS .str [a,b])),qI (TD t),w,x] (.bin .eq (.bin .mod (zu_ [(.v 0),(.n 0)]) (.n 3)) (.n 1))).bind blD=.ok qK:=by
     exists zdd_,ec,decide_eq_true hc
    have r1:=rn_s (pn:=pn) (ss:=[]) (s:=.setI (.v 2) (.k (.str [45])) (.call zak_ "_law_deck" [(zu_ [(.v 0),(.n 0)]),(.n 2),(.n 37)])) (by rw[S.run];exact zeo_ (env:=[qI (scr ns),qI (.fz (LS .str [a,b])),qI (TD t),w,x]) (q:=(2,[])) (d:=LS .str l) (a:=.str DS) (by exists zdd_,ec,el) rfl rfl rfl (zdE_ (by lia)))
    rw[S.runs,S.run,x4,ziI_,r1]
    exists hp
    have hz:=ziG_ (n:=DS) (d:=l) (m:=t);have bg:=zfz_ (n:=DS) (d:=l) (m:=t);have ll:l.length=2:=ll;exact⟨_,_,rfl,_,rfl,⟨zpl_ h1,by lia,by lia,ziU_ h4 lc⟩,zab_ ha,zab_ hb⟩
   ·have x4:(X.ev gi [qI (scr ns),qI (.fz (LS .str [a,b])),qI (TD t),w,x] (.bin .eq (.bin .mod (zu_ [(.v 0),(.n 0)]) (.n 3)) (.n 1))).bind blD=.ok qL:=by
     exists zdd_,ec,decide_eq_false hc
    rw[S.runs,S.run,x4,zjc_]
    exists hp
    exact⟨_,_,rfl,t,rfl,⟨h1,by lia,by lia,h4⟩,ha,hb⟩
 have hf:zaH_=fnOf gi 2 3 zap_:=rfl;obtain⟨o,e,h1,l,rfl,h2⟩:=key (pins [scr ns,.fz (LS .str [a,b])]) (za5_ rfl);exact⟨l,by rw[hf];exact zen_ (ze7_ rfl rfl h1),h2⟩
theorem znL_ (c:Int):∃v:Int,zba_.val [.int c,.int 0]=.ok (.int v):=by
 have m0:=j8 c (show(2147483647:Int)≠0 by lia)
 have m1:=jZ c (show(0:Int)<2147483647 by lia)
 refine⟨(c % 2147483647+69621+0)*(c % 2147483647+69621+0) % 2147483629,zbw_ rfl rfl λpn hp=>?_⟩
 unfold zbd_;have e1:mulD (.int 7) (.int 0)=.ok (.int 0):=zcr_ (by lia) (by lia)
 exists hp,e1,zcr_ (i:=c % 2147483647+69621+0) (j:=c % 2147483647+69621+0) (by lia) (by lia)
 fail "q"
theorem zfu_ (c:Int)(a b:Jx){t:TT}(ht:OkT t):∃g:Go,zR_.val [.int c,.fz (LS .str [a,b]),.fz (TD t)]=.ok (GO g)/\OkG g/\(g.nm=a\/g.nm=b\/g.nm=DS):=by
 obtain⟨v,ev⟩:=znL_ c;have m0:=j8 v (show(5:Int)≠0 by lia)
 have m1:=jZ v (show(0:Int)<5 by lia)
 have n0:=j8 (v / 5) (show(36:Int)≠0 by lia)
 have n1:=jZ (v / 5) (show(0:Int)<36 by lia)
 obtain⟨nm,en,hn⟩:∃nm,ixA (LS .str [a,b,a,b,DS]) (.int (v % 5))=.ok (.str nm)/\(nm=a\/nm=b\/nm=DS):=by
  rcases(show v % 5=0\/v % 5=1\/v % 5=2\/v % 5=3\/v % 5=4 by lia)with h |h |h |h |h<;>rw[h]
  ·exact⟨a,rfl,.inl rfl⟩
  ·exact⟨b,rfl,.inr (.inl rfl)⟩
  ·exact⟨a,rfl,.inl rfl⟩
  ·exact⟨b,rfl,.inr (.inl rfl)⟩
  ·exact⟨DS,rfl,.inr (.inr rfl)⟩
 have key:∀pn:Nat->Bool,(∀i,pn i=qL)->En (S.runs gi pn zao_ ([.int c,.fz (LS .str [a,b]),.fz (TD t)].map qI++iT 5 qJ)) λo _=>∃g:Go,o=.rt (GO g)/\OkG g/\(g.nm=a\/g.nm=b\/g.nm=DS):=λpn hp=>by
  unfold zao_;show En (S.runs gi pn _ [qI (.int c),qI (.fz (LS .str [a,b])),qI (.fz (TD t)),qJ,qJ,qJ,qJ,qJ]) _
  rw[zaw_ (d:=.str SG) (by exists hp;rfl) (hp _)]
  show En (S.runs gi pn _ [qI (.int c),qI (.fz (LS .str [a,b])),qI (.fz (TD t)),qI (.str SG),qJ,qJ,qJ,qJ]) _
  rw[zaw_ (d:=.int v) (by exists hp,ev) (hp _)]
  show En (S.runs gi pn _ [qI (.int c),qI (.fz (LS .str [a,b])),qI (.fz (TD t)),qI (.str SG),qI (.int v),qJ,qJ,qJ]) _
  have x1:X.ev gi [qI (.int c),qI (.fz (LS .str [a,b])),qI (.fz (TD t)),qI (.str SG),qI (.int v),qJ,qJ,qJ] (.bin .ix (.bin .add (.bin .add (.v 1) (.v 1)) (.lst [(.k (.str [45]))])) (.bin .mod (.v 4) (.n 5)))=.ok (.str nm):=by
   have a1:addA (LS .str [a,b]) (LS .str [a,b])=.ok (LS .str [a,b,a,b]):=zg0_ (g:=.str) (a:=[a,b]) (b:=[a,b]) (by simp)
   have a2:addA (LS .str [a,b,a,b]) (.nd .lst [.str [45]])=.ok (LS .str [a,b,a,b,DS]):=zg0_ (g:=.str) (a:=[a,b,a,b]) (b:=[DS]) (by simp)
   exists zag_,a1,a2,en
  rw[zaw_ (d:=.str nm) (by rw[zeu_,x1];exact zs_ _ (zdL_ _)) (hp _)]
  show En (S.runs gi pn _ [qI (.int c),qI (.fz (LS .str [a,b])),qI (.fz (TD t)),qI (.str SG),qI (.int v),qI (.str nm),qJ,qJ]) _
  rw[zaw_ (d:=.int (1+v / 5 % 36)) (by exists hp) (hp _)]
  show En (S.runs gi pn _ [qI (.int c),qI (.fz (LS .str [a,b])),qI (.fz (TD t)),qI (.str SG),qI (.int v),qI (.str nm),qI (.int (1+v / 5 % 36)),qJ]) _
  by_cases hv:0<v / 180 % 3
  ·exists hp,decide_eq_true hv
   exact⟨_,_,rfl,⟨nm,1+v / 5 % 36,qJ⟩,rfl,⟨by show 1<=1+v / 5 % 36;lia,by show 1+v / 5 % 36<=36;lia⟩,hn⟩
  ·rw [rn_s (e1:=[qI (.int c),qI (.fz (LS .str [a,b])),qI (.fz (TD t)),qI (.str SG),qI (.int v),qI (.str nm),qI (.int (1+v / 5 % 36)),qJ]) (by exists hp,decide_eq_false hv)]
   obtain⟨s,hs,e3⟩:=sgm (v / 540);rw[zaw_ (d:=.str [s]) (by exists hp,e3) (hp _)]
   show En (S.runs gi pn _ [qI (.int c),qI (.fz (LS .str [a,b])),qI (.fz (TD t)),qI (.str SG),qI (.int v),qI (.str nm),qI (.int (1+v / 5 % 36)),qI (.str [s])]) _
   have fin:∀s,En (S.runs gi pn [.ret (.pu (.tup [(.k (.str [112,105,99,107])),(.v 5),(.v 6),(.v 7)]))] [qI (.int c),qI (.fz (LS .str [a,b])),qI (.fz (TD t)),qI (.str SG),qI (.int v),qI (.str nm),qI (.int (1+v / 5 % 36)),qI (.str [s])]) λo _=>∃g:Go,o=.rt (GO g)/\OkG g/\(g.nm=a\/g.nm=b\/g.nm=DS):=λs=>by
    exists hp
    exact⟨_,_,rfl,⟨nm,1+v / 5 % 36,qI s⟩,rfl,⟨by show 1<=1+v / 5 % 36;lia,by show 1+v / 5 % 36<=36;lia⟩,hn⟩
   have bZ:∃l:Cds,X.ev gi [qI (.int c),qI (.fz (LS .str [a,b])),qI (.fz (TD t)),qI (.str SG),qI (.int v),qI (.str nm),qI (.int (1+v / 5 % 36)),qI (.str [s])] (.get (.v 2) (.v 5) (.lst []))=.ok (.fz (LS .str l))/\(l≠[]->ixA (TD t) (.str nm)=.ok (.fz (LS .str l))/\∀c∈l,CD c):=by
    have e0:∀r,getK (t.map (λq=>kN_t q.1),t.map λq=>LS D.str q.2) (.str nm) (.nd .lst [])=r->X.ev gi [qI (.int c),qI (.fz (LS .str [a,b])),qI (.fz (TD t)),qI (.str SG),qI (.int v),qI (.str nm),qI (.int (1+v / 5 % 36)),qI (.str [s])] (.get (.v 2) (.v 5) (.lst []))=r:=λr h=>by rw[<- h];rfl
    by_cases hm:nm∈t.map (·.1)
    ·refine⟨gt nm t,e0 _ ?_,λ_=>⟨zdv_ hm,ht.cd _ (zcF_ hm)⟩⟩
     have:=zdv_ hm;have h2:Mo.opt ((valD (t.map λq=>kN_t q.1) (t.map λq=>LS D.str q.2) (kN_t nm)).map D.vw)=.ok (.fz (LS .str (gt nm t))):=this
     show Mq ((valD (t.map λq=>kN_t q.1) (t.map λq=>LS D.str q.2) (kN_t nm)).getD (.nd .lst [])).vw=_
     cases hv:valD (t.map λq=>kN_t q.1) (t.map λq=>LS D.str q.2) (kN_t nm)with
     |none=>rw[hv]at h2;cases h2
     |some d=>rw[hv]at h2;exact h2
    ·refine⟨[],e0 _ ?_,λh=>absurd rfl h⟩
     have e:valD (t.map λq=>kN_t q.1) (t.map λq=>LS D.str q.2) (kN_t nm)=qJ:=by
      have:=td_in (g:=LS .str) qL t nm;rw[decide_eq_false hm]at this;have h2:Mq (D.bl (valD (t.map λq=>kN_t q.1) (t.map λq=>LS D.str q.2) (kN_t nm)).isSome)=Mq (D.bl qL):=this
      injection h2 with h2;injection h2 with h2;exact ky.mp (by rw[<- Option.not_isSome,h2];rfl)
     show Mq ((valD (t.map λq=>kN_t q.1) (t.map λq=>LS D.str q.2) (kN_t nm)).getD (.nd .lst [])).vw=_
     rw[e];rfl
   obtain⟨l,el,hl⟩:=bZ;by_cases hc:0<v / 540 % 4/\l≠[]
   ·obtain⟨e4,au⟩:=hl hc.2
    obtain⟨x,l',rfl⟩:∃x l',l=x::l':=List.exists_cons_of_ne_nil hc.2;have hx:CD x:=au x i5;have e5:eqD qK (LS .str (x::l')) (.nd .lst [])=.ok (.bl qK):=rfl;have x4:(X.ev gi [qI (.int c),qI (.fz (LS .str [a,b])),qI (.fz (TD t)),qI (.str SG),qI (.int v),qI (.str nm),qI (.int (1+v / 5 % 36)),qI (.str [s])] (.and (.bin .gt (.bin .mod (.bin .div (.v 4) (.n 540)) (.n 4)) (.n 0)) (.bin .ne (.get (.v 2) (.v 5) (.lst [])) (.lst [])))).bind blD=.ok qK:=by
     exists decide_eq_true hc.1,el,e5
    have e6:ixA (LS .str (x::l')) (.int 0)=.ok (.str x):=by rw[zeM_,VI.atI_nn (by lia) (a:=x) rfl];rfl
    have e7:=six (g:=⟨nm,1+v / 5 % 36,qJ⟩) ⟨by show 1<=1+v / 5 % 36;lia,by show 1+v / 5 % 36<=36;lia⟩ hx
    have e7:ixA (.str x) (.int (1+v / 5 % 36-1))=_:=e7;rw[S.runs,S.run,x4,ziI_,zaw_ (ss:=[]) (d:=.str [sgn ⟨nm,1+v / 5 % 36,qJ⟩ x]) (by exists hp,zc5_,e4,e6,e7) (hp _),S.runs,zge_]
    exact fin _
   ·have x4:(X.ev gi [qI (.int c),qI (.fz (LS .str [a,b])),qI (.fz (TD t)),qI (.str SG),qI (.int v),qI (.str nm),qI (.int (1+v / 5 % 36)),qI (.str [s])] (.and (.bin .gt (.bin .mod (.bin .div (.v 4) (.n 540)) (.n 4)) (.n 0)) (.bin .ne (.get (.v 2) (.v 5) (.lst [])) (.lst [])))).bind blD=.ok qL:=by
     by_cases h4:0<v / 540 % 4
     ·have hn:l=[]:=Classical.byContradiction λz=>hc ⟨h4,z⟩
      subst hn;have e5:eqD qK (LS .str []) (.nd .lst [])=.ok (.bl qL):=rfl
      exists decide_eq_true h4,el,e5
      rfl
     ·exists decide_eq_false h4
    rw[S.runs,S.run,x4,zjc_,S.runs,zge_];exact fin _
 have hf:zR_=fnOf gi 3 5 zao_:=rfl;obtain⟨o,e,h1,l,rfl,h2⟩:=key (pins [.int c,.fz (LS .str [a,b]),.fz (TD t)]) (za5_ rfl);exact⟨l,by rw[hf];exact zen_ (ze7_ rfl rfl h1),h2⟩
theorem zpa_ (g:Go):zv_.val [GO g]=.ok (GO g):=by
 have key:∀xs:List D,(∀d∈xs,d.vw=d/\isaD "list" d=.ok (.bl qL))->xs.length<=10->GO g=.nd .tup xs->zv_.val [GO g]=.ok (GO g):=λxs hx hl e=>by
  have hc:D.colds [GO g]=qK:=by show((GO g).cold && qK)=qK;rw[zfN_ g];rfl
  refine zbw_ rfl hc λpn hp=>?_
  unfold zaQ_;show En (S.runs gi pn _ [qI (GO g)]) _
  have:=xcompN (G:=gi) (env:=[qI (GO g)]) (lv:=["part"]) (fr:=[]) (ik:=.any) (src:=[.v 0]) (tg:=⟨qL,[0]⟩) (f:=λd:D=>d) (o:=λd=>d) (e:=.ifx (.isa (.v 0) "list") (.bf .list [(.v 0)]) (.v 0)) (items:=xs.map λd=>d) (T:=λx=>[x]) xs rfl (by
   have h1:getE [qI (GO g)] 0=.ok (GO g):=by show Mq (GO g).vw=_;rw[zcY_]
   have h2:walkA [GO g]=.ok xs:=by rw[e];rfl
   exists h1,h2
   rw[mD]) (zaK_ _ _) (λd h=>by
   have h0:X.ev gi (setE (cE ["part"] [] [qI (GO g)]) [0] [d]) (.v 0)=.ok d:=by show Mq d.vw.vw=_;rw[(hx d h).1,(hx d h).1]
   rw[zkp_,zld_,h0,zb5_,(hx d h).2];rfl) (by lia)
  have e2:tuplD [LS (λd=>d) (xs.map λd=>d)]=.ok (GO g):=by
   rw[e];show Mq (D.nd .tup (((xs.map λd=>d).map λd=>d).map .vw))=_
   rw[mD,mD,ka (g:=id) λd h=>(hx d h).1,oj]
  rw[zlE_ (d:=GO g) (e:=[qI (GO g)]) (by
   rw[zeu_,xv_bf,xs_c,this,zb5_,xs_0,zb5_,zb5_];show keep (tuplD [LS (λd=>d) (xs.map λd=>d)]) _ _=_
   rw[e2];exact zs_ _ (zhb_ g))]
  exact⟨_,_,rfl,.inl rfl⟩
 obtain⟨nm,col,sg⟩:=g;cases sg with
 | none=>exact key [.str WD,.str nm,.int col] (λd h=>by
   simp only[ju,oX,or_false]at h;rcases h with rfl |rfl |rfl<;>exact⟨rfl,rfl⟩) (by simp) rfl
 | some s=>exact key [.str WP,.str nm,.int col,.str [s]] (λd h=>by
   simp only[ju,oX,or_false]at h;rcases h with rfl |rfl |rfl |rfl<;>exact⟨rfl,rfl⟩) (by simp) rfl
def ups (d:TT):TT:=d.foldl (λm q=>up q.1 q.2 m) [(DS,[])]
theorem zh9_ (d:TT)(q:List Nat×Cds):ups (d++[q])=up q.1 q.2 (ups d):=by unfold ups;rw[List.foldl_append];rfl
theorem zfx_:∀(d:TT),(ups d).length<=d.length+1:=λd=>by
 suffices∀(d m:TT),(d.foldl (λm q=>up q.1 q.2 m) m).length<=d.length+m.length from by have:=this d [(DS,[])];exact this
 intro d;induction d with
 |nil=>intro m;simp
 |cons q d ih=>intro m;have:=ih (up q.1 q.2 m);have:=zfz_ (n:=q.1) (d:=q.2) (m:=m);rw[l0,iR];lia
theorem zoV_ {t:TT}(ht:OkT t):((ups t).map (·.1)).Nodup/\sz (ups t)<=30/\(∀q∈ups t,∀c∈q.2,CD c)/\DS∈(ups t).map (·.1)/\∀n∈t.map (·.1),n∈(ups t).map (·.1):=by
 suffices∀(d m:TT),(m.map (·.1)).Nodup->(∀q∈d,∀c∈q.2,CD c)->(∀q∈m,∀c∈q.2,CD c)->DS∈m.map (·.1)->((d.foldl (λm q=>up q.1 q.2 m) m).map (·.1)).Nodup/\sz (d.foldl (λm q=>up q.1 q.2 m) m)<=sz m+sz d/\(∀q∈d.foldl (λm q=>up q.1 q.2 m) m,∀c∈q.2,CD c)/\DS∈(d.foldl (λm q=>up q.1 q.2 m) m).map (·.1)/\(∀n∈m.map (·.1),n∈(d.foldl (λm q=>up q.1 q.2 m) m).map (·.1))/\∀n∈d.map (·.1),n∈(d.foldl (λm q=>up q.1 q.2 m) m).map (·.1)from by
  obtain⟨a,b,c,d,_,e⟩:=this t [(DS,[])] (by simp) ht.cd (λq h=>by rw[j6.mp h];intro c h;cases h) (by simp)
  refine⟨a,?_,c,d,e⟩;have h0:sz [(DS,[])]=0:=rfl;have:=ht.sz;show sz (mZ _ _ _)<=30
  lia
 intro d;induction d with
 |nil=>intro m h1 h2 h3 h4;exact⟨h1,Nat.le_add_right _ _,h3,h4,λn h=>h,λn h=>by cases h⟩
 |cons q d ih=>
  intro m h1 h2 h3 h4;obtain⟨a,b,c,e,f,g⟩:=ih (up q.1 q.2 m) (zpl_ h1) (λq h=>h2 q (i7 _ h)) (ziU_ h3 (h2 q i5)) (zab_ h4)
  have hz:=ziG_ (n:=q.1) (d:=q.2) (m:=m);have hs:sz (q::d)=q.2.length+sz d:=by unfold sz;rw[iN,nu]
  rw[l0];refine⟨a,by lia,c,e,λn h=>f n (zab_ h),λn h=>?_⟩
  rw[iN]at h;rcases ju.mp h with rfl |h
  ·exact f _ zl4_
  ·exact g n h
theorem zog_ {t:TT}{P:List Go}(ht:OkT t)(hP:P.length<=1000):zi_ [.nd (.obj "Clerk" []) [],.fz (TD t),.fz (LS GO P)]=.ok .non [KO (ups t) P 0 .non [],.fz (TD t),.fz (LS GO P)]:=by
 have run:∀q:Nat->Bool,q 3=qL->En (S.runs gi q zJ_ ([.nd (.obj "Clerk" []) [],.fz (TD t),.fz (LS GO P)].map qI++iT 1 qJ)) λo e=>o=.nx/\∃a,e=[qI (KO (ups t) P 0 .non []),qI (.fz (TD t)),qI (.fz (LS GO P)),a]:=λq q3=>by
  unfold zJ_;show En (S.runs gi q _ [qI (.nd (.obj "Clerk" []) []),qI (.fz (TD t)),qI (.fz (LS GO P)),qJ]) _
  rw[rn_s (by rw[S.run];exact zgp_ (q:=(0,[])) (d:=TD [(DS,[])]) (C:="Clerk") (ns:=[]) (xs:=[]) (by
   have:X.ev gi [qI (.nd (.obj "Clerk" []) []),qI (.fz (TD t)),qI (.fz (LS GO P)),qJ] (.ds1 (.g "ASIDE" (.str [45])) (.lst []))=.ok (TD [(DS,[])]):=rfl;rw[this];exact zs_ _ (zgQ_ _)) rfl rfl (by decide) rfl)]
  show En (S.runs gi q _ [qI (.nd (.obj "Clerk" ["trays"]) [TD [(DS,[])]]),qI (.fz (TD t)),qI (.fz (LS GO P)),qJ]) _
  refine zhv_ (l:=t) (enc:=λq=>[.str q.1]) (d:=.fz (TD t)) (λd e=>∃a,e=[qI (.nd (.obj "Clerk" ["trays"]) [TD (ups d)]),qI (.fz (TD t)),qI (.fz (LS GO P)),a]) (by
   have:(D.fz (TD t)).new=qL:=by rw[D.new];rfl
   show keep (.ok (.fz (TD t))) _ _=_
   rw[zcs_ _ this];rfl) rfl (by rw[zob_];exact zaK_ _ _) ⟨qJ,rfl⟩ (λd p r e hl he=>?_) λe he=>?_
  ·obtain⟨a,rfl⟩:=he
   have hp:p∈t:=by rw[hl];simp
   refine⟨[qI (.nd (.obj "Clerk" ["trays"]) [TD (ups d)]),qI (.fz (TD t)),qI (.fz (LS GO P)),qI (.str p.1)],(by exists q3),?_⟩
   have e1:=zdv_ (m:=t) (n:=p.1) (jV.mpr ⟨p,hp,rfl⟩);rw[gt_of ht.nd hp]at e1;have gE:=zfx_ d;have dw:d.length<=t.length:=by rw[hl,iP];lia
   have:=ht.ln;rw[rn_s (by rw[S.run];exact zeo_ (q:=(0,[0])) (d:=LS .str p.2) (a:=.str p.1) (c:=TD (ups d)) (by exists q3,zc5_,e1) rfl rfl rfl (zdE_ (by lia)))]
   refine⟨_,_,rfl,.inl ⟨.inl rfl,qI (.str p.1),?_⟩⟩;rw[zh9_];rfl
  ·obtain⟨a,rfl⟩:=he
   have x1:X.ev gi [qI (.nd (.obj "Clerk" ["trays"]) [TD (ups t)]),qI (.fz (TD t)),qI (.fz (LS GO P)),a] (.comp ["going"] [] .any [(.v 2)] ⟨qL,[0]⟩ qJ (.call zv_ "copied_going" [(.v 0)]))=.ok (LS GO P):=by
    have:=xcompN (G:=gi) (env:=[qI (.nd (.obj "Clerk" ["trays"]) [TD (ups t)]),qI (.fz (TD t)),qI (.fz (LS GO P)),a]) (lv:=["going"]) (fr:=[]) (ik:=.any) (src:=[.v 2]) (tg:=⟨qL,[0]⟩) (f:=λd:Go=>d) (o:=GO) (e:=.call zv_ "copied_going" [(.v 0)]) (items:=P.map GO) (T:=λx=>[GO x]) P rfl (by exists zag_) (zaK_ _ _) (λg h=>by
     have h0:X.ev gi (setE (cE ["going"] [] [qI (.nd (.obj "Clerk" ["trays"]) [TD (ups t)]),qI (.fz (TD t)),qI (.fz (LS GO P)),a]) [0] [GO g]) (.v 0)=.ok (GO g):=by show Mq (GO g).vw.vw=_;rw[zcY_ (g:=GO),zcY_ (g:=GO)]
     rw[zhd_,xs_c,h0,zb5_,xs_0,zb5_,zb5_];show zv_.val [(GO g).vw]=_
     rw[zcY_];exact zpa_ g) (by lia)
    rw[this,mD]
   rw[rn_s (by rw[S.run];exact zgp_ (q:=(0,[])) (d:=LS GO P) (C:="Clerk") (ns:=["trays"]) (by rw[x1];exact zs_ _ zaT_) rfl rfl (by decide) rfl)]
   show En (S.runs gi q _ [qI (.nd (.obj "Clerk" ["trays", "plan"]) [TD (ups t),LS GO P]),qI (.fz (TD t)),qI (.fz (LS GO P)),a]) _
   rw[rn_s (by rw[S.run];exact zgp_ (q:=(0,[])) (d:=.int 0) (C:="Clerk") (ns:=["trays", "plan"]) rfl rfl rfl (by decide) rfl)]
   show En (S.runs gi q _ [qI (.nd (.obj "Clerk" ["trays", "plan", "done"]) [TD (ups t),LS GO P,.int 0]),qI (.fz (TD t)),qI (.fz (LS GO P)),a]) _
   rw[rn_s (by rw[S.run];exact zgp_ (q:=(0,[])) (d:=.non) (C:="Clerk") (ns:=["trays", "plan", "done"]) rfl rfl rfl (by decide) rfl)]
   show En (S.runs gi q _ [qI (.nd (.obj "Clerk" ["trays", "plan", "done", "machine"]) [TD (ups t),LS GO P,.int 0,.non]),qI (.fz (TD t)),qI (.fz (LS GO P)),a]) _
   rw[rn_s (by rw[S.run];exact zgp_ (q:=(0,[])) (d:=.nd .lst []) (C:="Clerk") (ns:=["trays", "plan", "done", "machine"]) rfl rfl rfl (by decide) rfl)]
   show En (S.runs gi q _ [qI (.nd (.obj "Clerk" ["trays", "plan", "done", "machine", "hopper"]) [TD (ups t),LS GO P,.int 0,.non,.nd .lst []]),qI (.fz (TD t)),qI (.fz (LS GO P)),a]) _
   rw[rn_s (by rw[S.run];exact zgp_ (q:=(0,[])) (d:=.nd .lst []) (C:="Clerk") (ns:=["trays", "plan", "done", "machine", "hopper"]) rfl rfl rfl (by decide) rfl)]
   exact⟨_,_,rfl,rfl,_,rfl⟩
 obtain⟨o,e,h1,rfl,a,rfl⟩:=run (pins [.nd (.obj "Clerk" []) [],.fz (TD t),.fz (LS GO P)]) rfl;rw[show zi_=fnOf gi 3 1 zJ_ from rfl,zc4_ (n:=3) rfl h1]
 rfl
theorem znY_ {m:TT}{P:List Go}{k:Nat}:(KO m P k .non []).new=qK:=by
 show(D.nd _ _).new=qK
 rw[D.new,D.news,D.news,D.news,D.news,D.news,D.news,D.news,zgQ_,zaT_,zaT_,zeI_,zha_];rfl
theorem zji_ (t:TT):nedD (.fz (TD t)) (.fz (TD t))=.ok (.bl qL):=by
 have h:∃bs,eqsD (t.map λq=>LS D.str q.2) (t.map λq=>LS D.str q.2)=qI bs/\bs.all id=qK:=by
  induction t with
  |nil=>exact⟨[],rfl,rfl⟩
  |cons q t ih=>
   obtain⟨bs,e,h⟩:=ih;refine⟨qK::bs,?_,by rw[jY,h];rfl⟩
   rw[iN,eqsD,zfr_,e];rfl
 obtain⟨bs,e,h⟩:=h;show Mo.grd ((t.map λq=>kN_t q.1)=t.map λq=>kN_t q.1) ((Mo.opt (eqsD (t.map λq=>LS D.str q.2) (t.map λq=>LS D.str q.2))).bind λbs=>.ok (D.bl (!(bs.all id))))=_
 rw[Mo.grd_ok rfl,e];show Mq (D.bl (!(bs.all id)))=_
 rw[h];rfl
theorem eq_go (g:Go):eqT 11 (GO g) (GO g)=qI qK:=by
 obtain⟨nm,col,sg⟩:=g;cases sg with
 |none=>
  show((eqT 10 (.str WD) (.str WD)).bind λx=>((eqT 10 (.str nm) (.str nm)).bind λx=>((eqT 10 (.int col) (.int col)).bind λx=>(qI qK).map λy=>x && y).map λy=>x && y).map λy=>x && y).map (λb=>b && qK)=_
  rw[zdB_,zdB_,ziL_];simp
 |some s=>
  show((eqT 10 (.str WP) (.str WP)).bind λx=>((eqT 10 (.str nm) (.str nm)).bind λx=>((eqT 10 (.int col) (.int col)).bind λx=>((eqT 10 (.str [s]) (.str [s])).bind λx=>(qI qK).map λy=>x && y).map λy=>x && y).map λy=>x && y).map λy=>x && y).map (λb=>b && qK)=_
  rw[zdB_,zdB_,ziL_,zdB_];simp
theorem zko_ (P:List Go):eqD qK (LS GO P) (LS GO P)=.ok (.bl qL):=by
 have:eqT 12 (LS GO P) (LS GO P)=qI qK:=by
  show(if(P.map GO).length=(P.map GO).length then allT (eqT 11) (P.map GO) (P.map GO)else qI qL)=_
  rw[if_pos rfl];induction P with
  |nil=>rfl
  |cons g P ih=>rw[iN,allT,ih,eq_go];rfl
 unfold eqD;rw[this];rfl
theorem zjN_ {f:Fn}{nm:Str}{env:VI.Env}{x:X}{i j:Nat}{d a c d' a' c' r:D}(gS:i≠j)(hx:keep (x.ev gi env) env x.uses=.ok d env)(ha:atE env (i,[])=qI a)(hc:atE env (j,[])=qI c)(hf:f [a,d,c]=.ok r [a',d',c']):Y.ev gi (.call f nm [(.l (.v i)),(.x x),(.l (.v j))]) env=.ok r (putE (putE env (j,[]) c') (i,[]) a'):=by
 rw[Y.ev];have e1:evG gi env [.l (.v i),.x x,.l (.v j)]=.ok [.l (i,[]),.d d,.l (j,[])] env:=by
  unfold evG;rw[Pt.ev,ha];show(Mr.bind (evG gi env [.x x,.l (.v j)]) _)=_
  unfold evG;rw[zga_,hx,zbW_];unfold evG;rw[Pt.ev,hc];rfl
 rw[e1,zbW_];unfold callG;have e2:resolve env [.l (i,[]),.d d,.l (j,[])]=qI [a,d,c]:=by
  show((atE env (i,[])).bind λa=>(((atE env (j,[])).bind λc=>qI [c]).map λds=>d::ds).map λds=>a::ds)=_
  rw[ha,hc];rfl
 rw[e2];show(if _ then(match f [a,d,c]with |.ok r ds'=>Mr.ok r (restE env [.l (i,[]),.d d,.l (j,[])] ds')|.ex x ds'=>_ |.no=>_)else _)=_
 rw[hf,if_pos (show apartAll _=qK from ?_)]
 ·rfl
 ·show(((i != j)||false) && qK && qK)=qK
  rw[bne_iff_ne.mpr gS];rfl
theorem zo0_ (ns:List Int)(lo hi:Option Int):slA (scr ns) lo hi=.ok (LS .int (cutG ns lo hi)):=by
 show Mq (D.nd .lst ((cutG (ns.map D.int) lo hi).map .vw))=_
 rw[zhW_,zeP_];rfl
structure IK (t0 m:TT):Prop where
 ks:m.map (·.1)=t0.map (·.1)
 sz:sz m<=30
 cd:∀q∈m,∀c∈q.2,CD c
theorem zjM_:∀ns:List Int,ns.length<=63->BitsOk ns->f_law.val [scr ns]=.ok (.bl qK):=by
 intro ns eR _;obtain⟨c0,ec0⟩:=zjv_ ns (k:=0) (by lia)
 obtain⟨nl,enl,hnl⟩:=zpx_ c0;obtain⟨a,b,b',rfl⟩:∃a b c,nl=[a,b,c]:=by
  match nl,hnl with
  |[a,b,c],_=>exact⟨a,b,c,rfl⟩
 obtain⟨t,et,ht,ha,hb⟩:=zpr_ ns a b;have gT:∃G:Int->Go,∀c,zR_.val [.int c,.fz (LS .str [a,b]),.fz (TD t)]=.ok (GO (G c))/\OkG (G c)/\((G c).nm=a\/(G c).nm=b\/(G c).nm=DS):=⟨λc=>(zfu_ c a b ht).choose,λc=>(zfu_ c a b ht).choose_spec⟩
 obtain⟨G,hG⟩:=gT;obtain⟨P,hP,hPg⟩:∃P:List Go,P=(cutG ns (qI 3) (qI 43)).map G/\∀g∈P,OkG g/\(g.nm=a\/g.nm=b\/g.nm=DS):=⟨_,rfl,λg h=>by obtain⟨c,_,rfl⟩:=jV.mp h;exact(hG c).2⟩
 have fU:P.length<=1000:=by
  rw[hP,gf];unfold cutG;rw[ki,lp];lia
 obtain⟨u1,u2,u3,u4,u5⟩:=zoV_ ht;have gE:=zfx_ t;have bN:=ht.ln;have gD:(ups t).length<=4:=by lia
 have iE:(ups t).length=((ups t).map (·.1)).length:=by rw[gf]
 refine zbw_ rfl rfl λpn hp=>?_
 unfold zo6_;show En (S.runs gi pn _ [qI (scr ns),qJ,qJ,qJ,qJ,qJ,qJ,qJ,qJ,qJ,qJ]) _
 have c2:cutG [a,b,b'] qJ (qI 2)=[a,b]:=rfl;rw[zaw_ (d:=LS .str [a,b]) (by exists hp,zdd_,ec0,enl,c2) (hp _)]
 show En (S.runs gi pn _ [qI (scr ns),qI (LS .str [a,b]),qJ,qJ,qJ,qJ,qJ,qJ,qJ,qJ,qJ]) _
 rw[zaw_ (d:=TD t) (by exists hp,zdd_,zag_,et,zgQ_) (hp _)]
 show En (S.runs gi pn _ [qI (scr ns),qI (LS .str [a,b]),qI (TD t),qJ,qJ,qJ,qJ,qJ,qJ,qJ,qJ]) _
 have x3:X.ev gi [qI (scr ns),qI (LS .str [a,b]),qI (TD t),qJ,qJ,qJ,qJ,qJ,qJ,qJ,qJ] (.comp ["_law_cell"] [("_law_names_here",1),("_law_trays_here",2)] .any [(.sl (.v 0) (qI (.n 3)) (qI (.n 43)))] ⟨qL,[0]⟩ qJ (.call zR_ "_law_going" [(.v 0),(.v 1),(.v 2)]))=.ok (LS GO P):=by
  have:=xcompN (G:=gi) (env:=[qI (scr ns),qI (LS .str [a,b]),qI (TD t),qJ,qJ,qJ,qJ,qJ,qJ,qJ,qJ]) (lv:=["_law_cell"]) (fr:=[("_law_names_here",1),("_law_trays_here",2)]) (ik:=.any) (src:=[.sl (.v 0) (qI (.n 3)) (qI (.n 43))]) (tg:=⟨qL,[0]⟩) (f:=G) (o:=GO) (e:=.call zR_ "_law_going" [(.v 0),(.v 1),(.v 2)]) (items:=(cutG ns (qI 3) (qI 43)).map D.int) (T:=λx:Int=>[.int x]) (cutG ns (qI 3) (qI 43)) rfl (by exists zdd_,zo0_) (zaK_ _ _) (λc h=>by
   exists zag_,zjU_,zc5_,(hG c).1) (by rw[hP,gf]at fU;lia)
  rw[this,<- hP]
 rw[zaw_ (d:=LS GO P) (by rw[zeu_,x3];exact zs_ _ zaT_) (hp _)]
 show En (S.runs gi pn _ [qI (scr ns),qI (LS .str [a,b]),qI (TD t),qI (LS GO P),qJ,qJ,qJ,qJ,qJ,qJ,qJ]) _
 rw[zaw_ (d:=TD []) (by exists hp;rfl) (hp _)]
 show En (S.runs gi pn _ [qI (scr ns),qI (LS .str [a,b]),qI (TD t),qI (LS GO P),qI (TD []),qJ,qJ,qJ,qJ,qJ,qJ]) _
 rw[zaw_ (d:=TD (ups [])) (by
  rw[zeu_];have:X.ev gi [qI (scr ns),qI (LS .str [a,b]),qI (TD t),qI (LS GO P),qI (TD []),qJ,qJ,qJ,qJ,qJ,qJ] (.ds1 (.k (.str [45])) (.lst []))=.ok (TD (ups [])):=rfl;rw[this];exact zs_ _ (zgQ_ _)) (hp _)]
 show En (S.runs gi pn _ [qI (scr ns),qI (LS .str [a,b]),qI (TD t),qI (LS GO P),qI (TD []),qI (TD (ups [])),qJ,qJ,qJ,qJ,qJ]) _
 refine zeR_ (l:=t) (enc:=λq=>[.str q.1,LS .str q.2]) (d:=.fz (TD t)) (e1:=[qI (scr ns),qI (LS .str [a,b]),qI (.fz (TD t)),qI (LS GO P),qI (TD []),qI (TD (ups [])),qJ,qJ,qJ,qJ,qJ]) (λd e=>∃x y,e=[qI (scr ns),qI (LS .str [a,b]),qI (.fz (TD t)),qI (LS GO P),qI (TD d),qI (TD (ups d)),x,y,qJ,qJ,qJ]) (by
  have:(D.fz (TD t)).new=qL:=by rw[D.new];rfl
  show keep (.ok (.fz (TD t))) _ _=_
  rw[zcs_ _ this];rfl) rfl (by rw[zkx_];exact zjO_ _ _ _) ⟨qJ,qJ,rfl⟩ (λd q r e hl he=>?_) λe he=>?_
 ·obtain⟨x,y,rfl⟩:=he
  have hq:q∈t:=by rw[hl];simp
  have dw:d.length<=3:=by have:=congrArg jU hl;simp at this;lia
  have gM:q.1∉d.map (·.1):=λz=>by
   have:=ht.nd;rw[hl,jD,mC]at this;exact this.2.2 q.1 z q.1 (by simp) rfl
  have gC:up q.1 q.2 d=d++[q]:=by unfold up;rw[if_neg gM]
  have iD:=zfx_ d;refine⟨[qI (scr ns),qI (LS .str [a,b]),qI (.fz (TD t)),qI (LS GO P),qI (TD d),qI (TD (ups d)),qI (.str q.1),qI (.fz (LS .str q.2)),qJ,qJ,qJ],(by exists hp),?_⟩
  rw[rn_s (by rw[S.run];exact zeo_ (q:=(4,[])) (d:=LS .str q.2) (a:=.str q.1) (c:=TD d) (by exists zag_) rfl rfl rfl (zdE_ (by lia)))]
  show En (S.runs gi pn _ [qI (scr ns),qI (LS .str [a,b]),qI (.fz (TD t)),qI (LS GO P),qI (TD (up q.1 q.2 d)),qI (TD (ups d)),qI (.str q.1),qI (.fz (LS .str q.2)),qJ,qJ,qJ]) _
  rw[rn_s (by rw[S.run];exact zeo_ (q:=(5,[])) (d:=LS .str q.2) (a:=.str q.1) (c:=TD (ups d)) (by exists zag_) rfl rfl rfl (zdE_ (by lia)))]
  refine⟨_,_,rfl,.inl ⟨.inl rfl,qI (.str q.1),qI (.fz (LS .str q.2)),?_⟩⟩;rw[zh9_,<- gC];rfl
 obtain⟨x,y,rfl⟩:=he;rw[zaw_ (d:=LS GO P) (by exists hp) (hp _)]
 show En (S.runs gi pn _ [qI (scr ns),qI (LS .str [a,b]),qI (.fz (TD t)),qI (LS GO P),qI (TD t),qI (TD (ups t)),x,y,qI (LS GO P),qJ,qJ]) _
 have x9:X.ev gi [qI (scr ns),qI (LS .str [a,b]),qI (.fz (TD t)),qI (LS GO P),qI (TD t),qI (TD (ups t)),x,y,qI (LS GO P),qJ,qJ] (.make zi_ "Clerk" [(.v 4),(.v 8)])=.ok (KO (ups t) P 0 .non []):=by
  rw[zht_];show makeD zi_ "Clerk" [.fz (TD t),.fz (LS GO P)]=_
  unfold makeD;show(match zi_ [.nd (.obj "Clerk" []) [],.fz (TD t),.fz (LS GO P)]with |.ok .non (o::_)=>Mq o |.ex x _=>.ex x |_=>.no)=_
  rw[zog_ ht fU]
 rw[zaw_ (d:=KO (ups t) P 0 .non []) (by rw[zeu_,x9];exact zs_ _ znY_) (hp _)]
 show En (S.runs gi pn _ [qI (scr ns),qI (LS .str [a,b]),qI (.fz (TD t)),qI (LS GO P),qI (TD t),qI (TD (ups t)),x,y,qI (LS GO P),qI (KO (ups t) P 0 .non []),qJ]) _
 have a0:=zjQ_ (P:=P) (k:=0) (h:=[]) u1 (by lia) (by lia)
 rw[rn_s (e1:=[qI (scr ns),qI (LS .str [a,b]),qI (.fz (TD t)),qI (LS GO P),qI (TD t),qI (TD (ups t)),x,y,qI (LS GO P),qI (KO (ups t) P 0 .non []),qJ]) (by exists hp,zjU_,zc5_,zji_,zko_,za6_,zeJ_,a0;rfl)]
 have p1:Pt.ev gi [qI (scr ns),qI (LS .str [a,b]),qI (.fz (TD t)),qI (LS GO P),qI (TD t),qI (TD (ups t)),x,y,qI (LS GO P),qI (KO (ups t) P 0 .non []),qJ] (.s (.v 4) (.i (.v 1) 0))=.ok (4,[ix a t]):=pt_s (q:=(4,[])) (d:=.str a) (c:=TD t) rfl rfl rfl (zd2_ ha);rw[rn_e (zdw_ (o:=.clear) (as:=[]) (ds:=[]) (ds':=[]) (c':=LS .str []) (r:=.non) p1 (zm6_ ha) rfl rfl rfl)];have p2:putE [qI (scr ns),qI (LS .str [a,b]),qI (.fz (TD t)),qI (LS GO P),qI (TD t),qI (TD (ups t)),x,y,qI (LS GO P),qI (KO (ups t) P 0 .non []),qJ] (4,[ix a t]) (LS .str [])=[qI (scr ns),qI (LS .str [a,b]),qI (.fz (TD t)),qI (LS GO P),qI ((TD t).put [ix a t] (LS .str [])),qI (TD (ups t)),x,y,qI (LS GO P),qI (KO (ups t) P 0 .non []),qJ]:=rfl;rw[p2]
 generalize (TD t).put [ix a t] (LS .str [])=T4
 rw[rn_e (zdw_ (o:=.clear) (as:=[]) (q:=(8,[])) (c:=LS GO P) (ds:=[]) (ds':=[]) (c':=LS GO []) (r:=.non) rfl rfl rfl rfl rfl)];show En (S.runs gi pn _ [qI (scr ns),qI (LS .str [a,b]),qI (.fz (TD t)),qI (LS GO P),qI T4,qI (TD (ups t)),x,y,qI (LS GO []),qI (KO (ups t) P 0 .non []),qJ]) _
 refine zhz_ (l:=P) (enc:=λg=>[GO g]) (d:=.fz (LS GO P)) (e1:=[qI (scr ns),qI (LS .str [a,b]),qI (.fz (TD t)),qI (.fz (LS GO P)),qI T4,qI (TD (ups t)),x,y,qI (LS GO []),qI (KO (ups t) P 0 .non []),qJ]) (λd e=>∃m z,e=[qI (scr ns),qI (LS .str [a,b]),qI (.fz (TD t)),qI (.fz (LS GO P)),qI T4,qI (TD m),x,y,qI (LS GO []),qI (KO m P d.length .non []),z]/\IK (ups t) m) (by
  have:(D.fz (LS GO P)).new=qL:=zbC_;show keep (.ok (.fz (LS GO P))) _ _=_
  rw[zcs_ _ this];rfl) rfl (zaK_ _ _) ⟨ups t,qJ,rfl,⟨rfl,u2,u3⟩⟩ (λd g r e hl he=>?_) λe he=>?_
 ·obtain⟨m,z,rfl,I⟩:=he
  obtain⟨g1,g2⟩:=hPg g (by rw[hl];simp)
  have hk:P[d.length]?=qI g:=by rw[hl,jy (iW _),nW];rfl
  have hn:g.nm∈m.map (·.1):=by
   rw[I.ks];rcases g2 with h |h |h<;>rw[h]
   ·exact u5 a ha
   ·exact u5 b hb
   ·exact u4
  have hd:DS∈m.map (·.1):=by rw[I.ks];exact u4
  have gP:m.length=(ups t).length:=by have:=congrArg jU I.ks;rw[gf,gf]at this;exact this
  have hs:=I.sz;have h0:∀c∈gt g.nm m,CD c:=I.cd _ (zcF_ hn);have ge:=zkE_ hk g1 hn hd (by lia) I.cd (by lia)
  have hz:=en_sz g1 hn hd h0;have I2:IK (ups t) (en g (gt g.nm m) m):=⟨by rw[zmA_ hn hd];exact I.ks,by lia,en_cd hn hd I.cd⟩
  have eV:(en g (gt g.nm m) m).length=(ups t).length:=by have:=congrArg jU I2.ks;rw[gf,gf]at this;exact this
  generalize en g (gt g.nm m) m=m' at ge I2 eV
  have iC:=I2.sz;have a1:=zjQ_ (m:=m') (P:=P) (k:=d.length+1) (h:=[]) (by rw[I2.ks];exact u1) (by lia) (by lia)
  refine⟨[qI (scr ns),qI (LS .str [a,b]),qI (.fz (TD t)),qI (.fz (LS GO P)),qI T4,qI (TD m),x,y,qI (LS GO []),qI (KO m P d.length .non []),qI (GO g)],(by exists hp,zcY_),?_⟩
  have y1:=zjN_ (env:=[qI (scr ns),qI (LS .str [a,b]),qI (.fz (TD t)),qI (.fz (LS GO P)),qI T4,qI (TD m),x,y,qI (LS GO []),qI (KO m P d.length .non []),qI (GO g)]) (i:=9) (j:=5) (x:=.v 10) (d:=GO g) (nm:="_law_gone") (by decide) (by exists zcY_,zhb_) rfl rfl ge
  have y2:Y.ev gi (.or (.not (.call zaF_ "_law_gone" [(.l (.v 9)),(.x (.v 10)),(.l (.v 5))])) (.pu (.not (zG_ [(.v 9),(.v 5)])))) [qI (scr ns),qI (LS .str [a,b]),qI (.fz (TD t)),qI (.fz (LS GO P)),qI T4,qI (TD m),x,y,qI (LS GO []),qI (KO m P d.length .non []),qI (GO g)]=.ok (.bl qL) [qI (scr ns),qI (LS .str [a,b]),qI (.fz (TD t)),qI (.fz (LS GO P)),qI T4,qI (TD m'),x,y,qI (LS GO []),qI (KO m' P (d.length+1) .non []),qI (GO g)]:=by
   rw[Y.ev,zkq_,y1,zbW_];show Y.ev gi (.pu (.not (zG_ [(.v 9),(.v 5)]))) [qI (scr ns),qI (LS .str [a,b]),qI (.fz (TD t)),qI (.fz (LS GO P)),qI T4,qI (TD m'),x,y,qI (LS GO []),qI (KO m' P (d.length+1) .non []),qI (GO g)]=_
   exists za6_,zeJ_,zjU_,zc5_,a1
  rw[S.runs,S.run,y2,zbW_];exact⟨_,_,rfl,.inl ⟨.inl rfl,m',qI (GO g),by rw[iP];rfl,I2⟩⟩
 ·obtain⟨m,z,rfl,I⟩:=he
  have gP:m.length=(ups t).length:=by have:=congrArg jU I.ks;rw[gf,gf]at this;exact this
  have hs:=I.sz;have a1:=zjQ_ (m:=m) (P:=P) (k:=P.length) (h:=[]) (by rw[I.ks];exact u1) (by lia) (by lia)
  have s1:=ym (env:=[qI (scr ns),qI (LS .str [a,b]),qI (.fz (TD t)),qI (.fz (LS GO P)),qI T4,qI (TD m),x,y,qI (LS GO []),qI (KO m P P.length .non []),z]) (i:=9) (nm:="step") rfl (by decide) (zoo_ (m:=m) (P:=P) (k:=P.length) rfl)
  have s2:Y.ev gi (.bin .is (.meth [("Clerk",zg_)] (.v 9) "step" []) (.pu (.k (.bl qL)))) [qI (scr ns),qI (LS .str [a,b]),qI (.fz (TD t)),qI (.fz (LS GO P)),qI T4,qI (TD m),x,y,qI (LS GO []),qI (KO m P P.length .non []),z]=.ok (.bl qK) [qI (scr ns),qI (LS .str [a,b]),qI (.fz (TD t)),qI (.fz (LS GO P)),qI T4,qI (TD m),x,y,qI (LS GO []),qI (KO m P P.length .non []),z]:=by
   rw[zij_,s1,zbW_];rfl
  have s3:Y.ev gi (.pu (zG_ [(.v 9),(.v 5)])) [qI (scr ns),qI (LS .str [a,b]),qI (.fz (TD t)),qI (.fz (LS GO P)),qI T4,qI (TD m),x,y,qI (LS GO []),qI (KO m P P.length .non []),z]=.ok (.bl qK) [qI (scr ns),qI (LS .str [a,b]),qI (.fz (TD t)),qI (.fz (LS GO P)),qI T4,qI (TD m),x,y,qI (LS GO []),qI (KO m P P.length .non []),z]:=by
   exists za6_,zeJ_,zjU_,zc5_,a1
  rw[zlE_ (d:=.bl qK) (by rw[Y.ev,s2,zbW_];show Y.ev gi (.and _ _) _=_;rw[Y.ev,s2,zbW_];show Y.ev gi (.pu _) _=_;exact s3)]
  exact⟨_,_,rfl,.inl rfl⟩
def top (i:Nat):jI:=PySem.Challenge.pw_cardshop_k60_a_clerk_steps.main.body.getD i (.Pass ⟨0,0,0,0⟩)
abbrev zdM_:jI:=top 60
abbrev zcP_:jI:=top 57
abbrev zc2_:jI:=top 58
abbrev zeG_:jI:=top 59
abbrev zdt_:jI:=top 62
abbrev zdy_:jI:=top 61
abbrev zdz_:jI:=top 64
abbrev zcL_:jI:=top 54
abbrev zb9_:jI:=inClass (top 55) 0
abbrev zbV_:jI:=inClass (top 55) 6
abbrev zbT_:jI:=inClass (top 55) 4
abbrev zbG_:jI:=inClass (top 55) 7
abbrev zbE_:jI:=inClass (top 55) 8
abbrev zfS_:jI:=top 40
abbrev zbp_:jI:=inClass (top 42) 4
abbrev zcn_:jI:=inClass (top 55) 5
abbrev zez_:jI:=top 66
abbrev zcj_:jI:=top 67
abbrev zaZ_:jI:=inClass (top 42) 2
abbrev zgu_:jI:=top 9
abbrev zgc_:jI:=top 10
abbrev zgG_:jI:=top 12
abbrev zc0_:jI:=inClass (top 43) 1
abbrev zdc_:jI:=inClass (top 44) 1
abbrev zbR_:jI:=inClass (top 55) 10
abbrev za1_:jI:=inClass (top 42) 3
abbrev zit_:jI:=top 39
abbrev zci_:jI:=inClass (top 43) 2
abbrev zb7_:jI:=inClass (top 42) 5
abbrev zbr_:jI:=inClass (top 43) 3
abbrev zbc_:jI:=inClass (top 42) 6
abbrev zas_:jI:=inClass (top 42) 7
abbrev zbQ_:jI:=inClass (top 55) 11
abbrev zbx_:jI:=inClass (top 42) 0
abbrev z6_:jI:=inClass (top 42) 1
abbrev zbP_:jI:=inClass (top 43) 0
abbrev zbU_:jI:=inClass (top 44) 0
abbrev zdA_:jI:=top 51
abbrev zbl_:jI:=inClass (top 55) 9
abbrev zdR_:jI:=inClass (top 55) 1
abbrev zdF_:jI:=top 63
abbrev ze6_:jI:=top 65
abbrev zeD_:jI:=top 68
abbrev s_law:jI:=top 69
structure Ek (K:Fgg):Prop where
 u0:Fg K "_law_names" zdM_
 u1:Fg K "_law_cell_at" zcP_
 u2:Fg K "_law_stream" zc2_
 u3:Fg K "_law_deck" zeG_
 u4:Fg K "_law_trays" zdt_
 u5:Fg K "_law_mixed" zdy_
 u6:Fg K "_law_going" zdz_
 u7:Fg K "copied_going" zcL_
 u8:Fg K "put_back" zfS_
 u9:Fg K "_law_told" zez_
 u10:Fg K "_law_all_told" zcj_
 u11:Fg K "is_sign" zgu_
 u12:Fg K "rank_of" zgc_
 u13:Fg K "sign_at" zgG_
 u14:Fg K "gather" zit_
 u15:Fg K "machine_of" zdA_
 u16:Fg K "_law_dealt" zdF_
 u17:Fg K "_law_end" ze6_
 u18:Fg K "_law_gone" zeD_
 u19:Fg K "law" s_law
 u20:Fm K "Clerk" "check_name" "Clerk.check_name" zbG_
 u21:Fm K "Clerk" "going_name" "Clerk.going_name" zbE_
 u22:Fm K "Dealer" "back" "Machine.back" zbp_
 u23:Fm K "Picker" "back" "Machine.back" zbp_
 u24:Fm K "Clerk" "deck_of" "Clerk.deck_of" zcn_
 u25:Fm K "Clerk" "names_now" "Clerk.names_now" zbV_
 u26:Fm K "Clerk" "lines_out" "Clerk.lines_out" zbT_
 u27:Fm K "Dealer" "lay_in" "Machine.lay_in" zaZ_
 u28:Fm K "Picker" "lay_in" "Machine.lay_in" zaZ_
 u29:Fm K "Dealer" "feed" "Dealer.feed" zc0_
 u30:Fm K "Picker" "feed" "Picker.feed" zdc_
 u31:Fm K "Dealer" "finish" "Machine.finish" za1_
 u32:Fm K "Picker" "finish" "Machine.finish" za1_
 u33:Fm K "Dealer" "stayed" "Dealer.stayed" zci_
 u34:Fm K "Picker" "stayed" "Machine.stayed" zb7_
 u35:Fm K "Dealer" "laid_aside" "Dealer.laid_aside" zbr_
 u36:Fm K "Picker" "laid_aside" "Machine.laid_aside" zbc_
 u37:Fm K "Dealer" "lines_out" "Machine.lines_out" zas_
 u38:Fm K "Picker" "lines_out" "Machine.lines_out" zas_
 u39:Fs K "Machine" "__init__" "Machine.__init__" zbx_
 u40:Fm K "Dealer" "make_pockets" "Machine.make_pockets" z6_
 u41:Fm K "Picker" "make_pockets" "Machine.make_pockets" z6_
 u42:Fm K "Dealer" "__init__" "Dealer.__init__" zbP_
 u43:Fm K "Picker" "__init__" "Picker.__init__" zbU_
 u44:Fm K "Clerk" "feed_next" "Clerk.feed_next" zbR_
 u45:Fm K "Clerk" "end_going" "Clerk.end_going" zbQ_
 u46:Fm K "Clerk" "begin_going" "Clerk.begin_going" zbl_
 u47:Fm K "Clerk" "step" "Clerk.step" zdR_
 u48:Fm K "Clerk" "__init__" "Clerk.__init__" zb9_
 u49:Fc K "Clerk"
 u50:Fa K "Clerk" "column"
 u51:Fa K "Clerk" "done"
 u52:Fa K "Clerk" "hopper"
 u53:Fa K "Clerk" "lines"
 u54:Fa K "Clerk" "log"
 u55:Fa K "Clerk" "machine"
 u56:Fa K "Clerk" "plan"
 u57:Fa K "Clerk" "pockets"
 u58:Fa K "Clerk" "sign"
 u59:Fa K "Clerk" "trays"
 u60:Fc K "Dealer"
 u61:Fa K "Dealer" "column"
 u62:Fa K "Dealer" "done"
 u63:Fa K "Dealer" "hopper"
 u64:Fa K "Dealer" "lines"
 u65:Fa K "Dealer" "log"
 u66:Fa K "Dealer" "machine"
 u67:Fa K "Dealer" "plan"
 u68:Fa K "Dealer" "pockets"
 u69:Fa K "Dealer" "sign"
 u70:Fa K "Dealer" "trays"
 u71:Fc K "Picker"
 u72:Fa K "Picker" "column"
 u73:Fa K "Picker" "done"
 u74:Fa K "Picker" "hopper"
 u75:Fa K "Picker" "lines"
 u76:Fa K "Picker" "log"
 u77:Fa K "Picker" "machine"
 u78:Fa K "Picker" "plan"
 u79:Fa K "Picker" "pockets"
 u80:Fa K "Picker" "sign"
 u81:Fa K "Picker" "trays"
 u82:Fb K "int"
 u83:Fb K "isinstance"
 u84:Fb K "len"
 u85:Fb K "list"
 u86:Fb K "range"
 u87:Fb K "sorted"
 u88:Fb K "str"
 u89:Fb K "tuple"
 u90:Fv K "ASIDE" (tx [45])
 u91:Fv K "SIGNS" (tx Qm0)
structure En (K:Fgg)(mg:Str->Option fv):Prop extends Ek K where
 m:Mgo K mg
def ft:Ft:={bs:=["int", "isinstance", "len", "list", "range", "sorted", "str", "tuple"],at_:=["column", "done", "hopper", "lines", "log", "machine", "plan", "pockets", "sign", "trays"],gc:=[("ASIDE",(tx [45])),("SIGNS",(tx Qm0))]}
theorem gok {K:Fgg}(e:Ek K):gi.Ok K:=⟨by decide,zcD_⟩
theorem fo {K:Fgg}{mg:Str->Option fv}(e:En K mg):ft.Ok gi K mg:=⟨(zb_ (e.m.gb e.u82) (zb_ (e.m.gb e.u83) (zb_ (e.m.gb e.u84) (zb_ (e.m.gb e.u85) (zb_ (e.m.gb e.u86) (zb_ (e.m.gb e.u87) (zb_ (e.m.gb e.u88) (zb_ (e.m.gb e.u89) zcD_)))))))),(zb_ e.u49.cls (zb_ e.u60.cls (zb_ e.u71.cls zcD_))),(zb_ (zb_ e.u50.no (zb_ e.u51.no (zb_ e.u52.no (zb_ e.u53.no (zb_ e.u54.no (zb_ e.u55.no (zb_ e.u56.no (zb_ e.u57.no (zb_ e.u58.no (zb_ e.u59.no zcD_)))))))))) (zb_ (zb_ e.u61.no (zb_ e.u62.no (zb_ e.u63.no (zb_ e.u64.no (zb_ e.u65.no (zb_ e.u66.no (zb_ e.u67.no (zb_ e.u68.no (zb_ e.u69.no (zb_ e.u70.no zcD_)))))))))) (zb_ (zb_ e.u72.no (zb_ e.u73.no (zb_ e.u74.no (zb_ e.u75.no (zb_ e.u76.no (zb_ e.u77.no (zb_ e.u78.no (zb_ e.u79.no (zb_ e.u80.no (zb_ e.u81.no zcD_)))))))))) zcD_))),(zb_ (e.m.gv e.u90) (zb_ (e.m.gv e.u91) zcD_)),zcD_⟩
section
variable {P:jr}{w:jH}{K:Fgg}{mg:Str->Option fv}{base:Heap}
theorem g0 (e:En K mg):GG P w K mg base 1 "_law_names" ["_law_cell"] zaJ_:=zcT_ e.m e.u0 (okW (N:=["_law_cell", "_law_letters", "_law_many", "_law_at", "_law_names_here", "_law_k", "_law_name", "_law_j", "_law_step"]) (body:=zam_) (n:=1) (m:=8) (gok e.toEk) (fo e) trivial)
theorem g1 (e:En K mg):GG P w K mg base 1 "_law_cell_at" ["_law_script", "_law_k"] zaM_:=zcT_ e.m e.u1 (okW (N:=["_law_script", "_law_k"]) (body:=zaj_) (n:=2) (m:=0) (gok e.toEk) (fo e) trivial)
theorem g2 (e:En K mg):GG P w K mg base 1 "_law_stream" ["_law_cell", "_law_many"] zar_:=zcT_ e.m e.u2 (okW (N:=["_law_cell", "_law_many", "_law_found", "_law_number", "_law_k"]) (body:=z9_) (n:=2) (m:=3) (gok e.toEk) (fo e) trivial)
theorem g3 (e:En K mg):GG P w K mg base 2 "_law_deck" ["_law_cell", "_law_many", "_law_spread"] zak_:=zcT_ e.m e.u3 (okW (N:=["_law_cell", "_law_many", "_law_spread", "_law_signs", "_law_numbers", "_law_deck_here", "_law_k", "_law_text", "_law_at", "_law_step", "_law_mark"]) (body:=zaA_) (n:=3) (m:=8) (gok e.toEk) (fo e) ⟨fkc (g2 e),trivial⟩)
theorem g4 (e:En K mg):GG P w K mg base 3 "_law_trays" ["_law_script", "_law_names_here"] zaH_:=zcT_ e.m e.u4 (okW (N:=["_law_script", "_law_names_here", "_law_trays_here", "_law_k", "_law_cell"]) (body:=zap_) (n:=2) (m:=3) (gok e.toEk) (fo e) ⟨fkc (g1 e),fkc (g3 e),fkc (g1 e),fkc (g3 e),fkc (g1 e),trivial⟩)
theorem g5 (e:En K mg):GG P w K mg base 1 "_law_mixed" ["_law_cell", "_law_k"] zba_:=zcT_ e.m e.u5 (okW (N:=["_law_cell", "_law_k", "_law_number"]) (body:=zbd_) (n:=2) (m:=1) (gok e.toEk) (fo e) trivial)
theorem g6 (e:En K mg):GG P w K mg base 2 "_law_going" ["_law_cell", "_law_names_here", "_law_trays_here"] zR_:=zcT_ e.m e.u6 (okW (N:=["_law_cell", "_law_names_here", "_law_trays_here", "_law_signs", "_law_number", "_law_name", "_law_column", "_law_sign"]) (body:=zao_) (n:=3) (m:=5) (gok e.toEk) (fo e) ⟨fkc (g5 e),trivial⟩)
theorem g7 (e:En K mg):GG P w K mg base 1 "copied_going" ["going"] zv_:=zcT_ e.m e.u7 (okW (N:=["going"]) (body:=zaQ_) (n:=1) (m:=0) (gok e.toEk) (fo e) trivial)
theorem g8 (e:En K mg):Gk P w K mg base CX0 2 "Clerk" (gA K "Clerk") ["self", "trays", "plan"] (CtG K zi_):=zni_ e.m e.u49 e.u48 (okW (N:=["self", "trays", "plan", "name"]) (body:=zJ_) (n:=3) (m:=1) (gok e.toEk) (fo e) ⟨fkc (g7 e),trivial⟩)
theorem g9 (e:En K mg):Gm P w K mg base CX0 1 (gA K "Clerk") "names_now" Qn1 (CtG K zac_):=zbS_ e.u49 e.u25 (okW (N:=Qn1) (body:=zad_) (n:=1) (m:=0) (gok e.toEk) (fo e) trivial)
theorem g10 (e:En K mg):Gm P w K mg base CX0 1 (gA K "Clerk") "lines_out" Qn1 (CtG K zae_):=zbS_ e.u49 e.u26 (okW (N:=Qn1) (body:=zaf_) (n:=1) (m:=0) (gok e.toEk) (fo e) trivial)
theorem g11 (e:En K mg):Gm P w K mg base CX0 1 (gA K "Clerk") "check_name" ["self", "name"] (CtG K zM_):=zbS_ e.u49 e.u20 (okW (N:=["self", "name"]) (body:=zY_) (n:=2) (m:=0) (gok e.toEk) (fo e) trivial)
theorem g12 (e:En K mg):Gm P w K mg base CX0 1 (gA K "Clerk") "going_name" Qn1 (CtG K zt_):=zbS_ e.u49 e.u21 (okW (N:=Qn1) (body:=z2_) (n:=1) (m:=0) (gok e.toEk) (fo e) trivial)
theorem g13 (e:En K mg):GG P w K mg base 1 "put_back" ["some", "numbers"] zb2_:=zcT_ e.m e.u8 (okW (N:=["some", "numbers", "taken", "deck", "number"]) (body:=zb0_) (n:=2) (m:=3) (gok e.toEk) (fo e) trivial)
theorem g14 (e:En K mg):Gm P w K mg base CX0 2 (gA K "Dealer") "back" Qn1 (CtG K zx_):=zbS_ e.u60 e.u22 (okW (N:=Qn1) (body:=zai_) (n:=1) (m:=0) (gok e.toEk) (fo e) ⟨fkc (g13 e),trivial⟩)
theorem g15 (e:En K mg):Gm P w K mg base CX0 2 (gA K "Picker") "back" Qn1 (CtG K zx_):=zbS_ e.u71 e.u23 (okW (N:=Qn1) (body:=zai_) (n:=1) (m:=0) (gok e.toEk) (fo e) ⟨fkc (g13 e),trivial⟩)
theorem g16 (e:En K mg):Gm P w K mg base CX0 3 (gA K "Clerk") "deck_of" ["self", "name"] (CtG K zO_):=zbS_ e.u49 e.u24 (okW (N:=["self", "name"]) (body:=z4_) (n:=2) (m:=0) (gok e.toEk) (fo e) ⟨fkm (g11 e),fkm (g12 e),fkm (g14 e),fkm (g15 e),trivial⟩)
theorem g17 (e:En K mg):GG P w K mg base 4 "_law_told" ["_law_clerk", "_law_name", "_law_deck_here"] zL_:=zcT_ e.m e.u9 (okW (N:=["_law_clerk", "_law_name", "_law_deck_here", "_law_found", "_law_card"]) (body:=zbB_) (n:=3) (m:=2) (gok e.toEk) (fo e) ⟨fkm (g16 e),trivial⟩)
theorem g18 (e:En K mg):GG P w K mg base 5 "_law_all_told" ["_law_clerk", "_law_decks"] zat_:=zcT_ e.m e.u10 (okW (N:=["_law_clerk", "_law_decks", "_law_names_here", "_law_name", "_law_deck_here"]) (body:=zaz_) (n:=2) (m:=3) (gok e.toEk) (fo e) ⟨fkm (g9 e),fkm (g10 e),fkc (g17 e),trivial⟩)
theorem g19 (e:En K mg):Gm P w K mg base CX0 1 (gA K "Dealer") "lay_in" ["self", "card", "number"] (CtG K zc_):=zbS_ e.u60 e.u27 (okW (N:=["self", "card", "number"]) (body:=zr_) (n:=3) (m:=0) (gok e.toEk) (fo e) trivial)
theorem g20 (e:En K mg):Gm P w K mg base CX0 1 (gA K "Picker") "lay_in" ["self", "card", "number"] (CtG K zc_):=zbS_ e.u71 e.u28 (okW (N:=["self", "card", "number"]) (body:=zr_) (n:=3) (m:=0) (gok e.toEk) (fo e) trivial)
theorem g21 (e:En K mg):GG P w K mg base 1 "is_sign" ["text"] zcI_:=zcT_ e.m e.u11 (okW (N:=["text"]) (body:=zcH_) (n:=1) (m:=0) (gok e.toEk) (fo e) trivial)
theorem g22 (e:En K mg):GG P w K mg base 2 "rank_of" ["sign"] zbh_:=zcT_ e.m e.u12 (okW (N:=["sign"]) (body:=zcN_) (n:=1) (m:=0) (gok e.toEk) (fo e) ⟨fkc (g21 e),trivial⟩)
theorem g23 (e:En K mg):GG P w K mg base 1 "sign_at" ["card", "column"] zah_:=zcT_ e.m e.u13 (okW (N:=["card", "column"]) (body:=zcA_) (n:=2) (m:=0) (gok e.toEk) (fo e) trivial)
theorem g24 (e:En K mg):Gm P w K mg base CX0 3 (gA K "Dealer") "feed" ["self", "card"] (CtG K zS_):=zbS_ e.u60 e.u29 (okW (N:=["self", "card"]) (body:=zaa_) (n:=2) (m:=0) (gok e.toEk) (fo e) ⟨fkm (g19 e),fkc (g22 e),fkc (g23 e),trivial⟩)
theorem g25 (e:En K mg):Gm P w K mg base CX0 2 (gA K "Picker") "feed" ["self", "card"] (CtG K zT_):=zbS_ e.u71 e.u30 (okW (N:=["self", "card"]) (body:=z7_) (n:=2) (m:=0) (gok e.toEk) (fo e) ⟨fkm (g20 e),fkc (g23 e),trivial⟩)
theorem g26 (e:En K mg):Gm P w K mg base CX0 4 (gA K "Clerk") "feed_next" Qn1 (CtG K zC_):=zbS_ e.u49 e.u44 (okW (N:=["self", "refusal"]) (body:=zz_) (n:=1) (m:=1) (gok e.toEk) (fo e) ⟨fkm (g24 e),fkm (g25 e),trivial⟩)
theorem g27 (e:En K mg):Gm P w K mg base CX0 1 (gA K "Dealer") "finish" Qn1 (CtG K zk_):=zbS_ e.u60 e.u31 (okW (N:=Qn1) (body:=zW_) (n:=1) (m:=0) (gok e.toEk) (fo e) trivial)
theorem g28 (e:En K mg):Gm P w K mg base CX0 1 (gA K "Picker") "finish" Qn1 (CtG K zk_):=zbS_ e.u71 e.u32 (okW (N:=Qn1) (body:=zW_) (n:=1) (m:=0) (gok e.toEk) (fo e) trivial)
theorem g29 (e:En K mg):GG P w K mg base 1 "gather" ["some"] zbz_:=zcT_ e.m e.u14 (okW (N:=["some", "deck", "pocket"]) (body:=zdH_) (n:=1) (m:=2) (gok e.toEk) (fo e) trivial)
theorem g30 (e:En K mg):Gm P w K mg base CX0 2 (gA K "Dealer") "stayed" Qn1 (CtG K z5_):=zbS_ e.u60 e.u33 (okW (N:=Qn1) (body:=zav_) (n:=1) (m:=0) (gok e.toEk) (fo e) ⟨fkc (g29 e),trivial⟩)
theorem g31 (e:En K mg):Gm P w K mg base CX0 1 (gA K "Picker") "stayed" Qn1 (CtG K zV_):=zbS_ e.u71 e.u34 (okW (N:=Qn1) (body:=zal_) (n:=1) (m:=0) (gok e.toEk) (fo e) trivial)
theorem g32 (e:En K mg):Gm P w K mg base CX0 1 (gA K "Dealer") "laid_aside" Qn1 (CtG K zH_):=zbS_ e.u60 e.u35 (okW (N:=Qn1) (body:=zX_) (n:=1) (m:=0) (gok e.toEk) (fo e) trivial)
theorem g33 (e:En K mg):Gm P w K mg base CX0 2 (gA K "Picker") "laid_aside" Qn1 (CtG K zw_):=zbS_ e.u71 e.u36 (okW (N:=Qn1) (body:=zQ_) (n:=1) (m:=0) (gok e.toEk) (fo e) ⟨fkc (g29 e),trivial⟩)
theorem g34 (e:En K mg):Gm P w K mg base CX0 1 (gA K "Dealer") "lines_out" Qn1 (CtG K ze_):=zbS_ e.u60 e.u37 (okW (N:=Qn1) (body:=zI_) (n:=1) (m:=0) (gok e.toEk) (fo e) trivial)
theorem g35 (e:En K mg):Gm P w K mg base CX0 1 (gA K "Picker") "lines_out" Qn1 (CtG K ze_):=zbS_ e.u71 e.u38 (okW (N:=Qn1) (body:=zI_) (n:=1) (m:=0) (gok e.toEk) (fo e) trivial)
theorem g36 (e:En K mg):Gm P w K mg base CX0 3 (gA K "Clerk") "end_going" Qn1 (CtG K zE_):=zbS_ e.u49 e.u45 (okW (N:=Qn1) (body:=zD_) (n:=1) (m:=0) (gok e.toEk) (fo e) ⟨fkm (g27 e),fkm (g28 e),fkm (g12 e),fkm (g30 e),fkm (g31 e),fkm (g32 e),fkm (g33 e),fkm (g34 e),fkm (g35 e),trivial⟩)
theorem g37 (e:En K mg):Gs P w K mg base CX0 1 "Machine" "__init__" Qn1 (CtG K zZ_):=gs_of e.m e.u39 (okW (N:=Qn1) (body:=zaG_) (n:=1) (m:=0) (gok e.toEk) (fo e) trivial)
theorem g38 (e:En K mg):Gm P w K mg base CX0 1 (gA K "Dealer") "make_pockets" ["self", "many"] (CtG K zp_):=zbS_ e.u60 e.u40 (okW (N:=["self", "many"]) (body:=zK_) (n:=2) (m:=0) (gok e.toEk) (fo e) trivial)
theorem g39 (e:En K mg):Gm P w K mg base CX0 1 (gA K "Picker") "make_pockets" ["self", "many"] (CtG K zp_):=zbS_ e.u71 e.u41 (okW (N:=["self", "many"]) (body:=zK_) (n:=2) (m:=0) (gok e.toEk) (fo e) trivial)
theorem g40 (e:En K mg):Gk P w K mg base CX0 2 "Dealer" (gA K "Dealer") ["self", "column"] (CtG K zB_):=zni_ e.m e.u60 e.u42 (okW (N:=["self", "column"]) (body:=zaR_) (n:=2) (m:=0) (gok e.toEk) (fo e) ⟨fks (g37 e),fkm (g38 e),trivial⟩)
theorem g41 (e:En K mg):Gk P w K mg base CX0 2 "Picker" (gA K "Picker") ["self", "column", "sign"] (CtG K zA_):=zni_ e.m e.u71 e.u43 (okW (N:=["self", "column", "sign"]) (body:=zaS_) (n:=3) (m:=0) (gok e.toEk) (fo e) ⟨fks (g37 e),fkm (g39 e),trivial⟩)
theorem g42 (e:En K mg):GG P w K mg base 4 "machine_of" ["going", "trays"] zaI_:=zcT_ e.m e.u15 (okW (N:=["going", "trays", "kind"]) (body:=zaP_) (n:=2) (m:=1) (gok e.toEk) (fo e) ⟨fkk (g40 e),fkk (g41 e),trivial⟩)
theorem g43 (e:En K mg):Gm P w K mg base CX0 5 (gA K "Clerk") "begin_going" Qn1 (CtG K zU_):=zbS_ e.u49 e.u46 (okW (N:=["self", "name"]) (body:=zo_) (n:=1) (m:=1) (gok e.toEk) (fo e) ⟨fkm (g12 e),fkm (g11 e),fkc (g42 e),trivial⟩)
theorem g44 (e:En K mg):Gm P w K mg base CX0 6 (gA K "Clerk") "step" Qn1 (CtG K zg_):=zbS_ e.u49 e.u47 (okW (N:=Qn1) (body:=zf_) (n:=1) (m:=0) (gok e.toEk) (fo e) ⟨fkm (g26 e),fkm (g36 e),fkm (g43 e),trivial⟩)
theorem g45 (e:En K mg):GG P w K mg base 1 "_law_dealt" ["_law_deck_here", "_law_column"] zaq_:=zcT_ e.m e.u16 (okW (N:=["_law_deck_here", "_law_column", "_law_found", "_law_card", "_law_here"]) (body:=zbb_) (n:=2) (m:=3) (gok e.toEk) (fo e) trivial)
theorem g46 (e:En K mg):GG P w K mg base 2 "_law_end" ["_law_going_here", "_law_decks"] zbn_:=zcT_ e.m e.u17 (okW (N:=["_law_going_here", "_law_decks", "_law_deck_here"]) (body:=zaW_) (n:=2) (m:=1) (gok e.toEk) (fo e) ⟨fkc (g45 e),trivial⟩)
theorem g47 (e:En K mg):GG P w K mg base 7 "_law_gone" ["_law_clerk", "_law_going_here", "_law_decks"] zaF_:=zcT_ e.m e.u18 (okW (N:=["_law_clerk", "_law_going_here", "_law_decks", "_law_name", "_law_many", "_law_k"]) (body:=zaD_) (n:=3) (m:=3) (gok e.toEk) (fo e) ⟨fkc (g17 e),fkm (g44 e),fkc (g46 e),trivial⟩)
theorem g48 (e:En K mg):OkF P w K mg base CX0 8 "law" "law" s_law ["_law_script"] (CtG K f_law):=okW (N:=["_law_script", "_law_names_here", "_law_trays_here", "_law_plan", "_law_handed", "_law_decks", "_law_name", "_law_deck_here", "_law_asked", "_law_clerk", "_law_going_here"]) (body:=zo6_) (n:=1) (m:=10) (gok e.toEk) (fo e) ⟨fkc (g0 e),fkc (g1 e),fkc (g4 e),fkc (g6 e),fkk (g8 e),fkc (g18 e),fkc (g47 e),fkc (g18 e),fkm (g44 e),fkm (g44 e),fkc (g18 e),trivial⟩
end
theorem all_mk {l:pK}{w:jH}{K:Fgg}{h:Heap}{mg:Str->Option fv}{fa:iQ}(X:K.In h)(G:h.Ns jf mg)(e_:mg "law"=qI (.ref fa))(k:Ek K):
  ∃fd:kf,(∀(s:iM) (v:fv),BindsTo s fd ⟨[v],[]⟩ [("_law_script",v)])/\∀base:Heap,K.In base->base.Ns jf mg->FnOk l.prog w K mg base CX0 8 fa fd ["_law_script"] (spL K):=by
 have e:En K mg:=⟨k,_,X,G⟩;refine okLaw e.m e.u19 e_ (λ_ _ _ _ _ _ _ _=>rfl) λbase f fd F=>?_
 exact okLV (g48 (P:=l.prog) (w:=w) (base:=base) e f fd F).1 zjM_
theorem walk {l:pK}{q:jr}{loose:List Str}{XP:(Str->Option fv)->Heap->Prop}{YP:jH->Heap->Prop}{d:DefRec}{K:Params->Fgg}(hn:l.most=qI 63)(dy:d.params.defaults=[])(bX:∀p,L2.lamOk q (K p)=qK)
  (hY:∀(w:jH) (h:Heap),YP w h->(K w.params).In h)
  (F:∀(w:jH) (mg:Str->Option fv) (fa:iQ) (h:Heap),(K w.params).In h->h.Ns jf mg->mg d.name=qI (.ref fa) ->
   ∃fd:kf,(∀(s:iM) (u:fv),BindsTo s fd ⟨[u],[]⟩ [("_law_script",u)])/\∀base:Heap,(K w.params).In base->base.Ns jf mg->FnOk l.prog w (K w.params) mg base CX0 8 fa fd ["_law_script"] (spL (K w.params))):
  W.WalkO q loose XP YP l.row.toRowW d [] (λf vs=>px f vs):=
 L2.zjG_ (n:=63) (k:=8) (x:="_law_script") (CX:=λ_=>CX0) (sp:=λw=>spL (K w.params)) hn (by decide) dy ⟨rfl,by decide,by decide⟩ bX hY F (λ_ _ a ns hl hb _ hS=>⟨a,ns,rfl,hS,hl,hb,λ_=>rfl⟩) λ_ _ _ _ _ z=>z
end K60
open PySem PySem.W PyProof.Rows
set_option maxRecDepth 100000 in
set_option maxHeartbeats 0 in
theorem PySem.Challenge.cw_cardshop_k60_a_clerk_steps_holds : PySem.Challenge.rw_cardshop_k60_a_clerk_steps.Holds := by
 w_on;o_law;k_head;(case hw=>w_witness2)
 k_fill
 refine K60.walk (l:=PySem.Challenge.rw_cardshop_k60_a_clerk_steps) rfl rfl ?L (λw h Y=>W.kIn_of Y) ?F
 case L=>intro p;kernel_rfl!
 case F=>
  intro w mg fa h KX G c8;refine K60.all_mk KX G c8 ?_;constructor
  all_goals first |(refine' L2.Fl.mk_ ?x0 ?x1 ?x2 ?x3 ?x4 ?x5 ?x6 ?x7 ?x8;(case x0=>k_is);(case x1=>k_is);(case x2=>rfl);(case x3=>k_is);(case x4=>rfl);(case x5=>rfl);(case x6=>rfl);(case x7=>rfl);(case x8=>rfl))|(refine' L2.FmD.mk_ ?x0 ?x1 ?x2 ?x3 ?x4 ?x5 ?x6 ?x7;(case x0=>k_is);(case x1=>k_is);(case x2=>k_is);(case x3=>k_is);(case x4=>k_is);(case x5=>k_is);(case x6=>k_is);(case x7=>(show _=_;kernel_rfl!)))|(refine' L2.Fg.mk_ ?x0 ?x1 ?x2 ?x3;(case x0=>k_is);(case x1=>k_is);(case x2=>k_is);(case x3=>k_is))|(refine' L2.Fm.mk_ ?x0 ?x1 ?x2 ?x3 ?x4 ?x5;(case x0=>k_is);(case x1=>k_is);(case x2=>k_is);(case x3=>k_is);(case x4=>k_is);(case x5=>k_is))|(refine' L2.Fs.mk_ ?x0 ?x1 ?x2 ?x3 ?x4 ?x5 ?x6;(case x0=>k_is);(case x1=>k_is);(case x2=>k_is);(case x3=>k_is);(case x4=>k_is);(case x5=>k_is);(case x6=>k_is))|(refine' L2.Fc.mk_ ?x0 ?x1 ?x2 ?x3 ?x4 ?x5 ?x6;(case x0=>k_is);(case x1=>k_is);(case x2=>k_is);(case x3=>k_is);(case x4=>k_is);(case x5=>k_is);(case x6=>k_is))|(refine' L2.Fa.mk_ ?x0 ?x1;(case x0=>k_is);(case x1=>k_is))|(delta L2.Fb;k_is)|(refine' L2.Fv.mk_ ?x0 ?x1;(case x0=>k_is);(case x1=>first |exact⟨_,rfl⟩|rfl))|(refine' L2.Fk.mk_ ?x0;(case x0=>k_is))|(refine' L2.Fe1.mk_ ?x0 ?x1;(case x0=>k_is);(case x1=>(show _=_;kernel_rfl!)))|(refine' L2.FtT.mk_ ?x0 ?x1 ?x2 ?x3;(case x0=>k_is);(case x1=>k_is);(case x2=>(show _=_;kernel_rfl!));(case x3=>decide))
#print axioms PySem.Challenge.cw_cardshop_k60_a_clerk_steps_holds
